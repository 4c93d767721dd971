import PyProof.Rows.All
import Wide.All
import OpenK.AllK
import Wide.FinOn
import Lean
import PyProof.EqAt
import PyProof.EqKinds
import PyProof.TupleCall
import PyProof.ZipIter
import PyProof.Draws
import PyProof.SumAny
import PyProof.EnumMake
import PyProof.WalkInts
import PyProof.ExcArgsOwn
import PyProof.ExcAttrAll.ValueError
import PyProof.NsDelKeeps
import KE.KTryMore
import OpenK.KOwn
import PyProof.ListMulRoad
import PyProof.FactsAll.tuple_2
import PyProof.NeKinds
import PyProof.Rows.RuleIs
import PyProof.ExcInit
import PyProof.ExcClass3
import OpenK.KCls
import PyProof.InstStoreFacts
import OpenK.KMake
import PyProof.DictRoads
import PyProof.Rows.CountFlat
import PyProof.ListRange
import PyProof.Rows.SetFrom
import PyProof.CollectStr
import PyProof.Rows.TupMore
import PyProof.AttrMissHeap
import KE.KDictOf
import PyProof.DictWalks
import KE.KSortTup
import PyProof.DictItemsLoops
import KE.KDictList
import PyProof.CallStr
import PyProof.Conv_int_bool
import PySem.Challenge.RW_lendwharf_k16_houses_refuse
set_option Elab.async false
set_option linter.all false
set_option maxRecDepth 100000
set_option maxHeartbeats 4000000
open PySem.Heap renaming get?_push_of_some -> O0, lt_size -> O5, get?_push_size -> D3, get?_update_other -> E2, size_push -> E7, get?_update_self -> F7
open List renaming getElem?_eq_some_iff -> O1, length_map -> O2, size_toArray -> O3, getElem?_eq_getElem -> O4, mem_cons_of_mem -> O6, getElem?_append_left -> O9, mem_cons_self -> D1, lookup_cons -> D4, mem_cons -> D5, mem_of_getElem? -> D6, length_cons -> D7, mem_append_right -> D8, length_append -> D9, mem_range -> E1, getElem?_append_right -> E4, getElem?_map -> E6, getElem?_set_self -> E8, mem_append_left -> E9, getElem?_set_ne -> F0, mem_append -> F1, map_append -> F2, length_set -> F4, map_cons -> F5, all_eq_true -> F6
open Nat renaming le_refl -> O7, lt_of_lt_of_le -> D0, le_of_lt -> D2, le_trans -> E3, ne_of_lt -> E5
open Bool renaming false_ne_true -> O8, and_eq_true -> F3
noncomputable section
namespace L2
open PySem PySem.Spec PyProof.Rows
abbrev Key:=Sum Int Str
def keyIs:Key->Value->Bool
  | .inl k,v=>Value.isInt k v
  | .inr x,v=>Value.isStrOf x v
def keyH (w:World):Key->Int
  | .inl k=>hashInt k
  | .inr x=>hashStr w x
theorem Zy:∀ {k:Key} {v:Value},keyIs k v=true->(∃ i t,k=Sum.inl i/\v=Value.int i t)\/(∃ x t,k=Sum.inr x/\v=Value.str x t)
  | .inl i,v,h=>by
    obtain ⟨t,e⟩:=Value.isInt_shape (k:=i) (v:=v) h
    exact .inl ⟨i,t,rfl,e⟩
  | .inr x,v,h=>by
    obtain ⟨t,e⟩:=Value.isStrOf_shape (x:=x) (v:=v) h
    exact .inr ⟨x,t,rfl,e⟩
theorem key_ll (a b:Int):decide ((Sum.inl a:Key)=Sum.inl b)=(a == b):=by
  by_cases e:a=b
  · subst e; simp
  · have h:¬ (Sum.inl a:Key)=Sum.inl b:=fun q=>e (Sum.inl.inj q)
    rw [decide_eq_false h]
    exact (beq_eq_false_iff_ne.mpr e).symm
theorem key_rr (a b:Str):decide ((Sum.inr a:Key)=Sum.inr b)=decide (a=b):=by
  by_cases e:a=b
  · subst e; simp
  · have h:¬ (Sum.inr a:Key)=Sum.inr b:=fun q=>e (Sum.inr.inj q)
    rw [decide_eq_false h,decide_eq_false e]
theorem key_lr (a:Int) (b:Str):decide ((Sum.inl a:Key)=Sum.inr b)=false:=decide_eq_false (fun q=>nomatch q)
theorem key_rl (a:Str) (b:Int):decide ((Sum.inr a:Key)=Sum.inl b)=false:=decide_eq_false (fun q=>nomatch q)
def Zr (prog:Program) (w:World):PySem.KeyKind prog w Key where
  is:=keyIs
  hash:=keyH w
  inj:=fun v a b ha hb=>by
    rcases Zy ha with ⟨i,t,rfl,rfl⟩ | ⟨x,t,rfl,rfl⟩
    · rcases Zy hb with ⟨j,u,rfl,e⟩ | ⟨y,u,rfl,e⟩
      · injection e with e1 _; rw [e1]
      · exact nomatch e
    · rcases Zy hb with ⟨j,u,rfl,e⟩ | ⟨y,u,rfl,e⟩
      · exact nomatch e
      · injection e with e1 _; rw [e1]
  byValue:=fun k v h=>by
    rcases Zy h with ⟨i,t,rfl,rfl⟩ | ⟨x,t,rfl,rfl⟩ <;> rfl
  pyHash:=fun hv h=>by
    rcases Zy hv with ⟨i,t,rfl,rfl⟩ | ⟨x,t,rfl,rfl⟩
    · exact wpAny_pyHash_int h
    · exact wpAny_pyHash_str h
  eqBool:=fun hu hv h=>by
    rcases Zy hu with ⟨i,t,rfl,rfl⟩ | ⟨x,t,rfl,rfl⟩
    · rcases Zy hv with ⟨j,u,rfl,rfl⟩ | ⟨y,u,rfl,rfl⟩
      · rw [key_ll] at h; exact wpAny_eqBool_int h
      · rw [key_lr] at h; exact SeqAt.EqAt.int_str i t y u _ _ _ _ h
    · rcases Zy hv with ⟨j,u,rfl,rfl⟩ | ⟨y,u,rfl,rfl⟩
      · rw [key_rl] at h; exact SeqAt.EqAt.str_int x t j u _ _ _ _ h
      · rw [key_rr] at h; exact wpAny_eqBool_str h
  «strs»:=fun k x t v h=>by
    rcases Zy h with ⟨i,u,rfl,e⟩ | ⟨y,u,rfl,e⟩
    · exact nomatch e
    · injection e with e1 _
      subst e1
      cases v <;> rfl
end L2
namespace L2
open PySem PySem.Spec PyProof.Rows
inductive V where
  | non | bl (b:Bool) | int (i:Int) | str (x:Str) | byt (b:Array UInt8) | flt (b:UInt64) | ref (a:Addr) | ty (n:String)
  deriving DecidableEq
def RelV:V->Value->Prop
  | .non,u=>u=Value.none
  | .bl b,u=>u=Value.bool b
  | .int i,u=>∃ t,u=Value.int i t
  | .str x,u=>∃ t,u=Value.str x t
  | .byt b,u=>∃ t,u=Value.bytes b t
  | .flt b,u=>∃ t,u=Value.float b t
  | .ref a,u=>u=Value.ref a
  | .ty n,u=>u=Value.type n
abbrev Vals:List V->List Value->Prop:=Paired RelV
theorem Vals.length {xs:List V} {us:List Value} (r:Vals xs us):xs.length=us.length:=Paired.length r
theorem Vals.get:∀ {xs:List V} {us:List Value} {i:Nat} {x:V},Vals xs us->xs[i]?=some x->∃ u,us[i]?=some u/\RelV x u
  | _,_,_,_,.nil,e=>by simp at e
  | _,_,0,_,.cons r _,e=>by simp at e; subst e; exact ⟨_,rfl,r⟩
  | _,_,i + 1,x,.cons _ t,e=>by
    obtain ⟨u,h1,h2⟩:=Vals.get (i:=i) (x:=x) t (by simpa using e)
    exact ⟨u,by simpa using h1,h2⟩
theorem Vals.set {x:V} {u:Value} (r:RelV x u):∀ {xs:List V} {us:List Value} (i:Nat),Vals xs us->Vals (xs.set i x) (us.set i u)
  | _,_,_,.nil=>.nil
  | _,_,0,.cons _ t=>.cons r t
  | _,_,i + 1,.cons q t=>.cons q (Vals.set r i t)
theorem Vals.append:∀ {xs ys:List V} {us ws:List Value},Vals xs us->Vals ys ws->Vals (xs ++ ys) (us ++ ws)
  | _,_,_,_,.nil,s=>s
  | _,_,_,_,.cons r t,s=>.cons r (Vals.append t s)
theorem Vals.take:∀ {xs:List V} {us:List Value} (n:Nat),Vals xs us->Vals (xs.take n) (us.take n)
  | _,_,0,_=>.nil
  | _,_,_ + 1,.nil=>.nil
  | _,_,n + 1,.cons r t=>.cons r (Vals.take n t)
theorem Vals.drop:∀ {xs:List V} {us:List Value} (n:Nat),Vals xs us->Vals (xs.drop n) (us.drop n)
  | _,_,0,r=>r
  | _,_,_ + 1,.nil=>.nil
  | _,_,n + 1,.cons _ t=>Vals.drop n t
def RelO:Option V->Option Value->Prop
  | some v,some u=>RelV v u
  | none,none=>True
  | _,_=>False
def KV {κ:Type}:List (κ × V)->List (κ × Value)->Prop:=Paired fun (p:κ × V) (q:κ × Value)=>p.1=q.1/\RelV p.2 q.2
def kV:Key->V
  | .inl i=>.int i
  | .inr x=>.str x
inductive HO where
  | lst (xs:List V)
  | tup (xs:List V)
  | dK (kvs:List (Key × V)) | dT (kvs:List (List Key × V))
  | set (S:Int->Bool) (n:Nat)
  | ins (C dx:Addr) (fs:List (Str × V))
  | own (x:Addr)
  | xd (fs:List (Str × V))
  | met (f x:Addr)
  | rng (lo hi:Int)
  | frz (o:Obj) (u:HO)
  | tbl (ps:Array Value)
  | ext (φ:Heap->Prop)
abbrev Hp:=Addr->Option HO
def upd (H:Hp) (a:Addr) (o:HO):Hp:=fun b=>if b=a then some o else H b
theorem Qs {H:Hp} {a:Addr} {o:HO}:upd H a o a=some o:=by unfold upd; rw [if_pos rfl]
theorem Qd {H:Hp} {a b:Addr} {o:HO} (h:b≠a):upd H a o b=H b:=by unfold upd; rw [if_neg h]
theorem Qg {H:Hp} {a b:Addr} {o:HO} (h:H a=some o) (h':H b=none):a≠b:=by
  intro e; subst e; rw [h] at h'; cases h'
section
variable (P:Program) (w:World)
def ObjOk (H:Hp) (h:Heap) (a:Addr):HO->Prop
  | .lst xs=>xs.length<=sizeLine/\∃ (its:List Value) (n:Nat),Vals xs its/\h.get? a=some { cls:=.type "list",data:=.seq its.toArray n }
  | .tup xs=>xs.length<=sizeLine/\∃ its:List Value,Vals xs its/\IsTup h a its.toArray
  | .dK kvs=>kvs.length<=sizeLine/\(a == sysModules)=false/\∃ vs,KV kvs vs/\h.DictOf (Zr P w) a vs
  | .dT kvs=>kvs.length<=sizeLine/\(a == sysModules)=false/\∃ xs:List (List Key × Addr × Value),
      Paired (fun (p:List Key × V) (q:List Key × Addr × Value)=>p.1=q.1/\H q.2.1=some (.tup (p.1.map kV))/\RelV p.2 q.2.2) kvs xs /\
      ∃ o es ep,h.get? a=some o/\o.ExactDict/\o.data=.dict es ep/\es.toList=xs.map (entryOfKey (tupleKind (Zr P w)))/\(xs.map (·.1)).Nodup
  | .set S n=>h.SetOf (intKind P w) a S n
  | .ins C dx fs=>H dx=some (.own a)/\fs.length<=1000/\dx≠a/\h.get? a=some (PySem.W.instObj C dx) /\
      ∃ mA,h.Ns1 dx mA/\(∀ f,RelO (fs.lookup f) (mA f))/\PySem.Within mA (fs.map (·.1))
  | .own _=>∃ o,h.get? a=some o
  | .xd fs=>∃ mA,h.Ns1 a mA/\∀ f,RelO (fs.lookup f) (mA f)
  | .rng lo hi=>∃ t u v,h.get? a=some { cls:=.type "range",data:=.fields #[.int lo t,.int hi u,.int 1 v] }
  | .frz o u=>h.get? a=some o/\ObjOk H h a u
  | .tbl ps=>h.get? a=some { cls:=.none,data:=.fields ps }
  | .met f x=>h.get? a=some (PySem.W.methodObj (.ref f) (.ref x))
  | .ext φ=>φ h/\(∃ o,h.get? a=some o)/\∀ h1 h2:Heap,φ h1->(∀ o,h1.get? a=some o->h2.get? a=some o)->φ h2
def HOk (H:Hp) (h:Heap):Prop:=∀ a o,H a=some o->ObjOk P w H h a o
end
section
variable {P:Program} {w:World} {H H':Hp} {h h':Heap} {a:Addr} {o:HO}
theorem ObjOk.lt (x:ObjOk P w H h a o):a < h.objs.size:=by
  cases o with
  | lst xs=>obtain ⟨_,_,_,_,e⟩:=x; exact O5 e
  | tup xs=>obtain ⟨_,_,_,p⟩:=x; exact p.lt
  | dK kvs=>obtain ⟨_,_,_,_,o,_,_,e,_⟩:=x; exact O5 e
  | dT kvs=>obtain ⟨_,_,_,_,o,_,_,e,_⟩:=x; exact O5 e
  | set S n=>obtain ⟨o,_,_,_,e,_⟩:=x; exact O5 e
  | ins C dx fs=>obtain ⟨_,_,_,e,_⟩:=x; exact O5 e
  | own y=>obtain ⟨_,e⟩:=x; exact O5 e
  | xd fs=>obtain ⟨_,⟨_,_,_,e,_⟩,_⟩:=x; exact O5 e
  | rng lo hi=>obtain ⟨_,_,_,e⟩:=x; exact O5 e
  | frz ob u=>obtain ⟨e,_⟩:=x; exact O5 e
  | tbl ps=>exact O5 (show h.get? a=some _ from x)
  | met f y=>exact O5 (show h.get? a=some _ from x)
  | ext φ=>obtain ⟨_,⟨_,e⟩,_⟩:=x; exact O5 e
theorem Paired.mapP {α β:Type} {F G:α->β->Prop}:∀ {l₁:List α} {l₂:List β},Paired F l₁ l₂->(∀ a b,F a b->G a b)->Paired G l₁ l₂
  | _,_,.nil,_=>.nil
  | _,_,.cons r t,f=>.cons (f _ _ r) (Paired.mapP t f)
theorem ObjOk.stay (x:ObjOk P w H h a o) (k:∀ b u,(b=a\/H b=some (.own a))->h.get? b=some u->h'.get? b=some u)
    (ho:∀ b,H b=some (.own a)->H' b=some (.own a)) (ht:∀ b xs,H b=some (.tup xs)->H' b=some (.tup xs)):ObjOk P w H' h' a o:=by
  induction o with
  | lst xs=>obtain ⟨z,its,n,r,e⟩:=x; exact ⟨z,its,n,r,k _ _ (.inl rfl) e⟩
  | tup xs=>obtain ⟨z,its,r,ob,e,c⟩:=x; exact ⟨z,its,r,ob,k _ _ (.inl rfl) e,c⟩
  | dK kvs=>obtain ⟨z,y,vs,r,ob,es,ep,e,c⟩:=x; exact ⟨z,y,vs,r,ob,es,ep,k _ _ (.inl rfl) e,c⟩
  | dT kvs=>
    obtain ⟨z,y,xs,r,ob,es,ep,e,c⟩:=x
    exact ⟨z,y,xs,Paired.mapP r fun p q z=>⟨z.1,ht _ _ z.2.1,z.2.2⟩,ob,es,ep,k _ _ (.inl rfl) e,c⟩
  | set S n=>obtain ⟨ob,es,ep,t,e,c⟩:=x; exact ⟨ob,es,ep,t,k _ _ (.inl rfl) e,c⟩
  | ins C dx fs=>
    obtain ⟨d,z,ne,e,mA,⟨od,es,ep,e2,c⟩,r⟩:=x
    exact ⟨ho _ d,z,ne,k _ _ (.inl rfl) e,mA,⟨od,es,ep,k _ _ (.inr d) e2,c⟩,r⟩
  | own y=>obtain ⟨ob,e⟩:=x; exact ⟨ob,k _ _ (.inl rfl) e⟩
  | xd fs=>obtain ⟨mA,⟨od,es,ep,e,c⟩,r⟩:=x; exact ⟨mA,⟨od,es,ep,k _ _ (.inl rfl) e,c⟩,r⟩
  | rng lo hi=>obtain ⟨t,u,v,e⟩:=x; exact ⟨t,u,v,k _ _ (.inl rfl) e⟩
  | frz ob u ih=>obtain ⟨e,q⟩:=x; exact ⟨k _ _ (.inl rfl) e,ih q⟩
  | tbl ps=>
    have e:h.get? a=some { cls:=.none,data:=.fields ps }:=x
    show h'.get? a=some { cls:=.none,data:=.fields ps }
    exact k a _ (.inl rfl) e
  | met f y=>
    have e:h.get? a=some (PySem.W.methodObj (.ref f) (.ref y)):=x
    show h'.get? a=some (PySem.W.methodObj (.ref f) (.ref y))
    exact k a _ (.inl rfl) e
  | ext φ=>obtain ⟨p,⟨o,e⟩,st⟩:=x; exact ⟨st _ _ p fun o q=>k _ _ (.inl rfl) q,⟨o,k _ _ (.inl rfl) e⟩,st⟩
theorem HOk.lt (x:HOk P w H h) (e:H a=some o):a < h.objs.size:=(x a o e).lt
theorem HOk.fresh (x:HOk P w H h) (e:h.objs.size<=a):H a=none:=by
  cases q:H a with
  | none=>rfl
  | some u=>exact absurd (D0 (x.lt q) e) (Nat.lt_irrefl _)
theorem HOk.kept (x:HOk P w H h) (k:∀ b u,h.get? b=some u->h'.get? b=some u):HOk P w H h':=fun a o e=>
  (x a o e).stay (fun b u _ q=>k b u q) (fun _ q=>q) fun _ _ q=>q
theorem HOk.laid (x:HOk P w H h) (k:∀ b u,h.get? b=some u->h'.get? b=some u) (hp:h.objs.size<=a) (new:ObjOk P w (upd H a o) h' a o):HOk P w (upd H a o) h':=fun b u e=>by
  have hn:=x.fresh hp
  by_cases hb:b=a
  · subst hb; rw [Qs] at e; cases e; exact new
  · rw [Qd hb] at e
    exact (x b u e).stay (fun c v _ q=>k c v q) (fun c q=>by rw [Qd (Qg q hn)]; exact q) fun c xs q=>by rw [Qd (Qg q hn)]; exact q
end
def Rd (H:Hp) (a:Addr) (u:HO):Prop:=H a=some u\/∃ o,H a=some (.frz o u)
theorem Rd.ok {P:Program} {w:World} {H:Hp} {h:Heap} {a:Addr} {u:HO} (r:Rd H a u) (x:HOk P w H h):ObjOk P w H h a u:=by
  rcases r with r | ⟨o,r⟩
  · exact x a u r
  · obtain ⟨_,q⟩:=x a _ r
    exact q
def Mut:Option HO->Prop
  | some (.lst _)=>True
  | some (.dK _)=>True
  | some (.dT _)=>True
  | some (.set _ _)=>True
  | some (.ins _ _ _)=>True
  | some (.ext _)=>True
  | _=>False
section
variable {P:Program} {w:World} {H:Hp} {h h':Heap} {x e:Addr} {o':HO}
theorem HOk.write (ok:HOk P w H h) (mu:Mut (H x)) (he:e=x\/H e=some (.own x)) (k:∀ b u,b≠e->h.get? b=some u->h'.get? b=some u) (heo:∃ u,h'.get? e=some u)
    (new:ObjOk P w (upd H x o') h' x o'):HOk P w (upd H x o') h':=fun b u q=>by
  have nown:∀ c y,H c=some (.own y)->c≠x:=fun c y r z=>by subst z; rw [r] at mu; exact mu
  have ntup:∀ c xs,H c=some (.tup xs)->c≠x:=fun c xs r z=>by subst z; rw [r] at mu; exact mu
  by_cases hb:b=x
  · subst hb; rw [Qs] at q; cases q; exact new
  · rw [Qd hb] at q
    by_cases hbe:b=e
    · have q':H b=some (.own x):=by
        rcases he with z | z
        · exact absurd (hbe.trans z) hb
        · rw [hbe]; exact z
      rw [q] at q'; cases q'
      obtain ⟨v,hv⟩:=heo
      exact ⟨v,by rw [hbe]; exact hv⟩
    · refine (ok b u q).stay (fun c v hc r=>k c v ?_ r) (fun c r=>by rw [Qd (nown c b r)]; exact r) fun c xs r=>by rw [Qd (ntup c xs r)]; exact r
      rcases hc with rfl | hc
      · exact hbe
      · rintro rfl
        rcases he with z | z
        · exact nown c b hc z
        · rw [hc] at z; cases z; exact hb rfl
end
structure Un (fs ex:List Addr) (H H':Hp) (h h':Heap):Prop where
  keep:∀ b o,h.get? b=some o->H b=none->b∉fs->b∉ex->h'.get? b=some o
  slot:∀ b o,h.get? b=some o->H b=none->b∈fs->b∉ex->∃ sl,h'.get? b=some { o with slots:=sl }
  free:∀ b o,h.get? b=some o->H b=none->b∉ex->H' b=none
  there:∀ b o,h.get? b=some o->b∉ex->∃ o',h'.get? b=some o'
  tups:∀ b xs,H b=some (.tup xs)->H' b=some (.tup xs)
  frzs:∀ b o u,H b=some (.frz o u)->H' b=some (.frz o u)
  tbls:∀ b ps,H b=some (.tbl ps)->∃ more,H' b=some (.tbl (ps ++ more))
section
variable {fs fs' ex ex':List Addr} {H H1 H2:Hp} {h h1 h2 h':Heap} {a x e:Addr} {o:HO}
theorem Un.any (u:Un fs ex H H1 h h1) {b:Addr} {ob:Obj} (q:h.get? b=some ob) (n:H b=none) (hx:b∉ex):∃ sl,h1.get? b=some { ob with slots:=sl }:=by
  by_cases hb:b∈fs
  · exact u.slot b ob q n hb hx
  · exact ⟨ob.slots,u.keep b ob q n hb hx⟩
theorem Un.kept (k:∀ b u,h.get? b=some u->h'.get? b=some u):Un fs ex H H h h':=
  ⟨fun b ob q _ _ _=>k b ob q,fun b ob q _ _ _=>⟨ob.slots,k b ob q⟩,fun _ _ _ n _=>n,fun b ob q _=>⟨ob,k b ob q⟩,fun _ _ q=>q,fun _ _ _ q=>q,fun _ ps q=>⟨#[],by rw [q]; simp⟩⟩
theorem Un.refl:Un fs ex H H h h:=Un.kept fun _ _ q=>q
theorem Un.laid (k:∀ b u,h.get? b=some u->h'.get? b=some u) (hp:h.objs.size<=a) (hn:H a=none):Un fs ex H (upd H a o) h h' where
  keep:=fun b u q _ _ _=>k b u q
  slot:=fun b u q _ _ _=>⟨u.slots,k b u q⟩
  free:=fun b u q n _=>by rw [Qd (E5 (D0 (O5 q) hp))]; exact n
  there:=fun b u q _=>⟨u,k b u q⟩
  tups:=fun b xs q=>by rw [Qd (Qg q hn)]; exact q
  frzs:=fun b u xs q=>by rw [Qd (Qg q hn)]; exact q
  tbls:=fun b ps q=>⟨#[],by rw [Qd (Qg q hn),q]; simp⟩
theorem Un.write (mu:Mut (H x)) (he:e=x\/H e=some (.own x)) (k:∀ b u,b≠e->h.get? b=some u->h'.get? b=some u) (heo:∃ u,h'.get? e=some u):Un fs ex H (upd H x o) h h':=by
  have hx:∀ b,H b=none->b≠x:=fun b n z=>by subst z; rw [n] at mu; exact mu
  have hb:∀ b,H b=none->b≠e:=fun b n z=>by
    subst z
    rcases he with r | r
    · exact hx b n r
    · rw [n] at r; cases r
  have hm:∀ b u,H b=some u->¬ Mut (some u)->b≠x:=fun b u q nm z=>by subst z; rw [q] at mu; exact nm mu
  refine ⟨fun b u q n _ _=>k b u (hb b n) q,fun b u q n _ _=>⟨u.slots,k b u (hb b n) q⟩,fun b u q n _=>by rw [Qd (hx b n)]; exact n,fun b u q _=>?_,
    fun b xs q=>by rw [Qd (hm b _ q fun z=>z)]; exact q,fun b u xs q=>by rw [Qd (hm b _ q fun z=>z)]; exact q,fun b ps q=>⟨#[],by rw [Qd (hm b _ q fun z=>z),q]; simp⟩⟩
  by_cases hbe:b=e
  · subst hbe; exact heo
  · exact ⟨u,k b u hbe q⟩
end
def trk (h:Heap) (H:Hp):List Addr:=(List.range h.objs.size).filter fun a=>(H a).isSome
def hidT (h:Heap) (H:Hp):Heap:=PySem.W.hideAll h (trk h H)
theorem hidT_size (h:Heap) (H:Hp):(hidT h H).objs.size=h.objs.size:=PySem.W.hideAll_size _ _
theorem hidT_get {h:Heap} {H:Hp} {b:Addr} {o:Obj} (e:h.get? b=some o) (n:H b=none):(hidT h H).get? b=some o:=
  PySem.W.hideAll_get _ e fun hm=>by
    have q:(H b).isSome=true:=(List.mem_filter.mp hm).2
    rw [n] at q; simp at q
theorem of_hidT {h:Heap} {H:Hp} {b:Addr} {o:Obj} (e:(hidT h H).get? b=some o):h.get? b=some o/\H b=none:=by
  have e':h.get? b=some o:=PySem.W.of_hideAll (trk h H) e
  refine ⟨e',?_⟩
  cases q:H b with
  | none=>rfl
  | some x=>
    have hm:b∈trk h H:=List.mem_filter.mpr ⟨E1.mpr (O5 e'),by simp [q]⟩
    have z:(hidT h H).get? b=none:=PySem.W.hideAll_none (trk h H) hm
    rw [z] at e; cases e
def allNews (g h:Heap) (L:Addr):List (Addr × Obj):=(List.range h.objs.size).filterMap fun a=>if a=L\/(g.get? a).isSome=true then none else (h.get? a).map fun o=>(a,o)
def rest (g h:Heap) (L d:Addr):List (Addr × Obj):=(allNews g h L).filter fun p=>decide (p.1≠d)
end L2
namespace L2
open PySem PySem.Spec PyProof.Rows
structure Mod (K:PySem.W.Frag) (mg:Str->Option Value) (base:Heap):Prop where
  kin:K.In base
  glob:base.Ns mainGlobals mg
  blt:∃ mb,base.Ns builtinsNs mb/\∀ x:Str,x≠"__name__" -> mb x=bootBuiltins x
  nolimit:base.NoLimit
structure Cx where
  prog:Program
  w:World
  K:PySem.W.Frag
  mg:Str->Option Value
  base:Heap
  A:Around
  N:List Str
  s₀:Shared
  H₀:Hp
  env:Env
  outer:List Env
  stack:List Env
  ex:List Addr
  fn:Str->Bool
  calm:Bool
  pn:List (Addr × Obj)
  xe:Value->Shared->Prop
def frs (l:List Env):List Addr:=l.filterMap (·.frame)
abbrev Cx.fs (X:Cx):List Addr:=frs X.outer
def Vis (sc:Scope) (x:Str):Prop:=sc.names.lookup x=some .local\/sc.names.lookup x=some .cell\/sc.names.lookup x=some .free
def Loc (sc:Scope) (x:Str):Prop:=sc.names.lookup x=some .local\/sc.names.lookup x=some .cell
def Look (env:Env) (h:Heap) (m:Str->Option Value) (x:Str) (u:Value):Prop:=
  (env.kindOf x=some .local/\m x=some u)\/((env.kindOf x=some .cell\/env.kindOf x=some .free)/\∃ c,env.cells.lookup x=some c/\h.IsCell c (some u))
structure Cx.Ok (X:Cx):Prop where
  mod:Mod X.K X.mg X.base
  kind:X.env.scope.kind=.function
  glob:X.env.globals=mainGlobals
  blt:X.env.builtins=builtinsNs
  above:X.s₀.heap.objs.size<=X.env.locals
  inj:∀ x y c,X.env.cells.lookup x=some c->X.env.cells.lookup y=some c->x=y
  has:∀ x,(X.env.kindOf x=some .cell\/X.env.kindOf x=some .free)->∃ c,X.env.cells.lookup x=some c
  cab:∀ x c,X.fn x=true->X.env.cells.lookup x=some c->X.s₀.heap.objs.size<=c
  hd:X.calm=true->X.A.handled=none
  frames:X.A.frames=some X.stack
  stk:X.stack=X.outer\/(X.stack=X.env :: X.outer/\X.env.frame=some X.env.locals)
  exf:∀ b∈X.ex,b≠X.env.locals/\∀ x c,X.env.cells.lookup x=some c->c≠b
  bs:∀ b o,X.base.get? b=some o->X.s₀.heap.get? b=some o/\X.H₀ b=none
  bsz:X.base.objs.size<=X.s₀.heap.objs.size
  noex:∀ b o,X.base.get? b=some o->b∉X.ex
  exfs:∀ b∈X.ex,b∉X.fs
  funs:X.s₀.heap.FunFrames X.base X.outer
  frf:∀ b∈X.fs,X.H₀ b=none
structure Inv (X:Cx) (pins:List (Addr × Obj)) (σ:List (Option V)) (H:Hp) (s:Shared):Prop where
  ok:X.Ok
  os:s.os=X.s₀.os
  bare:AllBare s.gens
  base:Un X.fs X.ex X.H₀ H X.s₀.heap s.heap
  loc:∃ m,s.heap.Ns X.env.locals m/\∀ (i:Nat) (x:Str) (v:V),X.N[i]?=some x->σ[i]?=some (some v)->Vis X.env.scope x->∃ u,RelV v u/\Look X.env s.heap m x u
  cell:∀ x c,X.env.cells.lookup x=some c->∃ v,s.heap.IsCell c v
  free:H X.env.locals=none
  freeC:∀ x c,X.env.cells.lookup x=some c->H c=none
  pin:∀ p∈X.pn ++ pins,s.heap.get? p.1=some p.2/\H p.1=none/\p.1≠X.env.locals/\p.1∉X.fs/\∀ v,p.2.data≠.cell v
  hok:HOk X.prog X.w H s.heap
  len:σ.length=X.N.length
section
variable {X:Cx} {pins:List (Addr × Obj)} {σ:List (Option V)} {H H':Hp} {s:Shared} {h':Heap}
theorem Cx.Ok.nofr (ok:X.Ok) {b:Addr} {o:Obj} (e:X.base.get? b=some o):b∉X.fs:=fun hb=>by
  have:=(ok.funs.mem hb).1
  rw [e] at this; cases this
theorem Inv.bs (I:Inv X pins σ H s):∀ b o,X.base.get? b=some o->s.heap.get? b=some o/\H b=none:=fun b o e=>
  ⟨I.base.keep b o (I.ok.bs b o e).1 (I.ok.bs b o e).2 (I.ok.nofr e) (I.ok.noex b o e),I.base.free b o (I.ok.bs b o e).1 (I.ok.bs b o e).2 (I.ok.noex b o e)⟩
theorem Inv.bk (I:Inv X pins σ H s):∀ b o,X.base.get? b=some o->s.heap.get? b=some o:=fun b o e=>(I.bs b o e).1
theorem Inv.mod (I:Inv X pins σ H s):Mod X.K X.mg X.base:=I.ok.mod
theorem Inv.kIn (I:Inv X pins σ H s):X.K.In s.heap:=I.ok.mod.kin.keeps I.bk
theorem Inv.lt (I:Inv X pins σ H s):X.env.locals < s.heap.objs.size:=let ⟨_,hn,_⟩:=I.loc; hn.lt
theorem Inv.sz (I:Inv X pins σ H s):X.s₀.heap.objs.size<=s.heap.objs.size:=E3 I.ok.above (D2 I.lt)
theorem Inv.nofs (I:Inv X pins σ H s) {a:Addr} (h:s.heap.objs.size<=a):a∉X.fs:=fun hb=>by
  obtain ⟨_,o,ho,_⟩:=I.ok.funs.mem hb
  exact absurd (D0 (O5 ho) (E3 I.sz h)) (Nat.lt_irrefl _)
theorem Inv.cne (I:Inv X pins σ H s):∀ x c,X.env.cells.lookup x=some c->c≠X.env.locals:=fun x c e z=>by
  obtain ⟨v,o,ho,hd⟩:=I.cell x c e
  obtain ⟨m,⟨o',es,ep,ho',hd',_⟩,_⟩:=I.loc
  rw [z,ho'] at ho; cases ho; rw [hd'] at hd; cases hd
theorem Inv.funs (I:Inv X pins σ H s):s.heap.FunFrames X.base X.outer:=by
  have all:∀ (l:List Env),(∀ b∈frs l,b∈X.fs)->X.s₀.heap.FunFrames X.base l->s.heap.FunFrames X.base l:=by
    intro l
    induction l with
    | nil=>intro _ _; trivial
    | cons env r ih=>
      intro hs hl
      obtain ⟨hk,⟨L,o,hf,hn,ho,hd⟩,hr⟩:=hl
      have hL:L∈X.fs:=hs L (by unfold frs; rw [List.filterMap_cons,hf]; exact D1)
      obtain ⟨sl,e⟩:=I.base.slot L o ho (I.ok.frf L hL) hL fun z=>I.ok.exfs L z hL
      exact ⟨hk,⟨L,_,hf,hn,e,hd⟩,ih (fun b hb=>hs b (by unfold frs; rw [List.filterMap_cons,hf]; exact O6 _ hb)) hr⟩
  exact all X.outer (fun _ hb=>hb) I.ok.funs
theorem Inv.stack (I:Inv X pins σ H s):s.heap.FunFrames X.base X.stack:=by
  rcases I.ok.stk with e | ⟨e,hf⟩
  · rw [e]; exact I.funs
  · rw [e]
    obtain ⟨m,hn,_⟩:=I.loc
    refine .cons (by rw [I.ok.kind]; decide) hf hn ?_ I.funs
    exact Heap.get?_none_of_le (E3 I.ok.bsz I.ok.above)
theorem Inv.stkSub (I:Inv X pins σ H s):∀ b∈frs X.stack,b∈X.env.locals :: X.fs:=fun b hb=>by
  rcases I.ok.stk with e | ⟨e,hf⟩
  · rw [e] at hb; exact O6 _ hb
  · rw [e] at hb
    unfold frs at hb
    rw [List.filterMap_cons,hf] at hb
    exact hb
theorem Inv.stkFree (I:Inv X pins σ H s):∀ b∈frs X.stack,H b=none:=fun b hb=>by
  rcases D5.mp (I.stkSub b hb) with e | hb
  · rw [e]; exact I.free
  · obtain ⟨_,o,ho,_⟩:=I.ok.funs.mem hb
    exact I.base.free b o ho (I.ok.frf b hb) fun z=>I.ok.exfs b z hb
theorem Inv.step {g':Array GenState} {t':Nat} {d':Drawn} {ch:List Addr} (I:Inv X pins σ H s)
    (hch:∀ b∈ch,(b∈X.ex\/X.s₀.heap.objs.size<=b)/\b≠X.env.locals/\(∀ x c,X.env.cells.lookup x=some c->c≠b)/\∀ p∈X.pn ++ pins,p.1≠b)
    (keep:∀ b o,b≠X.env.locals->b∉X.fs->b∉ch->s.heap.get? b=some o->H b=none->h'.get? b=some o)
    (slot:∀ b o,b≠X.env.locals->b∈X.fs->b∉ch->s.heap.get? b=some o->H b=none->∃ sl,h'.get? b=some { o with slots:=sl }) (free:∀ b o,b∉ch->s.heap.get? b=some o->H b=none->H' b=none)
    (there:∀ b o,b∉ch->s.heap.get? b=some o->∃ o',h'.get? b=some o')
    (tups:∀ b xs,H b=some (.tup xs)->H' b=some (.tup xs)) (frzs:∀ b o u,H b=some (.frz o u)->H' b=some (.frz o u)) (tbls:∀ b ps,H b=some (.tbl ps)->∃ more,H' b=some (.tbl (ps ++ more)))
    (ns:∀ m,s.heap.Ns X.env.locals m->h'.Ns X.env.locals m) (hok:HOk X.prog X.w H' h') (hg:AllBare g') :
    Inv X pins σ H' { s with heap:=h',gens:=g',drawn:=d',toks:=t' }:=by
  have neL:∀ b o,X.s₀.heap.get? b=some o->b≠X.env.locals:=fun b o e=>E5 (D0 (O5 e) I.ok.above)
  have neC:∀ b o,X.s₀.heap.get? b=some o->b∉X.ex->b∉ch:=fun b o e hx hb=>by
    rcases (hch b hb).1 with z | z
    · exact hx z
    · exact absurd (D0 (O5 e) z) (Nat.lt_irrefl _)
  have cellK:∀ x c,X.env.cells.lookup x=some c->∀ v,s.heap.IsCell c v->h'.IsCell c v:=fun x c e v ⟨o,ho,hd⟩=>by
    have nch:c∉ch:=fun z=>(hch c z).2.2.1 x c e rfl
    by_cases hc:c∈X.fs
    · obtain ⟨sl,q⟩:=slot c o (I.cne x c e) hc nch ho (I.freeC x c e)
      exact ⟨_,q,hd⟩
    · exact ⟨o,keep c o (I.cne x c e) hc nch ho (I.freeC x c e),hd⟩
  refine ⟨I.ok,I.os,hg,⟨fun b o e n hb hx=>?_,fun b o e n hb hx=>?_,fun b o e n hx=>?_,fun b o e hx=>?_,fun b xs e=>tups b xs (I.base.tups b xs e),fun b o xs e=>frzs b o xs (I.base.frzs b o xs e),fun b ps e=>?_⟩,?_,fun x c e=>?_,?_,fun x c e=>?_,fun p hp=>?_,hok,I.len⟩
  · exact keep b o (neL b o e) hb (neC b o e hx) (I.base.keep b o e n hb hx) (I.base.free b o e n hx)
  · obtain ⟨sl,e1⟩:=I.base.slot b o e n hb hx
    obtain ⟨sl',e2⟩:=slot b _ (neL b o e) hb (neC b o e hx) e1 (I.base.free b o e n hx)
    exact ⟨sl',e2⟩
  · obtain ⟨o',e1⟩:=I.base.there b o e hx
    exact free b o' (neC b o e hx) e1 (I.base.free b o e n hx)
  · obtain ⟨o',e1⟩:=I.base.there b o e hx
    exact there b o' (neC b o e hx) e1
  · obtain ⟨m1,e1⟩:=I.base.tbls b ps e
    obtain ⟨m2,e2⟩:=tbls b _ e1
    exact ⟨m1 ++ m2,by rw [e2,Array.append_assoc]⟩
  · obtain ⟨m,hn,hl⟩:=I.loc
    refine ⟨m,ns m hn,fun i x v e1 e2 e3=>?_⟩
    obtain ⟨u,r,l⟩:=hl i x v e1 e2 e3
    refine ⟨u,r,?_⟩
    rcases l with l | ⟨k,c,e,z⟩
    · exact .inl l
    · exact .inr ⟨k,c,e,cellK x c e _ z⟩
  · obtain ⟨v,z⟩:=I.cell x c e
    exact ⟨v,cellK x c e v z⟩
  · obtain ⟨m,⟨o,_,_,ho,_⟩,_⟩:=I.loc
    exact free _ o (fun z=>(hch _ z).2.1 rfl) ho I.free
  · obtain ⟨v,o,ho,hd⟩:=I.cell x c e
    exact free c o (fun z=>(hch c z).2.2.1 x c e rfl) ho (I.freeC x c e)
  · obtain ⟨e,n,ne,nf,d⟩:=I.pin p hp
    have nch:p.1∉ch:=fun z=>(hch p.1 z).2.2.2 p hp rfl
    exact ⟨keep p.1 p.2 ne nf nch e n,free p.1 p.2 nch e n,ne,nf,d⟩
theorem Inv.un {t':Nat} (I:Inv X pins σ H s) (u:Un X.fs [] H H' s.heap h') (hok:HOk X.prog X.w H' h'):Inv X pins σ H' { s with heap:=h',toks:=t' }:=by
  obtain ⟨m,⟨o,es,ep,ho,r⟩,_⟩:=id I.loc
  obtain ⟨sl,hL⟩:=u.any ho I.free (by simp)
  exact I.step (g':=s.gens) (d':=s.drawn) (ch:=[]) (fun _ z=>nomatch z) (fun b o _ hb _ e n=>u.keep b o e n hb (by simp)) (fun b o _ hb _ e n=>u.slot b o e n hb (by simp)) (fun b o _ e n=>u.free b o e n (by simp)) (fun b o _ e=>u.there b o e (by simp)) u.tups u.frzs u.tbls (fun m' hm=>by
    obtain ⟨o',es',ep',ho',r'⟩:=hm
    rw [ho] at ho'; cases ho'
    exact ⟨_,es',ep',hL,r'⟩) hok I.bare
theorem Inv.call {g':Array GenState} {t':Nat} {d':Drawn} {ch:List Addr} (I:Inv X pins σ H s) (u:Un (frs X.stack) ch H H' s.heap h') (hok:HOk X.prog X.w H' h') (hg:AllBare g')
    (hch:∀ b∈ch,(b∈X.ex\/X.s₀.heap.objs.size<=b)/\b≠X.env.locals/\(∀ x c,X.env.cells.lookup x=some c->c≠b)/\∀ p∈X.pn ++ pins,p.1≠b) :
    Inv X pins σ H' { s with heap:=h',gens:=g',drawn:=d',toks:=t' }:=by
  obtain ⟨m,⟨o,es,ep,ho,r⟩,_⟩:=id I.loc
  obtain ⟨sl,hL⟩:=u.any ho I.free fun z=>(hch _ z).2.1 rfl
  exact I.step (ch:=ch) hch (fun b o hL hb hc e n=>u.keep b o e n (fun z=>(D5.mp (I.stkSub b z)).elim hL hb) hc) (fun b o _ _ hc e n=>u.any e n hc) (fun b o hc e n=>u.free b o e n hc) (fun b o hc e=>u.there b o e hc) u.tups u.frzs u.tbls (fun m' hm=>by
    obtain ⟨o',es',ep',ho',r'⟩:=hm
    rw [ho] at ho'; cases ho'
    exact ⟨_,es',ep',hL,r'⟩) hok hg
theorem Inv.turned {t':Nat} {it:Addr} (I:Inv X pins σ H s) (k:∀ b o,b≠it->s.heap.get? b=some o->h'.get? b=some o) (hn:H it=none) (hL:it≠X.env.locals)
    (h1:it∈X.ex\/X.s₀.heap.objs.size<=it) (h2:∀ x c,X.env.cells.lookup x=some c->c≠it) (h3:∀ p∈X.pn ++ pins,p.1≠it):Inv X pins σ H { s with heap:=h',toks:=t' }:=by
  have nit:∀ b u,H b=some u->b≠it:=fun b u e z=>by rw [z,hn] at e; cases e
  refine I.step (g':=s.gens) (d':=s.drawn) (ch:=[it]) (fun b hb=>?_) (fun b o _ _ hc e _=>k b o (fun z=>hc (by simp [z])) e) (fun b o _ _ hc e _=>⟨o.slots,k b o (fun z=>hc (by simp [z])) e⟩) (fun _ _ _ _ n=>n)
    (fun b o hc e=>⟨o,k b o (fun z=>hc (by simp [z])) e⟩) (fun _ _ e=>e) (fun _ _ _ e=>e) (fun b ps e=>⟨#[],by rw [e]; simp⟩) (fun m hm=>?_) (fun b u e=>?_) I.bare
  · have e:b=it:=by simpa using hb
    subst e
    exact ⟨h1,hL,h2,h3⟩
  · obtain ⟨o,es,ep,ho,r⟩:=hm
    exact ⟨o,es,ep,k _ o (Ne.symm hL) ho,r⟩
  · refine (I.hok b u e).stay (fun c v hc q=>k c v ?_ q) (fun _ q=>q) fun _ _ q=>q
    rcases hc with z | z
    · rw [z]; exact nit b u e
    · exact nit c _ z
theorem Inv.tok (I:Inv X pins σ H s) (t:Nat):Inv X pins σ H { s with toks:=t }:=I.un (h':=s.heap) (t':=t) Un.refl I.hok
theorem Inv.kept {t':Nat} (I:Inv X pins σ H s) (k:∀ b u,s.heap.get? b=some u->h'.get? b=some u):Inv X pins σ H { s with heap:=h',toks:=t' }:=I.un (Un.kept k) (I.hok.kept k)
theorem Inv.laid {a:Addr} {o:HO} {t':Nat} (I:Inv X pins σ H s) (k:∀ b u,s.heap.get? b=some u->h'.get? b=some u) (hp:s.heap.objs.size<=a) (new:ObjOk X.prog X.w (upd H a o) h' a o) :
    Inv X pins σ (upd H a o) { s with heap:=h',toks:=t' }:=I.un (Un.laid k hp (I.hok.fresh hp)) (I.hok.laid k hp new)
theorem Inv.write {x e:Addr} {o:HO} {t':Nat} (I:Inv X pins σ H s) (mu:Mut (H x)) (he:e=x\/H e=some (.own x)) (k:∀ b u,b≠e->s.heap.get? b=some u->h'.get? b=some u) (heo:∃ u,h'.get? e=some u)
    (new:ObjOk X.prog X.w (upd H x o) h' x o):Inv X pins σ (upd H x o) { s with heap:=h',toks:=t' }:=I.un (Un.write mu he k heo) (I.hok.write mu he k heo new)
theorem Inv.pins_of {pins':List (Addr × Obj)} (I:Inv X pins σ H s) (h:∀ p∈pins',s.heap.get? p.1=some p.2/\H p.1=none/\p.1≠X.env.locals/\p.1∉X.fs/\∀ v,p.2.data≠.cell v):Inv X pins' σ H s:=
  ⟨I.ok,I.os,I.bare,I.base,I.loc,I.cell,I.free,I.freeC,fun p hp=>(F1.mp hp).elim (fun z=>I.pin p (E9 _ z)) (h p),I.hok,I.len⟩
theorem nodup_ix {N:List Str} (hN:N.Nodup) {i j:Nat} {x:Str} (a:N[i]?=some x) (b:N[j]?=some x):i=j:=by
  obtain ⟨h1,e1⟩:=O1.mp a
  obtain ⟨h2,e2⟩:=O1.mp b
  exact (List.getElem_inj hN).mp (e1.trans e2.symm)
theorem store_ok2 {M:Model} {A:Around} {E:Value->Shared->Prop} {i:Nat} {x:Str} {v:V} {u:Value} {Q:Unit->Shared->Prop} (I:Inv X pins σ H s) (hN:X.N.Nodup) (hi:X.N[i]?=some x) (hx:Loc X.env.scope x) (r:RelV v u)
    (h:∀ s',Inv X pins (σ.set i (some v)) H s'->(∃ a,Heap.SameBut a s.heap s'.heap/\(a=X.env.locals\/X.env.cells.lookup x=some a))->Q () s') (hf:X.fn x=true\/X.env.scope.names.lookup x=some .local:=by first | exact .inl rfl | exact .inr rfl | assumption):wpAny M A (storeName X.env x u) Q E s:=by
  obtain ⟨m,hn,hl⟩:=id I.loc
  have hcls:(X.env.scope.kind == .class || (X.env.scope.kind == .module && X.env.locals != X.env.globals))=false:=by rw [I.ok.kind]; rfl
  have hiσ:i < σ.length:=by rw [I.len]; exact (O1.mp hi).1
  have cne:=I.cne
  have tracked:∀ {a:Addr} {h':Heap},(∃ o,s.heap.get? a=some o/\H a=none)->Heap.SameBut a s.heap h'->HOk X.prog X.w H h':=fun {a h'} ha hs b ob e=>by
    obtain ⟨_,_,hfree⟩:=ha
    refine (I.hok b ob e).stay (fun c w' hc q=>(hs.2 c ?_).trans q) (fun _ q=>q) fun _ _ q=>q
    rintro rfl
    rcases hc with rfl | hc
    · rw [hfree] at e; cases e
    · rw [hfree] at hc; cases hc
  rcases hx with hk | hk
  · refine wpAny_storeName_local hk hn (fun h' hn' hs=>?_) hcls
    obtain ⟨oL,_,_,hoL,_⟩:=id hn
    refine h _ ⟨I.ok,I.os,I.bare,⟨fun b o e n hb hx=>?_,fun b o e n hb hx=>?_,I.base.free,fun b o e hx=>?_,I.base.tups,I.base.frzs,I.base.tbls⟩,⟨_,hn',fun j y v' e1 e2 e3=>?_⟩,fun y c e=>?_,I.free,I.freeC,fun p hp=>?_,tracked ⟨oL,hoL,I.free⟩ hs,by simpa using I.len⟩ ⟨_,hs,.inl rfl⟩
    · exact (hs.2 b (E5 (D0 (O5 e) I.ok.above))).trans (I.base.keep b o e n hb hx)
    · obtain ⟨sl,e1⟩:=I.base.slot b o e n hb hx
      exact ⟨sl,(hs.2 b (E5 (D0 (O5 e) I.ok.above))).trans e1⟩
    · obtain ⟨o',e1⟩:=I.base.there b o e hx
      exact ⟨o',(hs.2 b (E5 (D0 (O5 e) I.ok.above))).trans e1⟩
    · by_cases hj:j=i
      · subst hj
        rw [hi] at e1; cases e1
        rw [E8 hiσ] at e2
        cases e2
        exact ⟨u,r,.inl ⟨hk,by simp⟩⟩
      · rw [F0 (Ne.symm hj)] at e2
        obtain ⟨u',r',q⟩:=hl j y v' e1 e2 e3
        refine ⟨u',r',?_⟩
        rcases q with ⟨k,e⟩ | ⟨k,c,e,z⟩
        · refine .inl ⟨k,?_⟩
          have:y≠x:=fun e=>hj (nodup_ix hN e1 (e ▸ hi))
          simp [this,e]
        · exact .inr ⟨k,c,e,z.sameBut hs (cne y c e)⟩
    · obtain ⟨w',z⟩:=I.cell y c e
      exact ⟨w',z.sameBut hs (cne y c e)⟩
    · obtain ⟨e,n,ne,nf,d⟩:=I.pin p hp
      exact ⟨(hs.2 p.1 ne).trans e,n,ne,nf,d⟩
  · have hfn:X.fn x=true:=by
      rcases hf with z | z
      · exact z
      · rw [z] at hk; cases hk
    obtain ⟨c,hc⟩:=I.ok.has x (.inl hk)
    obtain ⟨w',z⟩:=I.cell x c hc
    refine wpAny_storeName_cell I.ok.kind hk hc z (fun h' hc' hs=>?_)
    obtain ⟨oc,hoc,hocd⟩:=id z
    refine h { s with heap:=h' } ⟨I.ok,I.os,I.bare,⟨fun b o e n hb hx=>?_,fun b o e n hb hx=>?_,I.base.free,fun b o e hx=>?_,I.base.tups,I.base.frzs,I.base.tbls⟩,⟨m,hn.sameBut hs (Ne.symm (cne x c hc)),fun j y v' e1 e2 e3=>?_⟩,fun y c' e=>?_,I.free,I.freeC,fun p hp=>?_,tracked ⟨oc,hoc,I.freeC x c hc⟩ hs,by simpa using I.len⟩ ⟨c,hs,.inr hc⟩
    · exact (hs.2 b (E5 (D0 (O5 e) (I.ok.cab x c hfn hc)))).trans (I.base.keep b o e n hb hx)
    · obtain ⟨sl,e1⟩:=I.base.slot b o e n hb hx
      exact ⟨sl,(hs.2 b (E5 (D0 (O5 e) (I.ok.cab x c hfn hc)))).trans e1⟩
    · obtain ⟨o',e1⟩:=I.base.there b o e hx
      exact ⟨o',(hs.2 b (E5 (D0 (O5 e) (I.ok.cab x c hfn hc)))).trans e1⟩
    · by_cases hj:j=i
      · subst hj
        rw [hi] at e1; cases e1
        rw [E8 hiσ] at e2
        cases e2
        exact ⟨u,r,.inr ⟨.inl hk,c,hc,hc'⟩⟩
      · rw [F0 (Ne.symm hj)] at e2
        obtain ⟨u',r',q⟩:=hl j y v' e1 e2 e3
        refine ⟨u',r',?_⟩
        rcases q with q | ⟨k,c',e,z'⟩
        · exact .inl q
        · refine .inr ⟨k,c',e,z'.sameBut hs ?_⟩
          rintro rfl
          exact hj (nodup_ix hN e1 (I.ok.inj _ _ _ e hc ▸ hi))
    · by_cases hcc:c'=c
      · subst hcc; exact ⟨_,hc'⟩
      · obtain ⟨w2,z2⟩:=I.cell y c' e
        exact ⟨w2,z2.sameBut hs hcc⟩
    · obtain ⟨e,n,ne,nf,d⟩:=I.pin p hp
      refine ⟨(hs.2 p.1 ?_).trans e,n,ne,nf,d⟩
      intro q
      rw [q,hoc] at e
      have q':oc=p.2:=Option.some.inj e
      exact d w' (by rw [<- q']; exact hocd)
theorem store_ok {M:Model} {A:Around} {E:Value->Shared->Prop} {i:Nat} {x:Str} {v:V} {u:Value} {Q:Unit->Shared->Prop} (I:Inv X pins σ H s) (hN:X.N.Nodup) (hi:X.N[i]?=some x) (hx:Loc X.env.scope x) (r:RelV v u)
    (h:∀ s',Inv X pins (σ.set i (some v)) H s'->Q () s') (hf:X.fn x=true\/X.env.scope.names.lookup x=some .local:=by first | exact .inl rfl | exact .inr rfl | assumption):wpAny M A (storeName X.env x u) Q E s:=
  store_ok2 I hN hi hx r (fun s' I' _=>h s' I') hf
theorem Inv.call' {s':Shared} {ch:List Addr} (I:Inv X pins σ H s) (ho:s'.os=s.os) (u:Un (frs X.stack) ch H H' s.heap s'.heap) (hok:HOk X.prog X.w H' s'.heap) (hg:AllBare s'.gens)
    (hch:∀ b∈ch,(b∈X.ex\/X.s₀.heap.objs.size<=b)/\b≠X.env.locals/\(∀ x c,X.env.cells.lookup x=some c->c≠b)/\∀ p∈X.pn ++ pins,p.1≠b):Inv X pins σ H' s':=by
  obtain ⟨h',g',d',t',o'⟩:=s'
  have e:o'=s.os:=ho
  subst e
  exact I.call (g':=g') (t':=t') (d':=d') u hok hg hch
end
abbrev XK:=Value->Option Addr->Hp->Prop
abbrev St:=List (Option V)
abbrev VK:=V->Hp->Prop
abbrev TE:=St->Hp->VK->Prop
abbrev TT:=St->Hp->(Bool->Hp->Prop)->Prop
abbrev TA:=St->Hp->(List V->Hp->Prop)->Prop
structure Ends where
  nx:St->Hp->Prop
  rt:VK
  bk:St->Hp->Prop:=fun _ _=>False
  ct:St->Hp->Prop:=fun _ _=>False
abbrev TS:=Ends->St->Hp->Prop
def EP (X:Cx) (pins:List (Addr × Obj)) (σ:St) (Q:VK) (u:Value) (s':Shared):Prop:=∃ v H',Inv X pins σ H' s'/\RelV v u/\Q v H'
def TP (X:Cx) (pins:List (Addr × Obj)) (σ:St) (Q:Bool->Hp->Prop) (b:Bool) (s':Shared):Prop:=∃ H',Inv X pins σ H' s'/\Q b H'
def AP (X:Cx) (pins:List (Addr × Obj)) (σ:St) (Q:List V->Hp->Prop) (us:List Value) (s':Shared):Prop:=∃ vs H',Inv X pins σ H' s'/\Vals vs us/\Q vs H'
def SP (X:Cx) (pins:List (Addr × Obj)) (D:Ends) (f:Flow) (s':Shared):Prop:=
  match f with
  | .next=>∃ σ' H',Inv X pins σ' H' s'/\D.nx σ' H'
  | .brk=>∃ σ' H',Inv X pins σ' H' s'/\D.bk σ' H'
  | .cont=>∃ σ' H',Inv X pins σ' H' s'/\D.ct σ' H'
  | .ret u=>∃ v σ' H',Inv X pins σ' H' s'/\RelV v u/\D.rt v H'
def PE (X:Cx) (e:Expr) (t:TE):Prop:=
  ∀ (pins:List (Addr × Obj)) (s:Shared) (σ:St) (H:Hp) (Q:VK),Inv X pins σ H s->t σ H Q->wpAny (model X.prog X.w) X.A (eval e X.env) (EP X pins σ Q) X.xe s
def PT (X:Cx) (e:Expr) (t:TT):Prop:=
  ∀ (pins:List (Addr × Obj)) (s:Shared) (σ:St) (H:Hp) (Q:Bool->Hp->Prop),Inv X pins σ H s->t σ H Q->wpAny (model X.prog X.w) X.A (isTrue e X.env (eval e X.env)) (TP X pins σ Q) X.xe s
def PW (X:Cx) (e:Expr) (t:TT):Prop:=
  ∀ (whole:Sem Value) (pins:List (Addr × Obj)) (s:Shared) (σ:St) (H:Hp) (Q:Bool->Hp->Prop),Inv X pins σ H s->t σ H Q->wpAny (model X.prog X.w) X.A (isTrue e X.env whole) (TP X pins σ Q) X.xe s
theorem PW.pt {X:Cx} {e:Expr} {t:TT} (h:PW X e t):PT X e t:=h _
def PA (X:Cx) (es:List Expr) (t:TA):Prop:=
  ∀ (pos:Pos) (pins:List (Addr × Obj)) (s:Shared) (σ:St) (H:Hp) (Q:List V->Hp->Prop),Inv X pins σ H s->t σ H Q->wpAny (model X.prog X.w) X.A (spliced (backTo pos (starEach es X.env))) (AP X pins σ Q) X.xe s
def PS (X:Cx) (st:Stmt) (t:TS):Prop:=
  ∀ (pins:List (Addr × Obj)) (s:Shared) (σ:St) (H:Hp) (D:Ends),Inv X pins σ H s->t D σ H->wpAny (model X.prog X.w) X.A (exec st X.env) (SP X pins D) X.xe s
def PSs (X:Cx) (st:List Stmt) (t:TS):Prop:=
  ∀ (pins:List (Addr × Obj)) (s:Shared) (σ:St) (H:Hp) (D:Ends),Inv X pins σ H s->t D σ H->wpAny (model X.prog X.w) X.A (execs st X.env) (SP X pins D) X.xe s
theorem thn {α:Type} {t:Sem α} {Q Q':α->Shared->Prop} {M:Model} {A:Around} {E:Value->Shared->Prop} {s:Shared} (h:wpAny M A t Q E s) (hQ:∀ a s,Q a s->Q' a s):wpAny M A t Q' E s:=wpAny_mono h hQ fun _ _ x=>x
end L2
namespace L2
open PySem PySem.Spec PyProof.Rows
section
variable {X:Cx}
def tVar (i:Nat):TE:=fun σ H Q=>∃ v,σ[i]?=some (some v)/\Q v H
def tC (v:V):TE:=fun _ H Q=>Q v H
theorem pe_var {i:Nat} {x:Str} {pos:Pos} (hN:X.N[i]?=some x) (hv:Vis X.env.scope x) (hd:(x == ("__debug__" : Str))=false:=by decide) (hcd:(x == ("__classdict__" : Str))=false:=by decide):PE X (.Name x pos) (tVar i):=by
  intro pins s σ H Q I h
  obtain ⟨v,e,h⟩:=h
  obtain ⟨m,hn,hl⟩:=I.loc
  obtain ⟨u,r,l⟩:=hl i x v hN e hv
  have fin:EP X pins σ Q u s:=⟨v,H,I,r,h⟩
  rcases l with ⟨hk,hm⟩ | ⟨hk,c,hc,hcell⟩
  · exact wpAny_Name (wpAny_loadName_local I.ok.kind hk hn hm fin) hd
  · rcases hk with hk | hk
    · exact wpAny_Name (wpAny_loadName_cell I.ok.kind hk hc hcell fin) hd
    · exact wpAny_Name (wpAny_loadName_free I.ok.kind hk hc hcell fin hcd) hd
theorem pe_int {i j pos}:PE X (.Constant (.int i) j pos) (tC (.int i)):=fun _ _ _ H _ I h=>wpAny_Constant_int ⟨.int i,H,I.tok _,⟨_,rfl⟩,h⟩
theorem pe_bl {b j pos}:PE X (.Constant (.bool b) j pos) (tC (.bl b)):=fun _ _ _ H _ I h=>Constant_bool ⟨.bl b,H,I,rfl,h⟩
theorem pe_non {j pos}:PE X (.Constant .none j pos) (tC .non):=fun _ _ _ H _ I h=>Constant_none ⟨.non,H,I,rfl,h⟩
theorem pe_str {x j pos}:PE X (.Constant (.str x) j pos) (tC (.str x)):=fun _ _ _ H _ I h=>Calls.Constant_str ⟨.str x,H,I.tok _,⟨_,rfl⟩,h⟩
def Gl (X:Cx) (x:Str):Prop:=X.env.kindOf x=some .globalImplicit
theorem ld_glob {E:Value->Shared->Prop} {pins:List (Addr × Obj)} {s:Shared} {σ:St} {H:Hp} {x:Str} {u:Value} {pos:Pos} {Q:Value->Shared->Prop} (I:Inv X pins σ H s) (hg:Gl X x) (hm:X.mg x=some u) (h:Q u s)
    (hd:(x == ("__debug__" : Str))=false:=by decide):wpAny (model X.prog X.w) X.A (eval (.Name x pos) X.env) Q E s:=
  Calls.Name_function_global I.ok.kind hg (Calls.loadGlobal_global (by rw [I.ok.glob]; exact I.mod.glob.keeps I.bk) hm h) hd
theorem ld_blt {E:Value->Shared->Prop} {pins:List (Addr × Obj)} {s:Shared} {σ:St} {H:Hp} {x:Str} {u:Value} {pos:Pos} {Q:Value->Shared->Prop} (I:Inv X pins σ H s) (hg:Gl X x) (hm:X.mg x=none) (hv:bootBuiltins x=some u) (h:Q u s)
    (hn:x≠"__name__" := by decide) (hd:(x == ("__debug__" : Str))=false:=by decide):wpAny (model X.prog X.w) X.A (eval (.Name x pos) X.env) Q E s:=by
  obtain ⟨mb,h1,h2⟩:=I.mod.blt
  exact Calls.Name_function_global I.ok.kind hg (Calls.loadGlobal_builtin (by rw [I.ok.glob]; exact I.mod.glob.keeps I.bk) hm (by rw [I.ok.blt]; exact h1.keeps I.bk) ((h2 x hn).trans hv) h) hd
theorem Y7 {x:Str} {v:V} {u:Value} {pos:Pos} (hg:Gl X x) (hm:X.mg x=some u) (r:RelV v u) (hd:(x == ("__debug__" : Str))=false:=by decide):PE X (.Name x pos) (tC v):=
  fun _ _ _ H _ I h=>ld_glob I hg hm ⟨v,H,I,r,h⟩ hd
theorem pe_bltn {x:Str} {v:V} {u:Value} {pos:Pos} (hg:Gl X x) (hm:X.mg x=none) (hv:bootBuiltins x=some u) (r:RelV v u) (hn:x≠"__name__" := by decide) (hd:(x == ("__debug__" : Str))=false:=by decide):PE X (.Name x pos) (tC v):=
  fun _ _ _ H _ I h=>ld_blt I hg hm hv ⟨v,H,I,r,h⟩ hn hd
variable {a b:Expr} {ta tb:TE} {pos:Pos}
def tB (t:TE):TT:=fun σ H Q=>t σ H fun x H1=>∃ c,x=.bl c/\Q c H1
theorem pt_val {e:Expr} {t:TE} (h:PE X e t) (he:∀ whole,isTrue e X.env whole=(do let v <- whole; standAt e.pos; holding [v] (truthy v)):=by intro _; rfl):PT X e (tB t):=by
  intro pins s σ H Q I hw
  refine isTrue_plain (thn (h pins s σ H _ I hw) fun v s1 ⟨x,H1,I1,r1,q1⟩=>?_) (he _)
  obtain ⟨d,rfl,q⟩:=q1
  cases r1
  exact wpAny_truthy_bool ⟨H1,I1,q⟩
variable {tA tB':TT} {rest:List Expr}
def tAnd (t u:TT):TT:=fun σ H Q=>t σ H fun c H1=>if c=true then u σ H1 Q else Q false H1
def tOr (t u:TT):TT:=fun σ H Q=>t σ H fun c H1=>if c=true then Q true H1 else u σ H1 Q
def tNot (t:TT):TT:=fun σ H Q=>t σ H fun c H1=>Q (!c) H1
theorem pw_and1 (ha:PT X a tA):PW X (.BoolOp .And [a] pos) tA:=by
  intro wh pins s σ H Q I h
  refine isTrue_and (thn (ha pins s σ H Q I h) fun c s1 e=>?_)
  cases c with
  | true=>exact isTrue_and_nil e
  | false=>exact e
theorem pw_or1 (ha:PT X a tA):PW X (.BoolOp .Or [a] pos) tA:=by
  intro wh pins s σ H Q I h
  refine isTrue_or (thn (ha pins s σ H Q I h) fun c s1 e=>?_)
  cases c with
  | false=>exact isTrue_or_nil e
  | true=>exact e
theorem pw_and (ha:PT X a tA) (hb:PW X (.BoolOp .And (b :: rest) pos) tB'):PW X (.BoolOp .And (a :: b :: rest) pos) (tAnd tA tB'):=by
  intro wh pins s σ H Q I h
  refine isTrue_and (thn (ha pins s σ H _ I h) fun c s1 ⟨H1,I1,q1⟩=>?_)
  cases c with
  | true=>exact hb wh pins s1 σ H1 Q I1 q1
  | false=>exact ⟨H1,I1,q1⟩
theorem pw_or (ha:PT X a tA) (hb:PW X (.BoolOp .Or (b :: rest) pos) tB'):PW X (.BoolOp .Or (a :: b :: rest) pos) (tOr tA tB'):=by
  intro wh pins s σ H Q I h
  refine isTrue_or (thn (ha pins s σ H _ I h) fun c s1 ⟨H1,I1,q1⟩=>?_)
  cases c with
  | true=>exact ⟨H1,I1,q1⟩
  | false=>exact hb wh pins s1 σ H1 Q I1 q1
theorem pt_not (ha:PT X a tA):PT X (.UnaryOp .Not a pos) (tNot tA):=by
  intro pins s σ H Q I h
  exact isTrue_not (ha pins s σ H (fun c H1=>Q (!c) H1) I h)
def tAndV (ta tb:TE):TE:=fun σ H Q=>ta σ H fun x H1=>∃ c,x=.bl c/\if c=true then tb σ H1 Q else Q (.bl false) H1
def tOrV (ta tb:TE):TE:=fun σ H Q=>ta σ H fun x H1=>∃ c,x=.bl c/\if c=true then Q (.bl true) H1 else tb σ H1 Q
def tNotV (ta:TE):TE:=fun σ H Q=>ta σ H fun x H1=>∃ c,x=.bl c/\Q (.bl (!c)) H1
theorem pe_one {op} {t:TE} (h:PE X a t):PE X (.BoolOp op [a] pos) t:=fun pins s σ H Q I hw=>BoolOp_one (h pins s σ H Q I hw)
theorem pe_and (ha:PE X a ta) (hb:PE X (.BoolOp .And (b :: rest) pos) tb):PE X (.BoolOp .And (a :: b :: rest) pos) (tAndV ta tb):=by
  intro pins s σ H Q I h
  refine BoolOp_and (thn (ha pins s σ H _ I h) fun v s1 ⟨x,H1,I1,r1,q1⟩=>?_)
  obtain ⟨c,rfl,q1⟩:=q1
  cases r1
  refine wpAny_truthy_bool ?_
  cases c with
  | true=>exact hb pins s1 σ H1 Q I1 q1
  | false=>exact ⟨.bl false,H1,I1,rfl,q1⟩
theorem pe_or (ha:PE X a ta) (hb:PE X (.BoolOp .Or (b :: rest) pos) tb):PE X (.BoolOp .Or (a :: b :: rest) pos) (tOrV ta tb):=by
  intro pins s σ H Q I h
  refine BoolOp_or (thn (ha pins s σ H _ I h) fun v s1 ⟨x,H1,I1,r1,q1⟩=>?_)
  obtain ⟨c,rfl,q1⟩:=q1
  cases r1
  refine wpAny_truthy_bool ?_
  cases c with
  | false=>exact hb pins s1 σ H1 Q I1 q1
  | true=>exact ⟨.bl true,H1,I1,rfl,q1⟩
theorem pe_not (ha:PE X a ta):PE X (.UnaryOp .Not a pos) (tNotV ta):=by
  intro pins s σ H Q I h
  refine UnaryOp_ (thn (ha pins s σ H _ I h) fun v s1 ⟨x,H1,I1,r1,q1⟩=>?_)
  obtain ⟨c,rfl,q1⟩:=q1
  cases r1
  exact not_of (wpAny_truthy_bool ⟨.bl (!c),H1,I1,rfl,q1⟩)
end
end L2
namespace L2
open PySem PySem.Spec PyProof.Rows
def SqL (K:PySem.W.Frag) (H:Hp) (a:Addr) (xs:List V):Prop:=
  Rd H a (.lst xs) \/
    ∃ (o:Obj) (its:Array Value) (n:Nat),K.lookup a=some o/\o.cls=.type "list" /\ o.dict=none/\o.data=.seq its n/\its.size<=sizeLine/\Vals xs its.toList
def SqT (K:PySem.W.Frag) (H:Hp) (a:Addr) (xs:List V):Prop:=
  Rd H a (.tup xs) \/
    ∃ (o:Obj) (its:Array Value) (n:Nat),K.lookup a=some o/\o.cls=.type "tuple" /\ o.data=.seq its n/\its.size<=sizeLine/\Vals xs its.toList
def absV:Value->Option V
  | .none=>some .non
  | .bool b=>some (.bl b)
  | .int i _=>some (.int i)
  | .str x _=>some (.str x)
  | .bytes b _=>some (.byt b)
  | .float b _=>some (.flt b)
  | .ref a=>some (.ref a)
  | .type n=>some (.ty n)
  | _=>none
theorem RelV.abs {x:V} {u:Value} (r:RelV x u):absV u=some x:=by
  cases x with
  | non=>cases r; rfl
  | bl _=>cases r; rfl
  | int _=>obtain ⟨t,rfl⟩:=r; rfl
  | str _=>obtain ⟨t,rfl⟩:=r; rfl
  | byt _=>obtain ⟨t,rfl⟩:=r; rfl
  | flt _=>obtain ⟨t,rfl⟩:=r; rfl
  | ref _=>cases r; rfl
  | ty _=>cases r; rfl
theorem RelV.inj {x y:V} {u:Value} (r:RelV x u) (q:RelV y u):x=y:=Option.some.inj (r.abs.symm.trans q.abs)
theorem Vals.inj:∀ {xs ys:List V} {us:List Value},Vals xs us->Vals ys us->xs=ys
  | _,_,_,.nil,.nil=>rfl
  | _,_,_,.cons r t,.cons r' t'=>by rw [r.inj r',Vals.inj t t']
section
variable {X:Cx} {pins:List (Addr × Obj)} {σ:St} {H:Hp} {s:Shared} {a:Addr} {xs ys:List V}
theorem SqL.of {K:PySem.W.Frag} (h:H a=some (.lst xs)):SqL K H a xs:=.inl (.inl h)
theorem SqT.of {K:PySem.W.Frag} (h:H a=some (.tup xs)):SqT K H a xs:=.inl (.inl h)
theorem Inv.list (I:Inv X pins σ H s) (h:SqL X.K H a xs):∃ its:List Value,Vals xs its/\PlainL s.heap a its.toArray/\xs.length<=sizeLine:=by
  rcases h with h | ⟨o,its,n,hk,hc,hd,hs,hz,r⟩
  · obtain ⟨z,its,n,r,e⟩:=h.ok I.hok
    exact ⟨its,r,⟨_,n,e,rfl,rfl,rfl⟩,z⟩
  · refine ⟨its.toList,r,⟨o,n,I.kIn a o hk,hc,hd,by simpa using hs⟩,?_⟩
    have e:=r.length
    simp only [Array.length_toList] at e
    omega
theorem Inv.tuple (I:Inv X pins σ H s) (h:SqT X.K H a xs):∃ its:List Value,Vals xs its/\IsTup s.heap a its.toArray/\xs.length<=sizeLine:=by
  rcases h with h | ⟨o,its,n,hk,hc,hs,hz,r⟩
  · obtain ⟨z,its,r,p⟩:=h.ok I.hok
    exact ⟨its,r,p,z⟩
  · refine ⟨its.toList,r,⟨o,I.kIn a o hk,hc,n,by simpa using hs⟩,?_⟩
    have e:=r.length
    simp only [Array.length_toList] at e
    omega
theorem Inv.list_inj (I:Inv X pins σ H s) (h:SqL X.K H a xs) (h':SqL X.K H a ys):xs=ys:=by
  obtain ⟨its,r,⟨o,n,e,_,_,d⟩,_⟩:=I.list h
  obtain ⟨its',r',⟨o',n',e',_,_,d'⟩,_⟩:=I.list h'
  rw [e] at e'; cases e'
  rw [d] at d'
  injection d' with d1 _
  have:its=its':=by simpa using congrArg Array.toList d1
  subst this
  exact r.inj r'
theorem Inv.tuple_inj (I:Inv X pins σ H s) (h:SqT X.K H a xs) (h':SqT X.K H a ys):xs=ys:=by
  obtain ⟨its,r,⟨o,e,_,n,d⟩,_⟩:=I.tuple h
  obtain ⟨its',r',⟨o',e',_,n',d'⟩,_⟩:=I.tuple h'
  rw [e] at e'; cases e'
  rw [d] at d'
  injection d' with d1 _
  have:its=its':=by simpa using congrArg Array.toList d1
  subst this
  exact r.inj r'
end
abbrev Cx.wish (X:Cx) (E:Value->Shared->Prop):Cx:={ X with xe:=E }
abbrev Cx.nox (X:Cx):Cx:=X.wish fun _ _=>False
theorem Cx.Ok.wish {X:Cx} (ok:X.Ok) (E:Value->Shared->Prop):(X.wish E).Ok:=
  ⟨ok.mod,ok.kind,ok.glob,ok.blt,ok.above,ok.inj,ok.has,ok.cab,ok.hd,ok.frames,ok.stk,ok.exf,ok.bs,ok.bsz,ok.noex,ok.exfs,ok.funs,ok.frf⟩
theorem Cx.Ok.unwish {X:Cx} {E:Value->Shared->Prop} (ok:(X.wish E).Ok):X.Ok:=
  ⟨ok.mod,ok.kind,ok.glob,ok.blt,ok.above,ok.inj,ok.has,ok.cab,ok.hd,ok.frames,ok.stk,ok.exf,ok.bs,ok.bsz,ok.noex,ok.exfs,ok.funs,ok.frf⟩
section
variable {X:Cx} {pins:List (Addr × Obj)} {σ:St} {H:Hp} {s:Shared} {E:Value->Shared->Prop}
theorem Inv.wish (I:Inv X pins σ H s) (E:Value->Shared->Prop):Inv (X.wish E) pins σ H s:=⟨I.ok.wish E,I.os,I.bare,I.base,I.loc,I.cell,I.free,I.freeC,I.pin,I.hok,I.len⟩
theorem Inv.unwish (I:Inv (X.wish E) pins σ H s):Inv X pins σ H s:=⟨I.ok.unwish,I.os,I.bare,I.base,I.loc,I.cell,I.free,I.freeC,I.pin,I.hok,I.len⟩
theorem SP.unwish {D:Ends} {f:Flow} {s':Shared} (h:SP (X.wish E) pins D f s'):SP X pins D f s':=by
  cases f with
  | next=>obtain ⟨σ',H',I,q⟩:=h; exact ⟨σ',H',I.unwish,q⟩
  | brk=>obtain ⟨σ',H',I,q⟩:=h; exact ⟨σ',H',I.unwish,q⟩
  | cont=>obtain ⟨σ',H',I,q⟩:=h; exact ⟨σ',H',I.unwish,q⟩
  | ret u=>obtain ⟨v,σ',H',I,r,q⟩:=h; exact ⟨v,σ',H',I.unwish,r,q⟩
theorem PSs.nox {st:List Stmt} {t:TS} (h:PSs X.nox st t):PSs X st t:=fun pins s σ H D I hw=>
  wpAny_mono (h pins s σ H D (I.wish _) hw) (fun _ _ q=>q.unwish) fun _ _ z=>False.elim z
end
section
variable {X:Cx} {st:Stmt} {rest:List Stmt} {t u:TS} {e:Expr} {te:TE} {pos:Pos}
def tNext:TS:=fun D σ H=>D.nx σ H
def tSeq (t u:TS):TS:=fun D σ H=>t { D with nx:=u D } σ H
theorem pss_nil:PSs X [] tNext:=fun _ _ σ H _ I h=>wpAny_execs_nil ⟨σ,H,I,h⟩
theorem pss_cons (h1:PS X st t) (h2:PSs X rest u):PSs X (st :: rest) (tSeq t u):=by
  intro pins s σ H D I h
  refine wpAny_execs_cons (thn (h1 pins s σ H { D with nx:=u D } I h) fun f s1 q=>?_)
  cases f with
  | next=>
    obtain ⟨σ',H',I',q⟩:=q
    exact h2 pins s1 σ' H' D I' q
  | ret v=>exact q
  | brk=>exact q
  | cont=>exact q
theorem pss_one (h1:PS X st t):PSs X [st] t:=by
  intro pins s σ H D I h
  refine wpAny_execs_cons (thn (h1 pins s σ H D I h) fun f s1 q=>?_)
  cases f with
  | next=>exact wpAny_execs_nil q
  | ret v=>exact q
  | brk=>exact q
  | cont=>exact q
theorem ps_pass:PS X (.Pass pos) tNext:=fun _ _ σ H _ I h=>wpAny_Pass ⟨σ,H,I,h⟩
theorem Inv.quiet {pins:List (Addr × Obj)} {σ:St} {H:Hp} {s:Shared} (I:Inv X pins σ H s):interactive X.env=false:=by simp [interactive,I.ok.kind]
def tDrop (te:TE):TS:=fun D σ H=>te σ H fun _ H1=>D.nx σ H1
theorem ps_expr (he:PE X e te) (hs:swapsWith e none pos.line X.env=pure false:=by rfl):PS X (.Expr e pos) (tDrop te):=by
  intro pins s σ H D I h
  exact wpAny_Expr_any (thn (he pins s σ H _ I h) fun v s1 ⟨x,H1,I1,r1,q1⟩=>⟨σ,H1,I1,q1⟩) I.quiet hs
def tRet (te:TE):TS:=fun D σ H=>te σ H D.rt
theorem ps_ret (he:PE X e te):PS X (.Return (some e) pos) (tRet te):=by
  intro pins s σ H D I h
  exact wpAny_Return_some (thn (he pins s σ H _ I h) fun v s1 ⟨x,H1,I1,r1,q1⟩=>⟨x,σ,H1,I1,r1,q1⟩)
def tIfS (c:TT) (t u:TS):TS:=fun D σ H=>c σ H fun b H1=>if b=true then t D σ H1 else u D σ H1
theorem ps_if {c:Expr} {a b:List Stmt} {tc:TT} (hc:PT X c tc) (ha:PSs X a t) (hb:PSs X b u):PS X (.If c a b pos) (tIfS tc t u):=by
  intro pins s σ H D I h
  refine wpAny_If (thn (hc pins s σ H _ I h) fun d s1 ⟨H1,I1,q1⟩=>?_)
  cases d with
  | true=>exact ha pins s1 σ H1 D I1 q1
  | false=>exact hb pins s1 σ H1 D I1 q1
end
abbrev TG:=V->St->Hp->(St->Hp->Prop)->Prop
abbrev TGs:=List V->St->Hp->(St->Hp->Prop)->Prop
def PG (X:Cx) (target:Expr) (t:TG):Prop:=
  ∀ (pins:List (Addr × Obj)) (s:Shared) (σ:St) (H:Hp) (v:V) (u:Value) (Q:St->Hp->Prop),Inv X pins σ H s->RelV v u->t v σ H Q ->
    wpAny (model X.prog X.w) X.A (assign target X.env u) (fun _ s'=>∃ σ' H',Inv X pins σ' H' s'/\Q σ' H') X.xe s
def PGs (X:Cx) (ts:List Expr) (t:TGs):Prop:=
  ∀ (pins:List (Addr × Obj)) (s:Shared) (σ:St) (H:Hp) (vs:List V) (us:List Value) (Q:St->Hp->Prop),Inv X pins σ H s->Vals vs us->t vs σ H Q ->
    wpAny (model X.prog X.w) X.A (assignInOrder ((assignEach ts X.env).map (·.2)) us) (fun _ s'=>∃ σ' H',Inv X pins σ' H' s'/\Q σ' H') X.xe s
abbrev TSet:=V->V->V->Hp->(Hp->Prop)->Prop
def PSet (X:Cx) (t:TSet):Prop:=
  ∀ (pins:List (Addr × Obj)) (s:Shared) (σ:St) (H:Hp) (o i v:V) (ov iv u:Value) (Q:Hp->Prop),Inv X pins σ H s->RelV o ov->RelV i iv->RelV v u->t o i v H Q ->
    wpAny (model X.prog X.w) X.A (setItem ov iv u) (fun _ s'=>∃ H',Inv X pins σ H' s'/\Q H') X.xe s
section
variable {X:Cx} {pos:Pos}
def gName (i:Nat):TG:=fun v σ H Q=>Q (σ.set i (some v)) H
theorem pg_name {i:Nat} {x:Str} (hN:X.N.Nodup) (hi:X.N[i]?=some x) (hx:Loc X.env.scope x) (hf:X.fn x=true\/X.env.scope.names.lookup x=some .local:=by first | exact .inl rfl | exact .inr rfl | assumption):PG X (.Name x pos) (gName i):=by
  intro pins s σ H v u Q I r h
  exact wpAny_assign_Name (store_ok I hN hi hx r (fun s' I'=>⟨_,H,I',h⟩) hf)
def gNil:TGs:=fun vs σ H Q=>vs=[]/\Q σ H
def gCons (t:TG) (u:TGs):TGs:=fun vs σ H Q=>∃ v r,vs=v :: r/\t v σ H fun σ' H'=>u r σ' H' Q
theorem pgs_nil:PGs X [] gNil:=by
  intro pins s σ H vs us Q I r h
  obtain ⟨e,h⟩:=h
  subst e
  cases r
  exact assignInOrder_nil ⟨σ,H,I,h⟩
theorem pgs_cons {e:Expr} {es:List Expr} {t:TG} {u:TGs} (h1:PG X e t) (h2:PGs X es u)
    (hs:(assignEach (e :: es) X.env).map (·.2)=assign e X.env :: (assignEach es X.env).map (·.2):=by rfl):PGs X (e :: es) (gCons t u):=by
  intro pins s σ H vs us Q I r h
  obtain ⟨v,vr,e1,h⟩:=h
  subst e1
  cases r with
  | cons r rr=>
    rw [hs]
    refine assignInOrder_cons (thn (h1 pins s σ H _ _ _ I r h) fun _ s1 ⟨σ1,H1,I1,q1⟩=>?_)
    exact h2 pins s1 σ1 H1 _ _ Q I1 rr q1
def gTup (K:PySem.W.Frag) (n:Nat) (t:TGs):TG:=fun v σ H Q=>∃ a xs,v=.ref a/\SqT K H a xs/\xs.length=n/\t xs σ H Q
theorem pg_tup {es:List Expr} {k:Nat} {t:TGs} {n:Nat} (hc:X.calm=true) (h:PGs X es t)
    (hn:(assignEach es X.env).length=n:=by rfl) (hst:(assignEach es X.env).findIdx? (·.1)=none:=by rfl):PG X (.Tuple es k pos) (gTup X.K n t):=by
  intro pins s σ H v u Q I r hw
  obtain ⟨a,xs,e1,hq,hl,hw⟩:=hw
  subst e1
  cases r
  obtain ⟨its,rv,ht,hz⟩:=I.tuple hq
  refine assign_Tuple_tuple (I.ok.hd hc) ht (by simp [hn,<- hl,rv.length]) hst fun h' hx=>?_
  have I1:Inv X pins σ H { s with heap:=h' }:=I.kept (t':=s.toks) fun b o e=>hx b o (E5 (O5 e)) e
  exact h pins _ σ H xs _ Q I1 (by simpa using rv) hw
def gSub (to ti:TE) (t:TSet):TG:=fun v σ H Q=>to σ H fun o H1=>ti σ H1 fun i H2=>t o i v H2 fun H3=>Q σ H3
theorem pg_sub {o i:Expr} {to ti:TE} {t:TSet} (ho:PE X o to) (hi:PE X i ti) (hs:PSet X t)
    (ha:∀ v,assign (.Subscript o i pos) X.env v=(do
      let ov <- holding [v] (eval o X.env)
      let iv <- holding [v,ov] (eval i X.env)
      standAt pos
      holding [v,ov,iv] (setItem ov iv v)
      release [v,ov,iv] []):=by intro _; rfl):PG X (.Subscript o i pos) (gSub to ti t):=by
  intro pins s σ H v u Q I r h
  rw [ha]
  refine wpAny_bind (wpAny_holding (thn (ho pins s σ H _ I h) fun ov s1 ⟨x,H1,I1,r1,q1⟩=>?_))
  refine wpAny_bind (wpAny_holding (thn (hi pins s1 σ H1 _ I1 q1) fun iv s2 ⟨y,H2,I2,r2,q2⟩=>?_))
  refine wpAny_bind (wpAny_standAt (wpAny_bind (wpAny_holding (thn (hs pins s2 σ H2 x y v ov iv u _ I2 r1 r2 r q2) fun _ s3 ⟨H3,I3,q3⟩=>?_))))
  exact wpAny_release ⟨σ,H3,I3,q3⟩
def tAsg (te:TE) (g:TG):TS:=fun D σ H=>te σ H fun x H1=>g x σ H1 D.nx
theorem ps_asg {tg e:Expr} {te:TE} {g:TG} (he:PE X e te) (hg:PG X tg g) (hs:swapsWithSole [tg] e pos.line X.env=pure false:=by rfl) (hw:swappedStores [tg] e X.env=pure none:=by rfl)
    (h1:(assignEach [tg] X.env).map (·.2)=[assign tg X.env]:=by rfl):PS X (.Assign [tg] e pos) (tAsg te g):=by
  intro pins s σ H D I h
  refine wpAny_Assign_stores (thn (he pins s σ H _ I h) fun v s1 ⟨x,H1,I1,r1,q1⟩=>?_) hs hw
  rw [h1]
  exact thn (hg pins s1 σ H1 x v _ I1 r1 q1) fun _ s2 q=>q
theorem ps_set {i:Nat} {x:Str} {e:Expr} {te:TE} {pos':Pos} (hN:X.N.Nodup) (hi:X.N[i]?=some x) (hx:Loc X.env.scope x) (he:PE X e te) (hs:swapsWith e (some (.Name x pos')) pos.line X.env=pure false:=by rfl) (hf:X.fn x=true\/X.env.scope.names.lookup x=some .local:=by first | exact .inl rfl | exact .inr rfl | assumption) :
    PS X (.Assign [.Name x pos'] e pos) (tAsg te (gName i)):=by
  intro pins s σ H D I h
  refine wpAny_Assign_Name (thn (he pins s σ H _ I h) fun v s1 ⟨y,H1,I1,r1,q1⟩=>?_) hs
  exact store_ok I1 hN hi hx r1 (fun s2 I2=>⟨_,H1,I2,q1⟩) hf
end
section
variable {X:Cx} {pos:Pos}
def tWhile (c:TT) (tb:TS):TS:=fun D σ H=>∃ W:Nat->St->Hp->Prop,(∃ m,W m σ H)/\∀ m σ H,W m σ H ->
  c σ H fun b H1=>if b=true then ∃ N:St->Hp->Prop,(∀ σ' H',N σ' H'->∃ m',m' < m/\W m' σ' H')/\tb { D with nx:=N,ct:=N,bk:=D.nx } σ H1 else D.nx σ H1
theorem ps_while {c:Expr} {body:List Stmt} {tc:TT} {tb:TS} (hp:PassesOwn (model X.prog X.w) X.A X.env X.xe) (hc:PT X c tc) (hb:PSs X body tb):PS X (.While c body [] pos) (tWhile tc tb):=by
  intro pins s σ H D I h
  obtain ⟨W,⟨m0,w0⟩,turn⟩:=h
  refine wpAny_While (codeAny_whileLoop (fun n s'=>∃ σ' H',Inv X pins σ' H' s'/\W n σ' H') ?_ m0 ⟨σ,H,I,w0⟩)
  rintro n s1 ⟨σ1,H1,I1,w1⟩
  refine wpAny_passesOwn hp (thn (hc pins s1 σ1 H1 _ I1 (turn n σ1 H1 w1)) fun b s2 ⟨H2,I2,q2⟩=>?_)
  cases b with
  | true=>
    obtain ⟨N,hN,q2⟩:=q2
    rw [if_pos rfl]
    refine wpAny_passesOwn hp (thn (hb pins s2 σ1 H2 _ I2 q2) fun f s3 q3=>?_)
    cases f with
    | next=>
      obtain ⟨σ3,H3,I3,n3⟩:=q3
      obtain ⟨m',hm,w3⟩:=hN σ3 H3 n3
      exact ⟨m',hm,σ3,H3,I3,w3⟩
    | cont=>
      obtain ⟨σ3,H3,I3,n3⟩:=q3
      obtain ⟨m',hm,w3⟩:=hN σ3 H3 n3
      exact ⟨m',hm,σ3,H3,I3,w3⟩
    | brk=>exact q3
    | ret v=>exact q3
  | false=>
    rw [if_neg O8]
    exact wpAny_execs_nil ⟨σ1,H2,I2,q2⟩
end
structure It where
  go:Nat->Hp->Prop
  yld:Nat->Hp->V->Hp->Prop
  stop:Nat->Hp->Prop
def FpOk (X:Cx) (pins:List (Addr × Obj)) (H:Hp) (b:Addr):Prop:=
  H b=none/\b≠X.env.locals/\b∉X.fs/\(b∈X.ex\/X.s₀.heap.objs.size<=b)/\(∀ x c,X.env.cells.lookup x=some c->c≠b)/\∀ p∈X.pn ++ pins,p.1≠b
theorem Inv.fpOk {X:Cx} {pins:List (Addr × Obj)} {σ:St} {H H':Hp} {s:Shared} {b:Addr} (I:Inv X pins σ H s) (hb:s.heap.objs.size<=b) (hn:H' b=none):FpOk X pins H' b:=by
  refine ⟨hn,Nat.ne_of_gt (D0 I.lt hb),I.nofs hb,.inr (E3 I.sz hb),fun x c e z=>?_,fun p hp z=>?_⟩
  · obtain ⟨v,q⟩:=I.cell x c e
    exact absurd (D0 q.lt (by rw [z]; exact hb)) (Nat.lt_irrefl _)
  · exact absurd (D0 (O5 (I.pin p hp).1) (by rw [z]; exact hb)) (Nat.lt_irrefl _)
structure Turn (P:Program) (w:World) (K:PySem.W.Frag) (tg:Expr) (J:It) (fp:List Addr) (it:Addr) (tn:Nat->Heap->Prop):Prop where
  mem:it∈fp
  obj:∀ i h,tn i h->∀ b∈fp,∃ o,h.get? b=some o/\∀ v,o.data≠.cell v
  keep:∀ i h h',tn i h->(∀ b∈fp,∀ o,h.get? b=some o->h'.get? b=some o)->tn i h'
  item:∀ (X:Cx),X.prog=P->X.w=w->X.K=K->X.calm=true->∀ (i:Nat) (pins:List (Addr × Obj)) (s:Shared) (σ:St) (H:Hp) (E:Value->Shared->Prop),Inv X pins σ H s->(∀ b∈fp,FpOk X pins H b)->tn i s.heap->J.go i H ->
    wpAny (model P w) X.A (pyNext (.ref it)) (fun r s1=>∃ u,r=some u /\
      wpAny (model P w) X.A (letOwnedTupleGo tg (.ref it) u) (fun _ s2=>∃ x H',Inv X pins σ H' s2/\RelV x u/\J.yld i H x H'/\tn (i + 1) s2.heap/\∀ b∈fp,H' b=none) E s1) E s
  done:∀ (X:Cx),X.prog=P->X.w=w->X.K=K->X.calm=true->∀ (i:Nat) (pins:List (Addr × Obj)) (s:Shared) (σ:St) (H:Hp) (E:Value->Shared->Prop),Inv X pins σ H s->(∀ b∈fp,FpOk X pins H b)->tn i s.heap->J.stop i H ->
    wpAny (model P w) X.A (pyNext (.ref it)) (fun r s1=>r=none/\Inv X pins σ H s1) E s
  self:∀ (A:Around) (i:Nat) (s:Shared) (Q:Value->Shared->Prop) (E:Value->Shared->Prop),tn i s.heap->Q (.ref it) s->wpAny (model P w) A (pyIter (.ref it)) Q E s
abbrev TI:=St->Hp->(It->Hp->Prop)->Prop
def PIE (X:Cx) (pins:List (Addr × Obj)) (σ:St) (tg:Expr) (R:It->Hp->Prop) (itv:Value) (s2:Shared):Prop:=
  ∃ (it:Addr) (fp:List Addr) (tn:Nat->Heap->Prop) (J:It) (H':Hp),itv=.ref it/\Inv X pins σ H' s2/\Turn X.prog X.w X.K tg J fp it tn/\tn 0 s2.heap/\(∀ b∈fp,FpOk X pins H' b)/\R J H'
def PI (X:Cx) (tg iter:Expr) (wi:TI):Prop:=
  ∀ (pins:List (Addr × Obj)) (s:Shared) (σ:St) (H:Hp) (R:It->Hp->Prop),Inv X pins σ H s->wi σ H R ->
    wpAny (model X.prog X.w) X.A (eval iter X.env) (fun v s1=>wpAny (model X.prog X.w) X.A (pyIter v) (PIE X pins σ tg R) X.xe s1) X.xe s
theorem go_of {M:Model} {A:Around} {E:Value->Shared->Prop} {s:Shared} {tg:Expr} {it:Addr} {u:Value} {o:Obj} {n:String} {vs:Array Value} {Q:Unit->Shared->Prop} (ho:s.heap.get? it=some o) (hc:o.cls=.type n) (hd:o.data=.fields vs)
    (hn:["enumerate", "zip", "dict_itemiterator", "dict_reverseitemiterator", "odict_iterator", "itertools.zip_longest", "itertools.pairwise"].contains n=false) (hQ:Q () s):wpAny M A (letOwnedTupleGo tg (.ref it) u) Q E s:=by
  unfold letOwnedTupleGo
  cases tg <;> first
    | exact wpAny_pure hQ
    | (cases u <;> first
        | exact wpAny_pure hQ
        | (refine wpAny_bind (wpAny_load ho ?_)
           rw [hc,hd]
           show wpAny M A (if (["enumerate", "zip", "dict_itemiterator", "dict_reverseitemiterator", "odict_iterator", "itertools.zip_longest", "itertools.pairwise"].contains n && vs[0]? == some (rawInt _))=true then _ else _) Q E s
           rw [if_neg (by intro h; rw [hn,Bool.false_and] at h; cases h)]
           exact wpAny_pure hQ))
def Itl (K:PySem.W.Frag) (a:Addr):It:=
  ⟨fun i H=>∃ xs x,SqL K H a xs/\xs[i]?=some x,fun i H x H'=>H'=H/\∀ xs,SqL K H a xs->xs[i]?=some x,fun i H=>∃ xs,SqL K H a xs/\xs.length<=i⟩
def Itt (K:PySem.W.Frag) (a:Addr):It:=
  ⟨fun i H=>∃ xs x,SqT K H a xs/\xs[i]?=some x,fun i H x H'=>H'=H/\∀ xs,SqT K H a xs->xs[i]?=some x,fun i H=>∃ xs,SqT K H a xs/\xs.length<=i⟩
def Itr (lo:Int) (n:Nat):It:=⟨fun i _=>i < n,fun i H x H'=>H'=H/\x=.int (lo + i),fun i _=>n<=i⟩
theorem turn_list {P:Program} {w:World} {K:PySem.W.Frag} {tg:Expr} (a it:Addr):Turn P w K tg (Itl K a) [it] it (fun i h=>h.IsListIter it a i) where
  mem:=by simp
  obj:=fun i h st b hb=>by
    have e:b=it:=by simpa using hb
    subst e
    obtain ⟨o,e,c,d⟩:=st
    exact ⟨o,e,fun v z=>by rw [d] at z; cases z⟩
  keep:=fun i h h' st k=>st.at fun o e=>k it (by simp) o e
  item:=by
    intro X hP hw hK hc i pins s σ H E I hf st hg
    subst hP hw hK
    obtain ⟨xs,x,hq,hx⟩:=hg
    obtain ⟨its,rv,p,hz⟩:=I.list hq
    obtain ⟨u,hu,ru⟩:=rv.get hx
    obtain ⟨f0,f1,f2,f3,f4,f5⟩:=hf it (by simp)
    refine wpAny_pyNext_list_item st p.isList (x:=u) (by simpa using hu) fun h' st' sb=>?_
    have I1:Inv X pins σ H { s with heap:=h' }:=I.turned (t':=s.toks) (fun b o hb e=>(sb.2 b hb).trans e) f0 f1 f3 f4 f5
    obtain ⟨o,e,c,d⟩:=id st'
    exact ⟨u,rfl,go_of (s:={ s with heap:=h' }) e c d (by decide) ⟨x,H,I1,ru,⟨rfl,fun ys hy=>by rw [I.list_inj hy hq]; exact hx⟩,st',fun b hb=>(hf b hb).1⟩⟩
  done:=by
    intro X hP hw hK hc i pins s σ H E I hf st hg
    subst hP hw hK
    obtain ⟨xs,hq,hx⟩:=hg
    obtain ⟨its,rv,p,hz⟩:=I.list hq
    obtain ⟨f0,f1,f2,f3,f4,f5⟩:=hf it (by simp)
    have hl:=rv.length
    exact wpAny_pyNext_list_end (I.ok.hd hc) st p.isList (by simp; omega) fun h' eb=>⟨rfl,I.turned (t':=s.toks) (fun b o hb e=>eb b o hb e) f0 f1 f3 f4 f5⟩
  self:=fun _ _ _ _ _ st h=>wpAny_pyIter_listiter st h
theorem turn_tuple {P:Program} {w:World} {K:PySem.W.Frag} {tg:Expr} (a it:Addr):Turn P w K tg (Itt K a) [it] it (fun i h=>h.IsTupleIter it a i) where
  mem:=by simp
  obj:=fun i h st b hb=>by
    have e:b=it:=by simpa using hb
    subst e
    obtain ⟨o,e,c,d⟩:=st
    exact ⟨o,e,fun v z=>by rw [d] at z; cases z⟩
  keep:=fun i h h' st k=>st.at fun o e=>k it (by simp) o e
  item:=by
    intro X hP hw hK hc i pins s σ H E I hf st hg
    subst hP hw hK
    obtain ⟨xs,x,hq,hx⟩:=hg
    obtain ⟨its,rv,p,hz⟩:=I.tuple hq
    obtain ⟨u,hu,ru⟩:=rv.get hx
    obtain ⟨f0,f1,f2,f3,f4,f5⟩:=hf it (by simp)
    refine wpAny_pyNext_tuple_item st (show s.heap.IsTuple a its.toArray from p) (x:=u) (by simpa using hu) fun h' st' sb=>?_
    have I1:Inv X pins σ H { s with heap:=h' }:=I.turned (t':=s.toks) (fun b o hb e=>(sb.2 b hb).trans e) f0 f1 f3 f4 f5
    obtain ⟨o,e,c,d⟩:=id st'
    exact ⟨u,rfl,go_of (s:={ s with heap:=h' }) e c d (by decide) ⟨x,H,I1,ru,⟨rfl,fun ys hy=>by rw [I.tuple_inj hy hq]; exact hx⟩,st',fun b hb=>(hf b hb).1⟩⟩
  done:=by
    intro X hP hw hK hc i pins s σ H E I hf st hg
    subst hP hw hK
    obtain ⟨xs,hq,hx⟩:=hg
    obtain ⟨its,rv,p,hz⟩:=I.tuple hq
    obtain ⟨f0,f1,f2,f3,f4,f5⟩:=hf it (by simp)
    have hl:=rv.length
    exact wpAny_pyNext_tuple_end (I.ok.hd hc) st (show s.heap.IsTuple a its.toArray from p) (by simp; omega) fun h' eb=>⟨rfl,I.turned (t':=s.toks) (fun b o hb e=>eb b o hb e) f0 f1 f3 f4 f5⟩
  self:=fun _ _ _ _ _ st h=>wpAny_pyIter_tupleiter st h
theorem turn_range {P:Program} {w:World} {K:PySem.W.Frag} {tg:Expr} (it:Addr) (lo:Int) (n:Nat):Turn P w K tg (Itr lo n) [it] it (fun i h=>IsRangeIter h it (lo + (i:Nat) * 1) ((n:Int) - (i:Nat)) 1) where
  mem:=by simp
  obj:=fun i h st b hb=>by
    have e:b=it:=by simpa using hb
    subst e
    exact ⟨_,st,fun v z=>by
      have z':Data.fields _=Data.cell v:=z
      cases z'⟩
  keep:=fun i h h' st k=>k it (by simp) _ st
  item:=by
    intro X hP hw hK hc i pins s σ H E I hf st hg
    subst hP hw hK
    obtain ⟨f0,f1,f2,f3,f4,f5⟩:=hf it (by simp)
    have W:=Walks.range (prog:=X.prog) (w:=X.w) (I.ok.hd hc) it lo 1 n
    refine W.item i s _ _ hg st fun v h' tk hv st' kk=>?_
    obtain ⟨t,rfl⟩:=hv
    have I1:Inv X pins σ H { s with heap:=h',toks:=tk }:=I.turned (fun b o hb e=>kk b o (by simpa using hb) e) f0 f1 f3 f4 f5
    refine ⟨_,rfl,go_of (s:={ s with heap:=h',toks:=tk }) (n := "range_iterator") st' rfl rfl (by decide) ⟨.int (lo + i),H,I1,⟨t,?_⟩,⟨rfl,rfl⟩,st',fun b hb=>(hf b hb).1⟩⟩
    rw [Int.mul_one]
  done:=by
    intro X hP hw hK hc i pins s σ H E I hf st hg
    subst hP hw hK
    obtain ⟨f0,f1,f2,f3,f4,f5⟩:=hf it (by simp)
    exact wpAny_pyNext_range_end (I.ok.hd hc) st (by have:n<=i:=hg; omega) fun h' eb=>⟨rfl,I.turned (t':=s.toks) (fun b o hb e=>eb b o hb e) f0 f1 f3 f4 f5⟩
  self:=fun _ _ _ _ _ st h=>wpAny_pyIter_rangeiter st h
end L2
namespace L2
open PySem PySem.Spec PyProof.Rows
section
variable {X:Cx} {tg:Expr}
def iList (K:PySem.W.Frag) (tl:TE):TI:=fun σ H R=>tl σ H fun x H1=>∃ a,x=.ref a/\(∃ xs,SqL K H1 a xs)/\R (Itl K a) H1
def iTup (K:PySem.W.Frag) (tl:TE):TI:=fun σ H R=>tl σ H fun x H1=>∃ a,x=.ref a/\(∃ xs,SqT K H1 a xs)/\R (Itt K a) H1
theorem pi_list {l:Expr} {tl:TE} (hl:PE X l tl):PI X tg l (iList X.K tl):=by
  intro pins s σ H R I h
  refine thn (hl pins s σ H _ I h) fun v s1 ⟨x,H1,I1,r1,q1⟩=>?_
  obtain ⟨a,e,⟨xs,hq⟩,q⟩:=q1
  subst e
  cases r1
  obtain ⟨its,rv,p,hz⟩:=I1.list hq
  refine wpAny_pyIter_list p.isList ?_
  refine ⟨s1.heap.objs.size,[s1.heap.objs.size],_,_,H1,rfl,I1.kept (t':=s1.toks) fun b o e=>O0 _ e,turn_list a _,⟨_,D3 _ rfl,rfl,rfl⟩,fun b hb=>?_,q⟩
  have e:b=s1.heap.objs.size:=by simpa using hb
  subst e
  exact I1.fpOk (O7 _) (I1.hok.fresh (O7 _))
theorem pi_tup {l:Expr} {tl:TE} (hl:PE X l tl):PI X tg l (iTup X.K tl):=by
  intro pins s σ H R I h
  refine thn (hl pins s σ H _ I h) fun v s1 ⟨x,H1,I1,r1,q1⟩=>?_
  obtain ⟨a,e,⟨xs,hq⟩,q⟩:=q1
  subst e
  cases r1
  obtain ⟨its,rv,p,hz⟩:=I1.tuple hq
  refine wpAny_pyIter_tuple (show s1.heap.IsTuple a its.toArray from p) ?_
  refine ⟨s1.heap.objs.size,[s1.heap.objs.size],_,_,H1,rfl,I1.kept (t':=s1.toks) fun b o e=>O0 _ e,turn_tuple a _,⟨_,D3 _ rfl,rfl,rfl⟩,fun b hb=>?_,q⟩
  have e:b=s1.heap.objs.size:=by simpa using hb
  subst e
  exact I1.fpOk (O7 _) (I1.hok.fresh (O7 _))
theorem range_it {pins:List (Addr × Obj)} {σ:St} {H:Hp} {s:Shared} {R:It->Hp->Prop} {E:Value->Shared->Prop} {lo hi:Int} {t u v:Tok} {tk:Nat} (I:Inv X pins σ H s) (h1:-(2 ^ 62)<=lo) (h2:lo < 2 ^ 62) (h3:-(2 ^ 62)<=hi) (h4:hi < 2 ^ 62)
    (q:R (Itr lo (hi - lo).toNat) H):wpAny (model X.prog X.w) X.A (pyIter (.ref s.heap.objs.size)) (PIE X pins σ tg R) E { s with heap:=s.heap.push { cls:=.type "range",data:=.fields #[.int lo t,.int hi u,.int 1 v] },toks:=tk }:=by
  refine wpAny_pyIter_range (IsRange.new ..) (small_one h1 h2 h3 h4) ?_
  have I1:Inv X pins σ H { s with heap:=s.heap.push { cls:=.type "range",data:=.fields #[.int lo t,.int hi u,.int 1 v] },toks:=tk }:=I.kept fun b o e=>O0 _ e
  refine ⟨(s.heap.push { cls:=.type "range",data:=.fields #[.int lo t,.int hi u,.int 1 v] }).objs.size,[(s.heap.push { cls:=.type "range",data:=.fields #[.int lo t,.int hi u,.int 1 v] }).objs.size],_,_,H,rfl,
    I1.kept (t':=tk) fun b o e=>O0 _ e,turn_range _ lo (hi - lo).toNat,?_,fun b hb=>?_,q⟩
  · have e1:lo + ((0:Nat):Int) * 1=lo:=by simp
    have e2:(((hi - lo).toNat:Nat):Int) - ((0:Nat):Int)=Builtin.Range.rangeSize lo hi 1:=by rw [rangeSize_one]; split <;> omega
    show IsRangeIter _ _ (lo + ((0:Nat):Int) * 1) ((((hi - lo).toNat:Nat):Int) - ((0:Nat):Int)) 1
    rw [e1,e2]
    exact D3 _ rfl
  · have e:b=(s.heap.push { cls:=.type "range",data:=.fields #[.int lo t,.int hi u,.int 1 v] }).objs.size:=by simpa using hb
    subst e
    exact I1.fpOk (O7 _) (I1.hok.fresh (O7 _))
def iRng1 (ta:TA):TI:=fun σ H R=>ta σ H fun vs H1=>∃ j:Int,vs=[.int j]/\-(2 ^ 62)<=j/\j < 2 ^ 62/\R (Itr 0 j.toNat) H1
def iRng2 (ta:TA):TI:=fun σ H R=>ta σ H fun vs H1=>∃ i j:Int,vs=[.int i,.int j]/\(-(2 ^ 62)<=i/\i < 2 ^ 62/\-(2 ^ 62)<=j/\j < 2 ^ 62)/\R (Itr i (j - i).toNat) H1
theorem pi_range1 {a:Expr} {ta:TA} {p pos:Pos} (hg:Gl X "range") (hm:X.mg "range" = none) (ha:PA X [a] ta) (hs:starEach [a] X.env=[(false,eval a X.env)]:=by rfl):PI X tg (.Call (.Name "range" p) [a] [] pos) (iRng1 ta):=by
  intro pins s σ H R I h
  refine Call_ (ld_blt I hg hm boot_range (PyProof.Rows.callWith_type1 (thn (ha pos pins s σ H _ I h) fun us s1 ⟨vs,H1,I1,r1,q1⟩=>?_) hs rfl))
  obtain ⟨j,e,q1,q2,q⟩:=q1
  subst e
  cases r1 with
  | cons r rr=>
    cases rr
    obtain ⟨t,rfl⟩:=r
    exact call_range_1 (range_it I1 (by omega) (by omega) q1 q2 (by simpa using q))
theorem pi_range2 {a b:Expr} {ta:TA} {p pos:Pos} (hg:Gl X "range") (hm:X.mg "range" = none) (ha:PA X [a,b] ta) (hs:starEach [a,b] X.env=[(false,eval a X.env),(false,eval b X.env)]:=by rfl) (hs2:starEach [b] X.env=[(false,eval b X.env)]:=by rfl) :
    PI X tg (.Call (.Name "range" p) [a,b] [] pos) (iRng2 ta):=by
  intro pins s σ H R I h
  refine Call_ (ld_blt I hg hm boot_range (PyProof.Rows.callWith_type1 (thn (ha pos pins s σ H _ I h) fun us s1 ⟨vs,H1,I1,r1,q1⟩=>?_) (by rw [hs,hs2]) (by rw [hs2]; rfl)))
  obtain ⟨i,j,e,⟨q1,q2,q3,q4⟩,q⟩:=q1
  subst e
  cases r1 with
  | cons r rr=>
    cases rr with
    | cons r' rr=>
      cases rr
      obtain ⟨t,rfl⟩:=r
      obtain ⟨t',rfl⟩:=r'
      exact call_range_2 (range_it I1 q1 q2 q3 q4 q)
def tFor (wi:TI) (g:TG) (tb:TS):TS:=fun D σ H=>wi σ H fun J H1=>∃ W:Nat->Nat->St->Hp->Prop,(∃ m,W 0 m σ H1)/\∀ i m σ H,W i m σ H ->
  (J.stop i H/\D.nx σ H)\/(J.go i H/\∃ N:St->Hp->Prop,(∀ σ' H',N σ' H'->∃ m',m' < m/\W (i + 1) m' σ' H')/\∀ x H',J.yld i H x H'->g x σ H' fun σ2 H2=>tb { D with nx:=N,ct:=N,bk:=D.nx } σ2 H2)
def pinsAt (fp:List Addr) (h:Heap):List (Addr × Obj):=fp.filterMap fun b=>(h.get? b).map fun o=>(b,o)
theorem Ug {fp:List Addr} {h:Heap} {b:Addr} {o:Obj} (hb:b∈fp) (e:h.get? b=some o):(b,o)∈pinsAt fp h:=List.mem_filterMap.mpr ⟨b,hb,by rw [e]; rfl⟩
theorem of_pinsAt {fp:List Addr} {h:Heap} {p:Addr × Obj} (hp:p∈pinsAt fp h):p.1∈fp/\h.get? p.1=some p.2:=by
  obtain ⟨b,hb,e⟩:=List.mem_filterMap.mp hp
  cases q:h.get? b with
  | none=>rw [q] at e; cases e
  | some o=>
    rw [q] at e
    have e':(b,o)=p:=Option.some.inj e
    subst e'
    exact ⟨hb,q⟩
theorem Inv.pinned {pins:List (Addr × Obj)} {σ:St} {H:Hp} {s:Shared} {fp:List Addr} (I:Inv X pins σ H s) (hf:∀ b∈fp,FpOk X pins H b) (ho:∀ b∈fp,∃ o,s.heap.get? b=some o/\∀ v,o.data≠.cell v):Inv X (pins ++ pinsAt fp s.heap) σ H s:=
  I.pins_of fun p hp=>(F1.mp hp).elim (fun z=>I.pin p (D8 _ z)) fun z=>by
    obtain ⟨hb,e⟩:=of_pinsAt z
    obtain ⟨f0,f1,f2,_⟩:=hf p.1 hb
    obtain ⟨o,e',d⟩:=ho p.1 hb
    rw [e] at e'; cases e'
    exact ⟨e,f0,f1,f2,d⟩
theorem Inv.unpinned {pins pl:List (Addr × Obj)} {σ:St} {H:Hp} {s:Shared} (I:Inv X (pins ++ pl) σ H s):Inv X pins σ H s:=I.pins_of fun p hp=>I.pin p (D8 _ (E9 _ hp))
theorem ps_for {iter:Expr} {body:List Stmt} {wi:TI} {g:TG} {tb:TS} {pos:Pos} (hp:PassesOwn (model X.prog X.w) X.A X.env X.xe) (hc:X.calm=true) (hi:PI X tg iter wi) (hg:PG X tg g) (hb:PSs X body tb)
    (hs:∀ x,foldedSetIterable iter X.env x=pure x:=by intro _; rfl):PS X (.For tg iter body [] pos) (tFor wi g tb):=by
  intro pins s σ H D I h
  refine wpAny_For (thn (hi pins s σ H _ I h) fun v s1 h1=>thn h1 fun itv s2 h2=>?_) hs
  obtain ⟨it,fp,tn,J,H2,e,I2,T,st2,f2,W,⟨m0,w0⟩,turn⟩:=h2
  subst e
  have stat:∀ {H':Hp},(∀ b∈fp,H' b=none)->∀ b∈fp,FpOk X pins H' b:=fun hn b hb=>⟨hn b hb,(f2 b hb).2⟩
  refine codeAny_forLoop_any (fun n s'=>∃ i σ' H',Inv X pins σ' H' s'/\tn i s'.heap/\(∀ b∈fp,H' b=none)/\W i n σ' H') ?_ m0 ⟨0,σ,H2,I2,st2,fun b hb=>(f2 b hb).1,w0⟩
  rintro n s3 ⟨i,σ3,H3,I3,st3,fr3,w3⟩
  rcases turn i n σ3 H3 w3 with ⟨stop,qn⟩ | ⟨go,N,hN,step⟩
  · refine wpAny_passesOwn hp (thn (T.done X rfl rfl rfl hc i pins s3 σ3 H3 X.xe I3 (stat fr3) st3 stop) fun r s4 ⟨hr,I4⟩=>?_)
    subst hr
    exact wpAny_execs_nil ⟨σ3,H3,I4,qn⟩
  · refine wpAny_passesOwn hp (thn (T.item X rfl rfl rfl hc i pins s3 σ3 H3 X.xe I3 (stat fr3) st3 go) fun r s4 ⟨u,hr,h4⟩=>?_)
    subst hr
    refine wpAny_passesOwn hp (thn h4 fun _ s5 ⟨x,H5,I5,r5,y5,st5,fr5⟩=>?_)
    have I5':=I5.pinned (stat fr5) (T.obj _ _ st5)
    refine wpAny_passesOwn hp (thn (hg _ s5 σ3 H5 x u _ I5' r5 (step x H5 y5)) fun _ s6 ⟨σ6,H6,I6,q6⟩=>?_)
    refine wpAny_passesOwn hp (thn (hb _ s6 σ6 H6 _ I6 q6) fun f s7 q7=>?_)
    have again:∀ {σ7:St} {H7:Hp},Inv X (pins ++ pinsAt fp s5.heap) σ7 H7 s7->N σ7 H7->∃ m,m < n/\∃ i σ' H',Inv X pins σ' H' s7/\tn i s7.heap/\(∀ b∈fp,H' b=none)/\W i m σ' H':=fun {σ7 H7} I7 n7=>by
      obtain ⟨m',hm,w7⟩:=hN σ7 H7 n7
      refine ⟨m',hm,i + 1,σ7,H7,I7.unpinned,T.keep _ _ _ st5 fun b hb o e=>(I7.pin (b,o) (D8 _ (D8 _ (Ug hb e)))).1,fun b hb=>?_,w7⟩
      obtain ⟨o,e,d⟩:=T.obj _ _ st5 b hb
      exact (I7.pin (b,o) (D8 _ (D8 _ (Ug hb e)))).2.1
    cases f with
    | next=>obtain ⟨σ7,H7,I7,n7⟩:=q7; exact again I7 n7
    | cont=>obtain ⟨σ7,H7,I7,n7⟩:=q7; exact again I7 n7
    | brk=>obtain ⟨σ7,H7,I7,q7⟩:=q7; exact ⟨σ7,H7,I7.unpinned,q7⟩
    | ret v=>obtain ⟨x7,σ7,H7,I7,r7,q7⟩:=q7; exact ⟨x7,σ7,H7,I7.unpinned,r7,q7⟩
end
end L2
namespace L2
open PySem PySem.Spec PyProof.Rows
abbrev R2:=V->V->Hp->VK->Prop
def OpR (X:Cx) (f:Value->Value->Sem Value) (r:R2):Prop:=
  ∀ (pins:List (Addr × Obj)) (s:Shared) (σ:St) (H:Hp) (x y:V) (v u:Value) (Q:VK),Inv X pins σ H s->RelV x v->RelV y u->r x y H Q ->
    wpAny (model X.prog X.w) X.A (f v u) (EP X pins σ Q) X.xe s
def UnR (X:Cx) (f:Value->Sem Value) (r:V->Hp->VK->Prop):Prop:=
  ∀ (pins:List (Addr × Obj)) (s:Shared) (σ:St) (H:Hp) (x:V) (v:Value) (Q:VK),Inv X pins σ H s->RelV x v->r x H Q ->
    wpAny (model X.prog X.w) X.A (f v) (EP X pins σ Q) X.xe s
def X3 (X:Cx) (f:Value) (r:List V->Hp->VK->Prop):Prop:=
  ∀ (pins:List (Addr × Obj)) (s:Shared) (σ:St) (H:Hp) (xs:List V) (us:List Value) (Q:VK),Inv X pins σ H s->Vals xs us->r xs H Q ->
    wpAny (model X.prog X.w) X.A (call f us) (EP X pins σ Q) X.xe s
def tOp (r:R2) (ta tb:TE):TE:=fun σ H Q=>ta σ H fun x H1=>tb σ H1 fun y H2=>r x y H2 Q
def tUn (r:V->Hp->VK->Prop) (ta:TE):TE:=fun σ H Q=>ta σ H fun x H1=>r x H1 Q
def rI (C:Int->Int->Prop) (g:Int->Int->V):R2:=fun x y H Q=>∃ i j,x=.int i/\y=.int j/\C i j/\Q (g i j) H
def rI0 (g:Int->Int->V):R2:=fun x y H Q=>∃ i j,x=.int i/\y=.int j/\Q (g i j) H
def rU (g:Int->V):V->Hp->VK->Prop:=fun x H Q=>∃ i,x=.int i/\Q (g i) H
section
variable {X:Cx} {a b c:Expr} {ta tb tc:TE} {pos:Pos}
theorem binT (ha:PE X a ta) (hb:PE X b tb) {pins:List (Addr × Obj)} {s:Shared} {σ:St} {H:Hp} {R:V->V->Hp->Prop} (I:Inv X pins σ H s)
    (h:ta σ H fun x H1=>tb σ H1 fun y H2=>R x y H2) {Q:Value->Shared->Prop} {f:Value->Value->Sem Value}
    (hf:∀ v u s2 x y H2,Inv X pins σ H2 s2->RelV x v->RelV y u->R x y H2->wpAny (model X.prog X.w) X.A (f v u) Q X.xe s2) :
    wpAny (model X.prog X.w) X.A (eval a X.env) (fun v s₁=>wpAny (model X.prog X.w) X.A (eval b X.env) (fun u s₂=>wpAny (model X.prog X.w) X.A (f v u) Q X.xe s₂) X.xe s₁) X.xe s:=by
  refine thn (ha pins s σ H _ I h) fun v s1 ⟨x,H1,I1,r1,q1⟩=>?_
  refine thn (hb pins s1 σ H1 _ I1 q1) fun u s2 ⟨y,H2,I2,r2,q2⟩=>?_
  exact hf v u s2 x y H2 I2 r1 r2 q2
theorem pe_op {op:Operator} {r:R2} (ho:OpR X (binaryOp op) r) (ha:PE X a ta) (hb:PE X b tb):PE X (.BinOp a op b pos) (tOp r ta tb):=by
  intro pins s σ H Q I h
  exact wpAny_BinOp (binT ha hb I h fun v u s2 x y H2 I2 rx ry q=>ho pins s2 σ H2 x y v u Q I2 rx ry q)
theorem pe_un {op:UnaryOp} {r:V->Hp->VK->Prop} (ho:UnR X (unaryOp op) r) (ha:PE X a ta):PE X (.UnaryOp op a pos) (tUn r ta):=by
  intro pins s σ H Q I h
  exact UnaryOp_ (thn (ha pins s σ H _ I h) fun v s1 ⟨x,H1,I1,r1,q1⟩=>ho pins s1 σ H1 x v Q I1 r1 q1)
theorem opI {f:Value->Value->Sem Value} {C:Int->Int->Prop} {g:Int->Int->Int}
    (rule:∀ (i j:Int) (t u:Tok) (s:Shared) (Q:Value->Shared->Prop) (E:Value->Shared->Prop),C i j->Q (.int (g i j) s.toks) { s with toks:=s.toks + 1 }->wpAny (model X.prog X.w) X.A (f (.int i t) (.int j u)) Q E s) :
    OpR X f (rI C fun i j=>.int (g i j)):=by
  intro pins s σ H x y v u Q I rx ry h
  obtain ⟨i,j,rfl,rfl,hc,q⟩:=h
  obtain ⟨t,rfl⟩:=rx
  obtain ⟨t',rfl⟩:=ry
  exact rule i j t t' s _ _ hc ⟨.int (g i j),H,I.tok _,⟨_,rfl⟩,q⟩
theorem opI0 {f:Value->Value->Sem Value} {g:Int->Int->Int}
    (rule:∀ (i j:Int) (t u:Tok) (s:Shared) (Q:Value->Shared->Prop) (E:Value->Shared->Prop),Q (.int (g i j) s.toks) { s with toks:=s.toks + 1 }->wpAny (model X.prog X.w) X.A (f (.int i t) (.int j u)) Q E s) :
    OpR X f (rI0 fun i j=>.int (g i j)):=by
  intro pins s σ H x y v u Q I rx ry h
  obtain ⟨i,j,rfl,rfl,q⟩:=h
  obtain ⟨t,rfl⟩:=rx
  obtain ⟨t',rfl⟩:=ry
  exact rule i j t t' s _ _ ⟨.int (g i j),H,I.tok _,⟨_,rfl⟩,q⟩
theorem opB0 {f:Value->Value->Sem Value} {g:Int->Int->Bool}
    (rule:∀ (i j:Int) (t u:Tok) (s:Shared) (Q:Value->Shared->Prop) (E:Value->Shared->Prop),Q (.bool (g i j)) s->wpAny (model X.prog X.w) X.A (f (.int i t) (.int j u)) Q E s) :
    OpR X f (rI0 fun i j=>.bl (g i j)):=by
  intro pins s σ H x y v u Q I rx ry h
  obtain ⟨i,j,rfl,rfl,q⟩:=h
  obtain ⟨t,rfl⟩:=rx
  obtain ⟨t',rfl⟩:=ry
  exact rule i j t t' s _ _ ⟨.bl (g i j),H,I,rfl,q⟩
def CDiv (i j:Int):Prop:=0 < j/\j < 1073741824
def CPow (i j:Int):Prop:=0<=j/\j<=1000000/\i.natAbs < 2 ^ 64
def CMul (i j:Int):Prop:=(-(2 ^ 64) < i/\i < 2 ^ 64)\/(-(2 ^ 64) < j/\j < 2 ^ 64)
theorem CMul.ok {i j:Int} (h:CMul i j):IntMulOk i j:=by
  rcases h with ⟨h1,h2⟩ | ⟨h1,h2⟩
  · exact .of_left (intBits_le_64 h1 h2)
  · exact .of_right (intBits_le_64 h1 h2)
theorem op_add:OpR X (binaryOp .Add) (rI0 fun i j=>.int (i + j)):=opI0 fun _ _ _ _ _ _ _ q=>add_int q
theorem op_sub:OpR X (binaryOp .Sub) (rI0 fun i j=>.int (i - j)):=opI0 fun _ _ _ _ _ _ _ q=>sub_int q
theorem op_mul:OpR X (binaryOp .Mult) (rI CMul fun i j=>.int (i * j)):=opI fun _ _ _ _ _ _ _ hc q=>mul_int q hc.ok
theorem op_fdiv:OpR X (binaryOp .FloorDiv) (rI CDiv fun i j=>.int (i / j)):=opI fun i j _ _ _ _ _ hc q=>by
  have h1:(0:Int) < j:=hc.1
  have h2:j < 1073741824:=hc.2
  exact floordiv_int (by omega) (by rw [Int.fdiv_eq_ediv_of_nonneg i (by omega)]; exact q) (.inl (PyProof.noPylong_small (by omega)))
theorem op_mod:OpR X (binaryOp .Mod) (rI (fun _ j=>0 < j) fun i j=>.int (i % j)):=opI fun i j _ _ _ _ _ hc q=>by
  have h1:(0:Int) < j:=hc
  exact mod_int' (by omega) (by rw [Int.fmod_eq_emod_of_nonneg i (by omega)]; exact q)
theorem op_pow:OpR X (binaryOp .Pow) (rI CPow fun i j=>.int (i ^ j.toNat)):=opI fun _ _ _ _ _ _ _ hc q=>pow_int_small hc.1 hc.2.1 hc.2.2 q
theorem unI {f:Value->Sem Value} {g:Int->Int}
    (rule:∀ (i:Int) (t:Tok) (s:Shared) (Q:Value->Shared->Prop) (E:Value->Shared->Prop),Q (.int (g i) s.toks) { s with toks:=s.toks + 1 }->wpAny (model X.prog X.w) X.A (f (.int i t)) Q E s) :
    UnR X f (rU fun i=>.int (g i)):=by
  intro pins s σ H x v Q I rx h
  obtain ⟨i,rfl,q⟩:=h
  obtain ⟨t,rfl⟩:=rx
  exact rule i t s _ _ ⟨.int (g i),H,I.tok _,⟨_,rfl⟩,q⟩
theorem un_neg:UnR X (unaryOp .USub) (rU fun i=>.int (-i)):=unI fun _ _ _ _ _ q=>neg_int q
end
def scal:V->V->Bool
  | .non,.non=>true | .non,.int _=>true | .int _,.non=>true | .non,.bl _=>true | .bl _,.non=>true | .non,.str _=>true | .str _,.non=>true
  | .int _,.int _=>true | .bl _,.bl _=>true | .str _,.str _=>true | .byt _,.byt _=>true
  | .int _,.str _=>true | .str _,.int _=>true | .bl _,.str _=>true | .str _,.bl _=>true
  | _,_=>false
def rNe:R2:=fun x y H Q=>scal x y=true/\Q (.bl (!decide (x=y))) H
theorem dec_int {i j:Int}:decide (V.int i=V.int j)=(i == j):=by
  rw [Bool.eq_iff_iff]
  simp
theorem dec_bl {i j:Bool}:decide (V.bl i=V.bl j)=(i == j):=by
  rw [Bool.eq_iff_iff]
  simp
theorem dec_str {i j:Str}:decide (V.str i=V.str j)=(i == j):=by
  rw [Bool.eq_iff_iff]
  simp
theorem dec_byt {i j:Array UInt8}:decide (V.byt i=V.byt j)=(i.toList == j.toList):=by
  rw [Bool.eq_iff_iff]
  cases i
  cases j
  simp
section
variable {X:Cx} {a b c:Expr} {ta tb tc:TE} {pos:Pos}
theorem Wb {pins:List (Addr × Obj)} {σ:St} {H:Hp} {s:Shared} {Q:VK} {k k':Bool} (I:Inv X pins σ H s) (q:Q (.bl k) H) (e:k=k'):EP X pins σ Q (.bool k') s:=by
  subst e
  exact ⟨.bl k,H,I,rfl,q⟩
theorem op_ne:OpR X (compareOp .NotEq) rNe:=by
  intro pins s σ H x y v u Q I rx ry h
  obtain ⟨hs,q⟩:=h
  cases x with
  | non=>
    cases rx
    cases y with
    | non=>cases ry; exact PySem.EqNone.ne_none_none (Wb I q (by simp))
    | bl j=>cases ry; exact PySem.EqNone.ne_none_bool (Wb I q (by simp))
    | int j=>obtain ⟨t',rfl⟩:=ry; exact PySem.EqNone.ne_none_int (Wb I q (by simp))
    | str j=>obtain ⟨t',rfl⟩:=ry; exact PySem.EqNone.ne_none_str (Wb I q (by simp))
    | _=>exact absurd (show false=true from hs) O8
  | bl i=>
    cases rx
    cases y with
    | non=>cases ry; exact PySem.EqNone.ne_bool_none (Wb I q (by simp))
    | bl j=>cases ry; exact ne_bool (Wb I q (congrArg not dec_bl))
    | str j=>obtain ⟨t',rfl⟩:=ry; exact PySem.EqMixed.ne_bool_str (Wb I q (by simp))
    | _=>exact absurd (show false=true from hs) O8
  | int i=>
    obtain ⟨t,rfl⟩:=rx
    cases y with
    | non=>cases ry; exact PySem.EqNone.ne_int_none (Wb I q (by simp))
    | int j=>obtain ⟨t',rfl⟩:=ry; exact ne_int (Wb I q (congrArg not dec_int))
    | str j=>obtain ⟨t',rfl⟩:=ry; exact PySem.EqMixed.ne_int_str (Wb I q (by simp))
    | _=>exact absurd (show false=true from hs) O8
  | str i=>
    obtain ⟨t,rfl⟩:=rx
    cases y with
    | non=>cases ry; exact PySem.EqNone.ne_str_none (Wb I q (by simp))
    | bl j=>cases ry; exact PySem.EqMixed.ne_str_bool (Wb I q (by simp))
    | int j=>obtain ⟨t',rfl⟩:=ry; exact PySem.EqMixed.ne_str_int (Wb I q (by simp))
    | str j=>obtain ⟨t',rfl⟩:=ry; exact ne_str (Wb I q (congrArg not dec_str))
    | _=>exact absurd (show false=true from hs) O8
  | byt i=>
    obtain ⟨t,rfl⟩:=rx
    cases y with
    | byt j=>obtain ⟨t',rfl⟩:=ry; exact PySem.W.ne_bytes (Wb I q (congrArg not dec_byt))
    | _=>exact absurd (show false=true from hs) O8
  | _=>cases y <;> exact absurd (show false=true from hs) O8
theorem op_lt:OpR X (compareOp .Lt) (rI0 fun i j=>.bl (decide (i < j))):=opB0 fun _ _ _ _ _ _ _ q=>lt_int q
theorem op_le:OpR X (compareOp .LtE) (rI0 fun i j=>.bl (decide (i<=j))):=opB0 fun _ _ _ _ _ _ _ q=>le_int q
theorem op_gt:OpR X (compareOp .Gt) (rI0 fun i j=>.bl (decide (j < i))):=opB0 fun _ _ _ _ _ _ _ q=>gt_int q
theorem op_ge:OpR X (compareOp .GtE) (rI0 fun i j=>.bl (decide (j<=i))):=opB0 fun _ _ _ _ _ _ _ q=>ge_int q
theorem op_isN:OpR X (compareOp .Is) (fun x y H Q=>y=.non/\Q (.bl (decide (x=.non))) H):=by
  intro pins s σ H x y v u Q I rx ry h
  obtain ⟨rfl,q⟩:=h
  cases ry
  refine is_none_gen (Wb I q ?_)
  cases x <;> first
    | (cases rx; rfl)
    | (obtain ⟨t,rfl⟩:=rx; rfl)
theorem OpR.or {f:Value->Value->Sem Value} {r r':R2} (h:OpR X f r) (h':OpR X f r'):OpR X f (fun x y H Q=>r x y H Q\/r' x y H Q):=by
  intro pins s σ H x y v u Q I rx ry q
  rcases q with q | q
  · exact h pins s σ H x y v u Q I rx ry q
  · exact h' pins s σ H x y v u Q I rx ry q
theorem nomark (b:Expr) {op:CmpOp} (h:op≠.In:=by decide) (h2:op≠.NotIn:=by decide):behindInMarks op b=false:=by
  have e1:(op == CmpOp.In)=false:=by cases op <;> first | rfl | exact absurd rfl h
  have e2:(op == CmpOp.NotIn)=false:=by cases op <;> first | rfl | exact absurd rfl h2
  cases b <;> simp [behindInMarks,e1,e2]
theorem pe_cmpR {op:CmpOp} {r:R2} (ho:OpR X (compareOp op) r) (ha:PE X a ta) (hb:PE X b tb) (hm:behindInMarks op b=false):PE X (.Compare a [op] [b] pos) (tOp r ta tb):=by
  intro pins s σ H Q I h
  exact wpAny_Compare1 (binT ha hb I h fun v u s2 x y H2 I2 rx ry q=>ho pins s2 σ H2 x y v u Q I2 rx ry q) hm
def tTest (t:TE):TT:=fun σ H Q=>t σ H fun x H'=>∃ k,x=.bl k/\Q k H'
theorem pt_cmpR {op:CmpOp} {r:R2} (ho:OpR X (compareOp op) r) (ha:PE X a ta) (hb:PE X b tb) (hm:behindInMarks op b=false):PT X (.Compare a [op] [b] pos) (tTest (tOp r ta tb)):=by
  intro pins s σ H Q I h
  refine wpAny_isTrue_Compare1 (thn (ha pins s σ H _ I h) fun v s1 ⟨x,H1,I1,r1,q1⟩=>thn (hb pins s1 σ H1 _ I1 q1) fun u s2 ⟨y,H2,I2,r2,q2⟩=>
    thn (ho pins s2 σ H2 x y v u _ I2 r1 r2 q2) fun c s3 ⟨z,H3,I3,r3,k,e,q3⟩=>?_) hm
  subst e
  cases r3
  exact wpAny_truthy_bool ⟨H3,I3,q3⟩
def tChain (r r':R2) (ta tb tc:TE):TE:=fun σ H Q=>ta σ H fun x H1=>tb σ H1 fun y H2=>r x y H2 fun z H3=>∃ k,z=.bl k /\
  (if k=true then tc σ H3 fun w' H4=>r' y w' H4 Q else Q (.bl false) H3)
theorem pe_chain {op op':CmpOp} {r r':R2} (ho:OpR X (compareOp op) r) (ho':OpR X (compareOp op') r') (ha:PE X a ta) (hb:PE X b tb) (hc:PE X c tc)
    (hm:lastMarks [op,op'] [b,c]=false:=by with_unfolding_all rfl):PE X (.Compare a [op,op'] [b,c] pos) (tChain r r' ta tb tc):=by
  intro pins s σ H Q I h
  refine Compare_chain (thn (ha pins s σ H _ I h) fun v s1 ⟨x,H1,I1,r1,q1⟩=>chain_link (thn (hb pins s1 σ H1 _ I1 q1) fun u s2 ⟨y,H2,I2,r2,q2⟩=>
    thn (ho pins s2 σ H2 x y v u _ I2 r1 r2 q2) fun d s3 ⟨z,H3,I3,r3,k,e,q3⟩=>?_)) hm
  subst e
  cases r3
  refine wpAny_truthy_bool ?_
  cases k with
  | false=>exact ite_ff ⟨.bl false,H3,I3,rfl,q3⟩
  | true=>exact ite_tt (chain_last (thn (hc pins s3 σ H3 _ I3 q3) fun w' s4 ⟨z',H4,I4,r4,q4⟩=>ho' pins s4 σ H4 y z' u w' Q I4 r2 r4 q4))
theorem pt_chain {op op':CmpOp} {r r':R2} (ho:OpR X (compareOp op) r) (ho':OpR X (compareOp op') r') (ha:PE X a ta) (hb:PE X b tb) (hc:PE X c tc)
    (hm:lastMarks [op,op'] [b,c]=false:=by with_unfolding_all rfl):PT X (.Compare a [op,op'] [b,c] pos) (tTest (tChain r r' ta tb tc)):=by
  intro pins s σ H Q I h
  refine isTrue_chain (thn (ha pins s σ H _ I h) fun v s1 ⟨x,H1,I1,r1,q1⟩=>test_link (thn (hb pins s1 σ H1 _ I1 q1) fun u s2 ⟨y,H2,I2,r2,q2⟩=>
    thn (ho pins s2 σ H2 x y v u _ I2 r1 r2 q2) fun d s3 ⟨z,H3,I3,r3,k,e,q3⟩=>?_)) hm
  subst e
  cases r3
  refine wpAny_truthy_bool ?_
  cases k with
  | false=>
    obtain ⟨k',e',q'⟩:=q3
    cases e'
    exact ite_ff ⟨H3,I3,q'⟩
  | true=>
    refine ite_tt (test_last (thn (hc pins s3 σ H3 _ I3 q3) fun w' s4 ⟨z',H4,I4,r4,q4⟩=>thn (ho' pins s4 σ H4 y z' u w' _ I4 r2 r4 q4) fun d' s5 ⟨z2,H5,I5,r5,k2,e2,q5⟩=>?_))
    subst e2
    cases r5
    exact wpAny_truthy_bool ⟨H5,I5,q5⟩
theorem line63:(sizeLine:Nat) < 2 ^ 63:=by rw [sizeLine_eq]; decide
theorem op_add_str:OpR X (binaryOp .Add) (fun x y H Q=>∃ i j,x=.str i/\y=.str j/\i.length + j.length<=sizeLine/\Q (.str (i ++ j)) H):=by
  intro pins s σ H x y v u Q I rx ry h
  obtain ⟨i,j,rfl,rfl,hz,q⟩:=h
  obtain ⟨t,rfl⟩:=rx
  obtain ⟨t',rfl⟩:=ry
  exact add_str (fun t' tk=>⟨.str (i ++ j),H,I.tok _,⟨_,rfl⟩,q⟩) hz
theorem vals1 {x:V} {us:List Value} (r:Vals [x] us):∃ u,us=[u]/\RelV x u:=by
  cases r with
  | cons r1 r2=>cases r2; exact ⟨_,rfl,r1⟩
theorem vals2 {x y:V} {us:List Value} (r:Vals [x,y] us):∃ u w',us=[u,w']/\RelV x u/\RelV y w':=by
  cases r with
  | cons r1 r2=>
    cases r2 with
    | cons r3 r4=>cases r4; exact ⟨_,_,rfl,r1,r3⟩
theorem call_max2 (hc:X.calm=true):X3 X (.builtin "max") (fun xs H Q=>∃ i j,xs=[.int i,.int j]/\Q (.int (if j > i then j else i)) H):=by
  intro pins s σ H xs us Q I r h
  obtain ⟨i,j,rfl,q⟩:=h
  obtain ⟨u,w',rfl,⟨t,rfl⟩,⟨t',rfl⟩⟩:=vals2 r
  refine max_two_ints (I.ok.hd hc) fun h' tk k=>⟨_,H,I.kept k,?_,q⟩
  by_cases hj:j > i
  · rw [if_pos hj,if_pos hj]; exact ⟨_,rfl⟩
  · rw [if_neg hj,if_neg hj]; exact ⟨_,rfl⟩
theorem call_min2 (hc:X.calm=true):X3 X (.builtin "min") (fun xs H Q=>∃ i j,xs=[.int i,.int j]/\Q (.int (if j < i then j else i)) H):=by
  intro pins s σ H xs us Q I r h
  obtain ⟨i,j,rfl,q⟩:=h
  obtain ⟨u,w',rfl,⟨t,rfl⟩,⟨t',rfl⟩⟩:=vals2 r
  refine min_two_ints (I.ok.hd hc) fun h' tk k=>⟨_,H,I.kept k,?_,q⟩
  by_cases hj:j < i
  · rw [if_pos hj,if_pos hj]; exact ⟨_,rfl⟩
  · rw [if_neg hj,if_neg hj]; exact ⟨_,rfl⟩
end
end L2
namespace L2
open PySem PySem.Spec PyProof.Rows
structure ObjM (h:Heap) (x dx C:Addr) (mA:Str->Option Value):Prop where
  obj:h.get? x=some (PySem.W.instObj C dx)
  ns:h.Ns1 dx mA
  ne:dx≠x
theorem lookIn_ns {h:Heap} {dx:Addr} {mA:Str->Option Value} (n:h.Ns1 dx mA):∃ od,h.get? dx=some od/\∀ name,PySem.W.lookIn name od=some (mA name):=by
  obtain ⟨o,es,ep,ho,hd,hk,_,hm⟩:=n
  refine ⟨o,ho,fun name=>?_⟩
  have e:=hm name
  unfold nsFind findBy at e
  rw [<- Array.find?_toList] at e
  unfold PySem.W.lookIn
  rw [hd]
  dsimp only
  split
  · rename_i y q
    rw [q] at e
    exact congrArg some e
  · rename_i q
    rw [q] at e
    have a:es.toList.any (·.refKey)=false:=by
      rw [List.any_eq_false]
      intro y hy
      obtain ⟨z,t,hkey⟩:=hk y (Array.mem_toList_iff.mp hy)
      simp [DictEntry.refKey,hkey]
    have a':¬ es.toList.any (·.refKey)=true:=by rw [a]; exact O8
    rw [if_neg a']
    exact congrArg some e
theorem ObjM.look {h:Heap} {x dx C:Addr} {mA:Str->Option Value} (I:ObjM h x dx C mA):∃ od,PySem.W.InstAt h x (PySem.W.instObj C dx) C (some od)/\∀ name,PySem.W.lookIn name od=some (mA name):=
  let ⟨od,ho,hl⟩:=lookIn_ns I.ns
  ⟨od,⟨I.obj,rfl,rfl,ho⟩,hl⟩
section
variable {prog:Program} {w:World} {A:Around} {E:Value->Shared->Prop} {s:Shared} {K:PySem.W.Frag} {x dx C f:Addr} {mA:Str->Option Value} {name:Str} {v:Value}
theorem get_map {expr:Bool} {Q:Value->Shared->Prop} (X:K.In s.heap) (I:ObjM s.heap x dx C mA) (hg:PySem.W.plainGet K C name=true) (hh:PySem.W.hasDictIn K C=true)
    (ha:PySem.W.findIn K (.ref C) name=some none) (hv:mA name=some v) (hv':PySem.W.handedIn v=true) (h:Q v { s with toks:=s.toks + 1 }) :
    wpAny (model prog w) A (getAttr (.ref x) name expr) Q E s:=by
  obtain ⟨od,J,hl⟩:=I.look
  exact PySem.W.get_value X J (PySem.W.plainGet_of hg).1 (PySem.W.findObj_own hh ha rfl (by rw [hl,hv])) hv' h
theorem get_meth {pl:Sem Bool} {Q:Value × List Value->Shared->Prop} (X:K.In s.heap) (I:ObjM s.heap x dx C mA) (hg:PySem.W.plainGet K C name=true)
    (hf:PySem.W.findIn K (.ref C) name=some (some (.ref f))) (ht:PySem.W.isFn K (.ref f)=true) (hv:mA name=none) (h:Q (.ref f,[.ref x]) s) :
    wpAny (model prog w) A (getMethod (.ref x) name pl) Q E s:=by
  obtain ⟨od,J,hl⟩:=I.look
  exact PySem.W.method_fn X J (PySem.W.plainGet_of hg).1 (PySem.W.plainGet_of hg).2 hf (beq_iff_eq.mp ht) (by show (PySem.W.lookIn name od).map (·.isSome)=some false; rw [hl,hv]; rfl) h
theorem set_map {ns:List Str} {Q:Unit->Shared->Prop} (X:K.In s.heap) (I:ObjM s.heap x dx C mA)
    (hs:PySem.W.findIn K (.ref C) "__setattr__" = some (some (.builtin "object.__setattr__"))) (hp:PySem.W.plainOver K C=true) (ht:PySem.W.takerIn K C name=some none) (hh:PySem.W.hasDictIn K C=true)
    (hw:PySem.Within mA ns) (hsz:ns.length<=sizeLine)
    (h:∀ h',ObjM h' x dx C (fun y=>if y=name then some v else mA y)->Heap.SameBut dx s.heap h'->Q () { s with heap:=h',toks:=s.toks + 2 }) :
    wpAny (model prog w) A (setAttr (.ref x) name v) Q E s:=by
  obtain ⟨od,J,hl⟩:=I.look
  refine PySem.W.set_plain X J hs (PySem.W.osa_open (s:={ s with toks:=s.toks + 1 }) (r:=none) X J hp ht fun b=>?_)
  obtain ⟨cd,hc,hd'⟩:=PySem.W.any_some hh
  have hx:s.heap.get? x=some ⟨.ref C,some dx,.plain,#[]⟩:=I.obj
  refine wpAny_bind (wpAny_pure (wpAny_bind (wpAny_bind (wpAny_loadPart hx (wpAny_bind (PySem.W.Looks.here (s:={ s with toks:=s.toks + 1 }) (PySem.W.looks_clsIn X hc) ?_))))))
  rw [hd']
  refine wpAny_pure (a:=some dx) (wpAny_bind (wpAny_pure (wpAny_bind ?_)))
  refine wpAny_nsSet1 (s:={ s with toks:=s.toks + 1 }) I.ns fun h' hn2 hs2=>?_
  obtain ⟨oD,esD,epD,hoD,hdD,hcD⟩:=hn2.count (PySem.Within.cons name v hw)
  refine wpAny_bind (wpAny_lookBehind hoD (by rw [hdD]; exact pastItsLine_dict (E3 hcD (by rw [D7]; omega))) ?_)
  exact wpAny_pure (h _ ⟨(hs2.2 _ (Ne.symm I.ne)).trans I.obj,hn2,I.ne⟩ hs2)
theorem make_map {R:Result->Shared->Prop} {vs:List Value} {kw:List (Str × Value)} (X:K.In s.heap) (hm:PySem.W.makesIn K C=true)
    (hi:PySem.W.findIn K (.ref C) "__init__" = some (some (.ref f))) (hf:PySem.W.typeIn K (.ref f)=some (.type "function"))
    (h:codeAny (model prog w) (A.under (.builtin "type.__call__" ⟨.ref C :: vs,kw⟩)) (.call (.ref f) ⟨.ref (s.heap.objs.size + 1) :: vs,kw⟩) (PySem.W.InitBack (s.heap.objs.size + 1) R)
      { s with heap:=(s.heap.push PySem.W.emptyDict).push (PySem.W.instObj C s.heap.objs.size) }) :
    codeAny (model prog w) A (.call (.ref C) ⟨vs,kw⟩) R s:=by
  obtain ⟨hh,g,d,t,os⟩:=s
  exact PySem.W.make_core (PySem.W.makes_of X hm) (PySem.W.looks_findIn X hi) (fun self=>PySem.W.bind_fn X self hf) (.inl rfl) h
end
def putF (f:Str) (v:V):List (Str × V)->List (Str × V)
  | []=>[(f,v)]
  | (g,x) :: r=>if g=f then (g,v) :: r else (g,x) :: putF f v r
theorem lookup_putF (f g:Str) (v:V):∀ fs:List (Str × V),(putF f v fs).lookup g=if g=f then some v else fs.lookup g
  | []=>by
    show List.lookup g [(f,v)]=_
    by_cases h:g=f
    · have hb:(g == f)=true:=beq_iff_eq.mpr h
      simp only [List.lookup,hb,if_pos h]
    · have hb:(g == f)=false:=beq_eq_false_iff_ne.mpr h
      simp only [List.lookup,hb,if_neg h]
  | (k,x) :: r=>by
    have ih:=lookup_putF f g v r
    rw [show putF f v ((k,x) :: r)=(if k=f then (k,v) :: r else (k,x) :: putF f v r) from rfl]
    by_cases hk:k=f
    · rw [if_pos hk]
      by_cases h:g=k
      · have hb:(g == k)=true:=beq_iff_eq.mpr h
        simp only [List.lookup,hb,if_pos (h.trans hk)]
      · have hb:(g == k)=false:=beq_eq_false_iff_ne.mpr h
        simp only [List.lookup,hb,if_neg (fun e:g=f=>h (e.trans hk.symm))]
    · rw [if_neg hk]
      by_cases h:g=k
      · have hb:(g == k)=true:=beq_iff_eq.mpr h
        simp only [List.lookup,hb,if_neg (fun e:g=f=>hk (h.symm.trans e))]
      · have hb:(g == k)=false:=beq_eq_false_iff_ne.mpr h
        simp only [List.lookup,hb]
        exact ih
theorem keys_putF (f:Str) (v:V):∀ fs:List (Str × V),f∈(putF f v fs).map (·.1)/\∀ g,g∈fs.map (·.1)->g∈(putF f v fs).map (·.1)
  | []=>⟨by simp [putF],fun g h=>by simp at h⟩
  | (k,x) :: r=>by
    obtain ⟨i1,i2⟩:=keys_putF f v r
    rw [show putF f v ((k,x) :: r)=(if k=f then (k,v) :: r else (k,x) :: putF f v r) from rfl]
    by_cases hk:k=f
    · rw [if_pos hk]
      subst hk
      exact ⟨by simp,fun g h=>by simpa using h⟩
    · rw [if_neg hk]
      refine ⟨?_,fun g h=>?_⟩
      · rw [F5]
        exact O6 _ i1
      · rw [F5] at h ⊢
        rcases D5.mp h with e | e
        · exact D5.mpr (.inl e)
        · exact O6 _ (i2 g e)
theorem length_putF (f:Str) (v:V):∀ fs:List (Str × V),(putF f v fs).length<=fs.length + 1
  | []=>by simp [putF]
  | (k,x) :: r=>by
    have ih:=length_putF f v r
    rw [show putF f v ((k,x) :: r)=(if k=f then (k,v) :: r else (k,x) :: putF f v r) from rfl]
    by_cases hk:k=f
    · rw [if_pos hk,D7,D7]; omega
    · rw [if_neg hk,D7,D7]; omega
theorem RelO.some_of {v:V} {o:Option Value} (r:RelO (some v) o):∃ u,o=some u/\RelV v u:=by
  cases o with
  | none=>exact (show False from r).elim
  | some u=>exact ⟨u,rfl,r⟩
theorem RelO.none_of {o:Option Value} (r:RelO none o):o=none:=by
  cases o with
  | none=>rfl
  | some u=>exact (show False from r).elim
theorem handed_of {v:V} {u:Value} (r:RelV v u):PySem.W.handedIn u=true:=by
  cases v with
  | non=>cases (show u=Value.none from r); rfl
  | bl b=>cases (show u=Value.bool b from r); rfl
  | int i=>obtain ⟨t,e⟩:=(show ∃ t,u=Value.int i t from r); cases e; rfl
  | str x=>obtain ⟨t,e⟩:=(show ∃ t,u=Value.str x t from r); cases e; rfl
  | byt b=>obtain ⟨t,e⟩:=(show ∃ t,u=Value.bytes b t from r); cases e; rfl
  | flt b=>obtain ⟨t,e⟩:=(show ∃ t,u=Value.float b t from r); cases e; rfl
  | ref a=>cases (show u=Value.ref a from r); rfl
  | ty n=>cases (show u=Value.type n from r); rfl
section
variable {P:Program} {w:World} {H H':Hp} {h h':Heap} {a C dx:Addr} {fs fs':List (Str × V)}
theorem ins_get (hok:HOk P w H h) (e:H a=some (.ins C dx fs)):∃ mA,ObjM h a dx C mA/\(∀ f,RelO (fs.lookup f) (mA f))/\PySem.Within mA (fs.map (·.1))/\fs.length<=1000/\H dx=some (.own a):=by
  obtain ⟨d,z,ne,ob,mA,n,r,q⟩:=(show ObjOk P w H h a (.ins C dx fs) from hok a _ e)
  exact ⟨mA,⟨ob,n,ne⟩,r,q,z,d⟩
end
structure Cls (K:PySem.W.Frag) (C:Addr):Prop where
  pg:PySem.W.plainGet K C Str.empty=true
  hd:PySem.W.hasDictIn K C=true
  po:PySem.W.plainOver K C=true
  sa:PySem.W.findIn K (.ref C) "__setattr__" = some (some (.builtin "object.__setattr__"))
theorem Cls.get {K:PySem.W.Frag} {C:Addr} (c:Cls K C) (f:Str):PySem.W.plainGet K C f=true:=c.pg
def NoAttr (K:PySem.W.Frag) (C:Addr) (f:Str):Prop:=PySem.W.findIn K (.ref C) f=some none
theorem NoAttr.taker {K:PySem.W.Frag} {C:Addr} {f:Str} (n:NoAttr K C f):PySem.W.takerIn K C f=some none:=by
  unfold PySem.W.takerIn
  rw [show PySem.W.findIn K (.ref C) f=some none from n]
  rfl
structure Meth (K:PySem.W.Frag) (C:Addr) (m:Str) (f:Addr):Prop where
  at_:PySem.W.findIn K (.ref C) m=some (some (.ref f))
  fn:PySem.W.isFn K (.ref f)=true
  kp:PySem.W.keepIn K (.ref f)=true
section
variable {X:Cx} {pins:List (Addr × Obj)} {σ:St} {H:Hp} {s:Shared} {a C dx:Addr} {fs:List (Str × V)} {f:Str} {v:V} {A:Around} {E:Value->Shared->Prop}
theorem getattr_ok {b:Bool} {Q:Value->Shared->Prop} (I:Inv X pins σ H s) (e:H a=some (.ins C dx fs)) (c:Cls X.K C) (n:NoAttr X.K C f) (l:fs.lookup f=some v)
    (h:∀ u s',Inv X pins σ H s'->RelV v u->Q u s'):wpAny (model X.prog X.w) A (getAttr (.ref a) f b) Q E s:=by
  obtain ⟨mA,O,r,_,_,_⟩:=ins_get I.hok e
  obtain ⟨u,hu,ru⟩:=RelO.some_of (v:=v) (o:=mA f) (by rw [<- l]; exact r f)
  exact get_map I.kIn O (c.get f) c.hd n hu (handed_of ru) (h u _ (I.tok _) ru)
theorem getmeth_ok {m:Str} {g:Addr} {pl:Sem Bool} {Q:Value × List Value->Shared->Prop} (I:Inv X pins σ H s) (e:H a=some (.ins C dx fs)) (c:Cls X.K C) (k:Meth X.K C m g) (l:fs.lookup m=none)
    (h:Q (.ref g,[.ref a]) s):wpAny (model X.prog X.w) A (getMethod (.ref a) m pl) Q E s:=by
  obtain ⟨mA,O,r,_,_,_⟩:=ins_get I.hok e
  have hn:mA m=none:=RelO.none_of (by rw [<- l]; exact r m)
  exact get_meth I.kIn O (c.get m) k.at_ k.fn hn h
theorem setattr_ok {y:V} {u:Value} {Q:Unit->Shared->Prop} (I:Inv X pins σ H s) (e:H a=some (.ins C dx fs)) (c:Cls X.K C) (n:NoAttr X.K C f) (hl:fs.length < 1000) (ry:RelV y u)
    (h:∀ s',Inv X pins σ (upd H a (.ins C dx (putF f y fs))) s'->Q () s'):wpAny (model X.prog X.w) A (setAttr (.ref a) f u) Q E s:=by
  obtain ⟨mA,O,r,wi,_,ho⟩:=ins_get I.hok e
  have hz:(fs.map (·.1)).length<=sizeLine:=by rw [O2,sizeLine_eq]; omega
  refine set_map I.kIn O c.sa c.po n.taker c.hd wi hz fun h' O' sb=>h _ ?_
  have hd:∃ o,h'.get? dx=some o:=let ⟨o,_,_,e',_⟩:=O'.ns; ⟨o,e'⟩
  refine I.write (x:=a) (e:=dx) (by rw [e]; exact True.intro) (.inr ho) (fun b q hb z=>(sb.2 b hb).trans z) hd ?_
  refine ⟨by rw [Qd O.ne]; exact ho,?_,O.ne,O'.obj,_,O'.ns,fun g=>?_,fun g hg=>?_⟩
  · have:=length_putF f y fs; omega
  · show RelO ((putF f y fs).lookup g) (if g=f then some u else mA g)
    rw [lookup_putF]
    by_cases q:g=f
    · rw [if_pos q,if_pos q]; exact ry
    · rw [if_neg q,if_neg q]; exact r g
  · by_cases q:g=f
    · rw [q]; exact (keys_putF f y fs).1
    · refine (keys_putF f y fs).2 g (wi g fun z=>hg ?_)
      show (if g=f then some u else mA g)=none
      rw [if_neg q]; exact z
theorem Inv.made (I:Inv X pins σ H s):Inv X pins σ (upd (upd H s.heap.objs.size (.own (s.heap.objs.size + 1))) (s.heap.objs.size + 1) (.ins C s.heap.objs.size []))
    { s with heap:=(s.heap.push PySem.W.emptyDict).push (PySem.W.instObj C s.heap.objs.size) }:=by
  have e1:(s.heap.push PySem.W.emptyDict).get? s.heap.objs.size=some PySem.W.emptyDict:=D3 s.heap rfl
  have e2:((s.heap.push PySem.W.emptyDict).push (PySem.W.instObj C s.heap.objs.size)).get? (s.heap.objs.size + 1)=some (PySem.W.instObj C s.heap.objs.size):=by
    have:=D3 (s.heap.push PySem.W.emptyDict) (o:=PySem.W.instObj C s.heap.objs.size) rfl
    rwa [E7] at this
  have e3:(s.heap.push PySem.W.emptyDict).Ns s.heap.objs.size (fun _=>none):=⟨PySem.W.emptyDict,#[],_,e1,rfl,(fun e he=>absurd he (by simp)),fun _=>rfl⟩
  have I1:=I.laid (a:=s.heap.objs.size) (o:=.own (s.heap.objs.size + 1)) (h':=s.heap.push PySem.W.emptyDict) (t':=s.toks) (fun b u q=>O0 _ q) (O7 _) ⟨_,e1⟩
  refine I1.laid (a:=s.heap.objs.size + 1) (o:=.ins C s.heap.objs.size []) (t':=s.toks) (fun b u q=>O0 _ q) (Nat.le_of_eq (E7 _ _)) ?_
  have ne:s.heap.objs.size≠s.heap.objs.size + 1:=E5 (Nat.lt_succ_self _)
  refine ⟨by rw [Qd ne,Qs],Nat.zero_le _,ne,e2,fun _=>none,(Heap.Ns1.of_empty e3).at fun o q=>O0 _ q,fun _=>True.intro,fun y hy=>absurd rfl hy⟩
theorem attr_of {prog:Program} {w:World} {env:Env} {e:Expr} {f:Str} {pos:Pos} {s:Shared} {Q:Value->Shared->Prop} (hb:attributeBase e f env (eval e env)=eval e env)
    (h:wpAny (model prog w) A (eval e env) (fun o s₁=>wpAny (model prog w) A (getAttr o f true) Q E s₁) E s):wpAny (model prog w) A (eval (.Attribute e f pos) env) Q E s:=
  Attribute_any_ h (by rw [arm_eval_Attribute,hb])
end
def tFld (K:PySem.W.Frag) (ta:TE) (f:Str):TE:=fun σ H Q=>ta σ H fun x H1=>∃ a C dx fs v,x=.ref a/\H1 a=some (.ins C dx fs)/\Cls K C/\NoAttr K C f/\fs.lookup f=some v/\Q v H1
def sFld (K:PySem.W.Frag) (ta tv:TE) (f:Str):TS:=fun D σ H=>tv σ H fun y H1=>ta σ H1 fun x H2=>∃ a C dx fs,x=.ref a/\H2 a=some (.ins C dx fs)/\Cls K C/\NoAttr K C f/\fs.length < 1000 /\
  D.nx σ (upd H2 a (.ins C dx (putF f y fs)))
section
variable {X:Cx} {o e value:Expr} {f:Str} {pos pos' tpos:Pos} {ta tv:TE}
theorem pe_fld (he:PE X e ta) (hb:attributeBase e f X.env (eval e X.env)=eval e X.env):PE X (.Attribute e f pos) (tFld X.K ta f):=by
  intro pins s σ H Q I h
  refine attr_of hb (thn (he pins s σ H _ I h) fun u s1 ⟨x,H1,I1,rx,a,C,dx,fs,v,ex,ea,c,n,l,q⟩=>?_)
  subst ex
  obtain rfl:u=Value.ref a:=rx
  exact getattr_ok I1 ea c n l fun u' s2 I2 ru=>⟨v,H1,I2,ru,q⟩
theorem ps_fld (ha:PE X o ta) (hv:PE X value tv) (hs:swapsWith value (some (.Attribute o f pos')) pos.line X.env=pure false):PS X (.Assign [.Attribute o f pos'] value pos) (sFld X.K ta tv f):=by
  intro pins s σ H D I h
  refine plainObj_wpAny_Assign_Attribute (thn (hv pins s σ H _ I h) fun u s1 ⟨y,H1,I1,ry,q⟩=>thn (ha pins s1 σ H1 _ I1 q) fun ov s2 ⟨x,H2,I2,rx,a,C,dx,fs,ex,ea,c,n,l,q2⟩=>?_) hs
  subst ex
  obtain rfl:ov=Value.ref a:=rx
  exact setattr_ok I2 ea c n l ry fun s3 I3=>⟨σ,_,I3,q2⟩
end
section
variable {X:Cx} {pins:List (Addr × Obj)} {σ:St} {H:Hp} {s:Shared} {A:Around} {E:Value->Shared->Prop} {Q:Value->Shared->Prop} {c:Value} {b:Bool}
inductive TyOf (K:PySem.W.Frag) (H:Hp):V->Value->Prop where
  | non:TyOf K H .non (.type "NoneType")
  | bl (x:Bool):TyOf K H (.bl x) (.type "bool")
  | int (i:Int):TyOf K H (.int i) (.type "int")
  | str (x:Str):TyOf K H (.str x) (.type "str")
  | flt (x:UInt64):TyOf K H (.flt x) (.type "float")
  | lst {a:Addr} {xs:List V} (e:H a=some (.lst xs)):TyOf K H (.ref a) (.type "list")
  | frz {a:Addr} {o:Obj} {xs:List V} (e:H a=some (.frz o (.lst xs))):TyOf K H (.ref a) (.type "list")
  | tup {a:Addr} {xs:List V} (e:H a=some (.tup xs)):TyOf K H (.ref a) (.type "tuple")
  | dK {a:Addr} {kvs:List (Key × V)} (e:H a=some (.dK kvs)):TyOf K H (.ref a) (.type "dict")
  | dT {a:Addr} {kvs:List (List Key × V)} (e:H a=some (.dT kvs)):TyOf K H (.ref a) (.type "dict")
  | ins {a C dx:Addr} {fs:List (Str × V)} (e:H a=some (.ins C dx fs)) (cl:Cls K C) (ha:PySem.W.findIn K (.ref C) "__class__" = some (some (.builtin "object.__class__")))
      (hn:PySem.W.specialIn K (.builtin "object.__class__") "__get__" = some (some (.builtin "getset_descriptor.__get__"))) (htk:PySem.W.takesIn K (.builtin "object.__class__")=some true)
      (hm:PySem.W.mroIn K C (.type "object")=some true):TyOf K H (.ref a) (.ref C)
theorem isinst_ok {x:V} {u t:Value} (I:Inv X pins σ H s) (rx:RelV x u) (ty:TyOf X.K H x t) (e:PySem.W.kitOne X.K t c=some b) (h:∀ tk,Q (.bool b) { s with toks:=tk }) :
    wpAny (model X.prog X.w) A (call (.builtin "isinstance") [u,c]) Q E s:=by
  cases ty with
  | non=>cases (show u=Value.none from rx); exact PySem.W.kia_one PySem.W.kitx_none I.kIn True.intro e (fun z=>nomatch z) h
  | bl y=>cases (show u=Value.bool y from rx); exact PySem.W.kia_one PySem.W.kitx_bool I.kIn True.intro e (fun z=>nomatch z) h
  | int i=>obtain ⟨t,q⟩:=(show ∃ t,u=Value.int i t from rx); cases q; exact PySem.W.kia_one PySem.W.kitx_int I.kIn True.intro e (fun z=>nomatch z) h
  | str y=>obtain ⟨t,q⟩:=(show ∃ t,u=Value.str y t from rx); cases q; exact PySem.W.kia_one PySem.W.kitx_str I.kIn True.intro e (fun z=>nomatch z) h
  | flt y=>obtain ⟨t,q⟩:=(show ∃ t,u=Value.float y t from rx); cases q; exact PySem.W.kia_one PySem.W.kitx_float I.kIn True.intro e (fun z=>nomatch z) h
  | @lst a xs ea=>
    cases (show u=Value.ref a from rx)
    obtain ⟨_,_,n,_,h1⟩:=(show ObjOk X.prog X.w H s.heap a (.lst xs) from I.hok a _ ea)
    exact PySem.W.kia_one PySem.W.kitx_list I.kIn ⟨_,h1,rfl⟩ e (fun z=>nomatch z) h
  | @frz a ob xs ea=>
    cases (show u=Value.ref a from rx)
    obtain ⟨_,_,_,n,_,h1⟩:=(show ObjOk X.prog X.w H s.heap a (.frz ob (.lst xs)) from I.hok a _ ea)
    exact PySem.W.kia_one PySem.W.kitx_list I.kIn ⟨_,h1,rfl⟩ e (fun z=>nomatch z) h
  | @tup a xs ea=>
    cases (show u=Value.ref a from rx)
    obtain ⟨_,_,_,p⟩:=(show ObjOk X.prog X.w H s.heap a (.tup xs) from I.hok a _ ea)
    obtain ⟨o,h1,h2,_⟩:=p
    exact PySem.W.kia_one PySem.W.kitx_tuple I.kIn ⟨o,h1,h2⟩ e (fun z=>nomatch z) h
  | @dK a kvs ea=>
    cases (show u=Value.ref a from rx)
    obtain ⟨_,_,vs,_,p⟩:=(show ObjOk X.prog X.w H s.heap a (.dK kvs) from I.hok a _ ea)
    obtain ⟨o,es,ep,h1,h2,_⟩:=p
    exact PySem.W.kia_one PySem.W.kitx_dict I.kIn ⟨o,h1,h2.1⟩ e (fun z=>nomatch z) h
  | @dT a kvs ea=>
    cases (show u=Value.ref a from rx)
    obtain ⟨_,_,xs,_,o,es,ep,h1,h2,_⟩:=(show ObjOk X.prog X.w H s.heap a (.dT kvs) from I.hok a _ ea)
    exact PySem.W.kia_one PySem.W.kitx_dict I.kIn ⟨o,h1,h2.1⟩ e (fun z=>nomatch z) h
  | @ins a C dx fs ea cl ha hn htk hm=>
    cases (show u=Value.ref a from rx)
    obtain ⟨mA,O,_⟩:=ins_get I.hok ea
    obtain ⟨od,J,_⟩:=O.look
    exact PySem.W.kia_one (PySem.W.kitx_own (cl.get _) cl.hd ha hn htk hm) I.kIn J e (fun z=>nomatch z) h
end
end L2
namespace L2
open PySem PySem.Spec PyProof.Rows
structure Room (k:Nat) (A:Around):Prop where
  hd:A.handled=none
  dp:A.depth + 3 * k + 5 < recursionLimit
  un:A.units + 16 * k + 200 < cLine
theorem Room.mono {j k:Nat} {A:Around} (r:Room k A) (h:j<=k):Room j A:=⟨r.hd,by have:=r.dp; omega,by have:=r.un; omega⟩
theorem Room.deeper {k:Nat} {A:Around} (r:Room (k + 1) A) (env:Env):Room k (A.deeper env):=
  ⟨r.hd,by have:=r.dp; show A.depth + 1 + 3 * k + 5 < _; omega,by have:=r.un; show A.units + 3 + 16 * k + 200 < _; omega⟩
theorem make_depth {A:Around} {C:Addr} {us:List Value} {kw:List (Str × Value)}:(A.under (.builtin "type.__call__" ⟨.ref C :: us,kw⟩)).depth=A.depth + 1:=by
  first | rfl | simp [Around.under,Code.weight,Code.isCreation,Code.isGuard,Code.isCaller,Code.frames,Code.isFrame,guardIds]
theorem make_units {A:Around} {C:Addr} {us:List Value} {kw:List (Str × Value)}:(A.under (.builtin "type.__call__" ⟨.ref C :: us,kw⟩)).units=A.units + 1:=by
  first | rfl | simp [Around.under,Code.cUnits,Code.frames,Code.isFrame]
theorem Room.make {k:Nat} {A:Around} (r:Room (k + 1) A) (C:Addr) (us:List Value) (kw:List (Str × Value)):Room k (A.under (.builtin "type.__call__" ⟨.ref C :: us,kw⟩)):=
  ⟨r.hd,by have:=r.dp; rw [make_depth]; omega,by have:=r.un; rw [make_units]; omega⟩
theorem Room.depth {k:Nat} {A:Around} (r:Room k A):A.depth < recursionLimit:=by have:=r.dp; omega
theorem Room.units {k:Nat} {A:Around} (r:Room k A):A.units + 64 < cLine:=by have:=r.un; omega
def tNil:TA:=fun _ H Q=>Q [] H
def tCons (ta:TE) (tr:TA):TA:=fun σ H Q=>ta σ H fun x H1=>tr σ H1 fun xs H2=>Q (x :: xs) H2
section
variable {X:Cx} {e:Expr} {es:List Expr} {te:TE} {t:TA} {pos:Pos}
theorem Z6:PA X [] tNil:=fun _ _ _ _ H Q I h=>Calls.spliced_nil ⟨[],H,I,.nil,h⟩
theorem Qx (ha:PE X e te) (hr:PA X es t) (hs:starEach (e :: es) X.env=(false,eval e X.env) :: starEach es X.env:=by rfl):PA X (e :: es) (tCons te t):=by
  intro pos pins s σ H Q I h
  rw [hs]
  show wpAny _ _ (spliced ((false,eval e X.env) :: backTo pos (starEach es X.env))) _ _ s
  refine Calls.spliced_cons (thn (ha pins s σ H _ I h) fun u s1 ⟨x,H1,I1,r1,q1⟩=>?_)
  exact thn (hr pos pins s1 σ H1 _ I1 q1) fun us s2 ⟨xs,H2,I2,r2,q2⟩=>⟨x :: xs,H2,I2,.cons r1 r2,q2⟩
def tTup (t:TA):TE:=fun σ H Q=>t σ H fun xs H1=>xs.length<=sizeLine/\∀ p,H1 p=none->Q (.ref p) (upd H1 p (.tup xs))
def tLst (t:TA):TE:=fun σ H Q=>t σ H fun xs H1=>xs.length<=sizeLine/\∀ p,H1 p=none->Q (.ref p) (upd H1 p (.lst xs))
theorem pe_tup {x1} (h:PA X es t):PE X (.Tuple es x1 pos) (tTup t):=by
  intro pins s σ H Q I hq
  refine wpAny_Tuple_spliced (thn (h pos pins s σ H _ I hq) fun us s1 ⟨xs,H1,I1,r,z,q⟩=>⟨by rw [<- r.length]; exact z,?_⟩)
  have hf:H1 s1.heap.objs.size=none:=I1.hok.fresh (O7 _)
  refine ⟨.ref s1.heap.objs.size,upd H1 s1.heap.objs.size (.tup xs),I1.laid (t':=s1.toks) (fun b u e=>O0 _ e) (O7 _) ?_,rfl,q _ hf⟩
  exact ⟨z,us,r,⟨_,D3 _ rfl,rfl,_,rfl⟩⟩
theorem pe_lst (h:PA X es t):PE X (.List es pos) (tLst t):=by
  intro pins s σ H Q I hq
  refine wpAny_List_spliced (thn (h pos pins s σ H _ I hq) fun us s1 ⟨xs,H1,I1,r,z,q⟩=>⟨by rw [<- r.length]; exact z,?_⟩)
  have hf:H1 s1.heap.objs.size=none:=I1.hok.fresh (O7 _)
  refine ⟨.ref s1.heap.objs.size,upd H1 s1.heap.objs.size (.lst xs),I1.laid (t':=s1.toks) (fun b u e=>O0 _ e) (O7 _) ?_,rfl,q _ hf⟩
  exact ⟨z,us,0,r,D3 _ rfl⟩
end
abbrev Sp:=List V->Hp->VK->XK->Prop
abbrev CXT:=List Env->Hp->Shared->XK->Value->Shared->Prop
structure Env0 (P:Program) (w:World) (K:PySem.W.Frag) (mg:Str->Option Value) (base:Heap) (A:Around) (outer:List Env) (s:Shared) (H:Hp):Prop where
  frames:A.frames=some outer
  mod:Mod K mg base
  bs:∀ b o,base.get? b=some o->s.heap.get? b=some o/\H b=none
  bsz:base.objs.size<=s.heap.objs.size
  funs:s.heap.FunFrames base outer
  frf:∀ b∈frs outer,H b=none
  hok:HOk P w H s.heap
  bare:AllBare s.gens
def CE (outer:List Env) (P:Program) (w:World) (H:Hp) (s:Shared) (Q:VK) (u:Value) (s':Shared):Prop:=
  ∃ v H',s'.os=s.os/\AllBare s'.gens/\Un (frs outer) [] H H' s.heap s'.heap/\HOk P w H' s'.heap/\RelV v u/\Q v H'
def CR (CX:CXT) (outer:List Env) (P:Program) (w:World) (H:Hp) (s:Shared) (Q:VK) (E:XK) (r:Result) (s':Shared):Prop:=
  match r with
  | .ok (.ret u)=>CE outer P w H s Q u s'
  | .ok _=>False
  | .error e=>CX outer H s E e s'
structure FnOk (P:Program) (w:World) (K:PySem.W.Frag) (mg:Str->Option Value) (base:Heap) (CX:CXT) (k:Nat) (f:Addr) (fd:FuncData) (ps:List Str) (sp:Sp):Prop where
  len:∀ vs H Q E,sp vs H Q E->vs.length=ps.length
  run:∀ (A:Around) (outer:List Env) (s:Shared) (H:Hp) (args:Args) (us:List Value) (vs:List V) (Q:VK) (E:XK),Room k A->Env0 P w K mg base A outer s H->BindsTo s fd args (ps.zip us)->Vals vs us->sp vs H Q E ->
    codeAny (model P w) A (.call (.ref f) args) (CR CX outer P w H s Q E) s
theorem FnOk.imp {P:Program} {w:World} {K:PySem.W.Frag} {mg:Str->Option Value} {base:Heap} {CX:CXT} {k:Nat} {f:Addr} {fd:FuncData} {ps:List Str} {sp sp':Sp} (F:FnOk P w K mg base CX k f fd ps sp)
    (h:∀ vs H Q E,sp' vs H Q E->sp vs H Q E):FnOk P w K mg base CX k f fd ps sp':=
  ⟨fun vs H Q E q=>F.len vs H Q E (h _ _ _ _ q),fun A outer s H args us vs Q E hr he hb hv hs=>F.run A outer s H args us vs Q E hr he hb hv (h _ _ _ _ hs)⟩
theorem Env0.make {P:Program} {w:World} {K:PySem.W.Frag} {mg:Str->Option Value} {base:Heap} {A:Around} {outer:List Env} {s:Shared} {H:Hp} (e:Env0 P w K mg base A outer s H) (C:Addr) (us:List Value) (kw:List (Str × Value)) :
    Env0 P w K mg base (A.under (.builtin "type.__call__" ⟨.ref C :: us,kw⟩)) outer s H:=⟨by first | exact e.frames | (simpa [Around.under,Code.envs,Code.isFrame,pushEnvs] using e.frames),e.mod,e.bs,e.bsz,e.funs,e.frf,e.hok,e.bare⟩
section
variable {X:Cx} {pins:List (Addr × Obj)} {σ:St} {H:Hp} {s s':Shared}
theorem Inv.env0 (I:Inv X pins σ H s):Env0 X.prog X.w X.K X.mg X.base X.A X.stack s H:=
  ⟨I.ok.frames,I.ok.mod,I.bs,E3 I.ok.bsz I.sz,I.stack,I.stkFree,I.hok,I.bare⟩
theorem Inv.after {Q:VK} {u:Value} (I:Inv X pins σ H s) (h:CE X.stack X.prog X.w H s Q u s'):EP X pins σ Q u s':=by
  obtain ⟨v,H',os,bare,un,hok,r,q⟩:=h
  obtain ⟨hh,g,d,t,os'⟩:=s'
  obtain rfl:os'=s.os:=os
  exact ⟨v,H',I.call (h':=hh) (g':=g) (d':=d) (t':=t) (ch:=[]) un hok bare (fun b z=>absurd z (by simp)),r,q⟩
end
def tCall (sp:Sp) (dvs:List V) (E:XK) (t:TA):TE:=fun σ H Q=>t σ H fun vs H1=>sp (vs ++ dvs) H1 Q E
def tMeth (C:Addr) (m:Str) (sp:Sp) (dvs:List V) (E:XK) (ta:TE) (t:TA):TE:=fun σ H Q=>ta σ H fun x H1=>∃ a dx fs,x=.ref a/\H1 a=some (.ins C dx fs)/\fs.lookup m=none /\
  t σ H1 fun vs H2=>sp (x :: (vs ++ dvs)) H2 Q E
def tMake (C:Addr) (sp:Sp) (dvs:List V) (E:XK) (t:TA):TE:=fun σ H Q=>t σ H fun vs H1=>∀ x dx,H1 x=none->H1 dx=none->dx≠x ->
  sp (.ref x :: (vs ++ dvs)) (upd (upd H1 dx (.own x)) x (.ins C dx [])) (fun v H2=>v=.non/\Q (.ref x) H2) E
def Binds (K:PySem.W.Frag) (fd:FuncData) (ps:List Str) (ds:List Value):Prop:=
  ∀ (s:Shared) (us:List Value),K.In s.heap->(us ++ ds).length=ps.length->BindsTo s fd ⟨us,[]⟩ (ps.zip (us ++ ds))
theorem Binds.all {K:PySem.W.Frag} {fd:FuncData} {ps:List Str} (h:∀ us:List Value,us.length=ps.length->bindArgs fd ⟨us,[]⟩=pure (ps.zip us)):Binds K fd ps []:=fun s us _ hl=>by
  rw [List.append_nil] at hl ⊢
  exact .of_eq (h us hl)
def Uk (CX:CXT) (X:Cx) (E:XK):Prop:=∀ (pins:List (Addr × Obj)) (σ:St) (H:Hp) (s:Shared) (e:Value) (s':Shared),Inv X pins σ H s->CX X.stack H s E e s'->X.xe e s'
section
variable {X:Cx} {CX:CXT} {k:Nat} {f C:Addr} {fd:FuncData} {ps:List Str} {sp:Sp} {dvs:List V} {ds:List Value} {E:XK} {x m:Str} {p pos apos:Pos} {e o:Expr} {es:List Expr} {ta:TE} {t:TA}
theorem run_fn {pins:List (Addr × Obj)} {σ:St} {H:Hp} {s:Shared} {Q:VK} {us:List Value} {vs:List V} (F:FnOk X.prog X.w X.K X.mg X.base CX k f fd ps sp) (hr:Room k X.A) (hb:Binds X.K fd ps ds) (hd:Vals dvs ds) (hx:Uk CX X E)
    (I:Inv X pins σ H s) (r:Vals vs us) (h:sp (vs ++ dvs) H Q E):wpAny (model X.prog X.w) X.A (call (.ref f) us) (EP X pins σ Q) X.xe s:=by
  have r2:Vals (vs ++ dvs) (us ++ ds):=r.append hd
  have hl:(us ++ ds).length=ps.length:=by rw [<- r2.length]; exact F.len _ _ _ _ h
  refine wpAny_call (codeAny_mono (F.run X.A X.stack s H ⟨us,[]⟩ (us ++ ds) (vs ++ dvs) Q E hr I.env0 (hb s us I.kIn hl) r2 h) fun r s' hq=>?_)
  cases r with
  | error e=>exact hx pins σ H s e s' I hq
  | ok fl=>
    cases fl with
    | ret u=>exact I.after hq
    | next=>exact False.elim hq
    | brk=>exact False.elim hq
    | cont=>exact False.elim hq
theorem pe_call (F:FnOk X.prog X.w X.K X.mg X.base CX k f fd ps sp) (hr:Room k X.A) (hg:Gl X x) (hm:X.mg x=some (.ref f)) (hk:PySem.W.keepIn X.K (.ref f)=true) (hb:Binds X.K fd ps ds) (hd:Vals dvs ds) (hx:Uk CX X E)
    (ha:PA X (e :: es) t) (hdb:(x == ("__debug__" : Str))=false:=by decide) (he:starEach (e :: es) X.env=(false,eval e X.env) :: starEach es X.env:=by rfl) (hpl:(backTo pos (starEach es X.env)).any (·.1)=false:=by rfl) :
    PE X (.Call (.Name x p) (e :: es) [] pos) (tCall sp dvs E t):=by
  intro pins s σ H Q I h
  refine wpAny_Call_Name_kw (ld_glob I hg hm ?_ hdb)
  refine PySem.W.callWith_K (h₀:=X.base) I.ok.mod.kin hk (thn (ha pos pins s σ H _ I h) fun us s1 ⟨vs,H1,I1,r,q⟩=>⟨I1.kIn,?_⟩) he hpl
  exact run_fn F hr hb hd hx I1 r q
theorem pe_meth {pl:Sem Bool} (he:PE X o ta) (c:Cls X.K C) (hm:Meth X.K C m f) (F:FnOk X.prog X.w X.K X.mg X.base CX k f fd ps sp) (hr:Room k X.A) (hb:Binds X.K fd ps ds) (hd:Vals dvs ds) (hx:Uk CX X E) (ha:PA X (e :: es) t)
    (hst:starEach (e :: es) X.env=(false,eval e X.env) :: starEach es X.env:=by rfl) (hpl:(backTo pos (starEach es X.env)).any (·.1)=false:=by rfl)
    (ht:eval (.Call (.Attribute o m apos) (e :: es) [] pos) X.env=(do
      let ov <- eval o X.env
      standAt apos.atName
      let (f,first) <- holding [ov] (getMethod ov m pl)
      callWith pos f first (backTo pos (starEach (e :: es) X.env)) (backToKw pos (keywordEach [] X.env))):=by rfl) :
    PE X (.Call (.Attribute o m apos) (e :: es) [] pos) (tMeth C m sp dvs E ta t):=by
  intro pins s σ H Q I h
  refine PySem.W.methodCall_KW (pl:=pl) (thn (he pins s σ H _ I h) fun u s1 ⟨x,H1,I1,rx,a,dx,fs,ex,ea,l,q⟩=>?_) ht
  subst ex
  obtain rfl:u=Value.ref a:=rx
  refine getmeth_ok I1 ea c hm l ?_
  refine PySem.W.callWith_K (first:=[.ref a]) (h₀:=X.base) I.ok.mod.kin hm.kp (thn (ha pos pins s1 σ H1 _ I1 q) fun us s2 ⟨vs,H2,I2,r,q2⟩=>⟨I2.kIn,?_⟩) hst hpl
  exact run_fn (us:=.ref a :: us) (vs:=.ref a :: vs) F hr hb hd hx I2 (.cons rfl r) q2
theorem pe_meth0 {pl:Sem Bool} (he:PE X o ta) (c:Cls X.K C) (hm:Meth X.K C m f) (F:FnOk X.prog X.w X.K X.mg X.base CX k f fd ps sp) (hr:Room k X.A) (hb:Binds X.K fd ps ds) (hd:Vals dvs ds) (hx:Uk CX X E)
    (ht:eval (.Call (.Attribute o m apos) [] [] pos) X.env=(do
      let ov <- eval o X.env
      standAt apos.atName
      let (f,first) <- holding [ov] (getMethod ov m pl)
      callWith pos f first (backTo pos (starEach [] X.env)) (backToKw pos (keywordEach [] X.env))):=by rfl) :
    PE X (.Call (.Attribute o m apos) [] [] pos) (tMeth C m sp dvs E ta tNil):=by
  intro pins s σ H Q I h
  refine PySem.W.methodCall_KW (pl:=pl) (thn (he pins s σ H _ I h) fun u s1 ⟨x,H1,I1,rx,a,dx,fs,ex,ea,l,q⟩=>?_) ht
  subst ex
  obtain rfl:u=Value.ref a:=rx
  refine getmeth_ok I1 ea c hm l ?_
  exact PySem.W.callWith_K0 (first:=[.ref a]) I1.kIn hm.kp (run_fn (us:=[.ref a]) (vs:=[.ref a]) F hr hb hd hx I1 (.cons rfl .nil) q)
structure Mk (K:PySem.W.Frag) (C f:Addr):Prop where
  makes:PySem.W.makesIn K C=true
  init:PySem.W.findIn K (.ref C) "__init__" = some (some (.ref f))
  fn:PySem.W.isFn K (.ref f)=true
  kp:PySem.W.keepIn K (.ref C)=true
theorem run_make {pins:List (Addr × Obj)} {σ:St} {H:Hp} {s:Shared} {Q:VK} {us:List Value} {vs:List V} (M:Mk X.K C f) (F:FnOk X.prog X.w X.K X.mg X.base CX k f fd ps sp) (hr:Room (k + 1) X.A) (hb:Binds X.K fd ps ds) (hd:Vals dvs ds)
    (hx:Uk CX X E) (I:Inv X pins σ H s) (r:Vals vs us)
    (h:∀ x dx,H x=none->H dx=none->dx≠x->sp (.ref x :: (vs ++ dvs)) (upd (upd H dx (.own x)) x (.ins C dx [])) (fun v H2=>v=.non/\Q (.ref x) H2) E) :
    wpAny (model X.prog X.w) X.A (call (.ref C) us) (EP X pins σ Q) X.xe s:=by
  have hq:=h (s.heap.objs.size + 1) s.heap.objs.size (I.hok.fresh (Nat.le_succ _)) (I.hok.fresh (O7 _)) (E5 (Nat.lt_succ_self _))
  have I2:=Inv.made (C:=C) I
  have r2:Vals (V.ref (s.heap.objs.size + 1) :: (vs ++ dvs)) (Value.ref (s.heap.objs.size + 1) :: (us ++ ds)):=.cons rfl (r.append hd)
  have hl:(Value.ref (s.heap.objs.size + 1) :: us ++ ds).length=ps.length:=by
    have e:=r2.length
    rw [F.len _ _ _ _ hq] at e
    exact e.symm
  refine wpAny_call (make_map (f:=f) I.kIn M.makes M.init (beq_iff_eq.mp M.fn) (codeAny_mono (F.run _ X.stack _ _ ⟨Value.ref (s.heap.objs.size + 1) :: us,[]⟩ (Value.ref (s.heap.objs.size + 1) :: (us ++ ds)) _ _ E (hr.make C us [])
    (I2.env0.make C us []) (hb _ (Value.ref (s.heap.objs.size + 1) :: us) I2.kIn hl) r2 hq) fun r s' hq'=>?_))
  cases r with
  | error e=>exact hx pins σ _ _ e s' I2 hq'
  | ok fl=>
    cases fl with
    | ret u=>
      obtain ⟨v,H',I3,rv,ev,q3⟩:=I2.after hq'
      subst ev
      exact ⟨rv,⟨V.ref (s.heap.objs.size + 1),H',I3,rfl,q3⟩⟩
    | next=>exact False.elim hq'
    | brk=>exact False.elim hq'
    | cont=>exact False.elim hq'
theorem pe_make (M:Mk X.K C f) (F:FnOk X.prog X.w X.K X.mg X.base CX k f fd ps sp) (hr:Room (k + 1) X.A) (hg:Gl X x) (hm:X.mg x=some (.ref C)) (hb:Binds X.K fd ps ds) (hd:Vals dvs ds) (hx:Uk CX X E)
    (ha:PA X (e :: es) t) (hdb:(x == ("__debug__" : Str))=false:=by decide) (he:starEach (e :: es) X.env=(false,eval e X.env) :: starEach es X.env:=by rfl) (hpl:(backTo pos (starEach es X.env)).any (·.1)=false:=by rfl) :
    PE X (.Call (.Name x p) (e :: es) [] pos) (tMake C sp dvs E t):=by
  intro pins s σ H Q I h
  refine wpAny_Call_Name_kw (ld_glob I hg hm ?_ hdb)
  refine PySem.W.callWith_K (h₀:=X.base) I.ok.mod.kin M.kp (thn (ha pos pins s σ H _ I h) fun us s1 ⟨vs,H1,I1,r,q⟩=>⟨I1.kIn,?_⟩) he hpl
  exact run_make M F hr hb hd hx I1 r q
end
def PK (X:Cx) (kws:List Keyword) (t:TA):Prop:=
  ∀ (pos:Pos) (pins:List (Addr × Obj)) (s:Shared) (σ:St) (H:Hp) (Q:List V->Hp->Prop),Inv X pins σ H s->t σ H Q->wpAny (model X.prog X.w) X.A (evalAll ((backToKw pos (keywordEach kws X.env)).map (·.2))) (AP X pins σ Q) X.xe s
section
variable {X:Cx} {CX:CXT} {k:Nat} {f C:Addr} {fd:FuncData} {ps ks:List Str} {sp:Sp} {E:XK} {x m:Str} {p pos apos kpos:Pos} {e o:Expr} {es:List Expr} {kws:List Keyword} {te ta:TE} {t tk:TA} {nm:Option Str}
variable {g:List Value->List Value->List Value} {gV:List V->List V->List V}
end
structure FnScope (N P:List Str) (sc:Scope):Prop where
  kind:sc.kind=.function
  co:sc.isCoroutine=false
  gen:sc.isGenerator=false
  nd:N.Nodup
  pre:N.take P.length=P
  par:∀ x∈P,sc.names.lookup x=some .local\/sc.names.lookup x=some .cell
  nofree:∀ y∈sc.names,y.2≠.free
theorem bindL_out {kindOf:Str->Option NameKind} {x:Str}:∀ {binds:List (Str × Value)} {m:Str->Option Value},(∀ v,(x,v)∉binds)->bindL kindOf binds m x=m x
  | [],_,_=>rfl
  | (n,v) :: r,m,h=>by
    unfold bindL
    rw [bindL_out fun w hw=>h w (O6 _ hw)]
    split
    · have:x≠n:=by rintro rfl; exact h v D1
      simp [this]
    · rfl
theorem bindC_out {kindOf:Str->Option NameKind} {x:Str}:∀ {binds:List (Str × Value)} {m:Str->Option Value},(∀ v,(x,v)∉binds)->bindC kindOf binds m x=m x
  | [],_,_=>rfl
  | (n,v) :: r,m,h=>by
    unfold bindC
    rw [bindC_out fun w hw=>h w (O6 _ hw)]
    split
    · rfl
    · have:x≠n:=by rintro rfl; exact h v D1
      simp [this]
theorem bindL_get {kindOf:Str->Option NameKind} {x:Str} {v:Value}:∀ {P:List Str} {vs:List Value} {i:Nat} {m:Str->Option Value},P.Nodup->P[i]?=some x->vs[i]?=some v->kindOf x=some .local ->
    bindL kindOf (P.zip vs) m x=some v
  | [],_,_,_,_,h,_,_=>by simp at h
  | _ :: _,[],_,_,_,_,h,_=>by simp at h
  | p :: P,w :: vs,0,m,nd,h1,h2,hk=>by
    simp at h1 h2; subst h1; subst h2
    show bindL kindOf ((p,w) :: P.zip vs) m p=_
    unfold bindL
    rw [bindL_out fun v hv=>(List.nodup_cons.mp nd).1 (List.of_mem_zip hv).1,if_pos hk]
    simp
  | p :: P,w :: vs,i + 1,m,nd,h1,h2,hk=>by
    show bindL kindOf ((p,w) :: P.zip vs) m x=_
    unfold bindL
    exact bindL_get (i:=i) (List.nodup_cons.mp nd).2 (by simpa using h1) (by simpa using h2) hk
theorem bindC_get {kindOf:Str->Option NameKind} {x:Str} {v:Value}:∀ {P:List Str} {vs:List Value} {i:Nat} {m:Str->Option Value},P.Nodup->P[i]?=some x->vs[i]?=some v->kindOf x≠some .local ->
    bindC kindOf (P.zip vs) m x=some v
  | [],_,_,_,_,h,_,_=>by simp at h
  | _ :: _,[],_,_,_,_,h,_=>by simp at h
  | p :: P,w :: vs,0,m,nd,h1,h2,hk=>by
    simp at h1 h2; subst h1; subst h2
    show bindC kindOf ((p,w) :: P.zip vs) m p=_
    unfold bindC
    rw [bindC_out fun v hv=>(List.nodup_cons.mp nd).1 (List.of_mem_zip hv).1,if_neg hk]
    simp
  | p :: P,w :: vs,i + 1,m,nd,h1,h2,hk=>by
    show bindC kindOf ((p,w) :: P.zip vs) m x=_
    unfold bindC
    exact bindC_get (i:=i) (List.nodup_cons.mp nd).2 (by simpa using h1) (by simpa using h2) hk
def start (N:List Str) (vs:List V):St:=vs.map some ++ List.replicate (N.length - vs.length) none
def cxOf (CX:CXT) (P:Program) (w:World) (K:PySem.W.Frag) (mg:Str->Option Value) (base:Heap) (N:List Str) (qual:Str) (scope:Scope) (f:Addr) (cd:Value) (A:Around) (outer:List Env) (s:Shared) (H:Hp) (E:XK):Cx where
  prog:=P
  w:=w
  K:=K
  mg:=mg
  base:=base
  A:=A.deeper (envOfC qual scope s.heap.objs.size f cd)
  N:=N
  s₀:=s
  H₀:=H
  env:=envOfC qual scope s.heap.objs.size f cd
  outer:=outer
  stack:=envOfC qual scope s.heap.objs.size f cd :: outer
  ex:=[]
  calm:=true
  fn:=fun _=>true
  pn:=[]
  xe:=fun e s'=>wpAny (model P w) (A.deeper (envOfC qual scope s.heap.objs.size f cd)) (leaving (envOfC qual scope s.heap.objs.size f cd) e) (fun _ s''=>CX outer H s E e s'') (fun e' s''=>CX outer H s E e' s'') s'
theorem cell_has {sc:Scope} {n:Nat} {x:Str} (h:sc.names.lookup x=some .cell):∃ c,(cellsFrom n sc.names []).lookup x=some c:=by
  have q:=PySem.W.cellsFrom_some sc.names n [] (.inl h)
  exact Option.isSome_iff_exists.mp q
theorem inv_start {CX:CXT} {P:Program} {w:World} {K:PySem.W.Frag} {mg:Str->Option Value} {base:Heap} {N ps:List Str} {qual:Str} {scope:Scope} {f:Addr} {cd:Value} {A:Around} {outer:List Env} {s s1:Shared} {H:Hp} {E:XK} {us:List Value} {vs:List V}
    (S:FnScope N ps scope) (hd:A.handled=none) (e0:Env0 P w K mg base A outer s H) (hl:vs.length=ps.length) (r:Vals vs us)
    (x:InCallC s s.heap.objs.size (bindL (envOfC qual scope s.heap.objs.size f cd).kindOf (ps.zip us) fun _=>none) (cellsFrom (s.heap.objs.size + 1) scope.names []) (bindC (envOfC qual scope s.heap.objs.size f cd).kindOf (ps.zip us) fun _=>none) s1) :
    Inv (cxOf CX P w K mg base N qual scope f cd A outer s H E) [] (start N vs) H s1:=by
  have hpl:ps.length<=N.length:=by have:=congrArg List.length S.pre; rw [List.length_take] at this; omega
  obtain ⟨h1,tk,rfl,hk⟩:=x.done
  have noA:∀ b:Addr,b∉(cxOf CX P w K mg base N qual scope f cd A outer s H E).ex:=fun b z=>absurd (show b∈([]:List Addr) from z) (by simp)
  refine ⟨⟨e0.mod,S.kind,rfl,rfl,O7 _,fun y z c h1 h2=>?_,fun y hy=>?_,fun y c _ h=>?_,fun _=>hd,Around.frames_deeper e0.frames,.inr ⟨rfl,rfl⟩,fun b z=>absurd z (noA b),e0.bs,e0.bsz,fun b _ _=>noA b,fun b z=>absurd z (noA b),e0.funs,e0.frf⟩,
    rfl,e0.bare,Un.kept hk,⟨_,x.toInCall.ns,fun i y v h1 h2 h3=>?_⟩,fun y c h=>⟨_,x.cell y c h⟩,e0.hok.fresh (O7 _),fun y c h=>?_,fun p hp=>absurd (show p∈([]:List (Addr × Obj)) from hp) (by simp),e0.hok.kept hk,?_⟩
  · exact name_of_addr x.apart (PySem.mem_of_lookup h1) (PySem.mem_of_lookup h2)
  · have hy:scope.names.lookup y=some .cell\/scope.names.lookup y=some .free:=hy
    rcases hy with hy | hy
    · exact cell_has hy
    · exact absurd rfl (S.nofree _ (PySem.mem_of_lookup hy))
  · exact D2 (x.above y c (PySem.mem_of_lookup h))
  · have hi:i < vs.length:=by
      unfold start at h2
      by_cases hi:i < vs.length
      · exact hi
      · rw [E4 (by simpa using hi)] at h2
        rw [List.getElem?_replicate] at h2
        split at h2 <;> cases h2
    have ha:vs[i]?=some v:=by
      unfold start at h2
      rw [O9 (by simpa using hi),E6] at h2
      cases e:vs[i]? with
      | none=>rw [e] at h2; cases h2
      | some a=>rw [e] at h2; cases h2; rfl
    obtain ⟨u,hu,rv⟩:=r.get ha
    have hp:ps[i]?=some y:=by
      rw [<- S.pre,List.getElem?_take_of_lt (by omega)]; exact h1
    have ndP:ps.Nodup:=by rw [<- S.pre]; exact S.nd.sublist (List.take_sublist _ _)
    refine ⟨u,rv,?_⟩
    rcases S.par y (D6 hp) with k | k
    · exact .inl ⟨k,bindL_get ndP hp hu k⟩
    · obtain ⟨c,e⟩:=cell_has (n:=s.heap.objs.size + 1) k
      refine .inr ⟨.inl k,c,e,?_⟩
      have q:=x.cell y c e
      rw [bindC_get ndP hp hu (by show scope.names.lookup y≠_; rw [k]; decide)] at q
      exact q
  · exact e0.hok.fresh (D2 (x.above y c (PySem.mem_of_lookup h)))
  · unfold start
    show _=N.length
    rw [D9,O2,List.length_replicate]
    omega
theorem fn_of {CX:CXT} {P:Program} {w:World} {K:PySem.W.Frag} {mg:Str->Option Value} {base:Heap} {k:Nat} {f:Addr} {name qual:Str} {params:Arguments} {body:List Stmt} {scope:Scope} {dV kV doc pm cdv ct oc:Value} {an od:Option Addr}
    {osl:Array (Option Value)} {N ps:List Str} {sp:Sp} (lk:K.lookup f=some ⟨oc,od,.func (PySem.W.fnOf name qual params body scope dV kV doc pm an cdv ct),osl⟩) (hcd:PySem.W.codeIn K cdv qual=true) (S:FnScope N ps scope)
    (len:∀ vs H Q E,sp vs H Q E->vs.length=ps.length)
    (hbody:∀ (A:Around) (outer:List Env) (s:Shared) (H:Hp) (vs:List V) (Q:VK) (E:XK),Room k (A.deeper (envOfC qual scope s.heap.objs.size f cdv))->sp vs H Q E ->
      ∃ t,PSs (cxOf CX P w K mg base N qual scope f cdv A outer s H E) body t/\t { nx:=fun _ H'=>Q .non H',rt:=Q } (start N vs) H) :
    FnOk P w K mg base CX (k + 1) f (PySem.W.fnOf name qual params body scope dV kV doc pm an cdv ct) ps sp:=by
  refine ⟨len,fun A outer s H args us vs Q E hr e0 hb r hsp=>?_⟩
  have hl:=len _ _ _ _ hsp
  have KX:K.In s.heap:=e0.mod.kin.keeps fun b o e=>(e0.bs b o e).1
  have lim:s.heap.NoLimit:=e0.mod.nolimit.keeps fun b o e=>(e0.bs b o e).1
  have hkind:∀ y∈ps.zip us,scope.names.lookup y.1=some .local\/(scope.names.lookup y.1=some .cell/\((cellsFrom (s.heap.objs.size + 1) scope.names []).lookup y.1).isSome=true):=fun ⟨n,v⟩ hy=>by
    rcases S.par n (List.of_mem_zip hy).1 with q | q
    · exact .inl q
    · exact .inr ⟨q,PySem.W.cellsFrom_some _ _ _ (.inl q)⟩
  refine codeAny_call_function hr.depth (KX _ _ lk) rfl S.co S.gen rfl (PySem.W.codeRec_of KX hcd) (hb _ _ _ _ ?_)
  refine wpAny_newFunctionEnv_cells S.kind hkind fun env he s1 x=>?_
  subst he
  refine ⟨lim.keeps x.toInCall.keep,codeAny_func ?_⟩
  obtain ⟨t,ht,hq⟩:=hbody A outer s H vs Q E (hr.deeper _) hsp
  have I:Inv (cxOf CX P w K mg base N qual scope f cdv A outer s H E) [] (start N vs) H s1:=inv_start S hr.hd e0 hl r x
  refine wpAny_mono (ht [] s1 (start N vs) H _ I hq) (fun fl s' hs=>?_) fun e s' hs=>hs
  have fin:∀ {σ':St} {H':Hp} {v:V} {u:Value},Inv (cxOf CX P w K mg base N qual scope f cdv A outer s H E) [] σ' H' s'->RelV v u->Q v H'->CE outer P w H s Q u s':=
    fun {σ' H' v u} J rv q=>⟨v,H',J.os,J.bare,J.base,J.hok,rv,q⟩
  cases fl with
  | ret u=>
    obtain ⟨v,σ',H',J,rv,q⟩:=hs
    exact fin J rv q
  | next=>
    obtain ⟨σ',H',J,q⟩:=hs
    exact fin (v:=V.non) (u:=Value.none) J rfl q
  | brk=>
    obtain ⟨_,_,_,q⟩:=hs
    exact False.elim q
  | cont=>
    obtain ⟨_,_,_,q⟩:=hs
    exact False.elim q
end L2
namespace L2
open PySem PySem.Spec PyProof.Rows
section
variable {X:Cx} {x:Str} {p pos:Pos} {e:Expr} {es:List Expr} {t:TA} {id T:String} {r:List V->Hp->VK->Prop}
def tCB (r:List V->Hp->VK->Prop) (t:TA):TE:=fun σ H Q=>t σ H fun vs H1=>r vs H1 Q
theorem Z0 (hc:X3 X (.builtin id) r) (hg:Gl X x) (hm:X.mg x=none) (hv:bootBuiltins x=some (.builtin id)) (ha:PA X (e :: es) t) (hn:x≠"__name__" := by decide) (hdb:(x == ("__debug__" : Str))=false:=by decide)
    (he:starEach (e :: es) X.env=(false,eval e X.env) :: starEach es X.env:=by rfl) (hpl:(backTo pos (starEach es X.env)).any (·.1)=false:=by rfl):PE X (.Call (.Name x p) (e :: es) [] pos) (tCB r t):=by
  intro pins s σ H Q I h
  refine wpAny_Call_Name_kw (ld_blt I hg hm hv ?_ hn hdb)
  exact PyProof.Rows.callWith_builtin1 (thn (ha pos pins s σ H _ I h) fun us s1 ⟨vs,H1,I1,r1,q1⟩=>hc pins s1 σ H1 vs us Q I1 r1 q1) he hpl
theorem pe_callTy (hc:X3 X (.type T) r) (hg:Gl X x) (hm:X.mg x=none) (hv:bootBuiltins x=some (.type T)) (ha:PA X (e :: es) t) (hn:x≠"__name__" := by decide) (hdb:(x == ("__debug__" : Str))=false:=by decide)
    (he:starEach (e :: es) X.env=(false,eval e X.env) :: starEach es X.env:=by rfl) (hpl:(backTo pos (starEach es X.env)).any (·.1)=false:=by rfl):PE X (.Call (.Name x p) (e :: es) [] pos) (tCB r t):=by
  intro pins s σ H Q I h
  refine wpAny_Call_Name_kw (ld_blt I hg hm hv ?_ hn hdb)
  exact PyProof.Rows.callWith_type1 (thn (ha pos pins s σ H _ I h) fun us s1 ⟨vs,H1,I1,r1,q1⟩=>hc pins s1 σ H1 vs us Q I1 r1 q1) he hpl
end
end L2
namespace HT
open PySem PyProof.Rows
def lexLt:List Int->List Int->Bool
  | [],[]=>false
  | [],_ :: _=>true
  | _ :: _,[]=>false
  | x :: xs,y :: ys=>if x=y then lexLt xs ys else decide (x < y)
theorem lexLt_cons (x y:Int) (xs ys:List Int):lexLt (x :: xs) (y :: ys)=if x=y then lexLt xs ys else decide (x < y):=rfl
theorem lexLt_nil_nil:lexLt [] []=false:=rfl
theorem lexLt_nil_cons (y:Int) (ys:List Int):lexLt [] (y :: ys)=true:=rfl
theorem lexLt_cons_nil (x:Int) (xs:List Int):lexLt (x :: xs) []=false:=rfl
theorem eqAt_int (A:Around) (s:Shared) (a:Int) (t:Tok) (c:Int) (u:Tok):∃ e,SeqAt.EqAt A s (.int a t) (.int c u) e/\(e=true <-> a=c):=
  ⟨(a == c),SeqAt.EqAt.int_int a t c u,by simp⟩
theorem rcLt_int (A:Around) (s:Shared) (a:Int) (t:Tok) (c:Int) (u:Tok) (prog:Program) (w:World) (E:Value->Shared->Prop) (Q:Value->Shared->Prop) (h:Q (.bool (decide (a < c))) s) :
    wpAny (model prog w) A (richCompare .Lt (.int a t) (.int c u)) Q E s:=
  (PyProof.Rows.lt_int h:wpAny (model prog w) A (compareOp .Lt (.int a t) (.int c u)) Q E s)
section
open PySem.SeqAt
open PySem.AutoSeq1 (wpAny_loadPart')
open PySem.MeetsSeq PySem.MeetsSeq2 PySem.MeetsSeq3
theorem tuple_lt_ints (l b:Addr) (items items2:Array Value) (n n2:Nat) (dd dd2:Option Addr) (sl sl2:Array (Option Value)) (ns ms:List Int) (hi:IntsAre items.toList ns) (hj:IntsAre items2.toList ms) :
    Meets (Builtin.«tuple.__lt__» ⟨[.ref l,.ref b],[]⟩)
      (fun _ R s=>s.heap.get? l=some { cls:=.type "tuple",dict:=dd,data:=.seq items n,slots:=sl }/\s.heap.get? b=some { cls:=.type "tuple",dict:=dd2,data:=.seq items2 n2,slots:=sl2 } /\
        R (.ok (.ret (.bool (lexLt ns ms)))) s):=
  .of_wp fun prog w A R s h=>by
    obtain ⟨hp,g,d,tk,os⟩:=s; obtain ⟨hl,hb,h⟩:=h
    have f2:=AutoSeq1.sub_tuple_tuple
    have z1:items.size=ns.length:=by rw [<- hi.length]; simp
    have z2:items2.size=ms.length:=by rw [<- hj.length]; simp
    wp_walk using wpAny_loadPart' hl,wpAny_loadPart' hb,wpAny_forIn_list _ (fun rest b s'=>b.1=none/\s'=⟨hp,g,d,tk,os⟩/\∃ (vs ws:List Value) (ns' ms':List Int),rest=vs.zip ws /\
      IntsAre vs ns'/\IntsAre ws ms'/\ns'.length + items2.size=ms'.length + items.size/\R (.ok (.ret (.bool (lexLt ns' ms')))) ⟨hp,g,d,tk,os⟩) _
    case turn=>
      rintro ⟨y,x⟩ rest b s' ⟨hb',rfl,vs,ws,ns',ms',hz,hvi,hwi,hlen,hR⟩
      cases hvi with
      | nil=>rw [List.zip_nil_left] at hz; cases hz
      | cons a t hvi'=>
        cases hwi with
        | nil=>rw [List.zip_nil_right] at hz; cases hz
        | cons c u hwi'=>
          rw [List.zip_cons_cons] at hz
          injection hz with hyx hrest
          injection hyx with hy hx
          subst hy hx
          rw [lexLt_cons] at hR
          simp only [D7] at hlen
          obtain ⟨e,he,hiff⟩:=eqAt_int A.in1 ⟨hp,g,d,tk,os⟩ a t c u
          refine wpAny_bind (he prog w _ _ ?_)
          cases e with
          | true=>
            rw [if_pos (hiff.mp rfl)] at hR
            wp_walk
            exact ⟨rfl,rfl,_,_,_,_,hrest,hvi',hwi',by omega,hR⟩
          | false=>
            rw [if_neg (fun q=>absurd (hiff.mpr q) O8)] at hR
            have hri:=rcLt_int A.in1 ⟨hp,g,d,tk,os⟩ a t c u prog w
            wp_walk using hri
            exact ⟨_,rfl,by simpa using hR⟩
    case fin=>
      rintro ⟨b1,b2⟩ s' ⟨hb',rfl,vs,ws,ns',ms',hz,hvi,hwi,hlen,hR⟩
      simp only at hb'
      subst hb'
      have hv:lexLt ns' ms'=decide (items.size < items2.size):=by
        cases hvi with
        | nil=>
          cases hwi with
          | nil=>
            simp only [List.length_nil] at hlen
            rw [lexLt_nil_nil]
            exact (decide_eq_false (by omega)).symm
          | cons c u hw=>
            simp only [List.length_nil,D7] at hlen
            rw [lexLt_nil_cons]
            exact (decide_eq_true (by omega)).symm
        | cons a t hv=>
          cases hwi with
          | nil=>
            simp only [List.length_nil,D7] at hlen
            rw [lexLt_cons_nil]
            exact (decide_eq_false (by omega)).symm
          | cons c u hw=>
            rw [List.zip_cons_cons] at hz
            cases hz
      rw [hv] at hR
      wp_walk
      exact ⟨_,rfl,by simpa [Builtin.Tuple.tupleCompareSizes] using hR⟩
    case h=>
      exact ⟨rfl,rfl,items.toList,items2.toList,ns,ms,rfl,hi,hj,by omega,h⟩
end
section
variable {prog:Program} {w:World} {A:Around} {E:Value->Shared->Prop} {s:Shared}
theorem lt_tupInts {l b:Addr} {items items2:Array Value} {ns ms:List Int} {Q:Value->Shared->Prop} (hl:IsTup s.heap l items) (hb:IsTup s.heap b items2) (hi:IntsAre items.toList ns) (hj:IntsAre items2.toList ms)
    (hu:A.units < cLine) (h:Q (.bool (lexLt ns ms)) s):wpAny (model prog w) A (compareOp .Lt (.ref l) (.ref b)) Q E s:=by
  obtain ⟨⟨cls,dd,data,sl⟩,ho,hc,n,hd⟩:=id hl
  obtain ⟨⟨cls2,dd2,data2,sl2⟩,ho2,hc2,n2,hd2⟩:=id hb
  simp only at hc hd hc2 hd2
  subst hc hd hc2 hd2
  exact richCompare_meets_room (op:=.Lt) ⟨_,ho,rfl⟩ ⟨_,ho2,rfl⟩ PySem.F.slot_tuple_lt PySem.F.entry_tuple_lt (PySem.F.args_tuple_lt_2 _ _) (tuple_lt_ints l b items items2 n n2 dd dd2 sl sl2 ns ms hi hj)
    ⟨ho,ho2,show Value.bool (lexLt ns ms)≠Value.notImplemented/\Q (.bool (lexLt ns ms)) s from ⟨(fun x=>nomatch x),h⟩⟩ hu
theorem cat_tup {t b:Addr} {vs ws:List Value} {Q:Value->Shared->Prop} (ht:IsTup s.heap t vs.toArray) (hb:IsTup s.heap b ws.toArray) (hv:vs≠[])
    (h1:ws=[]->Q (.ref t) s) (h2:ws≠[]->Q (.ref s.heap.objs.size) { s with heap:=s.heap.push { cls:=.type "tuple",data:=.seq (vs ++ ws).toArray } })
    (hsz:vs.length + ws.length<=sizeLine):wpAny (model prog w) A (binaryOp .Add (.ref t) (.ref b)) Q E s:=by
  obtain ⟨⟨cls,dd,data,sl⟩,ho,hc,n,hd⟩:=id ht
  obtain ⟨⟨cls2,dd2,data2,sl2⟩,ho2,hc2,n2,hd2⟩:=id hb
  simp only at hc hd hc2 hd2
  subst hc hd hc2 hd2
  have e:vs.toArray ++ ws.toArray=(vs ++ ws).toArray:=by simp
  by_cases hw:ws=[]
  · exact concat_meets ⟨_,ho,rfl⟩ ⟨_,ho2,rfl⟩ noFill_tuple_add seq_tuple_add PySem.F.slot_tuple_add PySem.F.entry_tuple_add (PySem.F.args_tuple_add_2 _ _)
      (tuple_addW1 t b vs.toArray ws.toArray n n2 dd dd2 sl sl2 (by simpa using hv) (by simp [hw])) ⟨ho,ho2,h1 hw⟩
  · refine concat_meets ⟨_,ho,rfl⟩ ⟨_,ho2,rfl⟩ noFill_tuple_add seq_tuple_add PySem.F.slot_tuple_add PySem.F.entry_tuple_add (PySem.F.args_tuple_add_2 _ _)
      (tuple_addW2 t b vs.toArray ws.toArray n n2 dd dd2 sl sl2 (by simpa using hv) (by simpa using hw) (by rw [O3,O3]; exact hsz)) ⟨ho,ho2,?_⟩
    rw [e]
    exact h2 hw
def sIx (n d:Nat):Option Int->Nat
  | none=>d
  | some v=>if v < 0 then (v + (n:Int)).toNat else min v.toNat n
theorem sIx_none (n d:Nat):sIx n d none=d:=rfl
theorem sIx_nat (n d k:Nat):sIx n d (some (k:Int))=min k n:=by
  show (if (k:Int) < 0 then ((k:Int) + (n:Int)).toNat else min (k:Int).toNat n)=min k n
  rw [if_neg (by omega),Int.toNat_natCast]
theorem sIx_le (n d:Nat) (hd:d<=n) (o:Option Int):sIx n d o<=n:=by
  cases o with
  | none=>exact hd
  | some v=>
    show (if v < 0 then (v + (n:Int)).toNat else min v.toNat n)<=n
    by_cases hv:v < 0
    · rw [if_pos hv]; omega
    · rw [if_neg hv]; exact Nat.min_le_right _ _
theorem clip_eq (v:Int) (n d:Nat):(if v < 0 then max (v + (n:Int)) 0 else min v (n:Int))=((sIx n d (some v):Nat):Int):=by
  show (if v < 0 then max (v + (n:Int)) 0 else min v (n:Int))=(((if v < 0 then (v + (n:Int)).toNat else min v.toNat n):Nat):Int)
  by_cases hv:v < 0
  · simp only [if_pos hv]; omega
  · simp only [if_neg hv]; omega
theorem adjust_gen (lo hi:Option Int) (n:Nat):Builtin.Slice.sliceAdjust lo hi 1 (n:Int)=(((sIx n 0 lo:Nat):Int),((sIx n n hi:Nat):Int)):=by
  have h1:¬ ((1:Int) < 0):=by omega
  unfold Builtin.Slice.sliceAdjust
  simp only [h1,if_false]
  refine Prod.ext ?_ ?_
  · cases lo with
    | none=>rfl
    | some v=>exact clip_eq v n 0
  · cases hi with
    | none=>rfl
    | some v=>exact clip_eq v n n
theorem places_gen (i j:Nat):Builtin.Slice.slicePlaces (i:Int) (j:Int) 1=j - i:=by
  unfold Builtin.Slice.slicePlaces
  have h1:(1:Int) > 0:=by omega
  simp only [h1,if_true,Int.ediv_one]
  split <;> omega
theorem slicePart_ {v:Value} {o:Option Int} {Q:Option Int->Shared->Prop} (p:IsPart v o) (h:Q o s):wpAny (model prog w) A (Builtin.Slice.slicePartIndex v) Q E s:=by
  cases p with
  | none=>exact slicePart_none h
  | int i t=>exact slicePart_int h
theorem sliceApplied_gen {sl:Addr} {vl vu:Value} {lo hi:Option Int} {n:Nat} {Q:Int × Int × Nat->Shared->Prop} (hs:s.heap.IsSliceOf sl vl vu .none) (pl:IsPart vl lo) (pu:IsPart vu hi)
    (h:Q (((sIx n 0 lo:Nat):Int),1,sIx n n hi - sIx n 0 lo) s):wpAny (model prog w) A (Builtin.Slice.sliceApplied (.ref sl) (pure (n:Int))) Q E s:=by
  obtain ⟨os,hos,hcs,hds⟩:=id hs
  unfold Builtin.Slice.sliceApplied Builtin.Slice.sliceFields
  refine wpAny_bind (wpAny_bind (wpAny_field hos hds (x:=vl) rfl (wpAny_bind (wpAny_field hos hds (x:=vu) rfl (wpAny_bind (wpAny_field hos hds (x:=.none) rfl (wpAny_pure ?_)))))))
  refine wpAny_bind (slicePart_none ?_)
  show wpAny _ _ (if ((1:Int) == 0)=true then _ else _) _ _ s
  rw [if_neg (by decide)]
  refine wpAny_bind (slicePart_ pl (wpAny_bind (slicePart_ pu (wpAny_bind (wpAny_pure ?_)))))
  show wpAny _ _ (match Builtin.Slice.sliceAdjust lo hi 1 (n:Int) with | (lo,hi)=>pure (lo,(1:Int),Builtin.Slice.slicePlaces lo hi 1)) _ _ s
  rw [adjust_gen lo hi n]
  show wpAny _ _ (pure (((sIx n 0 lo:Nat):Int),(1:Int),Builtin.Slice.slicePlaces ((sIx n 0 lo:Nat):Int) ((sIx n n hi:Nat):Int) 1)) _ _ s
  rw [places_gen]
  exact wpAny_pure h
theorem pick_gen (xs:Array Value) (i k:Nat):((List.range k).filterMap fun (m:Nat)=>xs[((i:Int) + (m:Int) * 1).toNat]?).toArray=((xs.toList.drop i).take k).toArray:=by
  have e:(fun (m:Nat)=>xs[((i:Int) + (m:Int) * 1).toNat]?)=fun m=>xs[i + m]?:=by
    funext m
    have:((i:Int) + (m:Int) * 1).toNat=i + m:=by omega
    rw [this]
  rw [e]
  have:=pick_run xs i k
  rw [List.filterMap_map] at this
  have e2:((fun x=>xs[x]?) ∘ fun x=>i + x)=fun m=>xs[i + m]?:=rfl
  rw [e2] at this
  rw [this]
theorem getItem_tuple_cut {t sl:Addr} {items:Array Value} {vl vu:Value} {lo hi:Option Int} {Q:Value->Shared->Prop} (ht:IsTup s.heap t items) (hs:s.heap.IsSliceOf sl vl vu .none) (pl:IsPart vl lo) (pu:IsPart vu hi)
    (hw:¬ (sIx items.size 0 lo=0/\sIx items.size items.size hi=items.size))
    (h:Q (.ref s.heap.objs.size) { s with heap:=s.heap.push { cls:=.type "tuple",data:=.seq ((items.toList.drop (sIx items.size 0 lo)).take (sIx items.size items.size hi - sIx items.size 0 lo)).toArray } })
    (hsz:items.size<=sizeLine):wpAny (model prog w) A (getItem (.ref t) (.ref sl)) Q E s:=by
  have htake:sizeOk (.seq ((items.toList.drop (sIx items.size 0 lo)).take (sIx items.size items.size hi - sIx items.size 0 lo)).toArray):=by
    show ((items.toList.drop (sIx items.size 0 lo)).take (sIx items.size items.size hi - sIx items.size 0 lo)).toArray.size<=sizeLine
    rw [O3,List.length_take,List.length_drop,Array.length_toList]
    omega
  have hj:sIx items.size items.size hi<=items.size:=sIx_le _ _ (O7 _) hi
  obtain ⟨os,hos,hcs,hds⟩:=id hs
  have hTs:s.TypeIs (.ref sl) "slice" := ⟨os,hos,hcs⟩
  unfold getItem
  try with_reducible refine wpAny_holding ?_
  first | refine wpAny_bind (wpAny_pure ?_) | skip
  refine wpAny_bind (wpAny_sequenceKey ht.typeIs (by decide) ?_)
  refine wpAny_bind (wpAny_callSpecial?_slot (name:=Str.ofString "__getitem__") ht.typeIs PyProof.Rows.slot_tuple_getitem
    (wpAny_call_entry PyProof.Rows.slot_tuple_getitem ht.typeIs entry_tuple_getitem ?_ (args_tuple_getitem _ _)))
  show wpAny _ _ (Builtin.Tuple.tupleItemsOf (.ref t) >>= _) _ _ s
  refine wpAny_bind (tupleItemsOf_ ht ?_)
  refine wpAny_bind (wpAny_typeOf hTs ?_)
  rw [if_pos (by decide)]
  refine wpAny_bind (sliceApplied_gen hs pl pu ?_)
  have hno:¬ ((((sIx items.size 0 lo:Nat):Int) == 0 && (1:Int) == 1 && (sIx items.size items.size hi - sIx items.size 0 lo) == items.size)=true):=by
    intro q
    rw [F3,F3] at q
    have q1:((sIx items.size 0 lo:Nat):Int)=0:=eq_of_beq q.1.1
    have q2:sIx items.size items.size hi - sIx items.size 0 lo=items.size:=eq_of_beq q.2
    exact hw ⟨by omega,by omega⟩
  show wpAny _ _ (if (((sIx items.size 0 lo:Nat):Int) == 0 && (1:Int) == 1 && (sIx items.size items.size hi - sIx items.size 0 lo) == items.size)=true then _ else _) _ _ s
  rw [if_neg hno,pick_gen]
  first
    | exact wpAny_bind (m:=Builtin.Tuple.tupleExact _) (wpAny_newObj_type (wpAny_pure ⟨_,rfl,wpAny_pure h⟩) htake)
    | exact wpAny_bind (m:=Builtin.Tuple.tupleExact _) (wpAny_newObj_type (wpAny_bind (wpAny_pure (wpAny_pure ⟨_,rfl,wpAny_pure h⟩))) htake)
    | exact wpAny_bind (wpAny_bind (m:=Builtin.Tuple.tupleExact _) (wpAny_newObj_type (wpAny_pure (wpAny_pure ⟨_,rfl,wpAny_pure h⟩)) htake))
    | exact wpAny_bind (wpAny_bind (m:=Builtin.Tuple.tupleExact _) (wpAny_newObj_type (wpAny_pure ⟨_,rfl,wpAny_pure h⟩) htake))
end
end HT
namespace L2
open PySem PySem.Spec PyProof.Rows
abbrev TO:=St->Hp->(Option Int->Hp->Prop)->Prop
def PO (X:Cx) (e:Option Expr) (t:TO):Prop:=
  ∀ (pins:List (Addr × Obj)) (s:Shared) (σ:St) (H:Hp) (Q:Option Int->Hp->Prop),Inv X pins σ H s->t σ H Q ->
    wpAny (model X.prog X.w) X.A (evalPart e X.env) (fun u s'=>∃ o H',Inv X pins σ H' s'/\IsPart u o/\Q o H') X.xe s
def tNoPart:TO:=fun _ H Q=>Q none H
def tPart (t:TE):TO:=fun σ H Q=>t σ H fun x H1=>∃ i,x=.int i/\Q (some i) H1
theorem intsAre_of {ns:List Int}:∀ {us:List Value},Vals (ns.map V.int) us->IntsAre us ns:=by
  induction ns with
  | nil=>intro us r; rw [List.map_nil] at r; cases r; exact .nil
  | cons n ns ih=>
    intro us r
    rw [F5] at r
    cases r with
    | cons r1 r2=>
      obtain ⟨t,e⟩:=r1
      subst e
      exact .cons n t (ih r2)
section
variable {X:Cx} {e:Expr} {te:TE} {lo hi:Option Expr} {tl th:TO} {pos p2:Pos}
theorem po_none:PO X none tNoPart:=by
  intro pins s σ H Q I h
  rw [evalPart_none]
  exact wpAny_pure ⟨none,H,I,.none,h⟩
theorem po_some (h:PE X e te):PO X (some e) (tPart te):=by
  intro pins s σ H Q I hw
  rw [evalPart_some]
  refine thn (h pins s σ H _ I hw) fun u s1 ⟨x,H1,I1,r1,q1⟩=>?_
  obtain ⟨i,rfl,q⟩:=q1
  obtain ⟨t,rfl⟩:=r1
  exact ⟨some i,H1,I1,.int i t,q⟩
def SlR (X:Cx) (r:V->Option Int->Option Int->Hp->VK->Prop):Prop:=
  ∀ (pins:List (Addr × Obj)) (s:Shared) (σ:St) (H:Hp) (x:V) (v vl vu:Value) (lo hi:Option Int) (sl:Addr) (Q:VK),Inv X pins σ H s->RelV x v->s.heap.IsSliceOf sl vl vu .none->IsPart vl lo->IsPart vu hi->r x lo hi H Q ->
    ∃ T id,typeLookup (.type T) "__getitem__" = pure (some (.builtin id))/\s.TypeIs v T/\wpAny (model X.prog X.w) X.A (getItem v (.ref sl)) (EP X pins σ Q) X.xe s
theorem SlR.or {r r':V->Option Int->Option Int->Hp->VK->Prop} (h:SlR X r) (h':SlR X r'):SlR X (fun x lo hi H Q=>r x lo hi H Q\/r' x lo hi H Q):=by
  intro pins s σ H x v vl vu lo hi sl Q I rx hs pl pu q
  rcases q with q | q
  · exact h pins s σ H x v vl vu lo hi sl Q I rx hs pl pu q
  · exact h' pins s σ H x v vl vu lo hi sl Q I rx hs pl pu q
def tSl (r:V->Option Int->Option Int->Hp->VK->Prop) (te:TE) (tl th:TO):TE:=fun σ H Q=>te σ H fun x H1=>tl σ H1 fun l H2=>th σ H2 fun u H3=>r x l u H3 Q
theorem pe_slice {r:V->Option Int->Option Int->Hp->VK->Prop} (hr:SlR X r) (he:PE X e te) (hl:PO X lo tl) (hu:PO X hi th):PE X (.Subscript e (.Slice lo hi none p2) pos) (tSl r te tl th):=by
  intro pins s σ H Q I h
  refine Subscript_ (thn (he pins s σ H _ I h) fun v s1 ⟨x,H1,I1,r1,q1⟩=>?_)
  refine wpAny_Slice (thn (hl pins s1 σ H1 _ I1 q1) fun vl s2 ⟨l,H2,I2,pl,q2⟩=>thn (hu pins s2 σ H2 _ I2 q2) fun vu s3 ⟨u,H3,I3,pu,q3⟩=>?_)
  rw [evalPart_none]
  refine wpAny_pure ?_
  have I4:Inv X pins σ H3 { s3 with heap:=s3.heap.push { cls:=.type "slice",data:=.fields #[vl,vu,.none] } }:=I3.kept (t':=s3.toks) fun b ob q=>O0 _ q
  obtain ⟨T,id,hT,ht,hg⟩:=hr pins { s3 with heap:=s3.heap.push { cls:=.type "slice",data:=.fields #[vl,vu,.none] } } σ H3 x v vl vu l u s3.heap.objs.size Q I4 r1 (Heap.IsSliceOf.new ..) pl pu q3
  show wpAny (model X.prog X.w) X.A (subscriptTail e (.Slice lo hi none p2) v (.ref s3.heap.objs.size)) (EP X pins σ Q) X.xe { s3 with heap:=s3.heap.push { cls:=.type "slice",data:=.fields #[vl,vu,.none] } }
  exact tail_any (ops:=[.ref s3.heap.objs.size,v]) ht hT hg (by with_unfolding_all rfl)
def cutV (xs:List V) (lo hi:Option Int):List V:=(xs.drop (HT.sIx xs.length 0 lo)).take (HT.sIx xs.length xs.length hi - HT.sIx xs.length 0 lo)
theorem cutV_length (xs:List V) (lo hi:Option Int):(cutV xs lo hi).length<=xs.length:=by
  unfold cutV
  rw [List.length_take,List.length_drop]
  omega
def rSlT (K:PySem.W.Frag):V->Option Int->Option Int->Hp->VK->Prop:=fun x lo hi H Q=>∃ a xs,x=.ref a/\SqT K H a xs /\
  ¬ (HT.sIx xs.length 0 lo=0/\HT.sIx xs.length xs.length hi=xs.length)/\∀ p,H p=none->Q (.ref p) (upd H p (.tup (cutV xs lo hi)))
theorem sl_tup:SlR X (rSlT X.K):=by
  intro pins s σ H x v vl vu lo hi sl Q I rx hs pl pu h
  obtain ⟨a,xs,rfl,hx,hw,q⟩:=h
  cases rx
  obtain ⟨its,r,ht,hz⟩:=I.tuple hx
  have hlen:its.toArray.size=xs.length:=by rw [O3]; exact r.length.symm
  refine ⟨"tuple",_,PyProof.Rows.slot_tuple_getitem.lookup,ht.typeIs,?_⟩
  refine HT.getItem_tuple_cut ht hs pl pu (by rw [hlen]; exact hw) ?_ (by rw [hlen]; exact hz)
  rw [hlen]
  refine ⟨.ref s.heap.objs.size,_,I.laid (t':=s.toks) (o:=.tup (cutV xs lo hi)) (fun b ob q=>O0 _ q) (O7 _) ?_,rfl,q _ (I.hok.fresh (O7 _))⟩
  exact ⟨E3 (cutV_length xs lo hi) hz,_,(r.drop (HT.sIx xs.length 0 lo)).take (HT.sIx xs.length xs.length hi - HT.sIx xs.length 0 lo),IsTup.new _ _⟩
def rLtT (K:PySem.W.Frag):R2:=fun x y H Q=>∃ a b ns ms,x=.ref a/\y=.ref b/\SqT K H a (ns.map V.int)/\SqT K H b (ms.map V.int)/\Q (.bl (HT.lexLt ns ms)) H
theorem op_ltT (hu:X.A.units < cLine):OpR X (compareOp .Lt) (rLtT X.K):=by
  intro pins s σ H x y v u Q I rx ry h
  obtain ⟨a,b,ns,ms,rfl,rfl,ha,hb,q⟩:=h
  cases rx
  cases ry
  obtain ⟨its,r1,p1,_⟩:=I.tuple ha
  obtain ⟨its2,r2,p2,_⟩:=I.tuple hb
  have i1:IntsAre its.toArray.toList ns:=intsAre_of r1
  have i2:IntsAre its2.toArray.toList ms:=intsAre_of r2
  exact HT.lt_tupInts p1 p2 i1 i2 hu ⟨.bl (HT.lexLt ns ms),H,I,rfl,q⟩
def rCatT (K:PySem.W.Frag):R2:=fun x y H Q=>∃ a b xs ys,x=.ref a/\y=.ref b/\SqT K H a xs/\SqT K H b ys/\xs≠[]/\xs.length + ys.length<=sizeLine /\
  (ys=[]->Q (.ref a) H)/\(ys≠[]->∀ p,H p=none->Q (.ref p) (upd H p (.tup (xs ++ ys))))
theorem Vals.nil_iff {xs:List V} {us:List Value} (r:Vals xs us):us=[] <-> xs=[]:=by
  cases r with
  | nil=>simp
  | cons _ _=>simp
theorem op_catT:OpR X (binaryOp .Add) (rCatT X.K):=by
  intro pins s σ H x y v u Q I rx ry h
  obtain ⟨a,b,xs,ys,rfl,rfl,ha,hb,hx,hz,q1,q2⟩:=h
  cases rx
  cases ry
  obtain ⟨its,r1,p1,_⟩:=I.tuple ha
  obtain ⟨its2,r2,p2,_⟩:=I.tuple hb
  refine HT.cat_tup p1 p2 (fun z=>hx (r1.nil_iff.mp z)) (fun z=>⟨.ref a,H,I,rfl,q1 (r2.nil_iff.mp z)⟩) (fun z=>?_) (by rw [<- r1.length,<- r2.length]; exact hz)
  refine ⟨.ref s.heap.objs.size,_,I.laid (t':=s.toks) (o:=.tup (xs ++ ys)) (fun b ob q=>O0 _ q) (O7 _) ?_,rfl,q2 (fun w=>z (r2.nil_iff.mpr w)) _ (I.hok.fresh (O7 _))⟩
  exact ⟨by rw [D9]; exact hz,_,r1.append r2,IsTup.new _ _⟩
end
end L2
namespace L2
open PySem PySem.Spec PyProof.Rows
def ixN (n:Nat) (i:Int):Option Nat:=if 0<=i then (if i < n then some i.toNat else none) else if -(n:Int)<=i then some (i + n).toNat else none
def atI {α:Type} (xs:List α) (i:Int):Option α:=(ixN xs.length i).bind fun j=>xs[j]?
theorem ixN_seq {n:Nat} {i:Int} {j:Nat} (h:ixN n i=some j):seqIndex? i n=some j/\j < n/\-(n:Int)<=i/\i < n:=by
  unfold ixN at h
  by_cases h0:0<=i
  · rw [if_pos h0] at h
    by_cases h1:i < n
    · rw [if_pos h1] at h
      have e:i.toNat=j:=Option.some.inj h
      exact ⟨by rw [seqIndex_of h0 h1,e],by omega,by omega,h1⟩
    · rw [if_neg h1] at h; cases h
  · rw [if_neg h0] at h
    by_cases h1:-(n:Int)<=i
    · rw [if_pos h1] at h
      have e:(i + n).toNat=j:=Option.some.inj h
      exact ⟨by rw [seqIndex_neg (by omega) h1,e],by omega,h1,by omega⟩
    · rw [if_neg h1] at h; cases h
theorem atI_get {α:Type} {xs:List α} {i:Int} {v:α} (h:atI xs i=some v):∃ j,seqIndex? i xs.length=some j/\xs[j]?=some v/\j < xs.length/\-(xs.length:Int)<=i/\i < xs.length:=by
  unfold atI at h
  cases e:ixN xs.length i with
  | none=>rw [e] at h; cases h
  | some j=>
    rw [e] at h
    obtain ⟨h1,h2,h3,h4⟩:=ixN_seq e
    exact ⟨j,h1,h,h2,h3,h4⟩
def PlainIx (b:Expr):Prop:=∀ o i,subscripted b false o i=operate [o,i] (getItem o i)
def IxR (X:Cx) (r:R2):Prop:=
  ∀ (value slice:Expr) (pins:List (Addr × Obj)) (s:Shared) (σ:St) (H:Hp) (x y:V) (v u:Value) (Q:VK),Inv X pins σ H s->RelV x v->RelV y u->r x y H Q ->
    subscripted slice false v u=operate [v,u] (getItem v u)->wpAny (model X.prog X.w) X.A (subscriptTail value slice v u) (EP X pins σ Q) X.xe s
def MtR (X:Cx) (id:String) (r:V->List V->Hp->VK->Prop):Prop:=
  ∀ (pins:List (Addr × Obj)) (s:Shared) (σ:St) (H:Hp) (x:V) (xs:List V) (v:Value) (us:List Value) (Q:VK),Inv X pins σ H s->RelV x v->Vals xs us->r x xs H Q ->
    wpAny (model X.prog X.w) X.A (call (.builtin id) (v :: us)) (EP X pins σ Q) X.xe s
section
variable {X:Cx} {a b:Expr} {ta tb:TE} {pos:Pos}
theorem IxR.or {r r':R2} (h:IxR X r) (h':IxR X r'):IxR X (fun x y H Q=>r x y H Q\/r' x y H Q):=by
  intro value slice pins s σ H x y v u Q I rx ry q hs
  rcases q with q | q
  · exact h value slice pins s σ H x y v u Q I rx ry q hs
  · exact h' value slice pins s σ H x y v u Q I rx ry q hs
theorem pe_ix {r:R2} (hr:IxR X r) (ha:PE X a ta) (hb:PE X b tb) (hs:PlainIx b):PE X (.Subscript a b pos) (tOp r ta tb):=by
  intro pins s σ H Q I h
  exact Subscript_ (binT ha hb I h fun v u s2 x y H2 I2 rx ry q=>hr a b pins s2 σ H2 x y v u Q I2 rx ry q (hs _ _))
def rIxL (K:PySem.W.Frag):R2:=fun x y H Q=>∃ p xs i v,x=.ref p/\y=.int i/\SqL K H p xs/\atI xs i=some v/\Q v H
def rIxT (K:PySem.W.Frag):R2:=fun x y H Q=>∃ p xs i v,x=.ref p/\y=.int i/\SqT K H p xs/\atI xs i=some v/\Q v H
def rIxS:R2:=fun x y H Q=>∃ z i c,x=.str z/\y=.int i/\z.length<=sizeLine/\atI z.cps.toList i=some c/\Q (.str ⟨#[c]⟩) H
theorem ix_list:IxR X (rIxL X.K):=by
  intro value slice pins s σ H x y v u Q I rx ry h hs
  obtain ⟨p,xs,i,z,rfl,rfl,hq,he,q⟩:=h
  cases rx
  obtain ⟨t,rfl⟩:=ry
  obtain ⟨its,r,pl,hz⟩:=I.list hq
  obtain ⟨j,h1,h2,h3,h4,h5⟩:=atI_get he
  obtain ⟨w,ew,rw'⟩:=r.get h2
  have hl:=r.length
  have hn:=line63
  have fin:EP X pins σ Q w s:=⟨z,H,I,rw',q⟩
  by_cases h0:0<=i
  · have hj:i.toNat=j:=by
      rw [seqIndex_of h0 h5] at h1
      exact Option.some.inj h1
    exact item_listR pl.isList h0 (by omega) (by rw [hj]; simpa using ew) fin hs
  · have hj:(i + (its.toArray.size:Int)).toNat=j:=by
      rw [seqIndex_neg (by omega) h4] at h1
      rw [O3,<- hl]
      exact Option.some.inj h1
    exact subscriptTail_builtinR (x:=w) pl.isList.typeIs slot_list_getitem.lookup
      (wpAny_getItem_list_neg (Q:=fun r s'=>r=w/\EP X pins σ Q r s') pl.isList (by omega) (by rw [O3] <;> omega) (by omega) (by rw [hj]; simpa using ew) ⟨rfl,fin⟩) hs
theorem ix_tup:IxR X (rIxT X.K):=by
  intro value slice pins s σ H x y v u Q I rx ry h hs
  obtain ⟨p,xs,i,z,rfl,rfl,hq,he,q⟩:=h
  cases rx
  obtain ⟨t,rfl⟩:=ry
  obtain ⟨its,r,pl,hz⟩:=I.tuple hq
  obtain ⟨j,h1,h2,h3,h4,h5⟩:=atI_get he
  obtain ⟨w,ew,rw'⟩:=r.get h2
  have hl:=r.length
  have hn:=line63
  have fin:EP X pins σ Q w s:=⟨z,H,I,rw',q⟩
  exact subscriptTail_builtinR (x:=w) pl.typeIs slot_tuple_getitem.lookup
    (getItem_tuple (j:=j) (Q:=fun r s'=>r=w/\EP X pins σ Q r s') pl (by omega) (by omega) (by rw [O3,<- hl]; exact h1) (by simpa using ew) ⟨rfl,fin⟩) hs
theorem ix_str:IxR X rIxS:=by
  intro value slice pins s σ H x y v u Q I rx ry h hs
  obtain ⟨z,i,c,rfl,rfl,hz,he,q⟩:=h
  obtain ⟨t,rfl⟩:=rx
  obtain ⟨t',rfl⟩:=ry
  obtain ⟨j,h1,h2,h3,h4,h5⟩:=atI_get he
  have hl:z.cps.toList.length=z.length:=by simp [Str.length]
  rw [hl] at h1 h4 h5
  have hn:=line63
  exact tail_any (typeIs_str s z t) slot_str_getitem.lookup (getItem_str (c:=c) (by
    have e1:decide (i < -(2 ^ 63:Int))=false:=decide_eq_false (by omega)
    have e2:decide (i>=2 ^ 63)=false:=decide_eq_false (by omega)
    rw [e1,e2,Bool.or_false]) (by rw [h1]; simpa using h2) ⟨.str ⟨#[c]⟩,H,I.tok _,⟨_,rfl⟩,q⟩) hs
def rIx (K:PySem.W.Frag):R2:=fun x y H Q=>rIxL K x y H Q\/rIxT K x y H Q\/rIxS x y H Q
theorem ix_seq:IxR X (rIx X.K):=ix_list.or (ix_tup.or ix_str)
theorem mapSeq_set (its:List Value) (n j:Nat) (u:Value):Obj.mapSeq (·.setIfInBounds j u) { cls:=.type "list",data:=.seq its.toArray n }={ cls:=.type "list",data:=.seq (its.set j u).toArray n }:=by
  simp [Obj.mapSeq]
theorem Inv.lst {pins:List (Addr × Obj)} {σ:St} {H:Hp} {s:Shared} {p:Addr} {xs:List V} (I:Inv X pins σ H s) (h:H p=some (.lst xs)) :
    ∃ (its:List Value) (n:Nat),Vals xs its/\s.heap.get? p=some { cls:=.type "list",data:=.seq its.toArray n }/\xs.length<=sizeLine:=by
  obtain ⟨z,its,n,r,e⟩:=I.hok p _ h
  exact ⟨its,n,r,e,z⟩
theorem Inv.lstUpd {pins:List (Addr × Obj)} {σ:St} {H:Hp} {s:Shared} {p:Addr} {xs ys:List V} {its its':List Value} {n n':Nat} {f:Obj->Obj} (I:Inv X pins σ H s) (h:H p=some (.lst xs))
    (ho:s.heap.get? p=some { cls:=.type "list",data:=.seq its.toArray n }) (hf:f { cls:=.type "list",data:=.seq its.toArray n }={ cls:=.type "list",data:=.seq its'.toArray n' }) (r:Vals ys its') (hz:ys.length<=sizeLine) (t:Nat) :
    Inv X pins σ (upd H p (.lst ys)) { s with heap:=s.heap.update p f,toks:=t }:=by
  have e:(s.heap.update p f).get? p=some { cls:=.type "list",data:=.seq its'.toArray n' }:=by
    rw [F7 f ho (by rw [hf] <;> rfl),hf]
  refine I.write (x:=p) (e:=p) (by rw [h]; trivial) (.inl rfl) (fun b u hb q=>(E2 _ _ (Ne.symm hb)).trans q) ⟨_,e⟩ ?_
  exact ⟨hz,its',n',r,e⟩
def rSetL:V->V->V->Hp->(Hp->Prop)->Prop:=fun o i v H Q=>∃ p xs k j,o=.ref p/\i=.int k/\H p=some (.lst xs)/\ixN xs.length k=some j/\Q (upd H p (.lst (xs.set j v)))
theorem set_list:PSet X rSetL:=by
  intro pins s σ H o i v ov iv u Q I ro ri rv h
  obtain ⟨p,xs,k,j,rfl,rfl,hp,hj,q⟩:=h
  cases ro
  obtain ⟨t,rfl⟩:=ri
  obtain ⟨its,n,r,ho,hz⟩:=I.lst hp
  obtain ⟨h1,h2,h3,h4⟩:=ixN_seq hj
  have hl:=r.length
  have hn:=line63
  have I':Inv X pins σ (upd H p (.lst (xs.set j v))) { s with heap:=s.heap.update p (Obj.mapSeq (·.setIfInBounds j u)) }:=
    I.lstUpd hp ho (mapSeq_set its n j u) (r.set rv j) (by rw [F4]; exact hz) s.toks
  by_cases h0:0<=k
  · have hk:k.toNat=j:=by
      rw [seqIndex_of h0 h4] at h1
      exact Option.some.inj h1
    exact PySem.W.ki_setAt ho h0 (by omega) (by rw [O3,<- hl]; exact h4) (by rw [hk]; exact ⟨_,I',q⟩)
  · have hk:(k + (its.toArray.size:Int)).toNat=j:=by
      rw [seqIndex_neg (by omega) h3] at h1
      rw [O3,<- hl]
      exact Option.some.inj h1
    exact PySem.W.ki_setBack ho (by omega) (by rw [O3,<- hl]; exact h3) (by omega) (by rw [hk]; exact ⟨_,I',q⟩)
theorem slice_bounds (lo hi:Option Int) (n:Nat):(sliceBounds lo hi none n).1=((HT.sIx n 0 lo:Nat):Int)/\(sliceBounds lo hi none n).2.1=((HT.sIx n n hi:Nat):Int)/\(sliceBounds lo hi none n).2.2=1:=by
  refine ⟨?_,?_,rfl⟩
  · cases lo with
    | none=>simp [sliceBounds,HT.sIx]
    | some i=>
      simp only [sliceBounds,HT.sIx,Option.getD_none,show (1:Int) > 0 by decide,if_true]
      by_cases h:i < 0
      · simp only [h,if_true] <;> omega
      · simp only [h,if_false] <;> omega
  · cases hi with
    | none=>simp [sliceBounds,HT.sIx]
    | some i=>
      simp only [sliceBounds,HT.sIx,Option.getD_none,show (1:Int) > 0 by decide,if_true]
      by_cases h:i < 0
      · simp only [h,if_true] <;> omega
      · simp only [h,if_false] <;> omega
theorem slicePick_cut (its:List Value) (lo hi:Option Int):slicePick its.toArray lo hi none=((its.drop (HT.sIx its.length 0 lo)).take (HT.sIx its.length its.length hi - HT.sIx its.length 0 lo)).toArray:=by
  obtain ⟨h1,h2,h3⟩:=slice_bounds lo hi its.toArray.size
  unfold slicePick
  rw [h1,h2,h3]
  simp only [sliceRange_one,pick_run,O3] <;> rfl
def rSlL (K:PySem.W.Frag):V->Option Int->Option Int->Hp->VK->Prop:=fun x lo hi H Q=>∃ a xs,x=.ref a/\SqL K H a xs/\∀ p,H p=none->Q (.ref p) (upd H p (.lst (cutV xs lo hi)))
theorem sl_list:SlR X (rSlL X.K):=by
  intro pins s σ H x v vl vu lo hi sl Q I rx hs pl pu h
  obtain ⟨a,xs,rfl,hx,q⟩:=h
  cases rx
  obtain ⟨its,r,ht,hz⟩:=I.list hx
  have hlen:=r.length
  refine ⟨"list",_,slot_list_getitem.lookup,ht.isList.typeIs,?_⟩
  refine wpAny_getItem_list_slice ht.isList hs pl pu .none (by simp) ?_ (by rw [O3] <;> omega)
  rw [slicePick_cut,<- hlen]
  refine ⟨.ref s.heap.objs.size,_,I.laid (t':=s.toks) (o:=.lst (cutV xs lo hi)) (fun b ob q=>O0 _ q) (O7 _) ?_,rfl,q _ (I.hok.fresh (O7 _))⟩
  exact ⟨E3 (cutV_length xs lo hi) hz,_,0,(r.drop (HT.sIx xs.length 0 lo)).take (HT.sIx xs.length xs.length hi - HT.sIx xs.length 0 lo),D3 _ rfl⟩
theorem call_len_seq:X3 X (.builtin "len") (fun xs H Q=>∃ p ys,xs=[.ref p]/\(SqL X.K H p ys\/SqT X.K H p ys)/\Q (.int ys.length) H):=by
  intro pins s σ H xs us Q I r h
  obtain ⟨p,ys,rfl,hq,q⟩:=h
  obtain ⟨u,rfl,rx⟩:=vals1 r
  cases rx
  have hn:=line63
  rcases hq with hq | hq
  · obtain ⟨its,r',pl,hz⟩:=I.list hq
    have hlen:=r'.length
    exact Calls.call_len_list pl.isList (by simp only [O3] <;> omega) ⟨.int ys.length,H,I.tok _,⟨s.toks + 1,by rw [O3,hlen]⟩,q⟩
  · obtain ⟨its,r',pl,hz⟩:=I.tuple hq
    have hlen:=r'.length
    exact len_tuple pl (by simp only [O3] <;> omega) ⟨.int ys.length,H,I.tok _,⟨s.toks + 1,by rw [O3,hlen]⟩,q⟩
theorem call_len_str:X3 X (.builtin "len") (fun xs H Q=>∃ z,xs=[.str z]/\z.length<=sizeLine/\Q (.int z.length) H):=by
  intro pins s σ H xs us Q I r h
  obtain ⟨z,rfl,hz,q⟩:=h
  obtain ⟨u,rfl,t,rfl⟩:=vals1 r
  have hn:=line63
  exact len_str (by omega) ⟨.int z.length,H,I.tok _,⟨_,rfl⟩,q⟩
theorem call_tuple_of:X3 X (.type "tuple") (fun xs H Q=>∃ p ys,xs=[.ref p]/\((SqL X.K H p ys/\∀ l,H l=none->Q (.ref l) (upd H l (.tup ys)))\/(SqT X.K H p ys/\Q (.ref p) H))):=by
  intro pins s σ H xs us Q I r h
  obtain ⟨p,ys,rfl,h⟩:=h
  obtain ⟨u,rfl,rx⟩:=vals1 r
  cases rx
  rcases h with ⟨hq,q⟩ | ⟨hq,q⟩
  · obtain ⟨its,r',pl,hz⟩:=I.list hq
    have hlen:=r'.length
    refine call_tuple_list pl.isList (fun h' kp=>?_) (by simp only [O3] <;> omega)
    have I1:Inv X pins σ H { s with heap:=h' }:=I.kept (t':=s.toks) kp
    have I2:Inv X pins σ (upd H h'.objs.size (.tup ys)) { s with heap:=h'.push { cls:=.type "tuple",data:=.seq its.toArray } }:=
      I1.laid (t':=s.toks) (fun b o e=>O0 _ e) (O7 _) (show ObjOk X.prog X.w _ _ _ (.tup ys) from ⟨hz,its,r',IsTup.new _ _⟩)
    exact ⟨.ref h'.objs.size,_,I2,rfl,q _ (I1.hok.fresh (O7 _))⟩
  · obtain ⟨its,r',pl,hz⟩:=I.tuple hq
    exact call_tuple_same pl ⟨.ref p,H,I,rfl,q⟩
def tyV (K:PySem.W.Frag) (T:String) (x:V) (H:Hp):Prop:=match x with
  | .str _=>T = "str"
  | .int _=>T = "int"
  | .ref p=>(T = "list" /\ ∃ xs,SqL K H p xs)\/(T = "tuple" /\ ∃ o,K.lookup p=some o/\o.cls=.type "tuple" /\ o.dict=none) \/
      (T = "dict" /\ ((∃ kvs,H p=some (.dK kvs))\/∃ kvs,H p=some (.dT kvs)))\/(T = "set" /\ ∃ S n,H p=some (.set S n))
  | _=>False
theorem tyV_is {pins:List (Addr × Obj)} {σ:St} {H:Hp} {s:Shared} {T:String} {x:V} {v:Value} (I:Inv X pins σ H s) (r:RelV x v) (ty:tyV X.K T x H) :
    s.TypeIs v T/\∀ a,v=.ref a->∃ ob,s.heap.get? a=some ob/\ob.dict=none:=by
  cases x with
  | str z=>
    obtain ⟨t,rfl⟩:=r
    cases (show T = "str" from ty)
    exact ⟨typeIs_str s z t,fun _ e=>nomatch e⟩
  | int i=>
    obtain ⟨t,rfl⟩:=r
    cases (show T = "int" from ty)
    exact ⟨typeIs_int s i t,fun _ e=>nomatch e⟩
  | ref p=>
    cases r
    rcases ty with ⟨rfl,xs,hq⟩ | ⟨rfl,o,hk,hc,hd⟩ | ⟨rfl,hk⟩ | ⟨rfl,S,n,hk⟩
    · obtain ⟨its,_,pl,_⟩:=I.list hq
      refine ⟨pl.isList.typeIs,fun a e=>?_⟩
      cases e
      obtain ⟨o,n,e,c,hd,_⟩:=pl
      exact ⟨o,e,hd⟩
    · refine ⟨⟨o,I.kIn p o hk,hc⟩,fun a e=>?_⟩
      cases e
      exact ⟨o,I.kIn _ o hk,hd⟩
    · have z:∃ o,s.heap.get? p=some o/\o.ExactDict:=by
        rcases hk with ⟨kvs,hk⟩ | ⟨kvs,hk⟩
        · obtain ⟨_,_,_,_,o,_,_,e,ex,_⟩:=I.hok p _ hk
          exact ⟨o,e,ex⟩
        · obtain ⟨_,_,_,_,o,_,_,e,ex,_⟩:=I.hok p _ hk
          exact ⟨o,e,ex⟩
      obtain ⟨o,e,ex⟩:=z
      refine ⟨⟨o,e,ex.1⟩,fun a e2=>?_⟩
      cases e2
      exact ⟨o,e,ex.2.1⟩
    · obtain ⟨o,_,_,_,e,ex,_⟩:=I.hok p _ hk
      refine ⟨⟨o,e,ex.1⟩,fun a e2=>?_⟩
      cases e2
      exact ⟨o,e,ex.2.1⟩
  | _=>exact False.elim ty
def tBM (K:PySem.W.Frag) (T:String) (r:V->List V->Hp->VK->Prop) (to:TE) (t:TA):TE:=fun σ H Q=>to σ H fun x H1=>tyV K T x H1/\t σ H1 fun xs H2=>r x xs H2 Q
variable {o e:Expr} {es:List Expr} {to:TE} {t:TA} {name:Str} {apos cpos:Pos} {T id:String} {r:V->List V->Hp->VK->Prop}
theorem pe_bm (pa:PlainAttrs T) (slot:Slot T name id) (hty:typeOf (.builtin id)=pure (.type "method_descriptor")) (hm:MtR X id r) (ho:PE X o to) (ha:PA X (e :: es) t)
    (hbase:attributeBase o name X.env (eval o X.env)=eval o X.env:=by rfl)
    (hfew:((backTo cpos (starEach (e :: es) X.env)).all (fun x=>!x.1) && (backToKw cpos (keywordEach [] X.env)).all (fun x=>x.1.isSome)
      && decide ((e :: es).length + ([]:List Keyword).length + (if ([]:List Keyword).isEmpty then 0 else 1) < 30))=true:=by rfl)
    (hline:(apos.endLine == cpos.line)=true:=by rfl) (hs:starEach (e :: es) X.env=(false,eval e X.env) :: starEach es X.env:=by rfl) (hplain:(backTo cpos (starEach es X.env)).any (·.1)=false:=by rfl) :
    PE X (.Call (.Attribute o name apos) (e :: es) [] cpos) (tBM X.K T r to t):=by
  intro pins s σ H Q I h
  refine wpAny_Call_method_late hbase hfew hline rfl (thn (ho pins s σ H _ I h) fun v s1 ⟨x,H1,I1,r1,ty,q1⟩=>?_)
  obtain ⟨h1,h2⟩:=tyV_is I1 r1 ty
  refine ⟨T,id,pa,slot,hty,h1,h2,?_⟩
  have hA:=ha cpos pins s1 σ H1 _ I1 q1
  rw [hs] at hA ⊢
  refine Calls.callWith_builtin (by show (false || (backTo cpos (starEach es X.env)).any (·.1))=false; rw [hplain] <;> rfl) (Calls.evalArgs_plain ?_)
  exact thn hA fun us s2 ⟨vs,H2,I2,r2,q2⟩=>hm pins s2 σ H2 x vs v us Q I2 r1 r2 q2
end
end L2
namespace L2
open PySem PySem.Spec PyProof.Rows
def MtM (X:Cx) (id:String) (r:V->List V->Hp->VK->Prop):Prop:=
  ∀ (pins:List (Addr × Obj)) (s:Shared) (σ:St) (H:Hp) (x:V) (xs:List V) (v:Value) (us:List Value) (Q:VK),Inv X pins σ H s->RelV x v->Vals xs us->r x xs H Q ->
    wpAny (model X.prog X.w) X.A (call (.builtin id) (v :: us)) (EP X pins σ Q) X.xe s
theorem Vals.one:∀ {x:V} {us:List Value},Vals [x] us->∃ u,us=[u]/\RelV x u
  | _,_,.cons r .nil=>⟨_,rfl,r⟩
theorem Vals.rep {xs:List V} {us:List Value} (h:Vals xs us):∀ k:Nat,Vals (List.replicate k xs).flatten (List.replicate k us).flatten
  | 0=>.nil
  | k + 1=>by
    rw [List.replicate_succ,List.replicate_succ,List.flatten_cons,List.flatten_cons]
    exact Vals.append h (Vals.rep h k)
theorem foldl_rep (its:List Value):∀ (k:Nat) (acc:List Value),
    List.foldl (fun x1 x2=>x1 ++ x2) acc.toArray (List.replicate k its.toArray)=(acc ++ (List.replicate k its).flatten).toArray
  | 0,acc=>by simp
  | k + 1,acc=>by
    have e:acc.toArray ++ its.toArray=(acc ++ its).toArray:=by simp
    have e2:(acc ++ its) ++ (List.replicate k its).flatten=acc ++ (List.replicate (k + 1) its).flatten:=by
      rw [List.replicate_succ,List.flatten_cons,List.append_assoc]
    rw [<- e2,<- foldl_rep its k (acc ++ its),<- e,List.replicate_succ,List.foldl_cons]
section
variable {X:Cx} {pins:List (Addr × Obj)} {σ:St} {H:Hp} {s:Shared} {l b:Addr} {xs ys zs:List V}
theorem Inv.lset {its its':List Value} {n:Nat} {f:Array Value->Array Value} {t':Nat} (I:Inv X pins σ H s) (hH:H l=some (.lst xs))
    (e:s.heap.get? l=some { cls:=.type "list",data:=.seq its.toArray n }) (hf:f its.toArray=its'.toArray) (hv:Vals ys its') (hz:ys.length<=sizeLine) :
    Inv X pins σ (upd H l (.lst ys)) { s with heap:=s.heap.update l (Obj.mapSeq f),toks:=t' }:=by
  have q:=PySem.IsL.update e f
  rw [hf] at q
  refine I.write (x:=l) (e:=l) (by rw [hH]; exact trivial) (.inl rfl) (fun b' u hb hu=>(E2 s.heap (Obj.mapSeq f) (Ne.symm hb)).trans hu) ⟨_,q⟩ ?_
  exact ⟨hz,its',_,hv,q⟩
theorem Inv.lnew {its:List Value} {t':Nat} (I:Inv X pins σ H s) (hv:Vals ys its) (hz:ys.length<=sizeLine) :
    Inv X pins σ (upd H s.heap.objs.size (.lst ys)) { s with heap:=s.heap.push { cls:=.type "list",data:=.seq its.toArray },toks:=t' }:=
  I.laid (fun _ _ q=>O0 _ q) (O7 _) ⟨hz,its,0,hv,D3 _ rfl⟩
theorem Inv.fresh (I:Inv X pins σ H s):H s.heap.objs.size=none:=I.hok.fresh (O7 _)
theorem Inv.lstM (I:Inv X pins σ H s) (hH:H l=some (.lst xs)):xs.length<=sizeLine/\∃ (its:List Value) (n:Nat),Vals xs its/\xs.length=its.length/\s.heap.get? l=some { cls:=.type "list",data:=.seq its.toArray n }:=by
  obtain ⟨z,its,n,r,e⟩:=I.hok l _ hH
  exact ⟨z,its,n,r,r.length,e⟩
theorem notLongL {n:Nat} (h:n<=sizeLine):Builtin.List.listTooLong n=false:=by
  unfold Builtin.List.listTooLong
  exact decide_eq_false (by omega)
end
section
variable {X:Cx}
def rAppend:V->List V->Hp->VK->Prop:=fun x vs H Q=>∃ l xs y,x=.ref l/\vs=[y]/\H l=some (.lst xs)/\xs.length < sizeLine/\Q .non (upd H l (.lst (xs ++ [y])))
theorem mt_append:MtM X "list.append" rAppend:=by
  intro pins s σ H x vs v us Q I rx rv h
  obtain ⟨l,xs,y,rfl,rfl,hH,hz,q⟩:=h
  cases rx
  obtain ⟨u,rfl,ru⟩:=rv.one
  obtain ⟨z,its,n,r,hl,e⟩:=I.lstM hH
  refine call_meets F.slot_list_append ⟨_,e,rfl⟩ F.entry_list_append (F.args_list_append_2 _ _) (PySem.list_append l its.toArray n u (by rw [O3]; omega)) ⟨e,?_⟩
  refine ⟨.non,_,I.lset (its':=its ++ [u]) hH e (by simp) (r.append (.cons ru .nil)) ?_,rfl,q⟩
  rw [D9,List.length_singleton]
  omega
def rExtend:V->List V->Hp->VK->Prop:=fun x vs H Q=>∃ l b xs zs,x=.ref l/\vs=[.ref b]/\H l=some (.lst xs)/\H b=some (.lst zs)/\xs.length + zs.length<=sizeLine/\Q .non (upd H l (.lst (xs ++ zs)))
theorem mt_extend:MtM X "list.extend" rExtend:=by
  intro pins s σ H x vs v us Q I rx rv h
  obtain ⟨l,b,xs,zs,rfl,rfl,hH,hB,hz,q⟩:=h
  cases rx
  obtain ⟨u,rfl,ru⟩:=rv.one
  cases ru
  obtain ⟨z,its,n,r,hl,e⟩:=I.lstM hH
  obtain ⟨z2,its2,n2,r2,hl2,e2⟩:=I.lstM hB
  have hsz:its.toArray.size + its2.toArray.size<=sizeLine:=by rw [O3,O3]; omega
  have hlong:¬ (!its.toArray.isEmpty && Builtin.List.listTooLong (its.toArray.size + its2.toArray.size))=true:=by
    rw [notLongL hsz,Bool.and_false]
    exact O8
  refine call_meets F.slot_list_extend ⟨_,e,rfl⟩ F.entry_list_extend (F.args_list_extend_2 _ _)
    (AutoSeq1.list_extend_list_list_0 l its.toArray n b its2.toArray n2 hlong (by rw [O3]; omega) (by omega)) ⟨e,e2,?_⟩
  refine ⟨.non,_,I.lset (its':=its ++ its2) hH e (by simp) (r.append r2) ?_,rfl,q⟩
  rw [D9]
  omega
def rCat:R2:=fun x y H Q=>∃ l b xs zs,x=.ref l/\y=.ref b/\H l=some (.lst xs)/\H b=some (.lst zs)/\xs.length + zs.length<=sizeLine/\∀ p,H p=none->Q (.ref p) (upd H p (.lst (xs ++ zs)))
theorem op_cat:OpR X (binaryOp .Add) rCat:=by
  intro pins s σ H x y v u Q I rx ry h
  obtain ⟨l,b,xs,zs,rfl,rfl,hH,hB,hz,q⟩:=h
  cases rx
  cases ry
  obtain ⟨z,its,n,r,hl,e⟩:=I.lstM hH
  obtain ⟨z2,its2,n2,r2,hl2,e2⟩:=I.lstM hB
  refine PySem.P.add_list e e2 ?_ (by rw [O3,O3]; omega)
  have ea:its.toArray ++ its2.toArray=(its ++ its2).toArray:=by simp
  rw [ea]
  exact ⟨.ref _,_,I.lnew (t':=s.toks) (r.append r2) (by rw [D9]; omega),rfl,q _ I.fresh⟩
def rRep:R2:=fun x y H Q=>∃ l k xs,x=.ref l/\y=.int k/\H l=some (.lst xs)/\-(2 ^ 63)<=k/\k < 2 ^ 63/\xs.length * k.toNat<=sizeLine /\
  ∀ p,H p=none->Q (.ref p) (upd H p (.lst (List.replicate k.toNat xs).flatten))
theorem len_rep {α:Type} (xs:List α) (k:Nat):(List.replicate k xs).flatten.length=k * xs.length:=by
  induction k with
  | zero=>simp
  | succ k ih=>rw [List.replicate_succ,List.flatten_cons,D9,ih,Nat.succ_mul,Nat.add_comm]
theorem op_rep:OpR X (binaryOp .Mult) rRep:=by
  intro pins s σ H x y v u Q I rx ry h
  obtain ⟨l,k,xs,rfl,rfl,hH,h1,h2,hz,q⟩:=h
  cases rx
  obtain ⟨t,rfl⟩:=ry
  obtain ⟨z,its,n,r,hl,e⟩:=I.lstM hH
  have hlen:its.toArray.size * k.toNat<=sizeLine:=by rw [O3,<- hl]; exact hz
  have hcap:¬ its.toArray.size * k.toNat > (2 ^ 63 - 1) / 8:=by
    have:(sizeLine:Nat)<=(2 ^ 63 - 1) / 8:=by decide
    omega
  have hfit:¬ (!Builtin.List.listFitsIndex k)=true:=by
    rw [fitsIndex_both h1 h2]
    exact O8
  have hlong:¬ Builtin.List.listTooLong (its.toArray.size * k.toNat)=true:=by
    rw [notLongL hlen]
    exact O8
  have hnew:List.foldl (fun x1 x2=>x1 ++ x2) #[] (List.replicate (if its.toArray.isEmpty=true then 0 else k.toNat) its.toArray)=(List.replicate k.toNat its).flatten.toArray:=by
    have f0:∀ m:Nat,List.foldl (fun x1 x2=>x1 ++ x2) #[] (List.replicate m its.toArray)=(List.replicate m its).flatten.toArray:=fun m=>by
      have:=foldl_rep its m []
      rw [List.nil_append] at this
      exact this
    rw [f0]
    cases its with
    | nil=>simp
    | cons a r'=>rw [if_neg (by simp)]
  refine wpAny_binaryOp_repeat_ref (T := "list") (U := "int") (by decide) ⟨_,e,rfl⟩ (fun s'=>typeIs_int s' k t) noFill_list_mul F.fills_int_mul F.slot_int_rmul repeat_list F.slot_int_index.lookup
    (call_meets F.slot_int_rmul (typeIs_int s k t) F.entry_int_rmul (F.args_int_rmul_2 _ _) (int___rmul___int_list k t l its.toArray n)
      ⟨e,rfl,⟨_,e,rfl⟩,call_meets F.slot_list_mul ⟨_,e,rfl⟩ F.entry_list_mul (F.args_list_mul_2 _ _) (AutoListH.list___mul___list_int_3 l its.toArray n k t hfit hcap hlong) ⟨e,?_⟩⟩)
  rw [hnew]
  exact ⟨.ref _,_,I.lnew (t':=s.toks) (r.rep k.toNat) (by rw [len_rep,Nat.mul_comm]; exact hz),rfl,q _ I.fresh⟩
end
section
variable {prog:Program} {w:World} {A:Around} {E:Value->Shared->Prop} {s:Shared}
end
section
variable {X:Cx}
end
end L2
namespace Att
open PySem PySem.W PySem.Calls PyProof.Rows
theorem ints_of_wellAll {P:Params} {h:Heap}:∀ (ns:List Int) (vs:List Value),WellAll P h vs (ns.map WData.int)->IntsAre vs ns:=by
  intro ns
  induction ns with
  | nil=>
    intro vs w
    rw [List.map_nil] at w
    cases w
    exact .nil
  | cons n ns ih=>
    intro vs w
    rw [F5] at w
    cases w with
    | cons a b=>
      cases a
      exact .cons _ _ (ih _ b)
theorem script_of {l:OpenLaw} {n:Nat} (hn:l.most=some n) {P:Params} {h:Heap} {args:List WData} {vals:List Value}
    (hpre:l.row.toRowW.claim.pre args=true) (hwl:WellAll P h vals args) :
    ∃ a vs ns,vals=[Value.ref a]/\args=[WData.list (ns.map WData.int)]/\h.get? a=some { cls:=.type "list",data:=.seq vs.toArray }/\IntsAre vs ns/\ns.length<=n:=by
  have hsh:WShape.hasAll [] args [.list .int]=true:=(pre_splitW hpre).1
  have hc:l.pre.holds [] { args:=args }=true:=(pre_splitW hpre).2
  obtain ⟨d,r,rfl,h1,h2⟩:=hasAllW_cons hsh
  obtain rfl:=hasAllW_nil h2
  obtain ⟨xs,rfl,h3⟩:=hasW_list h1
  obtain ⟨ns,rfl⟩:=items_int h3
  have hlen:ns.length<=n:=by
    unfold OpenLaw.pre at hc
    have h4:(WTm.not (.lt (.lit (.int (n:Int))) (.len (.arg 0)))).holds [] { args:=[.list (ns.map .int)] }=true:=by
      have h4:=(holds_andW hc).1
      rw [hn] at h4
      exact h4
    have h5:=condW_of h4 (w_not (w_lt w_lit (w_len_list (w_arg rfl))))
    rw [O2] at h5
    refine Nat.le_of_not_lt fun q=>?_
    have q':(n:Int) < ((ns.length:Nat):Int):=by omega
    first
      | (rw [decide_eq_true q'] at h5; exact absurd h5 (by decide))
      | (simp at h5; omega)
  cases hwl with
  | cons w1 w2=>
    cases w2
    cases w1 with
    | list ho hall=>exact ⟨_,_,ns,rfl,rfl,ho,ints_of_wellAll ns _ hall,hlen⟩
theorem post_true (l:OpenLaw) (args:List WData):l.row.toRowW.claim.post args (.bool true) args=true:=
  postW_of (r:=l.row.toRowW) (X:=(true == true))
    (show WShape.has [] (.bool true) .bool=true by first | rfl | decide | simp [WShape.has,WShape.arms,WShape.armsAll])
    (show (WTm.eq .res (.lit (.bool true))).value [] { args:=args,res:=some (.bool true),after:=args }=some (.bool (true == true)) from w_eq_bool (w_res rfl) w_lit) rfl
theorem attach_call {l:OpenLaw} {n:Nat} {q:Program} {loose:List Str} {XP:(Str->Option Value)->Heap->Prop} {YP:World->Heap->Prop} {d:DefRec}
    (hn:l.most=some n) (hdf:d.params.defaults=[])
    (call:∀ (w:World) (s₀ s₁:Shared) (mg mb:Str->Option Value) (fa:Addr) (o:Obj) (pm cd doc:Value) (a:Addr) (vs:List Value) (ns:List Int),
      Ground q loose [] XP w s₀ mg mb s₁.heap->YP w s₁.heap ->
      s₁.heap.get? fa=some o->o.data=.func (docDef d.name d.params d.body d.scope pm cd doc)->s₁.heap.CodeRec cd d.name->mg d.name=some (.ref fa) ->
      s₁.heap.get? a=some { cls:=.type "list",data:=.seq vs.toArray }->IntsAre vs ns->ns.length<=n->s₁.gens=#[] ->
      codeAny (model l.prog w) callerA (.call (.ref fa) ⟨[.ref a],[]⟩) (fun r s'=>r=.ok (.ret (.bool true))/\OldK s₁.heap s'.heap/\s'.os=s₁.os/\AllBare s'.gens) s₁) :
    WalkO q loose XP YP l.row.toRowW d [] (fun f vs=>PySem.call f vs):=by
  intro w s₀ s₁ mg mb G Y fa o pm cd doc dV kV ho hd hcd hD hmg hg args vals as hpre hlay hrd hwl hlo
  obtain rfl:dV=.none:=Dflts.none hD hdf
  obtain rfl:kV=.none:=Dflts.noKw hD
  obtain ⟨a,vs,ns,rfl,rfl,hobj,hints,hlen⟩:=script_of hn hpre hwl
  refine enter_call (codeAny_mono (call w s₀ s₁ mg mb fa o pm cd doc a vs ns G Y ho (fd_plain hd) hcd hmg hobj hints hlen hg) fun r s' hq=>?_)
  obtain ⟨rfl,h2,h3,h4⟩:=hq
  exact ⟨.inl ⟨.bool true,.bool true,[],rfl,fun _=>rfl,.bool true,post_true l _,fun _=>⟨List.Pairwise.nil,fun _ hm=>(nomatch hm)⟩⟩,h2,h3,h4⟩
section
variable {prog:Program} {w:World} {A:Around} {E:Value->Shared->Prop} {s:Shared} {K:Frag}
end
end Att
namespace L2
open PySem PySem.Spec PyProof.Rows
theorem vals_ints:∀ {vs:List Value} {ns:List Int},IntsAre vs ns->Vals (ns.map V.int) vs
  | _,_,.nil=>.nil
  | _,_,.cons n t h=>.cons ⟨t,rfl⟩ (vals_ints h)
def Only (H:Hp):Prop:=∀ b,H b=none\/∃ o xs,H b=some (.frz o (.lst xs))
theorem law_call {P:Program} {w:World} {K:PySem.W.Frag} {mg mb:Str->Option Value} {CX:CXT} {k:Nat} {fa a:Addr} {fd:FuncData} {x:Str} {sp:Sp} {s₁:Shared} {vs:List Value} {ns:List Int}
    (KX:K.In s₁.heap) (hns:s₁.heap.Ns mainGlobals mg) (hb:s₁.heap.Ns builtinsNs mb) (hbb:∀ x:Str,x≠"__name__" -> mb x=bootBuiltins x) (hlim:s₁.heap.NoLimit) (hg:s₁.gens=#[])
    (ha:s₁.heap.get? a=some { cls:=.type "list",data:=.seq vs.toArray }) (hi:IntsAre vs ns) (hl:ns.length<=sizeLine) (hr:Room k callerA)
    (F:∀ base:Heap,K.In base->base.Ns mainGlobals mg->FnOk P w K mg base CX k fa fd [x] sp) (hbind:∀ (s:Shared) (u:Value),BindsTo s fd ⟨[u],[]⟩ [(x,u)])
    (hsp:∀ H:Hp,Only H->SqL K H a (ns.map V.int)->sp [.ref a] H (fun v _=>v=.bl true) fun _ _ _=>False)
    (hCX:∀ H e s',CX [] H s₁ (fun _ _ _=>False) e s'->False) :
    codeAny (model P w) callerA (.call (.ref fa) ⟨[.ref a],[]⟩) (fun r s'=>r=.ok (.ret (.bool true))/\OldK s₁.heap s'.heap/\s'.os=s₁.os/\AllBare s'.gens) s₁:=by
  have rv:=vals_ints hi
  have lenV:=hi.length
  have core:∀ H:Hp,Only H->SqL K H a (ns.map V.int)->HOk P w H s₁.heap->(∀ b,H b≠none->b=a)->(H a≠none->K.lookup a=none) ->
      codeAny (model P w) callerA (.call (.ref fa) ⟨[.ref a],[]⟩) (fun r s'=>r=.ok (.ret (.bool true))/\OldK s₁.heap s'.heap/\s'.os=s₁.os/\AllBare s'.gens) s₁:=by
    intro H hO hS hok hA hK
    have base_of:∀ {b:Addr} {o:Obj},s₁.heap.get? b=some o->H b=none->(hidT s₁.heap H).get? b=some o:=fun e n=>hidT_get e n
    have noA:∀ {b:Addr} {o:Obj} {es:Array DictEntry} {ep:Nat},s₁.heap.get? b=some o->o.data=.dict es ep->H b=none:=fun {b o es ep} e d=>by
      cases q:H b with
      | none=>rfl
      | some u=>
        have e':b=a:=hA b (by rw [q]; simp)
        subst e'
        rw [ha] at e; cases e
        have d':Data.seq vs.toArray _=Data.dict es ep:=d
        cases d'
    have nsK:∀ {b:Addr} {m:Str->Option Value},s₁.heap.Ns b m->(hidT s₁.heap H).Ns b m:=fun {b m} ⟨o,es,ep,e,d,r⟩=>⟨o,es,ep,base_of e (noA e d),d,r⟩
    have hKb:K.In (hidT s₁.heap H):=fun b o e=>base_of (KX b o e) (by
      cases q:H b with
      | none=>rfl
      | some u=>
        have e':b=a:=hA b (by rw [q]; simp)
        subst e'
        rw [hK (by rw [q]; simp)] at e; cases e)
    have hM:Mod K mg (hidT s₁.heap H):=⟨hKb,nsK hns,⟨mb,nsK hb,hbb⟩,let ⟨mc,h1,h2⟩:=hlim; ⟨mc,nsK h1,h2⟩⟩
    have e0:Env0 P w K mg (hidT s₁.heap H) callerA [] s₁ H:=⟨rfl,hM,fun b o e=>of_hidT e,Nat.le_of_eq (hidT_size _ _),trivial,fun b hb=>absurd (show b∈([]:List Addr) from hb) (by simp),hok,.of_eq hg⟩
    refine codeAny_mono ((F _ hKb (nsK hns)).run callerA [] s₁ H ⟨[.ref a],[]⟩ [.ref a] [.ref a] _ _ hr e0 (hbind s₁ (.ref a)) (.cons rfl .nil) (hsp H hO hS)) fun r s' h=>?_
    cases r with
    | error e=>exact (hCX H e s' h).elim
    | ok fl=>
      cases fl with
      | next=>exact False.elim h
      | brk=>exact False.elim h
      | cont=>exact False.elim h
      | ret u=>
        obtain ⟨v,H',os,bare,un,hok',r',q⟩:=h
        have q':v=.bl true:=q
        subst q'
        obtain rfl:u=Value.bool true:=r'
        refine ⟨rfl,OldK.of_keep fun b o e=>?_,os,bare⟩
        cases q:H b with
        | none=>exact un.keep b o e q (by intro z; exact absurd (show b∈([]:List Addr) from z) (by simp)) (by simp)
        | some u=>
          rcases hO b with z | ⟨ob,xs,z⟩
          · rw [q] at z; cases z
          · have z2:=un.frzs b ob _ z
            obtain ⟨e1,_⟩:=hok b _ z
            obtain ⟨e2,_⟩:=hok' b _ z2
            rw [e] at e1; cases e1
            exact e2
  cases hk:K.lookup a with
  | some o=>
    have e:=KX a o hk
    rw [ha] at e
    cases e
    refine core (fun _=>none) (fun _=>.inl rfl) (.inr ⟨_,vs.toArray,_,hk,rfl,rfl,rfl,by rw [O3,lenV]; exact hl,by simpa using rv⟩) (fun b u z=>by have z':(none:Option HO)=some u:=z; cases z') (fun b z=>absurd rfl z) fun z=>absurd rfl z
  | none=>
    refine core (fun b=>if b=a then some (.frz { cls:=.type "list",data:=.seq vs.toArray } (.lst (ns.map V.int))) else none) (fun b=>?_) (.inl (.inr ⟨{ cls:=.type "list",data:=.seq vs.toArray },if_pos rfl⟩)) (fun b u z=>?_) (fun b z=>?_) fun _=>hk
    · by_cases hb:b=a
      · exact .inr ⟨_,_,if_pos hb⟩
      · exact .inl (if_neg hb)
    · by_cases hb:b=a
      · have z':=(if_pos hb).symm.trans z
        cases z'
        subst hb
        exact ⟨ha,by rw [O2]; exact hl,vs,_,rv,ha⟩
      · have z':=(if_neg hb).symm.trans z
        cases z'
    · by_cases hb:b=a
      · exact hb
      · exact absurd (if_neg hb) z
end L2
namespace L2
open PySem PySem.Spec PyProof.Rows
theorem walk_of {l:PySem.W.OpenLaw} {n k:Nat} {q:Program} {loose:List Str} {XP:(Str->Option Value)->Heap->Prop} {YP:World->Heap->Prop} {d:DefRec} {K:Params->PySem.W.Frag} {CX:World->CXT} {sp:World->Sp} {x:Str}
    (hn:l.most=some n) (hn2:n<=sizeLine) (hdf:d.params.defaults=[]) (hr:Room k callerA)
    (hY:∀ (w:World) (h:Heap),YP w h->(K w.params).In h)
    (F:∀ (w:World) (mg:Str->Option Value) (fa:Addr) (h:Heap),(K w.params).In h->h.Ns mainGlobals mg->mg d.name=some (.ref fa) ->
      ∃ fd:FuncData,(∀ (s:Shared) (u:Value),BindsTo s fd ⟨[u],[]⟩ [(x,u)]) /\
        ∀ base:Heap,(K w.params).In base->base.Ns mainGlobals mg->FnOk l.prog w (K w.params) mg base (CX w) k fa fd [x] (sp w))
    (hsp:∀ (w:World) (H:Hp) (a:Addr) (ns:List Int),ns.length<=n->Only H->SqL (K w.params) H a (ns.map V.int)->sp w [.ref a] H (fun v _=>v=.bl true) fun _ _ _=>False)
    (hCX:∀ (w:World) (H:Hp) (s:Shared) (e:Value) (s':Shared),CX w [] H s (fun _ _ _=>False) e s'->False) :
    PySem.W.WalkO q loose XP YP l.row.toRowW d [] (fun f vs=>PySem.call f vs):=by
  refine Att.attach_call hn hdf fun w s₀ s₁ mg mb fa o pm cd doc a vs ns G Y ho hd hcd hmg hobj hints hlen hg=>?_
  have KX:=hY w _ Y
  obtain ⟨fd,hb,hF⟩:=F w mg fa _ KX G.T.g hmg
  exact law_call KX G.T.g G.T.b G.T.builtins G.T.nolimit hg hobj hints (E3 hlen hn2) hr hF hb (fun H hO hS=>hsp w H a ns hlen hO hS) fun H e s'=>hCX w H s₁ e s'
end L2
namespace L2
open PySem PySem.Spec PyProof.Rows
def Vv (s:Stmt) (j:Nat):Stmt:=match s with
  | .ClassDef _ _ _ body _ _ _ _ _ _ _=>body.getD j (.Pass ⟨0,0,0,0⟩)
  | _=>.Pass ⟨0,0,0,0⟩
def Y8 (s:Stmt):Arguments:=match s with
  | .FunctionDef _ a _ _ _ _ _ _ _ _=>a
  | _=>{ posonlyargs:=[],args:=[],vararg:=none,kwonlyargs:=[],kw_defaults:=[],kwarg:=none,defaults:=[] }
def Jz (s:Stmt):List Stmt:=match s with
  | .FunctionDef _ _ b _ _ _ _ _ _ _=>b
  | _=>[]
def Q9 (s:Stmt):Scope:=match s with
  | .FunctionDef _ _ _ _ _ _ sc _ _ _=>sc
  | _=>{ kind:=.function,names:=[],isGenerator:=false,isCoroutine:=false }
abbrev CX0:CXT:=fun _ _ _ _ _ _=>False
abbrev E0:XK:=fun _ _ _=>False
structure Fun (K:PySem.W.Frag) (x qual:Str) (st:Stmt) (f:Addr) (fd:FuncData):Prop where
  ex:∃ (oc:Value) (od:Option Addr) (kV doc pm:Value) (an:Option Addr) (cdv ct:Value) (osl:Array (Option Value)),
    fd=PySem.W.fnOf x qual (Y8 st) (Jz st) (Q9 st) .none kV doc pm an cdv ct/\K.lookup f=some ⟨oc,od,.func fd,osl⟩/\PySem.W.codeIn K cdv qual=true
  kp:PySem.W.keepIn K (.ref f)=true
section
variable {P:Program} {w:World} {K:PySem.W.Frag} {mg:Str->Option Value} {base:Heap}
theorem Fun.ok {x qual:Str} {st:Stmt} {f:Addr} {fd:FuncData} {N ps:List Str} {k:Nat} {sp:Sp} (F:Fun K x qual st f fd) (S:FnScope N ps (Q9 st)) (len:∀ vs H Q E,sp vs H Q E->vs.length=ps.length)
    (hbody:∀ (cdv:Value) (A:Around) (outer:List Env) (s:Shared) (H:Hp) (vs:List V) (Q:VK) (E:XK),Room k (A.deeper (envOfC qual (Q9 st) s.heap.objs.size f cdv))->sp vs H Q E ->
      ∃ t,PSs (cxOf CX0 P w K mg base N qual (Q9 st) f cdv A outer s H E).nox (Jz st) t/\t { nx:=fun _ H'=>Q .non H',rt:=Q } (start N vs) H):FnOk P w K mg base CX0 (k + 1) f fd ps sp:=by
  obtain ⟨oc,od,kV,doc,pm,an,cdv,ct,osl,rfl,lk,hcd⟩:=F.ex
  refine fn_of lk hcd S len fun A outer s H vs Q E hr hsp=>?_
  obtain ⟨t,h,q⟩:=hbody cdv A outer s H vs Q E hr hsp
  exact ⟨t,h.nox,q⟩
theorem Fun.binds {x qual:Str} {st:Stmt} {f:Addr} {fd:FuncData} {ps:List Str} (F:Fun K x qual st f fd)
    (h:∀ (kV doc pm:Value) (an:Option Addr) (cdv ct:Value) (us:List Value),us.length=ps.length->bindArgs (PySem.W.fnOf x qual (Y8 st) (Jz st) (Q9 st) .none kV doc pm an cdv ct) ⟨us,[]⟩=pure (ps.zip us)):Binds K fd ps []:=by
  obtain ⟨oc,od,kV,doc,pm,an,cdv,ct,osl,rfl,lk,hcd⟩:=F.ex
  exact .all (h kV doc pm an cdv ct)
theorem fun_mk {x qual:Str} {st:Stmt} {f:Addr} {oc:Value} {od an:Option Addr} {osl:Array (Option Value)} {kV doc pm cdv ct:Value} (l:K.lookup f=some ⟨oc,od,.func (PySem.W.fnOf x qual (Y8 st) (Jz st) (Q9 st) .none kV doc pm an cdv ct),osl⟩)
    (c:PySem.W.codeIn K cdv qual=true) (k:PySem.W.keepIn K (.ref f)=true):Fun K x qual st f (PySem.W.fnOf x qual (Y8 st) (Jz st) (Q9 st) .none kV doc pm an cdv ct):=⟨⟨oc,od,kV,doc,pm,an,cdv,ct,osl,rfl,l,c⟩,k⟩
end
theorem Zt {n:Nat} (h:n<=1000):n < sizeLine:=Nat.lt_of_le_of_lt h (by decide)
section
variable {X:Cx}
theorem pv (i:Nat) {x:Str} {pos:Pos} (hN:X.N[i]?=some x:=by rfl) (hv:Vis X.env.scope x:=by first | exact Or.inl rfl | exact Or.inr (Or.inl rfl) | exact Or.inr (Or.inr rfl)) (hd:(x == ("__debug__" : Str))=false:=by decide)
    (hcd:(x == ("__classdict__" : Str))=false:=by decide):PE X (.Name x pos) (tVar i):=pe_var hN hv hd hcd
end
theorem iteF {A B:Prop} (h:B):if false=true then A else B:=by
  rw [if_neg O8]
  exact h
theorem iteT {A B:Prop} (h:A):if true=true then A else B:=by
  rw [if_pos rfl]
  exact h
def Same (H H':Hp):Prop:=∀ b o,H b=some o->H' b=some o
theorem Same.refl (H:Hp):Same H H:=fun _ _ h=>h
end L2
namespace L2
open PySem PySem.Spec PyProof.Rows
section
variable {X:Cx} {tg:Expr}
end
end L2
namespace L2
open PySem PySem.Spec PyProof.Rows
theorem closure_of {scope:Scope} {env:Env} (h:∀ x∈scope.names,x.2=.free->∃ c,env.cells.lookup x.1=some c) :
    ∃ cl,closureFor scope env=pure cl/\(∀ x c,cl.lookup x=some c->env.cells.lookup x=some c)/\(∀ x∈scope.names,x.2=.free->∃ c,cl.lookup x.1=some c):=by
  have key:∀ (l:List (Str × NameKind)) (acc:List (Str × Addr)),(∀ x∈l,x.2=.free->∃ c,env.cells.lookup x.1=some c)->(∀ x c,acc.lookup x=some c->env.cells.lookup x=some c) ->
      ∃ cl,(forIn l acc fun (x:Str × NameKind) (r:List (Str × Addr))=>(match x with
        | (name,kind)=>if (kind == NameKind.free)=true then (do let c <- cellOf env name; pure (ForInStep.yield ((name,c) :: r))) else (do pure PUnit.unit; pure (ForInStep.yield r)):Sem (ForInStep (List (Str × Addr)))))=pure cl /\
        (∀ x c,cl.lookup x=some c->env.cells.lookup x=some c)/\(∀ x∈l,x.2=.free->∃ c,cl.lookup x.1=some c)/\(∀ x c,acc.lookup x=some c->∃ c',cl.lookup x=some c'):=by
    intro l
    induction l with
    | nil=>intro acc _ ha; exact ⟨acc,rfl,ha,fun x hx=>(by simp at hx),fun x c e=>⟨c,e⟩⟩
    | cons x r ih=>
      intro acc hl ha
      obtain ⟨n,k⟩:=x
      by_cases hk:k=.free
      · subst hk
        obtain ⟨c,hc⟩:=hl (n,.free) D1 rfl
        have ha':∀ x c',((n,c) :: acc).lookup x=some c'->env.cells.lookup x=some c':=fun x c' e=>by
          rw [D4] at e
          by_cases hx:x=n
          · subst hx; simp at e; rw [<- e]; exact hc
          · have:(x == n)=false:=by simpa using hx
            rw [this] at e; exact ha x c' e
        obtain ⟨cl,e1,e2,e3,e4⟩:=ih ((n,c) :: acc) (fun y hy=>hl y (O6 _ hy)) ha'
        refine ⟨cl,?_,e2,fun y hy hf=>?_,fun y c' e=>?_⟩
        · rw [List.forIn_cons]
          have hcell:cellOf env n=pure c:=by unfold cellOf; rw [hc]
          simp only [beq_self_eq_true,if_true,hcell]
          exact e1
        · rcases D5.mp hy with e | hy
          · subst e
            exact e4 n c (by simp)
          · exact e3 y hy hf
        · by_cases hy:y=n
          · subst hy; exact e4 y c (by simp)
          · have:(y == n)=false:=by simpa using hy
            exact e4 y c' (by rw [D4,this]; exact e)
      · obtain ⟨cl,e1,e2,e3,e4⟩:=ih acc (fun y hy=>hl y (O6 _ hy)) ha
        refine ⟨cl,?_,e2,fun y hy hf=>?_,e4⟩
        · rw [List.forIn_cons]
          have:(k == NameKind.free)=false:=by simpa using hk
          simp only [this,Bool.false_eq_true,if_false]
          exact e1
        · rcases D5.mp hy with e | hy
          · subst e; exact absurd hf hk
          · exact e3 y hy hf
  obtain ⟨cl,e1,e2,e3,_⟩:=key scope.names [] h (fun x c e=>by simp at e)
  refine ⟨cl,?_,e2,e3⟩
  unfold closureFor
  exact (congrArg (fun z=>z >>= pure) e1).trans rfl
theorem lookup_relab (f:Str->NameKind->NameKind) (x:Str):∀ l:List (Str × NameKind),(l.map fun y=>(y.1,f y.1 y.2)).lookup x=(l.lookup x).map (f x)
  | []=>rfl
  | (n,k) :: r=>by
    have ih:=lookup_relab f x r
    rw [F5,D4,D4]
    by_cases hx:x=n
    · subst hx; simp
    · have hb:(x == n)=false:=by simpa using hx
      rw [hb]; exact ih
theorem relabel_lookup {scope:Scope} {env:Env} {x:Str}:(relabel scope env).names.lookup x =
    (scope.names.lookup x).map fun k=>if (k == .free && env.scope.kind == .function && env.kindOf x == some .cell) then .cell else k:=by
  rw [<- lookup_relab (fun n k=>if (k == .free && env.scope.kind == .function && env.kindOf n == some .cell) then .cell else k)]
  unfold relabel
  refine congrArg (List.lookup x) (List.map_congr_left fun y _=>?_)
  obtain ⟨n,k⟩:=y
  show (if (k == NameKind.free && env.scope.kind == .function && env.kindOf n == some .cell)=true then (n,NameKind.cell) else (n,k))=_
  split <;> rfl
def capOf (cap:List (Option Nat)) (σ:St):St:=cap.map fun c=>c.bind fun j=>(σ[j]?).join
section
variable {prog:Program} {w:World} {A:Around} {R:Result->Shared->Prop} {s:Shared}
end
section
variable {X:Cx}
theorem HOk.same {P:Program} {w:World} {H:Hp} {h h':Heap} {a:Addr} (ok:HOk P w H h) (hn:H a=none) (hs:Heap.SameBut a h h'):HOk P w H h':=fun b ob e=>by
  refine (ok b ob e).stay (fun c w' hc q=>(hs.2 c ?_).trans q) (fun _ q=>q) fun _ _ q=>q
  rintro rfl
  rcases hc with rfl | hc
  · rw [hn] at e; cases e
  · rw [hn] at hc; cases hc
end
end L2
namespace L2
open PySem PySem.Spec PyProof.Rows
def HasItems (t:Bool) (h:Heap) (a:Addr) (items:Array Value):Prop:=if t=true then h.IsTuple a items else h.IsList a items
def IterAt (t:Bool) (h:Heap) (it a:Addr) (i:Nat):Prop:=if t=true then h.IsTupleIter it a i else h.IsListIter it a i
theorem HasItems.at {t:Bool} {h h':Heap} {a:Addr} {items:Array Value} (x:HasItems t h a items) (k:∀ o,h.get? a=some o->h'.get? a=some o):HasItems t h' a items:=by
  cases t
  · exact Heap.IsList.at x k
  · obtain ⟨o,e,r⟩:=x
    exact ⟨o,k o e,r⟩
theorem HasItems.there {t:Bool} {h:Heap} {a:Addr} {items:Array Value} (x:HasItems t h a items):∃ o,h.get? a=some o:=by
  cases t
  · obtain ⟨o,e,_⟩:=x; exact ⟨o,e⟩
  · obtain ⟨o,e,_⟩:=x; exact ⟨o,e⟩
theorem IterAt.at {t:Bool} {h h':Heap} {it a:Addr} {i:Nat} (x:IterAt t h it a i) (k:∀ o,h.get? it=some o->h'.get? it=some o):IterAt t h' it a i:=by
  cases t
  · exact Heap.IsListIter.at x k
  · obtain ⟨o,e,r⟩:=x
    exact ⟨o,k o e,r⟩
theorem IterAt.there {t:Bool} {h:Heap} {it a:Addr} {i:Nat} (x:IterAt t h it a i):∃ o,h.get? it=some o/\∀ v,o.data≠.cell v:=by
  cases t
  · obtain ⟨o,e,_,d⟩:=x; exact ⟨o,e,fun v z=>by rw [d] at z; cases z⟩
  · obtain ⟨o,e,_,d⟩:=x; exact ⟨o,e,fun v z=>by rw [d] at z; cases z⟩
section
variable {prog:Program} {w:World} {A:Around} {E:Value->Shared->Prop} {s:Shared}
theorem nextOf_tuple_item {it l:Addr} {i:Nat} {items} {x:Value} {Q:Value->Shared->Prop} (hit:s.heap.IsTupleIter it l i)
    (hl:s.heap.IsTuple l items) (hx:items[i]?=some x)
    (hQ:∀ h',h'.IsTupleIter it l (i + 1)->Heap.SameBut it s.heap h'->Q x { s with heap:=h' }) :
    wpAny (model prog w) A (Builtin.SmallTypes.nextOf (.ref it)) Q E s:=by
  obtain ⟨o,ho,hc,hd⟩:=id hit
  obtain ⟨ol,hol,_,nl,hdl⟩:=hl
  unfold Builtin.SmallTypes.nextOf
  refine wpAny_bind (wpAny_callSpecial?_slot (name:=Str.ofString "__next__") hit.typeIs F.slot_tuple_iterator_next
    (wpAny_call_entry F.slot_tuple_iterator_next hit.typeIs F.entry_tuple_iterator_next ?_ (F.args_tuple_iterator_next_1 _)))
  show wpAny _ _ (field (.ref it) 0 >>= _) _ _ s
  refine wpAny_bind (wpAny_field ho hd (x:=.ref l) rfl ?_)
  show wpAny _ _ (if (Value.ref l == Value.none)=true then _ else _) _ _ s
  rw [if_neg (show ¬ ((Value.ref l == Value.none)=true) from O8)]
  show wpAny _ _ (field (.ref it) 1 >>= _) _ _ s
  refine wpAny_bind (wpAny_field ho hd (x:=.int i 0) rfl ?_)
  show wpAny _ _ (seqItems? (.ref l) >>= _) _ _ s
  refine wpAny_bind (wpAny_seqItems hol hdl ?_)
  simp only [Int.toNat_natCast,hx]
  refine wpAny_bind (wpAny_setField ho hd (by simp) (wpAny_pure ⟨x,rfl,wpAny_pure (hQ _ ?_ (Heap.SameBut.update ..))⟩))
  exact ⟨_,F7 _ ho (Obj.isFreed_of_fields (Obj.data_mapFields hd _)),(Obj.cls_mapFields ..).trans hc,by
    rw [Obj.data_mapFields hd]; simp [rawInt]⟩
theorem nextOf_tuple_end {it l:Addr} {i:Nat} {items} {Q:Value->Shared->Prop} (hh:A.handled=none)
    (hit:s.heap.IsTupleIter it l i) (hl:s.heap.IsTuple l items) (hx:items[i]?=none)
    (hE:∀ h' e,Heap.ExtBut it s.heap h'->(∃ o,h'.get? e=some o/\o.cls=.type "StopIteration")->E (.ref e) { s with heap:=h' }) :
    wpAny (model prog w) A (Builtin.SmallTypes.nextOf (.ref it)) Q E s:=by
  obtain ⟨o,ho,hc,hd⟩:=id hit
  obtain ⟨ol,hol,_,nl,hdl⟩:=hl
  unfold Builtin.SmallTypes.nextOf
  refine wpAny_bind (wpAny_callSpecial?_slot (name:=Str.ofString "__next__") hit.typeIs F.slot_tuple_iterator_next
    (wpAny_call_entry F.slot_tuple_iterator_next hit.typeIs F.entry_tuple_iterator_next ?_ (F.args_tuple_iterator_next_1 _)))
  show wpAny _ _ (field (.ref it) 0 >>= _) _ _ s
  refine wpAny_bind (wpAny_field ho hd (x:=.ref l) rfl ?_)
  show wpAny _ _ (if (Value.ref l == Value.none)=true then _ else _) _ _ s
  rw [if_neg (show ¬ ((Value.ref l == Value.none)=true) from O8)]
  show wpAny _ _ (field (.ref it) 1 >>= _) _ _ s
  refine wpAny_bind (wpAny_field ho hd (x:=.int i 0) rfl ?_)
  show wpAny _ _ (seqItems? (.ref l) >>= _) _ _ s
  refine wpAny_bind (wpAny_seqItems hol hdl ?_)
  simp only [Int.toNat_natCast,hx]
  refine wpAny_bind (wpAny_rule (wpAny_bind (wpAny_setField ho hd (by simp) ?_)))
  show wpAny _ _ (newExc (.type "StopIteration") [] >>= _) _ _ _
  refine wpAny_bind ?_
  simp only [newExc,newTuple]
  refine wpAny_bind (wpAny_newObj_type ?_ (by size_fits))
  refine wpAny_bind (m:=firstArgMember _ _) (wpAny_of_eq (a:=Value.none) (by first | rfl | (simp only [firstArgMember]; rfl)) ?_)
  refine wpAny_newObj_type ?_ (by size_fits)
  simp only [raiseNew]
  refine wpAny_bind (wpAny_handled ?_)
  first | rw [show A.in1.handled=none from hh] | rw [hh]
  refine wpAny_bind (wpAny_pure (wpAny_throw ?_))
  exact hE _ _ (((Heap.SameBut.update ..).extBut.push _).push _) ⟨_,D3 _ rfl,rfl⟩
theorem nextOf_item {t:Bool} {it l:Addr} {i:Nat} {items:Array Value} {x:Value} {Q:Value->Shared->Prop} (hit:IterAt t s.heap it l i)
    (hl:HasItems t s.heap l items) (hx:items[i]?=some x)
    (hQ:∀ h',IterAt t h' it l (i + 1)->Heap.SameBut it s.heap h'->Q x { s with heap:=h' }) :
    wpAny (model prog w) A (Builtin.SmallTypes.nextOf (.ref it)) Q E s:=by
  cases t
  · exact wpAny_nextOf_list_item hit hl hx hQ
  · exact nextOf_tuple_item hit hl hx hQ
theorem nextOf_end {t:Bool} {it l:Addr} {i:Nat} {items:Array Value} {Q:Value->Shared->Prop} (hh:A.handled=none)
    (hit:IterAt t s.heap it l i) (hl:HasItems t s.heap l items) (hx:items[i]?=none)
    (hE:∀ h' e,Heap.ExtBut it s.heap h'->(∃ o,h'.get? e=some o/\o.cls=.type "StopIteration")->E (.ref e) { s with heap:=h' }) :
    wpAny (model prog w) A (Builtin.SmallTypes.nextOf (.ref it)) Q E s:=by
  cases t
  · exact wpAny_nextOf_list_end hh hit hl hx hE
  · exact nextOf_tuple_end hh hit hl hx hE
def Vu (t:Bool) (l:Addr):Obj:=if t=true then { cls:=.type "tuple_iterator",data:=.fields #[.ref l,.int 0 0] } else { cls:=.type "list_iterator",data:=.fields #[.ref l,.int 0 0] }
theorem V7 {t:Bool} {l:Addr} {items:Array Value} {Q:Value->Shared->Prop} (hl:HasItems t s.heap l items)
    (hQ:Q (.ref s.heap.objs.size) { s with heap:=s.heap.push (Vu t l) }):wpAny (model prog w) A (pyIter (.ref l)) Q E s:=by
  cases t
  · exact wpAny_pyIter_list hl hQ
  · exact wpAny_pyIter_tuple hl hQ
theorem iterObj_at {t:Bool} {h:Heap} {it l:Addr} (e:h.get? it=some (Vu t l)):IterAt t h it l 0:=by
  cases t
  · exact ⟨_,e,rfl,rfl⟩
  · exact ⟨_,e,rfl,rfl⟩
theorem iterObj_free (t:Bool) (l:Addr):(Vu t l).isFreed=false:=by cases t <;> rfl
theorem zipG_item {t1 t2:Bool} {z TI TO i1 i2 l1 l2:Addr} {k1 k2:Nat} {xs ys:Array Value} {x y a b:Value} {Q:Value->Shared->Prop} (D:ZipApart z TI TO i1 i2 l1 l2)
    (hz:IsZip s.heap z TI TO .none) (hTI:IsPair s.heap TI (.ref i1) (.ref i2)) (hTO:IsPair s.heap TO a b)
    (h1:IterAt t1 s.heap i1 l1 k1) (h2:IterAt t2 s.heap i2 l2 k2) (hl1:HasItems t1 s.heap l1 xs) (hl2:HasItems t2 s.heap l2 ys) (hx:xs[k1]?=some x) (hy:ys[k2]?=some y)
    (hQ:∀ h',IsZip h' z TI TO (rawInt s.heap.objs.size)->IsPair h' TO x y->IterAt t1 h' i1 l1 (k1 + 1)->IterAt t2 h' i2 l2 (k2 + 1)->IsPair h' s.heap.objs.size x y->h'.objs.size=s.heap.objs.size + 1 ->
      (∀ c o,c≠z->c≠TO->c≠i1->c≠i2->s.heap.get? c=some o->h'.get? c=some o)->Q (.ref s.heap.objs.size) { s with heap:=h' }) :
    wpAny (model prog w) A (Builtin.«zip.__next__» ⟨[.ref z],[]⟩) (fun fin s'=>∃ v,fin=.done (.ret v)/\Q v s') E s:=by
  show wpAny _ _ (field (.ref z) 2 >>= _) _ _ _
  refine wpAny_bind (wpAny_field hz rfl (x:=.bool false) rfl ?_)
  show wpAny _ _ (field (.ref z) 3 >>= _) _ _ _
  refine wpAny_bind (wpAny_field hz rfl (x:=.ref TI) rfl ?_)
  refine wpAny_bind (wpAny_seqItems hTI rfl ?_)
  show wpAny _ _ (Builtin.SmallTypes.ownedTupleIsFree (.ref z) >>= _) _ _ _
  refine wpAny_bind ?_
  unfold Builtin.SmallTypes.ownedTupleIsFree
  refine wpAny_bind (wpAny_field hz rfl (x:=.none) rfl (wpAny_pure ?_))
  simp only [if_true]
  refine wpAny_bind (wpAny_rule ?_)
  refine wpAny_bind (wpAny_field hz rfl (x:=.ref TO) rfl ?_)
  refine wpAny_bind (wpAny_setField_rec hz (by simp) fun h₁ hz₁ hs₁=>?_)
  replace hz₁:IsZip h₁ z TI TO .ellipsis:=hz₁
  refine wpAny_bind ?_
  simp only [List.zipIdx_cons,List.zipIdx_nil,List.forIn_cons,List.forIn_nil]
  refine wpAny_bind (wpAny_bind (wpAny_onRaise ?_))
  show wpAny _ _ (Builtin.SmallTypes.nextOf (.ref i1) >>= _) _ _ _
  refine wpAny_bind (nextOf_item (h1.at fun o e=>hs₁.extBut _ _ D.i1z e) (hl1.at fun o e=>hs₁.extBut _ _ D.l1z e) hx fun h₂ h1₂ hs₂=>wpAny_pure ?_)
  have hTO₂:IsPair h₂ TO a b:=hs₂.extBut _ _ D.TOi1 (hs₁.extBut _ _ D.TOz hTO)
  refine wpAny_bind (wpAny_seqItems hTO₂ rfl ?_)
  refine wpAny_bind (wpAny_updateSeq_pair hTO₂ fun h₃ hTO₃ hs₃=>?_)
  replace hTO₃:IsPair h₃ TO x b:=hTO₃
  refine wpAny_bind (wpAny_letGo (wpAny_pure ?_))
  refine wpAny_bind (wpAny_bind (wpAny_onRaise ?_))
  show wpAny _ _ (Builtin.SmallTypes.nextOf (.ref i2) >>= _) _ _ _
  refine wpAny_bind (nextOf_item (h2.at fun o e=>hs₃.extBut _ _ D.TOi2.symm (hs₂.extBut _ _ D.i12.symm (hs₁.extBut _ _ D.i2z e)))
    (hl2.at fun o e=>hs₃.extBut _ _ D.l2TO (hs₂.extBut _ _ D.l2i1 (hs₁.extBut _ _ D.l2z e))) hy fun h₄ h2₄ hs₄=>wpAny_pure ?_)
  have hTO₄:IsPair h₄ TO x b:=hs₄.extBut _ _ D.TOi2 hTO₃
  refine wpAny_bind (wpAny_seqItems hTO₄ rfl ?_)
  refine wpAny_bind (wpAny_updateSeq_pair hTO₄ fun h₅ hTO₅ hs₅=>?_)
  replace hTO₅:IsPair h₅ TO x y:=hTO₅
  refine wpAny_bind (wpAny_letGo (wpAny_pure (wpAny_pure ?_)))
  refine wpAny_bind (wpAny_seqItems hTO₅ rfl ?_)
  refine wpAny_bind (wpAny_newTuple ?_)
  have hsz:h₅.objs.size=s.heap.objs.size:=by rw [hs₅.1,hs₄.1,hs₃.1,hs₂.1,hs₁.1]
  have hz₅:IsZip h₅ z TI TO .ellipsis:=hs₅.extBut _ _ D.TOz.symm (hs₄.extBut _ _ D.i2z.symm (hs₃.extBut _ _ D.TOz.symm (hs₂.extBut _ _ D.i1z.symm hz₁)))
  have hk₅:∀ c o,c≠z->c≠TO->c≠i1->c≠i2->s.heap.get? c=some o->h₅.get? c=some o:=fun c o c1 c2 c3 c4 e=>
    hs₅.extBut _ _ c2 (hs₄.extBut _ _ c4 (hs₃.extBut _ _ c2 (hs₂.extBut _ _ c3 (hs₁.extBut _ _ c1 e))))
  have h1₅:IterAt t1 h₅ i1 l1 (k1 + 1):=h1₂.at fun o e=>hs₅.extBut _ _ D.TOi1.symm (hs₄.extBut _ _ D.i12 (hs₃.extBut _ _ D.TOi1.symm e))
  have h2₅:IterAt t2 h₅ i2 l2 (k2 + 1):=h2₄.at fun o e=>hs₅.extBut _ _ D.TOi2.symm e
  have hzlt:z < h₅.objs.size:=O5 hz₅
  show wpAny _ _ (Builtin.SmallTypes.ownedTupleHandOut (.ref z) (.ref h₅.objs.size) >>= _) _ _ _
  refine wpAny_bind ?_
  unfold Builtin.SmallTypes.ownedTupleHandOut
  have hz₆:IsZip (h₅.push { cls:=.type "tuple",data:=.seq #[x,y] }) z TI TO .ellipsis:=O0 _ hz₅
  refine wpAny_bind (wpAny_setField_rec hz₆ (by simp) fun h₇ hz₇ hs₇=>?_)
  replace hz₇:IsZip h₇ z TI TO (rawInt h₅.objs.size):=hz₇
  refine wpAny_setField_rec hz₇ (by simp) fun h₈ hz₈ hs₈=>?_
  replace hz₈:IsZip h₈ z TI TO (rawInt h₅.objs.size):=hz₈
  have up:∀ c o,c≠z->h₅.get? c=some o->h₈.get? c=some o:=fun c o c1 e=>hs₈.extBut _ _ c1 (hs₇.extBut _ _ c1 (O0 _ e))
  have hT₈:IsPair h₈ h₅.objs.size x y:=hs₈.extBut _ _ (Nat.ne_of_gt hzlt) (hs₇.extBut _ _ (Nat.ne_of_gt hzlt) (D3 _ rfl))
  have hz8:h₈.objs.size=h₅.objs.size + 1:=by rw [hs₈.1,hs₇.1,E7]
  rw [hsz] at hz₈ hT₈ hz8
  refine wpAny_pure ⟨_,rfl,?_⟩
  show Q (.ref h₅.objs.size) _
  rw [hsz]
  exact hQ h₈ hz₈ (up _ _ D.TOz hTO₅) (h1₅.at fun o e=>up _ o D.i1z e) (h2₅.at fun o e=>up _ o D.i2z e) hT₈ hz8 fun c o c1 c2 c3 c4 e=>up c o c1 (hk₅ c o c1 c2 c3 c4 e)
theorem zipG_end {t1 t2:Bool} {z TI TO i1 i2 l1 l2:Addr} {k1 k2:Nat} {xs ys:Array Value} {a b:Value} {Q:Fin->Shared->Prop} (hh:A.handled=none) (D:ZipApart z TI TO i1 i2 l1 l2)
    (hz:IsZip s.heap z TI TO .none) (hTI:IsPair s.heap TI (.ref i1) (.ref i2)) (hTO:IsPair s.heap TO a b)
    (h1:IterAt t1 s.heap i1 l1 k1) (h2:IterAt t2 s.heap i2 l2 k2) (hl1:HasItems t1 s.heap l1 xs) (hl2:HasItems t2 s.heap l2 ys) (hend:xs[k1]?=none\/ys[k2]?=none)
    (hE:∀ h' e,(∀ c o,c≠z->c≠TO->c≠i1->c≠i2->s.heap.get? c=some o->h'.get? c=some o)->(∃ o,h'.get? e=some o/\o.cls=.type "StopIteration")->E (.ref e) { s with heap:=h' }) :
    wpAny (model prog w) A (Builtin.«zip.__next__» ⟨[.ref z],[]⟩) Q E s:=by
  show wpAny _ _ (field (.ref z) 2 >>= _) _ _ _
  refine wpAny_bind (wpAny_field hz rfl (x:=.bool false) rfl ?_)
  show wpAny _ _ (field (.ref z) 3 >>= _) _ _ _
  refine wpAny_bind (wpAny_field hz rfl (x:=.ref TI) rfl ?_)
  refine wpAny_bind (wpAny_seqItems hTI rfl ?_)
  show wpAny _ _ (Builtin.SmallTypes.ownedTupleIsFree (.ref z) >>= _) _ _ _
  refine wpAny_bind ?_
  unfold Builtin.SmallTypes.ownedTupleIsFree
  refine wpAny_bind (wpAny_field hz rfl (x:=.none) rfl (wpAny_pure ?_))
  simp only [if_true]
  refine wpAny_bind (wpAny_rule ?_)
  refine wpAny_bind (wpAny_field hz rfl (x:=.ref TO) rfl ?_)
  refine wpAny_bind (wpAny_setField_rec hz (by simp) fun h₁ hz₁ hs₁=>?_)
  replace hz₁:IsZip h₁ z TI TO .ellipsis:=hz₁
  refine wpAny_bind ?_
  simp only [List.zipIdx_cons,List.zipIdx_nil,List.forIn_cons,List.forIn_nil]
  refine wpAny_bind (wpAny_bind (wpAny_onRaise ?_))
  show wpAny _ _ (Builtin.SmallTypes.nextOf (.ref i1) >>= _) _ _ _
  cases hx:xs[k1]? with
  | none=>
    refine wpAny_bind (nextOf_end hh (h1.at fun o e=>hs₁.extBut _ _ D.i1z e) (hl1.at fun o e=>hs₁.extBut _ _ D.l1z e) hx fun h₂ e hs₂ he=>?_)
    obtain ⟨oe,hoe,hce⟩:=he
    have hz₂:IsZip h₂ z TI TO .ellipsis:=hs₂ _ _ D.i1z.symm hz₁
    have hez:e≠z:=fun x=>by subst x; rw [hz₂] at hoe; cases hoe; simp at hce
    refine wpAny_setField_rec hz₂ (by simp) fun h₃ _ hs₃=>hE h₃ e (fun c o c1 _ c3 _ x=>hs₃.extBut _ _ c1 (hs₂ _ _ c3 (hs₁.extBut _ _ c1 x))) ⟨oe,hs₃.extBut _ _ hez hoe,hce⟩
  | some x=>
    have hy:ys[k2]?=none:=by rcases hend with h | h; rw [hx] at h; cases h; exact h
    refine wpAny_bind (nextOf_item (h1.at fun o e=>hs₁.extBut _ _ D.i1z e) (hl1.at fun o e=>hs₁.extBut _ _ D.l1z e) hx fun h₂ h1₂ hs₂=>wpAny_pure ?_)
    have hTO₂:IsPair h₂ TO a b:=hs₂.extBut _ _ D.TOi1 (hs₁.extBut _ _ D.TOz hTO)
    refine wpAny_bind (wpAny_seqItems hTO₂ rfl ?_)
    refine wpAny_bind (wpAny_updateSeq_pair hTO₂ fun h₃ hTO₃ hs₃=>?_)
    refine wpAny_bind (wpAny_letGo (wpAny_pure ?_))
    refine wpAny_bind (wpAny_bind (wpAny_onRaise ?_))
    show wpAny _ _ (Builtin.SmallTypes.nextOf (.ref i2) >>= _) _ _ _
    refine wpAny_bind (nextOf_end hh (h2.at fun o e=>hs₃.extBut _ _ D.TOi2.symm (hs₂.extBut _ _ D.i12.symm (hs₁.extBut _ _ D.i2z e)))
      (hl2.at fun o e=>hs₃.extBut _ _ D.l2TO (hs₂.extBut _ _ D.l2i1 (hs₁.extBut _ _ D.l2z e))) hy fun h₄ e hs₄ he=>?_)
    obtain ⟨oe,hoe,hce⟩:=he
    have hz₄:IsZip h₄ z TI TO .ellipsis:=hs₄ _ _ D.i2z.symm (hs₃.extBut _ _ D.TOz.symm (hs₂.extBut _ _ D.i1z.symm hz₁))
    have hez:e≠z:=fun x=>by subst x; rw [hz₄] at hoe; cases hoe; simp at hce
    refine wpAny_setField_rec hz₄ (by simp) fun h₅ _ hs₅=>hE h₅ e (fun c o c1 c2 c3 c4 x=>hs₅.extBut _ _ c1 (hs₄ _ _ c4 (hs₃.extBut _ _ c2 (hs₂.extBut _ _ c3 (hs₁.extBut _ _ c1 x))))) ⟨oe,hs₅.extBut _ _ hez hoe,hce⟩
theorem next_zipG_item {t1 t2:Bool} {z TI TO i1 i2 l1 l2:Addr} {k1 k2:Nat} {xs ys:Array Value} {x y a b:Value} {Q:Option Value->Shared->Prop} (D:ZipApart z TI TO i1 i2 l1 l2)
    (hz:IsZip s.heap z TI TO .none) (hTI:IsPair s.heap TI (.ref i1) (.ref i2)) (hTO:IsPair s.heap TO a b)
    (h1:IterAt t1 s.heap i1 l1 k1) (h2:IterAt t2 s.heap i2 l2 k2) (hl1:HasItems t1 s.heap l1 xs) (hl2:HasItems t2 s.heap l2 ys) (hx:xs[k1]?=some x) (hy:ys[k2]?=some y)
    (hQ:∀ h',IsZip h' z TI TO (rawInt s.heap.objs.size)->IsPair h' TO x y->IterAt t1 h' i1 l1 (k1 + 1)->IterAt t2 h' i2 l2 (k2 + 1)->IsPair h' s.heap.objs.size x y->h'.objs.size=s.heap.objs.size + 1 ->
      (∀ c o,c≠z->c≠TO->c≠i1->c≠i2->s.heap.get? c=some o->h'.get? c=some o)->Q (some (.ref s.heap.objs.size)) { s with heap:=h' }) :
    wpAny (model prog w) A (pyNext (.ref z)) Q E s:=by
  have hT:s.TypeIs (.ref z) "zip" := ⟨_,hz,rfl⟩
  unfold pyNext
  exact wpAny_bind (wpAny_attempt (wpAny_callSpecial?_slot (name:=Str.ofString "__next__") hT F.slot_zip_next
    (wpAny_call_entry F.slot_zip_next hT F.entry_zip_next
      (zipG_item D hz hTI hTO h1 h2 hl1 hl2 hx hy fun h' a1 a2 a3 a4 a5 a6 a7=>wpAny_pure (hQ h' a1 a2 a3 a4 a5 a6 a7)) (F.args_zip_next_1 _))))
theorem next_zipG_end {t1 t2:Bool} {z TI TO i1 i2 l1 l2:Addr} {k1 k2:Nat} {xs ys:Array Value} {a b:Value} {Q:Option Value->Shared->Prop} (hh:A.handled=none) (D:ZipApart z TI TO i1 i2 l1 l2)
    (hz:IsZip s.heap z TI TO .none) (hTI:IsPair s.heap TI (.ref i1) (.ref i2)) (hTO:IsPair s.heap TO a b)
    (h1:IterAt t1 s.heap i1 l1 k1) (h2:IterAt t2 s.heap i2 l2 k2) (hl1:HasItems t1 s.heap l1 xs) (hl2:HasItems t2 s.heap l2 ys) (hend:xs[k1]?=none\/ys[k2]?=none)
    (hQ:∀ h',(∀ c o,c≠z->c≠TO->c≠i1->c≠i2->s.heap.get? c=some o->h'.get? c=some o)->Q none { s with heap:=h' }):wpAny (model prog w) A (pyNext (.ref z)) Q E s:=by
  have hT:s.TypeIs (.ref z) "zip" := ⟨_,hz,rfl⟩
  unfold pyNext
  refine wpAny_bind (wpAny_attempt (wpAny_callSpecial?_slot (name:=Str.ofString "__next__") hT F.slot_zip_next
    (wpAny_call_entry F.slot_zip_next hT F.entry_zip_next (zipG_end hh D hz hTI hTO h1 h2 hl1 hl2 hend fun h' e hk he=>?_) (F.args_zip_next_1 _))))
  obtain ⟨o,ho,hc⟩:=he
  refine wpAny_bind (wpAny_isInstance (T := "StopIteration") (b:=true) ⟨o,ho,hc⟩ isSubtype_stop ?_)
  exact wpAny_pure (hQ _ hk)
end
def zH1 (t1:Bool) (h:Heap) (l1:Addr):Heap:=h.push (Vu t1 l1)
def zH2 (t1 t2:Bool) (h:Heap) (l1 l2:Addr):Heap:=(zH1 t1 h l1).push (Vu t2 l2)
def zH3 (t1 t2:Bool) (h:Heap) (l1 l2:Addr):Heap:=(zH2 t1 t2 h l1 l2).push { cls:=.type "tuple",data:=.seq #[.ref h.objs.size,.ref (zH1 t1 h l1).objs.size] }
def zH4 (t1 t2:Bool) (h:Heap) (l1 l2:Addr):Heap:=(zH3 t1 t2 h l1 l2).push { cls:=.type "tuple",data:=.seq #[.none,.none] }
def zH5 (t1 t2:Bool) (h:Heap) (l1 l2:Addr):Heap:=(zH4 t1 t2 h l1 l2).push { cls:=.type "zip",data:=.fields #[.none,.bool false,.bool false,.ref (zH2 t1 t2 h l1 l2).objs.size,.ref (zH3 t1 t2 h l1 l2).objs.size] }
theorem meets_zipG_new (t1 t2:Bool) (l1 l2:Addr) (xs ys:Array Value) :
    Meets (Builtin.«zip.__new__» ⟨[.type "zip",.ref l1,.ref l2],[]⟩) (fun _ R s=>HasItems t1 s.heap l1 xs/\HasItems t2 s.heap l2 ys /\
      R (.ok (.ret (.ref (zH4 t1 t2 s.heap l1 l2).objs.size))) { s with heap:=zH5 t1 t2 s.heap l1 l2 }):=
  .of_wp fun prog w A R s h=>by
    obtain ⟨hp,g,d,tk,os⟩:=s; obtain ⟨hl1,hl2,h⟩:=h
    have hsub:=sub_zip
    have hL1:HasItems t1 (Shared.heap ⟨hp,g,d,tk,os⟩) l1 xs:=hl1
    have hL2:HasItems t2 (Shared.heap ⟨hp.push (Vu t1 l1),g,d,tk,os⟩) l2 ys:=hl2.at fun o e=>O0 _ e
    wp_walk using V7 hL1,V7 hL2
    exact ⟨_,rfl,h⟩
section
variable {prog:Program} {w:World} {A:Around} {E:Value->Shared->Prop} {s:Shared}
theorem call_zipG {t1 t2:Bool} {l1 l2:Addr} {xs ys:Array Value} {Q:Value->Shared->Prop} (hl1:HasItems t1 s.heap l1 xs) (hl2:HasItems t2 s.heap l2 ys)
    (h:∀ h',IsZip h' (s.heap.objs.size + 4) (s.heap.objs.size + 2) (s.heap.objs.size + 3) .none->IsPair h' (s.heap.objs.size + 2) (.ref s.heap.objs.size) (.ref (s.heap.objs.size + 1)) ->
      IsPair h' (s.heap.objs.size + 3) .none .none->IterAt t1 h' s.heap.objs.size l1 0->IterAt t2 h' (s.heap.objs.size + 1) l2 0->h'.objs.size=s.heap.objs.size + 5 ->
      (∀ c o,s.heap.get? c=some o->h'.get? c=some o)->Q (.ref (s.heap.objs.size + 4)) { s with heap:=h' }) :
    wpAny (model prog w) A (call (.type "zip") [.ref l1,.ref l2]) Q E s:=by
  refine callType_new F.called_zip (by decide) (F.typeCall_zip_2 _ _) (F.newCall_zip_2 _ _) (fun obj=>F.args_object_init_3 obj _ _) F.entry_zip_new
    (meets_zipG_new t1 t2 l1 l2 xs ys) ⟨hl1,hl2,?_⟩
  have z1:(zH1 t1 s.heap l1).objs.size=s.heap.objs.size + 1:=E7 ..
  have z2:(zH2 t1 t2 s.heap l1 l2).objs.size=s.heap.objs.size + 2:=by unfold zH2; rw [E7,z1]
  have z3:(zH3 t1 t2 s.heap l1 l2).objs.size=s.heap.objs.size + 3:=by unfold zH3; rw [E7,z2]
  have z4:(zH4 t1 t2 s.heap l1 l2).objs.size=s.heap.objs.size + 4:=by unfold zH4; rw [E7,z3]
  have z5:(zH5 t1 t2 s.heap l1 l2).objs.size=s.heap.objs.size + 5:=by unfold zH5; rw [E7,z4]
  have g5:(zH5 t1 t2 s.heap l1 l2).get? (zH4 t1 t2 s.heap l1 l2).objs.size=some { cls:=.type "zip",data:=.fields #[.none,.bool false,.bool false,.ref (zH2 t1 t2 s.heap l1 l2).objs.size,.ref (zH3 t1 t2 s.heap l1 l2).objs.size] }:=D3 _ rfl
  have g4:(zH5 t1 t2 s.heap l1 l2).get? (zH3 t1 t2 s.heap l1 l2).objs.size=some { cls:=.type "tuple",data:=.seq #[.none,.none] }:=O0 _ (D3 _ rfl)
  have g3:(zH5 t1 t2 s.heap l1 l2).get? (zH2 t1 t2 s.heap l1 l2).objs.size=some { cls:=.type "tuple",data:=.seq #[.ref s.heap.objs.size,.ref (zH1 t1 s.heap l1).objs.size] }:=O0 _ (O0 _ (D3 _ rfl))
  have g2:(zH5 t1 t2 s.heap l1 l2).get? (zH1 t1 s.heap l1).objs.size=some (Vu t2 l2):=O0 _ (O0 _ (O0 _ (D3 _ (iterObj_free _ _))))
  have g1:(zH5 t1 t2 s.heap l1 l2).get? s.heap.objs.size=some (Vu t1 l1):=O0 _ (O0 _ (O0 _ (O0 _ (D3 _ (iterObj_free _ _)))))
  show _/\_
  rw [z2,z3,z4] at g5
  rw [z1,z2] at g3
  rw [z3] at g4
  rw [z1] at g2
  rw [z4]
  exact ⟨⟨_,g5,rfl⟩,h _ g5 g3 g4 (iterObj_at g1) (iterObj_at g2) z5 fun c o x=>
    O0 _ (O0 _ (O0 _ (O0 _ (O0 _ x))))⟩
end
def SqK (K:PySem.W.Frag) (t:Bool) (H:Hp) (a:Addr) (xs:List V):Prop:=if t=true then SqT K H a xs else SqL K H a xs
section
variable {X:Cx} {pins:List (Addr × Obj)} {σ:St} {H:Hp} {s:Shared}
theorem Inv.seqK {t:Bool} {a:Addr} {xs:List V} (I:Inv X pins σ H s) (h:SqK X.K t H a xs):∃ its:List Value,Vals xs its/\HasItems t s.heap a its.toArray/\xs.length<=sizeLine:=by
  cases t
  · obtain ⟨its,r,p,z⟩:=I.list h
    exact ⟨its,r,p.isList,z⟩
  · obtain ⟨its,r,p,z⟩:=I.tuple h
    exact ⟨its,r,p,z⟩
theorem Inv.seqK_inj {t:Bool} {a:Addr} {xs ys:List V} (I:Inv X pins σ H s) (h:SqK X.K t H a xs) (h':SqK X.K t H a ys):xs=ys:=by
  cases t
  · exact I.list_inj h h'
  · exact I.tuple_inj h h'
theorem Inv.turnedL {t':Nat} {its:List Addr} {h':Heap} (I:Inv X pins σ H s) (k:∀ b o,b∉its->s.heap.get? b=some o->h'.get? b=some o) (hf:∀ b∈its,FpOk X pins H b):Inv X pins σ H { s with heap:=h',toks:=t' }:=by
  have nit:∀ b u,H b=some u->b∉its:=fun b u e z=>by rw [(hf b z).1] at e; cases e
  refine I.step (g':=s.gens) (d':=s.drawn) (ch:=its) (fun b hb=>?_) (fun b o _ _ hc e _=>k b o hc e) (fun b o _ _ hc e _=>⟨o.slots,k b o hc e⟩) (fun _ _ _ _ n=>n)
    (fun b o hc e=>⟨o,k b o hc e⟩) (fun _ _ e=>e) (fun _ _ _ e=>e) (fun b ps e=>⟨#[],by rw [e]; simp⟩) (fun m hm=>?_) (fun b u e=>?_) I.bare
  · obtain ⟨f0,f1,f2,f3,f4,f5⟩:=hf b hb
    exact ⟨f3,f1,f4,f5⟩
  · obtain ⟨o,es,ep,ho,r⟩:=hm
    exact ⟨o,es,ep,k _ o (fun z=>(hf _ z).2.1 rfl) ho,r⟩
  · refine (I.hok b u e).stay (fun c v hc q=>k c v ?_ q) (fun _ q=>q) fun _ _ q=>q
    rcases hc with z | z
    · rw [z]; exact nit b u e
    · exact nit c _ z
end
def Itz (K:PySem.W.Frag) (t1 t2:Bool) (a b:Addr):It:=
  ⟨fun i H=>∃ xs ys x y,SqK K t1 H a xs/\SqK K t2 H b ys/\xs[i]?=some x/\ys[i]?=some y,
   fun i H v H'=>∃ p x y,H p=none/\v=.ref p/\H'=upd H p (.tup [x,y])/\∀ xs ys,SqK K t1 H a xs->SqK K t2 H b ys->xs[i]?=some x/\ys[i]?=some y,
   fun i H=>∃ xs ys,SqK K t1 H a xs/\SqK K t2 H b ys/\(xs.length<=i\/ys.length<=i)⟩
def zipSt (t1 t2:Bool) (z TI TO i1 i2 a b:Addr) (i:Nat) (h:Heap):Prop:=
  IsZip h z TI TO .none/\IsPair h TI (.ref i1) (.ref i2)/\(∃ u v,IsPair h TO u v)/\IterAt t1 h i1 a i/\IterAt t2 h i2 b i
theorem pair_cell {a b:Value}:∀ v,({ cls:=.type "tuple",data:=.seq #[a,b] }:Obj).data≠.cell v:=fun v z=>by cases z
theorem turn_zip {P:Program} {w:World} {K:PySem.W.Frag} {elts:List Expr} {k:Nat} {pos:Pos} {t1 t2:Bool} {z TI TO i1 i2 a b:Addr} (D:ZipApart z TI TO i1 i2 a b) :
    Turn P w K (.Tuple elts k pos) (Itz K t1 t2 a b) [z,TI,TO,i1,i2] z (zipSt t1 t2 z TI TO i1 i2 a b) where
  mem:=by simp
  obj:=fun i h st c hc=>by
    obtain ⟨hz,hTI,⟨u,v,hTO⟩,h1,h2⟩:=st
    simp at hc
    rcases hc with rfl | rfl | rfl | rfl | rfl
    · exact ⟨_,hz,fun v q=>by cases q⟩
    · exact ⟨_,hTI,pair_cell⟩
    · exact ⟨_,hTO,pair_cell⟩
    · exact h1.there
    · exact h2.there
  keep:=fun i h h' st kk=>by
    obtain ⟨hz,hTI,⟨u,v,hTO⟩,h1,h2⟩:=st
    exact ⟨kk z (by simp) _ hz,kk TI (by simp) _ hTI,⟨u,v,kk TO (by simp) _ hTO⟩,h1.at fun o e=>kk i1 (by simp) o e,h2.at fun o e=>kk i2 (by simp) o e⟩
  item:=by
    intro X hP hw hK hc i pins s σ H E I hf st hg
    subst hP hw hK
    obtain ⟨xs,ys,x,y,hq1,hq2,hx,hy⟩:=hg
    obtain ⟨hz,hTI,⟨u,v,hTO⟩,h1,h2⟩:=st
    obtain ⟨its,rv,p,_⟩:=I.seqK hq1
    obtain ⟨its2,rv2,p2,_⟩:=I.seqK hq2
    obtain ⟨ux,hux,rux⟩:=rv.get hx
    obtain ⟨uy,huy,ruy⟩:=rv2.get hy
    refine next_zipG_item D hz hTI hTO h1 h2 p p2 (x:=ux) (y:=uy) (by simpa using hux) (by simpa using huy) fun h' a1 a2 a3 a4 a5 a6 a7=>⟨_,rfl,?_⟩
    refine wpAny_letOwnedTupleGo_zip (s:={ s with heap:=h' }) a1 fun h'' b1 b2=>?_
    have hfr:H s.heap.objs.size=none:=I.fresh
    have zlt:z < s.heap.objs.size:=O5 hz
    have TIlt:TI < s.heap.objs.size:=O5 hTI
    have TOlt:TO < s.heap.objs.size:=O5 hTO
    have i1lt:i1 < s.heap.objs.size:=by obtain ⟨o,e,_⟩:=h1.there; exact O5 e
    have i2lt:i2 < s.heap.objs.size:=by obtain ⟨o,e,_⟩:=h2.there; exact O5 e
    have I1:Inv X pins σ H { s with heap:=h'' }:=I.turnedL (t':=s.toks) (its:=[z,TO,i1,i2]) (fun c o hc e=>(b2.2 c (fun q=>hc (by simp [q]))).trans (a7 c o (fun q=>hc (by simp [q])) (fun q=>hc (by simp [q])) (fun q=>hc (by simp [q])) (fun q=>hc (by simp [q])) e))
      fun c hc=>hf c (by simp at hc ⊢; rcases hc with rfl | rfl | rfl | rfl <;> simp)
    have tupAt:IsPair h'' s.heap.objs.size ux uy:=(b2.2 _ (Nat.ne_of_gt zlt)).trans a5
    have fsz:H s.heap.objs.size=none:=hfr
    have I2:Inv X pins σ (upd H s.heap.objs.size (.tup [x,y])) { s with heap:=h'' }:=by
      refine ⟨I1.ok,I1.os,I1.bare,?_,I1.loc,I1.cell,?_,?_,?_,?_,I1.len⟩
      · have u0:=I1.base
        have old:∀ c o,X.s₀.heap.get? c=some o->c≠s.heap.objs.size:=fun c o e=>E5 (D0 (O5 e) I.sz)
        exact ⟨u0.keep,u0.slot,fun c o e n hx=>by rw [Qd (old c o e)]; exact u0.free c o e n hx,u0.there,
          fun c ts e=>by have:=u0.tups c ts e; rw [Qd (Qg this fsz)]; exact this,
          fun c o ts e=>by have:=u0.frzs c o ts e; rw [Qd (Qg this fsz)]; exact this,
          fun c ps e=>by obtain ⟨more,q⟩:=u0.tbls c ps e; exact ⟨more,by rw [Qd (Qg q fsz)]; exact q⟩⟩
      · rw [Qd (E5 I.lt)]; exact I.free
      · intro x' c e
        obtain ⟨v',q⟩:=I.cell x' c e
        rw [Qd (E5 q.lt)]; exact I.freeC x' c e
      · intro p' hp'
        obtain ⟨e,n,ne,nf,d⟩:=I1.pin p' hp'
        have e0:=(I.pin p' hp').1
        exact ⟨e,by rw [Qd (E5 (O5 e0))]; exact n,ne,nf,d⟩
      · intro c o q
        by_cases hcs:c=s.heap.objs.size
        · subst hcs
          rw [Qs] at q; cases q
          exact ⟨by simp only [D7,List.length_nil]; rw [sizeLine_eq]; decide,[ux,uy],.cons rux (.cons ruy .nil),⟨_,tupAt,rfl,0,rfl⟩⟩
        · rw [Qd hcs] at q
          exact (I1.hok c o q).stay (fun _ _ _ r=>r) (fun c' r=>by rw [Qd (Qg r fsz)]; exact r) fun c' ts r=>by rw [Qd (Qg r fsz)]; exact r
    refine ⟨.ref s.heap.objs.size,_,I2,rfl,⟨s.heap.objs.size,x,y,fsz,rfl,rfl,fun xs' ys' q1 q2=>?_⟩,?_,fun c hc=>?_⟩
    · rw [I.seqK_inj q1 hq1,I.seqK_inj q2 hq2]; exact ⟨hx,hy⟩
    · exact ⟨b1,b2.extBut _ _ D.TIz (a7 _ _ D.TIz D.TITO D.TIi1 D.TIi2 hTI),⟨_,_,b2.extBut _ _ D.TOz a2⟩,a3.at fun o e=>b2.extBut _ _ D.i1z e,a4.at fun o e=>b2.extBut _ _ D.i2z e⟩
    · have:=(hf c hc).1
      have clt:c < s.heap.objs.size:=by simp at hc; rcases hc with rfl | rfl | rfl | rfl | rfl <;> assumption
      rw [Qd (E5 clt)]; exact this
  done:=by
    intro X hP hw hK hc i pins s σ H E I hf st hg
    subst hP hw hK
    obtain ⟨xs,ys,hq1,hq2,hend⟩:=hg
    obtain ⟨hz,hTI,⟨u,v,hTO⟩,h1,h2⟩:=st
    obtain ⟨its,rv,p,_⟩:=I.seqK hq1
    obtain ⟨its2,rv2,p2,_⟩:=I.seqK hq2
    have l1:=rv.length
    have l2:=rv2.length
    refine next_zipG_end (I.ok.hd hc) D hz hTI hTO h1 h2 p p2 (hend.elim (fun h=>.inl (by simp; omega)) fun h=>.inr (by simp; omega)) fun h' kk=>⟨rfl,?_⟩
    exact I.turnedL (t':=s.toks) (its:=[z,TO,i1,i2]) (fun c o hc e=>kk c o (fun q=>hc (by simp [q])) (fun q=>hc (by simp [q])) (fun q=>hc (by simp [q])) (fun q=>hc (by simp [q])) e)
      fun c hc=>hf c (by simp at hc ⊢; rcases hc with rfl | rfl | rfl | rfl <;> simp)
  self:=fun _ _ _ _ _ st h=>wpAny_pyIter_zip st.1 h
section
variable {X:Cx}
def iZip (K:PySem.W.Frag) (t1 t2:Bool) (ta:TA):TI:=fun σ H R=>ta σ H fun vs H1=>∃ a b xs ys,vs=[.ref a,.ref b]/\SqK K t1 H1 a xs/\SqK K t2 H1 b ys/\R (Itz K t1 t2 a b) H1
theorem boot_zip:bootBuiltins "zip" = some (.type "zip"):=by decide +kernel
theorem pi_zip (t1 t2:Bool) {a b:Expr} {ta:TA} {p pos:Pos} {elts:List Expr} {k:Nat} {tp:Pos} (hg:Gl X "zip") (hm:X.mg "zip" = none) (ha:PA X [a,b] ta) (hs:starEach [a,b] X.env=[(false,eval a X.env),(false,eval b X.env)]:=by rfl) (hs2:starEach [b] X.env=[(false,eval b X.env)]:=by rfl) :
    PI X (.Tuple elts k tp) (.Call (.Name "zip" p) [a,b] [] pos) (iZip X.K t1 t2 ta):=by
  intro pins s σ H R I h
  refine Call_ (ld_blt I hg hm boot_zip (PyProof.Rows.callWith_type1 (thn (ha pos pins s σ H _ I h) fun us s1 ⟨vs,H1,I1,r1,q1⟩=>?_) (by rw [hs,hs2]) (by rw [hs2]; rfl)))
  obtain ⟨a',b',xs,ys,e,q1,q2,q⟩:=q1
  subst e
  cases r1 with
  | cons r rr=>
    cases rr with
    | cons r' rr=>
      cases rr
      cases r
      cases r'
      obtain ⟨its,rv,p1,_⟩:=I1.seqK q1
      obtain ⟨its2,rv2,p2,_⟩:=I1.seqK q2
      refine call_zipG p1 p2 fun h' z1 z2 z3 z4 z5 z6 z7=>?_
      refine wpAny_pyIter_zip (s:={ s1 with heap:=h' }) z1 ?_
      have lta:a' < s1.heap.objs.size:=by obtain ⟨o,e⟩:=p1.there; exact O5 e
      have ltb:b' < s1.heap.objs.size:=by obtain ⟨o,e⟩:=p2.there; exact O5 e
      have D:ZipApart (s1.heap.objs.size + 4) (s1.heap.objs.size + 2) (s1.heap.objs.size + 3) s1.heap.objs.size (s1.heap.objs.size + 1) a' b':=by
        constructor <;> (intro z; unfold Addr at *; omega)
      refine ⟨_,[s1.heap.objs.size + 4,s1.heap.objs.size + 2,s1.heap.objs.size + 3,s1.heap.objs.size,s1.heap.objs.size + 1],_,_,H1,rfl,I1.kept (t':=s1.toks) z7,turn_zip (t1:=t1) (t2:=t2) D,⟨z1,z2,⟨_,_,z3⟩,z4,z5⟩,fun c hc=>?_,q⟩
      have hc':s1.heap.objs.size<=c:=by simp at hc; unfold Addr at *; omega
      exact I1.fpOk hc' (I1.hok.fresh hc')
end
end L2
namespace L2
open PySem PySem.Spec PyProof.Rows
theorem walksK {prog:Program} {w:World} {A:Around} (hh:A.handled=none) (t:Bool) (I ax:Addr) (hne:ax≠I) (items:Array Value) :
    Walks prog w A I [I,ax] [I] items.size (fun i v=>items[i]?=some v) (fun i h=>IterAt t h I ax i/\HasItems t h ax items):=by
  cases t
  · exact Walks.list hh I ax hne items
  · exact Walks.tuple hh I ax hne items
theorem getD_at {α:Type} (l:List α) (d:α) {n:Nat} (h:n < l.length):l.getD n d=l[n]:=by simp [List.getD,h]
theorem preSum_list (ns:List Int):preSum (fun j=>ns.getD j 0) ns.length=ns.sum:=by
  have key:∀ (k:Nat),k<=ns.length->preSum (fun j=>ns.getD j 0) k=(ns.take k).sum:=by
    intro k
    induction k with
    | zero=>intro _; rfl
    | succ k ih=>
      intro hk
      show preSum _ k + ns.getD k 0=_
      have hlt:k < ns.length:=by omega
      rw [ih (by omega),List.take_succ,List.sum_append,getD_at _ _ hlt,O4 hlt]
      simp
  rw [key ns.length (O7 _),List.take_length]
section
variable {X:Cx} {pins:List (Addr × Obj)} {σ:St} {H:Hp} {s:Shared}
theorem Inv.movedNew {s':Shared} (I:Inv X pins σ H s) {o:Obj} (m:Moved [s.heap.objs.size] (fun a b=>b=a) { s with heap:=s.heap.push o } s'):Inv X pins σ H s':=by
  obtain ⟨m1,m2,m3,m4,m5⟩:=m
  obtain ⟨h',g',d',t',o'⟩:=s'
  have e1:g'=s.gens:=m2
  have e2:d'=s.drawn:=m3
  have e3:o'=s.os:=m4
  subst e1 e2 e3
  refine I.kept (t':=t') fun b u e=>m1 b u (fun z=>?_) (O0 _ e)
  have:b=s.heap.objs.size:=by simpa using z
  exact absurd (O5 e) (by rw [this]; exact Nat.lt_irrefl _)
theorem ints_get {ns:List Int} {its:List Value} (r:Vals (ns.map V.int) its):∀ (i:Nat) (v:Value),its.toArray[i]?=some v->∃ t,v=Value.int (ns.getD i 0) t:=fun i v e=>by
  have e':its[i]?=some v:=by simpa using e
  have hi:i < its.length:=(O1.mp e').1
  have hl:=r.length
  rw [O2] at hl
  have hn:(ns.map V.int)[i]?=some (V.int (ns.getD i 0)):=by
    have:i < ns.length:=by omega
    simp [List.getD,this]
  obtain ⟨u,hu,t,ru⟩:=r.get hn
  rw [e'] at hu
  cases hu
  exact ⟨t,ru⟩
theorem bools_get {bs:List Bool} {its:List Value} (r:Vals (bs.map V.bl) its):∀ (i:Nat) (v:Value),its.toArray[i]?=some v->v=Value.bool (bs.getD i false):=fun i v e=>by
  have e':its[i]?=some v:=by simpa using e
  have hi:i < its.length:=(O1.mp e').1
  have hl:=r.length
  rw [O2] at hl
  have hn:(bs.map V.bl)[i]?=some (V.bl (bs.getD i false)):=by
    have:i < bs.length:=by omega
    simp [List.getD,this]
  obtain ⟨u,hu,ru⟩:=r.get hn
  rw [e'] at hu
  cases hu
  exact ru
theorem Vt {t:Bool} {l:Addr} {items:Array Value} (hl:HasItems t s.heap l items):l≠s.heap.objs.size /\
    (IterAt t (s.heap.push (Vu t l)) s.heap.objs.size l 0/\HasItems t (s.heap.push (Vu t l)) l items)/\∀ b∈[s.heap.objs.size,l],b < (s.heap.push (Vu t l)).objs.size:=by
  obtain ⟨o,e⟩:=hl.there
  have hlt:=O5 e
  refine ⟨E5 hlt,⟨iterObj_at (D3 _ (iterObj_free _ _)),hl.at fun o e=>O0 _ e⟩,fun b hb=>?_⟩
  rw [E7]
  simp at hb
  rcases hb with rfl | rfl
  · exact Nat.lt_succ_self _
  · exact Nat.lt_succ_of_lt hlt
end
section
variable {X:Cx}
theorem call_sum (t:Bool) (hc:X.calm=true):X3 X (.builtin "sum") (fun xs H Q=>∃ (a:Addr) (ns:List Int),xs=[.ref a]/\SqK X.K t H a (ns.map V.int)/\Q (.int ns.sum) H):=by
  intro pins s σ H xs us Q I r h
  obtain ⟨a,ns,rfl,hq,q⟩:=h
  obtain ⟨u,rfl,r1⟩:=vals1 r
  cases r1
  obtain ⟨its,rv,p,_⟩:=I.seqK hq
  obtain ⟨w1,w2,w3⟩:=Vt p
  have hl:=rv.length
  rw [O2] at hl
  refine call_sum_walkAnyS (V7 p ⟨_,_,_,_,_,_,_,fun j=>ns.getD j 0,rfl,(walksK (A:=X.A.in1) (I.ok.hd hc) t _ a w1 its.toArray).toS,w2,w3,ints_get rv,fun s' t' m=>?_⟩)
  refine ⟨.int ns.sum,H,I.movedNew m,⟨t',?_⟩,q⟩
  rw [O3,<- hl,preSum_list]
theorem range_all (bs:List Bool):(List.range bs.length).all (fun i=>bs.getD i false)=bs.all id:=by
  induction bs with
  | nil=>rfl
  | cons b r ih=>
    rw [D7,List.range_succ_eq_map,List.all_cons,List.all_map,List.all_cons,<- ih]
    rfl
theorem range_any (bs:List Bool):(List.range bs.length).any (fun i=>bs.getD i false)=bs.any id:=by
  induction bs with
  | nil=>rfl
  | cons b r ih=>
    rw [D7,List.range_succ_eq_map,List.any_cons,List.any_map,List.any_cons,<- ih]
    rfl
theorem call_all (t:Bool) (hc:X.calm=true):X3 X (.builtin "all") (fun xs H Q=>∃ (a:Addr) (bs:List Bool),xs=[.ref a]/\SqK X.K t H a (bs.map V.bl)/\Q (.bl (bs.all id)) H):=by
  intro pins s σ H xs us Q I r h
  obtain ⟨a,bs,rfl,hq,q⟩:=h
  obtain ⟨u,rfl,r1⟩:=vals1 r
  cases r1
  obtain ⟨its,rv,p,_⟩:=I.seqK hq
  obtain ⟨w1,w2,w3⟩:=Vt p
  have hl:=rv.length
  rw [O2] at hl
  refine call_all_walkS (V7 p ⟨_,_,_,_,_,_,_,fun j=>bs.getD j false,rfl,(walksK (A:=X.A.in1) (I.ok.hd hc) t _ a w1 its.toArray).toS,w2,fun i v s' Q' E' hv hQ=>?_,fun s' m=>?_⟩)
  · rw [bools_get rv i v hv]
    exact wpAny_truthy_bool hQ
  · refine ⟨.bl (bs.all id),H,I.movedNew m,?_,q⟩
    show Value.bool _=_
    rw [O3,<- hl,range_all]
theorem call_any (t:Bool) (hc:X.calm=true):X3 X (.builtin "any") (fun xs H Q=>∃ (a:Addr) (bs:List Bool),xs=[.ref a]/\SqK X.K t H a (bs.map V.bl)/\Q (.bl (bs.any id)) H):=by
  intro pins s σ H xs us Q I r h
  obtain ⟨a,bs,rfl,hq,q⟩:=h
  obtain ⟨u,rfl,r1⟩:=vals1 r
  cases r1
  obtain ⟨its,rv,p,_⟩:=I.seqK hq
  obtain ⟨w1,w2,w3⟩:=Vt p
  have hl:=rv.length
  rw [O2] at hl
  refine call_any_walkS (V7 p ⟨_,_,_,_,_,_,_,fun j=>bs.getD j false,rfl,(walksK (A:=X.A.in1) (I.ok.hd hc) t _ a w1 its.toArray).toS,w2,fun i v s' Q' E' hv hQ=>?_,fun s' m=>?_⟩)
  · rw [bools_get rv i v hv]
    exact wpAny_truthy_bool hQ
  · refine ⟨.bl (bs.any id),H,I.movedNew m,?_,q⟩
    show Value.bool _=_
    rw [O3,<- hl,range_any]
theorem call_maxL (t:Bool) (hc:X.calm=true):X3 X (.builtin "max") (fun xs H Q=>∃ (a:Addr) (ns:List Int),xs=[.ref a]/\SqK X.K t H a (ns.map V.int)/\ns≠[]/\∀ m,m∈ns->(∀ k,k∈ns->k<=m)->Q (.int m) H):=by
  intro pins s σ H xs us Q I r h
  obtain ⟨a,ns,rfl,hq,hne,q⟩:=h
  obtain ⟨u,rfl,r1⟩:=vals1 r
  cases r1
  obtain ⟨its,rv,p,_⟩:=I.seqK hq
  obtain ⟨w1,w2,w3⟩:=Vt p
  have hl:=rv.length
  rw [O2] at hl
  have hpos:0 < ns.length:=List.length_pos_iff.mpr hne
  refine call_max_walkS (V7 p ⟨_,_,_,_,_,_,_,_,rfl,(walksK (A:=X.A.in1) (I.ok.hd hc) t _ a w1 its.toArray).toS,w2,w3,by rw [O3]; omega,CmpOf.ints_gt (fun j=>ns.getD j 0) (fun i v hv=>ints_get rv i v hv),fun v s' hv m=>?_⟩)
  obtain ⟨t',rfl⟩:=ints_get rv _ _ hv
  obtain ⟨h1,h2⟩:=argBest_gt (fun j=>ns.getD j 0) (its.toArray.size - 1)
  have hb:argBest (fun i j=>decide (ns.getD i 0 > ns.getD j 0)) (its.toArray.size - 1) < ns.length:=by
    have e':its.toArray.size=ns.length:=by rw [O3]; omega
    rw [e'] at h1 ⊢
    exact Nat.lt_of_le_of_lt h1 (by omega)
  refine ⟨.int (ns.getD (argBest (fun i j=>decide (ns.getD i 0 > ns.getD j 0)) (its.toArray.size - 1)) 0),H,I.movedNew m,⟨t',rfl⟩,q _ ?_ fun k hk=>?_⟩
  · rw [getD_at _ _ hb]
    exact List.getElem_mem hb
  · obtain ⟨j,hj,rfl⟩:=List.mem_iff_getElem.mp hk
    have:=h2 j (by rw [O3]; omega)
    rw [getD_at _ _ hj] at this
    exact this
theorem call_minL (t:Bool) (hc:X.calm=true):X3 X (.builtin "min") (fun xs H Q=>∃ (a:Addr) (ns:List Int),xs=[.ref a]/\SqK X.K t H a (ns.map V.int)/\ns≠[]/\∀ m,m∈ns->(∀ k,k∈ns->m<=k)->Q (.int m) H):=by
  intro pins s σ H xs us Q I r h
  obtain ⟨a,ns,rfl,hq,hne,q⟩:=h
  obtain ⟨u,rfl,r1⟩:=vals1 r
  cases r1
  obtain ⟨its,rv,p,_⟩:=I.seqK hq
  obtain ⟨w1,w2,w3⟩:=Vt p
  have hl:=rv.length
  rw [O2] at hl
  have hpos:0 < ns.length:=List.length_pos_iff.mpr hne
  refine call_min_walkS (V7 p ⟨_,_,_,_,_,_,_,_,rfl,(walksK (A:=X.A.in1) (I.ok.hd hc) t _ a w1 its.toArray).toS,w2,w3,by rw [O3]; omega,CmpOf.ints_lt (fun j=>ns.getD j 0) (fun i v hv=>ints_get rv i v hv),fun v s' hv m=>?_⟩)
  obtain ⟨t',rfl⟩:=ints_get rv _ _ hv
  obtain ⟨h1,h2⟩:=argBest_lt (fun j=>ns.getD j 0) (its.toArray.size - 1)
  have hb:argBest (fun i j=>decide (ns.getD i 0 < ns.getD j 0)) (its.toArray.size - 1) < ns.length:=by
    have e':its.toArray.size=ns.length:=by rw [O3]; omega
    rw [e'] at h1 ⊢
    exact Nat.lt_of_le_of_lt h1 (by omega)
  refine ⟨.int (ns.getD (argBest (fun i j=>decide (ns.getD i 0 < ns.getD j 0)) (its.toArray.size - 1)) 0),H,I.movedNew m,⟨t',rfl⟩,q _ ?_ fun k hk=>?_⟩
  · rw [getD_at _ _ hb]
    exact List.getElem_mem hb
  · obtain ⟨j,hj,rfl⟩:=List.mem_iff_getElem.mp hk
    have:=h2 j (by rw [O3]; omega)
    rw [getD_at _ _ hj] at this
    exact this
end
section
variable {prog:Program} {w:World} {A:Around} {E:Value->Shared->Prop} {s:Shared}
end
section
variable {X:Cx}
end
end L2
namespace L2
open PySem PySem.Spec PyProof.Rows
theorem same_new {H:Hp} {a:Addr} {o:HO} (h:H a=none):Same H (upd H a o):=fun b u e=>by rw [Qd (Qg e h)]; exact e
section
variable {K:PySem.W.Frag} {cap:List (Option Nat)} {te:TE} {σ:St} {H1:Hp} {Q:VK}
abbrev g2 (K:PySem.W.Frag):TG:=gTup K 2 (gCons (gName 0) (gCons (gName 1) gNil))
end
def clsV:V->Option Value
  | .ty n=>some (.type n)
  | .ref a=>some (.ref a)
  | _=>none
theorem clsV_rel {c:V} {cv u:Value} (e:clsV c=some cv) (r:RelV c u):u=cv:=by
  cases c with
  | ty n=>cases e; exact r
  | ref a=>cases e; exact r
  | _=>cases e
section
variable {X:Cx}
theorem call_isinst:X3 X (.builtin "isinstance") (fun xs H Q=>∃ x c cv t b,xs=[x,c]/\clsV c=some cv/\TyOf X.K H x t/\PySem.W.kitOne X.K t cv=some b/\Q (.bl b) H):=by
  intro pins s σ H xs us Q I r h
  obtain ⟨x,c,cv,t,b,rfl,hc,ty,e,q⟩:=h
  obtain ⟨u,w',rfl,r1,r2⟩:=vals2 r
  rw [clsV_rel hc r2]
  exact isinst_ok I r1 ty e fun tk=>⟨.bl b,H,I.tok tk,rfl,q⟩
theorem Qw:bootBuiltins "isinstance" = some (.builtin "isinstance"):=by decide +kernel
theorem boot_sum:bootBuiltins "sum" = some (.builtin "sum"):=by decide +kernel
theorem boot_all:bootBuiltins "all" = some (.builtin "all"):=by decide +kernel
theorem boot_any:bootBuiltins "any" = some (.builtin "any"):=by decide +kernel
theorem boot_max:bootBuiltins "max" = some (.builtin "max"):=by decide +kernel
theorem boot_min:bootBuiltins "min" = some (.builtin "min"):=by decide +kernel
theorem Ym:bootBuiltins "tuple" = some (.type "tuple"):=by decide +kernel
theorem boot_int:bootBuiltins "int" = some (.type "int"):=by decide +kernel
theorem boot_bool:bootBuiltins "bool" = some (.type "bool"):=by decide +kernel
theorem boot_str:bootBuiltins "str" = some (.type "str"):=by decide +kernel
end
section
variable {X:Cx} (K:PySem.W.Frag)
end
def Tab (H:Hp) (a:Addr) (tb:List (List Int)):Prop:=∃ rs:List Addr,H a=some (.tup (rs.map V.ref))/\Paired (fun r row=>H r=some (.tup (List.map V.int row))) rs tb
def Sz (n:Nat) (tb:List (List Int)):Prop:=tb.length=n/\∀ row∈tb,row.length=n + 1
end L2
namespace L2
open PySem PySem.Spec PyProof.Rows PySem.W PySem.Builtin.Getset_descriptor
structure XCls (K:Frag) (C:Addr):Prop where
  cls:(clsIn K C).isSome=true
  ga:findIn K (.ref C) "__getattribute__" = some (some (.builtin "BaseException.__getattribute__"))
  gt:findIn K (.ref C) "__getattr__" = some none
  cl:findIn K (.ref C) "__class__" = some (some (.builtin "object.__class__"))
  gs:specialIn K (.builtin "object.__class__") "__get__" = some (some (.builtin "getset_descriptor.__get__"))
  tk:takesIn K (.builtin "object.__class__")=some true
  ob:mroIn K C (.type "object")=some true
  be:mroIn K C (.type "BaseException")=some true
def IsX (x C:Addr) (h:Heap):Prop:=∃ ox,h.get? x=some ox/\ox.cls=.ref C
theorem IsX.type {M:Model} {h:Heap} {x C:Addr} (I:IsX x C h):Looks M h (typeOf (.ref x)) (.ref C):=by
  obtain ⟨ox,h1,h2⟩:=I
  exact h2 ▸ (Looks.ld h1).andThen .now
theorem xc_find {K:Frag} {M:Model} {h:Heap} {x C:Addr} (X:K.In h) (F:XCls K C):Looks M h (Builtin.ObjectAttr.find (.ref x) (.ref C) "__class__") (.bind (.builtin "getset_descriptor.__get__") (.builtin "object.__class__")):=by
  have L1:=looks_findIn (M:=M) X F.cl
  have L2:Looks M h (Builtin.ObjectAttr.getOf (some (.builtin "object.__class__"))) (some (.builtin "getset_descriptor.__get__")):=looks_specialIn X F.gs
  have L3:Looks M h (Builtin.ObjectAttr.dataDescriptor? (some (.builtin "object.__class__")) (some (.builtin "getset_descriptor.__get__"))) (some (.builtin "getset_descriptor.__get__",.builtin "object.__class__")):=(looks_takesIn X F.tk).andThen .now
  exact L1.andThen (L2.andThen (L3.andThen (Looks.tag .now)))
section
variable {prog:Program} {w:World} {A:Around} {E:Value->Shared->Prop} {h:Heap} {g:Array GenState} {d:Drawn} {t:Nat} {os:OsState} {K:Frag} {x C:Addr}
theorem xc_get {tp:Value} {R:Result->Shared->Prop} (X:K.In h) (F:XCls K C) (I:IsX x C h) (hq:R (.ok (.ret (.ref C))) ⟨h,g,d,t,os⟩):codeAny (model prog w) A (.call (.builtin "getset_descriptor.__get__") ⟨[.builtin "object.__class__",.ref x,tp],[]⟩) R ⟨h,g,d,t,os⟩:=by
  have L0:=I.type (M:=model prog w)
  have L1:=looks_mroIn (M:=model prog w) X F.ob
  refine codeAny_call_builtin KF.slot_gs.plain KF.entry_gs (KF.slot_gs.check _ _ _ _ _ _ _ _ KF.type_class (KF.args_gs _ _ _) ?_)
  unfold Builtin.«getset_descriptor.__get__» descrGet
  rw [dga_obj]
  refine wpAny_bind (wpAny_pure ?_)
  unfold descrGetter descrCheckInstance descrNameAndClass isInstance
  simp only [KF.owner_class]
  repeat lk
  refine ⟨Code.quiet_builtin _ (by decide +kernel),codeAny_builtin KF.entry_class ?_⟩
  unfold Builtin.«object.__class__» shownTypeOf
  repeat lk
  exact hq
theorem xc_entry {tk:Tok} {Q:Fin->Shared->Prop} (X:K.In h) (F:XCls K C) (I:IsX x C h) (hq:Q (.done (.ret (.ref C))) ⟨h,g,d,t,os⟩) :
    wpAny (model prog w) A (Builtin.«object.__getattribute__» ⟨[.ref x,.str "__class__" tk],[]⟩) Q E ⟨h,g,d,t,os⟩:=by
  have L0:=I.type (M:=model prog w)
  have L1:=xc_find (M:=model prog w) (x:=x) X F
  unfold Builtin.«object.__getattribute__»
  refine wpAny_bind (wpAny_pure ?_)
  refine wpAny_bind (wpAny_pure ?_)
  refine wpAny_bind (L0.at (wpAny_bind (L1.at ?_)))
  show wpAny _ _ (Builtin.ObjectAttr.bindTo (.builtin "getset_descriptor.__get__") (.builtin "object.__class__") (.ref x) (.ref C)) _ _ _
  unfold Builtin.ObjectAttr.bindTo
  refine wpAny_bind (wpAny_holding (wpAny_call (xc_get X F I ?_)))
  exact wpAny_pure hq
theorem xc_check {M:Model} {nameV:Value} {Q:Unit->Shared->Prop} (X:K.In h) (F:XCls K C) (I:IsX x C h) (hq:Q () ⟨h,g,d,t,os⟩):wpAny M A (checkBuiltinCall "BaseException.__getattribute__" ⟨[.ref x,nameV],[]⟩) Q E ⟨h,g,d,t,os⟩:=by
  have hk:builtinKind "BaseException.__getattribute__" = some .slot:=by decide +kernel
  have hsplit:splitId "BaseException.__getattribute__" = some ("BaseException", "__getattribute__"):=by decide +kernel
  have LI:Looks M h (isInstance (.ref x) (.type "BaseException")) true:=(I.type).andThen (looks_mroIn X F.be)
  have ha:=PySem.F.args_bexc_ga (.ref x) nameV
  simp only [checkBuiltinCall,hk,hsplit]
  refine wpAny_bind (LI.at ?_)
  simp only [Bool.not_true,Bool.false_eq_true,if_false]
  exact wpAny_of_eq ha hq
theorem xc_call {tk:Tok} {R:Result->Shared->Prop} (X:K.In h) (F:XCls K C) (I:IsX x C h) (hq:R (.ok (.ret (.ref C))) ⟨h,g,d,t,os⟩) :
    codeAny (model prog w) A (.call (.builtin "BaseException.__getattribute__") ⟨[.ref x,.str "__class__" tk],[]⟩) R ⟨h,g,d,t,os⟩:=
  codeAny_call_builtin PySem.F.attr_ValueError.ga.plain PySem.F.entry_bexc_ga (xc_check X F I (xc_entry X F I hq))
theorem xc_by {tk:Tok} {Q:Value->Shared->Prop} (X:K.In h) (F:XCls K C) (I:IsX x C h) (hq:Q (.ref C) ⟨h,g,d,t,os⟩):wpAny (model prog w) A (getAttrBy (.ref x) (.str "__class__" tk) false) Q E ⟨h,g,d,t,os⟩:=by
  have L0:=I.type (M:=model prog w)
  have L1:=looks_findIn (M:=model prog w) X F.ga
  have L2:=looks_findIn (M:=model prog w) X F.gt
  have hx2:(Value.builtin "BaseException.__getattribute__" == Value.builtin "object.__getattribute__")=false:=by decide +kernel
  have hx1:(onTheHeap (Value.ref C) && Value.builtin "BaseException.__getattribute__" == Value.builtin "object.__getattribute__")=false:=by rw [hx2]; rfl
  have f3:=PySem.F.attr_ValueError.ga.bind (.ref x)
  unfold getAttrBy
  refine wpAny_holding (wpAny_bind (L0.at (wpAny_bind (L1.at ?_))))
  repeat (any_goals (first | assumption | with_reducible refine L2.at ?_ | wp_step))
  refine xc_call X F I ?_
  repeat (any_goals (first | assumption | wp_step))
theorem xc_attr {Q:Option Value->Shared->Prop} (X:K.In h) (F:XCls K C) (I:IsX x C h) (hq:Q (some (.ref C)) ⟨h,g,d,t + 1,os⟩):wpAny (model prog w) A (getAttr? (.ref x) "__class__") Q E ⟨h,g,d,t,os⟩:=by
  unfold getAttr? getAttrBy?
  repeat (any_goals (first | assumption | with_reducible apply xc_by X F I | wp_step))
end
theorem kitx_exc {K:Frag} {x C:Addr} (F:XCls K C):KitX K (.ref x) (.ref C) (IsX x C) where
  ty:=fun _ _ _ I=>I.type
  it:=fun _ _ X _=>by
    obtain ⟨cdD,hcD⟩:=Option.isSome_iff_exists.mp F.cls
    unfold clsIn at hcD
    split at hcD
    · rename_i c' d' cd' sl' ho
      intro A' Q' E' s' k q
      unfold isType loadHead
      exact wpAny_bind (wpAny_loadPart (k _ _ (X _ _ ho)) (wpAny_pure q))
    · cases hcD
  ne:=fun h tp dd its n sl X htp=>by
    obtain ⟨cdD,hcD⟩:=Option.isSome_iff_exists.mp F.cls
    refine Bool.eq_false_iff.mpr fun q=>?_
    have e:C=tp:=Value.ref.inj (beq_iff_eq.mp q)
    subst e
    unfold clsIn at hcD
    split at hcD
    · rename_i c' d' cd' sl' ho
      have z:=(X _ _ ho).symm.trans htp
      cases z
    · cases hcD
  ca:=fun {prog w A E Q s} X I k=>by
    obtain ⟨h,g,d,t,os⟩:=s
    exact xc_attr X F I k
end L2
namespace L2
open PySem PySem.Spec PyProof.Rows
theorem ObjOk.there {P:Program} {w:World} {H:Hp} {h:Heap} {a:Addr} {o:HO} (x:ObjOk P w H h a o):∃ u,h.get? a=some u:=by
  cases o with
  | lst xs=>obtain ⟨_,_,_,_,e⟩:=x; exact ⟨_,e⟩
  | tup xs=>obtain ⟨_,_,_,o,e,_⟩:=x; exact ⟨o,e⟩
  | dK kvs=>obtain ⟨_,_,_,_,o,_,_,e,_⟩:=x; exact ⟨o,e⟩
  | dT kvs=>obtain ⟨_,_,_,_,o,_,_,e,_⟩:=x; exact ⟨o,e⟩
  | set S n=>obtain ⟨o,_,_,_,e,_⟩:=x; exact ⟨o,e⟩
  | ins C dx fs=>obtain ⟨_,_,_,e,_⟩:=x; exact ⟨_,e⟩
  | own y=>exact x
  | xd fs=>obtain ⟨_,⟨o,_,_,e,_⟩,_⟩:=x; exact ⟨o,e⟩
  | rng lo hi=>obtain ⟨_,_,_,e⟩:=x; exact ⟨_,e⟩
  | frz ob u=>obtain ⟨e,_⟩:=x; exact ⟨_,e⟩
  | tbl ps=>exact ⟨_,x⟩
  | met f y=>exact ⟨_,x⟩
  | ext φ=>exact x.2.1
theorem HOk.none_of {P:Program} {w:World} {H:Hp} {h:Heap} {a:Addr} (x:HOk P w H h) (e:h.get? a=none):H a=none:=by
  cases q:H a with
  | none=>rfl
  | some o=>
    obtain ⟨u,z⟩:=(x a o q).there
    rw [e] at z
    cases z
structure Fly (P:Program) (w:World) (outer:List Env) (H H':Hp) (s s':Shared) (a:Addr) (cls a0:Value) (B:Heap):Prop where
  os:s'.os=s.os
  bare:AllBare s'.gens
  fl:Heap.FlyingW B outer a cls a0 s'.heap
  hokB:HOk P w H' B
  keep:∀ b o,s.heap.get? b=some o->H b=none->b∉frs outer->B.get? b=some o
  there:∀ b o,s.heap.get? b=some o->b∉frs outer->∃ o',B.get? b=some o'
  slot:∀ b o,s.heap.get? b=some o->b∈frs outer->∃ sl,s'.heap.get? b=some { o with slots:=sl }
  free:∀ b o,s.heap.get? b=some o->H b=none->H' b=none
  tups:∀ b xs,H b=some (.tup xs)->H' b=some (.tup xs)
  frzs:∀ b o u,H b=some (.frz o u)->H' b=some (.frz o u)
  tbls:∀ b ps,H b=some (.tbl ps)->∃ more,H' b=some (.tbl (ps ++ more))
section
variable {P:Program} {w:World} {K:PySem.W.Frag} {mg:Str->Option Value} {base:Heap} {N:List Str} {qual:Str} {scope:Scope} {f:Addr} {cd:Value} {A:Around} {outer:List Env} {s:Shared} {H:Hp} {E:XK}
end
abbrev Ua:List Value:=[.type "ValueError",.type "Exception",.type "BaseException",.type "object"]
theorem own_obj {K:PySem.W.Frag} {h:Heap} {C:Addr} {bmB:List Value} {newId:String} {x:Str} {mg:Str->Option Value} (X:K.In h) (m:mg x=some (.ref C)) (q:PySem.W.excIn K C bmB newId=true):OwnCls x C bmB newId mg h:=by
  refine ⟨m,?_⟩
  unfold PySem.W.excIn at q
  split at q
  · rename_i dd cd sl ho
    split at q
    · rename_i C' bm k0 k1 k2 k3 n k5 hm hs
      simp only [F3,beq_iff_eq,Bool.not_eq_true'] at q
      obtain ⟨⟨⟨⟨⟨rfl,rfl⟩,hdel⟩,ht⟩,hok⟩,hni⟩:=q
      obtain ⟨nm,bs,mro,ns,qn,hd,sn,sub,ab,col,del⟩:=cd
      dsimp only at hm hdel hok hni
      subst hm hdel
      have hsl:sl=#[k0,k1,k2,k3,some (.builtin n),k5]:=by
        obtain ⟨l⟩:=sl
        simp only at hs
        rw [hs]
      subst hsl
      exact ⟨bm,ns,nm,qn,bs,hd,sn,sub,ab,col,dd,k0,k1,k2,k3,k5,_,X _ _ ho,.of_isNs (PySem.W.isNs_of_in X hok),PySem.W.nsMap_none_of_in X hok hni,PySem.W.tail_of_in X ht⟩
    · cases q
  · cases q
section
variable {X:Cx}
def tRaise (C:Addr) (E:XK) (t:TA):TS:=fun _ σ H=>t σ H fun vs H1=>vs.length<=sizeLine/\E (.ref C) none H1
end
end L2
namespace L2
open PySem PySem.Spec PyProof.Rows
def suiteCx (X:Cx) (a:Addr):Cx:={ X with A:=X.A.mark (some (.ref a)),calm:=false,xe:=fun _ _=>False }
section
variable {X:Cx} {pins:List (Addr × Obj)} {σ:St} {H H':Hp} {s s':Shared} {a C:Addr}
theorem Inv.suite (I:Inv X pins σ H s) (a:Addr):Inv (suiteCx X a) pins σ H s:=
  ⟨⟨I.ok.mod,I.ok.kind,I.ok.glob,I.ok.blt,I.ok.above,I.ok.inj,I.ok.has,I.ok.cab,fun h=>(by cases h),I.ok.frames,I.ok.stk,I.ok.exf,I.ok.bs,I.ok.bsz,I.ok.noex,I.ok.exfs,I.ok.funs,I.ok.frf⟩,I.os,I.bare,I.base,I.loc,I.cell,I.free,I.freeC,I.pin,I.hok,I.len⟩
theorem Inv.unsuite (ok:X.Ok) (I:Inv (suiteCx X a) pins σ H s):Inv X pins σ H s:=⟨ok,I.os,I.bare,I.base,I.loc,I.cell,I.free,I.freeC,I.pin,I.hok,I.len⟩
theorem Fly.inv {cls a0:Value} {B h5:Heap} (I:Inv X pins σ H s) (F:Fly X.prog X.w X.stack H H' s s' a cls a0 B) (kB:B.StaysIn h5) (sm:s'.heap.UpToSlots h5):Inv X pins σ H' { s' with heap:=h5 }:=by
  have sl:∀ b o,s.heap.get? b=some o->b∈frs X.stack->∃ sl,h5.get? b=some { o with slots:=sl }:=fun b o q hb=>by
    obtain ⟨sl,z⟩:=F.slot b o q hb
    obtain ⟨_,o',ho',hnf⟩:=I.stack.mem hb
    rw [q] at ho'
    cases ho'
    obtain ⟨sl',z'⟩:=sm b _ z hnf
    exact ⟨sl',z'⟩
  refine I.call' (s':={ s' with heap:=h5 }) (ch:=[]) F.os ⟨fun b o q n hb _=>kB _ _ (F.keep b o q n hb),fun b o q n hb _=>sl b o q hb,fun b o q n _=>F.free b o q n,fun b o q _=>?_,F.tups,F.frzs,F.tbls⟩ (F.hokB.kept kB) F.bare fun b z=>absurd z (by simp)
  by_cases hb:b∈frs X.stack
  · obtain ⟨sl,z⟩:=sl b o q hb
    exact ⟨_,z⟩
  · obtain ⟨o',z⟩:=F.there b o q hb
    exact ⟨o',kB _ _ z⟩
theorem Fly.new {cls a0:Value} {B:Heap} (F:Fly X.prog X.w X.stack H H' s s' a cls a0 B):s.heap.get? a=none/\H' a=none:=by
  have hB:B.get? a=none:=F.fl.2.1
  refine ⟨?_,F.hokB.none_of hB⟩
  cases q:s.heap.get? a with
  | none=>rfl
  | some o=>
    by_cases hb:a∈frs X.stack
    · obtain ⟨_,o',ho',hnf⟩:=F.fl.2.2.1.mem hb
      obtain ⟨oe,vs,he,_,hd,_⟩:=F.fl.first
      rw [ho'] at he
      cases he
      exact absurd hd (hnf vs)
    · obtain ⟨o',z⟩:=F.there a o q hb
      rw [hB] at z
      cases z
theorem Inv.track {s1:Shared} {φ:Heap->Prop} (I0:Inv X pins σ H s) (hex:∀ b,b∉X.ex) (h0:s.heap.get? a=none) (I:Inv X pins σ H' s1) (hn:H' a=none) (o:ObjOk X.prog X.w (upd H' a (.ext φ)) s1.heap a (.ext φ)):Inv X pins σ (upd H' a (.ext φ)) s1:=by
  have ne0:∀ b u,s.heap.get? b=some u->b≠a:=fun b u e z=>by rw [z,h0] at e; cases e
  have nes:∀ b u,X.s₀.heap.get? b=some u->b≠a:=fun b u e=>by
    obtain ⟨u',e'⟩:=I0.base.there b u e (hex b)
    exact ne0 b u' e'
  refine ⟨I.ok,I.os,I.bare,?_,I.loc,I.cell,?_,?_,?_,?_,I.len⟩
  · have u0:=I.base
    exact ⟨u0.keep,u0.slot,fun c o e n hx=>by rw [Qd (nes c o e)]; exact u0.free c o e n hx,u0.there,
      fun c ts e=>by have:=u0.tups c ts e; rw [Qd (Qg this hn)]; exact this,
      fun c o ts e=>by have:=u0.frzs c o ts e; rw [Qd (Qg this hn)]; exact this,
      fun c ps e=>by obtain ⟨more,q⟩:=u0.tbls c ps e; exact ⟨more,by rw [Qd (Qg q hn)]; exact q⟩⟩
  · obtain ⟨m,⟨o,_,_,e,_⟩,_⟩:=I0.loc
    rw [Qd (ne0 _ _ e)]; exact I.free
  · intro x c e
    obtain ⟨v,o,z,_⟩:=I0.cell x c e
    rw [Qd (ne0 _ _ z)]; exact I.freeC x c e
  · intro p hp
    obtain ⟨e,n,ne,nf,d⟩:=I.pin p hp
    exact ⟨e,by rw [Qd (ne0 _ _ (I0.pin p hp).1)]; exact n,ne,nf,d⟩
  · intro c u q
    by_cases hc:c=a
    · subst hc
      rw [Qs] at q; cases q
      exact o
    · rw [Qd hc] at q
      exact (I.hok c u q).stay (fun _ _ _ r=>r) (fun c' r=>by rw [Qd (Qg r hn)]; exact r) fun c' ts r=>by rw [Qd (Qg r hn)]; exact r
theorem Inv.forget {i:Nat} {n:Str} {m:Str->Option Value} {h':Heap} {v:Option Value} {tk:Nat} (I:Inv X pins σ H s) (hN:X.N.Nodup) (hi:X.N[i]?=some n) (hl:∀ (i:Nat) (x:Str) (v:V),X.N[i]?=some x->σ[i]?=some (some v)->Vis X.env.scope x->∃ u,RelV v u/\Look X.env s.heap m x u)
    (hn':h'.Ns X.env.locals (fun x=>if x=n then v else m x)) (hs:Heap.SameBut X.env.locals s.heap h'):Inv X pins (σ.set i none) H { s with heap:=h',toks:=tk }:=by
  have cne:=I.cne
  have tracked:HOk X.prog X.w H h':=I.hok.same I.free hs
  have neL:∀ b o,X.s₀.heap.get? b=some o->b≠X.env.locals:=fun b o e=>E5 (D0 (O5 e) I.ok.above)
  refine ⟨I.ok,I.os,I.bare,⟨fun b o e n hb hx=>(hs.2 b (neL b o e)).trans (I.base.keep b o e n hb hx),fun b o e n hb hx=>?_,I.base.free,fun b o e hx=>?_,I.base.tups,I.base.frzs,I.base.tbls⟩,⟨_,hn',fun j y v' e1 e2 e3=>?_⟩,fun y c e=>?_,I.free,I.freeC,fun p hp=>?_,tracked,by simpa using I.len⟩
  · obtain ⟨sl,z⟩:=I.base.slot b o e n hb hx
    exact ⟨sl,(hs.2 b (neL b o e)).trans z⟩
  · obtain ⟨o',z⟩:=I.base.there b o e hx
    exact ⟨o',(hs.2 b (neL b o e)).trans z⟩
  · by_cases hj:j=i
    · subst hj
      rw [hi] at e1; cases e1
      have:j < σ.length:=by have:=(O1.mp e2).1; simpa using this
      rw [E8 this] at e2
      cases e2
    · rw [F0 (Ne.symm hj)] at e2
      obtain ⟨u,r,q⟩:=hl j y v' e1 e2 e3
      refine ⟨u,r,?_⟩
      rcases q with ⟨k,e⟩ | ⟨k,c,e,z⟩
      · refine .inl ⟨k,?_⟩
        have:y≠n:=fun e=>hj (nodup_ix hN e1 (e ▸ hi))
        simp [this,e]
      · exact .inr ⟨k,c,e,z.sameBut hs (cne y c e)⟩
  · obtain ⟨w',z⟩:=I.cell y c e
    exact ⟨w',z.sameBut hs (cne y c e)⟩
  · obtain ⟨e,n,ne,nf,d⟩:=I.pin p hp
    exact ⟨(hs.2 p.1 ne).trans e,n,ne,nf,d⟩
end
section
variable {X:Cx}
end
section
variable {X:Cx}
end
end L2
namespace L2
open PySem PySem.Spec PyProof.Rows
theorem tuple_mul_same (l:Addr) (items:Array Value) (n:Nat) (dd:Option Addr) (sl:Array (Option Value)) (t:Tok) :
    Meets (Builtin.«tuple.__mul__» ⟨[.ref l,.int 1 t],[]⟩) (fun _ R s=>s.heap.get? l=some { cls:=.type "tuple",dict:=dd,data:=.seq items n,slots:=sl }/\R (.ok (.ret (.ref l))) s):=
  .of_wp fun prog w A R s h=>by
    obtain ⟨hp,g,d,tk,os⟩:=s; obtain ⟨hl,h⟩:=h
    wp_walk using wpAny_loadPart' hl
    exact ⟨_,rfl,h⟩
theorem tuple_mul_many (l:Addr) (items:Array Value) (n:Nat) (dd:Option Addr) (sl:Array (Option Value)) (x:Int) (t:Tok) (h1:¬ (decide (x < -(2 ^ 63)) || decide (x>=2 ^ 63))=true) (h2:¬ (items.isEmpty || x == 1)=true) (h3:¬ (decide (x<=0) || items.isEmpty)=true) (h4:¬ (items.size:Int) * x > (2 ^ 63 - 1) / 8) (h5:¬ Builtin.Tuple.tupleTooMany ((items.size:Int) * x)=true)
    (h6:((List.replicate x.toNat items).foldl (fun x1 x2=>x1 ++ x2) #[]).size<=sizeLine) :
    Meets (Builtin.«tuple.__mul__» ⟨[.ref l,.int x t],[]⟩) (fun _ R s=>s.heap.get? l=some { cls:=.type "tuple",dict:=dd,data:=.seq items n,slots:=sl } /\
      R (.ok (.ret (Value.ref s.heap.objs.size))) { s with heap:=s.heap.push { cls:=Value.type "tuple",data:=Data.seq ((List.replicate x.toNat items).foldl (fun x1 x2=>x1 ++ x2) #[]) } }):=
  .of_wp fun prog w A R s h=>by
    obtain ⟨hp,g,d,tk,os⟩:=s; obtain ⟨hl,h⟩:=h
    wp_walk using wpAny_loadPart' hl
    refine wpAny_ite_false (decide_eq_false h1) ?_
    wp_walk using wpAny_loadPart' hl
    refine wpAny_ite_false (decide_eq_false h4) ?_
    wp_walk using wpAny_loadPart' hl
    all_goals first | exact ⟨_,rfl,h⟩ | (refine wpAny_ite_false (decide_eq_false h5) ?_; wp_walk) | skip
    all_goals first | exact ⟨_,rfl,h⟩ | (refine wpAny_ite_false (decide_eq_false (Nat.not_lt.mpr h6)) ?_; wp_walk; exact ⟨_,rfl,h⟩)
theorem int_rmul_tuple (a:Int) (t:Tok) (l:Addr) (items:Array Value) (n:Nat) (dd:Option Addr) (sl:Array (Option Value)) :
    Meets (Builtin.«int.__rmul__» ⟨[.int a t,.ref l],[]⟩) (fun _ R s=>s.heap.get? l=some { cls:=.type "tuple",dict:=dd,data:=.seq items n,slots:=sl }/\R (.ok (.ret Value.notImplemented)) s):=
  .of_wp fun prog w A R s h=>by obtain ⟨hp,g,d,tk,os⟩:=s; obtain ⟨hl,h⟩:=h; wp_walk using wpAny_loadPart' hl; exact ⟨_,rfl,h⟩
theorem noFill_tuple_mul:fillsNumberSlot (.type "tuple") "mul" = pure false:=
  PySem.fillsNumberSlot_seq (id := "tuple.__mul__") (r:=some (.builtin "tuple.__rmul__")) F.slot_tuple_mul.lookup (by decide +kernel) F.slot_tuple_rmul.lookup (by decide +kernel)
theorem repeat_tuple:seqRepeat? (.type "tuple")=pure (some (.builtin "tuple.__mul__")):=by
  unfold seqRepeat?
  rw [PySem.seqSlot_of (T := "tuple") (name := "__mul__") (id := "tuple.__mul__") F.slot_tuple_mul.lookup (by decide +kernel),PySem.seqSlot_of (T := "tuple") (name := "__rmul__") (id := "tuple.__rmul__") F.slot_tuple_rmul.lookup (by decide +kernel)]
  rfl
section
variable {X:Cx}
def rRepT (K:PySem.W.Frag):R2:=fun x y H Q=>∃ a k xs,x=.ref a/\y=.int k/\SqT K H a xs/\xs≠[]/\1<=k/\xs.length * k.toNat<=4096 /\
  (k=1->Q (.ref a) H)/\(k≠1->∀ p,H p=none->Q (.ref p) (upd H p (.tup (List.replicate k.toNat xs).flatten)))
theorem op_repT:OpR X (binaryOp .Mult) (rRepT X.K):=by
  intro pins s σ H x y v u Q I rx ry h
  obtain ⟨a,k,xs,rfl,rfl,ha,hne,hk,hz,q1,q2⟩:=h
  cases rx
  obtain ⟨t,rfl⟩:=ry
  obtain ⟨its,r,p1,hs⟩:=I.tuple ha
  obtain ⟨⟨cls,dd,data,sl⟩,ho,hc,n,hd⟩:=id p1
  simp only at hc hd
  subst hc hd
  have hl:its.length=xs.length:=r.length.symm
  have hpos:0 < its.length:=by rw [hl]; exact List.length_pos_iff.mpr hne
  have hkz:k.toNat<=4096:=by
    have:1 * k.toNat<=xs.length * k.toNat:=Nat.mul_le_mul_right _ (by omega)
    omega
  refine wpAny_binaryOp_repeat_ref (T := "tuple") (U := "int") (by decide) ⟨_,ho,rfl⟩ (fun s'=>typeIs_int s' k t) noFill_tuple_mul F.fills_int_mul F.slot_int_rmul repeat_tuple F.slot_int_index.lookup
    (call_meets F.slot_int_rmul (typeIs_int s k t) F.entry_int_rmul (F.args_int_rmul_2 _ _) (int_rmul_tuple k t a its.toArray n dd sl)
      ⟨ho,rfl,⟨_,ho,rfl⟩,?_⟩)
  by_cases h1:k=1
  · subst h1
    exact call_meets F.slot_tuple_mul ⟨_,ho,rfl⟩ F.entry_tuple_mul (F.args_tuple_mul_2 _ _) (tuple_mul_same a its.toArray n dd sl t) ⟨ho,⟨.ref a,H,I,rfl,q1 rfl⟩⟩
  · have f0:List.foldl (fun x1 x2=>x1 ++ x2) #[] (List.replicate k.toNat its.toArray)=(List.replicate k.toNat its).flatten.toArray:=by
      have:=foldl_rep its k.toNat []
      rw [List.nil_append] at this
      exact this
    have hlen:(its.toArray.size:Int) * k=((its.length * k.toNat:Nat):Int):=by
      rw [O3,Int.natCast_mul,Int.toNat_of_nonneg (by omega)]
    have hfl:(List.replicate k.toNat its).flatten.length<=4096:=by rw [len_rep,hl,Nat.mul_comm]; exact hz
    have hb:its.length * k.toNat<=4096:=by rw [hl]; exact hz
    refine call_meets F.slot_tuple_mul ⟨_,ho,rfl⟩ F.entry_tuple_mul (F.args_tuple_mul_2 _ _) (tuple_mul_many a its.toArray n dd sl k t ?_ ?_ ?_ ?_ ?_ ?_) ⟨ho,?_⟩
    · rw [decide_eq_false (by omega),decide_eq_false (by omega)]; exact O8
    · intro z
      rcases Bool.or_eq_true_iff.mp z with z | z
      · rw [List.isEmpty_toArray,List.isEmpty_iff] at z; rw [z] at hpos; simp at hpos
      · exact h1 (eq_of_beq z)
    · intro z
      rcases Bool.or_eq_true_iff.mp z with z | z
      · have:=of_decide_eq_true z; omega
      · rw [List.isEmpty_toArray,List.isEmpty_iff] at z; rw [z] at hpos; simp at hpos
    · rw [hlen]; omega
    · rw [hlen]
      have:(4096:Int)<=sizeLine:=by decide
      show ¬ decide (((its.length * k.toNat:Nat):Int) > (sizeLine:Int))=true
      rw [decide_eq_false (by omega)]; exact O8
    · rw [f0,O3]; exact E3 hfl (by decide)
    · rw [f0]
      refine ⟨.ref s.heap.objs.size,_,I.laid (t':=s.toks) (o:=.tup (List.replicate k.toNat xs).flatten) (fun b ob q=>O0 _ q) (O7 _) ?_,rfl,q2 h1 _ (I.hok.fresh (O7 _))⟩
      exact ⟨by rw [len_rep,Nat.mul_comm]; exact E3 hz (by decide),_,r.rep k.toNat,IsTup.new _ _⟩
end
section
variable {X:Cx} {pins:List (Addr × Obj)} {s:Shared} {σ:St} {H:Hp}
open PySem.SeqAt
end
end L2
namespace L2
open PySem PySem.Spec PyProof.Rows
end L2
namespace L2
open PySem PySem.Spec PyProof.Rows
section
variable {K:PySem.W.Frag} {cap:List (Option Nat)} {te:TE} {σ:St} {H1:Hp} {Q:VK}
end
structure JE (X:Cx) (e:Expr) (t:TE):Prop where out:PE X e t
structure JA (X:Cx) (es:List Expr) (t:TA):Prop where out:PA X es t
structure JS (X:Cx) (st:Stmt) (t:TS):Prop where out:PS X st t
structure JSs (X:Cx) (sts:List Stmt) (t:TS):Prop where out:PSs X sts t
section
variable {X:Cx} {pos:Pos}
theorem jok {sts:List Stmt} {R:TS->Prop} (h:∃ t,JSs X sts t/\R t):∃ t,PSs X sts t/\R t:=by
  obtain ⟨t,a,b⟩:=h
  exact ⟨t,a.out,b⟩
theorem ja_nil:JA X [] tNil:=⟨Z6⟩
theorem W7 {e:Expr} {es:List Expr} {te:TE} {t:TA} (ha:JE X e te) (hr:JA X es t) (hs:starEach (e :: es) X.env=(false,eval e X.env) :: starEach es X.env:=by rfl):JA X (e :: es) (tCons te t):=⟨Qx ha.out hr.out hs⟩
theorem je_lst {es:List Expr} {t:TA} (h:JA X es t):JE X (.List es pos) (tLst t):=⟨pe_lst h.out⟩
theorem je_str {x:Str} {j:Nat}:JE X (.Constant (.str x) j pos) (tC (.str x)):=⟨pe_str⟩
theorem je_op {a b:Expr} {ta tb:TE} {op:Operator} {r:R2} (ho:OpR X (binaryOp op) r) (ha:JE X a ta) (hb:JE X b tb):JE X (.BinOp a op b pos) (tOp r ta tb):=⟨pe_op ho ha.out hb.out⟩
theorem je_ix {a b:Expr} {ta tb:TE} {r:R2} (hr:IxR X r) (ha:JE X a ta) (hb:JE X b tb) (hs:PlainIx b):JE X (.Subscript a b pos) (tOp r ta tb):=⟨pe_ix hr ha.out hb.out hs⟩
theorem jss_nil:JSs X [] tNext:=⟨pss_nil⟩
theorem Uz {st:Stmt} {rest:List Stmt} {t u:TS} (h1:JS X st t) (h2:JSs X rest u):JSs X (st :: rest) (tSeq t u):=⟨pss_cons h1.out h2.out⟩
theorem jss_one {st:Stmt} {t:TS} (h1:JS X st t):JSs X [st] t:=⟨pss_one h1.out⟩
theorem js_if {c:Expr} {a b:List Stmt} {tc:TT} {t u:TS} (hc:PT X c tc) (ha:JSs X a t) (hb:JSs X b u):JS X (.If c a b pos) (tIfS tc t u):=⟨ps_if hc ha.out hb.out⟩
theorem js_ret {e:Expr} {te:TE} (he:JE X e te):JS X (.Return (some e) pos) (tRet te):=⟨ps_ret he.out⟩
theorem js_set {i:Nat} {x:Str} {e:Expr} {te:TE} {pos':Pos} (hN:X.N.Nodup) (hi:X.N[i]?=some x) (hx:Loc X.env.scope x) (he:JE X e te) (hs:swapsWith e (some (.Name x pos')) pos.line X.env=pure false:=by rfl) (hf:X.fn x=true\/X.env.scope.names.lookup x=some .local:=by first | exact .inl rfl | exact .inr rfl | assumption) :
    JS X (.Assign [.Name x pos'] e pos) (tAsg te (gName i)):=⟨ps_set hN hi hx he.out hs hf⟩
end
end L2
namespace L2
open PySem PySem.Spec PyProof.Rows
theorem U1:∀ (names:List (Str × NameKind)) (h:Heap) (acc:List (Str × Addr)) (x:Str) (c:Addr),(cellsFrom h.objs.size names acc).lookup x=some c ->
    acc.lookup x=some c\/((x,NameKind.cell)∈names/\h.objs.size<=c/\(pushCells h names).IsCell c none)
  | [],_,_,_,_,e=>.inl e
  | (name,kind) :: r,h,acc,x,c,e=>by
    unfold cellsFrom at e
    unfold pushCells
    by_cases hk:(kind == NameKind.cell)=true
    · rw [if_pos hk] at e ⊢
      have hk':kind=.cell:=by simpa using hk
      have ih:=U1 r (h.push { cls:=.type "cell",data:=.cell none }) ((name,h.objs.size) :: acc) x c (by rw [E7]; exact e)
      rw [E7] at ih
      rcases ih with z | ⟨z1,z2,z3⟩
      · rw [D4] at z
        cases hb:x == name with
        | true=>
          rw [hb] at z; cases z
          exact .inr ⟨by rw [beq_iff_eq.mp hb,hk']; exact D1,O7 _,⟨_,pushCells_keeps _ _ _ _ (D3 _ rfl),rfl⟩⟩
        | false=>rw [hb] at z; exact .inl z
      · exact .inr ⟨O6 _ z1,by omega,z3⟩
    · rw [if_neg hk] at e ⊢
      rcases U1 r h acc x c e with z | ⟨z1,z2,z3⟩
      · exact .inl z
      · exact .inr ⟨O6 _ z1,z2,z3⟩
theorem Ut {x:Str}:∀ (names:List (Str × NameKind)) (n:Nat) (acc:List (Str × Addr)),(x,NameKind.cell)∉names->(cellsFrom n names acc).lookup x=acc.lookup x
  | [],_,_,_=>rfl
  | (name,kind) :: r,n,acc,h=>by
    unfold cellsFrom
    have hr:(x,NameKind.cell)∉r:=fun z=>h (O6 _ z)
    by_cases hk:(kind == NameKind.cell)=true
    · rw [if_pos hk,Ut r _ _ hr,D4]
      cases hb:x == name with
      | true=>exact absurd (by rw [beq_iff_eq.mp hb,show kind=.cell by simpa using hk]; exact D1) h
      | false=>rfl
    · rw [if_neg hk,Ut r _ _ hr]
theorem cellsFrom_new {x:Str} {c:Addr}:∀ (names:List (Str × NameKind)) (n:Nat) (acc:List (Str × Addr)),(x,NameKind.cell)∈names->(cellsFrom n names acc).lookup x=some c->n<=c
  | [],_,_,h,_=>by cases h
  | (name,kind) :: r,n,acc,h,e=>by
    unfold cellsFrom at e
    by_cases hr:(x,NameKind.cell)∈r
    · by_cases hk:(kind == NameKind.cell)=true
      · rw [if_pos hk] at e
        exact Nat.le_of_succ_le (cellsFrom_new r _ _ hr e)
      · rw [if_neg hk] at e
        exact cellsFrom_new r _ _ hr e
    · rcases D5.mp h with q | q
      · cases q
        rw [if_pos (by decide),Ut r _ _ hr,D4] at e
        simp at e
        exact Nat.le_of_eq e
      · exact absurd q hr
theorem cellsFrom_inj:∀ (names:List (Str × NameKind)) (n:Nat) (acc:List (Str × Addr)),(∀ x c,acc.lookup x=some c->c < n)->(∀ x y c,acc.lookup x=some c->acc.lookup y=some c->x=y) ->
    ∀ x y c,(cellsFrom n names acc).lookup x=some c->(cellsFrom n names acc).lookup y=some c->x=y
  | [],_,_,_,h=>h
  | (name,kind) :: r,n,acc,h1,h2=>by
    unfold cellsFrom
    by_cases hk:(kind == NameKind.cell)=true
    · rw [if_pos hk]
      refine cellsFrom_inj r (n + 1) _ (fun x c e=>?_) (fun x y c e e'=>?_)
      · rw [D4] at e
        cases hb:x == name with
        | true=>rw [hb] at e; cases e; exact Nat.lt_succ_self _
        | false=>rw [hb] at e; exact Nat.lt_succ_of_lt (h1 x c e)
      · rw [D4] at e e'
        cases hb:x == name with
        | true=>
          rw [hb] at e; cases e
          cases hb':y == name with
          | true=>rw [beq_iff_eq.mp hb,beq_iff_eq.mp hb']
          | false=>rw [hb'] at e'; exact absurd (h1 y _ e') (Nat.lt_irrefl _)
        | false=>
          rw [hb] at e
          cases hb':y == name with
          | true=>rw [hb'] at e'; cases e'; exact absurd (h1 x _ e) (Nat.lt_irrefl _)
          | false=>rw [hb'] at e'; exact h2 x y c e e'
    · rw [if_neg hk]
      exact cellsFrom_inj r n acc h1 h2
theorem wpAny_newEnvC {M:Model} {A:Around} {E:Value->Shared->Prop} {s:Shared} {scope:Scope} {globals:Addr} {cl:List (Str × Addr)} {qual:Str} {func:Option Addr} {code:Value} {env:Env} {builtins:Addr} {Q:Env->Shared->Prop}
    (hQ:Q (newEnv scope s.heap.objs.size globals (cellsFrom (s.heap.objs.size + 1) scope.names cl) qual func code (some env) builtins) { s with heap:=pushCells (s.heap.push { cls:=.type "dict",data:=.dict #[] }) scope.names }) :
    wpAny M A (newFunctionEnv scope globals cl [] qual func code (some env) builtins) Q E s:=by
  simp only [newFunctionEnv,Option.isSome_some,if_true]
  refine wpAny_bind (wpAny_alloc ?_)
  refine wpAny_bind (wpAny_layCells _ (fun name kind cells=>by cases hkc:kind == NameKind.cell <;> simp [hkc]) _ _ _ _ ?_)
  rw [show ({ s with heap:=s.heap.push { cls:=.type "dict",data:=.dict #[] } }:Shared).heap.objs.size=s.heap.objs.size + 1 from E7 ..]
  refine wpAny_bind ?_
  rw [List.forIn_nil]
  exact wpAny_pure (wpAny_pure hQ)
def compOkC (N N':List Str) (sc scE:Scope) (cap:List (Option Nat)):Bool:=
  sc.kind == .function && sc.names.all (fun x=>x.2 != .cell || sc.names.lookup x.1 == some .cell) && sc.names.all (fun x=>x.2 != .local || sc.names.lookup x.1 == some .local) &&
  sc.names.all (fun x=>x.2 != .free || scE.names.lookup x.1 == some .cell || scE.names.lookup x.1 == some .free) && cap.length == N'.length &&
  (List.range cap.length).all (fun i=>match cap[i]? with
    | some (some j)=>(match N'[i]?,N[j]? with | some a,some b=>a == b && sc.names.lookup a == some .free | _,_=>false)
    | _=>true)
structure CompOkC (N N':List Str) (sc scE:Scope) (cap:List (Option Nat)):Prop where
  kind:sc.kind=.function
  cel:∀ x∈sc.names,x.2=.cell->sc.names.lookup x.1=some .cell
  loc:∀ x∈sc.names,x.2=.local->sc.names.lookup x.1=some .local
  fre:∀ x∈sc.names,x.2=.free->scE.names.lookup x.1=some .cell\/scE.names.lookup x.1=some .free
  len:cap.length=N'.length
  at_:∀ (i j:Nat),cap[i]?=some (some j)->∃ x,N'[i]?=some x/\N[j]?=some x/\sc.names.lookup x=some .free
theorem compOkC.of {N N':List Str} {sc scE:Scope} {cap:List (Option Nat)} (h:compOkC N N' sc scE cap=true):CompOkC N N' sc scE cap:=by
  unfold compOkC at h
  simp only [F3,F6,beq_iff_eq,Bool.or_eq_true,bne_iff_ne] at h
  obtain ⟨⟨⟨⟨⟨h1,h2⟩,h3⟩,h4⟩,h5⟩,h6⟩:=h
  refine ⟨h1,fun x hx e=>?_,fun x hx e=>?_,fun x hx e=>?_,h5,fun i j e=>?_⟩
  · rcases h2 x hx with z | z
    · exact absurd e z
    · exact z
  · rcases h3 x hx with z | z
    · exact absurd e z
    · exact z
  · rcases h4 x hx with (z | z) | z
    · exact absurd e z
    · exact .inl z
    · exact .inr z
  · have hi:i < cap.length:=(O1.mp e).1
    have:=h6 i (E1.mpr hi)
    rw [e] at this
    simp only at this
    cases e1:N'[i]? with
    | none=>rw [e1] at this; cases this
    | some a=>
      cases e2:N[j]? with
      | none=>rw [e1,e2] at this; cases this
      | some b=>
        rw [e1,e2] at this
        simp only [F3,beq_iff_eq] at this
        obtain ⟨rfl,z⟩:=this
        exact ⟨a,rfl,rfl,z⟩
def V9 (X:Cx) (N':List Str) (sc:Scope) (cl:List (Str × Addr)) (C:Addr) (s0:Shared) (H0:Hp) (ex:List Addr):Cx:=
  { X with N:=N',s₀:=s0,H₀:=H0,env:=compEnvC sc cl C X.env,outer:=X.stack,ex:=ex,fn:=fun x=>sc.names.lookup x == some .cell,pn:=[],xe:=fun _ _=>False }
section
variable {X:Cx}
theorem blk_invC {pins:List (Addr × Obj)} {σ:St} {H:Hp} {s:Shared} {N N':List Str} {sc scE:Scope} {cap:List (Option Nat)} {cl:List (Str × Addr)} {fp:List Addr}
    (I:Inv X pins σ H s) (hN:X.N=N) (hE:X.env.scope=scE) (ck:CompOkC N N' sc scE cap) (c1:∀ x c,cl.lookup x=some c->X.env.cells.lookup x=some c) (c2:∀ x∈sc.names,x.2=.free->∃ c,cl.lookup x.1=some c)
    (hf:∀ b∈fp,FpOk X pins H b) (hfs:∀ b∈fp,b < s.heap.objs.size) :
    Inv (V9 X N' sc (cellsFrom (s.heap.objs.size + 1) sc.names cl) s.heap.objs.size s H fp) [] (capOf cap σ) H { s with heap:=pushCells (s.heap.push { cls:=.type "dict",data:=.dict #[] }) sc.names }:=by
  obtain ⟨h₁,hh₁⟩:∃ h₁,pushCells (s.heap.push { cls:=.type "dict",data:=.dict #[] }) sc.names=h₁:=⟨_,rfl⟩
  obtain ⟨cl',hcl'⟩:∃ cl',cellsFrom (s.heap.objs.size + 1) sc.names cl=cl':=⟨_,rfl⟩
  rw [hh₁,hcl']
  have keep:∀ b o,s.heap.get? b=some o->h₁.get? b=some o:=fun b o e=>by rw [<- hh₁]; exact pushCells_keeps _ _ b o (O0 _ e)
  have hns:h₁.Ns s.heap.objs.size (fun _=>none):=by rw [<- hh₁]; exact (Heap.Ns.new s.heap (.type "dict")).keeps (pushCells_keeps _ _)
  have look:∀ x c,cl'.lookup x=some c->cl.lookup x=some c\/(s.heap.objs.size + 1<=c/\h₁.IsCell c none):=fun x c e=>by
    rw [<- hcl'] at e
    have:=U1 (sc.names) (s.heap.push { cls:=.type "dict",data:=.dict #[] }) cl x c (by rw [E7]; exact e)
    rw [E7,hh₁] at this
    rcases this with z | ⟨_,z,z'⟩
    · exact .inl z
    · exact .inr ⟨z,z'⟩
  have cellLt:∀ x c,cl.lookup x=some c->c < s.heap.objs.size:=fun x c e=>by
    obtain ⟨v,o,ho,_⟩:=I.cell x c (c1 x c e)
    exact O5 ho
  have inj:∀ x y c,cl'.lookup x=some c->cl'.lookup y=some c->x=y:=by
    rw [<- hcl']
    exact cellsFrom_inj _ _ _ (fun x c e=>Nat.lt_succ_of_lt (cellLt x c e)) fun x y c a b=>I.ok.inj x y c (c1 x c a) (c1 y c b)
  have isC:∀ x,sc.names.lookup x=some .cell->∃ c,cl'.lookup x=some c:=fun x e=>by
    rw [<- hcl']
    exact Option.isSome_iff_exists.mp (PySem.W.cellsFrom_some _ _ _ (.inl e))
  have isF:∀ x,sc.names.lookup x=some .free->cl'.lookup x=cl.lookup x:=fun x e=>by
    rw [<- hcl']
    refine Ut _ _ _ fun z=>?_
    have:=ck.cel _ z rfl
    rw [e] at this; cases this
  have kindOf:∀ x k,(compEnvC sc cl' s.heap.objs.size X.env).kindOf x=some k->k=.cell\/k=.free->sc.names.lookup x=some .free\/sc.names.lookup x=some .cell:=fun x k e hk=>by
    have e':(relabel sc X.env).names.lookup x=some k:=e
    rw [relabel_lookup] at e'
    cases q:sc.names.lookup x with
    | none=>rw [q] at e'; cases e'
    | some k'=>
      rw [q] at e'
      have e'':(if (k' == NameKind.free && X.env.scope.kind == .function && X.env.kindOf x == some .cell)=true then NameKind.cell else k')=k:=Option.some.inj e'
      by_cases hc:(k' == NameKind.free && X.env.scope.kind == .function && X.env.kindOf x == some .cell)=true
      · simp only [F3,beq_iff_eq] at hc
        rw [hc.1.1]; exact .inl rfl
      · rw [if_neg hc] at e''
        subst e''
        rcases hk with z | z
        · rw [z]; exact .inr rfl
        · rw [z]; exact .inl rfl
  have cellAt:∀ x c,X.env.cells.lookup x=some c->∀ v,s.heap.IsCell c v->h₁.IsCell c v:=fun x c e v ⟨o,ho,hd⟩=>⟨o,keep c o ho,hd⟩
  have Hnew:∀ c,s.heap.objs.size<=c->H c=none:=fun c hc=>I.hok.fresh hc
  refine ⟨⟨I.ok.mod,ck.kind,I.ok.glob,I.ok.blt,O7 _,inj,fun x hx=>?_,fun x c h1 h2=>?_,I.ok.hd,I.ok.frames,.inl rfl,fun b hb=>?_,I.bs,
    E3 I.ok.bsz I.sz,fun b o e hb=>?_,fun b hb hz=>?_,I.stack,I.stkFree⟩,rfl,I.bare,Un.kept keep,⟨_,hns,fun i x v e1 e2 e3=>?_⟩,fun x c e=>?_,Hnew _ (O7 _),fun x c e=>?_,fun p hp=>(by cases hp),I.hok.kept keep,?_⟩
  · have hx:(compEnvC sc cl' s.heap.objs.size X.env).kindOf x=some .cell\/(compEnvC sc cl' s.heap.objs.size X.env).kindOf x=some .free:=hx
    have q:sc.names.lookup x=some .free\/sc.names.lookup x=some .cell:=by
      rcases hx with z | z
      · exact kindOf x _ z (.inl rfl)
      · exact kindOf x _ z (.inr rfl)
    rcases q with q | q
    · obtain ⟨c,hc⟩:=c2 _ (PySem.mem_of_lookup q) rfl
      exact ⟨c,(isF x q).trans hc⟩
    · exact isC x q
  · have h1:sc.names.lookup x=some .cell:=by simpa [V9] using h1
    have h2:cl'.lookup x=some c:=h2
    rw [<- hcl'] at h2
    exact E3 (Nat.le_succ _) (cellsFrom_new _ _ _ (PySem.mem_of_lookup h1) h2)
  · refine ⟨E5 (hfs b hb),fun x c e=>?_⟩
    rcases look x c e with z | ⟨z,_⟩
    · exact (hf b hb).2.2.2.2.1 x c (c1 x c z)
    · exact fun q=>absurd (D0 (hfs b hb) (E3 (Nat.le_succ _) (q ▸ z))) (Nat.lt_irrefl _)
  · rcases (hf b hb).2.2.2.1 with z | z
    · exact I.ok.noex b o e z
    · exact absurd (D0 (O5 e) (E3 I.ok.bsz z)) (Nat.lt_irrefl _)
  · rcases D5.mp (I.stkSub b hz) with e | z
    · exact (hf b hb).2.1 e
    · exact (hf b hb).2.2.1 z
  · have e1:N'[i]?=some x:=e1
    have e2:(capOf cap σ)[i]?=some (some v):=e2
    unfold capOf at e2
    rw [E6] at e2
    cases q:cap[i]? with
    | none=>rw [q] at e2; cases e2
    | some oj=>
      rw [q] at e2
      cases oj with
      | none=>cases e2
      | some j=>
        obtain ⟨y,z1,z2,z3⟩:=ck.at_ i j q
        rw [e1] at z1; cases z1
        have ev:σ[j]?=some (some v):=by
          have e2':(σ[j]?).join=some v:=Option.some.inj e2
          cases r:σ[j]? with
          | none=>rw [r] at e2'; cases e2'
          | some o=>rw [r] at e2'; exact congrArg some e2'
        obtain ⟨m',hm',hl⟩:=I.loc
        have sK:X.env.scope.names.lookup x=some .cell\/X.env.scope.names.lookup x=some .free:=by rw [hE]; exact ck.fre _ (PySem.mem_of_lookup z3) rfl
        obtain ⟨u,ru,l⟩:=hl j x v (by rw [hN]; exact z2) ev (sK.elim (fun z=>.inr (.inl z)) fun z=>.inr (.inr z))
        refine ⟨u,ru,?_⟩
        obtain ⟨c,hc⟩:=c2 _ (PySem.mem_of_lookup z3) rfl
        rcases l with ⟨k,_⟩ | ⟨k,c',hc',hcell⟩
        · have k:X.env.scope.names.lookup x=some .local:=k
          rcases sK with z | z <;> (rw [k] at z; cases z)
        · have:c=c':=by
            have q1:=c1 x c hc
            rw [hc'] at q1
            exact (Option.some.inj q1).symm
          subst this
          refine .inr ⟨?_,c,(isF x z3).trans hc,cellAt x c hc' _ hcell⟩
          show (relabel sc X.env).names.lookup x=some .cell\/(relabel sc X.env).names.lookup x=some .free
          rw [relabel_lookup,z3]
          show some (if _ then NameKind.cell else NameKind.free)=_\/some (if _ then NameKind.cell else NameKind.free)=_
          split
          · exact .inl rfl
          · exact .inr rfl
  · rcases look x c e with z | ⟨_,z⟩
    · obtain ⟨v,q⟩:=I.cell x c (c1 x c z)
      exact ⟨v,cellAt x c (c1 x c z) v q⟩
    · exact ⟨_,z⟩
  · rcases look x c e with z | ⟨z,_⟩
    · exact I.freeC x c (c1 x c z)
    · exact Hnew c (by omega)
  · unfold capOf
    show _=N'.length
    rw [O2]
    exact ck.len
end
end L2
namespace L2
open PySem PySem.Spec PyProof.Rows
section
variable {X:Cx}
theorem two_of {x y:V} {us:List Value} (r:Vals [x,y] us):∃ u w,us=[u,w]/\RelV x u/\RelV y w:=by
  cases r with
  | cons a r=>
    cases r with
    | cons b r=>
      cases r with
      | nil=>exact ⟨_,_,rfl,a,b⟩
end
end L2
namespace PySem
open Sem (wp)
section
variable {prog:Program} {w:World} {A:Around} {E:Value->Shared->Prop} {hp:Heap} {gs:Array GenState} {dr:Drawn} {tk:Nat} {sy:OsState}
variable {cn cq:Str} {kC kN:Addr} {bas tl tB:List Value} {hd:Bool} {sns:List Str} {subs:List Value} {abb:Bool} {coll:Option Bool} {dic:Option Addr} {j0 j1 j2 j3 j5:Option Value} {BB Bn newI nI initI inN:String} {tN:List Value}
theorem typeCall_initU (Fn:ExcBaseFacts Bn newI inN tN) (hBn:tB.contains (.type Bn)=true) (F:ExcBaseFacts BB nI initI tB) (T:OwnTail hp tB tl) {rest:List Value} {f0:Addr} {o0:Obj} {Q:Fin->Shared->Prop}
    (oC:hp.get? kC=some (excClassObj cn cq kC kN bas tl hd sns subs abb coll dic j0 j1 j2 j3 j5 newI)) {K:PySem.W.Frag} (X:K.In hp) (ei:PySem.W.findIn K (.ref kC) "__init__" = some (some (.ref f0))) (of:hp.get? f0=some o0) (cf:o0.cls=.type "function")
    (hq:∀ h',(∀ b o,hp.get? b=some o->h'.get? b=some o)->h'.get? (hp.objs.size + 1)=some { cls:=.ref kC,data:=.fields #[.ref hp.objs.size,.none,.none,.none,.bool false,.none] }->wpAny (model prog w) A (call (.ref f0) (.ref (hp.objs.size + 1) :: rest)) (fun r s'=>r=.none/\Q (.done (.ret (.ref (hp.objs.size + 1)))) s') E ⟨h',gs,dr,tk,sy⟩) (hz:rest.length<=sizeLine) :
    wpAny (model prog w) A (Builtin.«type.__call__» ⟨.ref kC :: rest,[]⟩) Q E ⟨hp,gs,dr,tk,sy⟩:=by
  repeat (first | with_reducible refine wpAny_loadPart_at oC ?_ | with_reducible refine wpAny_madeBy_exc oC ?_ | wp_step)
  refine codeAny_call_builtin_code (Code.quiet_builtin _ Fn.quiet) (wpAny_check_new_subU Fn hBn T oC ?_)
  refine codeAny_exc_new_subU Fn hBn F T oC ?_ hz
  show wpAny _ _ _ _ _ _
  obtain ⟨h2,e2⟩:∃ h2,(hp.push { cls:=.type "tuple",data:=.seq rest.toArray }).push { cls:=.ref kC,data:=.fields #[.ref hp.objs.size,.none,.none,.none,.bool false,.none] }=h2:=⟨_,rfl⟩
  have kp:∀ b o,hp.get? b=some o->h2.get? b=some o:=fun b o q=>by rw [<- e2]; exact O0 _ (O0 _ q)
  have oe:h2.get? (hp.objs.size + 1)=some { cls:=.ref kC,data:=.fields #[.ref hp.objs.size,.none,.none,.none,.bool false,.none] }:=by rw [<- e2]; heap_get
  have ot:h2.get? hp.objs.size=some { cls:=.type "tuple",data:=.seq rest.toArray }:=by rw [<- e2]; exact O0 _ (Heap.get?_push_at rfl rfl)
  rw [e2]
  have oC2:=kp _ _ oC
  have self:(Value.ref kC :: tl).contains (.ref kC)=true:=by simp
  unfold isInstance
  repeat (first | with_reducible refine wpAny_loadPart_at oe ?_ | (with_reducible refine wpAny_isSubtype_exc oC2 ?_; rw [self]) | wp_step)
  show wpAny _ _ (typeLookup (.ref kC) _) _ _ _
  refine (PySem.W.looks_findIn (X.keeps kp) ei).at ?_
  refine wpAny_holding (wpAny_bind ?_)
  unfold bindSpecial
  refine wpAny_bind (wpAny_typeOf (T := "function") ⟨_,kp _ _ of,cf⟩ ?_)
  rw [if_pos (by decide)]
  refine wpAny_pure (wpAny_bind (wpAny_mono (hq h2 kp oe) (fun r s' z=>?_) fun _ _ z=>z))
  obtain ⟨rfl,z⟩:=z
  wp_walk
  exact z
theorem call_initU (Fn:ExcBaseFacts Bn newI inN tN) (hBn:tB.contains (.type Bn)=true) (F:ExcBaseFacts BB nI initI tB) (T:OwnTail hp tB tl) {rest:List Value} {f0:Addr} {o0:Obj} {Q:Value->Shared->Prop}
    (oC:hp.get? kC=some (excClassObj cn cq kC kN bas tl hd sns subs abb coll dic j0 j1 j2 j3 j5 newI)) {K:PySem.W.Frag} (X:K.In hp) (ei:PySem.W.findIn K (.ref kC) "__init__" = some (some (.ref f0))) (of:hp.get? f0=some o0) (cf:o0.cls=.type "function")
    (hq:∀ h',(∀ b o,hp.get? b=some o->h'.get? b=some o)->h'.get? (hp.objs.size + 1)=some { cls:=.ref kC,data:=.fields #[.ref hp.objs.size,.none,.none,.none,.bool false,.none] }->wpAny (model prog w) (A.under (.builtin "type.__call__" ⟨.ref kC :: rest,[]⟩)) (call (.ref f0) (.ref (hp.objs.size + 1) :: rest)) (fun r s'=>r=.none/\Q (.ref (hp.objs.size + 1)) s') E ⟨h',gs,dr,tk,sy⟩) (hz:rest.length<=sizeLine) :
    wpAny (model prog w) A (call (.ref kC) rest) Q E ⟨hp,gs,dr,tk,sy⟩:=by
  have l1:=tc_lookup
  have l2:=tc_bind (.ref kC)
  have ty:(⟨hp,gs,dr,tk,sy⟩:Shared).TypeIs (.ref kC) "type" := ⟨_,oC,rfl⟩
  refine wpAny_call (codeAny_of_tree ?_)
  show wpAny _ _ (callAny (.ref kC) _) _ _ _
  repeat (any_goals (first | assumption | with_reducible refine wpAny_loadPart_at oC ?_ | wp_step))
  refine ⟨rfl,?_⟩
  exact codeAny_call_builtin_at (Code.quiet_builtin _ (by decide +kernel)) entry_typeCall (wpAny_check_type_call_sub oC (typeCall_initU (hz:=hz) Fn hBn F T oC X ei of cf fun h' k m=>hq h' k m))
end
section
variable {M:Model} {A:Around} {E:Value->Shared->Prop} {env:Env}
variable {cn cq:Str} {kC kN:Addr} {bas tl:List Value} {hd:Bool} {sns:List Str} {subs:List Value} {abb:Bool} {coll:Option Bool} {dic:Option Addr} {j0 j1 j2 j3 j5:Option Value} {newI:String}
theorem raiseStmt_own {s:Shared} {x:Sem Value} {Q:Flow->Shared->Prop} (hb:tl.contains (.type "BaseException")=true) (hh:A.handled=none)
    (h:wpAny M A x (fun v s1=>∃ e t dv,v=.ref e/\s1.heap.get? kC=some (excClassObj cn cq kC kN bas tl hd sns subs abb coll dic j0 j1 j2 j3 j5 newI) /\
      s1.heap.get? e=some { cls:=.ref kC,dict:=dv,data:=.fields #[.ref t,.none,.none,.none,.bool false,.none] }/\E (.ref e) s1) E s):wpAny M A (raiseStmt env (some x) none) Q E s:=by
  have cb:(Value.ref kC :: tl).contains (.type "BaseException")=true:=by rw [List.contains_cons,hb,Bool.or_true]
  unfold raiseStmt
  refine wpAny_bind (wpAny_mono h (fun v s1 z=>?_) fun _ _ z=>z)
  obtain ⟨e,t,dv,rfl,oC,oe,z⟩:=z
  obtain ⟨hp,gs,dr,tk,sy⟩:=s1
  repeat (first | with_reducible refine wpAny_loadPart_at oe ?_ | with_reducible refine wpAny_loadPart_at oC ?_ | (with_reducible refine wpAny_isSubtype_exc oC ?_; rw [cb]) | wp_step)
  exact wpAny_raiseNew_none hh z
end
end PySem
namespace L2
open PySem PySem.Spec PyProof.Rows PySem.W PySem.Builtin.ObjectAttr
structure XSet (K:Frag) (C W:Addr) (name:Str):Prop where
  sa:findIn K (.ref C) "__setattr__" = some (some (.builtin "object.__setattr__"))
  ob:mroIn K C (.type "object")=some true
  cls:∃ cd,clsIn K C=some cd/\cd.mro=.ref C :: .ref W :: Ua/\cd.hasDict=true
  no:findIn K (.ref C) name=some none
section
variable {prog:Program} {w:World} {A:Around} {E:Value->Shared->Prop} {s:Shared} {K:Frag} {x C W:Addr} {name:Str} {v:Value}
theorem x_store {vs:Array Value} {Q:Unit->Shared->Prop} (X:K.In s.heap) (S:XSet K C W name) (oe:s.heap.get? x=some { cls:=.ref C,data:=.fields vs })
    (hq:∀ h' tk,h'.get? x=some { cls:=.ref C,dict:=some s.heap.objs.size,data:=.fields vs }->h'.Ns1 s.heap.objs.size (fun y=>if y=name then some v else none) ->
      (∀ b o,b≠x->s.heap.get? b=some o->h'.get? b=some o)->Q () { s with heap:=h',toks:=tk }):wpAny (model prog w) A (setAttr (.ref x) name v) Q E s:=by
  have J:InstAt s.heap x { cls:=.ref C,data:=.fields vs } C none:=⟨oe,rfl,rfl,True.intro⟩
  obtain ⟨cd,hc,hm,hd⟩:=S.cls
  refine set_plain X J S.sa ?_
  have SF:=PySem.F.store_ValueError
  have sub:Looks (model prog w) s.heap (isInstance (.ref x) (.type "object")) true:=J.type.andThen (looks_mroIn X S.ob)
  refine codeAny_call_builtin SF.slot.plain SF.entry (@check_slot (model prog w) _ _ { s with toks:=s.toks + 1 } "object.__setattr__" "object" "__setattr__" (.ref x) [.str name s.toks,v] [] _ SF.kind SF.split sub (SF.args (.ref x) (.str name s.toks) v) ?_)
  have lm:Looks (model prog w) s.heap (mroOf (.ref C)) cd.mro:=(looks_clsIn X hc).andThen .now
  rw [osa_eq,refuse_eq]
  refine wpAny_bind (wpAny_bind (Looks.here (s:={ s with toks:=s.toks + 1 }) J.type (wpAny_bind (Looks.here (s:={ s with toks:=s.toks + 1 }) lm ?_))))
  rw [hm,refuseLoop_ref,refuseLoop_ref,SF.passes]
  refine wpAny_pure (wpAny_bind (Looks.here (s:={ s with toks:=s.toks + 1 }) J.type (wpAny_bind (Looks.here (s:={ s with toks:=s.toks + 1 }) (looks_findIn X S.no) (wpAny_bind (wpAny_pure ?_))))))
  dsimp only
  unfold storeInOwnDict
  refine wpAny_bind (wpAny_pure (wpAny_bind ?_))
  unfold ownDictForStores instanceDict
  refine wpAny_bind (wpAny_loadPart oe (wpAny_bind (Looks.here (s:={ s with toks:=s.toks + 1 }) (looks_clsIn X hc) ?_)))
  rw [hd]
  have od:(s.heap.push { cls:=.type "dict",data:=.dict #[] }).get? x=some { cls:=.ref C,data:=.fields vs }:=O0 _ oe
  have xs:x≠s.heap.objs.size:=E5 (O5 oe)
  have th:typeHasDict (.ref C)=true:=rfl
  dsimp only
  rw [if_neg (by decide),if_neg (by rw [th]; decide)]
  refine wpAny_bind (wpAny_alloc' ?_)
  refine wpAny_bind (wpAny_update' od ?_)
  refine wpAny_pure ?_
  obtain ⟨h2,e2⟩:∃ h2,((s.heap.push { cls:=.type "dict",data:=.dict #[] }).update x fun o=>{ cls:=o.cls,dict:=some s.heap.objs.size,data:=o.data,slots:=o.slots })=h2:=⟨_,rfl⟩
  have g2:h2.get? s.heap.objs.size=some { cls:=.type "dict",data:=.dict #[] }:=by rw [<- e2]; exact (Heap.get?_update_ne _ _ _ _ xs.symm).trans (Heap.get?_push_at rfl rfl)
  have x2:h2.get? x=some { cls:=.ref C,dict:=some s.heap.objs.size,data:=.fields vs }:=by rw [<- e2]; exact F7 _ od rfl
  have k2:∀ b o,b≠x->s.heap.get? b=some o->h2.get? b=some o:=fun b o n q=>by rw [<- e2]; exact (Heap.get?_update_ne _ _ _ _ n).trans (O0 _ q)
  have n2:h2.Ns s.heap.objs.size (fun _=>none):=⟨_,#[],_,g2,rfl,fun e he=>absurd he (by simp),fun _=>rfl⟩
  show wpAny _ _ (storeInDict s.heap.objs.size (.str name s.toks) name v) _ _ _
  rw [e2]
  unfold storeInDict newKeyGuard
  refine wpAny_bind (wpAny_pure (wpAny_bind (wpAny_nsSet1 (Heap.Ns1.of_empty n2) fun h' n' sb=>?_)))
  obtain ⟨oD,esD,epD,hoD,hdD,hcD⟩:=n'.count (Within.cons name v Within.nil)
  refine wpAny_bind (wpAny_lookBehind hoD (by rw [hdD]; exact pastItsLine_dict (E3 hcD (by rw [D7,List.length_nil,sizeLine_eq]; omega))) ?_)
  exact wpAny_pure (hq h' _ ((sb.2 x xs).trans x2) n' fun b o n q=>(sb.2 b (E5 (O5 q))).trans (k2 b o n q))
end
end L2
namespace L2
open PySem PySem.Spec PyProof.Rows PySem.W
def XO (x C:Addr) (dv:Option Addr) (h:Heap):Prop:=∃ t,h.get? x=some { cls:=.ref C,dict:=dv,data:=.fields #[.ref t,.none,.none,.none,.bool false,.none] }
theorem xo_ok {P:Program} {w:World} {H:Hp} {h:Heap} {x C:Addr} {dv:Option Addr} (o:XO x C dv h):ObjOk P w H h x (.ext (XO x C dv)):=
  ⟨o,o.elim fun t e=>⟨_,e⟩,fun h1 h2 ⟨t,e⟩ k=>⟨t,k _ e⟩⟩
structure XMade (K:Frag) (C W f:Addr):Prop where
  lk:∃ nm q N bs sn sub ab col dd k0 k1 k2 k3 k5,K.lookup C=some (excClassObj nm q C N bs (.ref W :: Ua) true sn sub ab col dd k0 k1 k2 k3 k5 "ValueError.__new__")
  xw:excIn K W Ua "ValueError.__new__" = true
  fi:findIn K (.ref C) "__init__" = some (some (.ref f))
  ff:∃ o,K.lookup f=some o/\o.cls=.type "function"
  kp:keepIn K (.ref C)=true
theorem XMade.tail {K:Frag} {C W f:Addr} {h:Heap} (M:XMade K C W f) (X:K.In h):OwnTail h Ua (.ref W :: Ua):=by
  obtain ⟨tl,N,nm,qn,bs,hdct,sn,sub,ab,col,dd,k0,k1,k2,k3,k5,mN,hC,hN,hni,T⟩:=(own_obj (mg:=fun _=>some (.ref W)) (x := "W") X rfl M.xw).obj
  exact .own hC hN hni .base
section
variable {prog:Program} {w:World} {A:Around} {E:Value->Shared->Prop} {s:Shared} {K:Frag} {x C W f:Addr}
theorem x_init {u:Value} {Q:Value->Shared->Prop} (X:K.In s.heap) (M:XMade K C W f) (o:XO x C none s.heap)
    (hq:∀ h',(∀ b o,b≠x->s.heap.get? b=some o->h'.get? b=some o)->XO x C none h'->Q .none { s with heap:=h' }):wpAny (model prog w) A (call (.builtin "ValueError.__init__") [.ref x,u]) Q E s:=by
  obtain ⟨t,oe⟩:=o
  obtain ⟨nm,q,N,bs,sn,sub,ab,col,dd,k0,k1,k2,k3,k5,lk⟩:=M.lk
  obtain ⟨hp,gs,dr,tk,sy⟩:=s
  refine wpAny_call (codeAny_call_builtin PySem.F.excBase_ValueError.init.plain PySem.F.excBase_ValueError.initEntry (wpAny_check_init_subU PySem.F.excBase_ValueError (M.tail X) (X _ _ lk) oe rfl ?_))
  wp_walk
  refine hq _ (fun b o n e=>?_) ⟨hp.objs.size,?_⟩
  · rw [E2 _ _ (Ne.symm n)]
    exact O0 _ e
  · rw [F7 _ (O0 _ oe) rfl]
    rfl
end
section
variable {X:Cx} {x C W f:Addr}
structure XCall (K:Frag) (W:Addr):Prop where
  ga:specialIn K (.ref W) "__getattribute__" = some (some (.builtin "type.__getattribute__"))
  rd:readsIn K W (.type "type")=true
  fc:findCls K (.ref W) (.type "type") "__init__" = some (.val (.builtin "ValueError.__init__"))
def tXI (K:Frag) (C W f:Addr) (t:TA):TE:=fun σ H Q=>t σ H fun vs H1=>∃ x y,vs=[.ref x,y]/\H1 x=some (.ext (XO x C none))/\Q .non H1
theorem pe_xinit {n:Str} {p apos pos:Pos} {a b:Expr} {t:TA} {pl:Sem Bool} (M:XMade X.K C W f) (L:XCall X.K W) (hg:Gl X n) (hm:X.mg n=some (.ref W)) (ha:PA X [a,b] t) (hdb:(n == ("__debug__" : Str))=false:=by decide)
    (hst:starEach [a,b] X.env=[(false,eval a X.env),(false,eval b X.env)]:=by rfl)
    (ht:eval (.Call (.Attribute (.Name n p) "__init__" apos) [a,b] [] pos) X.env=(do
      let ov <- eval (.Name n p) X.env
      standAt apos.atName
      let (g,first) <- holding [ov] (getMethod ov "__init__" pl)
      callWith pos g first (backTo pos (starEach [a,b] X.env)) (backToKw pos (keywordEach [] X.env))):=by rfl) :
    PE X (.Call (.Attribute (.Name n p) "__init__" apos) [a,b] [] pos) (tXI X.K C W f t):=by
  intro pins s σ H Q I h
  refine methodCall_KW (pl:=pl) (ld_glob I hg hm ?_ hdb) ht
  refine method_cls I.kIn L.ga (cls_value I.kIn L.rd L.fc (by first | rfl | kernel_rfl) ?_)
  have I1:Inv X pins σ H { s with toks:=s.toks + 1 }:=I.tok _
  have hA:=ha pos pins _ σ H _ I1 h
  rw [hst] at hA ⊢
  refine Calls.callWith_builtin rfl (Calls.evalArgs_plain ?_)
  refine thn hA fun us s2 ⟨vs,H2,I2,r2,x,y,e,hx,q⟩=>?_
  subst e
  obtain ⟨u1,u2,rfl,r1,r3⟩:=two_of r2
  cases r1
  refine x_init I2.kIn M (I2.hok x _ hx).1 fun h' kk o=>?_
  refine ⟨.non,H2,?_,rfl,q⟩
  have:=I2.write (x:=x) (e:=x) (o:=.ext (XO x C none)) (t':=s2.toks) (h':=h') (by rw [hx]; exact trivial) (.inl rfl) kk (o.elim fun t e=>⟨_,e⟩) (xo_ok o)
  have eq:upd H2 x (.ext (XO x C none))=H2:=by
    funext b
    by_cases z:b=x
    · subst z; rw [Qs,hx]
    · rw [Qd z]
  rw [eq] at this
  exact this
theorem Inv.trackO {pins:List (Addr × Obj)} {σ:St} {H H':Hp} {s s1:Shared} {a:Addr} {ho:HO} (I0:Inv X pins σ H s) (hex:∀ b,b∉X.ex) (h0:s.heap.get? a=none) (I:Inv X pins σ H' s1) (hn:H' a=none) (o:ObjOk X.prog X.w (upd H' a ho) s1.heap a ho):Inv X pins σ (upd H' a ho) s1:=by
  have ne0:∀ b u,s.heap.get? b=some u->b≠a:=fun b u e z=>by rw [z,h0] at e; cases e
  have nes:∀ b u,X.s₀.heap.get? b=some u->b≠a:=fun b u e=>by
    obtain ⟨u',e'⟩:=I0.base.there b u e (hex b)
    exact ne0 b u' e'
  refine ⟨I.ok,I.os,I.bare,?_,I.loc,I.cell,?_,?_,?_,?_,I.len⟩
  · have u0:=I.base
    exact ⟨u0.keep,u0.slot,fun c o e n hx=>by rw [Qd (nes c o e)]; exact u0.free c o e n hx,u0.there,
      fun c ts e=>by have:=u0.tups c ts e; rw [Qd (Qg this hn)]; exact this,
      fun c o ts e=>by have:=u0.frzs c o ts e; rw [Qd (Qg this hn)]; exact this,
      fun c ps e=>by obtain ⟨more,q⟩:=u0.tbls c ps e; exact ⟨more,by rw [Qd (Qg q hn)]; exact q⟩⟩
  · obtain ⟨m,⟨o,_,_,e,_⟩,_⟩:=I0.loc
    rw [Qd (ne0 _ _ e)]; exact I.free
  · intro x c e
    obtain ⟨v,o,z,_⟩:=I0.cell x c e
    rw [Qd (ne0 _ _ z)]; exact I.freeC x c e
  · intro p hp
    obtain ⟨e,n,ne,nf,d⟩:=I.pin p hp
    exact ⟨e,by rw [Qd (ne0 _ _ (I0.pin p hp).1)]; exact n,ne,nf,d⟩
  · intro c u q
    by_cases hc:c=a
    · subst hc
      rw [Qs] at q; cases q
      exact o
    · rw [Qd hc] at q
      exact (I.hok c u q).stay (fun _ _ _ r=>r) (fun c' r=>by rw [Qd (Qg r hn)]; exact r) fun c' ts r=>by rw [Qd (Qg r hn)]; exact r
def tXS (C:Addr) (name:Str) (ta tv:TE):TS:=fun D σ H=>tv σ H fun y H1=>ta σ H1 fun v H2=>∃ x,v=.ref x/\H2 x=some (.ext (XO x C none)) /\
  ∀ dx,H2 dx=none->dx≠x->D.nx σ (upd (upd H2 x (.ext (XO x C (some dx)))) dx (.xd [(name,y)]))
theorem ps_xset {o value:Expr} {name:Str} {ta tv:TE} {pos pos':Pos} (hex:∀ b,b∉X.ex) (S:XSet X.K C W name) (ha:PE X o ta) (hv:PE X value tv) (hs:swapsWith value (some (.Attribute o name pos')) pos.line X.env=pure false:=by rfl) :
    PS X (.Assign [.Attribute o name pos'] value pos) (tXS C name ta tv):=by
  intro pins s σ H D I h
  refine plainObj_wpAny_Assign_Attribute (thn (hv pins s σ H _ I h) fun u s1 ⟨y,H1,I1,ry,q⟩=>thn (ha pins s1 σ H1 _ I1 q) fun ov s2 ⟨v,H2,I2,rx,x,ex,hx,q2⟩=>?_) hs
  subst ex
  obtain rfl:ov=Value.ref x:=rx
  obtain ⟨t,oe⟩:=(I2.hok x _ hx).1
  refine x_store I2.kIn S oe fun h' tk o' n' kk=>?_
  have xs:s2.heap.objs.size≠x:=Nat.ne_of_gt (O5 oe)
  have I3:=I2.write (x:=x) (e:=x) (o:=.ext (XO x C (some s2.heap.objs.size))) (t':=tk) (h':=h') (by rw [hx]; exact trivial) (.inl rfl) kk ⟨_,o'⟩ (xo_ok ⟨t,o'⟩)
  refine ⟨σ,_,?_,q2 s2.heap.objs.size I2.fresh xs⟩
  refine Inv.trackO I2 hex (Heap.get?_none_of_le (O7 _)) I3 (by rw [Qd xs]; exact I2.fresh) ⟨_,n',fun g=>?_⟩
  show RelO ([(name,y)].lookup g) (if g=name then some u else none)
  by_cases z:g=name
  · subst z
    rw [if_pos rfl,D4,show (g == g)=true by simp]
    exact ry
  · have:(g == name)=false:=by simpa using z
    rw [if_neg z,D4,this]
    exact trivial
end
end L2
namespace PySem
open Sem (wp)
def fld2 (o:Obj):Option Value:=match o.data with | .fields vs=>vs[2]? | _=>none
theorem fld2_map {o:Obj} {vs:Array Value} {x:Value} (od:o.data=.fields vs):fld2 (Obj.mapFields (·.setIfInBounds 1 x) o)=fld2 o:=by
  have d:=Obj.data_mapFields od (·.setIfInBounds 1 x)
  unfold fld2
  rw [d,od]
  exact Array.getElem?_setIfInBounds_ne (by decide)
section
variable {M:Model} {A:Around} {E:Value->Shared->Prop} {s:Shared} {bs:Heap} {en:Env} {ou:List Env} {L e:Addr} {ob:Obj} {vs:Array Value} {a0:Value} {Q:Unit->Shared->Prop}
theorem entry_dict {head:Value} {nx:Bool} (fr:A.frames=some (en :: ou)) (ff:s.heap.FunFrames bs (en :: ou)) (ef:en.frame=some L) (oe:s.heap.get? e=some ob) (kb:bs.StaysIn s.heap) (ne:bs.get? e=none)
    (od:ob.data=.fields vs) (z1:1 < vs.size) (z0:vs[0]?=some a0)
    (h:∀ h',Heap.LeftW bs (en :: ou) e ob.cls a0 s.heap h'->(∃ o',h'.get? e=some o'/\o'.dict=ob.dict/\fld2 o'=fld2 ob)->Q () { s with heap:=h' }) :
    wpAny M A (do
      let a <- frameOf en
      let pl <- entryPlaceOf L nx
      let b <- EntryCells.newEntry head a .none (rawInt L) .none pl
      setField (.ref e) 1 b) (fun _ s'=>wpAny M A (setFlight (.ref e) none) Q E s') E s:=by
  have nf:e∉(en :: ou).filterMap (·.frame):=fun m=>by
    obtain ⟨_,o,q,n⟩:=ff.mem m
    rw [oe] at q
    cases q
    exact n vs od
  refine wpAny_bind (wpAny_frameOf_fun fr ff ef fun g gs=>?_)
  refine wpAny_bind (wpAny_entryPlaceOf fun pl hp=>?_)
  unfold EntryCells.newEntry newFields
  refine wpAny_bind (wpAny_newObj_type ?_ (hp.sizeOk5 _ _ _ _ _))
  have ge:g.get? e=some ob:=(gs.2.1 e nf).trans oe
  have gb:bs.StaysIn g:=fun b o q=>(gs.2.1 b fun m=>by
    rw [(ff.mem m).1] at q
    cases q).trans (kb b o q)
  obtain ⟨tb,etb⟩:∃ tb:List Value,[head,.ref L,.none,rawInt L,.none] ++ (if pl.isEmpty then List.replicate 6 Value.none else pl)=tb:=⟨_,rfl⟩
  have l5:3 < tb.length/\tb[3]?=some (rawInt L):=by
    rw [<- etb]
    exact ⟨by simp,by simp⟩
  rw [etb]
  have ge2:=O0 (h:=g) { cls:=.type "traceback",dict:=none,data:=.fields tb.toArray } ge
  refine wpAny_setField ge2 od z1 ?_
  have te:g.objs.size≠e:=Nat.ne_of_gt (O5 ge)
  have d3:=Obj.data_mapFields od (·.setIfInBounds 1 (Value.ref g.objs.size))
  have ge3:=F7 (Obj.mapFields (·.setIfInBounds 1 (Value.ref g.objs.size))) ge2 (Obj.isFreed_of_fields d3)
  have gt3:=(E2 (g.push { cls:=.type "traceback",dict:=none,data:=.fields tb.toArray })
    (Obj.mapFields (·.setIfInBounds 1 (Value.ref g.objs.size))) te.symm).trans
    (D3 g rfl)
  unfold setFlight
  refine wpAny_bind (wpAny_field ge3 d3 (x:=.ref g.objs.size) (by simp [z1]) ?_)
  rw [if_pos (show (Value.ref g.objs.size != Value.none)=true by simp)]
  refine wpAny_setField gt3 rfl (by simpa using l5.1) (h _ ?_ ?_)
  all_goals
    obtain ⟨g3,eg3⟩:∃ g3,((g.push { cls:=.type "traceback",dict:=none,data:=.fields tb.toArray }).update e (Obj.mapFields (·.setIfInBounds 1 (Value.ref g.objs.size))))=g3:=⟨_,rfl⟩
    rw [eg3] at ge3 gt3 ⊢
  · have kp:∀ b o,b≠e->g.get? b=some o->(g3.update g.objs.size (Obj.mapFields (·.setIfInBounds 3 ((none:Option Addr).elim Value.none fun f=>rawInt f)))).get? b=some o:=fun b o n q=>by
      rw [E2 _ _ (Nat.ne_of_gt (O5 q)),<- eg3,E2 _ _ n.symm]
      exact O0 _ q
    have nr:∀ b o,s.heap.get? b=some o->(∀ ws,o.data≠.fields ws)->b≠e:=fun b o q n z=>by
      rw [z,oe] at q
      cases q
      exact n vs od
    refine ⟨fun b o q=>kp b o (fun z=>by rw [z,ne] at q; cases q) (gb b o q),ff.of_keeps fun b o q n=>?_,?_,fun b o q n=>?_⟩
    · obtain ⟨sl,z⟩:=gs.2.2 b o q
      exact ⟨_,kp b _ (nr b o q n) z,rfl⟩
    · refine ⟨_,_,g.objs.size,_,_,?_,⟨Obj.cls_mapFields _ _,?_⟩,d3,by simp [z1],gb.fresh,te,F7 _ gt3 (Obj.isFreed_of_fields (Obj.data_mapFields rfl _)),Obj.data_mapFields rfl _,?_⟩
      · rw [E2 _ _ te]
        exact ge3
      · rw [Array.getElem?_setIfInBounds_ne (by decide)]
        exact z0
      · have:=l5.1
        simp [this]
    · obtain ⟨sl,z⟩:=gs.2.2 b o q
      exact ⟨sl,kp b _ (nr b o q n) z⟩
  · refine ⟨_,(E2 _ _ te).trans ge3,?_,fld2_map od⟩
    cases ob with
    | mk c d dt sl=>cases dt <;> first | rfl | cases od
theorem leave1_dict (fr:A.frames=some (en :: ou)) (ff:s.heap.FunFrames bs (en :: ou)) (ef:en.frame=some L) (oe:s.heap.get? e=some ob) (kb:bs.StaysIn s.heap) (ne:bs.get? e=none)
    (od:ob.data=.fields vs) (z1:vs[1]?=some .none) (z0:vs[0]?=some a0)
    (h:∀ h',Heap.LeftW bs (en :: ou) e ob.cls a0 s.heap h'->(∃ o',h'.get? e=some o'/\o'.dict=ob.dict/\fld2 o'=fld2 ob)->Q () { s with heap:=h' }):wpAny M A (leaving en (.ref e)) Q E s:=by
  unfold leaving noteFrame
  simp only [ef]
  refine wpAny_bind (wpAny_bind (wpAny_field oe od z1 ?_))
  rw [if_neg (by decide)]
  exact entry_dict fr ff ef oe kb ne od (Array.getElem?_eq_some_iff.mp z1).1 z0 h
theorem leave2_dict {cls:Value} {dv:Option Addr} (fr:A.frames=some (en :: ou)) (ef:en.frame=some L) (fl:Heap.FlyingW bs (en :: ou) e cls a0 s.heap) (dd:∃ o',s.heap.get? e=some o'/\o'.dict=dv/\fld2 o'=some .none)
    (h:∀ h',Heap.FlyingW bs ou e cls a0 h'->(∃ o',h'.get? e=some o'/\o'.dict=dv/\fld2 o'=some .none)->s.heap.UpToSlots h'->Q () { s with heap:=h' }):wpAny M A (leaving en (.ref e)) Q E s:=by
  obtain ⟨kb,ne,ff,oe,ws,T,oT,ts,he,⟨hc,z0⟩,od,z1,nT,Te,hT,dT,z3⟩:=fl
  obtain ⟨o',ho',hdv,hfl⟩:=dd
  rw [he] at ho'
  cases ho'
  unfold leaving noteFrame
  simp only [ef]
  refine wpAny_bind (wpAny_bind (wpAny_field he od z1 ?_))
  rw [if_pos (show (Value.ref T != Value.none)=true by simp)]
  refine wpAny_bind (wpAny_field hT dT z3 ?_)
  rw [if_neg (show ¬ ((Value.none == rawInt L)=true) by simp [rawInt])]
  refine wpAny_bind (wpAny_setField hT dT (Array.getElem?_eq_some_iff.mp z3).1 ?_)
  have ot:∀ b,b≠T->(s.heap.update T (Obj.mapFields (·.setIfInBounds 3 Value.none))).get? b=s.heap.get? b:=fun b n=>E2 _ _ n.symm
  have nr:∀ b o,s.heap.get? b=some o->(∀ ws,o.data≠.fields ws)->b≠T:=fun b o q n z=>by
    rw [z,hT] at q
    cases q
    exact n ts dT
  refine entry_dict fr (ff.of_keeps fun b o q n=>⟨o,(ot b (nr b o q n)).trans q,rfl⟩) ef ((ot e Te.symm).trans he) (fun b o q=>(ot b fun z=>by rw [z,nT] at q; cases q).trans (kb b o q)) ne od (Array.getElem?_eq_some_iff.mp z1).1 z0 fun h' lf d'=>?_
  obtain ⟨k1,⟨_,_,k2⟩,k3,k4⟩:=lf
  rw [hc] at k3
  exact h h' ⟨k1,ne,k2,k3⟩ (d'.imp fun o q=>⟨q.1,q.2.1.trans hdv,q.2.2.trans hfl⟩) fun b o q n=>k4 b o ((ot b (nr b o q n)).trans q) n
theorem note_entry_dict {head:Value} {nx:Bool} (fr:A.frames=some (en :: ou)) (ff:s.heap.FunFrames bs (en :: ou)) (ef:en.frame=some L) (oe:s.heap.get? e=some ob) (kb:bs.StaysIn s.heap) (ne:bs.get? e=none)
    (od:ob.data=.fields vs) (z1:1 < vs.size) (z0:vs[0]?=some a0)
    (h:∀ h',Heap.NotedW bs (en :: ou) e ob.cls a0 (rawInt L) s.heap h'->(∃ o',h'.get? e=some o'/\o'.dict=ob.dict/\fld2 o'=fld2 ob)->Q () { s with heap:=h' }) :
    wpAny M A (do
      let a <- frameOf en
      let pl <- entryPlaceOf L nx
      let b <- EntryCells.newEntry head a .none (rawInt L) .none pl
      setField (.ref e) 1 b) Q E s:=by
  have nf:e∉(en :: ou).filterMap (·.frame):=fun m=>by
    obtain ⟨_,o,q,n⟩:=ff.mem m
    rw [oe] at q
    cases q
    exact n vs od
  refine wpAny_bind (wpAny_frameOf_fun fr ff ef fun g gs=>?_)
  refine wpAny_bind (wpAny_entryPlaceOf fun pl hp=>?_)
  unfold EntryCells.newEntry newFields
  refine wpAny_bind (wpAny_newObj_type ?_ (hp.sizeOk5 _ _ _ _ _))
  have ge:g.get? e=some ob:=(gs.2.1 e nf).trans oe
  have gb:bs.StaysIn g:=fun b o q=>(gs.2.1 b fun m=>by
    rw [(ff.mem m).1] at q
    cases q).trans (kb b o q)
  obtain ⟨tb,etb⟩:∃ tb:List Value,[head,.ref L,.none,rawInt L,.none] ++ (if pl.isEmpty then List.replicate 6 Value.none else pl)=tb:=⟨_,rfl⟩
  have l5:3 < tb.length/\tb[3]?=some (rawInt L):=by
    rw [<- etb]
    exact ⟨by simp,by simp⟩
  rw [etb]
  have ge2:=O0 (h:=g) { cls:=.type "traceback",dict:=none,data:=.fields tb.toArray } ge
  have te:g.objs.size≠e:=Nat.ne_of_gt (O5 ge)
  have d3:=Obj.data_mapFields od (·.setIfInBounds 1 (Value.ref g.objs.size))
  have ge3:=F7 (Obj.mapFields (·.setIfInBounds 1 (Value.ref g.objs.size))) ge2 (Obj.isFreed_of_fields d3)
  have gt3:=(E2 (g.push { cls:=.type "traceback",dict:=none,data:=.fields tb.toArray })
    (Obj.mapFields (·.setIfInBounds 1 (Value.ref g.objs.size))) te.symm).trans
    (D3 g rfl)
  refine wpAny_setField ge2 od z1 (h _ ?_ ?_)
  · have kp:∀ b o,b≠e->g.get? b=some o->((g.push { cls:=.type "traceback",dict:=none,data:=.fields tb.toArray }).update e (Obj.mapFields (·.setIfInBounds 1 (Value.ref g.objs.size)))).get? b=some o:=fun b o n q=>by
      rw [E2 _ _ n.symm]
      exact O0 _ q
    have nr:∀ b o,s.heap.get? b=some o->(∀ ws,o.data≠.fields ws)->b≠e:=fun b o q n z=>by
      rw [z,oe] at q
      cases q
      exact n vs od
    refine ⟨fun b o q=>kp b o (fun z=>by rw [z,ne] at q; cases q) (gb b o q),ff.of_keeps fun b o q n=>?_,?_,fun b o q n=>?_⟩
    · obtain ⟨sl,z⟩:=gs.2.2 b o q
      exact ⟨_,kp b _ (nr b o q n) z,rfl⟩
    · refine ⟨_,_,g.objs.size,_,_,ge3,⟨Obj.cls_mapFields _ _,?_⟩,d3,by simp [z1],gb.fresh,te,gt3,rfl,by simpa using l5.2⟩
      rw [Array.getElem?_setIfInBounds_ne (by decide)]
      exact z0
    · obtain ⟨sl,z⟩:=gs.2.2 b o q
      exact ⟨sl,kp b _ (nr b o q n) z⟩
  · refine ⟨_,ge3,?_,fld2_map od⟩
    cases ob with
    | mk c d dt sl=>cases dt <;> first | rfl | cases od
theorem look_dict {cls:Value} {dv:Option Addr} (fr:A.frames=some (en :: ou)) (ef:en.frame=some L) (fl:Heap.FlyingW bs (en :: ou) e cls a0 s.heap) (dd:∃ o',s.heap.get? e=some o'/\o'.dict=dv/\fld2 o'=some .none)
    (h:∀ h',Heap.HeldW bs (en :: ou) e cls a0 L h'->(∃ o',h'.get? e=some o'/\o'.dict=dv/\fld2 o'=some .none)->s.heap.UpToSlots h'->Q () { s with heap:=h' }):wpAny M A (noteFrame (.ref e) en) Q E s:=by
  obtain ⟨kb,ne,ff,oe,ws,T,oT,ts,he,⟨hc,z0⟩,od,z1,nT,Te,hT,dT,z3⟩:=fl
  obtain ⟨o',ho',hdv,hfl⟩:=dd
  rw [he] at ho'
  cases ho'
  unfold noteFrame
  simp only [ef]
  refine wpAny_bind (wpAny_field he od z1 ?_)
  rw [if_pos (show (Value.ref T != Value.none)=true by simp)]
  refine wpAny_bind (wpAny_field hT dT z3 ?_)
  rw [if_neg (show ¬ ((Value.none == rawInt L)=true) by simp [rawInt])]
  refine wpAny_bind (wpAny_setField hT dT (Array.getElem?_eq_some_iff.mp z3).1 ?_)
  have ot:∀ b,b≠T->(s.heap.update T (Obj.mapFields (·.setIfInBounds 3 Value.none))).get? b=s.heap.get? b:=fun b n=>E2 _ _ n.symm
  have nr:∀ b o,s.heap.get? b=some o->(∀ ws,o.data≠.fields ws)->b≠T:=fun b o q n z=>by
    rw [z,hT] at q
    cases q
    exact n ts dT
  refine note_entry_dict fr (ff.of_keeps fun b o q n=>⟨o,(ot b (nr b o q n)).trans q,rfl⟩) ef ((ot e Te.symm).trans he) (fun b o q=>(ot b fun z=>by rw [z,nT] at q; cases q).trans (kb b o q)) ne od (Array.getElem?_eq_some_iff.mp z1).1 z0 fun h' nt d'=>?_
  obtain ⟨k1,k2,k3,k4⟩:=nt
  rw [hc] at k3
  exact h h' ⟨k1,ne,k2,k3⟩ (d'.imp fun o q=>⟨q.1,q.2.1.trans hdv,q.2.2.trans hfl⟩) fun b o q n=>k4 b o ((ot b (nr b o q n)).trans q) n
theorem flight_dict {l:List Env} {cls fv:Value} {dv:Option Addr} (kb:bs.StaysIn s.heap) (ne:bs.get? e=none) (ff:s.heap.FunFrames bs l) (tr:s.heap.TracedAtW bs e cls a0 fv) (dd:∃ o',s.heap.get? e=some o'/\o'.dict=dv/\fld2 o'=some .none)
    (h:∀ h',Heap.FlyingW bs l e cls a0 h'->(∃ o',h'.get? e=some o'/\o'.dict=dv/\fld2 o'=some .none)->s.heap.UpToSlots h'->Q () { s with heap:=h' }):wpAny M A (setFlight (.ref e) none) Q E s:=by
  obtain ⟨oe,ws,T,oT,ts,he,hc,od,z1,nT,Te,hT,dT,z3⟩:=tr
  obtain ⟨o',ho',hdv,hfl⟩:=dd
  have s3:=(Array.getElem?_eq_some_iff.mp z3).1
  have ot:∀ b,b≠T->(s.heap.update T (Obj.mapFields (·.setIfInBounds 3 ((none:Option Addr).elim Value.none fun f=>rawInt f)))).get? b=s.heap.get? b:=fun b n=>E2 _ _ n.symm
  have nr:∀ b o,s.heap.get? b=some o->(∀ ws,o.data≠.fields ws)->b≠T:=fun b o q n z=>by
    rw [z,hT] at q
    cases q
    exact n ts dT
  unfold setFlight
  refine wpAny_bind (wpAny_field he od z1 ?_)
  rw [if_pos (show (Value.ref T != Value.none)=true by simp)]
  refine wpAny_setField hT dT s3 (h _ ⟨fun b o q=>(ot b fun z=>by rw [z,nT] at q; cases q).trans (kb b o q),ne,ff.of_keeps fun b o q n=>⟨o,(ot b (nr b o q n)).trans q,rfl⟩,?_⟩ ⟨o',(ot e Te.symm).trans ho',hdv,hfl⟩ fun b o q n=>⟨o.slots,(ot b (nr b o q n)).trans q⟩)
  exact ⟨oe,ws,T,_,_,(ot e Te.symm).trans he,hc,od,z1,nT,Te,F7 _ hT (Obj.isFreed_of_fields (Obj.data_mapFields dT _)),Obj.data_mapFields dT _,by simp [s3]⟩
end
end PySem
namespace L2
open PySem PySem.Spec PyProof.Rows
def CXD (P:Program) (w:World):CXT:=fun outer H s E e s'=>∃ a cls a0 dv H' B,e=Value.ref a/\Fly P w outer H H' s s' a cls a0 B/\(∃ o',s'.heap.get? a=some o'/\o'.dict=dv/\fld2 o'=some .none)/\E cls dv H'
theorem pass00D {P:Program} {w:World} {X:Cx}:Uk (CXD P w) X E0:=fun _ _ _ _ _ _ _ h=>by
  obtain ⟨_,_,_,_,_,_,_,_,_,z⟩:=h
  exact z.elim
def delH (H:Hp) (a:Addr):Hp:=fun b=>if b=a then none else H b
theorem delH_ne {H:Hp} {a b:Addr} (h:b≠a):delH H a b=H b:=by unfold delH; rw [if_neg h]
theorem delH_self {H:Hp} {a:Addr}:delH H a a=none:=by unfold delH; rw [if_pos rfl]
theorem Inv.drop {X:Cx} {pins:List (Addr × Obj)} {σ:St} {H:Hp} {s:Shared} {a:Addr} {φ:Heap->Prop} (I:Inv X pins σ H s) (h:H a=some (.ext φ)):Inv X pins σ (delH H a) s:=by
  have nn:∀ b,H b=none->delH H a b=none:=fun b e=>by
    by_cases z:b=a
    · subst z; exact delH_self
    · rw [delH_ne z]; exact e
  have ss:∀ b o,H b=some o->o≠.ext φ->delH H a b=some o:=fun b o e n=>by
    rw [delH_ne fun z=>?_]
    · exact e
    · subst z; rw [h] at e; exact n (Option.some.inj e).symm
  refine ⟨I.ok,I.os,I.bare,?_,I.loc,I.cell,nn _ I.free,fun x c e=>nn _ (I.freeC x c e),fun p hp=>?_,fun b u q=>?_,I.len⟩
  · have u:=I.base
    exact ⟨u.keep,u.slot,fun b o e n hx=>nn _ (u.free b o e n hx),u.there,fun b xs e=>ss _ _ (u.tups b xs e) (by simp),fun b o v e=>ss _ _ (u.frzs b o v e) (by simp),fun b ps e=>by
      obtain ⟨more,q⟩:=u.tbls b ps e
      exact ⟨more,ss _ _ q (by simp)⟩⟩
  · obtain ⟨e,n,ne,nf,d⟩:=I.pin p hp
    exact ⟨e,nn _ n,ne,nf,d⟩
  · by_cases z:b=a
    · subst z; rw [delH_self] at q; cases q
    · rw [delH_ne z] at q
      exact (I.hok b u q).stay (fun _ _ _ r=>r) (fun c r=>ss _ _ r (by simp)) fun c ts r=>ss _ _ r (by simp)
section
variable {P:Program} {w:World} {K:PySem.W.Frag} {mg:Str->Option Value} {base:Heap} {N:List Str} {qual:Str} {scope:Scope} {f:Addr} {cd:Value} {A:Around} {outer:List Env} {s:Shared} {H:Hp} {E:XK}
abbrev cxD (P:Program) (w:World) (K:PySem.W.Frag) (mg:Str->Option Value) (base:Heap) (N:List Str) (qual:Str) (scope:Scope) (f:Addr) (cd:Value) (A:Around) (outer:List Env) (s:Shared) (H:Hp) (E:XK):Cx:=cxOf (CXD P w) P w K mg base N qual scope f cd A outer s H E
theorem stk_neD {pins:List (Addr × Obj)} {σ:St} {H1:Hp} {s1:Shared} (I:Inv (cxD P w K mg base N qual scope f cd A outer s H E) pins σ H1 s1) {b:Addr} {o:Obj} (e:s.heap.get? b=some o) (n:b∉frs outer):b∉frs (cxD P w K mg base N qual scope f cd A outer s H E).stack:=fun hb=>by
  rcases D5.mp (I.stkSub b hb) with z | z
  · have h1:b < s.heap.objs.size:=O5 e
    have h2:s.heap.objs.size<=(cxD P w K mg base N qual scope f cd A outer s H E).env.locals:=I.ok.above
    rw [<- z] at h2
    exact absurd (D0 h1 h2) (Nat.lt_irrefl _)
  · exact n z
theorem frs_subD {b:Addr} (h:b∈frs outer):b∈frs (cxD P w K mg base N qual scope f cd A outer s H E).stack:=by
  show b∈frs (_ :: outer)
  unfold frs at h ⊢
  rw [List.filterMap_cons]
  split
  · exact h
  · exact O6 _ h
theorem raiseD {pins:List (Addr × Obj)} {σ:St} {H1:Hp} {s1:Shared} {hx:Heap} {e C t:Addr} {dv:Option Addr} (I:Inv (cxD P w K mg base N qual scope f cd A outer s H E) pins σ H1 s1)
    (hk:∀ b o,b≠e->s1.heap.get? b=some o->hx.get? b=some o) (he1:∀ o,s1.heap.get? e=some o->∃ vs,o.data=.fields vs) (new:s.heap.get? e=none) (hH:H1 e=none)
    (oe:hx.get? e=some { cls:=.ref C,dict:=dv,data:=.fields #[.ref t,.none,.none,.none,.bool false,.none] }) (hE:E (.ref C) dv H1) :
    (cxD P w K mg base N qual scope f cd A outer s H E).xe (.ref e) { s1 with heap:=hx }:=by
  have hin:∀ en∈(cxD P w K mg base N qual scope f cd A outer s H E).stack,∀ b,en.frame=some b->b∈e :: frs (cxD P w K mg base N qual scope f cd A outer s H E).stack:=fun en he b hb=>O6 _ (List.mem_filterMap.mpr ⟨en,he,hb⟩)
  have ff:=PySem.W.funFrames_hide I.stack hin
  have nee:∀ b o,s1.heap.get? b=some o->(∀ vs,o.data≠.fields vs)->b≠e:=fun b o q n z=>by
    subst z
    obtain ⟨vs,d⟩:=he1 o q
    exact n vs d
  have hid:(PySem.W.hideAll s1.heap (e :: frs (cxD P w K mg base N qual scope f cd A outer s H E).stack)).get? e=none:=PySem.W.hideAll_none _ D1
  have kb:(PySem.W.hideAll s1.heap (e :: frs (cxD P w K mg base N qual scope f cd A outer s H E).stack)).StaysIn hx:=fun b o q=>hk b o (fun z=>by rw [z,hid] at q; cases q) (PySem.W.of_hideAll _ q)
  show wpAny (model P w) _ (leaving _ (.ref e)) _ _ _
  refine leave1_dict (bs:=PySem.W.hideAll s1.heap (e :: frs (cxD P w K mg base N qual scope f cd A outer s H E).stack)) (a0:=.ref t) (s:={ s1 with heap:=hx }) I.ok.frames (ff.of_keeps fun b o q n=>⟨o,hk b o (nee b o q n) q,rfl⟩) rfl oe kb hid rfl rfl rfl fun h2 lf dd=>?_
  obtain ⟨k1,⟨_,_,k2⟩,k3,k4⟩:=lf
  have noex:∀ b:Addr,b∉(cxD P w K mg base N qual scope f cd A outer s H E).ex:=fun b z=>absurd (show b∈([]:List Addr) from z) (by simp)
  have nse:∀ b o,s.heap.get? b=some o->b≠e:=fun b o q z=>by rw [z,new] at q; cases q
  have out:∀ b o,s.heap.get? b=some o->b∉frs outer->b∉e :: frs (cxD P w K mg base N qual scope f cd A outer s H E).stack:=fun b o q n m=>by
    rcases D5.mp m with z | z
    · exact nse b o q z
    · exact stk_neD I q n z
  refine ⟨e,.ref C,.ref t,dv,H1,_,rfl,⟨I.os,I.bare,⟨k1,hid,k2,k3⟩,fun b u q=>?_,fun b o q n hb=>?_,fun b o q hb=>?_,fun b o q hb=>?_,fun b o q n=>I.base.free b o q n (noex b),I.base.tups,I.base.frzs,I.base.tbls⟩,dd,hE⟩
  · have ne:∀ c v,H1 c=some v->c∉e :: frs (cxD P w K mg base N qual scope f cd A outer s H E).stack:=fun c v z m=>by
      rcases D5.mp m with m | m
      · rw [m,hH] at z; cases z
      · rw [I.stkFree c m] at z; cases z
    refine (I.hok b u q).stay (fun c v hc r=>PySem.W.hideAll_get _ r ?_) (fun _ r=>r) fun _ _ r=>r
    rcases hc with rfl | hc
    · exact ne c u q
    · exact ne c _ hc
  · exact PySem.W.hideAll_get _ (I.base.keep b o q n hb (noex b)) (out b o q hb)
  · obtain ⟨o',z⟩:=I.base.there b o q (noex b)
    exact ⟨o',PySem.W.hideAll_get _ z (out b o q hb)⟩
  · obtain ⟨sl,z⟩:=I.base.slot b o q (I.ok.frf b hb) hb (noex b)
    obtain ⟨_,o',ho',hnf⟩:=I.ok.funs.mem hb
    have ho2:s.heap.get? b=some o':=ho'
    rw [q] at ho2
    cases ho2
    obtain ⟨sl',z'⟩:=k4 b _ (hk b _ (nse b o q) z) hnf
    exact ⟨sl',z'⟩
theorem Qa:Uk (CXD P w) (cxD P w K mg base N qual scope f cd A outer s H E) E:=by
  intro pins σ H1 s1 e s' I h
  obtain ⟨a,cls,a0,dv,H',B,rfl,F,dd,hE⟩:=h
  show wpAny (model P w) _ (leaving _ (.ref a)) _ _ _
  have noex:∀ b:Addr,b∉(cxD P w K mg base N qual scope f cd A outer s H E).ex:=fun b z=>absurd (show b∈([]:List Addr) from z) (by simp)
  refine leave2_dict I.ok.frames rfl F.fl dd fun h2 x1 d2 x2=>?_
  refine ⟨a,cls,a0,dv,H',B,rfl,⟨F.os.trans I.os,F.bare,x1,F.hokB,fun b o q n hb=>?_,fun b o q hb=>?_,fun b o q hb=>?_,fun b o q n=>?_,fun b xs q=>F.tups b xs (I.base.tups b xs q),fun b o u q=>F.frzs b o u (I.base.frzs b o u q),fun b ps q=>?_⟩,d2,hE⟩
  · exact F.keep b o (I.base.keep b o q n hb (noex b)) (I.base.free b o q n (noex b)) (stk_neD I q hb)
  · obtain ⟨o',z⟩:=I.base.there b o q (noex b)
    exact F.there b o' z (stk_neD I q hb)
  · obtain ⟨sl,z⟩:=I.base.slot b o q (I.ok.frf b hb) hb (noex b)
    obtain ⟨_,o',ho',hnf⟩:=I.ok.funs.mem hb
    have ho2:s.heap.get? b=some o':=ho'
    rw [q] at ho2
    cases ho2
    obtain ⟨sl',z'⟩:=F.slot b _ z (frs_subD hb)
    obtain ⟨sl2,z2⟩:=x2 b _ z' hnf
    exact ⟨sl2,z2⟩
  · obtain ⟨o',z⟩:=I.base.there b o q (noex b)
    exact F.free b o' z (I.base.free b o q n (noex b))
  · obtain ⟨m1,e1⟩:=I.base.tbls b ps q
    obtain ⟨m2,e2⟩:=F.tbls b _ e1
    exact ⟨m1 ++ m2,by rw [e2,Array.append_assoc]⟩
end
section
variable {X:Cx}
def RaiseD (X:Cx) (E:XK):Prop:=∀ (pins:List (Addr × Obj)) (σ:St) (H0 H1:Hp) (s0 s1:Shared) (hx:Heap) (e C t:Addr) (dv:Option Addr),Inv X pins σ H0 s0->s0.heap.get? e=none->Inv X pins σ H1 s1->(∀ b o,b≠e->s1.heap.get? b=some o->hx.get? b=some o) ->
  (∀ o,s1.heap.get? e=some o->∃ vs,o.data=.fields vs)->H1 e=none->hx.get? e=some { cls:=.ref C,dict:=dv,data:=.fields #[.ref t,.none,.none,.none,.bool false,.none] }->E (.ref C) dv H1->X.xe (.ref e) { s1 with heap:=hx }
theorem ps_raiseD {x:Str} {C:Addr} {e:Expr} {t:TA} {E:XK} {np cpos pos:Pos} (hcalm:X.calm=true) (RO:RaiseD X E) (hg:Gl X x) (hm:X.mg x=some (.ref C)) (q:PySem.W.excIn X.K C Ua "ValueError.__new__" = true) (ha:PA X [e] t)
    (hdb:(x == ("__debug__" : Str))=false:=by decide) (he:starEach [e] X.env=[(false,eval e X.env)]:=by rfl):PS X (.Raise (some (.Call (.Name x np) [e] [] cpos)) none pos) (tRaise C E t):=by
  intro pins s σ H D I h
  obtain ⟨tl,N,nm,qn,bs,hdct,sn,sub,ab,col,dd,k0,k1,k2,k3,k5,mN,hC,hN,hni,T⟩:=(own_obj I.mod.kin hm q).obj
  refine wpAny_Raise_call_subU (C:=C) (nm:=nm) (q:=qn) (N:=N) (bs:=bs) (bm:=tl) (hdct:=hdct) (sn:=sn) (sub:=sub) (ab:=ab) (col:=col) (dd:=dd) (k0:=k0) (k1:=k1) (k2:=k2) (k3:=k3) (k5:=k5)
    PySem.F.excBase_ValueError (by decide +kernel) PySem.F.excBase_ValueError (mN:=mN) (T.hasType (by decide +kernel)) (I.ok.hd hcalm) (by rw [he]; rfl) hni (ld_glob I hg hm ⟨rfl,?_⟩ hdb)
  have ha':=ha cpos pins s σ H _ I h
  rw [he] at ha' ⊢
  refine Calls.evalArgs_plain (wpAny_mono ha' (fun us s1 ⟨vs,H1,I1,r,z,hE⟩=>?_) fun _ _ y=>y)
  refine ⟨rfl,by rw [<- r.length]; exact z,I1.bk _ _ hC,hN.keeps I1.bk,T.keeps I1.bk,fun h' e' hx=>?_⟩
  obtain ⟨t,oe,_,_⟩:=hx.there
  exact RO pins σ H1 H1 s1 s1 h' e' C t none I1 hx.new I1 (fun b o _ k=>hx.keeps b o k) (fun o k=>by rw [hx.new] at k; cases k) (I1.hok.none_of hx.new) oe hE
def spInit (C:Addr) (name:Str):Sp:=fun vs H Q _=>∃ (x:Addr) (v:V),vs=[.ref x,v]/\H x=some (.ext (XO x C none))/\∀ dx,H dx=none->dx≠x->Q .non (upd (upd H x (.ext (XO x C (some dx)))) dx (.xd [(name,v)]))
def tRaiseI (C:Addr) (name:Str) (E:XK) (t:TA):TS:=fun _ σ H=>t σ H fun vs H1=>∃ v,vs=[v]/\∀ dx,H1 dx=none->E (.ref C) (some dx) (upd H1 dx (.xd [(name,v)]))
theorem ps_raiseI {x name:Str} {C W f:Addr} {fd:FuncData} {k:Nat} {ps:List Str} {e:Expr} {t:TA} {E:XK} {np cpos pos:Pos} (hcalm:X.calm=true) (RO:RaiseD X E) (M:XMade X.K C W f) (G:FnOk X.prog X.w X.K X.mg X.base CX0 k f fd ps (spInit C name)) (hr:Room (k + 1) X.A)
    (hb:Binds X.K fd ps []) (hg:Gl X x) (hm:X.mg x=some (.ref C)) (ha:PA X [e] t)
    (hdb:(x == ("__debug__" : Str))=false:=by decide) (he:starEach [e] X.env=[(false,eval e X.env)]:=by rfl):PS X (.Raise (some (.Call (.Name x np) [e] [] cpos)) none pos) (tRaiseI C name E t):=by
  intro pins s σ H D I h
  obtain ⟨nm,q,N,bs,sn,sub,ab,col,dd,k0,k1,k2,k3,k5,lk⟩:=M.lk
  obtain ⟨of,lf,cf⟩:=M.ff
  have oC:∀ {H':Hp} {s':Shared},Inv X pins σ H' s'->s'.heap.get? C=some (excClassObj nm q C N bs (.ref W :: Ua) true sn sub ab col dd k0 k1 k2 k3 k5 "ValueError.__new__"):=fun J=>J.kIn _ _ lk
  rw [arm_exec_Raise]
  refine wpAny_bind (wpAny_standAt (raiseStmt_own (kC:=C) (cn:=nm) (cq:=q) (kN:=N) (bas:=bs) (tl:=.ref W :: Ua) (hd:=true) (sns:=sn) (subs:=sub) (abb:=ab) (coll:=col) (dic:=dd) (j0:=k0) (j1:=k1) (j2:=k2) (j3:=k3) (j5:=k5) (newI := "ValueError.__new__") (by simp) (I.ok.hd hcalm) ?_))
  refine wpAny_bind (wpAny_mono (wpAny_Call_Name_kw (ld_glob I hg hm (PySem.W.callWith_K (h₀:=X.base) (Q:=fun v s1=>∃ e t dv,v=.ref e/\s1.heap.get? C=some (excClassObj nm q C N bs (.ref W :: Ua) true sn sub ab col dd k0 k1 k2 k3 k5 "ValueError.__new__")/\s1.heap.get? e=some { cls:=.ref C,dict:=dv,data:=.fields #[.ref t,.none,.none,.none,.bool false,.none] }/\X.xe (.ref e) s1) I.ok.mod.kin M.kp (thn (ha cpos pins s σ H _ I h) fun us s1 ⟨vs,H1,I1,r,v,ev,hE⟩=>⟨I1.kIn,?_⟩) (by rw [he]; rfl) rfl) hdb)) (fun v s3 z=>wpAny_bind (wpAny_standAt (wpAny_pure z))) fun _ _ z=>z)
  subst ev
  obtain ⟨u,rfl,ru⟩:=r.one
  obtain ⟨hp,gs,dr,tk,sy⟩:=s1
  refine call_initU (rest:=[u]) PySem.F.excBase_ValueError (by decide +kernel) PySem.F.excBase_ValueError (M.tail I1.kIn) (oC I1) I1.kIn M.fi (I1.kIn _ _ lf) cf (fun h' kp oe=>?_) (show 1<=sizeLine by decide)
  obtain ⟨a,ea⟩:∃ a,hp.objs.size + 1=a:=⟨_,rfl⟩
  rw [ea] at oe ⊢
  have la:hp.objs.size<=a:=by rw [<- ea]; exact Nat.le_succ _
  have na:H1 a=none:=I1.hok.fresh la
  have ga:hp.get? a=none:=Heap.get?_none_of_le la
  have I2:Inv X pins σ (upd H1 a (.ext (XO a C none))) ⟨h',gs,dr,tk,sy⟩:=I1.laid (t':=tk) (h':=h') kp la (xo_ok ⟨_,oe⟩)
  have sp:spInit C name [.ref a,v] (upd H1 a (.ext (XO a C none))) (fun v' H'=>v'=.non/\∃ dx,H1 dx=none/\dx≠a/\H'=upd (upd (upd H1 a (.ext (XO a C none))) a (.ext (XO a C (some dx)))) dx (.xd [(name,v)])) E0:=
    ⟨a,v,rfl,Qs,fun dx hn hne=>⟨rfl,dx,by rwa [Qd hne] at hn,hne,rfl⟩⟩
  have r2:Vals [V.ref a,v] [Value.ref a,u]:=.cons rfl (.cons ru .nil)
  have hl:([Value.ref a,u] ++ []).length=ps.length:=by
    have:=G.len _ _ _ _ sp
    simpa using this
  refine wpAny_call (codeAny_mono (G.run _ X.stack _ _ ⟨[Value.ref a,u],[]⟩ [Value.ref a,u] _ _ E0 (hr.make C [u] []) (I2.env0.make C [u] []) (hb _ [Value.ref a,u] I2.kIn hl) r2 sp) fun r s' z=>?_)
  cases r with
  | error e=>exact False.elim z
  | ok fl=>
    cases fl with
    | ret u'=>
      obtain ⟨v',H',I3,rv,ev,dx,hn,hne,eH⟩:=I2.after z
      subst ev
      obtain rfl:u'=Value.none:=rv
      have hHa:H' a=some (.ext (XO a C (some dx))):=by rw [eH,Qd (Ne.symm hne),Qs]
      obtain ⟨t2,o2⟩:=(I3.hok a _ hHa).1
      have eD:delH H' a=upd H1 dx (.xd [(name,v)]):=by
        funext b
        by_cases zb:b=a
        · rw [zb,delH_self,Qd (Ne.symm hne),na]
        · rw [delH_ne zb,eH]
          by_cases zd:b=dx
          · rw [zd,Qs,Qs]
          · rw [Qd zd,Qd zd,Qd zb,Qd zb]
      refine ⟨rfl,a,t2,some dx,rfl,oC I3,o2,?_⟩
      have:=RO pins σ H1 (delH H' a) _ s' s'.heap a C t2 (some dx) I1 ga (I3.drop hHa) (fun b o _ k=>k) (fun o k=>by rw [o2] at k; cases k; exact ⟨_,rfl⟩) delH_self o2 (by rw [eD]; exact hE dx hn)
      exact this
    | next=>exact False.elim z
    | brk=>exact False.elim z
    | cont=>exact False.elim z
end
theorem Vn {P:Program} {w:World} {K:PySem.W.Frag} {mg:Str->Option Value} {base:Heap} {N:List Str} {qual:Str} {scope:Scope} {f:Addr} {cd:Value} {A:Around} {outer:List Env} {s:Shared} {H:Hp} {E:XK} :
    RaiseD (cxD P w K mg base N qual scope f cd A outer s H E) E:=fun pins σ H0 H1 s0 s1 hx e C t dv I0 g0 I hk he1 hH oe hE=>by
  refine raiseD I hk he1 ?_ hH oe hE
  cases q:s.heap.get? e with
  | none=>rfl
  | some o=>
    obtain ⟨o',z⟩:=I0.base.there e o q (fun z=>absurd (show e∈([]:List Addr) from z) (by simp))
    rw [g0] at z; cases z
theorem Fun.okD {P:Program} {w:World} {K:PySem.W.Frag} {mg:Str->Option Value} {base:Heap} {x qual:Str} {st:Stmt} {f:Addr} {fd:FuncData} {N ps:List Str} {k:Nat} {sp:Sp} (F:Fun K x qual st f fd) (S:FnScope N ps (Q9 st)) (len:∀ vs H Q E,sp vs H Q E->vs.length=ps.length)
    (hbody:∀ (cdv:Value) (A:Around) (outer:List Env) (s:Shared) (H:Hp) (vs:List V) (Q:VK) (E:XK),Room k (A.deeper (envOfC qual (Q9 st) s.heap.objs.size f cdv))->sp vs H Q E ->
      ∃ t,PSs (cxD P w K mg base N qual (Q9 st) f cdv A outer s H E) (Jz st) t/\t { nx:=fun _ H'=>Q .non H',rt:=Q } (start N vs) H):FnOk P w K mg base (CXD P w) (k + 1) f fd ps sp:=by
  obtain ⟨oc,od,kV,doc,pm,an,cdv,ct,osl,rfl,lk,hcd⟩:=F.ex
  exact fn_of lk hcd S len fun A outer s H vs Q E hr hsp=>hbody cdv A outer s H vs Q E hr hsp
end L2
namespace L2
open PySem PySem.Spec PyProof.Rows PySem.W PySem.Builtin.Getset_descriptor
def IsXD (x C:Addr) (dv:Option Addr) (h:Heap):Prop:=∃ ox vs,h.get? x=some ox/\ox.cls=.ref C/\ox.dict=dv/\ox.data=.fields vs/\vs[2]?=some .none
theorem IsXD.x {x C:Addr} {dv:Option Addr} {h:Heap} (I:IsXD x C dv h):IsX x C h:=let ⟨ox,_,a,b,_⟩:=I; ⟨ox,a,b⟩
theorem extD_ok {P:Program} {w:World} {H:Hp} {h:Heap} {a C:Addr} {dv:Option Addr} (I:IsXD a C dv h):ObjOk P w H h a (.ext (IsXD a C dv)):=
  ⟨I,(let ⟨o,_,e,_⟩:=I; ⟨o,e⟩),fun h1 h2 ⟨o,vs,e,c⟩ k=>⟨o,vs,k o e,c⟩⟩
structure XGet (K:Frag) (C:Addr) (name:Str):Prop where
  xc:XCls K C
  hd:∃ cd,clsIn K C=some cd/\cd.hasDict=true
  no:findIn K (.ref C) name=some none
section
variable {prog:Program} {w:World} {A:Around} {E:Value->Shared->Prop} {h:Heap} {g:Array GenState} {d:Drawn} {t:Nat} {os:OsState} {K:Frag} {x C dx:Addr} {name:Str} {v:Value} {m:Str->Option Value}
end
section
variable {X:Cx}
end
section
variable {X:Cx} {pins:List (Addr × Obj)} {σ:St} {H H':Hp} {s s':Shared} {a C:Addr}
end
end L2
namespace L2
open PySem PySem.Spec PyProof.Rows
section
variable {X:Cx}
end
section
variable {X:Cx}
theorem Jx (K:PySem.W.Frag) (hK:X.K=K:=by rfl):X3 X (.builtin "isinstance") (fun xs H Q=>∃ (a C:Addr) (dv:Option Addr) (c:V) (cv:Value) (b:Bool),xs=[.ref a,c]/\clsV c=some cv/\H a=some (.ext (IsXD a C dv))/\XCls K C/\PySem.W.kitOne K (.ref C) cv=some b/\Q (.bl b) H):=by
  subst hK
  intro pins s σ H xs us Q I r h
  obtain ⟨a,C,dv,c,cv,b,rfl,hc,ha,F,e,q⟩:=h
  obtain ⟨u,w',rfl,r1,r2⟩:=vals2 r
  cases r1
  rw [clsV_rel hc r2]
  exact PySem.W.kia_one (kitx_exc F) I.kIn (I.hok a _ ha).1.x e (fun z=>nomatch z) fun tk=>⟨.bl b,H,I.tok tk,rfl,q⟩
end
end L2
namespace L2
open PySem PySem.Spec PyProof.Rows PySem.W PySem.Builtin.Getset_descriptor
section
variable {X:Cx} {pins:List (Addr × Obj)} {σ:St} {H H':Hp} {s s':Shared} {a C:Addr}
theorem handleR {cn n:Str} {i:Nat} {CC:Addr} {a0:Value} {B:Heap} {dv:Option Addr} {np hpos:Pos} {b₀:Stmt} {suite:List Stmt} {ts:TS} {D:Ends} (hN:X.N.Nodup) (hi:X.N[i]?=some n) (hk:X.env.scope.names.lookup n=some .local) (hex:∀ b,b∉X.ex)
    (hst:X.stack=X.env :: X.outer) (hfr:X.env.frame=some X.env.locals) (hg:Gl X cn) (hm:X.mg cn=some (.ref CC)) (hx:exmOne X.K (.ref C) (.ref CC)=some true) (I:Inv X pins σ H s) (F:Fly X.prog X.w X.stack H H' s s' a (.ref C) a0 B) (dd:∃ o',s'.heap.get? a=some o'/\o'.dict=dv/\fld2 o'=some .none)
    (hsuite:PSs (suiteCx X a) (b₀ :: suite) ts) (q:ts { nx:=fun σ2 H2=>D.nx (σ2.set i none) H2,rt:=D.rt } (σ.set i (some (.ref a))) (upd H' a (.ext (IsXD a C dv)))) (hdb:(cn == ("__debug__" : Str))=false:=by decide) :
    wpAny (model X.prog X.w) X.A (noteFrame (.ref a) X.env) (fun _ s₂=>wpAny (model X.prog X.w) X.A (setFlight (.ref a) none) (fun _ s₃=>wpAny (model X.prog X.w) X.A (handleBy (.ref a) X.env [.ExceptHandler (some (.Name cn np)) (some n) (b₀ :: suite) hpos]) (SP X pins D) X.xe s₃) X.xe s₂) X.xe s':=by
  have hcls:(X.env.scope.kind == .class || (X.env.scope.kind == .module && X.env.locals != X.env.globals))=false:=by rw [I.ok.kind]; rfl
  have fl0:=F.fl
  rw [hst] at fl0
  refine look_dict (by rw [<- hst]; exact I.ok.frames) hfr fl0 dd fun h4 held4 d4 sm4=>?_
  refine flight_dict (s:={ s' with heap:=h4 }) held4.1 held4.2.1 held4.2.2.1 held4.2.2.2 d4 fun h5 fl5 d5 sm5=>?_
  obtain ⟨n1,n2⟩:=F.new
  have I5:Inv X pins σ H' { s' with heap:=h5 }:=F.inv I fl5.1 (sm4.trans sm5)
  obtain ⟨ob,hob,hobc⟩:=fl5.there
  have LT:Looks (model X.prog X.w) h5 (typeOf (.ref a)) (.ref C):=IsX.type ⟨ob,hob,hobc⟩
  refine wpAny_handleBy_cons (codeAny_handlers_test (ld_glob (X:=suiteCx X a) (I5.suite a) hg hm ?_ hdb)) (by intro z; cases z)
  refine (exm_one (h:=h5) I5.kIn LT hx).at ?_
  refine codeAny_handlers_suite_as ?_
  refine flight_dict (s:={ s' with heap:=h5 }) fl5.1 fl5.2.1 fl5.2.2.1 fl5.2.2.2.at d5 fun h6 fl6 d6 sm6=>?_
  have I6:Inv X pins σ H' { s' with heap:=h6 }:=F.inv I fl6.1 ((sm4.trans sm5).trans sm6)
  obtain ⟨ob6,vs6,hob6,hobc6,hod6,_⟩:=fl6.first
  obtain ⟨o',ho',hd',hf'⟩:=d6
  rw [hob6] at ho'
  cases ho'
  have I7:Inv X pins σ (upd H' a (.ext (IsXD a C dv))) { s' with heap:=h6 }:=Inv.track I hex n1 I6 n2 (extD_ok ⟨ob6,vs6,hob6,hobc6,hd',hod6,by unfold fld2 at hf'; rw [hod6] at hf'; exact hf'⟩)
  refine store_ok (X:=suiteCx X a) (v:=.ref a) (I7.suite a) hN hi (.inl hk) rfl (fun s8 I8=>?_) (.inr hk)
  refine wpAny_mono (hsuite pins s8 _ _ _ I8 q) (fun f s9 h9=>?_) fun _ _ z=>z.elim
  cases f with
  | next=>
    obtain ⟨σ9,H9,I9,q9⟩:=h9
    have I9':=I9.unsuite I.ok
    obtain ⟨m,hn,hl⟩:=id I9'.loc
    exact wpAny_nameGoes_keeps hk hn hcls fun h10 v hn' hs'=>⟨_,_,I9'.forget hN hi hl hn' hs',q9⟩
  | brk=>obtain ⟨_,_,_,z⟩:=h9; exact z.elim
  | cont=>obtain ⟨_,_,_,z⟩:=h9; exact z.elim
  | ret u=>
    obtain ⟨v9,σ9,H9,I9,r9,q9⟩:=h9
    have I9':=I9.unsuite I.ok
    obtain ⟨m,hn,hl⟩:=id I9'.loc
    exact wpAny_nameGoes_keeps hk hn hcls fun h10 v hn' hs'=>⟨v9,_,_,I9'.forget hN hi hl hn' hs',r9,q9⟩
end
end L2
namespace L2
open PySem PySem.Spec PyProof.Rows
section
variable {X:Cx}
end
end L2
namespace L2
open PySem PySem.Spec PyProof.Rows PySem.W PySem.Builtin.Getset_descriptor
section
variable {X:Cx} {pins:List (Addr × Obj)} {σ:St} {H H':Hp} {s s':Shared} {a C:Addr}
end
section
variable {X:Cx}
end
end L2
namespace L2
open PySem PySem.Spec PyProof.Rows PySem.SeqAt
section
variable {prog:Program} {w:World} {A:Around} {E:Value->Shared->Prop} {s:Shared}
end
section
variable {X:Cx}
theorem countB {bs:List Bool} {its:List Value} (r:Vals (bs.map V.bl) its):its.countP (isBoolOf true)=bs.countP id:=by
  induction bs generalizing its with
  | nil=>cases r; rfl
  | cons b bs ih=>
    cases r with
    | cons a r=>
      cases a
      rw [List.countP_cons,List.countP_cons,ih r]
      cases b <;> rfl
theorem eqB {bs:List Bool} {its:List Value} (r:Vals (bs.map V.bl) its):∀ y,y∈its->∀ (A:Around) (s:Shared),EqAt A s y (.bool true) (isBoolOf true y):=by
  induction bs generalizing its with
  | nil=>cases r; intro y hy; exact absurd hy (by simp)
  | cons b bs ih=>
    cases r with
    | cons a r=>
      cases a
      intro y hy A s
      rcases D5.mp hy with e4 | hy
      · rw [e4]; exact EqAt.bool_bool b true
      · exact ih r y hy A s
def rCountB:V->List V->Hp->VK->Prop:=fun x vs H Q=>∃ (l:Addr) (bs:List Bool),x=.ref l/\vs=[.bl true]/\H l=some (.lst (bs.map V.bl))/\Q (.int (bs.countP id:Nat)) H
theorem mt_countB:MtR X "list.count" rCountB:=by
  intro pins s σ H x vs v us Q I rx rv h
  obtain ⟨l,bs,rfl,rfl,hH,q⟩:=h
  cases rx
  obtain ⟨u,rfl,ru⟩:=rv.one
  obtain rfl:u=Value.bool true:=ru
  obtain ⟨z,its,n,r,hl,e⟩:=I.lstM hH
  refine call_meets PySem.F.slot_list_count ⟨_,e,rfl⟩ PySem.F.entry_list_count (PySem.F.args_list_count_2 _ _) (list_countAt l its.toArray n none #[] (.bool true) (isBoolOf true)) ⟨e,fun y hy=>eqB r y (by simpa using hy) _ _,?_⟩
  rw [show its.toArray.toList=its from rfl,countB r]
  exact ⟨.int _,H,I.tok _,⟨_,rfl⟩,q⟩
def rIndexB:V->List V->Hp->VK->Prop:=fun x vs H Q=>∃ (l:Addr) (bs:List Bool) (j:Nat),x=.ref l/\vs=[.bl true]/\H l=some (.lst (bs.map V.bl))/\bs.length<=1000/\bs[j]?=some true/\(∀ m,m < j->bs[m]?=some false)/\Q (.int (j:Nat)) H
theorem mt_indexB:MtR X "list.index" rIndexB:=by
  intro pins s σ H x vs v us Q I rx rv h
  obtain ⟨l,bs,j,rfl,rfl,hH,hz,hj,hno,q⟩:=h
  cases rx
  obtain ⟨u,rfl,ru⟩:=rv.one
  obtain rfl:u=Value.bool true:=ru
  obtain ⟨z,its,n,r,hl,e⟩:=I.lstM hH
  rw [O2] at hl
  have lj:j < bs.length:=(O1.mp hj).1
  have at':∀ m (hm:m < its.toArray.size) b,bs[m]?=some b->its.toArray[m]=Value.bool b:=fun m hm b hb=>by
    obtain ⟨u,hu,ru⟩:=r.get (show (bs.map V.bl)[m]?=some (V.bl b) by rw [E6,hb]; rfl)
    obtain rfl:u=Value.bool b:=ru
    have:its.toArray[m]?=some (Value.bool b):=by simpa using hu
    exact (Array.getElem?_eq_some_iff.mp this).2
  refine call_meets PySem.F.slot_list_index ⟨_,e,rfl⟩ PySem.F.entry_list_index (PySem.F.args_list_index_2 _ _)
    (list_indexAt l its.toArray n none #[] (.bool true) (isBoolOf true) j (by rw [O3,<- hl]; exact lj) (by omega) ?_ ?_) ⟨e,fun y hy=>eqB r y (by simpa using hy) _ _,⟨.int _,H,I.tok _,⟨_,rfl⟩,q⟩⟩
  · rw [at' j _ true hj]; rfl
  · intro m hm hlt
    rw [at' m hm false (hno m hlt)]; rfl
end
end L2
namespace L2
open PySem PySem.Spec PyProof.Rows PySem.SeqAt
section
variable {X:Cx}
def tGGetT (val:Str->V) (te:TE):TE:=fun σ H Q=>te σ H fun y H1=>∃ w,y=.str w/\Q (val w) H1
theorem pe_ggetT {n:Str} {a:Addr} {o:Obj} {es:Array DictEntry} {ep:Nat} {val:Str->V} {e:Expr} {te:TE} {p apos cpos:Pos} (hg:Gl X n) (hm:X.mg n=some (.ref a)) (lk:X.K.lookup a=some o) (ty:o.cls=.type "dict") (ed:o.ExactDict) (od:o.data=.dict es ep) (ks:KeysOf (Zr X.prog X.w) es) (hs:(a == sysModules)=false)
    (hv:∀ w,RelV (val w) ((findBy (Zr X.prog X.w).is es (.inr w)).getD .none)) (he:PE X e te) (hdb:(n == ("__debug__" : Str))=false:=by decide)
    (base:attributeBase (.Name n p) "get" X.env (eval (.Name n p) X.env)=eval (.Name n p) X.env:=by rfl)
    (few:((backTo cpos (starEach [e] X.env)).all (fun x=>!x.1) && (backToKw cpos (keywordEach [] X.env)).all (fun x=>x.1.isSome)
      && decide (([e]:List Expr).length + ([]:List Keyword).length + (if ([]:List Keyword).isEmpty then 0 else 1) < 30))=true:=by rfl)
    (line:(apos.endLine == cpos.line)=true:=by rfl) (trees:backTo cpos (starEach [e] X.env)=[(false,eval e X.env)]:=by rfl) :
    PE X (.Call (.Attribute (.Name n p) "get" apos) [e] [] cpos) (tGGetT val te):=by
  intro pins s σ H Q I h
  have oa:∀ {H':Hp} {s':Shared},Inv X pins σ H' s'->s'.heap.get? a=some o:=fun J=>J.kIn _ _ lk
  refine wpAny_Call_method base few line PySem.F.plainAttrs_dict PySem.F.slot_dict_get PySem.F.type_dict_get (ld_glob I hg hm ?_ hdb)
  refine ⟨⟨o,oa I,ty⟩,fun b z=>⟨o,?_,?_⟩,?_⟩
  · cases z; exact oa I
  · exact ed.2.1
  · rw [trees]
    refine Calls.callWith_builtin rfl (Calls.evalArgs_plain (Calls.spliced_cons (thn (he pins s σ H _ I h) fun iv s2 ⟨y,H2,I2,ry,w,ey,q⟩=>Calls.spliced_nil ?_)))
    subst ey
    obtain ⟨tk,rfl⟩:∃ tk,iv=.str w tk:=ry
    have mo:s2.heap.MapOf (Zr X.prog X.w) a (fun k=>findBy (Zr X.prog X.w).is es k):=⟨o,es,ep,oa I2,ed,od,ks,fun _=>rfl⟩
    refine call_meetsIn PySem.F.slot_dict_get ⟨o,oa I2,ty⟩ PySem.F.entry_dict_get (PySem.F.args_dict_get_2 _ _) (meets_dict_get (Zr X.prog X.w) a (k:=.inr w) (by simp [Zr,keyIs,Value.isStrOf]) hs) ⟨_,mo,⟨val w,H2,I2.tok _,hv w,q⟩⟩
end
end L2
namespace L2
open PySem PySem.Spec PyProof.Rows
section
variable {X:Cx}
def rCatT0 (K:PySem.W.Frag):R2:=fun x y H Q=>∃ a b ys,x=.ref a/\y=.ref b/\SqT K H a []/\SqT K H b ys/\Q (.ref b) H
theorem op_catT0:OpR X (binaryOp .Add) (rCatT0 X.K):=by
  intro pins s σ H x y v u Q I rx ry h
  obtain ⟨a,b,ys,rfl,rfl,ha,hb,q⟩:=h
  cases rx
  cases ry
  obtain ⟨its,r1,p1,_⟩:=I.tuple ha
  obtain ⟨its2,r2,p2,_⟩:=I.tuple hb
  have e1:its=[]:=r1.nil_iff.mpr rfl
  subst e1
  obtain ⟨⟨cls,dd,data,sl⟩,ho,hc,n,hd⟩:=id p1
  obtain ⟨⟨cls2,dd2,data2,sl2⟩,ho2,hc2,n2,hd2⟩:=id p2
  simp only at hc hd hc2 hd2
  subst hc hd hc2 hd2
  exact concat_meets ⟨_,ho,rfl⟩ ⟨_,ho2,rfl⟩ noFill_tuple_add seq_tuple_add PySem.F.slot_tuple_add PySem.F.entry_tuple_add (PySem.F.args_tuple_add_2 _ _)
    (tuple_addW0 a b ([]:List Value).toArray its2.toArray n n2 dd dd2 sl sl2 (by simp)) ⟨ho,ho2,⟨.ref b,H,I,rfl,q⟩⟩
abbrev rCat2 (K:PySem.W.Frag):R2:=fun x y H Q=>rCatT K x y H Q\/rCatT0 K x y H Q
theorem op_cat2:OpR X (binaryOp .Add) (rCat2 X.K):=op_catT.or op_catT0
end
end L2
namespace L2
open PySem PySem.Spec PyProof.Rows
def PTs (X:Cx) (ifs:List Expr) (t:TT):Prop:=
  ∀ (pins:List (Addr × Obj)) (s:Shared) (σ:St) (H:Hp) (Q:Bool->Hp->Prop),Inv X pins σ H s->t σ H Q ->
    wpAny (model X.prog X.w) X.A (forIn ifs true fun c r=>if r=true then do let ok <- isTrue c X.env (eval c X.env); pure (ForInStep.yield ok) else pure (ForInStep.yield r)) (TP X pins σ Q) X.xe s
def tTrue:TT:=fun _ H Q=>Q true H
theorem pts_nil {X:Cx}:PTs X [] tTrue:=fun _ _ _ H _ I h=>wpAny_tests_nil ⟨H,I,h⟩
theorem pts_one {X:Cx} {c:Expr} {t:TT} (h:PT X c t):PTs X [c] t:=fun pins s σ H Q I q=>wpAny_tests_one (h pins s σ H Q I q)
def compBodyT (J:It) (cap:List (Option Nat)) (g:TG) (tt:TT) (te:TE) (σ:St) (H1:Hp) (Q:VK):Prop:=∀ acc,H1 acc=none ->
  ∃ W:Nat->Nat->List V->St->Hp->Prop,(∃ m,W 0 m [] (capOf cap σ) (upd H1 acc (.lst [])))/\∀ i m ys σ' H',W i m ys σ' H'->H' acc=some (.lst ys) /\
    ((J.stop i H'/\Q (.ref acc) H')\/(J.go i H'/\ys.length < sizeLine/\∀ x H2,J.yld i H' x H2->g x σ' H2 fun σ3 H3=>tt σ3 H3 fun b H4=>
      if b=true then te σ3 H4 fun y H5=>H5 acc=some (.lst ys)/\∃ m',m' < m/\W (i + 1) m' (ys ++ [y]) σ3 (upd H5 acc (.lst (ys ++ [y])))
      else ∃ m',m' < m/\W (i + 1) m' ys σ3 H4))
def tCompT (cap:List (Option Nat)) (wi:TI) (g:TG) (tt:TT) (te:TE):TE:=fun σ H Q=>wi σ H fun J H1=>compBodyT J cap g tt te σ H1 Q
section
variable {prog:Program} {w:World} {A:Around} {R:Result->Shared->Prop} {s:Shared}
theorem compLoop_anyT {elt target iter:Expr} {ifs:List Expr} {scope:Scope} {pos:Pos} {it acc:Value} {env:Env} (I:Nat->Shared->Prop)
    (turn:∀ n s,I n s->wpAny (model prog w) A (pyNext it) (fun r s₁=>match r with
      | none=>R (.ok .next) s₁
      | some v=>wpAny (model prog w) A (letOwnedTupleGo target it v) (fun _ s₁'=>wpAny (model prog w) A (assign target env v) (fun _ s₂=>
          wpAny (model prog w) A (forIn ifs true fun c r=>if r=true then do let ok <- isTrue c env (eval c env); pure (ForInStep.yield ok) else pure (ForInStep.yield r)) (fun ok s₃=>
            if ok=true then wpAny (model prog w) A (eval elt env) (fun x s₄=>
              wpAny (model prog w) A (call (.builtin "list.append") [acc,x]) (fun _ s₅=>∃ m,m < n/\I m s₅) (fun _ _=>False) s₄) (fun _ _=>False) s₃
            else ∃ m,m < n/\I m s₃) (fun _ _=>False) s₂)
          (fun _ _=>False) s₁') (fun _ _=>False) s₁) (fun _ _=>False) s)
    (n:Nat) (h:I n s):codeAny (model prog w) A (.compLoop (.ListComp elt [⟨target,iter,ifs,0⟩] scope pos) 0 it acc env) R s:=by
  refine codeAny_loop rfl I (fun n s hI=>?_) n h
  show wpAny _ A ((compTurn (.ListComp elt [⟨target,iter,ifs,0⟩] scope pos) 0 it acc env).onRaise (fun x=>do noteFrame x env; theTreesLotGoes x)) _ _ s
  refine wpAny_noted ?_
  rw [compTurn_list]
  refine wpAny_bind (wpAny_standAt (wpAny_bind (wpAny_mono (turn n s hI) (fun r s₁ h₁=>?_) fun _ _ h'=>h'.elim)))
  cases r with
  | none=>exact wpAny_pure h₁
  | some v=>
    refine wpAny_bind (wpAny_mono h₁ (fun _ s₁' h₁'=>?_) fun _ _ h'=>h'.elim)
    refine wpAny_bind (wpAny_mono h₁' (fun _ s₂ h₂=>wpAny_bind (wpAny_mono h₂ (fun ok s₃ h₃=>?_) fun _ _ h'=>h'.elim)) fun _ _ h'=>h'.elim)
    cases ok with
    | true=>
      rw [if_pos rfl] at h₃
      exact wpAny_bind (wpAny_bind (wpAny_mono h₃ (fun x s₄ h₄=>wpAny_bind (wpAny_mono h₄ (fun _ s₅ h₅=>wpAny_pure (wpAny_pure ⟨rfl,h₅⟩)) fun _ _ h'=>h'.elim)) fun _ _ h'=>h'.elim))
    | false=>
      rw [if_neg O8] at h₃
      exact wpAny_bind (wpAny_pure (wpAny_pure ⟨rfl,h₃⟩))
end
section
variable {X:Cx}
theorem comp_coreT {elt tg iter:Expr} {ifs:List Expr} {tt:TT} {pos:Pos} {N N':List Str} {sc scE:Scope} {cap:List (Option Nat)} {wi:TI} {g:TG} {te:TE} {use:Option (Value->Sem Unit)} {QQ:Value->Shared->Prop} (hcalm:X.calm=true) (hi:PI X tg iter wi)
    (hg:∀ cl C s0 H0 ex,PG (V9 X N' sc cl C s0 H0 ex) tg g) (he:∀ cl C s0 H0 ex,PE (V9 X N' sc cl C s0 H0 ex) elt te) (htt:∀ cl C s0 H0 ex,PTs (V9 X N' sc cl C s0 H0 ex) ifs tt)
    (hN:X.N=N) (hE:X.env.scope=scE) (hc:compOkC N N' sc scE cap=true) (hs:∀ x,foldedSetIterable iter X.env x=pure x)
    {pins:List (Addr × Obj)} {s:Shared} {σ:St} {H:Hp} {Q:VK} (I:Inv X pins σ H s) (h:tCompT cap wi g tt te σ H Q)
    (fin:∀ acc C H' s' m,Inv X pins σ H' s'->s'.heap.Ns C m->FpOk X pins H' C->Q (.ref acc) H'->compPost (model X.prog X.w) X.A X.xe use QQ (.ref acc) C (.ok .next) s') {pos':Pos} :
    wpAny (model X.prog X.w) X.A (comprehension (.ListComp elt [⟨tg,iter,ifs,0⟩] sc pos) sc X.env pos' (newList []) false (eval iter X.env) use) QQ X.xe s:=by
  have ck:=compOkC.of hc
  obtain ⟨cl,hcl,c1,c2⟩:=closure_of (scope:=sc) (env:=X.env) fun x hx hf=>I.ok.has x.1 (by
    have:=ck.fre x hx hf
    rw [<- hE] at this
    exact this)
  refine wpAny_comprehension_free (use:=use) rfl hs hcl ck.kind ck.loc (thn (hi pins s σ H _ I h) fun v s1 h1=>thn h1 fun itv s2 h2=>?_)
  obtain ⟨it,fp,tn,J,H2,e,I2,T,st2,f2,hw⟩:=h2
  subst e
  have fsz:∀ b∈fp,b < s2.heap.objs.size:=fun b hb=>by
    obtain ⟨o,e,_⟩:=T.obj _ _ st2 b hb
    exact O5 e
  obtain ⟨W,⟨m0,w0⟩,turn⟩:=hw s2.heap.objs.size I2.fresh
  refine wpAny_newObj_type (wpAny_newEnvC ?_)
  dsimp only
  have I3:Inv X pins σ (upd H2 s2.heap.objs.size (.lst [])) { s2 with heap:=s2.heap.push { cls:=.type "list",data:=.seq ([]:List Value).toArray } }:=
    I2.lnew (its:=[]) (ys:=[]) (t':=s2.toks) .nil (Nat.zero_le _)
  generalize hs3:({ s2 with heap:=s2.heap.push { cls:=.type "list",data:=.seq ([]:List Value).toArray } }:Shared)=s3 at I3
  have hh3:s3.heap=s2.heap.push { cls:=.type "list",data:=.seq ([]:List Value).toArray }:=by rw [<- hs3]
  have hsz:s3.heap.objs.size=s2.heap.objs.size + 1:=by rw [hh3,E7]
  have f3:∀ b∈fp,FpOk X pins (upd H2 s2.heap.objs.size (.lst [])) b:=fun b hb=>by
    obtain ⟨g0,g1⟩:=f2 b hb
    exact ⟨by rw [Qd (E5 (fsz b hb))]; exact g0,g1⟩
  have k3:∀ b o,s2.heap.get? b=some o->s3.heap.get? b=some o:=fun b o e=>by rw [hh3]; exact O0 _ e
  obtain ⟨cl',hcl'⟩:∃ cl',cellsFrom (s3.heap.objs.size + 1) sc.names cl=cl':=⟨_,rfl⟩
  obtain ⟨h₁,hh₁⟩:∃ h₁,pushCells (s3.heap.push { cls:=.type "dict",data:=.dict #[] }) sc.names=h₁:=⟨_,rfl⟩
  have k1:∀ b o,s3.heap.get? b=some o->h₁.get? b=some o:=fun b o e=>by rw [<- hh₁]; exact pushCells_keeps _ _ b o (O0 _ e)
  have c1':∀ x c,cl'.lookup x=some c->cl.lookup x=some c\/s3.heap.objs.size + 1<=c:=fun x c e=>by
    rw [<- hcl'] at e
    have:=U1 (sc.names) (s3.heap.push { cls:=.type "dict",data:=.dict #[] }) cl x c (by rw [E7]; exact e)
    rcases this with z | ⟨_,z,_⟩
    · exact .inl z
    · rw [E7] at z; exact .inr z
  have I4:Inv (V9 X N' sc cl' s3.heap.objs.size s3 (upd H2 s2.heap.objs.size (.lst [])) fp) [] (capOf cap σ) (upd H2 s2.heap.objs.size (.lst [])) { s3 with heap:=h₁ }:=by
    rw [<- hcl',<- hh₁]
    exact blk_invC I3 hN hE ck c1 c2 f3 (fun b hb=>D0 (fsz b hb) (by rw [hsz]; exact Nat.le_succ _))
  have st4:tn 0 h₁:=T.keep _ _ _ st2 fun b hb o e=>k1 b o (k3 b o e)
  generalize hX':V9 X N' sc cl' s3.heap.objs.size s3 (upd H2 s2.heap.objs.size (.lst [])) fp=X' at I4
  have hxe:X'.xe=fun _ _=>False:=by rw [<- hX']; rfl
  have hprog:X'.prog=X.prog:=by rw [<- hX']; rfl
  have hww:X'.w=X.w:=by rw [<- hX']; rfl
  have hKK:X'.K=X.K:=by rw [<- hX']; rfl
  have hAA:X'.A=X.A:=by rw [<- hX']; rfl
  have hcc:X'.calm=true:=by rw [<- hX']; exact hcalm
  have henv:X'.env=compEnvC sc cl' s3.heap.objs.size X.env:=by rw [<- hX']; rfl
  have hloc:X'.env.locals=s3.heap.objs.size:=by rw [henv]; rfl
  have hg':PG X' tg g:=by rw [<- hX']; exact hg _ _ _ _ _
  have he':PE X' elt te:=by rw [<- hX']; exact he _ _ _ _ _
  have htt':PTs X' ifs tt:=by rw [<- hX']; exact htt _ _ _ _ _
  have stat:∀ {H':Hp},(∀ b∈fp,H' b=none)->∀ b∈fp,FpOk X' [] H' b:=fun {H'} hn b hb=>by
    obtain ⟨_,g1,g2,g3,g4,g5⟩:=f3 b hb
    refine ⟨hn b hb,by rw [hloc,hsz]; exact E5 (Nat.lt_succ_of_lt (fsz b hb)),?_,?_,?_,fun p hp=>?_⟩
    · rw [<- hX']
      intro z
      rcases D5.mp (I3.stkSub b z) with e | z
      · exact g1 e
      · exact g2 z
    · left
      rw [<- hX']
      exact hb
    · intro x c e
      rw [henv] at e
      rcases c1' x c e with z | z
      · exact g4 x c (c1 x c z)
      · exact fun q=>absurd (D0 (fsz b hb) (E3 (E3 (Nat.le_succ _) (hsz ▸ Nat.le_succ _)) (q ▸ z))) (Nat.lt_irrefl _)
    · rw [<- hX'] at hp
      cases hp
  have fin':∀ {σ':St} {H':Hp} {s':Shared},Inv X' [] σ' H' s'->Q (.ref s2.heap.objs.size) H'->compPost (model X.prog X.w) X.A X.xe use QQ (.ref s2.heap.objs.size) s3.heap.objs.size (.ok .next) s':=fun {σ' H' s'} J q=>by
    obtain ⟨mm,hmm,_⟩:=J.loc
    rw [hloc] at hmm
    have hfree:H' s3.heap.objs.size=none:=by have:=J.free; rw [hloc] at this; exact this
    have hok:=J.hok
    rw [hprog,hww] at hok
    have u1:Un (frs X.stack) fp (upd H2 s2.heap.objs.size (.lst [])) H' s3.heap s'.heap:=by
      have:=J.base
      rw [<- hX'] at this
      exact this
    have hos:s'.os=s3.os:=by have:=J.os; rw [<- hX'] at this; exact this
    refine fin _ _ H' s' mm (I3.call' (s':=s') hos u1 hok J.bare fun b hb=>?_) hmm (I3.fpOk (O7 _) hfree) q
    obtain ⟨_,g1,g2,g3,g4,g5⟩:=f3 b hb
    exact ⟨g3,g1,g4,g5⟩
  have loop:codeAny (model X.prog X.w) X.A (.compLoop (.ListComp elt [⟨tg,iter,ifs,0⟩] sc pos) 0 (.ref it) (.ref s2.heap.objs.size) X'.env)
      (compPost (model X.prog X.w) X.A X.xe use QQ (.ref s2.heap.objs.size) s3.heap.objs.size) { s3 with heap:=h₁ }:=by
    refine compLoop_anyT (fun n s'=>∃ i ys σ' H',Inv X' [] σ' H' s'/\tn i s'.heap/\(∀ b∈fp,H' b=none)/\W i n ys σ' H') ?_ m0 ⟨0,[],_,_,I4,st4,fun b hb=>(f3 b hb).1,w0⟩
    rintro n s5 ⟨i,ys,σ5,H5,I5,st5,fr5,w5⟩
    obtain ⟨hacc,q⟩:=turn i n ys σ5 H5 w5
    rcases q with ⟨stop,q⟩ | ⟨go,hlen,step⟩
    · refine thn (hAA ▸ T.done X' hprog hww hKK hcc i [] s5 σ5 H5 _ I5 (stat fr5) st5 stop) fun r s6 ⟨hr,I6⟩=>?_
      subst hr
      exact fin' I6 q
    · refine thn (hAA ▸ T.item X' hprog hww hKK hcc i [] s5 σ5 H5 _ I5 (stat fr5) st5 go) fun r s6 ⟨u,hr,h6⟩=>?_
      subst hr
      refine thn h6 fun _ s7 ⟨x,H7,I7,r7,y7,st7,fr7⟩=>?_
      have I7':=I7.pinned (stat fr7) (T.obj _ _ st7)
      have g7:=hg' _ s7 σ5 H7 x u _ I7' r7 (step x H7 y7)
      rw [hprog,hww,hAA,hxe] at g7
      refine thn g7 fun _ s8 ⟨σ8,H8,I8,q8⟩=>?_
      have t8:=htt' _ s8 σ8 H8 _ I8 q8
      rw [hprog,hww,hAA,hxe] at t8
      refine thn t8 fun okb s8t ⟨H8t,I8t,q8t⟩=>?_
      cases okb with
      | false=>
        rw [if_neg O8] at q8t ⊢
        obtain ⟨m',hm',w9⟩:=q8t
        refine ⟨m',hm',i + 1,_,σ8,_,I8t.unpinned,T.keep _ _ _ st7 fun b hb o eo=>(I8t.pin (b,o) (D8 _ (D8 _ (Ug hb eo)))).1,fun b hb=>?_,w9⟩
        obtain ⟨o,eo,d⟩:=T.obj _ _ st7 b hb
        exact (I8t.pin (b,o) (D8 _ (D8 _ (Ug hb eo)))).2.1
      | true=>
      rw [if_pos rfl] at q8t ⊢
      have g8:=he' _ s8t σ8 H8t _ I8t q8t
      rw [hprog,hww,hAA,hxe] at g8
      refine thn g8 fun y s9 ⟨yv,H9,I9,r9,a9,m',hm',w9⟩=>?_
      obtain ⟨z,its,nn,rr,hl,e⟩:=I9.lstM a9
      refine call_meets F.slot_list_append ⟨_,e,rfl⟩ F.entry_list_append (F.args_list_append_2 _ _) (PySem.list_append _ its.toArray nn y (by rw [O3]; omega)) ⟨e,?_⟩
      have I10:Inv X' ([] ++ pinsAt fp s7.heap) σ8 (upd H9 s2.heap.objs.size (.lst (ys ++ [yv]))) { s9 with heap:=s9.heap.update s2.heap.objs.size (Obj.mapSeq fun a=>a.push y) }:=
        I9.lset (t':=s9.toks) (its':=its ++ [y]) a9 e (by simp) (rr.append (.cons r9 .nil)) (by rw [D9,List.length_singleton]; omega)
      refine ⟨m',hm',i + 1,_,σ8,_,I10.unpinned,T.keep _ _ _ st7 fun b hb o eo=>(I10.pin (b,o) (D8 _ (D8 _ (Ug hb eo)))).1,fun b hb=>?_,w9⟩
      obtain ⟨o,eo,d⟩:=T.obj _ _ st7 b hb
      exact (I10.pin (b,o) (D8 _ (D8 _ (Ug hb eo)))).2.1
  rw [henv] at loop
  have goal:=codeAny_compStart_list (rest:=[]) (ifs:=ifs) loop (T.self X.A 0 _ _ _ st4 loop)
  subst hs3
  rw [<- hcl',<- hh₁] at goal
  exact goal
theorem pe_compT {elt tg iter:Expr} {ifs:List Expr} {tt:TT} {pos:Pos} {N N':List Str} {sc scE:Scope} {cap:List (Option Nat)} {wi:TI} {g:TG} {te:TE} (hcalm:X.calm=true) (hi:PI X tg iter wi)
    (hg:∀ cl C s0 H0 ex,PG (V9 X N' sc cl C s0 H0 ex) tg g) (he:∀ cl C s0 H0 ex,PE (V9 X N' sc cl C s0 H0 ex) elt te) (htt:∀ cl C s0 H0 ex,PTs (V9 X N' sc cl C s0 H0 ex) ifs tt)
    (hN:X.N=N:=by rfl) (hE:X.env.scope=scE:=by rfl) (hc:compOkC N N' sc scE cap=true:=by decide +kernel) (hs:∀ x,foldedSetIterable iter X.env x=pure x:=by intro _; rfl) :
    PE X (.ListComp elt [⟨tg,iter,ifs,0⟩] sc pos) (tCompT cap wi g tt te):=by
  intro pins s σ H Q I h
  rw [eval_ListComp]
  refine comp_coreT (use:=none) hcalm hi hg he htt hN hE hc hs I h fun acc C H' s' m I' hm hf q=>⟨m,hm,fun h' hs'=>?_⟩
  obtain ⟨f0,f1,f2,f3,f4,f5⟩:=hf
  exact ⟨.ref acc,H',I'.turned (t':=s'.toks) (fun b o hb e=>(hs'.2 b hb).trans e) f0 f1 f3 f4 f5,rfl,q⟩
theorem ps_compT {ifs:List Expr} {tt:TT} {i:Nat} {x:Str} {px spos:Pos} {elt tg iter:Expr} {pos:Pos} {N N':List Str} {sc scE:Scope} {cap:List (Option Nat)} {wi:TI} {g:TG} {te:TE} (hnd:X.N.Nodup) (hix:X.N[i]?=some x) (hx:Loc X.env.scope x) (hcalm:X.calm=true) (hi:PI X tg iter wi)
    (hg:∀ cl C s0 H0 ex,PG (V9 X N' sc cl C s0 H0 ex) tg g) (he:∀ cl C s0 H0 ex,PE (V9 X N' sc cl C s0 H0 ex) elt te) (htt:∀ cl C s0 H0 ex,PTs (V9 X N' sc cl C s0 H0 ex) ifs tt)
    (hsw:swapsWith (.ListComp elt [⟨tg,iter,ifs,0⟩] sc pos) (some (.Name x px)) spos.line X.env=pure true:=by rfl)
    (hN:X.N=N:=by rfl) (hE:X.env.scope=scE:=by rfl) (hc:compOkC N N' sc scE cap=true:=by decide +kernel) (hs:∀ x,foldedSetIterable iter X.env x=pure x:=by intro _; rfl)
    (hf:X.fn x=true\/X.env.scope.names.lookup x=some .local:=by first | exact .inl rfl | exact .inr rfl | assumption) :
    PS X (.Assign [.Name x px] (.ListComp elt [⟨tg,iter,ifs,0⟩] sc pos) spos) (tAsg (tCompT cap wi g tt te) (gName i)):=by
  intro pins s σ H D I h
  rw [exec_Assign_Name_used _ _ _ _ hsw]
  refine wpAny_bind (wpAny_standAt (wpAny_bind ?_))
  show wpAny _ _ (do let _ <- comprehension (.ListComp elt [⟨tg,iter,ifs,0⟩] sc pos) sc X.env _ (newList []) false (eval iter X.env) (some (assign (.Name x px) X.env))) _ _ s
  refine wpAny_bind (wpAny_mono (comp_coreT (use:=some (assign (.Name x px) X.env)) (QQ:=fun _ s'=>SP X pins D .next s') hcalm hi hg he htt hN hE hc hs I h ?_) (fun _ s' hq=>wpAny_pure (wpAny_pure hq)) fun _ _ e=>e)
  intro acc C H' s' m I' hm hfp q
  obtain ⟨f0,f1,f2,f3,f4,f5⟩:=hfp
  show wpAny _ _ (assign (.Name x px) X.env (.ref acc)) _ _ _
  refine wpAny_assign_Name (store_ok2 I' hnd hix hx (v:=.ref acc) rfl (fun s2 I2 ⟨a,sb,ha⟩=>⟨m,?_,fun h' hs'=>?_⟩) hf)
  · refine hm.sameBut sb fun z=>?_
    rcases ha with ha | ha
    · exact f1 (z.trans ha)
    · exact f4 x a ha z.symm
  · exact ⟨_,H',I2.turned (t':=s2.toks) (fun b o hb e=>(hs'.2 b hb).trans e) f0 f1 f3 f4 f5,q⟩
end
end L2
namespace L2
open PySem PySem.Spec PyProof.Rows
section
variable {X:Cx} {e e3:Expr} {te t3:TE} {pos p2:Pos}
end
end L2
namespace L2
open PySem PySem.Spec PyProof.Rows
section
variable {X:Cx} {a:Expr} {ta:TA} {p p' pos pos':Pos}
end
end L2
namespace L2
open PySem PySem.Spec PyProof.Rows
section
variable {X:Cx}
end
end L2
namespace L2
open PySem PySem.Spec PyProof.Rows
section
variable {κ:Type} [DecidableEq κ]
end
section
variable {P:Program} {w:World} {H:Hp} {h:Heap} {a:Addr}
end
section
variable {X:Cx} {pins:List (Addr × Obj)} {σ:St} {H:Hp} {s:Shared} {a:Addr} {y v:V} {u r:Value} {o:Option V} {A:Around} {E:Value->Shared->Prop}
end
section
variable {X:Cx} {pins:List (Addr × Obj)} {σ:St} {H:Hp} {s:Shared} {a:Addr} {kvs:List (Key × V)} {k:Key} {u:Value} {A:Around} {E:Value->Shared->Prop}
end
section
variable {X:Cx} {o i e value:Expr} {pos pos' tpos:Pos} {td ty tv:TE}
end
section
variable {X:Cx} {pos:Pos}
end
structure M1 (X:Cx) (o:Expr) (m:Str) (apos:Pos) (e:Expr) (cpos:Pos):Prop where
  base:attributeBase o m X.env (eval o X.env)=eval o X.env
  few:((backTo cpos (starEach [e] X.env)).all (fun x=>!x.1) && (backToKw cpos (keywordEach [] X.env)).all (fun x=>x.1.isSome)
    && decide (([e]:List Expr).length + ([]:List Keyword).length + (if ([]:List Keyword).isEmpty then 0 else 1) < 30))=true
  line:(apos.endLine == cpos.line)=true
  trees:backTo cpos (starEach [e] X.env)=[(false,eval e X.env)]
structure M2 (X:Cx) (o:Expr) (m:Str) (apos:Pos) (e f:Expr) (cpos:Pos):Prop where
  base:attributeBase o m X.env (eval o X.env)=eval o X.env
  few:((backTo cpos (starEach [e,f] X.env)).all (fun x=>!x.1) && (backToKw cpos (keywordEach [] X.env)).all (fun x=>x.1.isSome)
    && decide (([e,f]:List Expr).length + ([]:List Keyword).length + (if ([]:List Keyword).isEmpty then 0 else 1) < 30))=true
  line:(apos.endLine == cpos.line)=true
  trees:backTo cpos (starEach [e,f] X.env)=[(false,eval e X.env),(false,eval f X.env)]
section
variable {X:Cx} {pins:List (Addr × Obj)} {σ:St} {H:Hp} {s:Shared} {a:Addr} {y d:V} {u r:Value} {o:Option V} {A:Around} {E:Value->Shared->Prop}
end
section
variable {X:Cx} {o e f:Expr} {apos cpos:Pos} {td ty tx:TE}
end
section
variable {X:Cx} {pins:List (Addr × Obj)} {σ:St} {H:Hp} {s:Shared} {a:Addr} {kvs:List (Key × V)} {A:Around} {E:Value->Shared->Prop}
end
section
variable {X:Cx} {pins:List (Addr × Obj)} {σ:St} {H:Hp} {s:Shared} {a:Addr} {y:V} {u:Value} {A:Around} {E:Value->Shared->Prop}
end
section
variable {X:Cx}
end
end L2
namespace L2
open PySem PySem.Spec PyProof.Rows
open AutoSeq1 (wpAny_loadPart')
section
variable {prog:Program} {w:World} {A:Around} {E:Value->Shared->Prop} {s:Shared}
end
section
variable {prog:Program} {w:World} {A:Around} {E:Value->Shared->Prop} {s:Shared}
end
section
variable {X:Cx} {a:Expr} {ta:TA} {p p' pos pos':Pos}
end
end L2
namespace L2
open PySem PySem.Spec PyProof.Rows
section
variable {prog:Program} {w:World} {A:Around} {E:Value->Shared->Prop} {s:Shared}
end
section
variable {X:Cx} {e e3:Expr} {te t3:TE} {pos p2:Pos}
end
end L2
namespace L2
open PySem PySem.Spec PyProof.Rows
section
variable {prog:Program} {w:World} {K:Type} [DecidableEq K] {knd:KeyKind prog w K} {A:Around} {R:Result->Shared->Prop}
end
end L2
namespace L2
open PySem PySem.Spec PyProof.Rows
section
variable {X:Cx} {pins:List (Addr × Obj)} {σ:St} {H:Hp} {s:Shared} {a:Addr} {tg:Expr}
end
end L2
namespace L2
open PySem PySem.Spec PyProof.Rows PySem.W
section
variable (r:Nat->Nat)
variable {r}
end
end L2
namespace L2
open PySem PySem.Spec PyProof.Rows PySem.W
section
variable {prog:Program} {w:World} {A:Around} {E:Value->Shared->Prop} {s:Shared}
end
end L2
namespace L2
open PySem PySem.Spec PyProof.Rows
end L2
namespace L2
open PySem PySem.Spec PyProof.Rows PySem.W
section
variable {prog:Program} {w:World} {A:Around} {E:Value->Shared->Prop} {s:Shared}
end
end L2
namespace L2
open PySem PySem.Spec PyProof.Rows
section
variable {X:Cx}
end
end L2
namespace L2
open PySem PySem.Spec PyProof.Rows
section
variable {prog:Program} {w:World} {A:Around} {E:Value->Shared->Prop} {s:Shared}
end
end L2
namespace L2
open PySem PySem.Spec PyProof.Rows PySem.W
section
variable {prog:Program} {w:World} {A:Around} {E:Value->Shared->Prop} {s:Shared}
end
section
variable {X:Cx}
end
end L2
namespace L2
open PySem PySem.Spec PyProof.Rows
end L2
namespace L2
open PySem PySem.Spec PyProof.Rows
end L2
namespace L2
open PySem PySem.Spec PyProof.Rows
section
variable {prog:Program} {w:World} {K:Type} [DecidableEq K]
variable {knd:KeyKind prog w K} {L:Bool} {A:Around} {E:Value->Shared->Prop} {s:Shared} {a:Addr}
end
end L2
namespace L2
open PySem PySem.Spec PyProof.Rows
section
variable {prog:Program} {w:World} {A:Around} {E:Value->Shared->Prop} {s:Shared}
end
end L2
namespace L2
open PySem PySem.Spec PyProof.Rows
section
variable {prog:Program} {w:World} {A:Around} {E:Value->Shared->Prop} {s:Shared}
end
end L2
namespace L2
open PySem PySem.Spec PyProof.Rows
section
variable {prog:Program} {w:World} {K:Type} [DecidableEq K] {knd:KeyKind prog w K} {A:Around} {R:Result->Shared->Prop}
end
end L2
namespace L2
open PySem PySem.Spec PyProof.Rows
section
variable {prog:Program} {w:World} {A:Around} {E:Value->Shared->Prop} {s:Shared}
end
end L2
namespace L2
open PySem PySem.Spec PyProof.Rows
section
variable {prog:Program} {w:World} {A:Around} {E:Value->Shared->Prop} {s:Shared}
end
end L2
namespace L2
open PySem PySem.Spec PyProof.Rows
section
variable {prog:Program} {w:World} {A:Around} {E:Value->Shared->Prop} {s:Shared}
end
section
variable {X:Cx}
end
end L2
namespace L2
open PySem PySem.Spec PyProof.Rows SeqAt
section
variable {prog:Program} {w:World} {K:Type} [DecidableEq K] {knd:KeyKind prog w K} {A:Around} {E:Value->Shared->Prop} {s:Shared}
end
section
variable {prog:Program} {w:World} {K:Type} [DecidableEq K] {knd:KeyKind prog w K} {A:Around} {E:Value->Shared->Prop} {s:Shared}
end
section
variable {X:Cx}
end
end L2
namespace L2
open PySem PySem.Spec PyProof.Rows SeqAt
section
variable {X:Cx}
end
end L2
namespace Sm
open PySem PySem.Spec L2
inductive PV where
  | non | bl (b:Bool) | int (i:Int) | str (x:Str) | tup (xs:List PV) | lst (xs:List PV) | fro (xs:List PV) | ref (i:Nat) | dic
inductive Cell where
  | lst (xs:List PV) | dic (kvs:List (Key × PV)) | dtp (kvs:List (List Key × PV)) | frd (kvs:List (Key × PV))
  | obj (C:Addr) (fs:List (Str × PV))
abbrev Q3:=List Cell
structure Exc where
  cls:Str
  fs:Option (Str × PV):=none
inductive Res (α:Type) where
  | ok (a:α) (st:Q3) | exc (x:Exc) (st:Q3) | stuck
abbrev Gam:=List (Option PV)
abbrev ME:=Gam->Q3->Res PV
structure Tk where
  tr:List Addr
  hid:List Addr
instance:Membership Addr Tk:=⟨fun t a=>a∈t.tr\/a∈t.hid⟩
def Tk.nil:Tk:=⟨[],[]⟩
theorem Tk.not_nil (a:Addr):a∉Tk.nil:=fun z=>by rcases z with z | z <;> cases z
def Tk.add (t:Tk) (p:Addr):Tk:=⟨t.tr ++ [p],t.hid⟩
def Tk.hide (t:Tk) (p:Addr):Tk:=⟨t.tr,p :: t.hid⟩
mutual
def Rep (H:Hp) (ρ:Tk):PV->V->Prop
  | .non,v=>v=.non
  | .bl b,v=>v=.bl b
  | .int i,v=>v=.int i
  | .str x,v=>v=.str x
  | .tup ps,v=>∃ a vs,v=.ref a/\H a=some (.tup vs)/\a∉ρ/\RepL H ρ ps vs
  | .lst ps,v=>∃ a vs,v=.ref a/\H a=some (.lst vs)/\a∉ρ/\RepL H ρ ps vs
  | .fro ps,v=>∃ a vs,v=.ref a/\Rd H a (.lst vs)/\a∉ρ/\RepL H ρ ps vs
  | .ref i,v=>∃ a,ρ.tr[i]?=some a/\v=.ref a
  | .dic,v=>∃ a,v=.ref a/\H a=some (.dK [])/\a∉ρ
def RepL (H:Hp) (ρ:Tk):List PV->List V->Prop
  | [],vs=>vs=[]
  | p :: ps,vs=>∃ v r,vs=v :: r/\Rep H ρ p v/\RepL H ρ ps r
end
structure Ext (H:Hp) (ρ:Tk) (H':Hp) (ρ':Tk):Prop where
  pre:ρ.tr <+: ρ'.tr
  hidM:∀ a,a∈ρ.hid->a∈ρ'.hid
  hidN:∀ a,a∈ρ'.hid->a∈ρ.hid\/H a=none
  keep:∀ a o,H a=some o->a∉ρ.tr->H' a=some o
  new:∀ a,a∈ρ'.tr->a∈ρ.tr\/H a=none
  old:∀ a o,H a=some o->∃ o',H' a=some o'
  frz:∀ a o u,H a=some (.frz o u)->H' a=some (.frz o u)
theorem Ext.refl (H:Hp) (ρ:Tk):Ext H ρ H ρ:=⟨List.prefix_refl _,fun _ h=>h,fun _ h=>.inl h,fun _ _ h _=>h,fun _ h=>.inl h,fun _ o h=>⟨o,h⟩,fun _ _ _ h=>h⟩
theorem Ext.trans {H H1 H2:Hp} {ρ ρ1 ρ2:Tk} (a:Ext H ρ H1 ρ1) (b:Ext H1 ρ1 H2 ρ2):Ext H ρ H2 ρ2 where
  pre:=a.pre.trans b.pre
  hidM:=fun x h=>b.hidM x (a.hidM x h)
  hidN:=fun x h=>by
    rcases b.hidN x h with z | z
    · exact a.hidN x z
    · right
      cases q:H x with
      | none=>rfl
      | some o=>
        obtain ⟨o',e⟩:=a.old x o q
        rw [e] at z; cases z
  keep:=fun x o h n=>b.keep x o (a.keep x o h n) fun z=>by
    rcases a.new x z with z | z
    · exact n z
    · rw [h] at z; cases z
  new:=fun x h=>by
    rcases b.new x h with z | z
    · exact a.new x z
    · right
      cases q:H x with
      | none=>rfl
      | some o=>
        obtain ⟨o',e⟩:=a.old x o q
        rw [e] at z; cases z
  old:=fun x o h=>by
    obtain ⟨o',e⟩:=a.old x o h
    exact b.old x o' e
  frz:=fun x o u h=>b.frz x o u (a.frz x o u h)
theorem Ext.add {H:Hp} {ρ:Tk} {p:Addr} {o:HO} (h:H p=none):Ext H ρ (upd H p o) ρ where
  pre:=List.prefix_refl _
  hidM:=fun _ h=>h
  hidN:=fun _ h=>.inl h
  keep:=fun a u e _=>by rw [Qd (Qg e h)]; exact e
  new:=fun a e=>.inl e
  old:=fun a u e=>⟨u,by rw [Qd (Qg e h)]; exact e⟩
  frz:=fun a o u e=>by rw [Qd (Qg e h)]; exact e
theorem Ext.addT {H:Hp} {ρ:Tk} {p:Addr} {o:HO} (h:H p=none):Ext H ρ (upd H p o) (ρ.add p) where
  pre:=List.prefix_append _ _
  hidM:=fun _ h=>h
  hidN:=fun _ h=>.inl h
  keep:=fun a u e _=>by rw [Qd (Qg e h)]; exact e
  new:=fun a e=>by
    rcases F1.mp e with z | z
    · exact .inl z
    · right
      have:a=p:=by simpa using z
      rw [this]; exact h
  old:=fun a u e=>⟨u,by rw [Qd (Qg e h)]; exact e⟩
  frz:=fun a o u e=>by rw [Qd (Qg e h)]; exact e
theorem Ext.same {H H':Hp} {ρ:Tk} (h:Same H H'):Ext H ρ H' ρ:=⟨List.prefix_refl _,fun _ h=>h,fun _ h=>.inl h,fun a o e _=>h a o e,fun _ e=>.inl e,fun a o e=>⟨o,h a o e⟩,fun a o u e=>h a _ e⟩
section
variable {H H':Hp} {ρ ρ':Tk}
theorem fresh_not {a:Addr} {o:HO} (x:Ext H ρ H' ρ') (h:H a=some o) (n:a∉ρ):a∉ρ':=fun z=>by
  rcases z with z | z
  · rcases x.new a z with z | z
    · exact n (.inl z)
    · rw [h] at z; cases z
  · rcases x.hidN a z with z | z
    · exact n (.inr z)
    · rw [h] at z; cases z
theorem Ext.kp {a:Addr} {o:HO} (x:Ext H ρ H' ρ') (h:H a=some o) (n:a∉ρ):H' a=some o:=x.keep a o h fun z=>n (.inl z)
mutual
theorem Rep.ext (x:Ext H ρ H' ρ'):∀ {p:PV} {v:V},Rep H ρ p v->Rep H' ρ' p v
  | .non,_,h=>h
  | .bl _,_,h=>h
  | .int _,_,h=>h
  | .str _,_,h=>h
  | .tup ps,v,h=>by
    obtain ⟨a,vs,e,s,n,r⟩:=h
    exact ⟨a,vs,e,x.kp s n,fresh_not x s n,RepL.ext x r⟩
  | .lst ps,v,h=>by
    obtain ⟨a,vs,e,s,n,r⟩:=h
    exact ⟨a,vs,e,x.kp s n,fresh_not x s n,RepL.ext x r⟩
  | .fro ps,v,h=>by
    obtain ⟨a,vs,e,s,n,r⟩:=h
    rcases s with s | ⟨o,s⟩
    · exact ⟨a,vs,e,.inl (x.kp s n),fresh_not x s n,RepL.ext x r⟩
    · exact ⟨a,vs,e,.inr ⟨o,x.kp s n⟩,fresh_not x s n,RepL.ext x r⟩
  | .ref i,v,h=>by
    obtain ⟨a,e,rfl⟩:=h
    obtain ⟨t,et⟩:=x.pre
    refine ⟨a,?_,rfl⟩
    rw [<- et,O9 (O1.mp e).1]
    exact e
  | .dic,v,h=>by
    obtain ⟨a,e,s,n⟩:=h
    exact ⟨a,e,x.kp s n,fresh_not x s n⟩
theorem RepL.ext (x:Ext H ρ H' ρ'):∀ {ps:List PV} {vs:List V},RepL H ρ ps vs->RepL H' ρ' ps vs
  | [],_,h=>h
  | p :: ps,vs,h=>by
    obtain ⟨v,r,e,h1,h2⟩:=h
    exact ⟨v,r,e,Rep.ext x h1,RepL.ext x h2⟩
end
mutual
theorem Rep.hide {a:Addr} {o:HO} (h:H a=none):∀ {p:PV} {v:V},Rep H ρ p v->Rep (upd H a o) (ρ.hide a) p v
  | .non,_,r=>r
  | .bl _,_,r=>r
  | .int _,_,r=>r
  | .str _,_,r=>r
  | .tup ps,v,⟨b,vs,e,s,n,r⟩=>⟨b,vs,e,by rw [Qd (Qg s h)]; exact s,fun z=>by
      rcases z with z | z
      · exact n (.inl z)
      · rcases D5.mp z with z | z
        · exact Qg s h z
        · exact n (.inr z),RepL.hide h r⟩
  | .lst ps,v,⟨b,vs,e,s,n,r⟩=>⟨b,vs,e,by rw [Qd (Qg s h)]; exact s,fun z=>by
      rcases z with z | z
      · exact n (.inl z)
      · rcases D5.mp z with z | z
        · exact Qg s h z
        · exact n (.inr z),RepL.hide h r⟩
  | .fro ps,v,⟨b,vs,e,s,n,r⟩=>by
      have ne:b≠a:=by
        rcases s with s | ⟨_,s⟩
        · exact Qg s h
        · exact Qg s h
      refine ⟨b,vs,e,?_,fun z=>?_,RepL.hide h r⟩
      · rcases s with s | ⟨u,s⟩
        · exact .inl (by rw [Qd ne]; exact s)
        · exact .inr ⟨u,by rw [Qd ne]; exact s⟩
      · rcases z with z | z
        · exact n (.inl z)
        · rcases D5.mp z with z | z
          · exact ne z
          · exact n (.inr z)
  | .ref i,v,r=>r
  | .dic,v,⟨b,e,s,n⟩=>⟨b,e,by rw [Qd (Qg s h)]; exact s,fun z=>by
      rcases z with z | z
      · exact n (.inl z)
      · rcases D5.mp z with z | z
        · exact Qg s h z
        · exact n (.inr z)⟩
theorem RepL.hide {a:Addr} {o:HO} (h:H a=none):∀ {ps:List PV} {vs:List V},RepL H ρ ps vs->RepL (upd H a o) (ρ.hide a) ps vs
  | [],_,r=>r
  | p :: ps,_,⟨v,t,e,r1,r2⟩=>⟨v,t,e,Rep.hide h r1,RepL.hide h r2⟩
end
mutual
theorem Rep.rehide {a:Addr} {o:HO} (h:a∈ρ.hid):∀ {p:PV} {v:V},Rep H ρ p v->Rep (upd H a o) ρ p v
  | .non,_,r=>r
  | .bl _,_,r=>r
  | .int _,_,r=>r
  | .str _,_,r=>r
  | .tup ps,v,⟨b,vs,e,s,n,r⟩=>⟨b,vs,e,by rw [Qd (show b≠a from fun z=>n (.inr (by rw [z]; exact h)))]; exact s,n,RepL.rehide h r⟩
  | .lst ps,v,⟨b,vs,e,s,n,r⟩=>⟨b,vs,e,by rw [Qd (show b≠a from fun z=>n (.inr (by rw [z]; exact h)))]; exact s,n,RepL.rehide h r⟩
  | .fro ps,v,⟨b,vs,e,s,n,r⟩=>by
      have ne:b≠a:=fun z=>n (.inr (by rw [z]; exact h))
      refine ⟨b,vs,e,?_,n,RepL.rehide h r⟩
      rcases s with s | ⟨u,s⟩
      · exact .inl (by rw [Qd ne]; exact s)
      · exact .inr ⟨u,by rw [Qd ne]; exact s⟩
  | .ref i,v,r=>r
  | .dic,v,⟨b,e,s,n⟩=>⟨b,e,by rw [Qd (show b≠a from fun z=>n (.inr (by rw [z]; exact h)))]; exact s,n⟩
theorem RepL.rehide {a:Addr} {o:HO} (h:a∈ρ.hid):∀ {ps:List PV} {vs:List V},RepL H ρ ps vs->RepL (upd H a o) ρ ps vs
  | [],_,r=>r
  | p :: ps,_,⟨v,t,e,r1,r2⟩=>⟨v,t,e,Rep.rehide h r1,RepL.rehide h r2⟩
end
mutual
theorem Rep.retr {a:Addr} {o:HO} (h:a∈ρ.tr):∀ {p:PV} {v:V},Rep H ρ p v->Rep (upd H a o) ρ p v
  | .non,_,r=>r
  | .bl _,_,r=>r
  | .int _,_,r=>r
  | .str _,_,r=>r
  | .tup ps,v,⟨b,vs,e,s,n,r⟩=>⟨b,vs,e,by rw [Qd (show b≠a from fun z=>n (.inl (by rw [z]; exact h)))]; exact s,n,RepL.retr h r⟩
  | .lst ps,v,⟨b,vs,e,s,n,r⟩=>⟨b,vs,e,by rw [Qd (show b≠a from fun z=>n (.inl (by rw [z]; exact h)))]; exact s,n,RepL.retr h r⟩
  | .fro ps,v,⟨b,vs,e,s,n,r⟩=>by
      have ne:b≠a:=fun z=>n (.inl (by rw [z]; exact h))
      refine ⟨b,vs,e,?_,n,RepL.retr h r⟩
      rcases s with s | ⟨u,s⟩
      · exact .inl (by rw [Qd ne]; exact s)
      · exact .inr ⟨u,by rw [Qd ne]; exact s⟩
  | .ref i,v,r=>r
  | .dic,v,⟨b,e,s,n⟩=>⟨b,e,by rw [Qd (show b≠a from fun z=>n (.inl (by rw [z]; exact h)))]; exact s,n⟩
theorem RepL.retr {a:Addr} {o:HO} (h:a∈ρ.tr):∀ {ps:List PV} {vs:List V},RepL H ρ ps vs->RepL (upd H a o) ρ ps vs
  | [],_,r=>r
  | p :: ps,_,⟨v,t,e,r1,r2⟩=>⟨v,t,e,Rep.retr h r1,RepL.retr h r2⟩
end
mutual
theorem Rep.unhide {hs:List Addr} (hh:∀ a,a∈hs->a∈ρ.hid):∀ {p:PV} {v:V},Rep H ρ p v->Rep H ⟨ρ.tr,hs⟩ p v
  | .non,_,r=>r
  | .bl _,_,r=>r
  | .int _,_,r=>r
  | .str _,_,r=>r
  | .tup ps,v,⟨b,vs,e,s,n,r⟩=>⟨b,vs,e,s,fun z=>n (z.imp id (hh _)),RepL.unhide hh r⟩
  | .lst ps,v,⟨b,vs,e,s,n,r⟩=>⟨b,vs,e,s,fun z=>n (z.imp id (hh _)),RepL.unhide hh r⟩
  | .fro ps,v,⟨b,vs,e,s,n,r⟩=>⟨b,vs,e,s,fun z=>n (z.imp id (hh _)),RepL.unhide hh r⟩
  | .ref i,v,r=>r
  | .dic,v,⟨b,e,s,n⟩=>⟨b,e,s,fun z=>n (z.imp id (hh _))⟩
theorem RepL.unhide {hs:List Addr} (hh:∀ a,a∈hs->a∈ρ.hid):∀ {ps:List PV} {vs:List V},RepL H ρ ps vs->RepL H ⟨ρ.tr,hs⟩ ps vs
  | [],_,r=>r
  | p :: ps,_,⟨v,t,e,r1,r2⟩=>⟨v,t,e,Rep.unhide hh r1,RepL.unhide hh r2⟩
end
theorem RepL.length:∀ {ps:List PV} {vs:List V},RepL H ρ ps vs->ps.length=vs.length
  | [],_,h=>by cases h; rfl
  | p :: ps,_,⟨v,r,rfl,_,h2⟩=>by rw [D7,D7,RepL.length h2]
theorem RepL.get:∀ {ps:List PV} {vs:List V} {i:Nat} {p:PV},RepL H ρ ps vs->ps[i]?=some p->∃ v,vs[i]?=some v/\Rep H ρ p v
  | [],_,_,_,_,e=>by simp at e
  | p :: ps,_,0,q,⟨v,r,rfl,h1,h2⟩,e=>by simp at e; subst e; exact ⟨v,rfl,h1⟩
  | p :: ps,_,i + 1,q,⟨v,r,rfl,h1,h2⟩,e=>by
    obtain ⟨u,e1,e2⟩:=RepL.get (i:=i) h2 (by simpa using e)
    exact ⟨u,by simpa using e1,e2⟩
theorem RepL.cons {p:PV} {v:V} {ps:List PV} {vs:List V} (h:Rep H ρ p v) (r:RepL H ρ ps vs):RepL H ρ (p :: ps) (v :: vs):=⟨v,vs,rfl,h,r⟩
theorem RepL.nil:RepL H ρ [] []:=rfl
theorem RepL.append:∀ {ps qs:List PV} {vs us:List V},RepL H ρ ps vs->RepL H ρ qs us->RepL H ρ (ps ++ qs) (vs ++ us)
  | [],_,_,_,h,g=>by cases h; exact g
  | p :: ps,_,_,_,⟨v,r,rfl,h1,h2⟩,g=>⟨v,_,rfl,h1,RepL.append h2 g⟩
theorem RepL.take:∀ {ps:List PV} {vs:List V} (n:Nat),RepL H ρ ps vs->RepL H ρ (ps.take n) (vs.take n)
  | _,_,0,_=>rfl
  | [],_,n + 1,h=>by cases h; rfl
  | p :: ps,_,n + 1,⟨v,r,rfl,h1,h2⟩=>⟨v,_,rfl,h1,RepL.take n h2⟩
theorem RepL.drop:∀ {ps:List PV} {vs:List V} (n:Nat),RepL H ρ ps vs->RepL H ρ (ps.drop n) (vs.drop n)
  | _,_,0,h=>h
  | [],_,n + 1,h=>by cases h; rfl
  | p :: ps,_,n + 1,⟨v,r,rfl,h1,h2⟩=>RepL.drop n h2
theorem RepL.set {p:PV} {v:V} (h:Rep H ρ p v):∀ {ps:List PV} {vs:List V} (i:Nat),RepL H ρ ps vs->RepL H ρ (ps.set i p) (vs.set i v)
  | [],_,_,g=>by cases g; rfl
  | q :: ps,_,0,⟨u,r,rfl,h1,h2⟩=>⟨v,r,rfl,h,h2⟩
  | q :: ps,_,i + 1,⟨u,r,rfl,h1,h2⟩=>⟨u,_,rfl,h1,RepL.set h i h2⟩
theorem RepL.rep {ps:List PV} {vs:List V} (h:RepL H ρ ps vs):∀ n,RepL H ρ (List.replicate n ps).flatten (List.replicate n vs).flatten
  | 0=>rfl
  | n + 1=>by rw [List.replicate_succ,List.replicate_succ,List.flatten_cons,List.flatten_cons]; exact h.append (RepL.rep h n)
theorem RepL.toInts:∀ {ns:List Int} {vs:List V},RepL H ρ (ns.map .int) vs->vs=ns.map V.int
  | [],_,h=>h
  | n :: ns,_,⟨v,r,rfl,h1,h2⟩=>by
    have e:v=V.int n:=h1
    rw [RepL.toInts h2,e]; rfl
theorem RepL.toBls:∀ {ns:List Bool} {vs:List V},RepL H ρ (ns.map .bl) vs->vs=ns.map V.bl
  | [],_,h=>h
  | n :: ns,_,⟨v,r,rfl,h1,h2⟩=>by
    have e:v=V.bl n:=h1
    rw [RepL.toBls h2,e]; rfl
end
def RepD {κ:Type} (H:Hp) (ρ:Tk) (kvs:List (κ × PV)) (vs:List (κ × V)):Prop:=vs.map Prod.fst=kvs.map Prod.fst/\RepL H ρ (kvs.map Prod.snd) (vs.map Prod.snd)
theorem RepD.ext {κ:Type} {H H':Hp} {ρ ρ':Tk} {kvs:List (κ × PV)} {vs:List (κ × V)} (x:Ext H ρ H' ρ') (r:RepD H ρ kvs vs):RepD H' ρ' kvs vs:=⟨r.1,r.2.ext x⟩
theorem RepD.length {κ:Type} {H:Hp} {ρ:Tk} {kvs:List (κ × PV)} {vs:List (κ × V)} (r:RepD H ρ kvs vs):kvs.length=vs.length:=by
  have:=congrArg List.length r.1
  rw [O2,O2] at this
  exact this.symm
def CellR (H:Hp) (ρ:Tk) (a:Addr):Cell->Prop
  | .lst ps=>∃ vs,H a=some (.lst vs)/\RepL H ρ ps vs
  | .dic kvs=>∃ vs,H a=some (.dK vs)/\RepD H ρ kvs vs
  | .dtp kvs=>∃ vs,H a=some (.dT vs)/\RepD H ρ kvs vs
  | .frd kvs=>∃ vs,(∃ o,H a=some (.frz o (.dK vs)))/\RepD H ρ kvs vs
  | .obj C fs=>∃ vs,(∃ dx,H a=some (.ins C dx vs))/\RepD H ρ fs vs
theorem CellR.dom {H:Hp} {ρ:Tk} {a:Addr}:∀ {c:Cell},CellR H ρ a c->∃ o,H a=some o
  | .lst _,⟨_,e,_⟩=>⟨_,e⟩
  | .dic _,⟨_,e,_⟩=>⟨_,e⟩
  | .dtp _,⟨_,e,_⟩=>⟨_,e⟩
  | .frd _,⟨_,⟨_,e⟩,_⟩=>⟨_,e⟩
  | .obj _ _,⟨_,⟨_,e⟩,_⟩=>⟨_,e⟩
theorem CellR.ext {H H':Hp} {ρ ρ':Tk} {a:Addr} (x:Ext H ρ H' ρ') (k:∀ o,H a=some o->H' a=some o):∀ {c:Cell},CellR H ρ a c->CellR H' ρ' a c
  | .lst _,⟨vs,e,r⟩=>⟨vs,k _ e,r.ext x⟩
  | .dic _,⟨vs,e,r⟩=>⟨vs,k _ e,r.ext x⟩
  | .dtp _,⟨vs,e,r⟩=>⟨vs,k _ e,r.ext x⟩
  | .frd _,⟨vs,⟨o,e⟩,r⟩=>⟨vs,⟨o,k _ e⟩,r.ext x⟩
  | .obj _ _,⟨vs,⟨o,e⟩,r⟩=>⟨vs,⟨o,k _ e⟩,r.ext x⟩
structure Rel (H:Hp) (ρ:Tk) (st:Q3):Prop where
  len:ρ.tr.length=st.length
  nd:ρ.tr.Nodup
  hd:∀ a∈ρ.hid,∃ o,H a=some o/\∀ xs,o≠.tup xs
  ap:∀ a∈ρ.hid,a∉ρ.tr
  cell:∀ (i:Nat) (a:Addr) (c:Cell),ρ.tr[i]?=some a->st[i]?=some c->CellR H ρ a c
section
variable {H H':Hp} {ρ ρ':Tk} {st st':Q3}
theorem Rel.lst (R:Rel H ρ st) {i:Nat} {ps:List PV} (h:st[i]?=some (.lst ps)):∃ a vs,ρ.tr[i]?=some a/\H a=some (.lst vs)/\RepL H ρ ps vs:=by
  have hi:i < ρ.tr.length:=by rw [R.len]; exact (O1.mp h).1
  have e:ρ.tr[i]?=some ρ.tr[i]:=O4 hi
  obtain ⟨vs,e1,e2⟩:=R.cell i _ _ e h
  exact ⟨_,vs,e,e1,e2⟩
theorem Rel.obj (R:Rel H ρ st) {i:Nat} {C:Addr} {fs:List (Str × PV)} (h:st[i]?=some (.obj C fs)):∃ a vs dx,ρ.tr[i]?=some a/\H a=some (.ins C dx vs)/\RepD H ρ fs vs:=by
  have hi:i < ρ.tr.length:=by rw [R.len]; exact (O1.mp h).1
  have e:ρ.tr[i]?=some ρ.tr[i]:=O4 hi
  obtain ⟨vs,⟨o,e1⟩,e2⟩:=R.cell i _ _ e h
  exact ⟨_,vs,o,e,e1,e2⟩
theorem Rel.dom (R:Rel H ρ st) {a:Addr} (h:a∈ρ.tr):∃ o,H a=some o:=by
  obtain ⟨i,hi,e⟩:=List.getElem_of_mem h
  have hs:i < st.length:=by rw [<- R.len]; exact hi
  have q:=R.cell i a st[i] (by rw [O4 hi,e]) (O4 hs)
  exact q.dom
theorem Rel.fresh (R:Rel H ρ st) {p:Addr} (h:H p=none):p∉ρ:=fun z=>by
  rcases z with z | z
  · obtain ⟨vs,q⟩:=R.dom z
    rw [h] at q; cases q
  · obtain ⟨o,q,_⟩:=R.hd p z
    rw [h] at q; cases q
theorem Rel.later (R:Rel H ρ st) (x:Ext H ρ H' ρ) (k:∀ a o,a∈ρ.tr->H a=some o->H' a=some o):Rel H' ρ st where
  len:=R.len
  nd:=R.nd
  hd:=fun a ha=>let ⟨o,e,n⟩:=R.hd a ha; ⟨o,x.keep a o e (R.ap a ha),n⟩
  ap:=R.ap
  cell:=fun i a c h1 h2=>by
    exact (R.cell i a c h1 h2).ext x fun o e=>k a o (D6 h1) e
end
theorem Rel.add {H:Hp} {ρ:Tk} {st:Q3} (R:Rel H ρ st) {p:Addr} {o:HO} (h:H p=none):Rel (upd H p o) ρ st:=
  R.later (Ext.add h) fun a u hm e=>by rw [Qd (Qg e h)]; exact e
theorem Rel.same {H H':Hp} {ρ:Tk} {st:Q3} (R:Rel H ρ st) (h:Same H H'):Rel H' ρ st:=R.later (Ext.same h) fun a u _ e=>h a u e
theorem Rel.addC {H:Hp} {ρ:Tk} {st:Q3} (R:Rel H ρ st) {p:Addr} {cl:Cell} {o:HO} (h:H p=none) (r:CellR (upd H p o) (ρ.add p) p cl):Rel (upd H p o) (ρ.add p) (st ++ [cl]) where
  len:=by show (ρ.tr ++ [p]).length=_; rw [D9,D9,R.len]; rfl
  nd:=List.nodup_append.mpr ⟨R.nd,by simp,fun a ha b hb e=>by
    have:b=p:=by simpa using hb
    subst this; subst e
    exact R.fresh h (.inl ha)⟩
  hd:=fun a ha=>let ⟨o,e,n⟩:=R.hd a ha; ⟨o,by rw [Qd (Qg e h)]; exact e,n⟩
  ap:=fun a ha z=>by
    rcases F1.mp z with z | z
    · exact R.ap a ha z
    · have:a=p:=by simpa using z
      subst this
      exact R.fresh h (.inr ha)
  cell:=fun i a c h1 h2=>by
    have h1:(ρ.tr ++ [p])[i]?=some a:=h1
    by_cases hi:i < st.length
    · rw [O9 (by rw [R.len]; exact hi)] at h1
      rw [O9 hi] at h2
      exact (R.cell i a c h1 h2).ext (Ext.addT h) fun u e=>by rw [Qd (Qg e h)]; exact e
    · rw [E4 (by rw [R.len]; omega)] at h1
      rw [E4 (by omega)] at h2
      have e0:i - st.length=0:=by
        rcases Nat.eq_zero_or_pos (i - st.length) with z | z
        · exact z
        · rw [List.getElem?_eq_none (by simp; omega)] at h2; cases h2
      rw [R.len,e0] at h1
      rw [e0] at h2
      simp at h1 h2
      subst h1; subst h2
      exact r
theorem nodup_inj {α:Type} {l:List α} (h:l.Nodup) {i j:Nat} (hi:i < l.length) (hj:j < l.length) (e:l[i]=l[j]):i=j:=by
  rcases Nat.lt_trichotomy i j with z | z | z
  · exact absurd e ((List.pairwise_iff_getElem.mp h) i j hi hj z)
  · exact z
  · exact absurd e.symm ((List.pairwise_iff_getElem.mp h) j i hj hi z)
theorem Ext.put {H:Hp} {ρ:Tk} {a:Addr} {o o':HO} (h:a∈ρ.tr) (e:H a=some o) (nf:∀ q u,o≠.frz q u:=by intro _ _ z; cases z):Ext H ρ (upd H a o') ρ where
  pre:=List.prefix_refl _
  hidM:=fun _ h=>h
  hidN:=fun _ h=>.inl h
  keep:=fun b u q n=>by rw [Qd (show b≠a from fun z=>n (by rw [z]; exact h))]; exact q
  new:=fun b q=>.inl q
  old:=fun b u q=>by
    by_cases z:b=a
    · exact ⟨o',by rw [z]; exact Qs⟩
    · exact ⟨u,by rw [Qd z]; exact q⟩
  frz:=fun b q u k=>by
    by_cases z:b=a
    · rw [z,e] at k; cases k; exact absurd rfl (nf _ _)
    · rw [Qd z]; exact k
theorem Rel.putC {H:Hp} {ρ:Tk} {st:Q3} (R:Rel H ρ st) {i:Nat} {a:Addr} {cl:Cell} {o o':HO} (hi:ρ.tr[i]?=some a) (e:H a=some o) (r:CellR (upd H a o') ρ a cl):Rel (upd H a o') ρ (st.set i cl) where
  len:=by rw [F4]; exact R.len
  nd:=R.nd
  hd:=fun b hb=>let ⟨u,q,n⟩:=R.hd b hb; ⟨u,by rw [Qd (show b≠a from fun z=>R.ap b hb (by rw [z]; exact D6 hi))]; exact q,n⟩
  ap:=R.ap
  cell:=fun j b c h1 h2=>by
    by_cases hj:i=j
    · subst hj
      rw [hi] at h1; cases h1
      rw [E8 (by rw [<- R.len]; exact (O1.mp hi).1)] at h2
      cases h2
      exact r
    · rw [F0 hj] at h2
      have q:=R.cell j b c h1 h2
      have hb:b≠a:=fun z=>by
        subst z
        have l1:=(O1.mp hi)
        have l2:=(O1.mp h1)
        exact hj (nodup_inj R.nd l1.1 l2.1 (l1.2.trans l2.2.symm))
      have hm:=D6 hi
      cases c with
      | lst ps=>
        obtain ⟨vs,e1,e2⟩:=q
        exact ⟨vs,by rw [Qd hb]; exact e1,e2.retr hm⟩
      | dic ps=>
        obtain ⟨vs,e1,e2⟩:=q
        exact ⟨vs,by rw [Qd hb]; exact e1,e2.1,e2.2.retr hm⟩
      | dtp ps=>
        obtain ⟨vs,e1,e2⟩:=q
        exact ⟨vs,by rw [Qd hb]; exact e1,e2.1,e2.2.retr hm⟩
      | frd ps=>
        obtain ⟨vs,⟨oo,e1⟩,e2⟩:=q
        exact ⟨vs,⟨oo,by rw [Qd hb]; exact e1⟩,e2.1,e2.2.retr hm⟩
      | obj C ps=>
        obtain ⟨vs,⟨oo,e1⟩,e2⟩:=q
        exact ⟨vs,⟨oo,by rw [Qd hb]; exact e1⟩,e2.1,e2.2.retr hm⟩
theorem Rel.put {H:Hp} {ρ:Tk} {st:Q3} (R:Rel H ρ st) {i:Nat} {a:Addr} {ps:List PV} {vs:List V} {o:HO} (hi:ρ.tr[i]?=some a) (e:H a=some o) (r:RepL H ρ ps vs):Rel (upd H a (.lst vs)) ρ (st.set i (.lst ps)):=
  R.putC hi e ⟨vs,Qs,r.retr (D6 hi)⟩
theorem Rel.hide {H:Hp} {ρ:Tk} {st:Q3} (R:Rel H ρ st) {p:Addr} {o:HO} (h:H p=none) (nt:∀ xs,o≠.tup xs:=by intro _ z; cases z):Rel (upd H p o) (ρ.hide p) st:=by
  have x:Ext H ρ (upd H p o) ρ:=Ext.add h
  have R':=R.add (p:=p) (o:=o) h
  refine ⟨R'.len,R'.nd,fun a ha=>?_,fun a ha z=>?_,fun i a c h1 h2=>?_⟩
  · rcases D5.mp ha with rfl | ha
    · exact ⟨o,Qs,nt⟩
    · exact R'.hd a ha
  · rcases D5.mp ha with rfl | ha
    · exact R.fresh h (.inl z)
    · exact R.ap a ha z
  · have q:=R.cell i a c h1 h2
    cases c with
    | lst ps=>
      obtain ⟨vs,e1,e2⟩:=q
      exact ⟨vs,by rw [Qd (Qg e1 h)]; exact e1,e2.hide h⟩
    | dic ps=>
      obtain ⟨vs,e1,e2⟩:=q
      exact ⟨vs,by rw [Qd (Qg e1 h)]; exact e1,e2.1,e2.2.hide h⟩
    | dtp ps=>
      obtain ⟨vs,e1,e2⟩:=q
      exact ⟨vs,by rw [Qd (Qg e1 h)]; exact e1,e2.1,e2.2.hide h⟩
    | frd ps=>
      obtain ⟨vs,⟨oo,e1⟩,e2⟩:=q
      exact ⟨vs,⟨oo,by rw [Qd (Qg e1 h)]; exact e1⟩,e2.1,e2.2.hide h⟩
    | obj C ps=>
      obtain ⟨vs,⟨oo,e1⟩,e2⟩:=q
      exact ⟨vs,⟨oo,by rw [Qd (Qg e1 h)]; exact e1⟩,e2.1,e2.2.hide h⟩
theorem Rel.rehide {H:Hp} {ρ:Tk} {st:Q3} (R:Rel H ρ st) {p:Addr} {o:HO} (h:p∈ρ.hid) (nt:∀ xs,o≠.tup xs:=by intro _ z; cases z):Rel (upd H p o) ρ st:=by
  refine ⟨R.len,R.nd,fun a ha=>?_,R.ap,fun i a c h1 h2=>?_⟩
  · by_cases e:a=p
    · exact ⟨o,by rw [e]; exact Qs,nt⟩
    · obtain ⟨u,q,n⟩:=R.hd a ha
      exact ⟨u,by rw [Qd e]; exact q,n⟩
  · have q:=R.cell i a c h1 h2
    have ne:a≠p:=fun z=>R.ap p h (by rw [<- z]; exact D6 h1)
    cases c with
    | lst ps=>
      obtain ⟨vs,e1,e2⟩:=q
      exact ⟨vs,by rw [Qd ne]; exact e1,e2.rehide h⟩
    | dic ps=>
      obtain ⟨vs,e1,e2⟩:=q
      exact ⟨vs,by rw [Qd ne]; exact e1,e2.1,e2.2.rehide h⟩
    | dtp ps=>
      obtain ⟨vs,e1,e2⟩:=q
      exact ⟨vs,by rw [Qd ne]; exact e1,e2.1,e2.2.rehide h⟩
    | frd ps=>
      obtain ⟨vs,⟨oo,e1⟩,e2⟩:=q
      exact ⟨vs,⟨oo,by rw [Qd ne]; exact e1⟩,e2.1,e2.2.rehide h⟩
    | obj C ps=>
      obtain ⟨vs,⟨oo,e1⟩,e2⟩:=q
      exact ⟨vs,⟨oo,by rw [Qd ne]; exact e1⟩,e2.1,e2.2.rehide h⟩
theorem Rel.unhide {H:Hp} {ρ:Tk} {st:Q3} {hs:List Addr} (hh:∀ a,a∈hs->a∈ρ.hid) (R:Rel H ρ st):Rel H ⟨ρ.tr,hs⟩ st:=by
  refine ⟨R.len,R.nd,fun a ha=>R.hd a (hh a ha),fun a ha=>R.ap a (hh a ha),fun i a c h1 h2=>?_⟩
  have q:=R.cell i a c h1 h2
  cases c with
  | lst ps=>
    obtain ⟨vs,e1,e2⟩:=q
    exact ⟨vs,e1,RepL.unhide hh e2⟩
  | dic ps=>
    obtain ⟨vs,e1,e2⟩:=q
    exact ⟨vs,e1,e2.1,RepL.unhide hh e2.2⟩
  | dtp ps=>
    obtain ⟨vs,e1,e2⟩:=q
    exact ⟨vs,e1,e2.1,RepL.unhide hh e2.2⟩
  | frd ps=>
    obtain ⟨vs,e1,e2⟩:=q
    exact ⟨vs,e1,e2.1,RepL.unhide hh e2.2⟩
  | obj C ps=>
    obtain ⟨vs,e1,e2⟩:=q
    exact ⟨vs,e1,e2.1,RepL.unhide hh e2.2⟩
theorem Ext.hide {H:Hp} {ρ:Tk} {p:Addr} {o:HO} (h:H p=none):Ext H ρ (upd H p o) (ρ.hide p) where
  pre:=List.prefix_refl _
  hidM:=fun _ h=>O6 _ h
  hidN:=fun a ha=>by
    rcases D5.mp ha with rfl | ha
    · exact .inr h
    · exact .inl ha
  keep:=fun a u e _=>by rw [Qd (Qg e h)]; exact e
  new:=fun a e=>.inl e
  old:=fun a u e=>⟨u,by rw [Qd (Qg e h)]; exact e⟩
  frz:=fun a o u e=>by rw [Qd (Qg e h)]; exact e
theorem Ext.put0 {H H1:Hp} {ρ ρ1:Tk} {p:Addr} {o:HO} (x:Ext H ρ H1 ρ1) (h:H p=none):Ext H ρ (upd H1 p o) ρ1 where
  pre:=x.pre
  hidM:=x.hidM
  hidN:=x.hidN
  keep:=fun a u e n=>by rw [Qd (Qg e h)]; exact x.keep a u e n
  new:=x.new
  old:=fun a u e=>by rw [Qd (Qg e h)]; exact x.old a u e
  frz:=fun a o u e=>by rw [Qd (Qg e h)]; exact x.frz a o u e
theorem Ext.unhide {H H1:Hp} {ρ ρ1:Tk} (x:Ext H ρ H1 ρ1):Ext H ρ H1 ⟨ρ1.tr,ρ.hid⟩ where
  pre:=x.pre
  hidM:=fun _ h=>h
  hidN:=fun _ h=>.inl h
  keep:=x.keep
  new:=x.new
  old:=x.old
  frz:=x.frz
def EnvR (H:Hp) (ρ:Tk) (Γ:Gam) (σ:St):Prop:=Γ.length=σ.length/\∀ (i:Nat) (p:PV),Γ[i]?=some (some p)->∃ v,σ[i]?=some (some v)/\Rep H ρ p v
theorem EnvR.ext {H H':Hp} {ρ ρ':Tk} {Γ:Gam} {σ:St} (x:Ext H ρ H' ρ') (h:EnvR H ρ Γ σ):EnvR H' ρ' Γ σ:=
  ⟨h.1,fun i p e=>let ⟨v,a,b⟩:=h.2 i p e; ⟨v,a,b.ext x⟩⟩
theorem EnvR.hide {H:Hp} {ρ:Tk} {Γ:Gam} {σ:St} {a:Addr} {o:HO} (n:H a=none) (h:EnvR H ρ Γ σ):EnvR (upd H a o) (ρ.hide a) Γ σ:=⟨h.1,fun i p e=>let ⟨v,a,b⟩:=h.2 i p e; ⟨v,a,b.hide n⟩⟩
theorem EnvR.rehide {H:Hp} {ρ:Tk} {Γ:Gam} {σ:St} {a:Addr} {o:HO} (n:a∈ρ.hid) (h:EnvR H ρ Γ σ):EnvR (upd H a o) ρ Γ σ:=⟨h.1,fun i p e=>let ⟨v,a,b⟩:=h.2 i p e; ⟨v,a,b.rehide n⟩⟩
theorem EnvR.set {H:Hp} {ρ:Tk} {Γ:Gam} {σ:St} {p:PV} {v:V} (h:EnvR H ρ Γ σ) (r:Rep H ρ p v) (i:Nat):EnvR H ρ (Γ.set i (some p)) (σ.set i (some v)):=by
  refine ⟨by rw [F4,F4]; exact h.1,fun j q e=>?_⟩
  rw [List.getElem?_set] at e
  rw [List.getElem?_set]
  by_cases hj:i=j
  · subst hj
    simp only [if_true] at e ⊢
    by_cases hl:i < Γ.length
    · rw [if_pos hl] at e; cases e
      rw [if_pos (by rw [<- h.1]; exact hl)]
      exact ⟨v,rfl,r⟩
    · rw [if_neg hl] at e; cases e
  · rw [if_neg hj] at e ⊢
    exact h.2 j q e
end Sm
namespace Sm
open PySem PySem.Spec L2
def Res.bind {α β:Type} (r:Res α) (f:α->Q3->Res β):Res β:=match r with
  | .ok a st=>f a st
  | .exc x st=>.exc x st
  | .stuck=>.stuck
def okO {α:Type} (st:Q3):Option α->Res α
  | some a=>.ok a st
  | none=>.stuck
section
variable (X:Cx)
def WE (e:Expr):TE:=fun σ H Q=>∀ (pins:List (Addr × Obj)) (s:Shared),Inv X pins σ H s->wpAny (model X.prog X.w) X.A (eval e X.env) (EP X pins σ Q) X.xe s
def WT (e:Expr):TT:=fun σ H Q=>∀ (pins:List (Addr × Obj)) (s:Shared),Inv X pins σ H s->wpAny (model X.prog X.w) X.A (isTrue e X.env (eval e X.env)) (TP X pins σ Q) X.xe s
def WW (e:Expr):TT:=fun σ H Q=>∀ (wh:Sem Value) (pins:List (Addr × Obj)) (s:Shared),Inv X pins σ H s->wpAny (model X.prog X.w) X.A (isTrue e X.env wh) (TP X pins σ Q) X.xe s
def WA (es:List Expr):TA:=fun σ H Q=>∀ (pos:Pos) (pins:List (Addr × Obj)) (s:Shared),Inv X pins σ H s->wpAny (model X.prog X.w) X.A (spliced (backTo pos (starEach es X.env))) (AP X pins σ Q) X.xe s
def WS (st:Stmt):TS:=fun D σ H=>∀ (pins:List (Addr × Obj)) (s:Shared),Inv X pins σ H s->wpAny (model X.prog X.w) X.A (exec st X.env) (SP X pins D) X.xe s
def WB (st:List Stmt):TS:=fun D σ H=>∀ (pins:List (Addr × Obj)) (s:Shared),Inv X pins σ H s->wpAny (model X.prog X.w) X.A (execs st X.env) (SP X pins D) X.xe s
def WI (tg iter : Expr) : TI := fun σ H R => ∀ (pins : List (Addr × Obj)) (s : Shared), Inv X pins σ H s ->
    wpAny (model X.prog X.w) X.A (eval iter X.env) (fun v s1=>wpAny (model X.prog X.w) X.A (pyIter v) (PIE X pins σ tg R) X.xe s1) X.xe s
def WO (f:Value->Value->Sem Value):R2:=fun x y H Q=>∀ (pins:List (Addr × Obj)) (s:Shared) (σ:St) (v u:Value),Inv X pins σ H s->RelV x v->RelV y u->wpAny (model X.prog X.w) X.A (f v u) (EP X pins σ Q) X.xe s
def WC (f:Value):List V->Hp->VK->Prop:=fun xs H Q=>∀ (pins:List (Addr × Obj)) (s:Shared) (σ:St) (us:List Value),Inv X pins σ H s->Vals xs us->wpAny (model X.prog X.w) X.A (call f us) (EP X pins σ Q) X.xe s
end
section
variable {X:Cx}
theorem Y2 {e:Expr}:PE X e (WE X e):=fun pins s _ _ _ I h=>h pins s I
theorem pt_w {e:Expr}:PT X e (WT X e):=fun pins s _ _ _ I h=>h pins s I
theorem pw_w {e:Expr}:PW X e (WW X e):=fun wh pins s _ _ _ I h=>h wh pins s I
theorem pa_w {es:List Expr}:PA X es (WA X es):=fun pos pins s _ _ _ I h=>h pos pins s I
theorem ps_w {st:Stmt}:PS X st (WS X st):=fun pins s _ _ _ I h=>h pins s I
theorem pss_w {st:List Stmt}:PSs X st (WB X st):=fun pins s _ _ _ I h=>h pins s I
theorem pi_w {tg iter:Expr}:PI X tg iter (WI X tg iter):=fun pins s _ _ _ I h=>h pins s I
theorem op_w {f:Value->Value->Sem Value}:OpR X f (WO X f):=fun pins s σ _ _ _ v u _ I r1 r2 h=>h pins s σ v u I r1 r2
theorem call_w {f:Value}:X3 X f (WC X f):=fun pins s σ _ _ us _ I r h=>h pins s σ us I r
theorem WE.of {e:Expr} {t:TE} {σ:St} {H:Hp} {Q:VK} (h:PE X e t) (q:t σ H Q):WE X e σ H Q:=fun pins s I=>h pins s σ H Q I q
theorem WT.of {e:Expr} {t:TT} {σ:St} {H:Hp} {Q:Bool->Hp->Prop} (h:PT X e t) (q:t σ H Q):WT X e σ H Q:=fun pins s I=>h pins s σ H Q I q
theorem WW.of {e:Expr} {t:TT} {σ:St} {H:Hp} {Q:Bool->Hp->Prop} (h:PW X e t) (q:t σ H Q):WW X e σ H Q:=fun wh pins s I=>h wh pins s σ H Q I q
theorem WA.of {es:List Expr} {t:TA} {σ:St} {H:Hp} {Q:List V->Hp->Prop} (h:PA X es t) (q:t σ H Q):WA X es σ H Q:=fun pos pins s I=>h pos pins s σ H Q I q
theorem WS.of {st:Stmt} {t:TS} {σ:St} {H:Hp} {D:Ends} (h:PS X st t) (q:t D σ H):WS X st D σ H:=fun pins s I=>h pins s σ H D I q
theorem WB.of {st:List Stmt} {t:TS} {σ:St} {H:Hp} {D:Ends} (h:PSs X st t) (q:t D σ H):WB X st D σ H:=fun pins s I=>h pins s σ H D I q
theorem WI.of {tg iter:Expr} {t:TI} {σ:St} {H:Hp} {R:It->Hp->Prop} (h:PI X tg iter t) (q:t σ H R):WI X tg iter σ H R:=fun pins s I=>h pins s σ H R I q
theorem WO.of {f:Value->Value->Sem Value} {r:R2} {x y:V} {H:Hp} {Q:VK} (h:OpR X f r) (q:r x y H Q):WO X f x y H Q:=fun pins s σ v u I r1 r2=>h pins s σ H x y v u Q I r1 r2 q
theorem WC.of {f:Value} {r:List V->Hp->VK->Prop} {xs:List V} {H:Hp} {Q:VK} (h:X3 X f r) (q:r xs H Q):WC X f xs H Q:=fun pins s σ us I r1=>h pins s σ H xs us Q I r1 q
end
def XFs (H:Hp) (ρ:Tk):Option (Str × PV)->Option Addr->Prop
  | none,dv=>dv=none
  | some (n,p),dv=>∃ dx v,dv=some dx/\H dx=some (.xd [(n,v)])/\dx∉ρ/\Rep H ρ p v
def Acc {α:Type} (mg:Str->Option Value) (E:XK) (H:Hp) (ρ:Tk) (P:α->Q3->Hp->Tk->Prop):Res α->Prop
  | .ok a st=>∀ H' ρ',Ext H ρ H' ρ'->Rel H' ρ' st->P a st H' ρ'
  | .exc x st=>∀ C dv H' ρ',mg x.cls=some (.ref C)->Ext H ρ H' ρ'->Rel H' ρ' st->XFs H' ρ' x.fs dv->E (.ref C) dv H'
  | .stuck=>False
section
variable {α β:Type} {mg:Str->Option Value} {E:XK} {H H1:Hp} {ρ ρ1:Tk}
theorem Acc.mono {P P':α->Q3->Hp->Tk->Prop} {r:Res α} (h:Acc mg E H ρ P r) (x:Ext H ρ H1 ρ1) (k:∀ a st H' ρ',P a st H' ρ'->P' a st H' ρ'):Acc mg E H1 ρ1 P' r:=by
  cases r with
  | ok a st=>exact fun H' ρ' x' R'=>k _ _ _ _ (h H' ρ' (x.trans x') R')
  | exc e st=>exact fun C dv H' ρ' m x' R' f=>h C dv H' ρ' m (x.trans x') R' f
  | stuck=>exact h
theorem Acc.later {P:α->Q3->Hp->Tk->Prop} {r:Res α} (h:Acc mg E H ρ P r) (x:Ext H ρ H1 ρ1):Acc mg E H1 ρ1 P r:=h.mono x fun _ _ _ _ p=>p
theorem Acc.bind {P:β->Q3->Hp->Tk->Prop} {r:Res α} {f:α->Q3->Res β} (h:Acc mg E H ρ P (r.bind f)):Acc mg E H ρ (fun a st1 H1 ρ1=>Acc mg E H1 ρ1 P (f a st1)) r:=by
  cases r with
  | ok a st=>exact fun H' ρ' x' R'=>Acc.later (show Acc mg E H ρ P (f a st) from h) x'
  | exc e st=>exact h
  | stuck=>exact h
end
abbrev QV (Q:VK):PV->Q3->Hp->Tk->Prop:=fun p _ H' ρ'=>∀ v,Rep H' ρ' p v->Q v H'
abbrev QL (Q:List V->Hp->Prop):List PV->Q3->Hp->Tk->Prop:=fun ps _ H' ρ'=>∀ vs,RepL H' ρ' ps vs->Q vs H'
abbrev QB (Q:Bool->Hp->Prop):Bool->Q3->Hp->Tk->Prop:=fun b _ H' _=>Q b H'
structure SimE (X:Cx) (E:XK) (e:Expr) (m:ME):Prop where
  run:∀ (Γ:Gam) (σ:St) (H:Hp) (ρ:Tk) (st:Q3) (Q:VK),Rel H ρ st->EnvR H ρ Γ σ->Acc X.mg E H ρ (QV Q) (m Γ st)->WE X e σ H Q
structure SimT (X:Cx) (E:XK) (e:Expr) (m:Gam->Q3->Res Bool):Prop where
  run:∀ (Γ:Gam) (σ:St) (H:Hp) (ρ:Tk) (st:Q3) (Q:Bool->Hp->Prop),Rel H ρ st->EnvR H ρ Γ σ->Acc X.mg E H ρ (QB Q) (m Γ st)->WT X e σ H Q
structure SimW (X:Cx) (E:XK) (e:Expr) (m:Gam->Q3->Res Bool):Prop where
  run:∀ (Γ:Gam) (σ:St) (H:Hp) (ρ:Tk) (st:Q3) (Q:Bool->Hp->Prop),Rel H ρ st->EnvR H ρ Γ σ->Acc X.mg E H ρ (QB Q) (m Γ st)->WW X e σ H Q
structure SimA (X:Cx) (E:XK) (es:List Expr) (m:Gam->Q3->Res (List PV)):Prop where
  run:∀ (Γ:Gam) (σ:St) (H:Hp) (ρ:Tk) (st:Q3) (Q:List V->Hp->Prop),Rel H ρ st->EnvR H ρ Γ σ->Acc X.mg E H ρ (QL Q) (m Γ st)->WA X es σ H Q
abbrev OP:=Q3->PV->PV->Res PV
structure OpS (X:Cx) (E:XK) (f:Value->Value->Sem Value) (o:OP):Prop where
  run:∀ (H:Hp) (ρ:Tk) (st:Q3) (p q:PV) (x y:V) (Q:VK),Rel H ρ st->Rep H ρ p x->Rep H ρ q y->Acc X.mg E H ρ (QV Q) (o st p q)->WO X f x y H Q
abbrev CF:=Q3->List PV->Res PV
structure CallS (X:Cx) (E:XK) (f:Value) (o:CF):Prop where
  run:∀ (H:Hp) (ρ:Tk) (st:Q3) (ps:List PV) (xs:List V) (Q:VK),Rel H ρ st->RepL H ρ ps xs->Acc X.mg E H ρ (QV Q) (o st ps)->WC X f xs H Q
section
variable {X:Cx} {E:XK} {Γ:Gam} {σ:St} {H:Hp} {ρ:Tk} {st:Q3}
theorem SimE.use {e:Expr} {m:ME} (s:SimE X E e m) {P:PV->Q3->Hp->Tk->Prop} {Q:VK} (R:Rel H ρ st) (G:EnvR H ρ Γ σ) (h:Acc X.mg E H ρ P (m Γ st))
    (k:∀ p st1 H1 ρ1 v,Ext H ρ H1 ρ1->Rel H1 ρ1 st1->EnvR H1 ρ1 Γ σ->Rep H1 ρ1 p v->P p st1 H1 ρ1->Q v H1):WE X e σ H Q:=by
  refine s.run Γ σ H ρ st Q R G ?_
  cases r:m Γ st with
  | ok p st1=>rw [r] at h; exact fun H' ρ' x' R' v rv=>k p st1 H' ρ' v x' R' (G.ext x') rv (h H' ρ' x' R')
  | exc e st=>rw [r] at h; exact h
  | stuck=>rw [r] at h; exact h
theorem SimE.use' {e:Expr} {m:ME} (s:SimE X E e m) {P:PV->Q3->Hp->Tk->Prop} {Q:VK} (R:Rel H ρ st) (G:EnvR H ρ Γ σ) (h:Acc X.mg E H ρ P (m Γ st))
    (k:∀ p st1 H1 ρ1 v,m Γ st=.ok p st1->Ext H ρ H1 ρ1->Rel H1 ρ1 st1->EnvR H1 ρ1 Γ σ->Rep H1 ρ1 p v->P p st1 H1 ρ1->Q v H1):WE X e σ H Q:=by
  refine s.run Γ σ H ρ st Q R G ?_
  cases r:m Γ st with
  | ok p st1=>rw [r] at h; exact fun H' ρ' x' R' v rv=>k p st1 H' ρ' v r x' R' (G.ext x') rv (h H' ρ' x' R')
  | exc e st=>rw [r] at h; exact h
  | stuck=>rw [r] at h; exact h
theorem SimA.use' {es:List Expr} {m:Gam->Q3->Res (List PV)} (s:SimA X E es m) {P:List PV->Q3->Hp->Tk->Prop} {Q:List V->Hp->Prop} (R:Rel H ρ st) (G:EnvR H ρ Γ σ) (h:Acc X.mg E H ρ P (m Γ st))
    (k:∀ ps st1 H1 ρ1 vs,m Γ st=.ok ps st1->Ext H ρ H1 ρ1->Rel H1 ρ1 st1->EnvR H1 ρ1 Γ σ->RepL H1 ρ1 ps vs->P ps st1 H1 ρ1->Q vs H1):WA X es σ H Q:=by
  refine s.run Γ σ H ρ st Q R G ?_
  cases r:m Γ st with
  | ok p st1=>rw [r] at h; exact fun H' ρ' x' R' v rv=>k p st1 H' ρ' v r x' R' (G.ext x') rv (h H' ρ' x' R')
  | exc e st=>rw [r] at h; exact h
  | stuck=>rw [r] at h; exact h
theorem SimT.use {e:Expr} {m:Gam->Q3->Res Bool} (s:SimT X E e m) {P:Bool->Q3->Hp->Tk->Prop} {Q:Bool->Hp->Prop} (R:Rel H ρ st) (G:EnvR H ρ Γ σ) (h:Acc X.mg E H ρ P (m Γ st))
    (k:∀ p st1 H1 ρ1,Ext H ρ H1 ρ1->Rel H1 ρ1 st1->EnvR H1 ρ1 Γ σ->P p st1 H1 ρ1->Q p H1):WT X e σ H Q:=by
  refine s.run Γ σ H ρ st Q R G ?_
  cases r:m Γ st with
  | ok p st1=>rw [r] at h; exact fun H' ρ' x' R'=>k p st1 H' ρ' x' R' (G.ext x') (h H' ρ' x' R')
  | exc e st=>rw [r] at h; exact h
  | stuck=>rw [r] at h; exact h
theorem SimT.use' {e:Expr} {m:Gam->Q3->Res Bool} (s:SimT X E e m) {P:Bool->Q3->Hp->Tk->Prop} {Q:Bool->Hp->Prop} (R:Rel H ρ st) (G:EnvR H ρ Γ σ) (h:Acc X.mg E H ρ P (m Γ st))
    (k:∀ p st1 H1 ρ1,m Γ st=.ok p st1->Ext H ρ H1 ρ1->Rel H1 ρ1 st1->EnvR H1 ρ1 Γ σ->P p st1 H1 ρ1->Q p H1):WT X e σ H Q:=by
  refine s.run Γ σ H ρ st Q R G ?_
  cases r:m Γ st with
  | ok p st1=>rw [r] at h; exact fun H' ρ' x' R'=>k p st1 H' ρ' r x' R' (G.ext x') (h H' ρ' x' R')
  | exc e st=>rw [r] at h; exact h
  | stuck=>rw [r] at h; exact h
theorem SimW.use {e:Expr} {m:Gam->Q3->Res Bool} (s:SimW X E e m) {P:Bool->Q3->Hp->Tk->Prop} {Q:Bool->Hp->Prop} (R:Rel H ρ st) (G:EnvR H ρ Γ σ) (h:Acc X.mg E H ρ P (m Γ st))
    (k:∀ p st1 H1 ρ1,Ext H ρ H1 ρ1->Rel H1 ρ1 st1->EnvR H1 ρ1 Γ σ->P p st1 H1 ρ1->Q p H1):WW X e σ H Q:=by
  refine s.run Γ σ H ρ st Q R G ?_
  cases r:m Γ st with
  | ok p st1=>rw [r] at h; exact fun H' ρ' x' R'=>k p st1 H' ρ' x' R' (G.ext x') (h H' ρ' x' R')
  | exc e st=>rw [r] at h; exact h
  | stuck=>rw [r] at h; exact h
theorem SimA.use {es:List Expr} {m:Gam->Q3->Res (List PV)} (s:SimA X E es m) {P:List PV->Q3->Hp->Tk->Prop} {Q:List V->Hp->Prop} (R:Rel H ρ st) (G:EnvR H ρ Γ σ) (h:Acc X.mg E H ρ P (m Γ st))
    (k:∀ ps st1 H1 ρ1 vs,Ext H ρ H1 ρ1->Rel H1 ρ1 st1->EnvR H1 ρ1 Γ σ->RepL H1 ρ1 ps vs->P ps st1 H1 ρ1->Q vs H1):WA X es σ H Q:=by
  refine s.run Γ σ H ρ st Q R G ?_
  cases r:m Γ st with
  | ok p st1=>rw [r] at h; exact fun H' ρ' x' R' v rv=>k p st1 H' ρ' v x' R' (G.ext x') rv (h H' ρ' x' R')
  | exc e st=>rw [r] at h; exact h
  | stuck=>rw [r] at h; exact h
theorem OpS.use {f:Value->Value->Sem Value} {o:OP} (s:OpS X E f o) {P:PV->Q3->Hp->Tk->Prop} {Q:VK} {p q:PV} {x y:V} (R:Rel H ρ st) (rp:Rep H ρ p x) (rq:Rep H ρ q y) (h:Acc X.mg E H ρ P (o st p q))
    (k:∀ p st1 H1 ρ1 v,Ext H ρ H1 ρ1->Rel H1 ρ1 st1->Rep H1 ρ1 p v->P p st1 H1 ρ1->Q v H1):WO X f x y H Q:=by
  refine s.run H ρ st p q x y Q R rp rq ?_
  cases r:o st p q with
  | ok p st1=>rw [r] at h; exact fun H' ρ' x' R' v rv=>k p st1 H' ρ' v x' R' rv (h H' ρ' x' R')
  | exc e st=>rw [r] at h; exact h
  | stuck=>rw [r] at h; exact h
end
end Sm
namespace Sm
open PySem PySem.Spec L2 SeqAt
mutual
def peq:PV->PV->Bool
  | .non,.non=>true
  | .bl a,.bl b=>a == b
  | .bl a,.int b=>(if a then 1 else 0) == b
  | .int a,.bl b=>a == (if b then 1 else 0)
  | .int a,.int b=>a == b
  | .str a,.str b=>a == b
  | .tup xs,.tup ys=>Xw xs ys
  | .lst xs,.lst ys=>Xw xs ys
  | .lst xs,.fro ys=>Xw xs ys
  | .fro xs,.lst ys=>Xw xs ys
  | .fro xs,.fro ys=>Xw xs ys
  | _,_=>false
def Xw:List PV->List PV->Bool
  | [],[]=>true
  | x :: xs,y :: ys=>peq x y && Xw xs ys
  | _,_=>false
end
def Jm:Nat->PV->Bool
  | _,.ref _=>false
  | _,.dic=>false
  | 0,.tup _=>false
  | 0,.lst _=>false
  | 0,.fro _=>false
  | n + 1,.tup xs=>xs.all (Jm n)
  | n + 1,.lst xs=>xs.all (Jm n)
  | n + 1,.fro xs=>xs.all (Jm n)
  | _,_=>true
theorem peqL_len:∀ {xs ys:List PV},xs.length≠ys.length->Xw xs ys=false
  | [],[],h=>absurd rfl h
  | [],_ :: _,_=>by simp [Xw]
  | _ :: _,[],_=>by simp [Xw]
  | x :: xs,y :: ys,h=>by
    rw [Xw,peqL_len (xs:=xs) (ys:=ys) fun e=>h (by simp [e]),Bool.and_false]
theorem peqL_all:∀ {xs ys:List PV},xs.length=ys.length->Xw xs ys=(List.range xs.length).all fun j=>peq (xs.getD j .non) (ys.getD j .non)
  | [],[],_=>by simp [Xw]
  | [],_ :: _,h=>by simp at h
  | _ :: _,[],h=>by simp at h
  | x :: xs,y :: ys,h=>by
    rw [Xw,peqL_all (xs:=xs) (ys:=ys) (by simpa using h),D7,List.range_succ_eq_map,List.all_cons,List.all_map]
    rfl
section
variable {X:Cx} {pins:List (Addr × Obj)} {σ:St} {H:Hp} {s:Shared} {ρ:Tk}
mutual
theorem rep_same:∀ {p q:PV} {x:V} {n:Nat},Jm n p=true->Jm n q=true->Rep H ρ p x->Rep H ρ q x->peq p q=true
  | .non,q,x,n,_,gq,h1,h2=>by
    cases h1
    cases q <;> first | rfl | (cases n <;> cases gq; done) | (cases h2; done) | (obtain ⟨_,_,e,_⟩:=h2; cases e) | (obtain ⟨_,_,e⟩:=h2; cases e)
  | .bl b,q,x,n,_,gq,h1,h2=>by
    cases h1
    cases q <;> first | (cases n <;> cases gq; done) | (cases h2; simp [peq]; done) | (obtain ⟨_,_,e,_⟩:=h2; done) | (obtain ⟨_,_,e,_⟩:=h2; cases e; done) | (obtain ⟨_,_,e⟩:=h2; cases e)
  | .int b,q,x,n,_,gq,h1,h2=>by
    cases h1
    cases q <;> first | (cases n <;> cases gq; done) | (cases h2; simp [peq]; done) | (obtain ⟨_,_,e,_⟩:=h2; done) | (obtain ⟨_,_,e,_⟩:=h2; cases e; done) | (obtain ⟨_,_,e⟩:=h2; cases e)
  | .str b,q,x,n,_,gq,h1,h2=>by
    cases h1
    cases q <;> first | (cases n <;> cases gq; done) | (cases h2; simp [peq]; done) | (obtain ⟨_,_,e,_⟩:=h2; done) | (obtain ⟨_,_,e,_⟩:=h2; cases e; done) | (obtain ⟨_,_,e⟩:=h2; cases e)
  | .tup ps,q,x,0,gp,_,_,_=>by cases gp
  | .tup ps,q,x,n + 1,gp,gq,⟨a,vs,e,ha,_,r⟩,h2=>by
    subst e
    cases q with
    | tup qs=>
      obtain ⟨b,us,e,hb,_,r2⟩:=h2
      cases e
      rw [ha] at hb; cases hb
      rw [peq]
      exact Uf gp gq r r2
    | lst qs=>obtain ⟨b,us,e,hb,_⟩:=h2; cases e; rw [ha] at hb; cases hb
    | fro qs=>obtain ⟨b,us,e,hb,_⟩:=h2; cases e; rcases hb with hb | ⟨o,hb⟩ <;> (rw [ha] at hb; cases hb)
    | ref i=>cases gq
    | dic=>cases gq
    | _=>cases h2
  | .lst ps,q,x,0,gp,_,_,_=>by cases gp
  | .lst ps,q,x,n + 1,gp,gq,⟨a,vs,e,ha,_,r⟩,h2=>by
    subst e
    cases q with
    | lst qs=>
      obtain ⟨b,us,e,hb,_,r2⟩:=h2
      cases e
      rw [ha] at hb; cases hb
      rw [peq]
      exact Uf gp gq r r2
    | tup qs=>obtain ⟨b,us,e,hb,_⟩:=h2; cases e; rw [ha] at hb; cases hb
    | fro qs=>
      obtain ⟨b,us,e,hb,_,r2⟩:=h2
      cases e
      rcases hb with hb | ⟨o,hb⟩
      · rw [ha] at hb; cases hb
        rw [peq]
        exact Uf gp gq r r2
      · rw [ha] at hb; cases hb
    | ref i=>cases gq
    | dic=>cases gq
    | _=>cases h2
  | .fro ps,q,x,0,gp,_,_,_=>by cases gp
  | .fro ps,q,x,n + 1,gp,gq,⟨a,vs,e,ha,_,r⟩,h2=>by
    subst e
    cases q with
    | lst qs=>
      obtain ⟨b,us,e,hb,_,r2⟩:=h2
      cases e
      rcases ha with ha | ⟨o,ha⟩
      · rw [ha] at hb; cases hb
        rw [peq]
        exact Uf gp gq r r2
      · rw [ha] at hb; cases hb
    | tup qs=>obtain ⟨b,us,e,hb,_⟩:=h2; cases e; rcases ha with ha | ⟨o,ha⟩ <;> (rw [ha] at hb; cases hb)
    | fro qs=>
      obtain ⟨b,us,e,hb,_,r2⟩:=h2
      cases e
      have:vs=us:=by
        rcases ha with ha | ⟨o,ha⟩ <;> rcases hb with hb | ⟨o',hb⟩ <;> (rw [ha] at hb; cases hb) <;> rfl
      subst this
      rw [peq]
      exact Uf gp gq r r2
    | ref i=>cases gq
    | dic=>cases gq
    | _=>cases h2
  | .ref i,_,_,n,gp,_,_,_=>by cases n <;> cases gp
  | .dic,_,_,n,gp,_,_,_=>by cases n <;> cases gp
theorem Uf:∀ {ps qs:List PV} {vs:List V} {n:Nat},ps.all (Jm n)=true->qs.all (Jm n)=true->RepL H ρ ps vs->RepL H ρ qs vs->Xw ps qs=true
  | [],qs,vs,n,_,_,h1,h2=>by
    cases h1
    cases qs with
    | nil=>rfl
    | cons q qs=>obtain ⟨_,_,e,_⟩:=h2; cases e
  | p :: ps,qs,vs,n,g1,g2,⟨v,r,e,h1,h1'⟩,h2=>by
    subst e
    cases qs with
    | nil=>cases h2
    | cons q qs=>
      obtain ⟨_,_,e,h2,h2'⟩:=h2
      cases e
      rw [List.all_cons,F3] at g1 g2
      rw [Xw,rep_same g1.1 g2.1 h1 h2,Uf g1.2 g2.2 h1' h2']; rfl
end
inductive Kd (H:Hp) (ρ:Tk) (s:Shared):PV->Value->Prop where
  | non:Kd H ρ s .non .none
  | bl (b):Kd H ρ s (.bl b) (.bool b)
  | int (i t):Kd H ρ s (.int i) (.int i t)
  | str (x t):Kd H ρ s (.str x) (.str x t)
  | tup (ps a) (vs:List V) (its:List Value):H a=some (.tup vs)->RepL H ρ ps vs->Vals vs its->s.heap.IsTuple a its.toArray->Kd H ρ s (.tup ps) (.ref a)
  | lst (p ps a) (vs:List V) (its:List Value):(p=.lst ps\/p=.fro ps)->RepL H ρ ps vs->Vals vs its->s.heap.IsList a its.toArray->Kd H ρ s p (.ref a)
theorem kd_of {p:PV} {x:V} {u:Value} {n:Nat} (I:Inv X pins σ H s) (g:Jm n p=true) (r:Rep H ρ p x) (ru:RelV x u):Kd H ρ s p u:=by
  cases p with
  | non=>cases r; cases ru; exact .non
  | bl b=>cases r; cases ru; exact .bl b
  | int i=>cases r; obtain ⟨t,rfl⟩:=ru; exact .int i t
  | str i=>cases r; obtain ⟨t,rfl⟩:=ru; exact .str i t
  | tup ps=>
    obtain ⟨a,vs,rfl,ha,_,rr⟩:=r
    cases ru
    obtain ⟨its,v1,p1,_⟩:=I.tuple (SqT.of (K:=X.K) ha)
    exact .tup ps a vs its ha rr v1 p1
  | lst ps=>
    obtain ⟨a,vs,rfl,ha,_,rr⟩:=r
    cases ru
    obtain ⟨its,v1,p1,_⟩:=I.list (SqL.of (K:=X.K) ha)
    exact .lst _ ps a vs its (.inl rfl) rr v1 p1.isList
  | fro ps=>
    obtain ⟨a,vs,rfl,ha,_,rr⟩:=r
    cases ru
    obtain ⟨its,v1,p1,_⟩:=I.list (show SqL X.K H a vs from .inl ha)
    exact .lst _ ps a vs its (.inr rfl) rr v1 p1.isList
  | ref i=>cases n <;> cases g
  | dic=>cases n <;> cases g
theorem getD_of {ps:List PV} {vs:List V} {its:List Value} (r:RepL H ρ ps vs) (v:Vals vs its) {j:Nat} (h:j < its.length):∃ x,Rep H ρ (ps.getD j .non) x/\RelV x its[j]:=by
  have l1:=r.length
  have l2:=v.length
  have hj:j < ps.length:=by omega
  obtain ⟨x,e1,e2⟩:=r.get (O4 hj)
  obtain ⟨u,e3,e4⟩:=v.get e1
  rw [O4 h] at e3; cases e3
  refine ⟨x,?_,e4⟩
  rw [List.getD,O4 hj]
  exact e2
theorem good_getD {ps:List PV} {n:Nat} (g:ps.all (Jm n)=true) (j:Nat) (hj:j < ps.length):Jm n (ps.getD j .non)=true:=by
  rw [List.getD,O4 hj]
  exact (F6.mp g) _ (List.getElem_mem hj)
theorem peqL_range {ps qs:List PV}:((List.range (min ps.length qs.length)).all (fun j=>peq (ps.getD j .non) (qs.getD j .non)) && ps.length == qs.length)=Xw ps qs:=by
  by_cases e:ps.length=qs.length
  · rw [peqL_all e,<- e,Nat.min_self,beq_self_eq_true,Bool.and_true]
  · rw [peqL_len e,beq_eq_false_iff_ne.mpr e,Bool.and_false]
theorem eqAts:∀ (n:Nat) {A:Around} {p q:PV} {x y:V} {u v:Value},Inv X pins σ H s->Jm n p=true->Jm n q=true->A.units + n < cLine->Rep H ρ p x->RelV x u->Rep H ρ q y->RelV y v ->
    EqAt A s u v (peq p q)/\RcAt A s u v (peq p q)/\RcNeAt A s u v (!peq p q):=by
  intro n
  induction n with
  | zero=>
    intro A p q x y u v I gp gq hu rp ru rq rv
    have k1:=kd_of I gp rp ru
    have k2:=kd_of I gq rq rv
    have hu:A.units < cLine:=by omega
    cases k1 with
    | tup=>cases gp
    | lst p ps a vs its h=>rcases h with rfl | rfl <;> cases gp
    | non=>cases k2 with
      | tup=>cases gq
      | lst p ps a vs its h=>rcases h with rfl | rfl <;> cases gq
      | non=>exact ⟨EqAt.same _,RcAt.none_none,RcNeAt.none_none⟩
      | bl b=>exact ⟨EqAt.none_bool _,RcAt.none_bool _,RcNeAt.none_bool _⟩
      | int i t=>exact ⟨EqAt.none_int _ _,RcAt.none_int _ _,RcNeAt.none_int _ _⟩
      | str i t=>exact ⟨EqAt.none_str _ _,RcAt.none_str _ _,RcNeAt.none_str _ _⟩
    | bl a=>cases k2 with
      | tup=>cases gq
      | lst p ps a vs its h=>rcases h with rfl | rfl <;> cases gq
      | non=>exact ⟨EqAt.bool_none _,RcAt.bool_none _,RcNeAt.bool_none _⟩
      | bl b=>exact ⟨EqAt.bool_bool _ _,RcAt.bool_bool _ _,RcNeAt.bool_bool _ _⟩
      | int i t=>exact ⟨EqAt.bool_int _ _ _,RcAt.bool_int _ _ _,RcNeAt.bool_int _ _ _⟩
      | str i t=>exact ⟨EqAt.bool_str _ _ _,RcAt.bool_str _ _ _,RcNeAt.bool_str _ _ _⟩
    | int a at'=>cases k2 with
      | tup=>cases gq
      | lst p ps a vs its h=>rcases h with rfl | rfl <;> cases gq
      | non=>exact ⟨EqAt.int_none _ _,RcAt.int_none _ _,RcNeAt.int_none _ _⟩
      | bl b=>exact ⟨EqAt.int_bool _ _ _,RcAt.int_bool _ _ _,RcNeAt.int_bool _ _ _⟩
      | int i t=>exact ⟨EqAt.int_int _ _ _ _,RcAt.int_int _ _ _ _,RcNeAt.int_int _ _ _ _⟩
      | str i t=>exact ⟨EqAt.int_str _ _ _ _,RcAt.int_str _ _ _ _,RcNeAt.int_str _ _ _ _⟩
    | str a at'=>cases k2 with
      | tup=>cases gq
      | lst p ps a vs its h=>rcases h with rfl | rfl <;> cases gq
      | non=>exact ⟨EqAt.str_none _ _,RcAt.str_none _ _,RcNeAt.str_none _ _⟩
      | bl b=>exact ⟨EqAt.str_bool _ _ _,RcAt.str_bool _ _ _,RcNeAt.str_bool _ _ _⟩
      | int i t=>exact ⟨EqAt.str_int _ _ _ _,RcAt.str_int _ _ _ _,RcNeAt.str_int _ _ _ _⟩
      | str i t=>exact ⟨EqAt.str_str _ _ _ _,RcAt.str_str _ _ _ _,RcNeAt.str_str _ _ _ _⟩
  | succ n ih=>
    intro A p q x y u v I gp gq hu rp ru rq rv
    have k1:=kd_of I gp rp ru
    have k2:=kd_of I gq rq rv
    have hu0:A.units < cLine:=by omega
    have hin:A.in1.units + n < cLine:=by show A.units + 1 + n < cLine; omega
    cases k1 with
    | non=>cases k2 with
      | non=>exact ⟨EqAt.same _,RcAt.none_none,RcNeAt.none_none⟩
      | bl b=>exact ⟨EqAt.none_bool _,RcAt.none_bool _,RcNeAt.none_bool _⟩
      | int i t=>exact ⟨EqAt.none_int _ _,RcAt.none_int _ _,RcNeAt.none_int _ _⟩
      | str i t=>exact ⟨EqAt.none_str _ _,RcAt.none_str _ _,RcNeAt.none_str _ _⟩
      | tup ps a vs its ha r v1 p1=>exact ⟨EqAt.none_tuple p1 hu0,RcAt.none_tuple p1 hu0,RcNeAt.none_tuple p1 hu0⟩
      | lst p ps a vs its h r v1 p1=>rcases h with rfl | rfl <;> exact ⟨EqAt.none_list p1 hu0,RcAt.none_list p1 hu0,RcNeAt.none_list p1 hu0⟩
    | bl a=>cases k2 with
      | non=>exact ⟨EqAt.bool_none _,RcAt.bool_none _,RcNeAt.bool_none _⟩
      | bl b=>exact ⟨EqAt.bool_bool _ _,RcAt.bool_bool _ _,RcNeAt.bool_bool _ _⟩
      | int i t=>exact ⟨EqAt.bool_int _ _ _,RcAt.bool_int _ _ _,RcNeAt.bool_int _ _ _⟩
      | str i t=>exact ⟨EqAt.bool_str _ _ _,RcAt.bool_str _ _ _,RcNeAt.bool_str _ _ _⟩
      | tup ps a vs its ha r v1 p1=>exact ⟨EqAt.bool_tuple _ p1 hu0,RcAt.bool_tuple _ p1 hu0,RcNeAt.bool_tuple _ p1 hu0⟩
      | lst p ps a vs its h r v1 p1=>rcases h with rfl | rfl <;> exact ⟨EqAt.bool_list _ p1 hu0,RcAt.bool_list _ p1 hu0,RcNeAt.bool_list _ p1 hu0⟩
    | int a at'=>cases k2 with
      | non=>exact ⟨EqAt.int_none _ _,RcAt.int_none _ _,RcNeAt.int_none _ _⟩
      | bl b=>exact ⟨EqAt.int_bool _ _ _,RcAt.int_bool _ _ _,RcNeAt.int_bool _ _ _⟩
      | int i t=>exact ⟨EqAt.int_int _ _ _ _,RcAt.int_int _ _ _ _,RcNeAt.int_int _ _ _ _⟩
      | str i t=>exact ⟨EqAt.int_str _ _ _ _,RcAt.int_str _ _ _ _,RcNeAt.int_str _ _ _ _⟩
      | tup ps a vs its ha r v1 p1=>exact ⟨EqAt.int_tuple _ _ p1 hu0,RcAt.int_tuple _ _ p1 hu0,RcNeAt.int_tuple _ _ p1 hu0⟩
      | lst p ps a vs its h r v1 p1=>rcases h with rfl | rfl <;> exact ⟨EqAt.int_list _ _ p1 hu0,RcAt.int_list _ _ p1 hu0,RcNeAt.int_list _ _ p1 hu0⟩
    | str a at'=>cases k2 with
      | non=>exact ⟨EqAt.str_none _ _,RcAt.str_none _ _,RcNeAt.str_none _ _⟩
      | bl b=>exact ⟨EqAt.str_bool _ _ _,RcAt.str_bool _ _ _,RcNeAt.str_bool _ _ _⟩
      | int i t=>exact ⟨EqAt.str_int _ _ _ _,RcAt.str_int _ _ _ _,RcNeAt.str_int _ _ _ _⟩
      | str i t=>exact ⟨EqAt.str_str _ _ _ _,RcAt.str_str _ _ _ _,RcNeAt.str_str _ _ _ _⟩
      | tup ps a vs its ha r v1 p1=>exact ⟨EqAt.str_tuple _ _ p1 hu0,RcAt.str_tuple _ _ p1 hu0,RcNeAt.str_tuple _ _ p1 hu0⟩
      | lst p ps a vs its h r v1 p1=>rcases h with rfl | rfl <;> exact ⟨EqAt.str_list _ _ p1 hu0,RcAt.str_list _ _ p1 hu0,RcNeAt.str_list _ _ p1 hu0⟩
    | tup ps a vs its ha r v1 p1=>cases k2 with
      | non=>exact ⟨EqAt.tuple_none p1 hu0,RcAt.tuple_none p1 hu0,RcNeAt.tuple_none p1 hu0⟩
      | bl b=>exact ⟨EqAt.tuple_bool _ p1 hu0,RcAt.tuple_bool _ p1 hu0,RcNeAt.tuple_bool _ p1 hu0⟩
      | int i t=>exact ⟨EqAt.tuple_int _ _ p1 hu0,RcAt.tuple_int _ _ p1 hu0,RcNeAt.tuple_int _ _ p1 hu0⟩
      | str i t=>exact ⟨EqAt.tuple_str _ _ p1 hu0,RcAt.tuple_str _ _ p1 hu0,RcNeAt.tuple_str _ _ p1 hu0⟩
      | tup qs b us its2 hb r2 v2 p2=>
        have l1:its.toArray.size=ps.length:=by rw [O3,<- v1.length,r.length]
        have l2:its2.toArray.size=qs.length:=by rw [O3,<- v2.length,r2.length]
        have he:∀ j (h1:j < its.toArray.size) (h2:j < its2.toArray.size),EqAt A.in1 s its.toArray[j] its2.toArray[j] (peq (ps.getD j .non) (qs.getD j .non)):=fun j h1 h2=>by
          obtain ⟨x1,a1,b1⟩:=getD_of r v1 (j:=j) (by simpa using h1)
          obtain ⟨x2,a2,b2⟩:=getD_of r2 v2 (j:=j) (by simpa using h2)
          exact (ih I (good_getD gp j (by omega)) (good_getD gq j (by omega)) hin a1 b1 a2 b2).1
        have rc:=RcAt.tuples p1 p2 hu0 he
        have rn:=RcNeAt.tuples p1 p2 hu0 he
        rw [l1,l2,peqL_range] at rc rn
        refine ⟨?_,rc,rn⟩
        by_cases e:a=b
        · subst e
          have:Xw ps qs=true:=by
            rw [ha] at hb; cases hb
            exact Uf gp gq r r2
          show EqAt A s _ _ (Xw ps qs)
          rw [this]
          exact EqAt.same _
        · exact EqAt.of_refs e rc
      | lst q qs b us its2 h r2 v2 p2=>rcases h with rfl | rfl <;> exact ⟨EqAt.tuple_list p1 p2 hu0,RcAt.tuple_list p1 p2 hu0,RcNeAt.tuple_list p1 p2 hu0⟩
    | lst p ps a vs its h r v1 p1=>cases k2 with
      | non=>rcases h with rfl | rfl <;> exact ⟨EqAt.list_none p1 hu0,RcAt.list_none p1 hu0,RcNeAt.list_none p1 hu0⟩
      | bl b=>rcases h with rfl | rfl <;> exact ⟨EqAt.list_bool _ p1 hu0,RcAt.list_bool _ p1 hu0,RcNeAt.list_bool _ p1 hu0⟩
      | int i t=>rcases h with rfl | rfl <;> exact ⟨EqAt.list_int _ _ p1 hu0,RcAt.list_int _ _ p1 hu0,RcNeAt.list_int _ _ p1 hu0⟩
      | str i t=>rcases h with rfl | rfl <;> exact ⟨EqAt.list_str _ _ p1 hu0,RcAt.list_str _ _ p1 hu0,RcNeAt.list_str _ _ p1 hu0⟩
      | tup qs b us its2 hb r2 v2 p2=>rcases h with rfl | rfl <;> exact ⟨EqAt.list_tuple p1 p2 hu0,RcAt.list_tuple p1 p2 hu0,RcNeAt.list_tuple p1 p2 hu0⟩
      | lst q qs b us its2 h2 r2 v2 p2=>
        have l1:its.toArray.size=ps.length:=by rw [O3,<- v1.length,r.length]
        have l2:its2.toArray.size=qs.length:=by rw [O3,<- v2.length,r2.length]
        have gp':ps.all (Jm n)=true:=by rcases h with rfl | rfl <;> exact gp
        have gq':qs.all (Jm n)=true:=by rcases h2 with rfl | rfl <;> exact gq
        have ep:peq p q=Xw ps qs:=by rcases h with rfl | rfl <;> rcases h2 with rfl | rfl <;> rfl
        have he:∀ j (h1:j < its.toArray.size) (h2:j < its2.toArray.size),EqAt A.in1 s its.toArray[j] its2.toArray[j] (peq (ps.getD j .non) (qs.getD j .non)):=fun j h1 h2=>by
          obtain ⟨x1,a1,b1⟩:=getD_of r v1 (j:=j) (by simpa using h1)
          obtain ⟨x2,a2,b2⟩:=getD_of r2 v2 (j:=j) (by simpa using h2)
          exact (ih I (good_getD gp' j (by omega)) (good_getD gq' j (by omega)) hin a1 b1 a2 b2).1
        rw [ep]
        have rcn:RcAt A s (.ref a) (.ref b) (Xw ps qs)/\RcNeAt A s (.ref a) (.ref b) (!Xw ps qs):=by
          by_cases e:ps.length=qs.length
          · have rc:=RcAt.lists p1 p2 (by rw [l1,l2,e]) hu0 he
            have rn:=RcNeAt.lists p1 p2 (by rw [l1,l2,e]) hu0 he
            rw [l1,<- peqL_all e] at rc rn
            exact ⟨rc,rn⟩
          · have e':(its.toArray.size != its2.toArray.size)=true:=by rw [l1,l2]; simpa using e
            rw [peqL_len e]
            exact ⟨RcAt.lists_lengths p1 p2 e' hu0,RcNeAt.lists_lengths p1 p2 e' hu0⟩
        refine ⟨?_,rcn.1,rcn.2⟩
        by_cases e:a=b
        · subst e
          have eq1:peq p q=true:=by
            have rp':=rp
            have rq':=rq
            have xa:x=.ref a:=by
              rcases h with rfl | rfl <;> (obtain ⟨b',_,rfl,_⟩:=rp; cases ru; rfl)
            have ya:y=.ref a:=by
              rcases h2 with rfl | rfl <;> (obtain ⟨b',_,rfl,_⟩:=rq; cases rv; rfl)
            subst xa; subst ya
            exact rep_same gp gq rp rq
          rw [<- ep,eq1]
          exact EqAt.same _
        · exact EqAt.of_refs e rcn.1
end
end Sm
namespace Sm
open PySem PySem.Spec L2
def lim:Nat:=1000000
theorem lim_le:lim<=sizeLine:=by decide
theorem Uh {n:Nat} (h:n<=lim):n<=sizeLine:=E3 h lim_le
def lstOf (st:Q3):PV->Option (List PV)
  | .lst xs=>some xs
  | .ref i=>match st[i]? with
    | some (.lst xs)=>some xs
    | _=>none
  | _=>none
def listOf (st:Q3):PV->Option (List PV)
  | .fro xs=>some xs
  | p=>lstOf st p
def Ub (st:Q3):PV->Option (List PV)
  | .tup xs=>some xs
  | p=>listOf st p
def der (st:Q3):PV->PV
  | .ref i=>match st[i]? with
    | some (.lst xs)=>.lst xs
    | _=>.ref i
  | p=>p
section
variable {H:Hp} {ρ:Tk} {st:Q3} {p:PV} {v:V} {xs:List PV}
theorem lst_at (R:Rel H ρ st) (r:Rep H ρ p v) (e:lstOf st p=some xs):∃ a vs,v=.ref a/\H a=some (.lst vs)/\RepL H ρ xs vs:=by
  cases p with
  | lst ys=>
    obtain ⟨a,vs,e1,e2,_,e3⟩:=r
    cases e
    exact ⟨a,vs,e1,e2,e3⟩
  | ref i=>
    obtain ⟨a,e1,e2⟩:=r
    simp only [lstOf] at e
    split at e
    · rename_i ys hs
      cases e
      obtain ⟨b,vs,f1,f2,f3⟩:=R.lst hs
      rw [e1] at f1; cases f1
      exact ⟨a,vs,e2,f2,f3⟩
    · cases e
  | _=>cases e
theorem list_at (R:Rel H ρ st) (r:Rep H ρ p v) (e:listOf st p=some xs):∃ a vs,v=.ref a/\Rd H a (.lst vs)/\RepL H ρ xs vs:=by
  cases p with
  | fro ys=>
    obtain ⟨a,vs,e1,e2,_,e3⟩:=r
    cases e
    exact ⟨a,vs,e1,e2,e3⟩
  | _=>
    obtain ⟨a,vs,e1,e2,e3⟩:=lst_at R r e
    exact ⟨a,vs,e1,.inl e2,e3⟩
theorem seq_at {K:PySem.W.Frag} (R:Rel H ρ st) (r:Rep H ρ p v) (e:Ub st p=some xs):∃ (t:Bool) (a:Addr) (vs:List V),v=.ref a/\SqK K t H a vs/\RepL H ρ xs vs:=by
  cases p with
  | tup ys=>
    obtain ⟨a,vs,e1,e2,_,e3⟩:=r
    cases e
    exact ⟨true,a,vs,e1,show SqT K H a vs from SqT.of e2,e3⟩
  | _=>
    obtain ⟨a,vs,e1,e2,e3⟩:=list_at R r e
    exact ⟨false,a,vs,e1,show SqL K H a vs from .inl e2,e3⟩
theorem sqK_or {K:PySem.W.Frag} {t:Bool} {a:Addr} {vs:List V} (h:SqK K t H a vs):SqL K H a vs\/SqT K H a vs:=by
  cases t with
  | true=>exact .inr h
  | false=>exact .inl h
mutual
theorem rep_nil:∀ {n:Nat} {q:PV} {u:V},Jm n q=true->Rep H ρ q u->Rep H Tk.nil q u
  | _,.non,_,_,r=>r
  | _,.bl _,_,_,r=>r
  | _,.int _,_,_,r=>r
  | _,.str _,_,_,r=>r
  | 0,.tup _,_,g,_=>by cases g
  | 0,.lst _,_,g,_=>by cases g
  | 0,.fro _,_,g,_=>by cases g
  | n + 1,.tup _,_,g,⟨a,vs,e,h,_,r⟩=>⟨a,vs,e,h,Tk.not_nil _,Xv g r⟩
  | n + 1,.lst _,_,g,⟨a,vs,e,h,_,r⟩=>⟨a,vs,e,h,Tk.not_nil _,Xv g r⟩
  | n + 1,.fro _,_,g,⟨a,vs,e,h,_,r⟩=>⟨a,vs,e,h,Tk.not_nil _,Xv g r⟩
  | 0,.ref _,_,g,_=>by cases g
  | _ + 1,.ref _,_,g,_=>by cases g
  | 0,.dic,_,g,_=>by cases g
  | _ + 1,.dic,_,g,_=>by cases g
theorem Xv:∀ {n:Nat} {qs:List PV} {us:List V},qs.all (Jm n)=true->RepL H ρ qs us->RepL H Tk.nil qs us
  | _,[],_,_,r=>r
  | n,q :: qs,_,g,⟨v,r,e,h1,h2⟩=>by
    rw [List.all_cons,F3] at g
    exact ⟨v,r,e,rep_nil g.1 h1,Xv g.2 h2⟩
end
theorem der_rep (R:Rel H ρ st) {n:Nat} (g:Jm n (der st p)=true) (r:Rep H ρ p v):Rep H Tk.nil (der st p) v:=by
  cases p with
  | ref i=>
    obtain ⟨a,e1,e2⟩:=r
    simp only [der] at g ⊢
    split at g
    · rename_i ys hs
      obtain ⟨b,vs,f1,f2,f3⟩:=R.lst hs
      rw [e1] at f1; cases f1
      cases n with
      | zero=>cases g
      | succ n=>exact ⟨a,vs,e2,f2,Tk.not_nil _,Xv g f3⟩
    · cases n <;> cases g
  | _=>exact rep_nil g r
theorem new_tup {mg:Str->Option Value} {E:XK} {Q:VK} {ps:List PV} {vs:List V} (R:Rel H ρ st) (h:Acc mg E H ρ (QV Q) (.ok (.tup ps) st)) (r:RepL H ρ ps vs):∀ p,H p=none->Q (.ref p) (upd H p (.tup vs)):=
  fun p hp=>h _ ρ (Ext.add hp) (R.add hp) _ ⟨p,vs,rfl,Qs,R.fresh hp,r.ext (Ext.add hp)⟩
theorem new_lst {mg:Str->Option Value} {E:XK} {Q:VK} {ps:List PV} {vs:List V} (R:Rel H ρ st) (h:Acc mg E H ρ (QV Q) (.ok (.lst ps) st)) (r:RepL H ρ ps vs):∀ p,H p=none->Q (.ref p) (upd H p (.lst vs)):=
  fun p hp=>h _ ρ (Ext.add hp) (R.add hp) _ ⟨p,vs,rfl,Qs,R.fresh hp,r.ext (Ext.add hp)⟩
theorem now {mg:Str->Option Value} {E:XK} {Q:VK} {p:PV} (R:Rel H ρ st) (h:Acc mg E H ρ (QV Q) (.ok p st)) (r:Rep H ρ p v):Q v H:=h H ρ (Ext.refl _ _) R v r
end
section
variable {X:Cx} {E:XK} {pos:Pos}
def Q5 (i:Nat):ME:=fun Γ st=>match Γ[i]? with
  | some (some p)=>.ok p st
  | _=>.stuck
def mC (p:PV):ME:=fun _ st=>.ok p st
theorem Q1 (i:Nat) {x:Str} (hN:X.N[i]?=some x:=by rfl) (hv:Vis X.env.scope x:=by first | exact Or.inl rfl | exact Or.inr (Or.inl rfl) | exact Or.inr (Or.inr rfl)) (hd:(x == ("__debug__" : Str))=false:=by decide)
    (hcd:(x == ("__classdict__" : Str))=false:=by decide):SimE X E (.Name x pos) (Q5 i):=⟨fun Γ σ H ρ st Q R G h=>WE.of (pe_var hN hv hd hcd) (by
  unfold Q5 at h
  split at h
  · rename_i p e
    obtain ⟨v,e1,r⟩:=G.2 i p e
    exact ⟨v,e1,now R h r⟩
  · exact h.elim)⟩
theorem Qb {i:Int} {j:Nat}:SimE X E (.Constant (.int i) j pos) (mC (.int i)):=⟨fun Γ σ H ρ st Q R G h=>WE.of pe_int (now R h rfl)⟩
theorem se_bl {b:Bool} {j:Nat}:SimE X E (.Constant (.bool b) j pos) (mC (.bl b)):=⟨fun Γ σ H ρ st Q R G h=>WE.of pe_bl (now R h rfl)⟩
theorem J2 {x:Str} {j:Nat}:SimE X E (.Constant (.str x) j pos) (mC (.str x)):=⟨fun Γ σ H ρ st Q R G h=>WE.of pe_str (now R h rfl)⟩
theorem se_gint {x:Str} {i:Int} {t:Tok} (hg:Gl X x) (hm:X.mg x=some (.int i t)) (hd:(x == ("__debug__" : Str))=false:=by decide):SimE X E (.Name x pos) (mC (.int i)):=
  ⟨fun Γ σ H ρ st Q R G h=>WE.of (Y7 hg hm (v:=.int i) ⟨t,rfl⟩ hd) (now R h rfl)⟩
variable {a b c:Expr} {ma mb mc:ME}
def mOp (o:OP) (ma mb:ME):ME:=fun Γ st=>(ma Γ st).bind fun x st1=>(mb Γ st1).bind fun y st2=>o st2 x y
theorem bin_run {f:Value->Value->Sem Value} {o:OP} {Γ:Gam} {σ:St} {H:Hp} {ρ:Tk} {st:Q3} {P:PV->Q3->Hp->Tk->Prop} {Q:VK} (ho:OpS X E f o) (ha:SimE X E a ma) (hb:SimE X E b mb) (R:Rel H ρ st) (G:EnvR H ρ Γ σ) (h:Acc X.mg E H ρ P (mOp o ma mb Γ st))
    (k:∀ p st1 H1 ρ1 v,Ext H ρ H1 ρ1->Rel H1 ρ1 st1->Rep H1 ρ1 p v->P p st1 H1 ρ1->Q v H1):tOp (WO X f) (WE X a) (WE X b) σ H Q:=by
  refine ha.use R G h.bind fun p st1 H1 ρ1 v x1 R1 G1 r1 h1=>?_
  refine hb.use R1 G1 h1.bind fun q st2 H2 ρ2 u x2 R2 G2 r2 h2=>?_
  exact ho.use R2 (r1.ext x2) r2 h2 fun w st3 H3 ρ3 z x3 R3 r3 p3=>k w st3 H3 ρ3 z (x1.trans (x2.trans x3)) R3 r3 p3
theorem J0 {op:Operator} {o:OP} (ho:OpS X E (binaryOp op) o) (ha:SimE X E a ma) (hb:SimE X E b mb):SimE X E (.BinOp a op b pos) (mOp o ma mb):=
  ⟨fun Γ σ H ρ st Q R G h=>WE.of (pe_op op_w Y2 Y2) (bin_run ho ha hb R G h fun _ _ _ _ v _ _ r q=>q v r)⟩
theorem se_cmp {op:CmpOp} {o:OP} (ho:OpS X E (compareOp op) o) (ha:SimE X E a ma) (hb:SimE X E b mb) (hm:behindInMarks op b=false:=by first | exact nomark _ | rfl):SimE X E (.Compare a [op] [b] pos) (mOp o ma mb):=
  ⟨fun Γ σ H ρ st Q R G h=>WE.of (pe_cmpR op_w Y2 Y2 hm) (bin_run ho ha hb R G h fun _ _ _ _ v _ _ r q=>q v r)⟩
def asB (p:PV) (st:Q3):Res Bool:=match p with
  | .bl k=>.ok k st
  | _=>.stuck
def toB (m:ME):Gam->Q3->Res Bool:=fun Γ st=>(m Γ st).bind asB
theorem acc_b {mg:Str->Option Value} {H:Hp} {ρ:Tk} {st:Q3} {p:PV} {v:V} {P:Bool->Q3->Hp->Tk->Prop} (R:Rel H ρ st) (r:Rep H ρ p v) (h:Acc mg E H ρ P (asB p st)):∃ k,v=.bl k/\P k st H ρ:=by
  cases p with
  | bl k=>exact ⟨k,r,h H ρ (Ext.refl _ _) R⟩
  | _=>exact h.elim
theorem Jk {op:CmpOp} {o:OP} (ho:OpS X E (compareOp op) o) (ha:SimE X E a ma) (hb:SimE X E b mb) (hm:behindInMarks op b=false:=by first | exact nomark _ | rfl):SimT X E (.Compare a [op] [b] pos) (toB (mOp o ma mb)):=
  ⟨fun Γ σ H ρ st Q R G h=>WT.of (pt_cmpR op_w Y2 Y2 hm) (bin_run ho ha hb R G h.bind fun _ st1 _ _ v _ R1 r q=>by
    obtain ⟨k,e,z⟩:=acc_b R1 r q
    exact ⟨k,e,z⟩)⟩
theorem V5 {e:Expr} {m:ME} (h:SimE X E e m) (he:∀ whole,isTrue e X.env whole=(do let v <- whole; standAt e.pos; holding [v] (truthy v)):=by intro _; rfl):SimT X E e (toB m):=
  ⟨fun Γ σ H ρ st Q R G hq=>WT.of (pt_val Y2 he) (h.use R G hq.bind fun p st1 H1 ρ1 v x1 R1 G1 r1 h1=>by
    obtain ⟨k,e,z⟩:=acc_b R1 r1 h1
    exact ⟨k,e,z⟩)⟩
def mChain (o o':OP) (ma mb mc:ME):ME:=fun Γ st=>(ma Γ st).bind fun x st1=>(mb Γ st1).bind fun y st2=>(o st2 x y).bind fun k st3=>match k with
  | .bl true=>(mc Γ st3).bind fun z st4=>o' st4 y z
  | .bl false=>.ok (.bl false) st3
  | _=>.stuck
theorem chain_run {op op':CmpOp} {o o':OP} {Γ:Gam} {σ:St} {H:Hp} {ρ:Tk} {st:Q3} {P:PV->Q3->Hp->Tk->Prop} {Q:VK} (ho:OpS X E (compareOp op) o) (ho':OpS X E (compareOp op') o') (ha:SimE X E a ma) (hb:SimE X E b mb) (hc:SimE X E c mc) (R:Rel H ρ st) (G:EnvR H ρ Γ σ) (h:Acc X.mg E H ρ P (mChain o o' ma mb mc Γ st))
    (k:∀ p st1 H1 ρ1 v,Ext H ρ H1 ρ1->Rel H1 ρ1 st1->Rep H1 ρ1 p v->P p st1 H1 ρ1->Q v H1):tChain (WO X (compareOp op)) (WO X (compareOp op')) (WE X a) (WE X b) (WE X c) σ H Q:=by
  refine ha.use R G h.bind fun p st1 H1 ρ1 v x1 R1 G1 r1 h1=>?_
  refine hb.use R1 G1 h1.bind fun q st2 H2 ρ2 u x2 R2 G2 r2 h2=>?_
  refine ho.use R2 (r1.ext x2) r2 h2.bind fun w st3 H3 ρ3 z x3 R3 r3 h3=>?_
  cases w with
  | bl b=>
    refine ⟨b,r3,?_⟩
    cases b with
    | true=>
      rw [if_pos rfl]
      refine hc.use R3 (G2.ext x3) h3.bind fun y st4 H4 ρ4 yv x4 R4 G4 r4 h4=>?_
      exact ho'.use R4 (r2.ext (x3.trans x4)) r4 h4 fun w st5 H5 ρ5 z x5 R5 r5 p5=>k w st5 H5 ρ5 z (x1.trans (x2.trans (x3.trans (x4.trans x5)))) R5 r5 p5
    | false=>
      rw [if_neg O8]
      exact k (.bl false) _ H3 ρ3 _ (x1.trans (x2.trans x3)) R3 rfl (h3 H3 ρ3 (Ext.refl _ _) R3)
  | _=>exact h3.elim
theorem se_chain {op op':CmpOp} {o o':OP} (ho:OpS X E (compareOp op) o) (ho':OpS X E (compareOp op') o') (ha:SimE X E a ma) (hb:SimE X E b mb) (hc:SimE X E c mc) (hm:lastMarks [op,op'] [b,c]=false:=by with_unfolding_all rfl):SimE X E (.Compare a [op,op'] [b,c] pos) (mChain o o' ma mb mc):=
  ⟨fun Γ σ H ρ st Q R G h=>WE.of (pe_chain op_w op_w Y2 Y2 Y2 hm) (chain_run ho ho' ha hb hc R G h fun _ _ _ _ v _ _ r q=>q v r)⟩
theorem st_chain {op op':CmpOp} {o o':OP} (ho:OpS X E (compareOp op) o) (ho':OpS X E (compareOp op') o') (ha:SimE X E a ma) (hb:SimE X E b mb) (hc:SimE X E c mc) (hm:lastMarks [op,op'] [b,c]=false:=by with_unfolding_all rfl):SimT X E (.Compare a [op,op'] [b,c] pos) (toB (mChain o o' ma mb mc)):=
  ⟨fun Γ σ H ρ st Q R G h=>WT.of (pt_chain op_w op_w Y2 Y2 Y2 hm) (chain_run ho ho' ha hb hc R G h.bind fun _ st1 _ _ v _ R1 r q=>by
    obtain ⟨k,e,z⟩:=acc_b R1 r q
    exact ⟨k,e,z⟩)⟩
variable {rest:List Expr}
def mAnd (ma mb:ME):ME:=fun Γ st=>(ma Γ st).bind fun x st1=>match x with
  | .bl true=>mb Γ st1
  | .bl false=>.ok (.bl false) st1
  | _=>.stuck
def mOr (ma mb:ME):ME:=fun Γ st=>(ma Γ st).bind fun x st1=>match x with
  | .bl true=>.ok (.bl true) st1
  | .bl false=>mb Γ st1
  | _=>.stuck
def mNot (ma:ME):ME:=fun Γ st=>(ma Γ st).bind fun x st1=>match x with
  | .bl k=>.ok (.bl (!k)) st1
  | _=>.stuck
theorem se_one {op:BoolOp} (ha:SimE X E a ma):SimE X E (.BoolOp op [a] pos) ma:=⟨fun Γ σ H ρ st Q R G h=>WE.of (pe_one Y2) (ha.use R G h fun _ _ _ _ v _ _ _ r q=>q v r)⟩
theorem se_and (ha:SimE X E a ma) (hb:SimE X E (.BoolOp .And (b :: rest) pos) mb):SimE X E (.BoolOp .And (a :: b :: rest) pos) (mAnd ma mb):=
  ⟨fun Γ σ H ρ st Q R G h=>WE.of (pe_and Y2 Y2) (ha.use R G h.bind fun p st1 H1 ρ1 v x1 R1 G1 r1 h1=>by
    cases p with
    | bl k=>
      refine ⟨k,r1,?_⟩
      cases k with
      | true=>rw [if_pos rfl]; exact hb.use R1 G1 h1 fun _ _ _ _ v _ _ _ r q=>q v r
      | false=>rw [if_neg O8]; exact now R1 h1 rfl
    | _=>exact h1.elim)⟩
theorem se_or (ha:SimE X E a ma) (hb:SimE X E (.BoolOp .Or (b :: rest) pos) mb):SimE X E (.BoolOp .Or (a :: b :: rest) pos) (mOr ma mb):=
  ⟨fun Γ σ H ρ st Q R G h=>WE.of (pe_or Y2 Y2) (ha.use R G h.bind fun p st1 H1 ρ1 v x1 R1 G1 r1 h1=>by
    cases p with
    | bl k=>
      refine ⟨k,r1,?_⟩
      cases k with
      | true=>rw [if_pos rfl]; exact now R1 h1 rfl
      | false=>rw [if_neg O8]; exact hb.use R1 G1 h1 fun _ _ _ _ v _ _ _ r q=>q v r
    | _=>exact h1.elim)⟩
theorem se_not (ha:SimE X E a ma):SimE X E (.UnaryOp .Not a pos) (mNot ma):=
  ⟨fun Γ σ H ρ st Q R G h=>WE.of (pe_not Y2) (ha.use R G h.bind fun p st1 H1 ρ1 v x1 R1 G1 r1 h1=>by
    cases p with
    | bl k=>exact ⟨k,r1,now R1 h1 rfl⟩
    | _=>exact h1.elim)⟩
def mNeg (ma:ME):ME:=fun Γ st=>(ma Γ st).bind fun x st1=>match x with
  | .int k=>.ok (.int (-k)) st1
  | _=>.stuck
theorem se_neg (ha:SimE X E a ma):SimE X E (.UnaryOp .USub a pos) (mNeg ma):=
  ⟨fun Γ σ H ρ st Q R G h=>WE.of (pe_un un_neg Y2) (ha.use R G h.bind fun p st1 H1 ρ1 v x1 R1 G1 r1 h1=>by
    cases p with
    | int k=>exact ⟨k,r1,now R1 h1 rfl⟩
    | _=>exact h1.elim)⟩
abbrev MT:=Gam->Q3->Res Bool
variable {ta tb:MT}
def tAndM (ta tb:MT):MT:=fun Γ st=>(ta Γ st).bind fun k st1=>if k=true then tb Γ st1 else .ok false st1
def tOrM (ta tb:MT):MT:=fun Γ st=>(ta Γ st).bind fun k st1=>if k=true then .ok true st1 else tb Γ st1
def tNotM (ta:MT):MT:=fun Γ st=>(ta Γ st).bind fun k st1=>.ok (!k) st1
theorem SimW.t {e:Expr} (h:SimW X E e ta):SimT X E e ta:=⟨fun Γ σ H ρ st Q R G q pins s I=>h.run Γ σ H ρ st Q R G q _ pins s I⟩
theorem sw_and1 (ha:SimT X E a ta):SimW X E (.BoolOp .And [a] pos) ta:=⟨fun Γ σ H ρ st Q R G h=>WW.of (pw_and1 pt_w) (ha.use R G h fun _ _ _ _ _ _ _ q=>q)⟩
theorem sw_or1 (ha:SimT X E a ta):SimW X E (.BoolOp .Or [a] pos) ta:=⟨fun Γ σ H ρ st Q R G h=>WW.of (pw_or1 pt_w) (ha.use R G h fun _ _ _ _ _ _ _ q=>q)⟩
theorem sw_and (ha:SimT X E a ta) (hb:SimW X E (.BoolOp .And (b :: rest) pos) tb):SimW X E (.BoolOp .And (a :: b :: rest) pos) (tAndM ta tb):=
  ⟨fun Γ σ H ρ st Q R G h=>WW.of (pw_and pt_w pw_w) (ha.use R G h.bind fun k st1 H1 ρ1 x1 R1 G1 h1=>by
    cases k with
    | true=>rw [if_pos rfl] at h1 ⊢; exact hb.use R1 G1 h1 fun _ _ _ _ _ _ _ q=>q
    | false=>rw [if_neg O8] at h1 ⊢; exact h1 H1 ρ1 (Ext.refl _ _) R1)⟩
theorem sw_or (ha:SimT X E a ta) (hb:SimW X E (.BoolOp .Or (b :: rest) pos) tb):SimW X E (.BoolOp .Or (a :: b :: rest) pos) (tOrM ta tb):=
  ⟨fun Γ σ H ρ st Q R G h=>WW.of (pw_or pt_w pw_w) (ha.use R G h.bind fun k st1 H1 ρ1 x1 R1 G1 h1=>by
    cases k with
    | true=>rw [if_pos rfl] at h1 ⊢; exact h1 H1 ρ1 (Ext.refl _ _) R1
    | false=>rw [if_neg O8] at h1 ⊢; exact hb.use R1 G1 h1 fun _ _ _ _ _ _ _ q=>q)⟩
theorem Xi (ha:SimT X E a ta):SimT X E (.UnaryOp .Not a pos) (tNotM ta):=
  ⟨fun Γ σ H ρ st Q R G h=>WT.of (pt_not pt_w) (ha.use R G h.bind fun k st1 H1 ρ1 x1 R1 G1 h1=>h1 H1 ρ1 (Ext.refl _ _) R1)⟩
variable {e:Expr} {es:List Expr} {m:ME} {mr:Gam->Q3->Res (List PV)}
def Q8:Gam->Q3->Res (List PV):=fun _ st=>.ok [] st
def Q2 (m:ME) (mr:Gam->Q3->Res (List PV)):Gam->Q3->Res (List PV):=fun Γ st=>(m Γ st).bind fun p st1=>(mr Γ st1).bind fun ps st2=>.ok (p :: ps) st2
theorem Q6:SimA X E [] Q8:=⟨fun Γ σ H ρ st Q R G h=>WA.of Z6 (h H ρ (Ext.refl _ _) R [] rfl)⟩
theorem Q0 (ha:SimE X E e m) (hr:SimA X E es mr) (hs:starEach (e :: es) X.env=(false,eval e X.env) :: starEach es X.env:=by rfl):SimA X E (e :: es) (Q2 m mr):=
  ⟨fun Γ σ H ρ st Q R G h=>WA.of (Qx Y2 pa_w hs) (ha.use R G h.bind fun p st1 H1 ρ1 v x1 R1 G1 r1 h1=>hr.use R1 G1 h1.bind fun ps st2 H2 ρ2 vs x2 R2 G2 r2 h2=>
    h2 H2 ρ2 (Ext.refl _ _) R2 (v :: vs) ⟨v,vs,rfl,r1.ext x2,r2⟩)⟩
def Ji (mr:Gam->Q3->Res (List PV)):ME:=fun Γ st=>(mr Γ st).bind fun ps st1=>if ps.length<=lim then .ok (.tup ps) st1 else .stuck
def mLst (mr:Gam->Q3->Res (List PV)):ME:=fun Γ st=>(mr Γ st).bind fun ps st1=>if ps.length<=lim then .ok (.lst ps) st1 else .stuck
theorem Jb {k:Nat} (h:SimA X E es mr):SimE X E (.Tuple es k pos) (Ji mr):=
  ⟨fun Γ σ H ρ st Q R G hq=>WE.of (pe_tup pa_w) (h.use R G hq.bind fun ps st1 H1 ρ1 vs x1 R1 G1 r1 h1=>by
    by_cases hl:ps.length<=lim
    · rw [if_pos hl] at h1
      exact ⟨by rw [<- r1.length]; exact Uh hl,new_tup R1 h1 r1⟩
    · rw [if_neg hl] at h1; exact h1.elim)⟩
theorem se_lst (h:SimA X E es mr):SimE X E (.List es pos) (mLst mr):=
  ⟨fun Γ σ H ρ st Q R G hq=>WE.of (pe_lst pa_w) (h.use R G hq.bind fun ps st1 H1 ρ1 vs x1 R1 G1 r1 h1=>by
    by_cases hl:ps.length<=lim
    · rw [if_pos hl] at h1
      exact ⟨by rw [<- r1.length]; exact Uh hl,new_lst R1 h1 r1⟩
    · rw [if_neg hl] at h1; exact h1.elim)⟩
end
end Sm
namespace HT
open PySem PySem.Spec PyProof.Rows
section
variable {prog:Program} {w:World} {A:Around} {E:Value->Shared->Prop} {s:Shared}
theorem getItem_tuple_whole {t sl:Addr} {items:Array Value} {vl vu:Value} {lo hi:Option Int} {Q:Value->Shared->Prop} (ht:IsTup s.heap t items) (hs:s.heap.IsSliceOf sl vl vu .none) (pl:IsPart vl lo) (pu:IsPart vu hi)
    (hw:sIx items.size 0 lo=0/\sIx items.size items.size hi=items.size)
    (h:Q (.ref t) s):wpAny (model prog w) A (getItem (.ref t) (.ref sl)) Q E s:=by
  obtain ⟨os,hos,hcs,hds⟩:=id hs
  have hTs:s.TypeIs (.ref sl) "slice" := ⟨os,hos,hcs⟩
  unfold getItem
  try with_reducible refine wpAny_holding ?_
  first | refine wpAny_bind (wpAny_pure ?_) | skip
  refine wpAny_bind (wpAny_sequenceKey ht.typeIs (by decide) ?_)
  refine wpAny_bind (wpAny_callSpecial?_slot (name:=Str.ofString "__getitem__") ht.typeIs PyProof.Rows.slot_tuple_getitem
    (wpAny_call_entry PyProof.Rows.slot_tuple_getitem ht.typeIs entry_tuple_getitem ?_ (args_tuple_getitem _ _)))
  show wpAny _ _ (Builtin.Tuple.tupleItemsOf (.ref t) >>= _) _ _ s
  refine wpAny_bind (tupleItemsOf_ ht ?_)
  refine wpAny_bind (wpAny_typeOf hTs ?_)
  rw [if_pos (by decide)]
  refine wpAny_bind (sliceApplied_gen hs pl pu ?_)
  have hyes:(((sIx items.size 0 lo:Nat):Int) == 0 && (1:Int) == 1 && (sIx items.size items.size hi - sIx items.size 0 lo) == items.size)=true:=by
    rw [hw.1,hw.2]; simp
  show wpAny _ _ (if (((sIx items.size 0 lo:Nat):Int) == 0 && (1:Int) == 1 && (sIx items.size items.size hi - sIx items.size 0 lo) == items.size)=true then _ else _) _ _ s
  rw [if_pos hyes]
  refine wpAny_bind (wpAny_bind (wpAny_typeOf ht.typeIs (wpAny_pure ?_)))
  rw [if_pos (by rfl)]
  exact wpAny_bind (wpAny_rule (wpAny_pure ⟨_,rfl,wpAny_pure h⟩))
end
end HT
namespace L2
open PySem PySem.Spec PyProof.Rows
def rSlW (K:PySem.W.Frag):V->Option Int->Option Int->Hp->VK->Prop:=fun x lo hi H Q=>∃ a xs,x=.ref a/\SqT K H a xs /\
  (HT.sIx xs.length 0 lo=0/\HT.sIx xs.length xs.length hi=xs.length)/\Q (.ref a) H
theorem sl_whole {X:Cx}:SlR X (rSlW X.K):=by
  intro pins s σ H x v vl vu lo hi sl Q I rx hs pl pu h
  obtain ⟨a,xs,rfl,hx,hw,q⟩:=h
  cases rx
  obtain ⟨its,r,ht,hz⟩:=I.tuple hx
  have hlen:its.toArray.size=xs.length:=by rw [O3]; exact r.length.symm
  refine ⟨"tuple",_,PyProof.Rows.slot_tuple_getitem.lookup,ht.typeIs,?_⟩
  exact HT.getItem_tuple_whole ht hs pl pu (by rw [hlen]; exact hw) ⟨.ref a,H,I,rfl,q⟩
end L2
namespace Sm
open PySem PySem.Spec L2
section
variable {X:Cx} {E:XK} {pos:Pos}
def oI (g:Int->Int->PV):OP:=fun st p q=>match p,q with
  | .int a,.int b=>.ok (g a b) st
  | _,_=>.stuck
def Js:OP:=fun st p q=>match p,q with
  | .int a,.int b=>.ok (.int (a + b)) st
  | .str a,.str b=>if a.length + b.length<=lim then .ok (.str (a ++ b)) st else .stuck
  | .tup xs,.tup ys=>if xs.length + ys.length<=lim then .ok (.tup (xs ++ ys)) st else .stuck
  | p,q=>match lstOf st p,lstOf st q with
    | some xs,some ys=>if xs.length + ys.length<=lim then .ok (.lst (xs ++ ys)) st else .stuck
    | _,_=>.stuck
theorem J4:OpS X E (binaryOp .Add) Js:=⟨fun H ρ st p q x y Q R rp rq h=>by
  unfold Js at h
  split at h
  · cases rp; cases rq
    exact WO.of op_add ⟨_,_,rfl,rfl,now R h rfl⟩
  · cases rp; cases rq
    split at h
    · rename_i hl
      exact WO.of op_add_str ⟨_,_,rfl,rfl,Uh hl,now R h rfl⟩
    · exact h.elim
  · split at h
    · rename_i xs ys hl
      obtain ⟨a,vs,rfl,ha,na,ra⟩:=rp
      obtain ⟨b,us,rfl,hb,nb,rb⟩:=rq
      refine WO.of op_cat2 ?_
      by_cases e:xs=[]
      · subst e
        cases ra
        exact .inr ⟨a,b,us,rfl,rfl,SqT.of ha,SqT.of hb,now R h ⟨b,us,rfl,hb,nb,rb⟩⟩
      · refine .inl ⟨a,b,vs,us,rfl,rfl,SqT.of ha,SqT.of hb,fun z=>e ?_,by rw [<- ra.length,<- rb.length]; exact Uh hl,fun z=>?_,fun z=>new_tup R h (ra.append rb)⟩
        · subst z
          cases xs with
          | nil=>rfl
          | cons _ _=>have:=ra.length; simp at this
        · subst z
          have:ys=[]:=by
            cases ys with
            | nil=>rfl
            | cons _ _=>have:=rb.length; simp at this
          subst this
          rw [List.append_nil] at h
          exact now R h ⟨a,vs,rfl,ha,na,ra⟩
    · exact h.elim
  · split at h
    · rename_i xs ys e1 e2
      split at h
      · rename_i hl
        obtain ⟨a,vs,rfl,ha,ra⟩:=lst_at R rp e1
        obtain ⟨b,us,rfl,hb,rb⟩:=lst_at R rq e2
        exact WO.of op_cat ⟨a,b,vs,us,rfl,rfl,ha,hb,by rw [<- ra.length,<- rb.length]; exact Uh hl,new_lst R h (ra.append rb)⟩
      · exact h.elim
    · exact h.elim⟩
theorem os_sub:OpS X E (binaryOp .Sub) (oI fun a b=>.int (a - b)):=⟨fun H ρ st p q x y Q R rp rq h=>by
  unfold oI at h
  split at h
  · cases rp; cases rq
    exact WO.of op_sub ⟨_,_,rfl,rfl,now R h rfl⟩
  · exact h.elim⟩
def oMul:OP:=fun st p q=>match p,q with
  | .int a,.int b=>if (-(2 ^ 64) < a/\a < 2 ^ 64)\/(-(2 ^ 64) < b/\b < 2 ^ 64) then .ok (.int (a * b)) st else .stuck
  | .tup xs,.int b=>if xs≠[]/\1<=b/\xs.length * b.toNat<=4096 then .ok (.tup (List.replicate b.toNat xs).flatten) st else .stuck
  | p,.int b=>match lstOf st p with
    | some xs=>if -(2 ^ 63)<=b/\b < 2 ^ 63/\xs.length * b.toNat<=lim then .ok (.lst (List.replicate b.toNat xs).flatten) st else .stuck
    | none=>.stuck
  | _,_=>.stuck
theorem os_mul:OpS X E (binaryOp .Mult) oMul:=⟨fun H ρ st p q x y Q R rp rq h=>by
  unfold oMul at h
  split at h
  · cases rp; cases rq
    split at h
    · rename_i hc
      exact WO.of op_mul ⟨_,_,rfl,rfl,hc,now R h rfl⟩
    · exact h.elim
  · cases rq
    split at h
    · rename_i xs b hc
      obtain ⟨a,vs,rfl,ha,na,ra⟩:=rp
      refine WO.of op_repT ⟨a,b,vs,rfl,rfl,SqT.of ha,fun z=>hc.1 ?_,hc.2.1,by rw [<- ra.length]; exact hc.2.2,fun z=>?_,fun z=>new_tup R h (ra.rep _)⟩
      · subst z
        cases xs with
        | nil=>rfl
        | cons _ _=>have:=ra.length; simp at this
      · subst z
        have e1:(List.replicate (Int.toNat 1) xs).flatten=xs:=by simp
        rw [e1] at h
        exact now R h ⟨a,vs,rfl,ha,na,ra⟩
    · exact h.elim
  · cases rq
    split at h
    · rename_i xs e1
      split at h
      · rename_i hc
        obtain ⟨a,vs,rfl,ha,ra⟩:=lst_at R rp e1
        exact WO.of op_rep ⟨a,_,vs,rfl,rfl,ha,hc.1,hc.2.1,by rw [<- ra.length]; exact Uh hc.2.2,new_lst R h (ra.rep _)⟩
      · exact h.elim
    · exact h.elim
  · exact h.elim⟩
def oMod:OP:=fun st p q=>match p,q with
  | .int a,.int b=>if 0 < b then .ok (.int (a % b)) st else .stuck
  | _,_=>.stuck
theorem os_mod:OpS X E (binaryOp .Mod) oMod:=⟨fun H ρ st p q x y Q R rp rq h=>by
  unfold oMod at h
  split at h
  · cases rp; cases rq
    split at h
    · rename_i hc
      exact WO.of op_mod ⟨_,_,rfl,rfl,hc,now R h rfl⟩
    · exact h.elim
  · exact h.elim⟩
def oDiv:OP:=fun st p q=>match p,q with
  | .int a,.int b=>if 0 < b/\b < 1073741824 then .ok (.int (a / b)) st else .stuck
  | _,_=>.stuck
theorem os_div:OpS X E (binaryOp .FloorDiv) oDiv:=⟨fun H ρ st p q x y Q R rp rq h=>by
  unfold oDiv at h
  split at h
  · cases rp; cases rq
    split at h
    · rename_i hc
      exact WO.of op_fdiv ⟨_,_,rfl,rfl,hc,now R h rfl⟩
    · exact h.elim
  · exact h.elim⟩
def oPow:OP:=fun st p q=>match p,q with
  | .int a,.int b=>if 0<=b/\b<=1000000/\a.natAbs < 2 ^ 64 then .ok (.int (a ^ b.toNat)) st else .stuck
  | _,_=>.stuck
theorem os_pow:OpS X E (binaryOp .Pow) oPow:=⟨fun H ρ st p q x y Q R rp rq h=>by
  unfold oPow at h
  split at h
  · cases rp; cases rq
    split at h
    · rename_i hc
      exact WO.of op_pow ⟨_,_,rfl,rfl,hc,now R h rfl⟩
    · exact h.elim
  · exact h.elim⟩
theorem oI_cmp {op:CmpOp} {g:Int->Int->Bool} (ho:OpR X (compareOp op) (rI0 fun i j=>.bl (g i j))):OpS X E (compareOp op) (oI fun a b=>.bl (g a b)):=⟨fun H ρ st p q x y Q R rp rq h=>by
  unfold oI at h
  split at h
  · cases rp; cases rq
    exact WO.of ho ⟨_,_,rfl,rfl,now R h rfl⟩
  · exact h.elim⟩
theorem os_le:OpS X E (compareOp .LtE) (oI fun a b=>.bl (decide (a<=b))):=oI_cmp op_le
theorem os_gt:OpS X E (compareOp .Gt) (oI fun a b=>.bl (decide (b < a))):=oI_cmp op_gt
theorem os_ge:OpS X E (compareOp .GtE) (oI fun a b=>.bl (decide (b<=a))):=oI_cmp op_ge
def intsOf:List PV->Option (List Int)
  | []=>some []
  | .int i :: ps=>(intsOf ps).map (i :: ·)
  | _ :: _=>none
def blsOf:List PV->Option (List Bool)
  | []=>some []
  | .bl i :: ps=>(blsOf ps).map (i :: ·)
  | _ :: _=>none
theorem ints_map (ns:List Int):intsOf (ns.map .int)=some ns:=by
  induction ns with
  | nil=>rfl
  | cons n ns ih=>rw [F5,intsOf,ih]; rfl
theorem bls_map (ns:List Bool):blsOf (ns.map .bl)=some ns:=by
  induction ns with
  | nil=>rfl
  | cons n ns ih=>rw [F5,blsOf,ih]; rfl
theorem ints_eq:∀ {ps:List PV} {ns:List Int},intsOf ps=some ns->ps=ns.map .int
  | [],ns,h=>by cases h; rfl
  | .int i :: ps,ns,h=>by
    rw [intsOf] at h
    cases e:intsOf ps with
    | none=>rw [e] at h; cases h
    | some ms=>rw [e] at h; cases h; rw [ints_eq e]; rfl
  | .non :: _,_,h | .bl _ :: _,_,h | .str _ :: _,_,h | .tup _ :: _,_,h | .lst _ :: _,_,h | .fro _ :: _,_,h | .ref _ :: _,_,h | .dic :: _,_,h=>by cases h
theorem bls_eq:∀ {ps:List PV} {ns:List Bool},blsOf ps=some ns->ps=ns.map .bl
  | [],ns,h=>by cases h; rfl
  | .bl i :: ps,ns,h=>by
    rw [blsOf] at h
    cases e:blsOf ps with
    | none=>rw [e] at h; cases h
    | some ms=>rw [e] at h; cases h; rw [bls_eq e]; rfl
  | .non :: _,_,h | .int _ :: _,_,h | .str _ :: _,_,h | .tup _ :: _,_,h | .lst _ :: _,_,h | .fro _ :: _,_,h | .ref _ :: _,_,h | .dic :: _,_,h=>by cases h
def oLt:OP:=fun st p q=>match p,q with
  | .int a,.int b=>.ok (.bl (decide (a < b))) st
  | .tup xs,.tup ys=>match intsOf xs,intsOf ys with
    | some ns,some ms=>.ok (.bl (HT.lexLt ns ms)) st
    | _,_=>.stuck
  | _,_=>.stuck
theorem os_lt (hu:X.A.units + 64 < cLine):OpS X E (compareOp .Lt) oLt:=⟨fun H ρ st p q x y Q R rp rq h=>by
  unfold oLt at h
  split at h
  · cases rp; cases rq
    exact WO.of op_lt ⟨_,_,rfl,rfl,now R h rfl⟩
  · split at h
    · rename_i ns ms e1 e2
      obtain ⟨a,vs,rfl,ha,na,ra⟩:=rp
      obtain ⟨b,us,rfl,hb,nb,rb⟩:=rq
      rw [ints_eq e1] at ra
      rw [ints_eq e2] at rb
      rw [ra.toInts] at ha
      rw [rb.toInts] at hb
      exact WO.of (op_ltT (by omega)) ⟨a,b,ns,ms,rfl,rfl,SqT.of ha,SqT.of hb,now R h rfl⟩
    · exact h.elim
  · exact h.elim⟩
def dep:Nat:=12
def oEq:OP:=fun st p q=>if Jm dep (der st p)=true/\Jm dep (der st q)=true then .ok (.bl (peq (der st p) (der st q))) st else .stuck
def oNe:OP:=fun st p q=>if Jm dep (der st p)=true/\Jm dep (der st q)=true then .ok (.bl (!peq (der st p) (der st q))) st else .stuck
theorem Uc (hu:X.A.units + 64 < cLine):OpS X E (compareOp .Eq) oEq:=⟨fun H ρ st p q x y Q R rp rq h=>by
  unfold oEq at h
  split at h
  · rename_i g
    intro pins s σ v u I rv ru
    exact (eqAts dep I g.1 g.2 (by unfold dep; omega) (der_rep R g.1 rp) rv (der_rep R g.2 rq) ru).2.1 _ _ _ _ ⟨.bl _,H,I,rfl,now R h rfl⟩
  · exact h.elim⟩
theorem os_ne (hu:X.A.units + 64 < cLine):OpS X E (compareOp .NotEq) oNe:=⟨fun H ρ st p q x y Q R rp rq h=>by
  unfold oNe at h
  split at h
  · rename_i g
    intro pins s σ v u I rv ru
    exact (eqAts dep I g.1 g.2 (by unfold dep; omega) (der_rep R g.1 rp) rv (der_rep R g.2 rq) ru).2.2 _ _ _ _ ⟨.bl _,H,I,rfl,now R h rfl⟩
  · exact h.elim⟩
def oIn (neg:Bool):OP:=fun st p q=>match Ub st q with
  | some xs=>if Jm dep (der st p)=true/\xs.all (Jm dep)=true then .ok (.bl ((xs.any fun y=>peq y (der st p)) != neg)) st else .stuck
  | none=>.stuck
open Classical in
theorem in_items {pins:List (Addr × Obj)} {σ:St} {H:Hp} {ρ:Tk} {s:Shared} {A:Around} {st:Q3} {p:PV} {xs:List PV} {x:V} {v:Value} {vs:List V} {its:List Value} (I:Inv X pins σ H s) (hu:A.units + dep < cLine) (R:Rel H ρ st)
    (gp:Jm dep (der st p)=true) (gx:xs.all (Jm dep)=true) (rp:Rep H ρ p x) (rv:RelV x v) (ra:RepL H ρ xs vs) (vi:Vals vs its):∃ e:Value->Bool,(∀ u,u∈its.toArray->SeqAt.EqAt A s u v (e u))/\its.toArray.any e=xs.any fun y=>peq y (der st p):=by
  have key:∀ u∈its,∃ q∈xs,∃ y,Rep H Tk.nil q y/\RelV y u:=fun u hu=>by
    obtain ⟨j,hj,rfl⟩:=List.getElem_of_mem hu
    have l1:=vi.length
    have l2:=ra.length
    obtain ⟨y,e1,e2⟩:=(Xv gx ra).get (O4 (show j < xs.length by omega))
    obtain ⟨w,e3,e4⟩:=vi.get e1
    rw [O4 hj] at e3; cases e3
    exact ⟨_,List.getElem_mem _,y,e2,e4⟩
  refine ⟨fun u=>decide (∃ q∈xs,∃ y,Rep H Tk.nil q y/\RelV y u/\peq q (der st p)=true),fun u hm=>?_,?_⟩
  · have hm':u∈its:=by simpa using hm
    by_cases z:∃ q∈xs,∃ y,Rep H Tk.nil q y/\RelV y u/\peq q (der st p)=true
    · show SeqAt.EqAt A s u v (decide _)
      rw [decide_eq_true z]
      obtain ⟨q,hq,y,r1,r2,e⟩:=z
      have:=(eqAts dep I ((F6.mp gx) q hq) gp hu r1 r2 (der_rep R gp rp) rv).1
      rw [e] at this
      exact this
    · show SeqAt.EqAt A s u v (decide _)
      rw [decide_eq_false z]
      obtain ⟨q,hq,y,r1,r2⟩:=key u hm'
      have:=(eqAts dep I ((F6.mp gx) q hq) gp hu r1 r2 (der_rep R gp rp) rv).1
      cases e:peq q (der st p) with
      | true=>exact absurd ⟨q,hq,y,r1,r2,e⟩ z
      | false=>rw [e] at this; exact this
  · rw [Bool.eq_iff_iff,Array.any_eq_true,List.any_eq_true]
    constructor
    · rintro ⟨j,hj,e⟩
      obtain ⟨q,hq,y,r1,r2,e⟩:=of_decide_eq_true e
      exact ⟨q,hq,e⟩
    · rintro ⟨q,hq,e⟩
      obtain ⟨j,hj,rfl⟩:=List.getElem_of_mem hq
      have l1:=vi.length
      have l2:=ra.length
      have hj':j < its.length:=by omega
      obtain ⟨y,e1,e2⟩:=(Xv gx ra).get (O4 hj)
      obtain ⟨w,e3,e4⟩:=vi.get e1
      refine ⟨j,by simpa using hj',decide_eq_true ⟨_,hq,y,e2,?_,e⟩⟩
      rw [O4 hj'] at e3; cases e3
      simpa using e4
theorem os_notin (hu:X.A.units + 64 < cLine):OpS X E (compareOp .NotIn) (oIn true):=⟨fun H ρ st p q x y Q R rp rq h=>by
  unfold oIn at h
  split at h
  · rename_i xs es
    split at h
    · rename_i g
      obtain ⟨t,a,vs,rfl,hq,ra⟩:=seq_at (K:=X.K) R rq es
      intro pins s σ v u I rv ru
      cases ru
      rw [Bool.bne_true] at h
      cases t with
      | true=>
        obtain ⟨its,r,pl,hz⟩:=I.tuple hq
        obtain ⟨e,he,ea⟩:=in_items (A:=X.A.in1) I (by show X.A.units + 1 + dep < cLine; unfold dep; omega) R g.1 g.2 rp rv ra r
        refine SeqAt.notIn_tupleAt e pl he ⟨.bl _,H,I,rfl,?_⟩
        rw [ea]
        exact now R h rfl
      | false=>
        obtain ⟨its,r,pl,hz⟩:=I.list hq
        obtain ⟨e,he,ea⟩:=in_items (A:=X.A.in1) I (by show X.A.units + 1 + dep < cLine; unfold dep; omega) R g.1 g.2 rp rv ra r
        refine SeqAt.notIn_listAt e pl.isList he ⟨.bl _,H,I,rfl,?_⟩
        rw [ea]
        exact now R h rfl
    · exact h.elim
  · exact h.elim⟩
end
end Sm
namespace Sm
open PySem PySem.Spec L2
section
variable {H:Hp} {ρ:Tk}
theorem RepL.atI {ps:List PV} {vs:List V} {i:Int} {p:PV} (r:RepL H ρ ps vs) (e:atI ps i=some p):∃ v,L2.atI vs i=some v/\Rep H ρ p v:=by
  unfold L2.atI at e ⊢
  rw [<- r.length]
  cases q:ixN ps.length i with
  | none=>rw [q] at e; cases e
  | some j=>
    rw [q] at e
    exact r.get e
def cut {α:Type} (xs:List α) (lo hi:Option Int):List α:=(xs.drop (HT.sIx xs.length 0 lo)).take (HT.sIx xs.length xs.length hi - HT.sIx xs.length 0 lo)
theorem RepL.cut {ps:List PV} {vs:List V} (r:RepL H ρ ps vs) (lo hi:Option Int):RepL H ρ (Sm.cut ps lo hi) (cutV vs lo hi):=by
  unfold Sm.cut cutV
  rw [<- r.length]
  exact (r.drop _).take _
end
section
variable {X:Cx} {E:XK} {pos:Pos} {a b:Expr} {ma mb:ME}
def oIx:OP:=fun st p q=>match Ub st p,q with
  | some xs,.int i=>okO st (atI xs i)
  | _,_=>.stuck
theorem J8 (ha:SimE X E a ma) (hb:SimE X E b mb) (hs:PlainIx b:=by exact fun _ _=>rfl):SimE X E (.Subscript a b pos) (mOp oIx ma mb):=
  ⟨fun Γ σ H ρ st Q R G h=>WE.of (pe_ix ix_seq Y2 Y2 hs) (ha.use R G h.bind fun p st1 H1 ρ1 v x1 R1 G1 r1 h1=>hb.use R1 G1 h1.bind fun q st2 H2 ρ2 u x2 R2 G2 r2 h2=>by
    unfold oIx at h2
    split at h2
    · rename_i xs i e
      cases r2
      cases ea:atI xs i with
      | none=>rw [ea] at h2; exact h2.elim
      | some w=>
        rw [ea] at h2
        obtain ⟨t,b,vs,rfl,hq,ra⟩:=seq_at (K:=X.K) R2 (r1.ext x2) e
        obtain ⟨z,ez,rz⟩:=ra.atI ea
        cases t with
        | true=>exact .inr (.inl ⟨b,vs,i,z,rfl,rfl,hq,ez,now R2 h2 rz⟩)
        | false=>exact .inl ⟨b,vs,i,z,rfl,rfl,hq,ez,now R2 h2 rz⟩
    · exact h2.elim)⟩
structure SimO (X:Cx) (E:XK) (o:Option Expr) (m:Gam->Q3->Res (Option Int)):Prop where
  run:∀ (Γ:Gam) (σ:St) (H:Hp) (ρ:Tk) (st:Q3) (P:Option Int->Q3->Hp->Tk->Prop) (Q:Option Int->Hp->Prop),Rel H ρ st->EnvR H ρ Γ σ->Acc X.mg E H ρ P (m Γ st) ->
    (∀ i st1 H1 ρ1,Ext H ρ H1 ρ1->Rel H1 ρ1 st1->EnvR H1 ρ1 Γ σ->P i st1 H1 ρ1->Q i H1)->∃ t,PO X o t/\t σ H Q
def Ze:Gam->Q3->Res (Option Int):=fun _ st=>.ok none st
def Yv (m:ME):Gam->Q3->Res (Option Int):=fun Γ st=>(m Γ st).bind fun p st1=>match p with
  | .int i=>.ok (some i) st1
  | _=>.stuck
theorem Vi:SimO X E none Ze:=⟨fun Γ σ H ρ st P Q R G h k=>⟨_,po_none,k none st H ρ (Ext.refl _ _) R G (h H ρ (Ext.refl _ _) R)⟩⟩
theorem Wf (ha:SimE X E a ma):SimO X E (some a) (Yv ma):=⟨fun Γ σ H ρ st P Q R G h k=>⟨_,po_some Y2,ha.use R G h.bind fun p st1 H1 ρ1 v x1 R1 G1 r1 h1=>by
  cases p with
  | int i=>exact ⟨i,r1,k (some i) st1 H1 ρ1 x1 R1 G1 (h1 H1 ρ1 (Ext.refl _ _) R1)⟩
  | _=>exact h1.elim⟩⟩
def oSl (st:Q3) (p:PV) (lo hi:Option Int):Res PV:=match p with
  | .tup xs=>.ok (.tup (cut xs lo hi)) st
  | p=>match listOf st p with
    | some xs=>.ok (.lst (cut xs lo hi)) st
    | none=>.stuck
def mSl (ma:ME) (ml mh:Gam->Q3->Res (Option Int)):ME:=fun Γ st=>(ma Γ st).bind fun p st1=>(ml Γ st1).bind fun lo st2=>(mh Γ st2).bind fun hi st3=>oSl st3 p lo hi
def TO.w (X:Cx) (o:Option Expr):TO:=fun σ H Q=>∃ t,PO X o t/\t σ H Q
theorem po_w {o:Option Expr}:PO X o (TO.w X o):=fun pins s σ H Q I ⟨t,h,q⟩=>h pins s σ H Q I q
theorem Yq {lo hi:Option Expr} {ml mh:Gam->Q3->Res (Option Int)} {p2:Pos} (ha:SimE X E a ma) (hl:SimO X E lo ml) (hh:SimO X E hi mh):SimE X E (.Subscript a (.Slice lo hi none p2) pos) (mSl ma ml mh):=
  ⟨fun Γ σ H ρ st Q R G h=>WE.of (pe_slice (sl_tup.or (sl_whole.or sl_list)) Y2 po_w po_w) (ha.use R G h.bind fun p st1 H1 ρ1 v x1 R1 G1 r1 h1=>by
    refine hl.run Γ σ H1 ρ1 st1 _ _ R1 G1 h1.bind fun l st2 H2 ρ2 x2 R2 G2 h2=>?_
    refine hh.run Γ σ H2 ρ2 st2 _ _ R2 G2 h2.bind fun u st3 H3 ρ3 x3 R3 G3 h3=>?_
    have r3:=r1.ext (x2.trans x3)
    unfold oSl at h3
    split at h3
    · rename_i xs
      obtain ⟨a,vs,rfl,ha,na,ra⟩:=r3
      by_cases hw:HT.sIx vs.length 0 l=0/\HT.sIx vs.length vs.length u=vs.length
      · refine .inr (.inl ⟨a,vs,rfl,SqT.of ha,hw,?_⟩)
        have e:cut xs l u=xs:=by
          unfold cut
          rw [ra.length,hw.1,hw.2,List.drop_zero,Nat.sub_zero,<- ra.length,List.take_length]
        rw [e] at h3
        exact now R3 h3 ⟨a,vs,rfl,ha,na,ra⟩
      · exact .inl ⟨a,vs,rfl,SqT.of ha,hw,new_tup R3 h3 (ra.cut l u)⟩
    · split at h3
      · rename_i xs e
        obtain ⟨a,vs,rfl,ha,ra⟩:=list_at R3 r3 e
        exact .inr (.inr ⟨a,vs,rfl,.inl ha,new_lst R3 h3 (ra.cut l u)⟩)
      · exact h3.elim)⟩
variable {es:List Expr} {e:Expr} {mr:Gam->Q3->Res (List PV)}
def Ja (o:CF) (mr:Gam->Q3->Res (List PV)):ME:=fun Γ st=>(mr Γ st).bind fun ps st1=>o st1 ps
theorem CallS.use {f:Value} {o:CF} (s:CallS X E f o) {P:PV->Q3->Hp->Tk->Prop} {Q:VK} {H:Hp} {ρ:Tk} {st:Q3} {ps:List PV} {xs:List V} (R:Rel H ρ st) (rp:RepL H ρ ps xs) (h:Acc X.mg E H ρ P (o st ps))
    (k:∀ p st1 H1 ρ1 v,Ext H ρ H1 ρ1->Rel H1 ρ1 st1->Rep H1 ρ1 p v->P p st1 H1 ρ1->Q v H1):WC X f xs H Q:=by
  refine s.run H ρ st ps xs Q R rp ?_
  cases r:o st ps with
  | ok p st1=>rw [r] at h; exact fun H' ρ' x' R' v rv=>k p st1 H' ρ' v x' R' rv (h H' ρ' x' R')
  | exc e st=>rw [r] at h; exact h
  | stuck=>rw [r] at h; exact h
theorem Qv {id:String} {x:Str} {p:Pos} {o:CF} (hc:CallS X E (.builtin id) o) (hg:Gl X x) (hm:X.mg x=none) (hv:bootBuiltins x=some (.builtin id)) (ha:SimA X E (e :: es) mr) (hn:x≠"__name__" := by decide) (hdb:(x == ("__debug__" : Str))=false:=by decide)
    (he:starEach (e :: es) X.env=(false,eval e X.env) :: starEach es X.env:=by rfl) (hpl:(backTo pos (starEach es X.env)).any (·.1)=false:=by rfl):SimE X E (.Call (.Name x p) (e :: es) [] pos) (Ja o mr):=
  ⟨fun Γ σ H ρ st Q R G h=>WE.of (Z0 call_w hg hm hv pa_w hn hdb he hpl) (ha.use R G h.bind fun ps st1 H1 ρ1 vs x1 R1 G1 r1 h1=>hc.use R1 r1 h1 fun _ _ _ _ v _ _ r q=>q v r)⟩
theorem Xk {T:String} {x:Str} {p:Pos} {o:CF} (hc:CallS X E (.type T) o) (hg:Gl X x) (hm:X.mg x=none) (hv:bootBuiltins x=some (.type T)) (ha:SimA X E (e :: es) mr) (hn:x≠"__name__" := by decide) (hdb:(x == ("__debug__" : Str))=false:=by decide)
    (he:starEach (e :: es) X.env=(false,eval e X.env) :: starEach es X.env:=by rfl) (hpl:(backTo pos (starEach es X.env)).any (·.1)=false:=by rfl):SimE X E (.Call (.Name x p) (e :: es) [] pos) (Ja o mr):=
  ⟨fun Γ σ H ρ st Q R G h=>WE.of (pe_callTy call_w hg hm hv pa_w hn hdb he hpl) (ha.use R G h.bind fun ps st1 H1 ρ1 vs x1 R1 G1 r1 h1=>hc.use R1 r1 h1 fun _ _ _ _ v _ _ r q=>q v r)⟩
theorem Ys {H:Hp} {ρ:Tk} {p:PV} {xs:List V} (r:RepL H ρ [p] xs):∃ v,xs=[v]/\Rep H ρ p v:=by
  obtain ⟨v,t,rfl,h1,h2⟩:=r
  cases h2
  exact ⟨v,rfl,h1⟩
theorem repL_two {H:Hp} {ρ:Tk} {p q:PV} {xs:List V} (r:RepL H ρ [p,q] xs):∃ v u,xs=[v,u]/\Rep H ρ p v/\Rep H ρ q u:=by
  obtain ⟨v,t,rfl,h1,h2⟩:=r
  obtain ⟨u,rfl,h3⟩:=Ys h2
  exact ⟨v,u,rfl,h1,h3⟩
def Yh:CF:=fun st ps=>match ps with
  | [p]=>match Ub st p with
    | some xs=>.ok (.int xs.length) st
    | none=>match p with
      | .str x=>if x.length<=lim then .ok (.int x.length) st else .stuck
      | _=>.stuck
  | _=>.stuck
theorem Y3:CallS X E (.builtin "len") Yh:=⟨fun H ρ st ps xs Q R rp h=>by
  unfold Yh at h
  split at h
  · rename_i p
    obtain ⟨v,rfl,r⟩:=Ys rp
    split at h
    · rename_i ys e
      obtain ⟨t,a,vs,rfl,hq,ra⟩:=seq_at (K:=X.K) R r e
      rw [ra.length] at h
      exact WC.of call_len_seq ⟨a,vs,rfl,sqK_or hq,now R h rfl⟩
    · split at h
      · cases r
        split at h
        · rename_i hl
          exact WC.of call_len_str ⟨_,rfl,Uh hl,now R h rfl⟩
        · exact h.elim
      · exact h.elim
  · exact h.elim⟩
def U2 (g:List Int->Option PV):CF:=fun st ps=>match ps with
  | [p]=>match (Ub st p).bind intsOf with
    | some ns=>okO st (g ns)
    | none=>.stuck
  | _=>.stuck
def cBls (g:List Bool->PV):CF:=fun st ps=>match ps with
  | [p]=>match (Ub st p).bind blsOf with
    | some ns=>.ok (g ns) st
    | none=>.stuck
  | _=>.stuck
theorem ints_at' {K:PySem.W.Frag} {H:Hp} {ρ:Tk} {st:Q3} {p:PV} {v:V} {ns:List Int} (R:Rel H ρ st) (r:Rep H ρ p v) (e:(Ub st p).bind intsOf=some ns):∃ (t:Bool) (a:Addr),v=.ref a/\SqK K t H a (ns.map V.int):=by
  cases q:Ub st p with
  | none=>rw [q] at e; cases e
  | some xs=>
    rw [q] at e
    obtain ⟨t,a,vs,rfl,hq,ra⟩:=seq_at (K:=K) R r q
    rw [ints_eq e] at ra
    rw [ra.toInts] at hq
    exact ⟨t,a,rfl,hq⟩
theorem bls_at' {K:PySem.W.Frag} {H:Hp} {ρ:Tk} {st:Q3} {p:PV} {v:V} {ns:List Bool} (R:Rel H ρ st) (r:Rep H ρ p v) (e:(Ub st p).bind blsOf=some ns):∃ (t:Bool) (a:Addr),v=.ref a/\SqK K t H a (ns.map V.bl):=by
  cases q:Ub st p with
  | none=>rw [q] at e; cases e
  | some xs=>
    rw [q] at e
    obtain ⟨t,a,vs,rfl,hq,ra⟩:=seq_at (K:=K) R r q
    rw [bls_eq e] at ra
    rw [ra.toBls] at hq
    exact ⟨t,a,rfl,hq⟩
theorem cs_sum (hc:X.calm=true):CallS X E (.builtin "sum") (U2 fun ns=>some (.int ns.sum)):=⟨fun H ρ st ps xs Q R rp h=>by
  unfold U2 at h
  split at h
  · obtain ⟨v,rfl,r⟩:=Ys rp
    split at h
    · rename_i ns e
      obtain ⟨t,a,rfl,hq⟩:=ints_at' (K:=X.K) R r e
      exact WC.of (call_sum t hc) ⟨a,ns,rfl,hq,now R h rfl⟩
    · exact h.elim
  · exact h.elim⟩
theorem cs_all (hc:X.calm=true):CallS X E (.builtin "all") (cBls fun ns=>.bl (ns.all id)):=⟨fun H ρ st ps xs Q R rp h=>by
  unfold cBls at h
  split at h
  · obtain ⟨v,rfl,r⟩:=Ys rp
    split at h
    · rename_i ns e
      obtain ⟨t,a,rfl,hq⟩:=bls_at' (K:=X.K) R r e
      exact WC.of (call_all t hc) ⟨a,ns,rfl,hq,now R h rfl⟩
    · exact h.elim
  · exact h.elim⟩
theorem cs_any (hc:X.calm=true):CallS X E (.builtin "any") (cBls fun ns=>.bl (ns.any id)):=⟨fun H ρ st ps xs Q R rp h=>by
  unfold cBls at h
  split at h
  · obtain ⟨v,rfl,r⟩:=Ys rp
    split at h
    · rename_i ns e
      obtain ⟨t,a,rfl,hq⟩:=bls_at' (K:=X.K) R r e
      exact WC.of (call_any t hc) ⟨a,ns,rfl,hq,now R h rfl⟩
    · exact h.elim
  · exact h.elim⟩
def maxI:List Int->Option Int
  | []=>none
  | n :: ns=>some (ns.foldl (fun a b=>if b > a then b else a) n)
def minI:List Int->Option Int
  | []=>none
  | n :: ns=>some (ns.foldl (fun a b=>if b < a then b else a) n)
theorem foldl_max:∀ (ns:List Int) (n:Int),(ns.foldl (fun a b=>if b > a then b else a) n=n\/ns.foldl (fun a b=>if b > a then b else a) n∈ns)/\n<=ns.foldl (fun a b=>if b > a then b else a) n/\∀ k∈ns,k<=ns.foldl (fun a b=>if b > a then b else a) n
  | [],n=>⟨.inl rfl,Int.le_refl _,fun k h=>by cases h⟩
  | m :: ns,n=>by
    obtain ⟨h1,h2,h3⟩:=foldl_max ns (if m > n then m else n)
    rw [List.foldl_cons]
    refine ⟨?_,?_,fun k hk=>?_⟩
    · rcases h1 with e | e
      · by_cases hm:m > n
        · rw [if_pos hm] at e ⊢; exact .inr (by rw [e]; exact D1)
        · rw [if_neg hm] at e ⊢; exact .inl e
      · exact .inr (O6 _ e)
    · by_cases hm:m > n
      · rw [if_pos hm] at h2 ⊢; omega
      · rw [if_neg hm] at h2 ⊢; exact h2
    · rcases D5.mp hk with rfl | hk
      · by_cases hm:k > n
        · rw [if_pos hm] at h2 ⊢; exact h2
        · rw [if_neg hm] at h2 ⊢; omega
      · exact h3 k hk
theorem foldl_min:∀ (ns:List Int) (n:Int),(ns.foldl (fun a b=>if b < a then b else a) n=n\/ns.foldl (fun a b=>if b < a then b else a) n∈ns)/\ns.foldl (fun a b=>if b < a then b else a) n<=n/\∀ k∈ns,ns.foldl (fun a b=>if b < a then b else a) n<=k
  | [],n=>⟨.inl rfl,Int.le_refl _,fun k h=>by cases h⟩
  | m :: ns,n=>by
    obtain ⟨h1,h2,h3⟩:=foldl_min ns (if m < n then m else n)
    rw [List.foldl_cons]
    refine ⟨?_,?_,fun k hk=>?_⟩
    · rcases h1 with e | e
      · by_cases hm:m < n
        · rw [if_pos hm] at e ⊢; exact .inr (by rw [e]; exact D1)
        · rw [if_neg hm] at e ⊢; exact .inl e
      · exact .inr (O6 _ e)
    · by_cases hm:m < n
      · rw [if_pos hm] at h2 ⊢; omega
      · rw [if_neg hm] at h2 ⊢; exact h2
    · rcases D5.mp hk with rfl | hk
      · by_cases hm:k < n
        · rw [if_pos hm] at h2 ⊢; exact h2
        · rw [if_neg hm] at h2 ⊢; omega
      · exact h3 k hk
def cMax:CF:=fun st ps=>match ps with
  | [.int a,.int b]=>.ok (.int (if b > a then b else a)) st
  | ps=>U2 (fun ns=>(maxI ns).map .int) st ps
def cMin:CF:=fun st ps=>match ps with
  | [.int a,.int b]=>.ok (.int (if b < a then b else a)) st
  | ps=>U2 (fun ns=>(minI ns).map .int) st ps
theorem cs_max (hc:X.calm=true):CallS X E (.builtin "max") cMax:=⟨fun H ρ st ps xs Q R rp h=>by
  unfold cMax at h
  split at h
  · obtain ⟨v,u,rfl,r1,r2⟩:=repL_two rp
    cases r1; cases r2
    exact WC.of (call_max2 hc) ⟨_,_,rfl,now R h rfl⟩
  · unfold U2 at h
    split at h
    · obtain ⟨v,rfl,r⟩:=Ys rp
      split at h
      · rename_i ns e
        cases ns with
        | nil=>exact h.elim
        | cons n ns=>
          obtain ⟨t,a,rfl,hq⟩:=ints_at' (K:=X.K) R r e
          refine WC.of (call_maxL t hc) ⟨a,_,rfl,hq,by simp,fun m hm hk=>?_⟩
          have em:m=ns.foldl (fun a b=>if b > a then b else a) n:=by
            obtain ⟨h1,h2,h3⟩:=foldl_max ns n
            have g1:ns.foldl (fun a b=>if b > a then b else a) n<=m:=by
              rcases h1 with e | e
              · rw [e]; exact hk _ D1
              · exact hk _ (O6 _ e)
            have g2:m<=ns.foldl (fun a b=>if b > a then b else a) n:=by
              rcases D5.mp hm with rfl | hm
              · exact h2
              · exact h3 m hm
            omega
          subst em
          exact now R h rfl
      · exact h.elim
    · exact h.elim⟩
theorem cs_min (hc:X.calm=true):CallS X E (.builtin "min") cMin:=⟨fun H ρ st ps xs Q R rp h=>by
  unfold cMin at h
  split at h
  · obtain ⟨v,u,rfl,r1,r2⟩:=repL_two rp
    cases r1; cases r2
    exact WC.of (call_min2 hc) ⟨_,_,rfl,now R h rfl⟩
  · unfold U2 at h
    split at h
    · obtain ⟨v,rfl,r⟩:=Ys rp
      split at h
      · rename_i ns e
        cases ns with
        | nil=>exact h.elim
        | cons n ns=>
          obtain ⟨t,a,rfl,hq⟩:=ints_at' (K:=X.K) R r e
          refine WC.of (call_minL t hc) ⟨a,_,rfl,hq,by simp,fun m hm hk=>?_⟩
          have em:m=ns.foldl (fun a b=>if b < a then b else a) n:=by
            obtain ⟨h1,h2,h3⟩:=foldl_min ns n
            have g1:m<=ns.foldl (fun a b=>if b < a then b else a) n:=by
              rcases h1 with e | e
              · rw [e]; exact hk _ D1
              · exact hk _ (O6 _ e)
            have g2:ns.foldl (fun a b=>if b < a then b else a) n<=m:=by
              rcases D5.mp hm with rfl | hm
              · exact h2
              · exact h3 m hm
            omega
          subst em
          exact now R h rfl
      · exact h.elim
    · exact h.elim⟩
def V8:CF:=fun st ps=>match ps with
  | [p]=>match Ub st p with
    | some xs=>.ok (.tup xs) st
    | none=>.stuck
  | _=>.stuck
theorem cs_tuple:CallS X E (.type "tuple") V8:=⟨fun H ρ st ps xs Q R rp h=>by
  unfold V8 at h
  split at h
  · rename_i p
    obtain ⟨v,rfl,r⟩:=Ys rp
    split at h
    · rename_i ys e
      cases p with
      | tup zs=>
        cases e
        obtain ⟨a,vs,rfl,ha,na,ra⟩:=r
        exact WC.of call_tuple_of ⟨a,vs,rfl,.inr ⟨SqT.of ha,now R h ⟨a,vs,rfl,ha,na,ra⟩⟩⟩
      | _=>
        obtain ⟨a,vs,rfl,ha,ra⟩:=list_at R r e
        exact WC.of call_tuple_of ⟨a,vs,rfl,.inl ⟨.inl ha,new_tup R h ra⟩⟩
    · exact h.elim
  · exact h.elim⟩
def tyN:PV->String
  | .non => "NoneType"
  | .bl _ => "bool"
  | .int _ => "int"
  | .str _ => "str"
  | .tup _ => "tuple"
  | .lst _ => "list"
  | .fro _ => "list"
  | .ref _ => "list"
  | .dic => "dict"
def dpv (st:Q3):PV->PV
  | .ref i=>match st[i]? with
    | some (.dic _)=>.dic
    | some (.dtp _)=>.dic
    | _=>.ref i
  | p=>p
def isI (T:String) (p:PV):Bool:=tyN p == T || (T == "int" && tyN p == "bool")
def frzd (st:Q3):PV->Bool
  | .ref i=>match st[i]? with
    | some (.frd _)=>true
    | some (.obj _ _)=>true
    | _=>false
  | _=>false
theorem ty_of {K:PySem.W.Frag} {H:Hp} {ρ:Tk} {st:Q3} {p:PV} {v:V} (nf:frzd st p=false) (R:Rel H ρ st) (r:Rep H ρ p v):TyOf K H v (.type (tyN (dpv st p))):=by
  cases p with
  | non=>cases r; exact .non
  | bl b=>cases r; exact .bl b
  | int i=>cases r; exact .int i
  | str x=>cases r; exact .str x
  | tup ps=>obtain ⟨a,vs,rfl,h,_⟩:=r; exact .tup h
  | lst ps=>obtain ⟨a,vs,rfl,h,_⟩:=r; exact .lst h
  | fro ps=>
    obtain ⟨a,vs,rfl,h,_⟩:=r
    rcases h with h | ⟨o,h⟩
    · exact .lst h
    · exact .frz h
  | ref i=>
    obtain ⟨a,e,rfl⟩:=r
    have hl:i < st.length:=by rw [<- R.len]; exact (O1.mp e).1
    have hs:=O4 hl
    have q:=R.cell i a st[i] e hs
    cases hc:st[i] with
    | lst xs=>rw [hc] at q hs; simp only [dpv,hs]; obtain ⟨vs,h,_⟩:=q; exact .lst h
    | dic xs=>rw [hc] at q hs; simp only [dpv,hs]; obtain ⟨vs,h,_⟩:=q; exact .dK h
    | dtp xs=>rw [hc] at q hs; simp only [dpv,hs]; obtain ⟨vs,h,_⟩:=q; exact .dT h
    | frd xs=>rw [hc] at hs; simp only [frzd,hs] at nf; cases nf
    | obj C xs=>rw [hc] at hs; simp only [frzd,hs] at nf; cases nf
  | dic=>obtain ⟨a,rfl,h,_⟩:=r; exact .dK h
def kitTypes:List String:=["int", "bool", "str", "tuple", "list", "dict"]
theorem kit_ok (K:PySem.W.Frag) {T:String} (hT:T∈kitTypes) (p:PV):PySem.W.kitOne K (.type (tyN p)) (.type T)=some (isI T p):=by
  have hT:T = "int" \/ T = "bool" \/ T = "str" \/ T = "tuple" \/ T = "list" \/ T = "dict" := by simpa [kitTypes] using hT
  rcases hT with rfl | rfl | rfl | rfl | rfl | rfl <;> cases p <;> first | rfl | kernel_rfl
def mIsI (T:String) (m:ME):ME:=fun Γ st=>(m Γ st).bind fun p st1=>if frzd st1 p=true then .stuck else .ok (.bl (isI T (dpv st1 p))) st1
theorem se_isi {T:String} {tx:Str} {a:Expr} {ma:ME} {p tp:Pos} (hT:T∈kitTypes) (ha:SimE X E a ma) (hg:Gl X "isinstance") (hm:X.mg "isinstance" = none) (hgT:Gl X tx) (hmT:X.mg tx=none) (hvT:bootBuiltins tx=some (.type T))
    (hn:tx≠"__name__" := by decide) (hd:(tx == ("__debug__" : Str))=false:=by decide)
    (he:starEach [a,.Name tx tp] X.env=(false,eval a X.env) :: starEach [.Name tx tp] X.env:=by rfl) (he2:starEach [.Name tx tp] X.env=(false,eval (.Name tx tp) X.env) :: starEach [] X.env:=by rfl) (hpl:(backTo pos (starEach [.Name tx tp] X.env)).any (·.1)=false:=by rfl) :
    SimE X E (.Call (.Name "isinstance" p) [a,.Name tx tp] [] pos) (mIsI T ma):=
  ⟨fun Γ σ H ρ st Q R G h=>WE.of (Z0 call_isinst hg hm Qw (Qx Y2 (Qx (pe_bltn hgT hmT hvT (v:=.ty T) rfl hn hd) Z6 he2) he) (by decide) (by decide) he hpl)
    (ha.use R G h.bind fun q st1 H1 ρ1 v x1 R1 G1 r1 h1=>by
      by_cases nf:frzd st1 q=true
      · rw [if_pos nf] at h1; exact h1.elim
      · rw [if_neg nf] at h1
        exact ⟨v,.ty T,.type T,_,_,rfl,rfl,ty_of (by simpa using nf) R1 r1,kit_ok X.K hT (dpv st1 q),now R1 h1 rfl⟩)⟩
end
end Sm
namespace Sm
open PySem PySem.Spec L2
abbrev GA:=PV->Gam->Option Gam
abbrev GAs:=List PV->Gam->Option Gam
structure SimG (X:Cx) (tg:Expr) (ga:GA):Prop where
  run:∀ (Γ Γ':Gam) (σ:St) (H:Hp) (ρ:Tk) (p:PV) (v:V) (Q:St->Hp->Prop),EnvR H ρ Γ σ->Rep H ρ p v->ga p Γ=some Γ'->(∀ σ',EnvR H ρ Γ' σ'->Q σ' H)->∃ t,PG X tg t/\t v σ H Q
structure SimGs (X:Cx) (tgs:List Expr) (n:Nat) (ga:GAs):Prop where
  run:∀ (Γ Γ':Gam) (σ:St) (H:Hp) (ρ:Tk) (ps:List PV) (vs:List V) (Q:St->Hp->Prop),EnvR H ρ Γ σ->RepL H ρ ps vs->ga ps Γ=some Γ'->(∀ σ',EnvR H ρ Γ' σ'->Q σ' H)->∃ t,PGs X tgs t/\t vs σ H Q
  len:∀ ps Γ Γ',ga ps Γ=some Γ'->ps.length=n
def Qp (i:Nat):GA:=fun p Γ=>some (Γ.set i (some p))
def K4:GAs:=fun ps Γ=>match ps with
  | []=>some Γ
  | _=>none
def Jv (g:GA) (gs:GAs):GAs:=fun ps Γ=>match ps with
  | p :: r=>(g p Γ).bind (gs r)
  | []=>none
def K3 (gs:GAs):GA:=fun p Γ=>match p with
  | .tup ps=>gs ps Γ
  | _=>none
section
variable {X:Cx} {pos:Pos}
theorem J7 {i:Nat} {x:Str} (hN:X.N.Nodup) (hi:X.N[i]?=some x:=by rfl) (hx:Loc X.env.scope x:=by first | exact Or.inl rfl | exact Or.inr rfl) (hf:X.fn x=true\/X.env.scope.names.lookup x=some .local:=by first | exact .inl rfl | exact .inr rfl):SimG X (.Name x pos) (Qp i):=
  ⟨fun Γ Γ' σ H ρ p v Q G r e k=>⟨_,pg_name hN hi hx hf,by cases e; exact k _ (G.set r i)⟩⟩
theorem sgs_nil:SimGs X [] 0 K4:=⟨fun Γ Γ' σ H ρ ps vs Q G r e k=>⟨_,pgs_nil,by
  cases ps with
  | nil=>cases e; cases r; exact ⟨rfl,k σ G⟩
  | cons _ _=>cases e⟩,fun ps Γ Γ' e=>by
  cases ps with
  | nil=>rfl
  | cons _ _=>cases e⟩
def WGx (X:Cx) (tg:Expr):TG:=fun v σ H Q=>∃ t,PG X tg t/\t v σ H Q
theorem pg_x {tg:Expr}:PG X tg (WGx X tg):=fun pins s σ H v u Q I r ⟨t,h,q⟩=>h pins s σ H v u Q I r q
def WGsx (X:Cx) (tgs:List Expr):TGs:=fun v σ H Q=>∃ t,PGs X tgs t/\t v σ H Q
theorem pgs_x {tgs:List Expr}:PGs X tgs (WGsx X tgs):=fun pins s σ H v u Q I r ⟨t,h,q⟩=>h pins s σ H v u Q I r q
theorem Y9 {e:Expr} {es:List Expr} {g:GA} {gs:GAs} {n:Nat} (h1:SimG X e g) (h2:SimGs X es n gs) (hs:(assignEach (e :: es) X.env).map (·.2)=assign e X.env :: (assignEach es X.env).map (·.2):=by rfl):SimGs X (e :: es) (n + 1) (Jv g gs):=
  ⟨fun Γ Γ' σ H ρ ps vs Q G r eq k=>⟨_,pgs_cons pg_x pgs_x hs,by
    cases ps with
    | nil=>cases eq
    | cons p ps=>
      obtain ⟨v,t,rfl,r1,r2⟩:=r
      have eq:(g p Γ).bind (gs ps)=some Γ':=eq
      cases e1:g p Γ with
      | none=>rw [e1] at eq; cases eq
      | some Γ1=>
        rw [e1] at eq
        exact ⟨v,t,rfl,h1.run Γ Γ1 σ H ρ p v _ G r1 e1 fun σ1 G1=>h2.run Γ1 Γ' σ1 H ρ ps t _ G1 r2 eq k⟩⟩,fun ps Γ Γ' e=>by
    cases ps with
    | nil=>cases e
    | cons p ps=>
      have e:(g p Γ).bind (gs ps)=some Γ':=e
      cases e1:g p Γ with
      | none=>rw [e1] at e; cases e
      | some Γ1=>rw [e1] at e; rw [D7,h2.len ps Γ1 Γ' e]⟩
theorem sg_tup {es:List Expr} {k n:Nat} {gs:GAs} (hc:X.calm=true) (h:SimGs X es n gs) (hn:(assignEach es X.env).length=n:=by rfl) (hst:(assignEach es X.env).findIdx? (·.1)=none:=by rfl):SimG X (.Tuple es k pos) (K3 gs):=
  ⟨fun Γ Γ' σ H ρ p v Q G r e q=>⟨_,pg_tup hc pgs_x hn hst,by
    cases p with
    | tup ps=>
      obtain ⟨a,vs,rfl,ha,na,ra⟩:=r
      exact ⟨a,vs,rfl,SqT.of ha,by rw [<- ra.length]; exact h.len ps Γ Γ' e,h.run Γ Γ' σ H ρ ps vs Q G ra e q⟩
    | _=>cases e⟩⟩
end
abbrev Wt:=List (Nat × Cell)
def wOk (w:Wt) (st:Q3):Prop:=∀ x∈w,st[x.1]?=some x.2
theorem wOk_nil (st:Q3):wOk [] st:=fun x h=>by cases h
structure Src (J:It) (items:List PV) (w:Wt) (H:Hp) (ρ:Tk):Prop where
  stop:∀ H2 ρ2 st2,Ext H ρ H2 ρ2->Rel H2 ρ2 st2->wOk w st2->J.stop items.length H2
  go:∀ H2 ρ2 st2,Ext H ρ H2 ρ2->Rel H2 ρ2 st2->wOk w st2->∀ i,i < items.length->J.go i H2
  yld:∀ H2 ρ2 st2,Ext H ρ H2 ρ2->Rel H2 ρ2 st2->wOk w st2->∀ i p,items[i]?=some p->∀ x H3,J.yld i H2 x H3->Same H2 H3/\Rep H3 ρ2 p x
abbrev MI:=Gam->Q3->Res (List PV × Wt)
structure SimI (X:Cx) (E:XK) (tg iter:Expr) (mi:MI):Prop where
  run:∀ (Γ:Gam) (σ:St) (H:Hp) (ρ:Tk) (st:Q3) (P:List PV × Wt->Q3->Hp->Tk->Prop) (R':It->Hp->Prop),Rel H ρ st->EnvR H ρ Γ σ->Acc X.mg E H ρ P (mi Γ st) ->
    (∀ iw st1 H1 ρ1 J,mi Γ st=.ok iw st1->Ext H ρ H1 ρ1->Rel H1 ρ1 st1->EnvR H1 ρ1 Γ σ->wOk iw.2 st1->iw.1.length<=sizeLine->Src J iw.1 iw.2 H1 ρ1->P iw st1 H1 ρ1->R' J H1)->WI X tg iter σ H R'
def Uw (st:Q3):PV->Option (List PV × Wt)
  | .tup xs=>some (xs,[])
  | .lst xs=>some (xs,[])
  | .fro xs=>some (xs,[])
  | .ref i=>match st[i]? with
    | some (.lst xs)=>some (xs,[(i,.lst xs)])
    | _=>none
  | _=>none
theorem src_at {K:PySem.W.Frag} {H:Hp} {ρ:Tk} {st:Q3} {p:PV} {v:V} {xs:List PV} {w:Wt} (R:Rel H ρ st) (r:Rep H ρ p v) (e:Uw st p=some (xs,w)) :
    wOk w st/\∃ (t:Bool) (a:Addr),v=.ref a/\(t=true->∃ ys,p=.tup ys)/\(t=false->∀ ys,p≠.tup ys)/\∀ H2 ρ2 st2,Ext H ρ H2 ρ2->Rel H2 ρ2 st2->wOk w st2->∃ vs,SqK K t H2 a vs/\RepL H2 ρ2 xs vs:=by
  cases p with
  | tup ys=>
    obtain ⟨a,vs,rfl,ha,na,ra⟩:=r
    cases e
    exact ⟨wOk_nil _,true,a,rfl,fun _=>⟨_,rfl⟩,(fun z=>by cases z),fun H2 ρ2 st2 x R2 _=>⟨vs,show SqT K H2 a vs from SqT.of (x.kp ha na),ra.ext x⟩⟩
  | lst ys=>
    obtain ⟨a,vs,rfl,ha,na,ra⟩:=r
    cases e
    exact ⟨wOk_nil _,false,a,rfl,(fun z=>by cases z),(fun _ _ z=>by cases z),fun H2 ρ2 st2 x R2 _=>⟨vs,show SqL K H2 a vs from SqL.of (x.kp ha na),ra.ext x⟩⟩
  | fro ys=>
    obtain ⟨a,vs,rfl,ha,na,ra⟩:=r
    cases e
    refine ⟨wOk_nil _,false,a,rfl,(fun z=>by cases z),(fun _ _ z=>by cases z),fun H2 ρ2 st2 x R2 _=>⟨vs,show SqL K H2 a vs from ?_,ra.ext x⟩⟩
    rcases ha with ha | ⟨o,ha⟩
    · exact .inl (.inl (x.kp ha na))
    · exact .inl (.inr ⟨o,x.kp ha na⟩)
  | ref i=>
    obtain ⟨a,ea,rfl⟩:=r
    simp only [Uw] at e
    split at e
    · rename_i ys hs
      cases e
      refine ⟨fun x hx=>?_,false,a,rfl,(fun z=>by cases z),(fun _ _ z=>by cases z),fun H2 ρ2 st2 x R2 ok=>?_⟩
      · have:x=(i,.lst xs):=by simpa using hx
        subst this; exact hs
      · have hs2:=ok (i,.lst xs) (by simp)
        obtain ⟨b,vs,f1,f2,f3⟩:=R2.lst hs2
        obtain ⟨t,et⟩:=x.pre
        rw [<- et,O9 (O1.mp ea).1,ea] at f1
        cases f1
        exact ⟨vs,show SqL K H2 a vs from SqL.of f2,f3⟩
    · cases e
  | _=>cases e
section
variable {X:Cx} {E:XK} {pos:Pos} {tg:Expr} {e:Expr} {m:ME}
def mSeq (m:ME):MI:=fun Γ st=>(m Γ st).bind fun p st1=>match Uw st1 p with
  | some (xs,w)=>if xs.length<=lim then .ok (xs,w) st1 else .stuck
  | none=>.stuck
theorem RepL.i {H:Hp} {ρ:Tk} {ps:List PV} {vs:List V} {i:Nat} {p:PV} {x:V} (r:RepL H ρ ps vs) (h:ps[i]?=some p) (h':vs[i]?=some x):Rep H ρ p x:=by
  obtain ⟨v,e,q⟩:=r.get h
  rw [h'] at e; cases e
  exact q
theorem src_seq {K:PySem.W.Frag} {H:Hp} {ρ:Tk} {t:Bool} {a:Addr} {xs:List PV} {w:Wt} (h:∀ H2 ρ2 st2,Ext H ρ H2 ρ2->Rel H2 ρ2 st2->wOk w st2->∃ vs,SqK K t H2 a vs/\RepL H2 ρ2 xs vs):Src (if t=true then Itt K a else Itl K a) xs w H ρ:=by
  cases t with
  | true=>
    rw [if_pos rfl]
    refine ⟨fun H2 ρ2 st2 x R ok=>?_,fun H2 ρ2 st2 x R ok i hi=>?_,fun H2 ρ2 st2 x R ok i p hp y H3 hy=>?_⟩
    · obtain ⟨vs,s,r⟩:=h H2 ρ2 st2 x R ok
      exact ⟨vs,s,by rw [r.length]; exact O7 _⟩
    · obtain ⟨vs,s,r⟩:=h H2 ρ2 st2 x R ok
      have hi':i < vs.length:=by rw [<- r.length]; exact hi
      exact ⟨vs,vs[i],s,O4 hi'⟩
    · obtain ⟨vs,s,r⟩:=h H2 ρ2 st2 x R ok
      obtain ⟨rfl,hv⟩:=hy
      exact ⟨Same.refl _,r.i hp (hv vs s)⟩
  | false=>
    rw [if_neg O8]
    refine ⟨fun H2 ρ2 st2 x R ok=>?_,fun H2 ρ2 st2 x R ok i hi=>?_,fun H2 ρ2 st2 x R ok i p hp y H3 hy=>?_⟩
    · obtain ⟨vs,s,r⟩:=h H2 ρ2 st2 x R ok
      exact ⟨vs,s,by rw [r.length]; exact O7 _⟩
    · obtain ⟨vs,s,r⟩:=h H2 ρ2 st2 x R ok
      have hi':i < vs.length:=by rw [<- r.length]; exact hi
      exact ⟨vs,vs[i],s,O4 hi'⟩
    · obtain ⟨vs,s,r⟩:=h H2 ρ2 st2 x R ok
      obtain ⟨rfl,hv⟩:=hy
      exact ⟨Same.refl _,r.i hp (hv vs s)⟩
theorem mSeq_in {mg:Str->Option Value} {H:Hp} {ρ:Tk} {st:Q3} {p:PV} {P:List PV × Wt->Q3->Hp->Tk->Prop} (R:Rel H ρ st) (h:Acc mg E H ρ P (match Uw st p with | some (xs,w)=>if xs.length<=lim then .ok (xs,w) st else .stuck | none=>.stuck)) :
    ∃ xs w,Uw st p=some (xs,w)/\xs.length<=lim/\P (xs,w) st H ρ:=by
  split at h
  · rename_i xs w e
    split at h
    · rename_i hl
      exact ⟨xs,w,e,hl,h H ρ (Ext.refl _ _) R⟩
    · exact h.elim
  · exact h.elim
theorem Xj (ha:SimE X E e m):SimI X E tg e (mSeq m):=⟨fun Γ σ H ρ st P R' R G h k=>by
  have hb:Acc X.mg E H ρ _ (m Γ st):=Acc.bind h
  by_cases ht:∃ ys st1,m Γ st=.ok (.tup ys) st1
  · obtain ⟨ys,st0,e0⟩:=ht
    refine WI.of (pi_tup Y2) (ha.use' R G hb fun p st1 H1 ρ1 v eq x1 R1 G1 r1 h1=>?_)
    obtain ⟨xs,w,e,hl,hP⟩:=mSeq_in R1 h1
    obtain ⟨ok,t,a,rfl,t1,t2,sq⟩:=src_at (K:=X.K) R1 r1 e
    have ep:p=.tup ys:=by rw [eq] at e0; injection e0
    cases t with
    | false=>exact absurd ep (t2 rfl ys)
    | true=>
      obtain ⟨vs,s,_⟩:=sq H1 ρ1 st1 (Ext.refl _ _) R1 ok
      exact ⟨a,rfl,⟨vs,s⟩,k (xs,w) st1 H1 ρ1 _ (by simp only [mSeq,eq,Res.bind,e,if_pos hl]) x1 R1 G1 ok (Uh hl) (src_seq sq) hP⟩
  · refine WI.of (pi_list Y2) (ha.use' R G hb fun p st1 H1 ρ1 v eq x1 R1 G1 r1 h1=>?_)
    obtain ⟨xs,w,e,hl,hP⟩:=mSeq_in R1 h1
    obtain ⟨ok,t,a,rfl,t1,t2,sq⟩:=src_at (K:=X.K) R1 r1 e
    cases t with
    | true=>
      obtain ⟨ys,rfl⟩:=t1 rfl
      exact absurd ⟨ys,st1,eq⟩ ht
    | false=>
      obtain ⟨vs,s,_⟩:=sq H1 ρ1 st1 (Ext.refl _ _) R1 ok
      exact ⟨a,rfl,⟨vs,s⟩,k (xs,w) st1 H1 ρ1 _ (by simp only [mSeq,eq,Res.bind,e,if_pos hl]) x1 R1 G1 ok (Uh hl) (src_seq sq) hP⟩⟩
def Z5 (lo:Int) (n:Nat):List PV:=(List.range n).map fun (k:Nat)=>PV.int (lo + (k:Int))
theorem src_range {H:Hp} {ρ:Tk} {lo:Int} {n:Nat}:Src (Itr lo n) (Z5 lo n) [] H ρ:=by
  have hl:(Z5 lo n).length=n:=by unfold Z5; rw [O2,List.length_range]
  refine ⟨fun H2 ρ2 st2 x R ok=>?_,fun H2 ρ2 st2 x R ok i hi=>?_,fun H2 ρ2 st2 x R ok i p hp y H3 hy=>?_⟩
  · show n<=(Z5 lo n).length
    omega
  · show i < n
    omega
  · obtain ⟨rfl,rfl⟩:=hy
    have hi:i < n:=by rw [<- hl]; exact (O1.mp hp).1
    unfold Z5 at hp
    rw [E6,List.getElem?_range hi] at hp
    cases hp
    exact ⟨Same.refl _,rfl⟩
def Wj (mr:Gam->Q3->Res (List PV)):MI:=fun Γ st=>(mr Γ st).bind fun ps st1=>match ps with
  | [.int j]=>if -(lim:Int)<=j/\j<=lim then .ok (Z5 0 j.toNat,[]) st1 else .stuck
  | _=>.stuck
def mRange2 (mr:Gam->Q3->Res (List PV)):MI:=fun Γ st=>(mr Γ st).bind fun ps st1=>match ps with
  | [.int i,.int j]=>if -(lim:Int)<=i/\i<=lim/\-(lim:Int)<=j/\j<=lim then .ok (Z5 i (j - i).toNat,[]) st1 else .stuck
  | _=>.stuck
variable {a b:Expr} {mr:Gam->Q3->Res (List PV)} {p:Pos}
theorem rangeI_len (lo:Int) (n:Nat):(Z5 lo n).length=n:=by unfold Z5; rw [O2,List.length_range]
theorem Wg (hg:Gl X "range") (hm:X.mg "range" = none) (ha:SimA X E [a] mr) (hs:starEach [a] X.env=[(false,eval a X.env)]:=by rfl):SimI X E tg (.Call (.Name "range" p) [a] [] pos) (Wj mr):=⟨fun Γ σ H ρ st P R' R G h k=>by
  refine WI.of (pi_range1 hg hm pa_w hs) (ha.use' R G h.bind fun ps st1 H1 ρ1 vs eq x1 R1 G1 r1 h1=>?_)
  split at h1
  · rename_i j
    split at h1
    · rename_i hj
      obtain ⟨v,rfl,rv⟩:=Ys r1
      cases rv
      have hl:(lim:Int)=1000000:=rfl
      refine ⟨j,rfl,by omega,by omega,k (Z5 0 j.toNat,[]) st1 H1 ρ1 _ (by simp only [Wj,eq,Res.bind,if_pos hj]) x1 R1 G1 (wOk_nil _) ?_ src_range (h1 H1 ρ1 (Ext.refl _ _) R1)⟩
      show (Z5 0 j.toNat).length<=sizeLine
      rw [rangeI_len]
      exact Uh (by omega)
    · exact h1.elim
  · exact h1.elim⟩
theorem si_range2 (hg:Gl X "range") (hm:X.mg "range" = none) (ha:SimA X E [a,b] mr) (hs:starEach [a,b] X.env=[(false,eval a X.env),(false,eval b X.env)]:=by rfl) (hs2:starEach [b] X.env=[(false,eval b X.env)]:=by rfl):SimI X E tg (.Call (.Name "range" p) [a,b] [] pos) (mRange2 mr):=⟨fun Γ σ H ρ st P R' R G h k=>by
  refine WI.of (pi_range2 hg hm pa_w hs hs2) (ha.use' R G h.bind fun ps st1 H1 ρ1 vs eq x1 R1 G1 r1 h1=>?_)
  split at h1
  · rename_i i j
    split at h1
    · rename_i hj
      obtain ⟨v,u,rfl,rv,ru⟩:=repL_two r1
      cases rv; cases ru
      have hl:(lim:Int)=1000000:=rfl
      refine ⟨i,j,rfl,⟨by omega,by omega,by omega,by omega⟩,k (Z5 i (j - i).toNat,[]) st1 H1 ρ1 _ (by simp only [mRange2,eq,Res.bind,if_pos hj]) x1 R1 G1 (wOk_nil _) ?_ src_range (h1 H1 ρ1 (Ext.refl _ _) R1)⟩
      show (Z5 i (j - i).toNat).length<=sizeLine
      rw [rangeI_len]
      exact E3 (show (j - i).toNat<=2000000 by omega) (by decide)
    · exact h1.elim
  · exact h1.elim⟩
def zipT:List PV->List PV->List PV
  | x :: xs,y :: ys=>.tup [x,y] :: zipT xs ys
  | _,_=>[]
theorem zipT_eq (xs ys:List PV):zipT xs ys=(xs.zip ys).map fun z=>.tup [z.1,z.2]:=by
  induction xs generalizing ys with
  | nil=>rfl
  | cons x xs ih=>
    cases ys with
    | nil=>rfl
    | cons y ys=>rw [zipT,ih]; rfl
theorem zipT_len (xs ys:List PV):(zipT xs ys).length=min xs.length ys.length:=by rw [zipT_eq,O2,List.length_zip]
theorem zipT_get {xs ys:List PV} {i:Nat} {p:PV} (h:(zipT xs ys)[i]?=some p):∃ x y,p=.tup [x,y]/\xs[i]?=some x/\ys[i]?=some y:=by
  rw [zipT_eq,E6] at h
  cases e:(xs.zip ys)[i]? with
  | none=>rw [e] at h; cases h
  | some z=>
    rw [e] at h; cases h
    rw [List.getElem?_zip_eq_some] at e
    exact ⟨z.1,z.2,rfl,e.1,e.2⟩
def mZip (mr:Gam->Q3->Res (List PV)):MI:=fun Γ st=>(mr Γ st).bind fun ps st1=>match ps with
  | [p,q]=>match Uw st1 p,Uw st1 q with
    | some (xs,w),some (ys,w')=>if xs.length<=lim then .ok (zipT xs ys,w ++ w') st1 else .stuck
    | _,_=>.stuck
  | _=>.stuck
theorem wOk_app {w w':Wt} {st:Q3} (h:wOk (w ++ w') st):wOk w st/\wOk w' st:=⟨fun x hx=>h x (E9 _ hx),fun x hx=>h x (D8 _ hx)⟩
theorem src_zip {K:PySem.W.Frag} {H:Hp} {ρ:Tk} {t1 t2:Bool} {a b:Addr} {xs ys:List PV} {w w':Wt} (h:∀ H2 ρ2 st2,Ext H ρ H2 ρ2->Rel H2 ρ2 st2->wOk w st2->∃ vs,SqK K t1 H2 a vs/\RepL H2 ρ2 xs vs)
    (h':∀ H2 ρ2 st2,Ext H ρ H2 ρ2->Rel H2 ρ2 st2->wOk w' st2->∃ vs,SqK K t2 H2 b vs/\RepL H2 ρ2 ys vs):Src (Itz K t1 t2 a b) (zipT xs ys) (w ++ w') H ρ:=by
  refine ⟨fun H2 ρ2 st2 x R ok=>?_,fun H2 ρ2 st2 x R ok i hi=>?_,fun H2 ρ2 st2 x R ok i p hp y H3 hy=>?_⟩
  · obtain ⟨vs,s,r⟩:=h H2 ρ2 st2 x R (wOk_app ok).1
    obtain ⟨us,s',r'⟩:=h' H2 ρ2 st2 x R (wOk_app ok).2
    refine ⟨vs,us,s,s',?_⟩
    rw [zipT_len,<- r.length,<- r'.length]
    omega
  · obtain ⟨vs,s,r⟩:=h H2 ρ2 st2 x R (wOk_app ok).1
    obtain ⟨us,s',r'⟩:=h' H2 ρ2 st2 x R (wOk_app ok).2
    rw [zipT_len,r.length,r'.length] at hi
    have h1:i < vs.length:=by omega
    have h2:i < us.length:=by omega
    exact ⟨vs,us,vs[i],us[i],s,s',O4 h1,O4 h2⟩
  · obtain ⟨vs,s,r⟩:=h H2 ρ2 st2 x R (wOk_app ok).1
    obtain ⟨us,s',r'⟩:=h' H2 ρ2 st2 x R (wOk_app ok).2
    obtain ⟨q,u,v,hn,rfl,rfl,hv⟩:=hy
    obtain ⟨e1,e2⟩:=hv vs us s s'
    obtain ⟨xp,yp,rfl,p1,p2⟩:=zipT_get hp
    have sm:Same H2 (upd H2 q (.tup [u,v])):=same_new hn
    exact ⟨sm,q,[u,v],rfl,Qs,R.fresh hn,RepL.cons ((r.i p1 e1).ext (Ext.same sm)) (RepL.cons ((r'.i p2 e2).ext (Ext.same sm)) RepL.nil)⟩
theorem si_zip {elts:List Expr} {kt:Nat} {tp:Pos} (hg:Gl X "zip") (hm:X.mg "zip" = none) (ha:SimA X E [a,b] mr) (hs:starEach [a,b] X.env=[(false,eval a X.env),(false,eval b X.env)]:=by rfl) (hs2:starEach [b] X.env=[(false,eval b X.env)]:=by rfl) :
    SimI X E (.Tuple elts kt tp) (.Call (.Name "zip" p) [a,b] [] pos) (mZip mr):=⟨fun Γ σ H ρ st P R' R G h k=>by
  have hb:Acc X.mg E H ρ _ (mr Γ st):=Acc.bind h
  have main:∀ t1 t2:Bool,(∀ p q st1,mr Γ st=.ok [p,q] st1->(t1=true <-> ∃ ys,p=.tup ys)/\(t2=true <-> ∃ ys,q=.tup ys))->WI X (.Tuple elts kt tp) (.Call (.Name "zip" p) [a,b] [] pos) σ H R':=fun t1 t2 ht=>by
    refine WI.of (pi_zip t1 t2 hg hm pa_w hs hs2) (ha.use' R G hb fun ps st1 H1 ρ1 vs eq x1 R1 G1 r1 h1=>?_)
    split at h1
    · rename_i p' q'
      split at h1
      · rename_i xs w ys w' e1 e2
        split at h1
        · rename_i hl
          obtain ⟨v,u,rfl,rv,ru⟩:=repL_two r1
          obtain ⟨ok1,b1,a1,rfl,z1,z1',sq1⟩:=src_at (K:=X.K) R1 rv e1
          obtain ⟨ok2,b2,a2,rfl,z2,z2',sq2⟩:=src_at (K:=X.K) R1 ru e2
          obtain ⟨g1,g2⟩:=ht _ _ _ eq
          have eb1:b1=t1:=by
            cases b1 with
            | true=>exact (g1.mpr (z1 rfl)).symm
            | false=>
              cases t1 with
              | false=>rfl
              | true=>obtain ⟨ys,e⟩:=g1.mp rfl; exact absurd e (z1' rfl ys)
          have eb2:b2=t2:=by
            cases b2 with
            | true=>exact (g2.mpr (z2 rfl)).symm
            | false=>
              cases t2 with
              | false=>rfl
              | true=>obtain ⟨ys,e⟩:=g2.mp rfl; exact absurd e (z2' rfl ys)
          subst eb1; subst eb2
          obtain ⟨vs1,s1,_⟩:=sq1 H1 ρ1 st1 (Ext.refl _ _) R1 ok1
          obtain ⟨vs2,s2,_⟩:=sq2 H1 ρ1 st1 (Ext.refl _ _) R1 ok2
          refine ⟨a1,a2,vs1,vs2,rfl,s1,s2,k (zipT xs ys,w ++ w') st1 H1 ρ1 _ (by simp only [mZip,eq,Res.bind,e1,e2,if_pos hl]) x1 R1 G1 (fun x hx=>?_) ?_ (src_zip sq1 sq2) (h1 H1 ρ1 (Ext.refl _ _) R1)⟩
          · rcases F1.mp hx with hx | hx
            · exact ok1 x hx
            · exact ok2 x hx
          · show (zipT xs ys).length<=sizeLine
            rw [zipT_len]
            exact Uh (E3 (Nat.min_le_left _ _) hl)
        · exact h1.elim
      · exact h1.elim
    · exact h1.elim
  have tt:∀ p:PV,∃ t:Bool,t=true <-> ∃ ys,p=.tup ys:=fun p=>by
    cases p with
    | tup ys=>exact ⟨true,fun _=>⟨ys,rfl⟩,fun _=>rfl⟩
    | _=>exact ⟨false,⟨fun z=>(by cases z),fun ⟨_,z⟩=>(by cases z)⟩⟩
  by_cases hz:∃ p q st1,mr Γ st=.ok [p,q] st1
  · obtain ⟨p0,q0,st0,e0⟩:=hz
    obtain ⟨t1,g1⟩:=tt p0
    obtain ⟨t2,g2⟩:=tt q0
    refine main t1 t2 fun p q st1 e=>?_
    rw [e0] at e; cases e
    exact ⟨g1,g2⟩
  · exact main true true fun p q st1 e=>absurd ⟨p,q,st1,e⟩ hz⟩
end
end Sm
namespace Sm
open PySem PySem.Spec L2
abbrev ML:=Gam->Q3->Res (List PV)
structure SimN (X:Cx) (E:XK) (e:Expr) (m:ML):Prop where
  run:∀ (Γ:Gam) (σ:St) (H:Hp) (ρ:Tk) (st:Q3) (P:List PV->Q3->Hp->Tk->Prop) (Q:VK),Rel H ρ st->EnvR H ρ Γ σ->Acc X.mg E H ρ P (m Γ st) ->
    (∀ ps st1 H1 ρ1 a vs,m Γ st=.ok ps st1->Ext H ρ H1 ρ1->Rel H1 ρ1 st1->a∈ρ1.hid->H a=none->H1 a=some (.lst vs)->RepL H1 ρ1 ps vs->Q (.ref a) H1)->WE X e σ H Q
def Xa (m:ML):ME:=fun Γ st=>(m Γ st).bind fun ps st1=>.ok (.lst ps) st1
def mTrk (m:ML):ME:=fun Γ st=>(m Γ st).bind fun ps st1=>.ok (.ref st1.length) (st1 ++ [.lst ps])
section
variable {H0 H:Hp} {ρ0 ρ:Tk} {st:Q3} {a:Addr} {ps:List PV} {vs:List V}
theorem out_val (R0:Rel H0 ρ0 st) (x:Ext H0 ρ0 H ρ) {st1:Q3} (R:Rel H ρ st1) (hm:a∈ρ.hid) (hn:H0 a=none) (ha:H a=some (.lst vs)) (r:RepL H ρ ps vs) :
    Ext H0 ρ0 H ⟨ρ.tr,ρ0.hid⟩/\Rel H ⟨ρ.tr,ρ0.hid⟩ st1/\Rep H ⟨ρ.tr,ρ0.hid⟩ (.lst ps) (.ref a):=
  ⟨x.unhide,R.unhide x.hidM,a,vs,rfl,ha,(fun z=>by
    rcases z with z | z
    · exact R.ap a hm z
    · obtain ⟨o,e,_⟩:=R0.hd a z
      rw [hn] at e; cases e),r.unhide x.hidM⟩
mutual
theorem Rep.trk {b:Addr} {hs:List Addr} (hb:b∈ρ.hid) (hh:∀ c,c∈hs->c∈ρ.hid):∀ {p:PV} {v:V},Rep H ρ p v->Rep H ⟨ρ.tr ++ [b],hs⟩ p v
  | .non,_,r=>r
  | .bl _,_,r=>r
  | .int _,_,r=>r
  | .str _,_,r=>r
  | .tup ps,v,⟨c,vs,e,s,n,r⟩=>⟨c,vs,e,s,fun z=>by
      rcases z with z | z
      · rcases F1.mp z with z | z
        · exact n (.inl z)
        · have:c=b:=by simpa using z
          subst this; exact n (.inr hb)
      · exact n (.inr (hh _ z)),RepL.trk hb hh r⟩
  | .lst ps,v,⟨c,vs,e,s,n,r⟩=>⟨c,vs,e,s,fun z=>by
      rcases z with z | z
      · rcases F1.mp z with z | z
        · exact n (.inl z)
        · have:c=b:=by simpa using z
          subst this; exact n (.inr hb)
      · exact n (.inr (hh _ z)),RepL.trk hb hh r⟩
  | .fro ps,v,⟨c,vs,e,s,n,r⟩=>⟨c,vs,e,s,fun z=>by
      rcases z with z | z
      · rcases F1.mp z with z | z
        · exact n (.inl z)
        · have:c=b:=by simpa using z
          subst this; exact n (.inr hb)
      · exact n (.inr (hh _ z)),RepL.trk hb hh r⟩
  | .ref i,v,⟨c,e,e2⟩=>⟨c,by show (ρ.tr ++ [b])[i]?=some c; rw [O9 (O1.mp e).1]; exact e,e2⟩
  | .dic,v,⟨c,e,s,n⟩=>⟨c,e,s,fun z=>by
      rcases z with z | z
      · rcases F1.mp z with z | z
        · exact n (.inl z)
        · have:c=b:=by simpa using z
          subst this; exact n (.inr hb)
      · exact n (.inr (hh _ z))⟩
theorem RepL.trk {b:Addr} {hs:List Addr} (hb:b∈ρ.hid) (hh:∀ c,c∈hs->c∈ρ.hid):∀ {ps:List PV} {vs:List V},RepL H ρ ps vs->RepL H ⟨ρ.tr ++ [b],hs⟩ ps vs
  | [],_,r=>r
  | p :: ps,_,⟨v,t,e,r1,r2⟩=>⟨v,t,e,Rep.trk hb hh r1,RepL.trk hb hh r2⟩
end
theorem out_trk (R0:Rel H0 ρ0 st) (x:Ext H0 ρ0 H ρ) {st1:Q3} (R:Rel H ρ st1) (hm:a∈ρ.hid) (hn:H0 a=none) (ha:H a=some (.lst vs)) (r:RepL H ρ ps vs) :
    Ext H0 ρ0 H ⟨ρ.tr ++ [a],ρ0.hid⟩/\Rel H ⟨ρ.tr ++ [a],ρ0.hid⟩ (st1 ++ [.lst ps])/\Rep H ⟨ρ.tr ++ [a],ρ0.hid⟩ (.ref st1.length) (.ref a):=by
  have na0:a∉ρ0.hid:=fun z=>by
    obtain ⟨o,e,_⟩:=R0.hd a z
    rw [hn] at e; cases e
  refine ⟨⟨x.pre.trans (List.prefix_append _ _),fun _ h=>h,fun _ h=>.inl h,x.keep,fun b hb=>?_,x.old,x.frz⟩,⟨?_,?_,fun b hb=>R.hd b (x.hidM b hb),fun b hb z=>?_,fun i b c h1 h2=>?_⟩,a,?_,rfl⟩
  · rcases F1.mp hb with z | z
    · exact x.new b z
    · have:b=a:=by simpa using z
      subst this; exact .inr hn
  · show (ρ.tr ++ [a]).length=_
    rw [D9,D9,R.len]; rfl
  · show (ρ.tr ++ [a]).Nodup
    refine List.nodup_append.mpr ⟨R.nd,by simp,fun b hb c hc e=>?_⟩
    have:c=a:=by simpa using hc
    subst this; subst e
    exact R.ap b hm hb
  · rcases F1.mp z with z | z
    · exact R.ap b (x.hidM b hb) z
    · have:b=a:=by simpa using z
      subst this; exact na0 hb
  · have h1:(ρ.tr ++ [a])[i]?=some b:=h1
    by_cases hi:i < st1.length
    · rw [O9 (by rw [R.len]; exact hi)] at h1
      rw [O9 hi] at h2
      have q:=R.cell i b c h1 h2
      cases c with
      | lst qs=>
        obtain ⟨us,e1,e2⟩:=q
        exact ⟨us,e1,e2.trk hm x.hidM⟩
      | dic qs=>
        obtain ⟨us,e1,e2⟩:=q
        exact ⟨us,e1,e2.1,e2.2.trk hm x.hidM⟩
      | dtp qs=>
        obtain ⟨us,e1,e2⟩:=q
        exact ⟨us,e1,e2.1,e2.2.trk hm x.hidM⟩
      | frd qs=>
        obtain ⟨us,e1,e2⟩:=q
        exact ⟨us,e1,e2.1,e2.2.trk hm x.hidM⟩
      | obj C qs=>
        obtain ⟨us,e1,e2⟩:=q
        exact ⟨us,e1,e2.1,e2.2.trk hm x.hidM⟩
    · rw [E4 (by rw [R.len]; omega)] at h1
      rw [E4 (by omega)] at h2
      have e0:i - st1.length=0:=by
        rcases Nat.eq_zero_or_pos (i - st1.length) with z | z
        · exact z
        · rw [List.getElem?_eq_none (by simp; omega)] at h2; cases h2
      rw [R.len,e0] at h1
      rw [e0] at h2
      simp at h1 h2
      subst h1; subst h2
      exact ⟨vs,ha,r.trk hm x.hidM⟩
  · show (ρ.tr ++ [a])[st1.length]?=some a
    rw [<- R.len,E4 (O7 _),Nat.sub_self]; rfl
end
section
variable {X:Cx} {E:XK} {pos:Pos} {e:Expr} {m:ML}
theorem W9 (h:SimN X E e m):SimE X E e (Xa m):=⟨fun Γ σ H ρ st Q R G hq=>h.run Γ σ H ρ st _ Q R G hq.bind fun ps st1 H1 ρ1 a vs eq x R1 hm hn ha r=>by
  obtain ⟨x2,R2,r2⟩:=out_val R x R1 hm hn ha r
  unfold Xa at hq
  rw [eq] at hq
  exact hq _ _ x2 R2 _ r2⟩
theorem se_trk (h:SimN X E e m):SimE X E e (mTrk m):=⟨fun Γ σ H ρ st Q R G hq=>h.run Γ σ H ρ st _ Q R G hq.bind fun ps st1 H1 ρ1 a vs eq x R1 hm hn ha r=>by
  obtain ⟨x2,R2,r2⟩:=out_trk R x R1 hm hn ha r
  unfold mTrk at hq
  rw [eq] at hq
  exact hq _ _ x2 R2 _ r2⟩
variable {es:List Expr} {mr:Gam->Q3->Res (List PV)} {a b:Expr} {ma mb:ME}
theorem new_at {H1:Hp} {ρ1:Tk} {st1:Q3} {H:Hp} {ρ:Tk} {Q:VK} {ps:List PV} {vs:List V} (x:Ext H ρ H1 ρ1) (R1:Rel H1 ρ1 st1) (r:RepL H1 ρ1 ps vs)
    (k:∀ H1 ρ1 a vs,Ext H ρ H1 ρ1->Rel H1 ρ1 st1->a∈ρ1.hid->H a=none->H1 a=some (.lst vs)->RepL H1 ρ1 ps vs->Q (.ref a) H1):∀ p,H1 p=none->Q (.ref p) (upd H1 p (.lst vs)):=fun p hp=>by
  refine k _ (ρ1.hide p) p vs (x.trans (Ext.hide hp)) (R1.hide hp) D1 ?_ Qs (r.hide hp)
  cases e:H p with
  | none=>rfl
  | some o=>
    obtain ⟨o',e'⟩:=x.old p o e
    rw [hp] at e'; cases e'
def mLstN (mr:Gam->Q3->Res (List PV)):ML:=fun Γ st=>(mr Γ st).bind fun ps st1=>if ps.length<=lim then .ok ps st1 else .stuck
theorem sn_lst (h:SimA X E es mr):SimN X E (.List es pos) (mLstN mr):=
  ⟨fun Γ σ H ρ st P Q R G hq k=>WE.of (pe_lst pa_w) (h.use' R G hq.bind fun ps st1 H1 ρ1 vs eq x1 R1 G1 r1 h1=>by
    by_cases hl:ps.length<=lim
    · refine ⟨by rw [<- r1.length]; exact Uh hl,new_at x1 R1 r1 fun H2 ρ2 a us=>k ps st1 H2 ρ2 a us ?_⟩
      unfold mLstN
      rw [eq]
      exact if_pos hl
    · rw [if_neg hl] at h1; exact h1.elim)⟩
end
end Sm
namespace Sm
open PySem PySem.Spec L2
def Jt (cap:List (Option Nat)) (Γ:Gam):Gam:=cap.map fun c=>c.bind fun j=>(Γ[j]?).join
theorem EnvR.cap {H:Hp} {ρ:Tk} {Γ:Gam} {σ:St} (h:EnvR H ρ Γ σ) (cap:List (Option Nat)):EnvR H ρ (Jt cap Γ) (capOf cap σ):=by
  refine ⟨by unfold Jt capOf; rw [O2,O2],fun i p e=>?_⟩
  unfold Jt at e
  unfold capOf
  rw [E6] at e ⊢
  cases q:cap[i]? with
  | none=>rw [q] at e; cases e
  | some c=>
    rw [q] at e
    cases c with
    | none=>cases e
    | some j=>
      have e':(Γ[j]?).join=some p:=Option.some.inj e
      cases r:Γ[j]? with
      | none=>rw [r] at e'; cases e'
      | some o=>
        rw [r] at e'
        have:o=some p:=e'
        subst this
        obtain ⟨v,e1,e2⟩:=h.2 j p r
        exact ⟨v,by show some ((σ[j]?).join)=some (some v); rw [e1]; rfl,e2⟩
def FreeT (cap:List (Option Nat)) (ga:GA):Prop:=∀ Γ p Γ1,ga p (Jt cap Γ)=some Γ1->Γ1.length=(Jt cap Γ).length/\∀ (i:Nat) (q:PV),(Jt cap Γ)[i]?=some (some q)->Γ1[i]?=some (some q)
theorem capG_none {cap:List (Option Nat)} {i:Nat} (h:cap[i]?=some none) (Γ:Gam):(Jt cap Γ)[i]?=some none:=by
  unfold Jt
  rw [E6,h]; rfl
theorem Jw {cap:List (Option Nat)} {i:Nat} (h:cap[i]?=some none:=by rfl):FreeT cap (Qp i):=fun Γ p Γ1 e=>by
  cases e
  refine ⟨F4 ..,fun j q hj=>?_⟩
  rw [F0 fun z=>?_]
  · exact hj
  · subst z; rw [capG_none h] at hj; cases hj
def FreeL (cap:List (Option Nat)) (ga:GAs):Prop:=∀ Γ ps Γ0 Γ1,(∀ (i:Nat) (q:PV),(Jt cap Γ)[i]?=some (some q)->Γ0[i]?=some (some q))->ga ps Γ0=some Γ1->Γ1.length=Γ0.length/\∀ (i:Nat) (q:PV),(Jt cap Γ)[i]?=some (some q)->Γ1[i]?=some (some q)
theorem free_nil {cap:List (Option Nat)}:FreeL cap K4:=fun Γ ps Γ0 Γ1 h e=>by
  cases ps with
  | nil=>cases e; exact ⟨rfl,h⟩
  | cons _ _=>cases e
theorem Ve {cap:List (Option Nat)} {i:Nat} {gs:GAs} (hs:FreeL cap gs) (h:cap[i]?=some none:=by rfl):FreeL cap (Jv (Qp i) gs):=fun Γ ps Γ0 Γ1 h0 e=>by
  cases ps with
  | nil=>cases e
  | cons p ps=>
    obtain ⟨a,b⟩:=hs Γ ps (Γ0.set i (some p)) Γ1 (fun k r hk=>by
      rw [F0 fun z=>?_]
      · exact h0 k r hk
      · subst z; rw [capG_none h] at hk; cases hk) e
    exact ⟨by rw [a,F4],b⟩
theorem free_tup {cap:List (Option Nat)} {gs:GAs} (hs:FreeL cap gs):FreeT cap (K3 gs):=fun Γ p Γ1 e=>by
  cases p with
  | tup ps=>exact hs Γ ps _ Γ1 (fun _ _ h=>h) e
  | _=>cases e
open Classical in
def Ju (ga:GA) (mt:MT) (me:ME) (w:Wt) (Γ0:Gam):List PV->Q3->Res (List PV)
  | [],st=>if wOk w st then .ok [] st else .stuck
  | x :: xs,st=>if wOk w st then (match ga x Γ0 with
    | none=>.stuck
    | some Γ1=>(mt Γ1 st).bind fun b st1=>if b=true then (me Γ1 st1).bind fun y st2=>(Ju ga mt me w Γ0 xs st2).bind fun ys st3=>.ok (y :: ys) st3 else Ju ga mt me w Γ0 xs st1) else .stuck
def noX {α:Type}:Res α->Res α
  | .exc _ _=>.stuck
  | r=>r
def Za (cap:List (Option Nat)) (ga:GA) (mi:MI) (mt:MT) (me:ME):ML:=fun Γ st=>(mi Γ st).bind fun iw st1=>noX (Ju ga mt me iw.2 (Jt cap Γ) iw.1 st1)
structure SimTs (X:Cx) (ifs:List Expr) (m:MT):Prop where
  run:∀ (Γ:Gam) (σ:St) (H:Hp) (ρ:Tk) (st:Q3) (P:Bool->Q3->Hp->Tk->Prop) (Q:Bool->Hp->Prop),Rel H ρ st->EnvR H ρ Γ σ->Acc X.mg E0 H ρ P (m Γ st) ->
    (∀ b st1 H1 ρ1,m Γ st=.ok b st1->Ext H ρ H1 ρ1->Rel H1 ρ1 st1->EnvR H1 ρ1 Γ σ->Q b H1)->∃ t,PTs X ifs t/\t σ H Q
def Zc:MT:=fun _ st=>.ok true st
theorem We {X:Cx}:SimTs X [] Zc:=⟨fun Γ σ H ρ st P Q R G h k=>⟨_,pts_nil,k true st H ρ rfl (Ext.refl _ _) R G⟩⟩
theorem sts_one {X:Cx} {c:Expr} {m:MT} (hc:SimT X E0 c m):SimTs X [c] m:=⟨fun Γ σ H ρ st P Q R G h k=>⟨_,pts_one pt_w,hc.use' R G h fun b st1 H1 ρ1 e x1 R1 G1 p=>k b st1 H1 ρ1 e x1 R1 G1⟩⟩
theorem acc_noX {α:Type} {mg:Str->Option Value} {E E':XK} {H:Hp} {ρ:Tk} {P:α->Q3->Hp->Tk->Prop} {r:Res α} (h:Acc mg E H ρ P (noX r)):Acc mg E' H ρ P r:=by
  cases r with
  | ok a st=>exact h
  | exc x st=>exact h.elim
  | stuck=>exact h
theorem Res.assoc {α β γ:Type} (r:Res α) (f:α->Q3->Res β) (g:β->Q3->Res γ):(r.bind f).bind g=r.bind fun a st=>(f a st).bind g:=by cases r <;> rfl
theorem Acc.assoc {α β γ:Type} {mg:Str->Option Value} {E:XK} {H:Hp} {ρ:Tk} {P:γ->Q3->Hp->Tk->Prop} {r:Res α} {f:α->Q3->Res β} {g:β->Q3->Res γ} (h:Acc mg E H ρ P ((r.bind f).bind g)):Acc mg E H ρ P (r.bind fun a st=>(f a st).bind g):=by
  rw [<- Res.assoc]; exact h
theorem EnvR.le {H:Hp} {ρ:Tk} {Γ Γ':Gam} {σ:St} (h:EnvR H ρ Γ' σ) (hl:Γ.length=σ.length) (k:∀ (i:Nat) (q:PV),Γ[i]?=some (some q)->Γ'[i]?=some (some q)):EnvR H ρ Γ σ:=⟨hl,fun i p e=>h.2 i p (k i p e)⟩
section
variable {X:Cx} {E:XK} {pos:Pos} {tg iter elt:Expr} {ifs:List Expr} {N N':List Str} {sc scE:Scope} {cap:List (Option Nat)} {ga:GA} {mi:MI} {mt:MT} {me:ME}
def aE (X:Cx) (N':List Str) (sc:Scope) (e:Expr):TE:=fun σ H Q=>∀ cl C s0 H0 ex,WE (V9 X N' sc cl C s0 H0 ex) e σ H Q
def aG (X:Cx) (N':List Str) (sc:Scope) (tg:Expr):TG:=fun v σ H Q=>∀ cl C s0 H0 ex,WGx (V9 X N' sc cl C s0 H0 ex) tg v σ H Q
def aT (X:Cx) (N':List Str) (sc:Scope) (ifs:List Expr):TT:=fun σ H Q=>∀ cl C s0 H0 ex,∃ t,PTs (V9 X N' sc cl C s0 H0 ex) ifs t/\t σ H Q
theorem comp_body {Γ:Gam} {σ:St} {H1:Hp} {ρ1:Tk} {st1:Q3} {J:It} {items:List PV} {w:Wt} {Q:VK} {P:List PV->Q3->Hp->Tk->Prop} (hg:∀ cl C s0 H0 ex,SimG (V9 X N' sc cl C s0 H0 ex) tg ga) (he:∀ cl C s0 H0 ex,SimE (V9 X N' sc cl C s0 H0 ex) E0 elt me) (ht:∀ cl C s0 H0 ex,SimTs (V9 X N' sc cl C s0 H0 ex) ifs mt)
    (hf:FreeT cap ga) (R1:Rel H1 ρ1 st1) (G1:EnvR H1 ρ1 Γ σ) (src:Src J items w H1 ρ1) (hlen:items.length<=sizeLine) (h:Acc X.mg E0 H1 ρ1 P (Ju ga mt me w (Jt cap Γ) items st1))
    (k:∀ ys st2 H2 ρ2 acc vs,Ju ga mt me w (Jt cap Γ) items st1=.ok ys st2->Ext H1 ρ1 H2 ρ2->Rel H2 ρ2 st2->acc∈ρ2.hid->H1 acc=none->H2 acc=some (.lst vs)->RepL H2 ρ2 ys vs->Q (.ref acc) H2):compBodyT J cap (aG X N' sc tg) (aT X N' sc ifs) (aE X N' sc elt) σ H1 Q:=by
  intro acc hacc
  let W:Nat->Nat->List V->St->Hp->Prop:=fun i m vs σ' H'=>m=items.length - i/\i<=items.length/\vs.length<=i/\∃ ρ' st' ys,Ext H1 ρ1 H' ρ'/\acc∈ρ'.hid/\Rel H' ρ' st'/\EnvR H' ρ' (Jt cap Γ) σ'/\H' acc=some (.lst vs)/\RepL H' ρ' ys vs /\
    Ju ga mt me w (Jt cap Γ) items st1=(Ju ga mt me w (Jt cap Γ) (items.drop i) st').bind fun zs st3=>.ok (ys ++ zs) st3
  refine ⟨W,⟨_,rfl,Nat.zero_le _,O7 _,ρ1.hide acc,st1,[],Ext.hide hacc,D1,R1.hide hacc,(G1.cap cap).hide hacc,Qs,rfl,?_⟩,?_⟩
  · rw [List.drop_zero]
    cases r:Ju ga mt me w (Jt cap Γ) items st1 with
    | ok zs st3=>rfl
    | exc x st3=>rfl
    | stuck=>rfl
  rintro i m vs σ' H' ⟨hm,hi,hvl,ρ',st',ys,x,hmem,R',G',ha,ry,hq⟩
  have hA:Acc X.mg E0 H1 ρ1 P ((Ju ga mt me w (Jt cap Γ) (items.drop i) st').bind fun zs st3=>.ok (ys ++ zs) st3):=by rw [<- hq]; exact h
  refine ⟨ha,?_⟩
  by_cases hlt:i < items.length
  · right
    have hd:items.drop i=items[i] :: items.drop (i + 1):=List.drop_eq_getElem_cons hlt
    rw [hd,Ju] at hA hq
    by_cases hw:wOk w st'
    · rw [if_pos hw] at hA hq
      refine ⟨src.go H' _ st' x R' hw i hlt,by omega,fun y H2 hy=>?_⟩
      obtain ⟨sm,ry2⟩:=src.yld H' _ st' x R' hw i _ (O4 hlt) y H2 hy
      cases eg:ga items[i] (Jt cap Γ) with
      | none=>rw [eg] at hA; exact hA.elim
      | some Γ1=>
        rw [eg] at hA hq
        have x2:Ext H' ρ' H2 ρ':=Ext.same sm
        have R2:=R'.same sm
        intro cl C s0 H0 ex
        refine (hg cl C s0 H0 ex).run (Jt cap Γ) Γ1 σ' H2 ρ' _ y _ (G'.ext x2) ry2 eg fun σ3 G3=>?_
        intro cl C s0 H0 ex
        have hA2:=Acc.later hA (x.trans x2)
        refine (ht cl C s0 H0 ex).run Γ1 σ3 H2 ρ' st' _ _ R2 G3 (Acc.bind (Acc.assoc hA2)) fun b st4 H4 ρ4 e4 x4 R4 G4=>?_
        simp only [e4,Res.bind] at hA hq
        have G0:∀ {H'':Hp} {ρ'':Tk},EnvR H'' ρ'' Γ1 σ3->EnvR H'' ρ'' (Jt cap Γ) σ3:=fun {H'' ρ''} g=>g.le (by
          rw [<- G3.1]
          exact (hf Γ _ Γ1 eg).1.symm) (hf Γ _ Γ1 eg).2
        have x14:Ext H1 ρ1 H4 ρ4:=x.trans (x2.trans x4)
        have hm4:acc∈ρ4.hid:=x4.hidM acc hmem
        have na:acc∉ρ'.tr:=R'.ap acc hmem
        have ha4:H4 acc=some (.lst vs):=x4.keep acc _ (sm acc _ ha) na
        have ry4:RepL H4 ρ4 ys vs:=ry.ext (x2.trans x4)
        cases b with
        | false=>
          rw [if_neg O8] at hA hq ⊢
          exact ⟨_,show items.length - (i + 1) < m by omega,rfl,hlt,by omega,ρ4,st4,ys,x14,hm4,R4,G0 G4,ha4,ry4,hq⟩
        | true=>
          rw [if_pos rfl] at hA hq ⊢
          intro cl C s0 H0 ex
          have hA4:=Acc.later hA x14
          refine (he cl C s0 H0 ex).use' R4 G4 (Acc.bind (Acc.assoc hA4)) fun z st5 H5 ρ5 zv e5 x5 R5 G5 r5 h5=>?_
          simp only [e5,Res.bind] at hA hq
          have hm5:acc∈ρ5.hid:=x5.hidM acc hm4
          have ha5:H5 acc=some (.lst vs):=x5.keep acc _ ha4 (R4.ap acc hm4)
          have x15:Ext H1 ρ1 H5 ρ5:=x14.trans x5
          refine ⟨ha5,_,show items.length - (i + 1) < m by omega,rfl,hlt,by rw [D9]; simp; omega,ρ5,st5,ys ++ [z],x15.put0 hacc,hm5,R5.rehide hm5,(G0 G5).rehide hm5,Qs,((ry4.ext x5).append (RepL.cons r5 RepL.nil)).rehide hm5,?_⟩
          refine hq.trans ?_
          cases rr:Ju ga mt me w (Jt cap Γ) (items.drop (i + 1)) st5 with
          | ok zs st6=>
            show Res.ok (ys ++ z :: zs) st6=Res.ok ((ys ++ [z]) ++ zs) st6
            rw [List.append_assoc]; rfl
          | exc x6 st6=>rfl
          | stuck=>rfl
    · rw [if_neg hw] at hA; exact hA.elim
  · left
    have ei:i=items.length:=by omega
    subst ei
    rw [List.drop_length,Ju] at hA hq
    by_cases hw:wOk w st'
    · rw [if_pos hw] at hA hq
      refine ⟨src.stop H' _ st' x R' hw,?_⟩
      have hq:Ju ga mt me w (Jt cap Γ) items st1=.ok (ys ++ []) st':=hq
      rw [List.append_nil] at hq
      exact k ys st' H' ρ' acc vs hq x R' hmem hacc ha ry
    · rw [if_neg hw] at hA; exact hA.elim
theorem comp_run {Γ:Gam} {σ:St} {H:Hp} {ρ:Tk} {st:Q3} {Q:VK} {P:List PV->Q3->Hp->Tk->Prop} (hi:SimI X E tg iter mi) (hg:∀ cl C s0 H0 ex,SimG (V9 X N' sc cl C s0 H0 ex) tg ga) (he:∀ cl C s0 H0 ex,SimE (V9 X N' sc cl C s0 H0 ex) E0 elt me) (ht:∀ cl C s0 H0 ex,SimTs (V9 X N' sc cl C s0 H0 ex) ifs mt)
    (hf:FreeT cap ga) (R:Rel H ρ st) (G:EnvR H ρ Γ σ) (h:Acc X.mg E H ρ P (Za cap ga mi mt me Γ st)) (k:∀ ps st2 H2 ρ2 a vs,Za cap ga mi mt me Γ st=.ok ps st2->Ext H ρ H2 ρ2->Rel H2 ρ2 st2->a∈ρ2.hid->H a=none->H2 a=some (.lst vs)->RepL H2 ρ2 ps vs->Q (.ref a) H2):tCompT cap (WI X tg iter) (aG X N' sc tg) (aT X N' sc ifs) (aE X N' sc elt) σ H Q:=by
  refine hi.run Γ σ H ρ st _ _ R G h.bind fun iw st1 H1 ρ1 J eq x1 R1 G1 ok hl src h1=>?_
  refine comp_body hg he ht hf R1 G1 src hl (acc_noX (E':=E0) h1) fun ys st2 H2 ρ2 acc vs eq2 x2 R2 hm hn ha ry=>?_
  refine k ys st2 H2 ρ2 acc vs ?_ (x1.trans x2) R2 hm ?_ ha ry
  · unfold Za
    rw [eq]
    show noX _=_
    rw [eq2]; rfl
  cases e:H acc with
  | none=>rfl
  | some o=>
    obtain ⟨o',e'⟩:=x1.old acc o e
    rw [hn] at e'; cases e'
theorem pg_a {N':List Str} {sc:Scope} {tg:Expr}:∀ cl C s0 H0 ex,PG (V9 X N' sc cl C s0 H0 ex) tg (aG X N' sc tg):=fun cl C s0 H0 ex pins s σ H v u Q I r h=>pg_x pins s σ H v u Q I r (h cl C s0 H0 ex)
theorem pe_a {N':List Str} {sc:Scope} {e:Expr}:∀ cl C s0 H0 ex,PE (V9 X N' sc cl C s0 H0 ex) e (aE X N' sc e):=fun cl C s0 H0 ex pins s σ H Q I h=>h cl C s0 H0 ex pins s I
theorem pts_a {N':List Str} {sc:Scope} {ifs:List Expr}:∀ cl C s0 H0 ex,PTs (V9 X N' sc cl C s0 H0 ex) ifs (aT X N' sc ifs):=fun cl C s0 H0 ex pins s σ H Q I h=>by
  obtain ⟨t,a,b⟩:=h cl C s0 H0 ex
  exact a pins s σ H Q I b
theorem Zx (cap:List (Option Nat)) (N':List Str) (hcalm:X.calm=true) (hi:SimI X E tg iter mi) (hg:∀ cl C s0 H0 ex,SimG (V9 X N' sc cl C s0 H0 ex) tg ga) (he:∀ cl C s0 H0 ex,SimE (V9 X N' sc cl C s0 H0 ex) E0 elt me) (ht:∀ cl C s0 H0 ex,SimTs (V9 X N' sc cl C s0 H0 ex) ifs mt)
    (hf:FreeT cap ga) (hN:X.N=N:=by rfl) (hE:X.env.scope=scE:=by rfl) (hc:compOkC N N' sc scE cap=true:=by kernel_rfl) (hs:∀ x,foldedSetIterable iter X.env x=pure x:=by intro _; rfl) :
    SimN X E (.ListComp elt [⟨tg,iter,ifs,0⟩] sc pos) (Za cap ga mi mt me):=
  ⟨fun Γ σ H ρ st P Q R G h k=>WE.of (pe_compT hcalm pi_w pg_a pe_a pts_a hN hE hc hs) (comp_run hi hg he ht hf R G h k)⟩
end
end Sm
namespace Sm
open PySem PySem.Spec L2
inductive SR where
  | nx (Γ:Gam) (st:Q3) | rt (v:PV) (st:Q3) | bk (Γ:Gam) (st:Q3) | ct (Γ:Gam) (st:Q3) | exc (x:Exc) (st:Q3) | stuck
abbrev MS:=Gam->Q3->SR
def Res.sbind {α:Type} (r:Res α) (f:α->Q3->SR):SR:=match r with
  | .ok a st=>f a st
  | .exc x st=>.exc x st
  | .stuck=>.stuck
def AccS (mg:Str->Option Value) (E:XK) (D:Ends) (H:Hp) (ρ:Tk):SR->Prop
  | .nx Γ st=>∀ σ' H' ρ',Ext H ρ H' ρ'->Rel H' ρ' st->EnvR H' ρ' Γ σ'->D.nx σ' H'
  | .bk Γ st=>∀ σ' H' ρ',Ext H ρ H' ρ'->Rel H' ρ' st->EnvR H' ρ' Γ σ'->D.bk σ' H'
  | .ct Γ st=>∀ σ' H' ρ',Ext H ρ H' ρ'->Rel H' ρ' st->EnvR H' ρ' Γ σ'->D.ct σ' H'
  | .rt p st=>∀ v H' ρ',Ext H ρ H' ρ'->Rel H' ρ' st->Rep H' ρ' p v->D.rt v H'
  | .exc x st=>∀ C dv H' ρ',mg x.cls=some (.ref C)->Ext H ρ H' ρ'->Rel H' ρ' st->XFs H' ρ' x.fs dv->E (.ref C) dv H'
  | .stuck=>False
section
variable {α:Type} {mg:Str->Option Value} {E:XK} {D:Ends} {H H1:Hp} {ρ ρ1:Tk}
theorem AccS.later {r:SR} (h:AccS mg E D H ρ r) (x:Ext H ρ H1 ρ1):AccS mg E D H1 ρ1 r:=by
  cases r with
  | nx Γ st=>exact fun σ' H' ρ' x'=>h σ' H' ρ' (x.trans x')
  | bk Γ st=>exact fun σ' H' ρ' x'=>h σ' H' ρ' (x.trans x')
  | ct Γ st=>exact fun σ' H' ρ' x'=>h σ' H' ρ' (x.trans x')
  | rt p st=>exact fun v H' ρ' x'=>h v H' ρ' (x.trans x')
  | exc y st=>exact fun C dv H' ρ' m x'=>h C dv H' ρ' m (x.trans x')
  | stuck=>exact h
theorem AccS.bind {r:Res α} {f:α->Q3->SR} (h:AccS mg E D H ρ (r.sbind f)):Acc mg E H ρ (fun a st1 H1 ρ1=>AccS mg E D H1 ρ1 (f a st1)) r:=by
  cases r with
  | ok a st=>exact fun H' ρ' x' R'=>AccS.later (show AccS mg E D H ρ (f a st) from h) x'
  | exc e st=>exact h
  | stuck=>exact h
end
theorem Res.sassoc {α β:Type} (r:Res α) (f:α->Q3->Res β) (g:β->Q3->SR):(r.bind f).sbind g=r.sbind fun a st=>(f a st).sbind g:=by cases r <;> rfl
theorem AccS.assoc {α β:Type} {mg:Str->Option Value} {E:XK} {D:Ends} {H:Hp} {ρ:Tk} {r:Res α} {f:α->Q3->Res β} {g:β->Q3->SR} (h:AccS mg E D H ρ ((r.bind f).sbind g)):AccS mg E D H ρ (r.sbind fun a st=>(f a st).sbind g):=by
  rw [<- Res.sassoc]; exact h
structure SimS (X:Cx) (E:XK) (s:Stmt) (m:MS):Prop where
  run:∀ (Γ:Gam) (σ:St) (H:Hp) (ρ:Tk) (st:Q3) (D:Ends),Rel H ρ st->EnvR H ρ Γ σ->AccS X.mg E D H ρ (m Γ st)->WS X s D σ H
structure SimB (X:Cx) (E:XK) (ss:List Stmt) (m:MS):Prop where
  run:∀ (Γ:Gam) (σ:St) (H:Hp) (ρ:Tk) (st:Q3) (D:Ends),Rel H ρ st->EnvR H ρ Γ σ->AccS X.mg E D H ρ (m Γ st)->WB X ss D σ H
section
variable {X:Cx} {E:XK} {pos:Pos} {e:Expr} {m:ME}
def Zi:MS:=fun Γ st=>.nx Γ st
def Qm (m1 m2:MS):MS:=fun Γ st=>match m1 Γ st with
  | .nx Γ1 st1=>m2 Γ1 st1
  | r=>r
theorem Z4:SimB X E [] Zi:=⟨fun Γ σ H ρ st D R G h=>WB.of pss_nil (h σ H ρ (Ext.refl _ _) R G)⟩
theorem Qc {s:Stmt} {rest:List Stmt} {m1 m2:MS} (h1:SimS X E s m1) (h2:SimB X E rest m2):SimB X E (s :: rest) (Qm m1 m2):=
  ⟨fun Γ σ H ρ st D R G h=>WB.of (pss_cons ps_w pss_w) (h1.run Γ σ H ρ st _ R G (by
    unfold Qm at h
    cases r:m1 Γ st with
    | nx Γ1 st1=>rw [r] at h; exact fun σ' H' ρ' x' R' G'=>h2.run Γ1 σ' H' ρ' st1 D R' G' (AccS.later h x')
    | bk Γ1 st1=>rw [r] at h; exact h
    | ct Γ1 st1=>rw [r] at h; exact h
    | rt p st1=>rw [r] at h; exact h
    | exc x st1=>rw [r] at h; exact h
    | stuck=>rw [r] at h; exact h))⟩
theorem Qh {s:Stmt} {m1:MS} (h1:SimS X E s m1):SimB X E [s] m1:=⟨fun Γ σ H ρ st D R G h=>WB.of (pss_one ps_w) (h1.run Γ σ H ρ st D R G h)⟩
theorem ss_pass:SimS X E (.Pass pos) Zi:=⟨fun Γ σ H ρ st D R G h=>WS.of ps_pass (h σ H ρ (Ext.refl _ _) R G)⟩
def Wy (m:ME):MS:=fun Γ st=>(m Γ st).sbind fun _ st1=>.nx Γ st1
theorem Yj (he:SimE X E e m) (hs:swapsWith e none pos.line X.env=pure false:=by rfl):SimS X E (.Expr e pos) (Wy m):=
  ⟨fun Γ σ H ρ st D R G h=>WS.of (ps_expr Y2 hs) (he.use R G h.bind fun p st1 H1 ρ1 v x1 R1 G1 r1 h1=>h1 σ H1 ρ1 (Ext.refl _ _) R1 G1)⟩
def Z1 (m:ME):MS:=fun Γ st=>(m Γ st).sbind fun p st1=>.rt p st1
theorem Qy (he:SimE X E e m):SimS X E (.Return (some e) pos) (Z1 m):=
  ⟨fun Γ σ H ρ st D R G h=>WS.of (ps_ret Y2) (he.use R G h.bind fun p st1 H1 ρ1 v x1 R1 G1 r1 h1=>h1 v H1 ρ1 (Ext.refl _ _) R1 r1)⟩
def Jc (i:Nat) (m:ME):MS:=fun Γ st=>(m Γ st).sbind fun p st1=>.nx (Γ.set i (some p)) st1
theorem Qu (i:Nat) {x:Str} {pos':Pos} (hN:X.N.Nodup) (he:SimE X E e m) (hi:X.N[i]?=some x:=by rfl) (hx:Loc X.env.scope x:=by first | exact Or.inl rfl | exact Or.inr rfl) (hs:swapsWith e (some (.Name x pos')) pos.line X.env=pure false:=by rfl) (hf:X.fn x=true\/X.env.scope.names.lookup x=some .local:=by first | exact .inl rfl | exact .inr rfl) :
    SimS X E (.Assign [.Name x pos'] e pos) (Jc i m):=
  ⟨fun Γ σ H ρ st D R G h=>WS.of (ps_set hN hi hx Y2 hs hf) (he.use R G h.bind fun p st1 H1 ρ1 v x1 R1 G1 r1 h1=>h1 _ H1 ρ1 (Ext.refl _ _) R1 (G1.set r1 i))⟩
section
variable {tg iter elt:Expr} {ifs:List Expr} {N N':List Str} {sc scE:Scope} {ga:GA} {mi:MI} {mt:MT} {me:ME}
theorem ss_compV (cap:List (Option Nat)) (N':List Str) (i:Nat) {x:Str} {px cpos:Pos} (hnd:X.N.Nodup) (hcalm:X.calm=true) (hi:SimI X E tg iter mi) (hg:∀ cl C s0 H0 ex,SimG (V9 X N' sc cl C s0 H0 ex) tg ga) (he:∀ cl C s0 H0 ex,SimE (V9 X N' sc cl C s0 H0 ex) E0 elt me) (ht:∀ cl C s0 H0 ex,SimTs (V9 X N' sc cl C s0 H0 ex) ifs mt)
    (hf:FreeT cap ga) (hix:X.N[i]?=some x:=by rfl) (hx:Loc X.env.scope x:=by first | exact Or.inl rfl | exact Or.inr rfl) (hsw:swapsWith (.ListComp elt [⟨tg,iter,ifs,0⟩] sc cpos) (some (.Name x px)) pos.line X.env=pure true:=by rfl)
    (hN:X.N=N:=by rfl) (hE:X.env.scope=scE:=by rfl) (hc:compOkC N N' sc scE cap=true:=by kernel_rfl) (hs:∀ x,foldedSetIterable iter X.env x=pure x:=by intro _; rfl) (hfn:X.fn x=true\/X.env.scope.names.lookup x=some .local:=by first | exact .inl rfl | exact .inr rfl) :
    SimS X E (.Assign [.Name x px] (.ListComp elt [⟨tg,iter,ifs,0⟩] sc cpos) pos) (Jc i (Xa (Za cap ga mi mt me))):=
  ⟨fun Γ σ H ρ st D R G h=>WS.of (ps_compT hnd hix hx hcalm pi_w pg_a pe_a pts_a hsw hN hE hc hs hfn) (comp_run hi hg he ht hf R G (AccS.bind (by unfold Jc Xa at h; exact AccS.assoc h)) fun ps st1 H1 ρ1 a vs eq x R1 hm hn ha r=>by
    obtain ⟨x2,R2,r2⟩:=out_val R x R1 hm hn ha r
    simp only [Jc,Xa,eq,Res.bind,Res.sbind] at h
    exact h _ _ _ x2 R2 ((G.ext x2).set r2 i))⟩
end
def setIx (st:Q3) (o i p:PV):Option Q3:=match o,i with
  | .ref k,.int j=>match st[k]? with
    | some (.lst xs)=>(ixN xs.length j).map fun n=>st.set k (.lst (xs.set n p))
    | _=>none
  | _,_=>none
def mSetIx (mo mi m:ME):MS:=fun Γ st=>(m Γ st).sbind fun p st1=>(mo Γ st1).sbind fun o st2=>(mi Γ st2).sbind fun i st3=>match setIx st3 o i p with
  | some st4=>.nx Γ st4
  | none=>.stuck
theorem set_run {H:Hp} {ρ:Tk} {st st':Q3} {o i p:PV} {x y z:V} (R:Rel H ρ st) (ro:Rep H ρ o x) (ri:Rep H ρ i y) (rp:Rep H ρ p z) (e:setIx st o i p=some st') :
    ∃ a vs k j,x=.ref a/\y=.int k/\H a=some (.lst vs)/\ixN vs.length k=some j/\Ext H ρ (upd H a (.lst (vs.set j z))) ρ/\Rel (upd H a (.lst (vs.set j z))) ρ st':=by
  unfold setIx at e
  split at e
  · rename_i k j
    split at e
    · rename_i xs hs
      cases ej:ixN xs.length j with
      | none=>rw [ej] at e; cases e
      | some n=>
        rw [ej] at e
        have e:st.set k (.lst (xs.set n p))=st':=Option.some.inj e
        subst e
        obtain ⟨a,ea,rfl⟩:=ro
        cases ri
        obtain ⟨b,vs,f1,f2,f3⟩:=R.lst hs
        rw [ea] at f1; cases f1
        exact ⟨a,vs,j,n,rfl,rfl,f2,by rw [<- f3.length]; exact ej,Ext.put (D6 ea) f2,R.put ea f2 (f3.set rp n)⟩
    · cases e
  · cases e
theorem ss_sub {o i:Expr} {mo mi:ME} {tpos:Pos} (he:SimE X E e m) (ho:SimE X E o mo) (hi:SimE X E i mi)
    (ha:∀ v,assign (.Subscript o i tpos) X.env v=(do
      let ov <- holding [v] (eval o X.env)
      let iv <- holding [v,ov] (eval i X.env)
      standAt tpos
      holding [v,ov,iv] (setItem ov iv v)
      release [v,ov,iv] []):=by intro _; rfl)
    (hs:swapsWithSole [.Subscript o i tpos] e pos.line X.env=pure false:=by rfl) (hw:swappedStores [.Subscript o i tpos] e X.env=pure none:=by rfl) (h1:(assignEach [.Subscript o i tpos] X.env).map (·.2)=[assign (.Subscript o i tpos) X.env]:=by rfl) :
    SimS X E (.Assign [.Subscript o i tpos] e pos) (mSetIx mo mi m):=
  ⟨fun Γ σ H ρ st D R G h=>WS.of (ps_asg Y2 (pg_sub Y2 Y2 set_list ha) hs hw h1) (he.use R G h.bind fun p st1 H1 ρ1 z x1 R1 G1 r1 h1=>ho.use R1 G1 h1.bind fun ov st2 H2 ρ2 x x2 R2 G2 r2 h2=>hi.use R2 G2 h2.bind fun iv st3 H3 ρ3 y x3 R3 G3 r3 h3=>by
    cases es:setIx st3 ov iv p with
    | none=>rw [es] at h3; exact h3.elim
    | some st4=>
      rw [es] at h3
      obtain ⟨a,vs,k,j,rfl,rfl,f1,f2,x4,R4⟩:=set_run R3 (r2.ext x3) r3 (r1.ext (x2.trans x3)) es
      exact ⟨a,vs,k,j,rfl,rfl,f1,f2,h3 σ _ ρ3 x4 R4 (G3.ext x4)⟩)⟩
def Yw (mt:MT) (ma mb:MS):MS:=fun Γ st=>(mt Γ st).sbind fun b st1=>if b=true then ma Γ st1 else mb Γ st1
theorem Zh {c:Expr} {a b:List Stmt} {mt:MT} {ma mb:MS} (hc:SimT X E c mt) (ha:SimB X E a ma) (hb:SimB X E b mb):SimS X E (.If c a b pos) (Yw mt ma mb):=
  ⟨fun Γ σ H ρ st D R G h=>WS.of (ps_if pt_w pss_w pss_w) (hc.use R G h.bind fun k st1 H1 ρ1 x1 R1 G1 h1=>by
    cases k with
    | true=>rw [if_pos rfl] at h1 ⊢; exact ha.run Γ σ H1 ρ1 st1 D R1 G1 h1
    | false=>rw [if_neg O8] at h1 ⊢; exact hb.run Γ σ H1 ρ1 st1 D R1 G1 h1)⟩
open Classical in
def forG (ga:GA) (body:MS) (w:Wt):List PV->Gam->Q3->SR
  | [],Γ,st=>if wOk w st then .nx Γ st else .stuck
  | x :: xs,Γ,st=>if wOk w st then (match ga x Γ with
    | none=>.stuck
    | some Γ1=>match body Γ1 st with
      | .nx Γ2 st2=>forG ga body w xs Γ2 st2
      | .ct Γ2 st2=>forG ga body w xs Γ2 st2
      | .bk Γ2 st2=>.nx Γ2 st2
      | .rt v st2=>.rt v st2
      | .exc x st2=>.exc x st2
      | .stuck=>.stuck) else .stuck
def mFor (ga:GA) (mi:MI) (body:MS):MS:=fun Γ st=>(mi Γ st).sbind fun iw st1=>forG ga body iw.2 iw.1 Γ st1
theorem ss_for {tg iter:Expr} {bd:List Stmt} {ga:GA} {mi:MI} {body:MS} (hp:PassesOwn (model X.prog X.w) X.A X.env X.xe) (hc:X.calm=true) (hi:SimI X E tg iter mi) (hg:SimG X tg ga) (hb:SimB X E bd body)
    (hs:∀ x,foldedSetIterable iter X.env x=pure x:=by intro _; rfl):SimS X E (.For tg iter bd [] pos) (mFor ga mi body):=
  ⟨fun Γ σ H ρ st D R G h=>WS.of (ps_for hp hc pi_w pg_x pss_w hs) (hi.run Γ σ H ρ st _ _ R G h.bind fun iw st1 H1 ρ1 J eq x1 R1 G1 ok hl src h1=>by
    let W:Nat->Nat->St->Hp->Prop:=fun i m σ' H'=>m=iw.1.length - i/\i<=iw.1.length/\∃ Γ' ρ' st',Ext H1 ρ1 H' ρ'/\Rel H' ρ' st'/\EnvR H' ρ' Γ' σ'/\AccS X.mg E D H' ρ' (forG ga body iw.2 (iw.1.drop i) Γ' st')
    refine ⟨W,⟨_,rfl,Nat.zero_le _,Γ,ρ1,st1,Ext.refl _ _,R1,G1,by rw [List.drop_zero]; exact h1⟩,?_⟩
    rintro i m σ' H' ⟨hm,hi',Γ',ρ',st',x,R',G',hA⟩
    by_cases hlt:i < iw.1.length
    · right
      have hd:iw.1.drop i=iw.1[i] :: iw.1.drop (i + 1):=List.drop_eq_getElem_cons hlt
      rw [hd,forG] at hA
      by_cases hw:wOk iw.2 st'
      · rw [if_pos hw] at hA
        refine ⟨src.go H' ρ' st' x R' hw i hlt,fun σ2 H2=>W (i + 1) (iw.1.length - (i + 1)) σ2 H2,fun σ2 H2 z=>⟨_,by omega,z⟩,fun y H2 hy=>?_⟩
        obtain ⟨sm,ry⟩:=src.yld H' ρ' st' x R' hw i _ (O4 hlt) y H2 hy
        have x2:Ext H' ρ' H2 ρ':=Ext.same sm
        cases eg:ga iw.1[i] Γ' with
        | none=>rw [eg] at hA; exact hA.elim
        | some Γ1=>
          rw [eg] at hA
          refine hg.run Γ' Γ1 σ' H2 ρ' _ y _ (G'.ext x2) ry eg fun σ3 G3=>?_
          have hA2:=AccS.later hA x2
          simp only at hA2
          refine hb.run Γ1 σ3 H2 ρ' st' _ (R'.same sm) G3 ?_
          have again:∀ {Γ2:Gam} {st2:Q3},AccS X.mg E D H2 ρ' (forG ga body iw.2 (iw.1.drop (i + 1)) Γ2 st2)->∀ σ' H'' ρ'',Ext H2 ρ' H'' ρ''->Rel H'' ρ'' st2->EnvR H'' ρ'' Γ2 σ'->W (i + 1) (iw.1.length - (i + 1)) σ' H'':=fun {Γ2 st2} a σ4 H4 ρ4 x4 R4 G4=>
            ⟨rfl,hlt,Γ2,ρ4,st2,x.trans (x2.trans x4),R4,G4,AccS.later a x4⟩
          cases rb:body Γ1 st' with
          | nx Γ2 st2=>rw [rb] at hA2; exact again hA2
          | ct Γ2 st2=>rw [rb] at hA2; exact again hA2
          | bk Γ2 st2=>rw [rb] at hA2; exact hA2
          | rt v st2=>rw [rb] at hA2; exact hA2
          | exc y st2=>rw [rb] at hA2; exact hA2
          | stuck=>rw [rb] at hA2; exact hA2.elim
      · rw [if_neg hw] at hA; exact hA.elim
    · left
      have ei:i=iw.1.length:=by omega
      subst ei
      rw [List.drop_length,forG] at hA
      by_cases hw:wOk iw.2 st'
      · rw [if_pos hw] at hA
        exact ⟨src.stop H' ρ' st' x R' hw,hA σ' H' ρ' (Ext.refl _ _) R' G'⟩
      · rw [if_neg hw] at hA; exact hA.elim)⟩
def X4 (mt:MT) (body:MS):Nat->Gam->Q3->SR
  | 0,_,_=>.stuck
  | n + 1, Γ, st => (mt Γ st).sbind fun b st1 => if b = true then (match body Γ st1 with
      | .nx Γ2 st2=>X4 mt body n Γ2 st2
      | .ct Γ2 st2=>X4 mt body n Γ2 st2
      | .bk Γ2 st2=>.nx Γ2 st2
      | .rt v st2=>.rt v st2
      | .exc x st2=>.exc x st2
      | .stuck=>.stuck) else .nx Γ st1
theorem ss_while (n:Nat) {c:Expr} {bd:List Stmt} {mt:MT} {body:MS} (hp:PassesOwn (model X.prog X.w) X.A X.env X.xe) (hc:SimT X E c mt) (hb:SimB X E bd body):SimS X E (.While c bd [] pos) (X4 mt body n):=
  ⟨fun Γ σ H ρ st D R G h=>WS.of (ps_while hp pt_w pss_w) (by
    let W:Nat->St->Hp->Prop:=fun m σ' H'=>∃ Γ' ρ' st',Rel H' ρ' st'/\EnvR H' ρ' Γ' σ'/\AccS X.mg E D H' ρ' (X4 mt body m Γ' st')
    refine ⟨W,⟨n,Γ,ρ,st,R,G,h⟩,?_⟩
    rintro m σ' H' ⟨Γ',ρ',st',R',G',hA⟩
    cases m with
    | zero=>exact hA.elim
    | succ m=>
      rw [X4] at hA
      refine hc.use R' G' hA.bind fun b st1 H1 ρ1 x1 R1 G1 h1=>?_
      cases b with
      | false=>rw [if_neg O8] at h1 ⊢; exact h1 σ' H1 ρ1 (Ext.refl _ _) R1 G1
      | true=>
        rw [if_pos rfl] at h1 ⊢
        refine ⟨fun σ2 H2=>W m σ2 H2,fun σ2 H2 z=>⟨m,Nat.lt_succ_self _,z⟩,hb.run Γ' σ' H1 ρ1 st1 _ R1 G1 ?_⟩
        have again:∀ {Γ2:Gam} {st2:Q3},AccS X.mg E D H1 ρ1 (X4 mt body m Γ2 st2)->∀ σ' H'' ρ'',Ext H1 ρ1 H'' ρ''->Rel H'' ρ'' st2->EnvR H'' ρ'' Γ2 σ'->W m σ' H'':=fun {Γ2 st2} a σ4 H4 ρ4 x4 R4 G4=>⟨Γ2,ρ4,st2,R4,G4,AccS.later a x4⟩
        cases rb:body Γ' st1 with
        | nx Γ2 st2=>rw [rb] at h1; exact again h1
        | ct Γ2 st2=>rw [rb] at h1; exact again h1
        | bk Γ2 st2=>rw [rb] at h1; exact h1
        | rt v st2=>rw [rb] at h1; exact h1
        | exc y st2=>rw [rb] at h1; exact h1
        | stuck=>rw [rb] at h1; exact h1.elim)⟩
def mRaise (x:Str) (m:ME):MS:=fun Γ st=>(m Γ st).sbind fun _ st1=>.exc ⟨x,none⟩ st1
theorem Uv {x:Str} {C:Addr} {np cpos:Pos} (hcalm:X.calm=true) (RO:RaiseD X E) (hg:Gl X x) (hm:X.mg x=some (.ref C)) (q:PySem.W.excIn X.K C Ua "ValueError.__new__" = true) (he:SimE X E e m)
    (hdb:(x == ("__debug__" : Str))=false:=by decide) (hst:starEach [e] X.env=[(false,eval e X.env)]:=by rfl):SimS X E (.Raise (some (.Call (.Name x np) [e] [] cpos)) none pos) (mRaise x m):=
  ⟨fun Γ σ H ρ st D R G h=>WS.of (ps_raiseD hcalm RO hg hm q (Qx Y2 Z6 (by rw [hst]; rfl)) hdb hst) (he.use R G h.bind fun p st1 H1 ρ1 v x1 R1 G1 r1 h1=>⟨E3 (show 1<=lim by decide) lim_le,h1 C none H1 ρ1 hm (Ext.refl _ _) R1 rfl⟩)⟩
end
end Sm
namespace Sm
open PySem PySem.Spec L2
def WM (X:Cx) (id:String):V->List V->Hp->VK->Prop:=fun x xs H Q=>∀ (pins:List (Addr × Obj)) (s:Shared) (σ:St) (v:Value) (us:List Value),Inv X pins σ H s->RelV x v->Vals xs us->wpAny (model X.prog X.w) X.A (call (.builtin id) (v :: us)) (EP X pins σ Q) X.xe s
theorem mt_w {X:Cx} {id:String}:MtR X id (WM X id):=fun pins s σ _ _ _ v us _ I r rs h=>h pins s σ v us I r rs
theorem WM.of {X:Cx} {id:String} {r:V->List V->Hp->VK->Prop} {x:V} {xs:List V} {H:Hp} {Q:VK} (h:MtR X id r) (q:r x xs H Q):WM X id x xs H Q:=fun pins s σ v us I r1 r2=>h pins s σ H x xs v us Q I r1 r2 q
abbrev MF:=Q3->PV->List PV->Res PV
structure MtS (X:Cx) (E:XK) (id:String) (o:MF):Prop where
  run:∀ (H:Hp) (ρ:Tk) (st:Q3) (p:PV) (ps:List PV) (x:V) (xs:List V) (Q:VK),Rel H ρ st->Rep H ρ p x->RepL H ρ ps xs->Acc X.mg E H ρ (QV Q) (o st p ps)->WM X id x xs H Q
section
variable {X:Cx} {E:XK} {o e:Expr} {es:List Expr} {mo:ME} {mr:Gam->Q3->Res (List PV)} {name:Str} {apos cpos:Pos} {T id:String} {f:MF}
def mBM (f:MF) (mo:ME) (mr:Gam->Q3->Res (List PV)):ME:=fun Γ st=>(mo Γ st).bind fun p st1=>match listOf st1 p with
  | some _=>(mr Γ st1).bind fun ps st2=>f st2 p ps
  | none=>.stuck
theorem se_bm (pa:PlainAttrs "list") (slot:Slot "list" name id) (hty:typeOf (.builtin id)=pure (.type "method_descriptor")) (hm:MtS X E id f) (ho:SimE X E o mo) (ha:SimA X E (e :: es) mr)
    (hbase:attributeBase o name X.env (eval o X.env)=eval o X.env:=by rfl)
    (hfew:((backTo cpos (starEach (e :: es) X.env)).all (fun x=>!x.1) && (backToKw cpos (keywordEach [] X.env)).all (fun x=>x.1.isSome)
      && decide ((e :: es).length + ([]:List Keyword).length + (if ([]:List Keyword).isEmpty then 0 else 1) < 30))=true:=by rfl)
    (hline:(apos.endLine == cpos.line)=true:=by rfl) (hs:starEach (e :: es) X.env=(false,eval e X.env) :: starEach es X.env:=by rfl) (hplain:(backTo cpos (starEach es X.env)).any (·.1)=false:=by rfl) :
    SimE X E (.Call (.Attribute o name apos) (e :: es) [] cpos) (mBM f mo mr):=
  ⟨fun Γ σ H ρ st Q R G h=>WE.of (pe_bm pa slot hty mt_w Y2 pa_w hbase hfew hline hs hplain) (ho.use R G h.bind fun p st1 H1 ρ1 v x1 R1 G1 r1 h1=>by
    split at h1
    · rename_i ys el
      obtain ⟨a,vs,rfl,hr,_⟩:=list_at R1 r1 el
      exact ⟨.inl ⟨rfl,vs,.inl hr⟩,ha.use R1 G1 h1.bind fun ps st2 H2 ρ2 us x2 R2 G2 r2 h2=>hm.run H2 ρ2 st2 p ps _ us Q R2 (r1.ext x2) r2 h2⟩
    · exact h1.elim)⟩
def chg (st:Q3) (p:PV) (g:List PV->Option (PV × List PV)):Res PV:=match p with
  | .ref i=>match st[i]? with
    | some (.lst xs)=>match g xs with
      | some (r,ys)=>.ok r (st.set i (.lst ys))
      | none=>.stuck
    | _=>.stuck
  | _=>.stuck
theorem chg_run {mg:Str->Option Value} {H:Hp} {ρ:Tk} {st:Q3} {p:PV} {x:V} {g:List PV->Option (PV × List PV)} {Q:VK} (R:Rel H ρ st) (rp:Rep H ρ p x) (h:Acc mg E H ρ (QV Q) (chg st p g)) :
    ∃ a xs vs r ys,x=.ref a/\H a=some (.lst vs)/\RepL H ρ xs vs/\g xs=some (r,ys)/\∀ us v,RepL H ρ ys us->Rep H ρ r v->Q v (upd H a (.lst us)):=by
  unfold chg at h
  split at h
  · rename_i i
    split at h
    · rename_i xs hs
      split at h
      · rename_i r ys hg
        obtain ⟨a,ea,rfl⟩:=rp
        obtain ⟨b,vs,f1,f2,f3⟩:=R.lst hs
        rw [ea] at f1; cases f1
        refine ⟨a,xs,vs,r,ys,rfl,f2,f3,hg,fun us v ru rv=>?_⟩
        have x:=Ext.put (o':=.lst us) (D6 ea) f2
        exact h _ ρ x (R.put ea f2 ru) v (rv.ext x)
      · exact h.elim
    · exact h.elim
  · exact h.elim
def Xx:MF:=fun st p ps=>match ps with
  | [y]=>chg st p fun xs=>if xs.length < lim then some (.non,xs ++ [y]) else none
  | _=>.stuck
theorem ms_append:MtS X E "list.append" Xx:=⟨fun H ρ st p ps x xs Q R rp rs h=>by
  unfold Xx at h
  split at h
  · obtain ⟨v,rfl,r⟩:=Ys rs
    obtain ⟨a,ys,vs,r0,zs,rfl,f1,f2,f3,k⟩:=chg_run R rp h
    split at f3
    · rename_i hl
      cases f3
      exact WM.of mt_append ⟨a,vs,v,rfl,rfl,f1,by rw [<- f2.length]; exact D0 hl lim_le,k _ _ (f2.append (RepL.cons r RepL.nil)) rfl⟩
    · cases f3
  · exact h.elim⟩
def mtExtend:MF:=fun st p ps=>match ps with
  | [q]=>match lstOf st q with
    | some ys=>chg st p fun xs=>if xs.length + ys.length<=lim then some (.non,xs ++ ys) else none
    | none=>.stuck
  | _=>.stuck
theorem ms_extend:MtS X E "list.extend" mtExtend:=⟨fun H ρ st p ps x xs Q R rp rs h=>by
  unfold mtExtend at h
  split at h
  · obtain ⟨v,rfl,r⟩:=Ys rs
    split at h
    · rename_i ws ew
      obtain ⟨b,us,rfl,hb,rb⟩:=lst_at R r ew
      obtain ⟨a,ys,vs,r0,zs,rfl,f1,f2,f3,k⟩:=chg_run R rp h
      split at f3
      · rename_i hl
        cases f3
        exact WM.of mt_extend ⟨a,b,vs,us,rfl,rfl,f1,hb,by rw [<- f2.length,<- rb.length]; exact Uh hl,k _ _ (f2.append rb) rfl⟩
      · cases f3
    · exact h.elim
  · exact h.elim⟩
theorem se_append (ho:SimE X E o mo) (ha:SimA X E [e] mr) (hbase:attributeBase o "append" X.env (eval o X.env)=eval o X.env:=by rfl)
    (hfew:((backTo cpos (starEach [e] X.env)).all (fun x=>!x.1) && (backToKw cpos (keywordEach [] X.env)).all (fun x=>x.1.isSome) && decide ([e].length + ([]:List Keyword).length + (if ([]:List Keyword).isEmpty then 0 else 1) < 30))=true:=by rfl)
    (hline:(apos.endLine == cpos.line)=true:=by rfl) (hs:starEach [e] X.env=(false,eval e X.env) :: starEach [] X.env:=by rfl):SimE X E (.Call (.Attribute o "append" apos) [e] [] cpos) (mBM Xx mo mr):=
  se_bm PySem.F.plainAttrs_list PySem.F.slot_list_append PySem.F.type_list_append ms_append ho ha hbase hfew hline hs
theorem se_extend (ho:SimE X E o mo) (ha:SimA X E [e] mr) (hbase:attributeBase o "extend" X.env (eval o X.env)=eval o X.env:=by rfl)
    (hfew:((backTo cpos (starEach [e] X.env)).all (fun x=>!x.1) && (backToKw cpos (keywordEach [] X.env)).all (fun x=>x.1.isSome) && decide ([e].length + ([]:List Keyword).length + (if ([]:List Keyword).isEmpty then 0 else 1) < 30))=true:=by rfl)
    (hline:(apos.endLine == cpos.line)=true:=by rfl) (hs:starEach [e] X.env=(false,eval e X.env) :: starEach [] X.env:=by rfl):SimE X E (.Call (.Attribute o "extend" apos) [e] [] cpos) (mBM mtExtend mo mr):=
  se_bm PySem.F.plainAttrs_list PySem.F.slot_list_extend PySem.F.type_list_extend ms_extend ho ha hbase hfew hline hs
end
end Sm
namespace Sm
open PySem PySem.Spec L2
mutual
def fz (n:Nat) (st:Q3):Nat->PV->Option PV
  | 0,_=>none
  | _ + 1,.non=>some .non
  | _ + 1,.bl b=>some (.bl b)
  | _ + 1,.int i=>some (.int i)
  | _ + 1,.str x=>some (.str x)
  | k + 1,.tup xs=>(fzL n st k xs).map .tup
  | k + 1,.lst xs=>(fzL n st k xs).map .lst
  | k + 1,.fro xs=>(fzL n st k xs).map .fro
  | _ + 1,.dic=>some .dic
  | k + 1,.ref i=>if i < n then some (.ref i) else match st[i]? with
    | some (.lst xs)=>(fzL n st k xs).map .lst
    | _=>none
def fzL (n:Nat) (st:Q3):Nat->List PV->Option (List PV)
  | _,[]=>some []
  | k,x :: xs=>(fz n st k x).bind fun y=>(fzL n st k xs).map (y :: ·)
end
theorem fz_good {n:Nat} {st:Q3}:∀ {m k:Nat} {p:PV},Jm m p=true->m < k->fz n st k p=some p:=by
  intro m
  induction m with
  | zero=>
    intro k p g hk
    obtain ⟨k,rfl⟩:∃ j,k=j + 1:=⟨k - 1,by omega⟩
    cases p with
    | tup _=>cases g
    | lst _=>cases g
    | fro _=>cases g
    | ref _=>cases g
    | dic=>cases g
    | _=>rw [fz]
  | succ m ih=>
    intro k p g hk
    obtain ⟨k,rfl⟩:∃ j,k=j + 1:=⟨k - 1,by omega⟩
    have hL:∀ xs:List PV,xs.all (Jm m)=true->fzL n st k xs=some xs:=by
      intro xs
      induction xs with
      | nil=>intro _; rw [fzL]
      | cons x xs ihx=>
        intro g
        rw [List.all_cons,F3] at g
        rw [fzL,ih g.1 (by omega),ihx g.2]; rfl
    cases p with
    | tup xs=>rw [fz,hL xs g]; rfl
    | lst xs=>rw [fz,hL xs g]; rfl
    | fro xs=>rw [fz,hL xs g]; rfl
    | ref _=>cases g
    | dic=>cases g
    | _=>rw [fz]
section
variable {H:Hp} {ρ:Tk} {st:Q3} {tr0 rest hs:List Addr}
theorem fz_rep (R:Rel H ρ st) (ht:ρ.tr=tr0 ++ rest) (hh:∀ a,a∈hs->a∈ρ.hid):∀ (k:Nat) {p p':PV} {v:V},Rep H ρ p v->fz tr0.length st k p=some p'->Rep H ⟨tr0,hs⟩ p' v:=by
  have out:∀ a,a∉ρ->a∉(⟨tr0,hs⟩:Tk):=fun a n z=>by
    rcases z with z | z
    · exact n (.inl (by rw [ht]; exact E9 _ z))
    · exact n (.inr (hh a z))
  intro k
  induction k with
  | zero=>intro p p' v r e; rw [fz] at e; cases e
  | succ k ih=>
    have hL:∀ {ps ps':List PV} {vs:List V},RepL H ρ ps vs->fzL tr0.length st k ps=some ps'->RepL H ⟨tr0,hs⟩ ps' vs:=by
      intro ps
      induction ps with
      | nil=>intro ps' vs r e; rw [fzL] at e; cases e; exact r
      | cons x xs ihx=>
        intro ps' vs r e
        obtain ⟨v,t,rfl,r1,r2⟩:=r
        rw [fzL] at e
        cases e1:fz tr0.length st k x with
        | none=>rw [e1] at e; cases e
        | some y=>
          rw [e1] at e
          have e:(fzL tr0.length st k xs).map (y :: ·)=some ps':=e
          cases e2:fzL tr0.length st k xs with
          | none=>rw [e2] at e; cases e
          | some ys=>
            rw [e2] at e
            cases e
            exact ⟨v,t,rfl,ih r1 e1,ihx r2 e2⟩
    intro p p' v r e
    cases p with
    | non=>rw [fz] at e; cases e; exact r
    | bl b=>rw [fz] at e; cases e; exact r
    | int i=>rw [fz] at e; cases e; exact r
    | str x=>rw [fz] at e; cases e; exact r
    | tup xs=>
      rw [fz] at e
      obtain ⟨a,vs,e1,ha,na,ra⟩:=r
      cases e2:fzL tr0.length st k xs with
      | none=>rw [e2] at e; cases e
      | some ys=>rw [e2] at e; cases e; exact ⟨a,vs,e1,ha,out a na,hL ra e2⟩
    | lst xs=>
      rw [fz] at e
      obtain ⟨a,vs,e1,ha,na,ra⟩:=r
      cases e2:fzL tr0.length st k xs with
      | none=>rw [e2] at e; cases e
      | some ys=>rw [e2] at e; cases e; exact ⟨a,vs,e1,ha,out a na,hL ra e2⟩
    | fro xs=>
      rw [fz] at e
      obtain ⟨a,vs,e1,ha,na,ra⟩:=r
      cases e2:fzL tr0.length st k xs with
      | none=>rw [e2] at e; cases e
      | some ys=>rw [e2] at e; cases e; exact ⟨a,vs,e1,ha,out a na,hL ra e2⟩
    | dic=>
      rw [fz] at e
      cases e
      obtain ⟨a,e1,ha,na⟩:=r
      exact ⟨a,e1,ha,out a na⟩
    | ref i=>
      rw [fz] at e
      obtain ⟨a,ea,rfl⟩:=r
      by_cases hi:i < tr0.length
      · rw [if_pos hi] at e
        cases e
        rw [ht,O9 hi] at ea
        exact ⟨a,ea,rfl⟩
      · rw [if_neg hi] at e
        split at e
        · rename_i xs hs'
          obtain ⟨b,vs,f1,f2,f3⟩:=R.lst hs'
          rw [ea] at f1; cases f1
          cases e2:fzL tr0.length st k xs with
          | none=>rw [e2] at e; cases e
          | some ys=>
            rw [e2] at e; cases e
            refine ⟨a,vs,rfl,f2,fun z=>?_,hL f3 e2⟩
            rcases z with z | z
            · have z:a∈tr0:=z
              obtain ⟨j,hj,ej⟩:=List.getElem_of_mem z
              have g1:ρ.tr[j]?=some a:=by rw [ht,O9 hj,O4 hj,ej]
              have l1:=O1.mp g1
              have l2:=O1.mp ea
              have:=nodup_inj R.nd l1.1 l2.1 (l1.2.trans l2.2.symm)
              omega
            · exact R.ap a (hh a z) (D6 ea)
        · cases e
mutual
def bel (n:Nat):PV->Prop
  | .tup xs=>belL n xs
  | .lst xs=>belL n xs
  | .fro xs=>belL n xs
  | .ref i=>i < n
  | _=>True
def belL (n:Nat):List PV->Prop
  | []=>True
  | x :: xs=>bel n x/\belL n xs
end
mutual
theorem Rep.bel:∀ {p:PV} {v:V},Rep H ρ p v->bel ρ.tr.length p
  | .non,_,_=>by simp [Sm.bel]
  | .bl _,_,_=>by simp [Sm.bel]
  | .int _,_,_=>by simp [Sm.bel]
  | .str _,_,_=>by simp [Sm.bel]
  | .tup ps,_,⟨_,_,_,_,_,r⟩=>by rw [Sm.bel]; exact RepL.bel r
  | .lst ps,_,⟨_,_,_,_,_,r⟩=>by rw [Sm.bel]; exact RepL.bel r
  | .fro ps,_,⟨_,_,_,_,_,r⟩=>by rw [Sm.bel]; exact RepL.bel r
  | .ref i,_,⟨_,e,_⟩=>by rw [Sm.bel]; exact (O1.mp e).1
  | .dic,_,_=>by simp [Sm.bel]
theorem RepL.bel:∀ {ps:List PV} {vs:List V},RepL H ρ ps vs->belL ρ.tr.length ps
  | [],_,_=>by simp [belL]
  | p :: ps,_,⟨_,_,_,r1,r2⟩=>by rw [belL]; exact ⟨Rep.bel r1,RepL.bel r2⟩
end
mutual
theorem Rep.less (ht:ρ.tr=tr0 ++ rest) (hh:∀ a,a∈hs->a∈ρ.hid):∀ {p:PV} {v:V},Sm.bel tr0.length p->Rep H ρ p v->Rep H ⟨tr0,hs⟩ p v
  | .non,_,_,r=>r
  | .bl _,_,_,r=>r
  | .int _,_,_,r=>r
  | .str _,_,_,r=>r
  | .tup ps,_,b,⟨a,vs,e,ha,na,r⟩=>⟨a,vs,e,ha,fun z=>na (z.imp (fun z=>by rw [ht]; exact E9 _ z) (hh a)),RepL.less ht hh (by rw [Sm.bel] at b; exact b) r⟩
  | .lst ps,_,b,⟨a,vs,e,ha,na,r⟩=>⟨a,vs,e,ha,fun z=>na (z.imp (fun z=>by rw [ht]; exact E9 _ z) (hh a)),RepL.less ht hh (by rw [Sm.bel] at b; exact b) r⟩
  | .fro ps,_,b,⟨a,vs,e,ha,na,r⟩=>⟨a,vs,e,ha,fun z=>na (z.imp (fun z=>by rw [ht]; exact E9 _ z) (hh a)),RepL.less ht hh (by rw [Sm.bel] at b; exact b) r⟩
  | .ref i,_,b,⟨a,e,e2⟩=>⟨a,by rw [Sm.bel] at b; rw [ht,O9 b] at e; exact e,e2⟩
  | .dic,_,_,⟨a,e,ha,na⟩=>⟨a,e,ha,fun z=>na (z.imp (fun z=>by rw [ht]; exact E9 _ z) (hh a))⟩
theorem RepL.less (ht:ρ.tr=tr0 ++ rest) (hh:∀ a,a∈hs->a∈ρ.hid):∀ {ps:List PV} {vs:List V},belL tr0.length ps->RepL H ρ ps vs->RepL H ⟨tr0,hs⟩ ps vs
  | [],_,_,r=>r
  | p :: ps,_,b,⟨v,t,e,r1,r2⟩=>by
    rw [belL] at b
    exact ⟨v,t,e,Rep.less ht hh b.1 r1,RepL.less ht hh b.2 r2⟩
end
end
theorem rel_back {H H':Hp} {ρ ρ':Tk} {st st':Q3} (R:Rel H ρ st) (x:Ext H ρ H' ρ') (R':Rel H' ρ' st') (hp:st <+: st'):Ext H ρ H' ρ/\Rel H' ρ st:=by
  obtain ⟨rest,ht⟩:=x.pre
  obtain ⟨more,hm⟩:=hp
  refine ⟨⟨List.prefix_refl _,fun _ h=>h,fun _ h=>.inl h,x.keep,fun _ h=>.inl h,x.old,x.frz⟩,R.len,R.nd,fun a ha=>let ⟨o,e,n⟩:=R.hd a ha; ⟨o,x.keep a o e (R.ap a ha),n⟩,R.ap,fun i a c h1 h2=>?_⟩
  have hi:i < st.length:=(O1.mp h2).1
  have q:=R'.cell i a c (by rw [<- ht,O9 (O1.mp h1).1]; exact h1) (by rw [<- hm,O9 hi]; exact h2)
  have q0:=R.cell i a c h1 h2
  cases c with
  | lst ps=>
    obtain ⟨vs,e1,e2⟩:=q
    obtain ⟨us,_,f2⟩:=q0
    exact ⟨vs,e1,RepL.less (ρ:=ρ') (tr0:=ρ.tr) (hs:=ρ.hid) ht.symm x.hidM f2.bel e2⟩
  | dic ps=>
    obtain ⟨vs,e1,e2⟩:=q
    obtain ⟨us,_,f2⟩:=q0
    exact ⟨vs,e1,e2.1,RepL.less (ρ:=ρ') (tr0:=ρ.tr) (hs:=ρ.hid) ht.symm x.hidM f2.2.bel e2.2⟩
  | dtp ps=>
    obtain ⟨vs,e1,e2⟩:=q
    obtain ⟨us,_,f2⟩:=q0
    exact ⟨vs,e1,e2.1,RepL.less (ρ:=ρ') (tr0:=ρ.tr) (hs:=ρ.hid) ht.symm x.hidM f2.2.bel e2.2⟩
  | frd ps=>
    obtain ⟨vs,e1,e2⟩:=q
    obtain ⟨us,_,f2⟩:=q0
    exact ⟨vs,e1,e2.1,RepL.less (ρ:=ρ') (tr0:=ρ.tr) (hs:=ρ.hid) ht.symm x.hidM f2.2.bel e2.2⟩
  | obj C ps=>
    obtain ⟨vs,e1,e2⟩:=q
    obtain ⟨us,_,f2⟩:=q0
    exact ⟨vs,e1,e2.1,RepL.less (ρ:=ρ') (tr0:=ρ.tr) (hs:=ρ.hid) ht.symm x.hidM f2.2.bel e2.2⟩
abbrev FN:=List PV->Q3->Res PV
open Classical in
def fin (st:Q3) (v:PV) (st':Q3):Res PV:=if st <+: st' then okO st (fz st.length st' 16 v) else .ok v st'
open Classical in
def finX (st:Q3) (x:Exc) (st':Q3):Res PV:=if st <+: st' then (match x.fs with
  | none=>.exc x st
  | some (n,p)=>match fz st.length st' 16 p with
    | some q=>.exc ⟨x.cls,some (n,q)⟩ st
    | none=>.stuck) else .exc x st'
def Qn (body:MS) (nl:Nat):FN:=fun ps st=>match body (ps.map some ++ List.replicate (nl - ps.length) none) st with
  | .rt v st'=>fin st v st'
  | .nx _ st'=>fin st .non st'
  | .exc x st'=>finX st x st'
  | _=>.stuck
theorem fin_acc {mg:Str->Option Value} {E:XK} {H:Hp} {ρ:Tk} {st st':Q3} {Q:VK} {p:PV} (R:Rel H ρ st) (h:Acc mg E H ρ (QV Q) (fin st p st')):∀ v H' ρ',Ext H ρ H' ρ'->Rel H' ρ' st'->Rep H' ρ' p v->Q v H':=fun v H' ρ' x R' r=>by
  unfold fin at h
  by_cases hp:st <+: st'
  · rw [if_pos hp] at h
    cases e:fz st.length st' 16 p with
    | none=>rw [e] at h; exact h.elim
    | some q=>
      rw [e] at h
      obtain ⟨x2,R2⟩:=rel_back R x R' hp
      obtain ⟨rest,ht⟩:=x.pre
      rw [<- R.len] at e
      exact h H' ρ x2 R2 v (fz_rep (tr0:=ρ.tr) (hs:=ρ.hid) R' ht.symm x.hidM 16 r e)
  · rw [if_neg hp] at h
    exact h H' ρ' x R' v r
def spF (mg:Str->Option Value) (n:Nat) (F:FN):Sp:=fun vs H Q E=>vs.length=n/\∃ ρ st ps,Rel H ρ st/\RepL H ρ ps vs/\Acc mg E H ρ (QV Q) (F ps st)
theorem start_env {H:Hp} {ρ:Tk} {N:List Str} {ps:List PV} {vs:List V} (r:RepL H ρ ps vs):EnvR H ρ (ps.map some ++ List.replicate (N.length - ps.length) none) (L2.start N vs):=by
  have hl:=r.length
  unfold L2.start
  refine ⟨by simp [hl],fun i p e=>?_⟩
  by_cases hi:i < ps.length
  · rw [O9 (by simpa using hi),E6] at e
    rw [O9 (by simp; omega),E6]
    cases q:ps[i]? with
    | none=>rw [q] at e; cases e
    | some p'=>
      rw [q] at e
      cases e
      obtain ⟨v,e1,e2⟩:=r.get q
      exact ⟨v,by rw [e1]; rfl,e2⟩
  · rw [E4 (by simpa using hi),List.getElem?_replicate] at e
    split at e <;> cases e
section
variable {P:Program} {w:World} {K:PySem.W.Frag} {mg:Str->Option Value} {base:Heap}
theorem fun_ok {x qual:Str} {st:Stmt} {f:Addr} {fd:FuncData} {N ps:List Str} {k:Nat} {m:MS} (F:Fun K x qual st f fd) (S:FnScope N ps (Q9 st))
    (hb:∀ (cdv:Value) (A:Around) (outer:List PySem.Env) (s:Shared) (H:Hp) (E:XK),Room k (A.deeper (PyProof.Rows.envOfC qual (Q9 st) s.heap.objs.size f cdv))->SimB (cxD P w K mg base N qual (Q9 st) f cdv A outer s H E) E (Jz st) m) :
    FnOk P w K mg base (CXD P w) (k + 1) f fd ps (spF mg ps.length (Qn m N.length)):=by
  refine Fun.okD F S (fun vs H Q E h=>h.1) fun cdv A outer s H vs Q E hr hsp=>⟨_,pss_w,?_⟩
  obtain ⟨hl,ρ,st0,pvs,R,rl,hA⟩:=hsp
  refine (hb cdv A outer s H E hr).run _ (L2.start N vs) H ρ st0 _ R (start_env rl) ?_
  unfold Qn at hA
  cases rr:m (pvs.map some ++ List.replicate (N.length - pvs.length) none) st0 with
  | rt v st1=>rw [rr] at hA; exact fin_acc R hA
  | nx Γ st1=>rw [rr] at hA; exact fun σ' H' ρ' x' R' G'=>fin_acc R hA .non H' ρ' x' R' rfl
  | bk Γ st1=>rw [rr] at hA; exact hA.elim
  | ct Γ st1=>rw [rr] at hA; exact hA.elim
  | stuck=>rw [rr] at hA; exact hA.elim
  | exc y st1=>
    rw [rr] at hA
    have hA:Acc mg E H ρ (QV Q) (finX st0 y st1):=hA
    intro C dv H' ρ' hm x' R' hf
    unfold finX at hA
    by_cases hp:st0 <+: st1
    · rw [if_pos hp] at hA
      obtain ⟨x2,R2⟩:=rel_back R x' R' hp
      obtain ⟨cls,fs⟩:=y
      cases fs with
      | none=>exact hA C dv H' ρ hm x2 R2 hf
      | some np=>
        obtain ⟨nm,p⟩:=np
        simp only at hA
        cases e:fz st0.length st1 16 p with
        | none=>rw [e] at hA; exact hA.elim
        | some q=>
          rw [e] at hA
          obtain ⟨rest,ht⟩:=x'.pre
          rw [<- R.len] at e
          obtain ⟨dx,v,e1,e2,e3,e4⟩:=hf
          refine hA C dv H' ρ hm x2 R2 ⟨dx,v,e1,e2,fun z=>e3 (z.imp (fun z=>by rw [<- ht]; exact E9 _ z) (x'.hidM dx)),fz_rep (tr0:=ρ.tr) (hs:=ρ.hid) R' ht.symm x'.hidM 16 e4 e⟩
    · rw [if_neg hp] at hA
      exact hA C dv H' ρ' hm x' R' hf
end
theorem Qz {P:Program} {w:World} {K:PySem.W.Frag} {mg:Str->Option Value} {base:Heap} {x qual:Str} {st:Stmt} {f:Addr} {fd:FuncData} {N ps:List Str} {k n nl:Nat} {m:MS} {FF:FN} (F:Fun K x qual st f fd) (S:FnScope N ps (Q9 st)) (hn:ps.length=n) (hnl:N.length=nl) (hF:FF=Qn m nl)
    (hb:∀ (cdv:Value) (A:Around) (outer:List PySem.Env) (s:Shared) (H:Hp) (E:XK),Room k (A.deeper (PyProof.Rows.envOfC qual (Q9 st) s.heap.objs.size f cdv))->SimB (cxD P w K mg base N qual (Q9 st) f cdv A outer s H E) E (Jz st) m) :
    FnOk P w K mg base (CXD P w) (k + 1) f fd ps (spF mg n FF):=by
  subst hn; subst hnl; subst hF
  exact fun_ok F S hb
structure DefS (P:Program) (w:World) (K:PySem.W.Frag) (mg:Str->Option Value) (base:Heap) (k:Nat) (x:Str) (n:Nat) (F:FN):Prop where
  ex:∃ (f:Addr) (fd:FuncData) (ps:List Str),FnOk P w K mg base (CXD P w) k f fd ps (spF mg n F)/\mg x=some (.ref f)/\PySem.W.keepIn K (.ref f)=true/\Binds K fd ps []/\ps.length=n
def Qi (n:Nat) (F:FN) (mr:Gam->Q3->Res (List PV)):ME:=fun Γ st=>(mr Γ st).bind fun ps st1=>if ps.length=n then F ps st1 else .stuck
section
variable {X:Cx} {E:XK} {k n:Nat} {x:Str} {F:FN} {p pos:Pos} {e:Expr} {es:List Expr} {mr:Gam->Q3->Res (List PV)}
theorem Qf (D:DefS X.prog X.w X.K X.mg X.base k x n F) (hr:Room k X.A) (hx:Uk (CXD X.prog X.w) X E) (hg:Gl X x) (ha:SimA X E (e :: es) mr) (hdb:(x == ("__debug__" : Str))=false:=by decide)
    (he:starEach (e :: es) X.env=(false,eval e X.env) :: starEach es X.env:=by rfl) (hpl:(backTo pos (starEach es X.env)).any (·.1)=false:=by rfl):SimE X E (.Call (.Name x p) (e :: es) [] pos) (Qi n F mr):=by
  obtain ⟨f,fd,ps,hF,hm,hk,hb,hl⟩:=D.ex
  exact ⟨fun Γ σ H ρ st Q R G h=>WE.of (pe_call hF hr hg hm hk hb .nil hx pa_w hdb he hpl) (ha.use R G h.bind fun qs st1 H1 ρ1 vs x1 R1 G1 r1 h1=>by
    by_cases hq:qs.length=n
    · rw [if_pos hq] at h1
      show spF X.mg n F (vs ++ []) H1 Q E
      rw [List.append_nil]
      exact ⟨by rw [<- r1.length]; exact hq,ρ1,st1,qs,R1,r1,h1⟩
    · rw [if_neg hq] at h1; exact h1.elim)⟩
end
end Sm
namespace Sm
open PySem PySem.Spec L2
@[simp] theorem J5 {α β:Type} (a:α) (st:Q3) (f:α->Q3->Res β):(Res.ok a st).bind f=f a st:=rfl
@[simp] theorem bind_stuck {α β:Type} (f:α->Q3->Res β):(Res.stuck:Res α).bind f=.stuck:=rfl
@[simp] theorem bind_exc {α β:Type} (x:Exc) (st:Q3) (f:α->Q3->Res β):(Res.exc x st:Res α).bind f=.exc x st:=rfl
@[simp] theorem Vj {α:Type} (a:α) (st:Q3) (f:α->Q3->SR):(Res.ok a st).sbind f=f a st:=rfl
@[simp] theorem sbind_stuck {α:Type} (f:α->Q3->SR):(Res.stuck:Res α).sbind f=.stuck:=rfl
@[simp] theorem sbind_exc {α:Type} (x:Exc) (st:Q3) (f:α->Q3->SR):(Res.exc x st:Res α).sbind f=.exc x st:=rfl
@[simp] theorem mVar_eq (i:Nat) (Γ:Gam) (st:Q3):Q5 i Γ st=(match Γ[i]? with | some (some p)=>.ok p st | _=>.stuck):=rfl
@[simp] theorem mC_eq (p:PV) (Γ:Gam) (st:Q3):mC p Γ st=.ok p st:=rfl
@[simp] theorem mOp_eq (o:OP) (a b:ME) (Γ:Gam) (st:Q3):mOp o a b Γ st=(a Γ st).bind fun x st1=>(b Γ st1).bind fun y st2=>o st2 x y:=rfl
@[simp] theorem asB_bl (b:Bool) (st:Q3):asB (.bl b) st=.ok b st:=rfl
@[simp] theorem toB_eq (m:ME) (Γ:Gam) (st:Q3):toB m Γ st=(m Γ st).bind asB:=rfl
def selB {α:Type} (x:PV) (A B:Res α):Res α:=match x with
  | .bl true=>A
  | .bl false=>B
  | _=>.stuck
@[simp] theorem selB_bl {α:Type} (b:Bool) (A B:Res α):selB (.bl b) A B=if b=true then A else B:=by cases b <;> rfl
@[simp] theorem mChain_eq (o o':OP) (a b c:ME) (Γ:Gam) (st:Q3):mChain o o' a b c Γ st=(a Γ st).bind fun x st1=>(b Γ st1).bind fun y st2=>(o st2 x y).bind fun k st3=>selB k ((c Γ st3).bind fun z st4=>o' st4 y z) (.ok (.bl false) st3):=by
  unfold mChain
  refine congrArg _ (funext fun x=>funext fun st1=>congrArg _ (funext fun y=>funext fun st2=>congrArg _ (funext fun k=>funext fun st3=>?_)))
  cases k with
  | bl b=>cases b <;> rfl
  | _=>rfl
@[simp] theorem mAnd_eq (a b:ME) (Γ:Gam) (st:Q3):mAnd a b Γ st=(a Γ st).bind fun x st1=>selB x (b Γ st1) (.ok (.bl false) st1):=by
  unfold mAnd
  refine congrArg _ (funext fun x=>funext fun st1=>?_)
  cases x with
  | bl b=>cases b <;> rfl
  | _=>rfl
@[simp] theorem mOr_eq (a b:ME) (Γ:Gam) (st:Q3):mOr a b Γ st=(a Γ st).bind fun x st1=>selB x (.ok (.bl true) st1) (b Γ st1):=by
  unfold mOr
  refine congrArg _ (funext fun x=>funext fun st1=>?_)
  cases x with
  | bl b=>cases b <;> rfl
  | _=>rfl
@[simp] theorem mNot_eq (a:ME) (Γ:Gam) (st:Q3):mNot a Γ st=(a Γ st).bind fun x st1=>(match x with | .bl k=>.ok (.bl (!k)) st1 | _=>.stuck):=rfl
@[simp] theorem mNeg_eq (a:ME) (Γ:Gam) (st:Q3):mNeg a Γ st=(a Γ st).bind fun x st1=>(match x with | .int k=>.ok (.int (-k)) st1 | _=>.stuck):=rfl
@[simp] theorem tAndM_eq (a b:MT) (Γ:Gam) (st:Q3):tAndM a b Γ st=(a Γ st).bind fun k st1=>if k=true then b Γ st1 else .ok false st1:=rfl
@[simp] theorem tOrM_eq (a b:MT) (Γ:Gam) (st:Q3):tOrM a b Γ st=(a Γ st).bind fun k st1=>if k=true then .ok true st1 else b Γ st1:=rfl
@[simp] theorem tNotM_eq (a:MT) (Γ:Gam) (st:Q3):tNotM a Γ st=(a Γ st).bind fun k st1=>.ok (!k) st1:=rfl
@[simp] theorem mNil_eq (Γ:Gam) (st:Q3):Q8 Γ st=.ok [] st:=rfl
@[simp] theorem mCons_eq (m:ME) (mr:ML) (Γ:Gam) (st:Q3):Q2 m mr Γ st=(m Γ st).bind fun p st1=>(mr Γ st1).bind fun ps st2=>.ok (p :: ps) st2:=rfl
@[simp] theorem mTup_eq (mr:ML) (Γ:Gam) (st:Q3):Ji mr Γ st=(mr Γ st).bind fun ps st1=>if ps.length<=lim then .ok (.tup ps) st1 else .stuck:=rfl
@[simp] theorem mLst_eq (mr:ML) (Γ:Gam) (st:Q3):mLst mr Γ st=(mr Γ st).bind fun ps st1=>if ps.length<=lim then .ok (.lst ps) st1 else .stuck:=rfl
@[simp] theorem mLstN_eq (mr:ML) (Γ:Gam) (st:Q3):mLstN mr Γ st=(mr Γ st).bind fun ps st1=>if ps.length<=lim then .ok ps st1 else .stuck:=rfl
@[simp] theorem mSl_eq (m:ME) (l h:Gam->Q3->Res (Option Int)) (Γ:Gam) (st:Q3):mSl m l h Γ st=(m Γ st).bind fun p st1=>(l Γ st1).bind fun lo st2=>(h Γ st2).bind fun hi st3=>oSl st3 p lo hi:=rfl
@[simp] theorem mNoPart_eq (Γ:Gam) (st:Q3):Ze Γ st=.ok none st:=rfl
@[simp] theorem mPart_eq (m:ME) (Γ:Gam) (st:Q3):Yv m Γ st=(m Γ st).bind fun p st1=>(match p with | .int i=>.ok (some i) st1 | _=>.stuck):=rfl
@[simp] theorem mCall_eq (o:CF) (mr:ML) (Γ:Gam) (st:Q3):Ja o mr Γ st=(mr Γ st).bind fun ps st1=>o st1 ps:=rfl
@[simp] theorem mIsI_eq (T:String) (m:ME) (Γ:Gam) (st:Q3):mIsI T m Γ st=(m Γ st).bind fun p st1=>if frzd st1 p=true then .stuck else .ok (.bl (isI T (dpv st1 p))) st1:=rfl
@[simp] theorem frzd_non (st:Q3):frzd st .non=false:=rfl
@[simp] theorem frzd_bl (st:Q3) (b:Bool):frzd st (.bl b)=false:=rfl
@[simp] theorem frzd_int (st:Q3) (b:Int):frzd st (.int b)=false:=rfl
@[simp] theorem frzd_str (st:Q3) (b:Str):frzd st (.str b)=false:=rfl
@[simp] theorem frzd_tup (st:Q3) (b:List PV):frzd st (.tup b)=false:=rfl
@[simp] theorem frzd_lst (st:Q3) (b:List PV):frzd st (.lst b)=false:=rfl
@[simp] theorem frzd_fro (st:Q3) (b:List PV):frzd st (.fro b)=false:=rfl
@[simp] theorem frzd_dic (st:Q3):frzd st .dic=false:=rfl
@[simp] theorem frzd_ref (st:Q3) (i:Nat):frzd st (.ref i)=(match st[i]? with | some (.frd _)=>true | some (.obj _ _)=>true | _=>false):=rfl
@[simp] theorem dpv_non (st:Q3):dpv st .non=.non:=rfl
@[simp] theorem dpv_bl (st:Q3) (b:Bool):dpv st (.bl b)=(.bl b):=rfl
@[simp] theorem dpv_int (st:Q3) (b:Int):dpv st (.int b)=(.int b):=rfl
@[simp] theorem dpv_str (st:Q3) (b:Str):dpv st (.str b)=(.str b):=rfl
@[simp] theorem dpv_tup (st:Q3) (b:List PV):dpv st (.tup b)=(.tup b):=rfl
@[simp] theorem dpv_lst (st:Q3) (b:List PV):dpv st (.lst b)=(.lst b):=rfl
@[simp] theorem dpv_fro (st:Q3) (b:List PV):dpv st (.fro b)=(.fro b):=rfl
@[simp] theorem dpv_dc (st:Q3):dpv st .dic=.dic:=rfl
@[simp] theorem dpv_r (st:Q3) (i:Nat):dpv st (.ref i)=(match st[i]? with | some (.dic _)=>.dic | some (.dtp _)=>.dic | _=>.ref i):=rfl
@[simp] theorem mVal_eq (m:ML) (Γ:Gam) (st:Q3):Xa m Γ st=(m Γ st).bind fun ps st1=>.ok (.lst ps) st1:=rfl
@[simp] theorem mTrk_eq (m:ML) (Γ:Gam) (st:Q3):mTrk m Γ st=(m Γ st).bind fun ps st1=>.ok (.ref st1.length) (st1 ++ [.lst ps]):=rfl
@[simp] theorem mCompN_eq (cap:List (Option Nat)) (ga:GA) (mi:MI) (mt:MT) (me:ME) (Γ:Gam) (st:Q3):Za cap ga mi mt me Γ st=(mi Γ st).bind fun iw st1=>noX (Ju ga mt me iw.2 (Jt cap Γ) iw.1 st1):=rfl
@[simp] theorem mTrue_eq (Γ:Gam) (st:Q3):Zc Γ st=.ok true st:=rfl
@[simp] theorem mCallF_eq (n:Nat) (F:FN) (mr:ML) (Γ:Gam) (st:Q3):Qi n F mr Γ st=(mr Γ st).bind fun ps st1=>if ps.length=n then F ps st1 else .stuck:=rfl
@[simp] theorem mNext_eq (Γ:Gam) (st:Q3):Zi Γ st=.nx Γ st:=rfl
@[simp] theorem mSeqS_eq (a b:MS) (Γ:Gam) (st:Q3):Qm a b Γ st=(match a Γ st with | .nx Γ1 st1=>b Γ1 st1 | r=>r):=rfl
@[simp] theorem mExpr_eq (m:ME) (Γ:Gam) (st:Q3):Wy m Γ st=(m Γ st).sbind fun _ st1=>.nx Γ st1:=rfl
@[simp] theorem mRet_eq (m:ME) (Γ:Gam) (st:Q3):Z1 m Γ st=(m Γ st).sbind fun p st1=>.rt p st1:=rfl
@[simp] theorem mSet_eq (i:Nat) (m:ME) (Γ:Gam) (st:Q3):Jc i m Γ st=(m Γ st).sbind fun p st1=>.nx (Γ.set i (some p)) st1:=rfl
@[simp] theorem mIfS_eq (c:MT) (a b:MS) (Γ:Gam) (st:Q3):Yw c a b Γ st=(c Γ st).sbind fun k st1=>if k=true then a Γ st1 else b Γ st1:=rfl
@[simp] theorem mFor_eq (ga:GA) (mi:MI) (b:MS) (Γ:Gam) (st:Q3):mFor ga mi b Γ st=(mi Γ st).sbind fun iw st1=>forG ga b iw.2 iw.1 Γ st1:=rfl
@[simp] theorem mSeq_eq (m:ME) (Γ:Gam) (st:Q3):mSeq m Γ st=(m Γ st).bind fun p st1=>(match Uw st1 p with | some (xs,w)=>if xs.length<=lim then .ok (xs,w) st1 else .stuck | none=>.stuck):=rfl
@[simp] theorem mRange1_eq (mr:ML) (Γ:Gam) (st:Q3):Wj mr Γ st=(mr Γ st).bind fun ps st1=>(match ps with | [.int j]=>if -(lim:Int)<=j/\j<=lim then .ok (Z5 0 j.toNat,[]) st1 else .stuck | _=>.stuck):=rfl
@[simp] theorem mRange2_eq (mr:ML) (Γ:Gam) (st:Q3):mRange2 mr Γ st=(mr Γ st).bind fun ps st1=>(match ps with | [.int i,.int j]=>if -(lim:Int)<=i/\i<=lim/\-(lim:Int)<=j/\j<=lim then .ok (Z5 i (j - i).toNat,[]) st1 else .stuck | _=>.stuck):=rfl
@[simp] theorem mZip_eq (mr:ML) (Γ:Gam) (st:Q3):mZip mr Γ st=(mr Γ st).bind fun ps st1=>(match ps with | [p,q]=>(match Uw st1 p,Uw st1 q with | some (xs,w),some (ys,w')=>if xs.length<=lim then .ok (zipT xs ys,w ++ w') st1 else .stuck | _,_=>.stuck) | _=>.stuck):=rfl
@[simp] theorem mBM_eq (f:MF) (mo:ME) (mr:ML) (Γ:Gam) (st:Q3):mBM f mo mr Γ st=(mo Γ st).bind fun p st1=>(match listOf st1 p with | some _=>(mr Γ st1).bind fun ps st2=>f st2 p ps | none=>.stuck):=rfl
@[simp] theorem mSetIx_eq (mo mi m:ME) (Γ:Gam) (st:Q3):mSetIx mo mi m Γ st=(m Γ st).sbind fun p st1=>(mo Γ st1).sbind fun o st2=>(mi Γ st2).sbind fun i st3=>(match setIx st3 o i p with | some st4=>.nx Γ st4 | none=>.stuck):=rfl
@[simp] theorem mRaise_eq (x:Str) (m:ME) (Γ:Gam) (st:Q3):mRaise x m Γ st=(m Γ st).sbind fun _ st1=>.exc ⟨x,none⟩ st1:=rfl
@[simp] theorem gaName_eq (i:Nat) (p:PV) (Γ:Gam):Qp i p Γ=some (Γ.set i (some p)):=rfl
@[simp] theorem gaNil_eq (Γ:Gam):K4 [] Γ=some Γ:=rfl
@[simp] theorem gaCons_eq (g:GA) (gs:GAs) (p:PV) (r:List PV) (Γ:Gam):Jv g gs (p :: r) Γ=(g p Γ).bind (gs r):=rfl
@[simp] theorem gaTup_eq (gs:GAs) (ps:List PV) (Γ:Gam):K3 gs (.tup ps) Γ=gs ps Γ:=rfl
@[simp] theorem noX_ok {α:Type} (a:α) (st:Q3):noX (Res.ok a st)=.ok a st:=rfl
@[simp] theorem noX_stuck {α:Type}:noX (Res.stuck:Res α)=.stuck:=rfl
@[simp] theorem okO_some {α:Type} (st:Q3) (a:α):okO st (some a)=.ok a st:=rfl
@[simp] theorem okO_none {α:Type} (st:Q3):okO st (none:Option α)=.stuck:=rfl
@[simp] theorem oI_eq (g:Int->Int->PV) (st:Q3) (a b:Int):oI g st (.int a) (.int b)=.ok (g a b) st:=rfl
@[simp] theorem oAdd_int (st:Q3) (a b:Int):Js st (.int a) (.int b)=.ok (.int (a + b)) st:=rfl
@[simp] theorem oAdd_tup (st:Q3) (a b:List PV):Js st (.tup a) (.tup b)=if a.length + b.length<=lim then .ok (.tup (a ++ b)) st else .stuck:=rfl
@[simp] theorem oMul_int (st:Q3) (a b:Int):oMul st (.int a) (.int b)=if (-(2 ^ 64) < a/\a < 2 ^ 64)\/(-(2 ^ 64) < b/\b < 2 ^ 64) then .ok (.int (a * b)) st else .stuck:=rfl
@[simp] theorem oMul_tup (st:Q3) (xs:List PV) (b:Int):oMul st (.tup xs) (.int b)=if xs≠[]/\1<=b/\xs.length * b.toNat<=4096 then .ok (.tup (List.replicate b.toNat xs).flatten) st else .stuck:=rfl
@[simp] theorem oMod_int (st:Q3) (a b:Int):oMod st (.int a) (.int b)=if 0 < b then .ok (.int (a % b)) st else .stuck:=rfl
@[simp] theorem oDiv_int (st:Q3) (a b:Int):oDiv st (.int a) (.int b)=if 0 < b/\b < 1073741824 then .ok (.int (a / b)) st else .stuck:=rfl
@[simp] theorem oPow_int (st:Q3) (a b:Int):oPow st (.int a) (.int b)=if 0<=b/\b<=1000000/\a.natAbs < 2 ^ 64 then .ok (.int (a ^ b.toNat)) st else .stuck:=rfl
@[simp] theorem oLt_int (st:Q3) (a b:Int):oLt st (.int a) (.int b)=.ok (.bl (decide (a < b))) st:=rfl
@[simp] theorem oEq_int (st:Q3) (a b:Int):oEq st (.int a) (.int b)=.ok (.bl (a == b)) st:=rfl
@[simp] theorem oNe_int (st:Q3) (a b:Int):oNe st (.int a) (.int b)=.ok (.bl (!(a == b))) st:=rfl
@[simp] theorem oEq_bl (st:Q3) (a b:Bool):oEq st (.bl a) (.bl b)=.ok (.bl (a == b)) st:=rfl
@[simp] theorem oNe_bl (st:Q3) (a b:Bool):oNe st (.bl a) (.bl b)=.ok (.bl (!(a == b))) st:=rfl
@[simp] theorem oEq_str (st:Q3) (a b:Str):oEq st (.str a) (.str b)=.ok (.bl (a == b)) st:=rfl
@[simp] theorem oNe_str (st:Q3) (a b:Str):oNe st (.str a) (.str b)=.ok (.bl (!(a == b))) st:=rfl
@[simp] theorem lstOf_lst (st:Q3) (xs:List PV):lstOf st (.lst xs)=some xs:=rfl
@[simp] theorem listOf_lst (st:Q3) (xs:List PV):listOf st (.lst xs)=some xs:=rfl
@[simp] theorem listOf_fro (st:Q3) (xs:List PV):listOf st (.fro xs)=some xs:=rfl
@[simp] theorem seqOf_lst (st:Q3) (xs:List PV):Ub st (.lst xs)=some xs:=rfl
@[simp] theorem seqOf_fro (st:Q3) (xs:List PV):Ub st (.fro xs)=some xs:=rfl
@[simp] theorem seqOf_tup (st:Q3) (xs:List PV):Ub st (.tup xs)=some xs:=rfl
@[simp] theorem srcOf_lst (st:Q3) (xs:List PV):Uw st (.lst xs)=some (xs,[]):=rfl
@[simp] theorem srcOf_fro (st:Q3) (xs:List PV):Uw st (.fro xs)=some (xs,[]):=rfl
@[simp] theorem srcOf_tup (st:Q3) (xs:List PV):Uw st (.tup xs)=some (xs,[]):=rfl
theorem lstOf_ref {st:Q3} {i:Nat} {xs:List PV} (h:st[i]?=some (.lst xs)):lstOf st (.ref i)=some xs:=by simp only [lstOf,h]
@[simp] theorem oIx_tup (st:Q3) (xs:List PV) (i:Int):oIx st (.tup xs) (.int i)=okO st (atI xs i):=rfl
@[simp] theorem oIx_lst (st:Q3) (xs:List PV) (i:Int):oIx st (.lst xs) (.int i)=okO st (atI xs i):=rfl
@[simp] theorem oIx_fro (st:Q3) (xs:List PV) (i:Int):oIx st (.fro xs) (.int i)=okO st (atI xs i):=rfl
@[simp] theorem Up (st:Q3) (xs:List PV) (l h:Option Int):oSl st (.tup xs) l h=.ok (.tup (cut xs l h)) st:=rfl
@[simp] theorem oSl_lst (st:Q3) (xs:List PV) (l h:Option Int):oSl st (.lst xs) l h=.ok (.lst (cut xs l h)) st:=rfl
@[simp] theorem oSl_fro (st:Q3) (xs:List PV) (l h:Option Int):oSl st (.fro xs) l h=.ok (.lst (cut xs l h)) st:=rfl
@[simp] theorem cLen_tup (st:Q3) (xs:List PV):Yh st [.tup xs]=.ok (.int xs.length) st:=rfl
@[simp] theorem cLen_lst (st:Q3) (xs:List PV):Yh st [.lst xs]=.ok (.int xs.length) st:=rfl
@[simp] theorem cLen_fro (st:Q3) (xs:List PV):Yh st [.fro xs]=.ok (.int xs.length) st:=rfl
@[simp] theorem cTuple_tup (st:Q3) (xs:List PV):V8 st [.tup xs]=.ok (.tup xs) st:=rfl
@[simp] theorem cTuple_lst (st:Q3) (xs:List PV):V8 st [.lst xs]=.ok (.tup xs) st:=rfl
@[simp] theorem cBls_lst (g:List Bool->PV) (st:Q3) (bs:List Bool):cBls g st [.lst (bs.map .bl)]=.ok (g bs) st:=by
  simp only [cBls,seqOf_lst,Option.bind_some,bls_map]
@[simp] theorem cInts_lst (g:List Int->Option PV) (st:Q3) (ns:List Int):U2 g st [.lst (ns.map .int)]=okO st (g ns):=by
  simp only [U2,seqOf_lst,Option.bind_some,ints_map]
@[simp] theorem cInts_tup (g:List Int->Option PV) (st:Q3) (ns:List Int):U2 g st [.tup (ns.map .int)]=okO st (g ns):=by
  simp only [U2,seqOf_tup,Option.bind_some,ints_map]
@[simp] theorem cMax_int (st:Q3) (a b:Int):cMax st [.int a,.int b]=.ok (.int (if b > a then b else a)) st:=rfl
@[simp] theorem cMin_int (st:Q3) (a b:Int):cMin st [.int a,.int b]=.ok (.int (if b < a then b else a)) st:=rfl
@[simp] theorem wOk_nil' (st:Q3):wOk [] st=True:=by simp [wOk]
@[simp] theorem Wb (st:Q3) (b:Bool):fin st (.bl b) st=.ok (.bl b) st:=by simp [fin,fz]
@[simp] theorem fin_int (st:Q3) (b:Int):fin st (.int b) st=.ok (.int b) st:=by simp [fin,fz]
@[simp] theorem fin_non (st:Q3):fin st .non st=.ok .non st:=by simp [fin,fz]
@[simp] theorem fin_str (st:Q3) (b:Str):fin st (.str b) st=.ok (.str b) st:=by simp [fin,fz]
theorem Yc {st:Q3} {v:PV} (g:Jm 12 v=true):fin st v st=.ok v st:=by
  simp only [fin,List.prefix_rfl,if_true,fz_good g (by decide:12 < 16),okO_some]
theorem fin_goodA {st more:Q3} {v:PV} (g:Jm 12 v=true):fin st v (st ++ more)=.ok v st:=by
  simp only [fin,List.prefix_append,if_true,fz_good g (by decide:12 < 16),okO_some]
theorem Jj:lim=1000000:=rfl
theorem Ye {α:Type} (g f:α->PV) {ga:GA} {me:ME} {w:Wt} {Γ0:Gam} {st:Q3} (hw:wOk w st) {ys:List α} (h:∀ y∈ys,∃ Γ1,ga (g y) Γ0=some Γ1/\me Γ1 st=.ok (f y) st):Ju ga Zc me w Γ0 (ys.map g) st=.ok (ys.map f) st:=by
  induction ys with
  | nil=>simp [Ju,hw]
  | cons y ys ih=>
    obtain ⟨Γ1,h1,h2⟩:=h y D1
    have ih:=ih fun z hz=>h z (O6 _ hz)
    rw [F5,Ju,if_pos hw,h1]
    simp [h2,ih]
theorem compG_onF {α:Type} (g f:α->PV) (t:α->Bool) {ga:GA} {mt:MT} {me:ME} {w:Wt} {Γ0:Gam} {st:Q3} (hw:wOk w st) {ys:List α} (h:∀ y∈ys,∃ Γ1,ga (g y) Γ0=some Γ1/\mt Γ1 st=.ok (t y) st/\(t y=true->me Γ1 st=.ok (f y) st)):Ju ga mt me w Γ0 (ys.map g) st=.ok ((ys.filter t).map f) st:=by
  induction ys with
  | nil=>simp [Ju,hw]
  | cons y ys ih=>
    obtain ⟨Γ1,h1,h2,h3⟩:=h y D1
    have ih:=ih fun z hz=>h z (O6 _ hz)
    rw [F5,Ju,if_pos hw,h1]
    simp only [h2,J5,ih]
    cases tx:t y with
    | true=>simp [h3 tx,tx,ih]
    | false=>simp [tx]
@[simp] theorem cBls_map {α:Type} (g:List Bool->PV) (st:Q3) (ys:List α) (b:α->Bool):cBls g st [.lst (ys.map fun y=>.bl (b y))]=.ok (g (ys.map b)) st:=by
  rw [show (ys.map fun y=>PV.bl (b y))=(ys.map b).map .bl by rw [List.map_map]; rfl,cBls_lst]
@[simp] theorem cInts_map {α:Type} (g:List Int->Option PV) (st:Q3) (ys:List α) (b:α->Int):U2 g st [.lst (ys.map fun y=>.int (b y))]=okO st (g (ys.map b)):=by
  rw [show (ys.map fun y=>PV.int (b y))=(ys.map b).map .int by rw [List.map_map]; rfl,cInts_lst]
theorem forG_inv {α:Type} (g:α->PV) {xs:List α} (I:Nat->Gam->Q3->Prop) {ga:GA} {body:MS} {w:Wt} (hw:∀ i Γ st,I i Γ st->wOk w st)
    (h:∀ (i:Nat) x Γ st,xs[i]?=some x->I i Γ st->∃ Γ1,ga (g x) Γ=some Γ1/\∃ Γ2 st2,body Γ1 st=.nx Γ2 st2/\I (i + 1) Γ2 st2) {Γ:Gam} {st:Q3} (h0:I 0 Γ st):∃ Γ' st',forG ga body w (xs.map g) Γ st=.nx Γ' st'/\I xs.length Γ' st':=by
  induction xs generalizing I Γ st with
  | nil=>exact ⟨Γ,st,by simp [forG,hw 0 Γ st h0],h0⟩
  | cons x xs ih=>
    obtain ⟨Γ1,h1,Γ2,st2,e2,i2⟩:=h 0 x Γ st rfl h0
    obtain ⟨Γ',st',e3,i3⟩:=ih (fun i=>I (i + 1)) (fun i Γ st z=>hw (i + 1) Γ st z) (fun i y Γ st hy z=>h (i + 1) y Γ st (by simpa using hy) z) i2
    refine ⟨Γ',st',?_,i3⟩
    rw [F5,forG,if_pos (hw 0 Γ st h0),h1]
    simp only [e2]
    exact e3
theorem forG_invL {α:Type} (g:α->PV) {xs:List α} (I:List α->Gam->Q3->Prop) {ga:GA} {body:MS} {w:Wt} (hw:∀ pre Γ st,I pre Γ st->wOk w st)
    (h:∀ pre x post Γ st,xs=pre ++ x :: post->I pre Γ st->∃ Γ1,ga (g x) Γ=some Γ1/\∃ Γ2 st2,body Γ1 st=.nx Γ2 st2/\I (pre ++ [x]) Γ2 st2) {Γ:Gam} {st:Q3} (h0:I [] Γ st):∃ Γ' st',forG ga body w (xs.map g) Γ st=.nx Γ' st'/\I xs Γ' st':=by
  have key:∀ (post pre:List α) (Γ:Gam) (st:Q3),xs=pre ++ post->I pre Γ st->∃ Γ' st',forG ga body w (post.map g) Γ st=.nx Γ' st'/\I xs Γ' st':=by
    intro post
    induction post with
    | nil=>intro pre Γ st e i; exact ⟨Γ,st,by simp [forG,hw pre Γ st i],by rw [e,List.append_nil]; exact i⟩
    | cons x post ih=>
      intro pre Γ st e i
      obtain ⟨Γ1,h1,Γ2,st2,e2,i2⟩:=h pre x post Γ st e i
      obtain ⟨Γ',st',e3,i3⟩:=ih (pre ++ [x]) Γ2 st2 (by rw [e]; simp) i2
      refine ⟨Γ',st',?_,i3⟩
      rw [F5,forG,if_pos (hw pre Γ st i),h1]
      simp only [e2]
      exact e3
  exact key xs [] Γ st rfl h0
theorem zipT_map {α β:Type} (f:α->PV) (g:β->PV) (xs:List α) (ys:List β):zipT (xs.map f) (ys.map g)=(xs.zip ys).map fun z=>.tup [f z.1,g z.2]:=by
  rw [zipT_eq,List.zip_map,List.map_map]; rfl
theorem atI_map {α:Type} (f:α->PV) (xs:List α) (i:Int):atI (xs.map f) i=(atI xs i).map f:=by
  unfold atI
  rw [O2]
  cases ixN xs.length i with
  | none=>rfl
  | some j=>simp [E6]
theorem atI_get {α:Type} {xs:List α} {i:Nat} {x:α} (h:xs[i]?=some x):atI xs (i:Int)=some x:=by
  have hl:=(O1.mp h).1
  unfold atI ixN
  rw [if_pos (by omega),if_pos (by omega)]
  simpa using h
theorem Us {α:Type} (f:α->PV) (xs:List α) (l h:Option Int):cut (xs.map f) l h=(cut xs l h).map f:=by
  unfold cut
  rw [O2,<- List.map_drop,<- List.map_take]
theorem rangeI0 (n:Nat):Z5 0 n=(List.range n).map fun (k:Nat)=>PV.int (k:Int):=by
  unfold Z5
  refine List.map_congr_left fun k _=>?_
  rw [Int.zero_add]
@[simp] theorem tr_get {α:Type} (st l:List α) (c:α):(st ++ c :: l)[st.length]?=some c:=by
  rw [E4 (O7 _),Nat.sub_self]; rfl
@[simp] theorem tr_get1 {α:Type} (st l:List α) (c d:α):(st ++ c :: d :: l)[st.length + 1]?=some d:=by
  rw [E4 (by omega)]
  rw [show st.length + 1 - st.length=1 by omega]; rfl
@[simp] theorem tr_set {α:Type} (st l:List α) (c d:α):(st ++ c :: l).set st.length d=st ++ d :: l:=by
  rw [List.set_append_right _ _ (O7 _),Nat.sub_self]; rfl
@[simp] theorem tr_set1 {α:Type} (st l:List α) (c c' d:α):(st ++ c :: c' :: l).set (st.length + 1) d=st ++ c :: d :: l:=by
  rw [List.set_append_right _ _ (by omega),show st.length + 1 - st.length=1 by omega]; rfl
@[simp] theorem chg_ref (st:Q3) (i:Nat) (g:List PV->Option (PV × List PV)):chg st (.ref i) g=(match st[i]? with | some (.lst xs)=>(match g xs with | some (r,ys)=>.ok r (st.set i (.lst ys)) | none=>.stuck) | _=>.stuck):=rfl
@[simp] theorem lstOf_r (st:Q3) (i:Nat):lstOf st (.ref i)=(match st[i]? with | some (.lst xs)=>some xs | _=>none):=rfl
@[simp] theorem listOf_r (st:Q3) (i:Nat):listOf st (.ref i)=(match st[i]? with | some (.lst xs)=>some xs | _=>none):=rfl
@[simp] theorem seqOf_r (st:Q3) (i:Nat):Ub st (.ref i)=(match st[i]? with | some (.lst xs)=>some xs | _=>none):=rfl
@[simp] theorem srcOf_r (st:Q3) (i:Nat):Uw st (.ref i)=(match st[i]? with | some (.lst xs)=>some (xs,[(i,.lst xs)]) | _=>none):=rfl
@[simp] theorem mtAppend_eq (st:Q3) (p y:PV):Xx st p [y]=chg st p fun xs=>if xs.length < lim then some (.non,xs ++ [y]) else none:=rfl
@[simp] theorem cTuple_r (st:Q3) (i:Nat):V8 st [.ref i]=(match st[i]? with | some (.lst xs)=>.ok (.tup xs) st | _=>.stuck):=by
  unfold V8; simp only [seqOf_r]
  cases st[i]? with
  | none=>rfl
  | some c=>cases c <;> rfl
@[simp] theorem cLen_r (st:Q3) (i:Nat):Yh st [.ref i]=(match st[i]? with | some (.lst xs)=>.ok (.int xs.length) st | _=>.stuck):=by
  unfold Yh; simp only [seqOf_r]
  cases st[i]? with
  | none=>rfl
  | some c=>cases c <;> rfl
@[simp] theorem oIx_r (st:Q3) (i:Nat) (j:Int):oIx st (.ref i) (.int j)=(match st[i]? with | some (.lst xs)=>okO st (atI xs j) | _=>.stuck):=by
  unfold oIx; simp only [seqOf_r]
  cases st[i]? with
  | none=>rfl
  | some c=>cases c <;> rfl
@[simp] theorem setIx_r (st:Q3) (k:Nat) (j:Int) (p:PV):setIx st (.ref k) (.int j) p=(match st[k]? with | some (.lst xs)=>(ixN xs.length j).map fun n=>st.set k (.lst (xs.set n p)) | _=>none):=rfl
theorem cut_front {α:Type} (xs:List α) (k:Nat):cut xs none (some (k:Int))=xs.take k:=by
  unfold cut
  rw [HT.sIx_none,HT.sIx_nat,List.drop_zero,Nat.sub_zero]
  rcases Nat.le_total k xs.length with h | h
  · rw [Nat.min_eq_left h]
  · rw [Nat.min_eq_right h,List.take_length,List.take_of_length_le h]
theorem cut_back {α:Type} (xs:List α) (k:Nat):cut xs (some (k:Int)) none=xs.drop k:=by
  unfold cut
  rw [HT.sIx_none,HT.sIx_nat]
  rcases Nat.le_total k xs.length with h | h
  · rw [Nat.min_eq_left h,List.take_of_length_le (by rw [List.length_drop]; omega)]
  · rw [Nat.min_eq_right h,List.drop_length,List.drop_of_length_le h]; simp
end Sm
namespace Sm
open PySem PySem.Spec L2
theorem getD_some {α:Type} {l:List α} {j:Nat} (h:j < l.length) (d:α):l[j]?=some (l.getD j d):=by
  rw [List.getD,O4 h]; rfl
def ListAt (st:Q3) (V:PV) (xs:List PV):Prop:=V=.lst xs\/V=.fro xs\/∃ i,V=.ref i/\st[i]?=some (.lst xs)
theorem ListAt.ix {st:Q3} {V:PV} {xs:List PV} (h:ListAt st V xs) (j:Int):oIx st V (.int j)=okO st (atI xs j):=by
  rcases h with rfl | rfl | ⟨i,rfl,e⟩
  · rfl
  · rfl
  · rw [oIx_r,e]
theorem ListAt.src {st:Q3} {V:PV} {xs:List PV} (h:ListAt st V xs):∃ w,Uw st V=some (xs,w)/\wOk w st:=by
  rcases h with rfl | rfl | ⟨i,rfl,e⟩
  · exact ⟨[],rfl,by simp⟩
  · exact ⟨[],rfl,by simp⟩
  · exact ⟨[(i,.lst xs)],by rw [srcOf_r,e],by simp [wOk,e]⟩
theorem peqL_self:∀ {xs:List PV},(∀ x∈xs,peq x x=true)->Xw xs xs=true
  | [],_=>rfl
  | x :: xs,h=>by
    rw [Xw,h x D1,peqL_self fun y hy=>h y (O6 _ hy)]; rfl
theorem peq_self:∀ {n:Nat} {p:PV},Jm n p=true->peq p p=true
  | n,.non,_=>rfl
  | n,.bl b,_=>by simp [peq]
  | n,.int b,_=>by simp [peq]
  | n,.str b,_=>by simp [peq]
  | n,.ref _,g=>by cases n <;> simp [Jm] at g
  | n,.dic,g=>by cases n <;> simp [Jm] at g
  | 0,.tup _,g=>by simp [Jm] at g
  | 0,.lst _,g=>by simp [Jm] at g
  | 0,.fro _,g=>by simp [Jm] at g
  | n + 1,.tup xs,g=>by
    rw [peq]; refine peqL_self fun x hx=>peq_self (n:=n) ?_
    simp [Jm] at g; exact g x hx
  | n + 1,.lst xs,g=>by
    rw [peq]; refine peqL_self fun x hx=>peq_self (n:=n) ?_
    simp [Jm] at g; exact g x hx
  | n + 1,.fro xs,g=>by
    rw [peq]; refine peqL_self fun x hx=>peq_self (n:=n) ?_
    simp [Jm] at g; exact g x hx
end Sm
namespace Sm
open PySem PySem.Spec L2
section
variable {X:Cx} {E:XK} {a b:Expr} {ma mb:ME} {pos:Pos}
end
end Sm
namespace Sm
open PySem PySem.Spec L2
def Yf (body:MS) (nl:Nat):FN:=fun ps st=>match body (ps.map some ++ List.replicate (nl - ps.length) none) st with
  | .rt v st'=>.ok v st'
  | .nx _ st'=>.ok .non st'
  | .exc x st'=>.exc x st'
  | _=>.stuck
section
variable {P:Program} {w:World} {K:PySem.W.Frag} {mg:Str->Option Value} {base:Heap}
theorem fun_okK {x qual:Str} {st:Stmt} {f:Addr} {fd:FuncData} {N ps:List Str} {k:Nat} {m:MS} (F:Fun K x qual st f fd) (S:FnScope N ps (Q9 st))
    (hb:∀ (cdv:Value) (A:Around) (outer:List PySem.Env) (s:Shared) (H:Hp) (E:XK),Room k (A.deeper (PyProof.Rows.envOfC qual (Q9 st) s.heap.objs.size f cdv))->SimB (cxD P w K mg base N qual (Q9 st) f cdv A outer s H E) E (Jz st) m) :
    FnOk P w K mg base (CXD P w) (k + 1) f fd ps (spF mg ps.length (Yf m N.length)):=by
  refine Fun.okD F S (fun vs H Q E h=>h.1) fun cdv A outer s H vs Q E hr hsp=>⟨_,pss_w,?_⟩
  obtain ⟨hl,ρ,st0,pvs,R,rl,hA⟩:=hsp
  refine (hb cdv A outer s H E hr).run _ (L2.start N vs) H ρ st0 _ R (start_env rl) ?_
  unfold Yf at hA
  cases rr:m (pvs.map some ++ List.replicate (N.length - pvs.length) none) st0 with
  | rt v st1=>rw [rr] at hA; exact fun v H' ρ' x R' r=>hA H' ρ' x R' v r
  | nx Γ st1=>rw [rr] at hA; exact fun σ' H' ρ' x' R' G'=>hA H' ρ' x' R' .non rfl
  | bk Γ st1=>rw [rr] at hA; exact hA.elim
  | ct Γ st1=>rw [rr] at hA; exact hA.elim
  | stuck=>rw [rr] at hA; exact hA.elim
  | exc y st1=>rw [rr] at hA; exact hA
end
theorem X1 {P:Program} {w:World} {K:PySem.W.Frag} {mg:Str->Option Value} {base:Heap} {x qual:Str} {st:Stmt} {f:Addr} {fd:FuncData} {N ps:List Str} {k n nl:Nat} {m:MS} {FF:FN} (F:Fun K x qual st f fd) (S:FnScope N ps (Q9 st)) (hn:ps.length=n) (hnl:N.length=nl) (hF:FF=Yf m nl)
    (hb:∀ (cdv:Value) (A:Around) (outer:List PySem.Env) (s:Shared) (H:Hp) (E:XK),Room k (A.deeper (PyProof.Rows.envOfC qual (Q9 st) s.heap.objs.size f cdv))->SimB (cxD P w K mg base N qual (Q9 st) f cdv A outer s H E) E (Jz st) m) :
    FnOk P w K mg base (CXD P w) (k + 1) f fd ps (spF mg n FF):=by
  subst hn; subst hnl; subst hF
  exact fun_okK F S hb
end Sm
namespace Sm
open PySem PySem.Spec PyProof.Rows L2
section
variable {X:Cx} {E:XK} {pos:Pos} {a b:Expr} {ma mb:ME}
end
end Sm
namespace Sm
open PySem PySem.Spec L2
def partsV (w:Str):V:=if w = "make" then .int 3 else if w = "lend" then .int 4 else if w = "use" then .int 3 else .non
structure PartsOk (P:Program) (w:World) (K:PySem.W.Frag) (mg:Str->Option Value):Prop where
  ex:∃ (a:Addr) (o:Obj) (es:Array DictEntry) (ep:Nat),mg "PARTS_OF_DEED" = some (.ref a)/\K.lookup a=some o/\o.cls=.type "dict" /\ o.ExactDict/\o.data=.dict es ep/\KeysOf (Zr P w) es/\(a == sysModules)=false/\∀ x,RelV (partsV x) ((findBy (Zr P w).is es (.inr x)).getD .none)
def mParts (m:ME):ME:=fun Γ st=>(m Γ st).bind fun p st1=>match p with
  | .str x=>if x = "make" then .ok (.int 3) st1 else if x = "lend" then .ok (.int 4) st1 else if x = "use" then .ok (.int 3) st1 else .ok .non st1
  | _=>.stuck
section
variable {X:Cx} {E:XK} {pos:Pos} {e:Expr} {m:ME}
theorem se_parts {p apos cpos:Pos} (PO:PartsOk X.prog X.w X.K X.mg) (hg:Gl X "PARTS_OF_DEED") (he:SimE X E e m)
    (base:attributeBase (.Name "PARTS_OF_DEED" p) "get" X.env (eval (.Name "PARTS_OF_DEED" p) X.env)=eval (.Name "PARTS_OF_DEED" p) X.env:=by rfl)
    (few:((backTo cpos (starEach [e] X.env)).all (fun x=>!x.1) && (backToKw cpos (keywordEach [] X.env)).all (fun x=>x.1.isSome)
      && decide (([e]:List Expr).length + ([]:List Keyword).length + (if ([]:List Keyword).isEmpty then 0 else 1) < 30))=true:=by rfl)
    (line:(apos.endLine == cpos.line)=true:=by rfl) (trees:backTo cpos (starEach [e] X.env)=[(false,eval e X.env)]:=by rfl) :
    SimE X E (.Call (.Attribute (.Name "PARTS_OF_DEED" p) "get" apos) [e] [] cpos) (mParts m):=by
  obtain ⟨a,o,es,ep,pm,pl,pt,pe,pd,pk,ps,pv'⟩:=PO.ex
  refine ⟨fun Γ σ H ρ st Q R G h=>WE.of (pe_ggetT (val:=partsV) hg pm pl pt pe pd pk ps pv' Y2 (by decide) base few line trees) (he.use R G h.bind fun q st1 H1 ρ1 v x1 R1 G1 r1 h1=>?_)⟩
  cases q with
  | str x=>
    cases r1
    have h1:Acc X.mg E H1 ρ1 (QV Q) (if x = "make" then .ok (.int 3) st1 else if x = "lend" then .ok (.int 4) st1 else if x = "use" then .ok (.int 3) st1 else .ok .non st1):=h1
    by_cases a1:x = "make"
    · rw [if_pos a1] at h1
      exact ⟨x,rfl,by unfold partsV; rw [if_pos a1]; exact now R1 h1 rfl⟩
    · rw [if_neg a1] at h1
      by_cases a2:x = "lend"
      · rw [if_pos a2] at h1
        exact ⟨x,rfl,by unfold partsV; rw [if_neg a1,if_pos a2]; exact now R1 h1 rfl⟩
      · rw [if_neg a2] at h1
        by_cases a3:x = "use"
        · rw [if_pos a3] at h1
          exact ⟨x,rfl,by unfold partsV; rw [if_neg a1,if_neg a2,if_pos a3]; exact now R1 h1 rfl⟩
        · rw [if_neg a3] at h1
          exact ⟨x,rfl,by unfold partsV; rw [if_neg a1,if_neg a2,if_neg a3]; exact now R1 h1 rfl⟩
  | _=>exact h1.elim
end
section
theorem parts_mk {P:Program} {w:World} {K:PySem.W.Frag} {mg:Str->Option Value} {pd:Addr} {t1 t2 t3 u1 u2 u3:Tok} {ep:Nat} (hm:mg "PARTS_OF_DEED" = some (.ref pd))
    (lk:K.lookup pd=some ⟨.type "dict",none,.dict #[⟨PyData.keyHash w.params "make",.str "make" t1,.int 3 u1⟩,⟨PyData.keyHash w.params "lend",.str "lend" t2,.int 4 u2⟩,⟨PyData.keyHash w.params "use",.str "use" t3,.int 3 u3⟩] ep,#[]⟩) (hp:(pd == sysModules)=false):PartsOk P w K mg:=by
  refine ⟨pd,_,_,_,hm,lk,rfl,⟨rfl,rfl,rfl⟩,rfl,fun e he=>?_,hp,fun x=>?_⟩
  · simp only [List.mem_toArray,D5,List.not_mem_nil,or_false] at he
    rcases he with rfl | rfl | rfl
    · exact ⟨.inr "make",by simp [Zr,keyIs,Value.isStrOf],rfl⟩
    · exact ⟨.inr "lend",by simp [Zr,keyIs,Value.isStrOf],rfl⟩
    · exact ⟨.inr "use",by simp [Zr,keyIs,Value.isStrOf],rfl⟩
  · unfold partsV
    by_cases e1:x = "make"
    · rw [if_pos e1]; subst e1
      have:findBy (Zr P w).is #[⟨PyData.keyHash w.params "make",.str "make" t1,.int 3 u1⟩,⟨PyData.keyHash w.params "lend",.str "lend" t2,.int 4 u2⟩,⟨PyData.keyHash w.params "use",.str "use" t3,.int 3 u3⟩] (.inr "make")=some (.int 3 u1):=by first | rfl | decide +kernel
      rw [this]; exact ⟨_,rfl⟩
    · rw [if_neg e1]
      by_cases e2:x = "lend"
      · rw [if_pos e2]; subst e2
        have:findBy (Zr P w).is #[⟨PyData.keyHash w.params "make",.str "make" t1,.int 3 u1⟩,⟨PyData.keyHash w.params "lend",.str "lend" t2,.int 4 u2⟩,⟨PyData.keyHash w.params "use",.str "use" t3,.int 3 u3⟩] (.inr "lend")=some (.int 4 u2):=by first | rfl | decide +kernel
        rw [this]; exact ⟨_,rfl⟩
      · rw [if_neg e2]
        by_cases e3:x = "use"
        · rw [if_pos e3]; subst e3
          have:findBy (Zr P w).is #[⟨PyData.keyHash w.params "make",.str "make" t1,.int 3 u1⟩,⟨PyData.keyHash w.params "lend",.str "lend" t2,.int 4 u2⟩,⟨PyData.keyHash w.params "use",.str "use" t3,.int 3 u3⟩] (.inr "use")=some (.int 3 u3):=by first | rfl | decide +kernel
          rw [this]; exact ⟨_,rfl⟩
        · rw [if_neg e3]
          have e1':¬ (Str.ofString "make" = x):=fun z=>e1 z.symm
          have e2':¬ (Str.ofString "lend" = x):=fun z=>e2 z.symm
          have e3':¬ (Str.ofString "use" = x):=fun z=>e3 z.symm
          have:findBy (Zr P w).is #[⟨PyData.keyHash w.params "make",.str "make" t1,.int 3 u1⟩,⟨PyData.keyHash w.params "lend",.str "lend" t2,.int 4 u2⟩,⟨PyData.keyHash w.params "use",.str "use" t3,.int 3 u3⟩] (.inr x)=none:=by
            simp [findBy,Zr,keyIs,Value.isStrOf,e1',e2',e3']
          rw [this]; rfl
end
section
variable {X:Cx} {E:XK} {pos dpos:Pos} {e1 e2 e3 i:Expr} {m1 m2 m3 mi:ME} {k1 k2 k3:Str} {j1 j2 j3:Nat} {q1 q2 q3:Pos}
end
def mRaiseI (x name:Str) (m:ME):MS:=fun Γ st=>(m Γ st).sbind fun p st1=>.exc ⟨x,some (name,p)⟩ st1
section
variable {X:Cx} {E:XK} {pos:Pos} {e:Expr} {m:ME}
theorem ss_raiseI {x name:Str} {C W f:Addr} {fd:FuncData} {k:Nat} {ps:List Str} {np cpos:Pos} (hcalm:X.calm=true) (RO:RaiseD X E) (M:XMade X.K C W f) (GI:FnOk X.prog X.w X.K X.mg X.base CX0 k f fd ps (spInit C name)) (hr:Room (k + 1) X.A)
    (hb:Binds X.K fd ps []) (hg:Gl X x) (hm:X.mg x=some (.ref C)) (he:SimE X E e m) (hdb:(x == ("__debug__" : Str))=false:=by decide) (hst:starEach [e] X.env=[(false,eval e X.env)]:=by rfl) :
    SimS X E (.Raise (some (.Call (.Name x np) [e] [] cpos)) none pos) (mRaiseI x name m):=
  ⟨fun Γ σ H ρ st D R G h=>WS.of (ps_raiseI hcalm RO M GI hr hb hg hm (Qx Y2 Z6 (by rw [hst]; rfl)) hdb hst) (he.use R G h.bind fun p st1 H1 ρ1 v x1 R1 G1 r1 h1=>
    ⟨v,rfl,fun dx hn=>h1 C (some dx) _ ρ1 hm (Ext.add hn) (R1.add hn) ⟨dx,v,rfl,Qs,R1.fresh hn,r1.ext (Ext.add hn)⟩⟩)⟩
end
@[simp] theorem mParts_eq (m:ME) (Γ:Gam) (st:Q3):mParts m Γ st=(m Γ st).bind fun p st1=>(match p with
  | .str x=>if x = "make" then .ok (.int 3) st1 else if x = "lend" then .ok (.int 4) st1 else if x = "use" then .ok (.int 3) st1 else .ok .non st1
  | _=>.stuck):=rfl
@[simp] theorem mRaiseI_eq (x name:Str) (m:ME) (Γ:Gam) (st:Q3):mRaiseI x name m Γ st=(m Γ st).sbind fun p st1=>.exc ⟨x,some (name,p)⟩ st1:=rfl
end Sm
namespace Sm
open PySem PySem.Spec L2
section
variable {X:Cx} {E:XK}
end
end Sm
namespace Sm
open PySem PySem.Spec L2
section
variable {H0 H:Hp} {ρ0 ρ:Tk} {st:Q3} {a:Addr} {ps:List (Key × PV)} {vs:List (Key × V)}
end
section
variable {X:Cx} {E:XK} {pos dpos apos cpos:Pos} {e e1 e2 e3 i o f:Expr} {m m1 m2 m3 mi mo mf:ME} {k1 k2 k3:Str} {j1 j2 j3:Nat} {q1 q2 q3:Pos}
end
end Sm
namespace Sm
open PySem PySem.Spec L2
section
variable {X:Cx} {E:XK} {pos dpos tpos:Pos} {e i o k:Expr} {m mi mo mk:ME}
end
end Sm
namespace Sm
open PySem PySem.Spec L2
section
variable {X:Cx} {E:XK} {pos dpos tpos:Pos} {e i o k:Expr} {m mi mo mk:ME} {tg:Expr}
end
end Sm
namespace Sm
open PySem PySem.Spec L2
section
variable {X:Cx} {E:XK}
end
end Sm
namespace Sm
open PySem PySem.Spec PyProof.Rows L2
section
variable {X:Cx} {E:XK}
end
end Sm
namespace Sm
open PySem PySem.Spec L2
section
variable {X:Cx} {E:XK} {pos apos tp:Pos} {e:Expr} {m:ME} {elts:List Expr} {kt:Nat}
end
end Sm
namespace Sm
open PySem PySem.Spec L2
section
variable {X:Cx} {E:XK} {pos dpos tpos:Pos} {e i o k:Expr} {m mi mo mk:ME}
end
end Sm
namespace Sm
open PySem PySem.Spec L2
section
variable {X:Cx} {E:XK}
end
end Sm
namespace Sm
open PySem PySem.Spec L2
section
variable {X:Cx} {E:XK} {a:Expr} {ma:ME} {pos:Pos}
end
end Sm
namespace Sm
open PySem PySem.Spec L2 SeqAt
section
variable {X:Cx} {E:XK}
variable {o:Expr} {mo:ME} {apos cpos:Pos}
end
end Sm
namespace Sm
open PySem PySem.Spec L2 SeqAt
section
variable {X:Cx} {E:XK}
variable {e o i:Expr} {m mo mi:ME} {pos tpos:Pos}
end
end Sm
namespace L2
open PySem PySem.Spec PyProof.Rows
end L2
namespace Sm
open PySem PySem.Spec PyProof.Rows L2
section
variable {X:Cx} {E:XK} {pos:Pos} {e:Expr} {m:ME}
end
end Sm
namespace Sm
open PySem PySem.Spec PyProof.Rows L2
section
variable {X:Cx} {E:XK} {tg:Expr} {a b c:Expr} {mr:ML} {p pos:Pos}
end
end Sm
namespace Sm
open PySem PySem.Spec L2
section
variable {X:Cx} {E:XK} {o:Expr} {mo:ME} {apos cpos:Pos} {to:TE}
end
end Sm
namespace Sm
open PySem PySem.Spec L2
structure DefX (P:Program) (w:World) (K:PySem.W.Frag) (mg:Str->Option Value) (base:Heap) (k:Nat) (x:Str) (ps:List Str) (sp:Sp):Prop where
  ex:∃ (f:Addr) (fd:FuncData),FnOk P w K mg base (CXD P w) k f fd ps sp/\mg x=some (.ref f)/\PySem.W.keepIn K (.ref f)=true/\Binds K fd ps []
theorem Yr {H0 H:Hp} (h:Same H0 H) {p:Addr} {o:HO} (hp:H p=none):Same H0 (upd H p o):=fun b u e=>by
  have:=h b u e
  rw [Qd fun z=>by rw [z,hp] at this; cases this]; exact this
structure Nms (mg:Str->Option Value) (c:Nat->Addr):Prop where
  m0:mg "WharfError" = some (.ref (c 0))
  m1:mg "NoTable" = some (.ref (c 1))
  m2:mg "NoHouse" = some (.ref (c 2))
  m3:mg "NoDeed" = some (.ref (c 3))
  m4:mg "NoLetter" = some (.ref (c 4))
  m5:mg "NoStand" = some (.ref (c 5))
  m6:mg "NoRoad" = some (.ref (c 6))
  m7:mg "NoPlan" = some (.ref (c 7))
  m8:mg "NoBook" = some (.ref (c 8))
  m9:mg "NoManner" = some (.ref (c 9))
  m10:mg "TooMany" = some (.ref (c 10))
  m11:mg "NoText" = some (.ref (c 11))
  m12:mg "NoRow" = some (.ref (c 12))
  m13:mg "NoName" = some (.ref (c 13))
  m14:mg "Short" = some (.ref (c 14))
  ve:mg "ValueError" = none
  isi:mg "isinstance" = none
structure TgtS (K:PySem.W.Frag) (c:Nat->Addr) (t:Nat):Prop where
  xc:XCls K (c t)
  ve:PySem.W.kitOne K (.ref (c t)) (.type "ValueError")=some true
  ex:PySem.W.exmOne K (.ref (c t)) (.ref (c 0))=some true
  k:∀ i,1<=i->i<=14->PySem.W.kitOne K (.ref (c t)) (.ref (c i))=some (decide (i=t))
theorem boot_ValueError:bootBuiltins "ValueError" = some (.type "ValueError"):=by decide +kernel
theorem Zm {H:Hp} {e p:Addr} {v o:HO} (h:H e=some v) (hp:H p=none):upd H p o e=some v:=by
  rw [Qd fun z=>by rw [z,hp] at h; cases h]; exact h
theorem noB (bs:List Bool) (j:Nat) (h:(bs.take j).all (fun b=>!b)=true) (hl:j<=bs.length):∀ m,m < j->bs[m]?=some false:=fun m hm=>by
  have hb:m < bs.length:=by omega
  have:=F6.mp h (bs[m]) (List.mem_take_iff_getElem.mpr ⟨m,by omega,rfl⟩)
  rw [O4 hb]
  cases q:bs[m] with
  | false=>rfl
  | true=>rw [q] at this; cases this
section
variable {X:Cx}
def tStrs (ss:List Str):TA:=fun σ H Q=>Q (ss.map V.str) H
theorem pa_strs:∀ (l:List (Str × Nat × Pos)),PA X (l.map fun p=>Expr.Constant (.str p.1) p.2.1 p.2.2) (tStrs (l.map (·.1)))
  | []=>fun pos pins s σ H Q I h=>Z6 pos pins s σ H Q I h
  | (x,j,p) :: l=>fun pos pins s σ H Q I h=>Qx (e:=.Constant (.str x) j p) pe_str (pa_strs l) rfl pos pins s σ H Q I h
theorem pa_strsE (ss:List Str) (l:List (Nat × Pos)) {es:List Expr} (h:es=(ss.zip l).map (fun p=>Expr.Constant (.str p.1) p.2.1 p.2.2)) (hl:ss.length=l.length:=by rfl):PA X es (tStrs ss):=by
  have e:((ss.zip l).map fun p=>((p.1,p.2.1,p.2.2):Str × Nat × Pos)).map (fun p=>Expr.Constant (.str p.1) p.2.1 p.2.2)=es:=by rw [h,List.map_map]; rfl
  have e2:((ss.zip l).map fun p=>((p.1,p.2.1,p.2.2):Str × Nat × Pos)).map (·.1)=ss:=by
    rw [List.map_map]
    show (ss.zip l).map Prod.fst=ss
    exact List.map_fst_zip (by omega)
  have:=pa_strs (X:=X) ((ss.zip l).map fun p=>(p.1,p.2.1,p.2.2))
  rw [e,e2] at this
  exact this
end
end Sm
namespace Sm
open PySem PySem.Spec L2
def putG (f:Str) (p:PV):List (Str × PV)->List (Str × PV)
  | []=>[(f,p)]
  | (g,x) :: r=>if g=f then (g,p) :: r else (g,x) :: putG f p r
section
variable {H:Hp} {ρ:Tk}
theorem repD_cons {κ:Type} {fs:List (κ × PV)} {vs:List (κ × V)} {g:κ} {x:PV}:RepD H ρ ((g,x) :: fs) vs->∃ v r,vs=(g,v) :: r/\Rep H ρ x v/\RepD H ρ fs r:=fun ⟨h1,h2⟩=>by
  cases vs with
  | nil=>cases h1
  | cons a r=>
    obtain ⟨k,v⟩:=a
    simp only [F5,List.cons.injEq] at h1
    obtain ⟨u,t,e,r1,r2⟩:=h2
    cases e
    exact ⟨v,r,by rw [h1.1],r1,h1.2,r2⟩
theorem repD_more {κ:Type} {fs:List (κ × PV)} {vs:List (κ × V)} {g:κ} {x:PV} {v:V} (h:Rep H ρ x v) (r:RepD H ρ fs vs):RepD H ρ ((g,x) :: fs) ((g,v) :: vs):=
  ⟨by simp only [F5,r.1],v,_,rfl,h,r.2⟩
theorem repD_putF {f:Str} {p:PV} {v:V} (h:Rep H ρ p v):∀ {fs:List (Str × PV)} {vs:List (Str × V)},RepD H ρ fs vs->RepD H ρ (putG f p fs) (putF f v vs)
  | [],vs,r=>by
    have:vs=[]:=by have:=r.1; simpa using this
    subst this
    exact repD_more h ⟨rfl,rfl⟩
  | (g,x) :: fs,vs,r=>by
    obtain ⟨u,t,rfl,r1,r2⟩:=repD_cons r
    rw [putG,putF]
    by_cases q:g=f
    · rw [if_pos q,if_pos q]; exact repD_more h r2
    · rw [if_neg q,if_neg q]; exact repD_more r1 (repD_putF h r2)
theorem repD_look {f:Str}:∀ {fs:List (Str × PV)} {vs:List (Str × V)},RepD H ρ fs vs->(∀ p,fs.lookup f=some p->∃ v,vs.lookup f=some v/\Rep H ρ p v)/\(fs.lookup f=none->vs.lookup f=none)
  | [],vs,r=>by
    have:vs=[]:=by have:=r.1; simpa using this
    subst this
    exact ⟨fun p e=>(by cases e),fun _=>rfl⟩
  | (g,x) :: fs,vs,r=>by
    obtain ⟨u,t,rfl,r1,r2⟩:=repD_cons r
    obtain ⟨i1,i2⟩:=repD_look (f:=f) r2
    rw [D4,D4]
    cases q:f == g with
    | true=>exact ⟨fun p e=>by cases e; exact ⟨u,rfl,r1⟩,fun e=>(by cases e)⟩
    | false=>exact ⟨i1,i2⟩
end
def objOf (C:Addr) (st:Q3) (p:PV):Option (Nat × List (Str × PV)):=match p with
  | .ref i=>match st[i]? with
    | some (.obj C' fs)=>if C'=C then some (i,fs) else none
    | _=>none
  | _=>none
theorem objOf_at {C:Addr} {H:Hp} {ρ:Tk} {st:Q3} {p:PV} {v:V} {i:Nat} {fs:List (Str × PV)} (R:Rel H ρ st) (r:Rep H ρ p v) (e:objOf C st p=some (i,fs)):∃ a vs dx,p=.ref i/\v=.ref a/\ρ.tr[i]?=some a/\H a=some (.ins C dx vs)/\RepD H ρ fs vs:=by
  unfold objOf at e
  split at e
  · rename_i j
    split at e
    · rename_i C' fs' z
      split at e
      · rename_i hc
        cases e
        subst hc
        obtain ⟨a,ea,rfl⟩:=r
        obtain ⟨b,vs,dx,eb,hb,rd⟩:=R.obj z
        rw [ea] at eb
        cases eb
        exact ⟨a,vs,dx,rfl,rfl,ea,hb,rd⟩
      · cases e
    · cases e
  · cases e
section
variable {X:Cx} {E:XK} {o e:Expr} {es:List Expr} {mo m:ME} {mr:Gam->Q3->Res (List PV)} {C:Addr} {f:Str} {pos pos' apos p:Pos}
def W4 (C:Addr) (f:Str) (mo:ME):ME:=fun Γ st=>(mo Γ st).bind fun p st1=>match objOf C st1 p with
  | some (_,fs)=>match fs.lookup f with
    | some q=>.ok q st1
    | none=>.stuck
  | none=>.stuck
theorem Ya (cl:Cls X.K C) (n:NoAttr X.K C f) (ho:SimE X E o mo) (hb:attributeBase o f X.env (eval o X.env)=eval o X.env:=by rfl):SimE X E (.Attribute o f pos) (W4 C f mo):=
  ⟨fun Γ σ H ρ st Q R G h=>WE.of (pe_fld Y2 hb) (ho.use R G h.bind fun p st1 H1 ρ1 v x1 R1 G1 r1 h1=>by
    split at h1
    · rename_i i fs eo
      split at h1
      · rename_i q el
        obtain ⟨a,vs,dx,rfl,rfl,ea,ha,rd⟩:=objOf_at R1 r1 eo
        obtain ⟨u,eu,ru⟩:=(repD_look rd).1 q el
        exact ⟨a,C,dx,vs,u,rfl,ha,cl,n,eu,now R1 h1 ru⟩
      · exact h1.elim
    · exact h1.elim)⟩
def mSFld (C:Addr) (f:Str) (mo m:ME):MS:=fun Γ st=>(m Γ st).sbind fun p st1=>(mo Γ st1).sbind fun q st2=>match objOf C st2 q with
  | some (i,fs)=>if fs.length < 1000 then .nx Γ (st2.set i (.obj C (putG f p fs))) else .stuck
  | none=>.stuck
theorem ss_fld (cl:Cls X.K C) (n:NoAttr X.K C f) (he:SimE X E e m) (ho:SimE X E o mo) (hs:swapsWith e (some (.Attribute o f pos')) pos.line X.env=pure false:=by rfl):SimS X E (.Assign [.Attribute o f pos'] e pos) (mSFld C f mo m):=
  ⟨fun Γ σ H ρ st D R G h=>WS.of (ps_fld Y2 Y2 hs) (he.use R G h.bind fun p st1 H1 ρ1 z x1 R1 G1 r1 h1=>ho.use R1 G1 h1.bind fun ov st2 H2 ρ2 x x2 R2 G2 r2 h2=>by
    split at h2
    · rename_i i fs eo
      split at h2
      · rename_i hl
        obtain ⟨a,vs,dx,rfl,rfl,ea,ha,rd⟩:=objOf_at R2 r2 eo
        have hm:=D6 ea
        have x3:Ext H2 ρ2 (upd H2 a (.ins C dx (putF f z vs))) ρ2:=Ext.put hm ha
        refine ⟨a,C,dx,vs,rfl,ha,cl,n,by rw [<- rd.length]; exact hl,h2 σ _ ρ2 x3 (R2.putC ea ha ⟨_,⟨dx,Qs⟩,?_⟩) (G2.ext x3)⟩
        exact (repD_putF (r1.ext x2) rd).ext x3
      · exact h2.elim
    · exact h2.elim)⟩
structure MethS (P:Program) (w:World) (K:PySem.W.Frag) (mg:Str->Option Value) (base:Heap) (k:Nat) (C:Addr) (x:Str) (n:Nat) (F:FN):Prop where
  ex:∃ (f:Addr) (fd:FuncData) (ps:List Str),FnOk P w K mg base (CXD P w) k f fd ps (spF mg n F)/\Meth K C x f/\Binds K fd ps []/\ps.length=n
def Wx (C:Addr) (x:Str) (n:Nat) (F:FN) (mo:ME) (mr:ML):ME:=fun Γ st=>(mo Γ st).bind fun p st1=>match objOf C st1 p with
  | some (_,fs)=>if fs.lookup x=none then (mr Γ st1).bind fun ps st2=>if ps.length + 1=n then F (p :: ps) st2 else .stuck else .stuck
  | none=>.stuck
theorem se_meth {pl:Sem Bool} {k n:Nat} {x:Str} {F:FN} (cl:Cls X.K C) (D:MethS X.prog X.w X.K X.mg X.base k C x n F) (hr:Room k X.A) (hx:Uk (CXD X.prog X.w) X E) (ho:SimE X E o mo) (ha:SimA X E (e :: es) mr)
    (hst:starEach (e :: es) X.env=(false,eval e X.env) :: starEach es X.env:=by rfl) (hpl:(backTo pos (starEach es X.env)).any (·.1)=false:=by rfl)
    (ht:eval (.Call (.Attribute o x apos) (e :: es) [] pos) X.env=(do
      let ov <- eval o X.env
      standAt apos.atName
      let (f,first) <- holding [ov] (getMethod ov x pl)
      callWith pos f first (backTo pos (starEach (e :: es) X.env)) (backToKw pos (keywordEach [] X.env))):=by rfl):SimE X E (.Call (.Attribute o x apos) (e :: es) [] pos) (Wx C x n F mo mr):=by
  obtain ⟨f,fd,ps,hF,hm,hb,hl⟩:=D.ex
  exact ⟨fun Γ σ H ρ st Q R G h=>WE.of (pe_meth Y2 cl hm hF hr hb .nil hx pa_w hst hpl ht) (ho.use R G h.bind fun p st1 H1 ρ1 v x1 R1 G1 r1 h1=>by
    split at h1
    · rename_i i fs eo
      split at h1
      · rename_i el
        obtain ⟨a,vs,dx,rfl,rfl,ea,haa,rd⟩:=objOf_at R1 r1 eo
        refine ⟨a,dx,vs,rfl,haa,(repD_look rd).2 el,?_⟩
        refine ha.use R1 G1 h1.bind fun qs st2 H2 ρ2 us x2 R2 G2 r2 h2=>?_
        by_cases hq:qs.length + 1=n
        · rw [if_pos hq] at h2
          show spF X.mg n F (.ref a :: (us ++ [])) H2 Q E
          rw [List.append_nil]
          exact ⟨by rw [D7,<- r2.length]; exact hq,ρ2,st2,_,R2,RepL.cons (r1.ext x2) r2,h2⟩
        · rw [if_neg hq] at h2; exact h2.elim
      · exact h1.elim
    · exact h1.elim)⟩
theorem Ux {pl:Sem Bool} {k n:Nat} {x:Str} {F:FN} (cl:Cls X.K C) (D:MethS X.prog X.w X.K X.mg X.base k C x n F) (hr:Room k X.A) (hx:Uk (CXD X.prog X.w) X E) (ho:SimE X E o mo)
    (ht:eval (.Call (.Attribute o x apos) [] [] pos) X.env=(do
      let ov <- eval o X.env
      standAt apos.atName
      let (f,first) <- holding [ov] (getMethod ov x pl)
      callWith pos f first (backTo pos (starEach [] X.env)) (backToKw pos (keywordEach [] X.env))):=by rfl):SimE X E (.Call (.Attribute o x apos) [] [] pos) (Wx C x n F mo Q8):=by
  obtain ⟨f,fd,ps,hF,hm,hb,hl⟩:=D.ex
  exact ⟨fun Γ σ H ρ st Q R G h=>WE.of (pe_meth0 Y2 cl hm hF hr hb .nil hx ht) (ho.use R G h.bind fun p st1 H1 ρ1 v x1 R1 G1 r1 h1=>by
    split at h1
    · rename_i i fs eo
      split at h1
      · rename_i el
        obtain ⟨a,vs,dx,rfl,rfl,ea,haa,rd⟩:=objOf_at R1 r1 eo
        refine ⟨a,dx,vs,rfl,haa,(repD_look rd).2 el,?_⟩
        have h1:Acc X.mg E H1 ρ1 (QV Q) (if ([]:List PV).length + 1=n then F [.ref i] st1 else .stuck):=h1
        by_cases hq:([]:List PV).length + 1=n
        · rw [if_pos hq] at h1
          show spF X.mg n F (.ref a :: ([] ++ [])) H1 Q E
          exact ⟨hq,ρ1,st1,_,R1,RepL.cons r1 RepL.nil,h1⟩
        · rw [if_neg hq] at h1; exact h1.elim
      · exact h1.elim
    · exact h1.elim)⟩
structure MakeS (P:Program) (w:World) (K:PySem.W.Frag) (mg:Str->Option Value) (base:Heap) (k:Nat) (C:Addr) (x:Str) (n:Nat) (F:FN):Prop where
  ex:∃ (f:Addr) (fd:FuncData) (ps:List Str),FnOk P w K mg base (CXD P w) k f fd ps (spF mg n F)/\Mk K C f/\mg x=some (.ref C)/\Binds K fd ps []/\ps.length=n
def mMake (C : Addr) (n : Nat) (F : FN) (mr : ML) : ME := fun Γ st => (mr Γ st).bind fun ps st1 => if ps.length + 1 = n then (F (.ref st1.length :: ps) (st1 ++ [.obj C []])).bind fun v st2 => match v with
    | .non=>.ok (.ref st1.length) st2
    | _=>.stuck
  else .stuck
theorem se_make {k n:Nat} {x:Str} {F:FN} (D:MakeS X.prog X.w X.K X.mg X.base k C x n F) (hr:Room (k + 1) X.A) (hx:Uk (CXD X.prog X.w) X E) (hg:Gl X x) (ha:SimA X E (e :: es) mr) (hdb:(x == ("__debug__" : Str))=false:=by decide)
    (he:starEach (e :: es) X.env=(false,eval e X.env) :: starEach es X.env:=by rfl) (hpl:(backTo pos (starEach es X.env)).any (·.1)=false:=by rfl):SimE X E (.Call (.Name x p) (e :: es) [] pos) (mMake C n F mr):=by
  obtain ⟨f,fd,ps,hF,hm,hc,hb,hl⟩:=D.ex
  exact ⟨fun Γ σ H ρ st Q R G h=>WE.of (pe_make hm hF hr hg hc hb .nil hx pa_w hdb he hpl) (ha.use R G h.bind fun qs st1 H1 ρ1 us x1 R1 G1 r1 h1=>by
    intro y dx hy hd hne
    by_cases hq:qs.length + 1=n
    · rw [if_pos hq] at h1
      have y1:Ext H1 ρ1 (upd H1 dx (.own y)) ρ1:=Ext.add hd
      have hy':(upd H1 dx (.own y)) y=none:=by rw [Qd (fun z=>hne z.symm)]; exact hy
      have y2:Ext (upd H1 dx (.own y)) ρ1 (upd (upd H1 dx (.own y)) y (.ins C dx [])) (ρ1.add y):=Ext.addT hy'
      have R2:Rel (upd (upd H1 dx (.own y)) y (.ins C dx [])) (ρ1.add y) (st1 ++ [.obj C []]):=(R1.add hd).addC hy' ⟨[],⟨dx,Qs⟩,rfl,rfl⟩
      have hat:(ρ1.add y).tr[st1.length]?=some y:=by
        show (ρ1.tr ++ [y])[st1.length]?=some y
        rw [<- R1.len,E4 (O7 _),Nat.sub_self]; rfl
      show spF X.mg n F (.ref y :: (us ++ [])) _ _ E
      rw [List.append_nil]
      refine ⟨by rw [D7,<- r1.length]; exact hq,ρ1.add y,st1 ++ [.obj C []],.ref st1.length :: qs,R2,RepL.cons ⟨y,hat,rfl⟩ (r1.ext (y1.trans y2)),?_⟩
      cases er:F (.ref st1.length :: qs) (st1 ++ [.obj C []]) with
      | stuck=>rw [er] at h1; exact h1.elim
      | exc z st'=>
        rw [er] at h1
        exact fun C' dv H' ρ' m x' R' xf=>h1 C' dv H' ρ' m ((y1.trans y2).trans x') R' xf
      | ok v st2=>
        rw [er] at h1
        intro H' ρ' x' R' w rw'
        rw [J5] at h1
        cases v with
        | non=>
          refine ⟨rw',h1 H' ρ' ((y1.trans y2).trans x') R' _ ⟨y,?_,rfl⟩⟩
          obtain ⟨t,et⟩:=x'.pre
          rw [<- et,O9 (O1.mp hat).1]
          exact hat
        | _=>exact h1.elim
    · rw [if_neg hq] at h1; exact h1.elim)⟩
end
@[simp] theorem mFld_eq (C:Addr) (f:Str) (mo:ME) (Γ:Gam) (st:Q3):W4 C f mo Γ st=(mo Γ st).bind fun p st1=>match objOf C st1 p with
  | some (_,fs)=>match fs.lookup f with
    | some q=>.ok q st1
    | none=>.stuck
  | none=>.stuck:=rfl
@[simp] theorem mSFld_eq (C:Addr) (f:Str) (mo m:ME) (Γ:Gam) (st:Q3):mSFld C f mo m Γ st=(m Γ st).sbind fun p st1=>(mo Γ st1).sbind fun q st2=>match objOf C st2 q with
  | some (i,fs)=>if fs.length < 1000 then .nx Γ (st2.set i (.obj C (putG f p fs))) else .stuck
  | none=>.stuck:=rfl
@[simp] theorem mMeth_eq (C:Addr) (x:Str) (n:Nat) (F:FN) (mo:ME) (mr:ML) (Γ:Gam) (st:Q3):Wx C x n F mo mr Γ st=(mo Γ st).bind fun p st1=>match objOf C st1 p with
  | some (_,fs)=>if fs.lookup x=none then (mr Γ st1).bind fun ps st2=>if ps.length + 1=n then F (p :: ps) st2 else .stuck else .stuck
  | none=>.stuck:=rfl
end Sm
namespace Sm
open PySem PySem.Spec L2
section
variable {X:Cx} {E:XK}
theorem call_intB:X3 X (.type "int") (fun xs H Q=>∃ b:Bool,xs=[.bl b]/\Q (.int (if b then 1 else 0)) H):=by
  intro pins s σ H xs us Q I r h
  obtain ⟨b,rfl,q⟩:=h
  obtain ⟨u,rfl,rx⟩:=vals1 r
  cases rx
  exact call_int_bool ⟨.int (if b then 1 else 0),H,I.tok _,⟨_,rfl⟩,q⟩
def cIntB:CF:=fun st ps=>match ps with
  | [.bl b]=>.ok (.int (if b then 1 else 0)) st
  | _=>.stuck
theorem cs_intB:CallS X E (.type "int") cIntB:=⟨fun H ρ st ps xs Q R rp h=>by
  unfold cIntB at h
  split at h
  · obtain ⟨v,rfl,r⟩:=Ys rp
    cases r
    exact WC.of call_intB ⟨_,rfl,now R h rfl⟩
  · exact h.elim⟩
@[simp] theorem cIntB_bl (st:Q3) (b:Bool):cIntB st [.bl b]=.ok (.int (if b then 1 else 0)) st:=rfl
end
end Sm
namespace Sm
open PySem PySem.Spec L2
section
variable {X:Cx} {E:XK} {pos:Pos} {e:Expr} {m:ME}
end
section
end
end Sm
namespace Sm
open PySem PySem.Spec L2
section
variable {X:Cx} {E:XK}
end
end Sm
namespace Sm
open PySem PySem.Spec L2
abbrev tryCx (X:Cx) (pins:List (Addr × Obj)) (E:XK):Cx:={ X with pn:=X.pn ++ pins,xe:=fun v s'=>∃ σ1 H1 s1,Inv X pins σ1 H1 s1/\CXD X.prog X.w X.stack H1 s1 E v s' }
section
variable {X:Cx} {pins pins':List (Addr × Obj)} {E:XK} {σ:St} {H:Hp} {s:Shared}
theorem tryIn (I:Inv X pins σ H s):Inv (tryCx X pins E) [] σ H s:=
  ⟨⟨I.ok.mod,I.ok.kind,I.ok.glob,I.ok.blt,I.ok.above,I.ok.inj,I.ok.has,I.ok.cab,I.ok.hd,I.ok.frames,I.ok.stk,I.ok.exf,I.ok.bs,I.ok.bsz,I.ok.noex,I.ok.exfs,I.ok.funs,I.ok.frf⟩,I.os,I.bare,I.base,I.loc,I.cell,I.free,I.freeC,fun p hp=>I.pin p (by simpa using hp),I.hok,I.len⟩
theorem tryOut (I:Inv (tryCx X pins E) pins' σ H s):Inv X pins σ H s:=
  ⟨⟨I.ok.mod,I.ok.kind,I.ok.glob,I.ok.blt,I.ok.above,I.ok.inj,I.ok.has,I.ok.cab,I.ok.hd,I.ok.frames,I.ok.stk,I.ok.exf,I.ok.bs,I.ok.bsz,I.ok.noex,I.ok.exfs,I.ok.funs,I.ok.frf⟩,I.os,I.bare,I.base,I.loc,I.cell,I.free,I.freeC,fun p hp=>I.pin p (E9 _ hp),I.hok,I.len⟩
theorem pass_try:Uk (CXD X.prog X.w) (tryCx X pins E) E:=fun _ σ H s _ _ I h=>⟨σ,H,s,tryOut I,h⟩
end
theorem repL_3' {H:Hp} {ρ:Tk} {ps:List PV} {a b c:V} (r:RepL H ρ ps [a,b,c]):∃ p q t,ps=[p,q,t]/\Rep H ρ p a/\Rep H ρ q b/\Rep H ρ t c:=by
  have l:=r.length
  match ps,l with
  | [p,q,t],_=>
    obtain ⟨_,_,e,h1,_,_,e2,h2,_,_,e3,h3,_⟩:=r
    cases e; cases e2; cases e3
    exact ⟨p,q,t,rfl,h1,h2,h3⟩
def tryE (X:Cx) (CC:Addr) (i L:Nat) (ts:Addr->TS) (D:Ends):XK:=fun cls dv H'=>∃ C,cls=.ref C/\PySem.W.exmOne X.K cls (.ref CC)=some true/\∀ a,H' a=none->∀ σ1:St,σ1.length=L->ts a { nx:=fun σ3 H3=>D.nx (σ3.set i none) H3,rt:=D.rt } (σ1.set i (some (.ref a))) (upd H' a (.ext (IsXD a C dv)))
section
variable {X:Cx} {body:List Stmt} {mb:MS} {cn n:Str} {i:Nat} {CC:Addr} {np hpos pos:Pos} {b₀:Stmt} {suite:List Stmt} {ts:Addr->TS} {Γ:Gam} {σ:St} {H:Hp} {ρ:Tk} {st:Q3} {D:Ends}
theorem try_run (hb:∀ pins E,SimB (tryCx X pins E) E body mb) (hN:X.N.Nodup) (hi:X.N[i]?=some n) (hk:X.env.scope.names.lookup n=some .local) (hsuite:∀ a,PSs (suiteCx X a) (b₀ :: suite) (ts a)) (hcm:X.mg cn=some (.ref CC)) (hgc:Gl X cn) (hex:∀ b,b∉X.ex) (hst:X.stack=X.env :: X.outer) (hfr:X.env.frame=some X.env.locals) (hdbc:(cn == ("__debug__" : Str))=false)
    (R:Rel H ρ st) (G:EnvR H ρ Γ σ) (h:AccS X.mg (tryE X CC i σ.length ts D) D H ρ (mb Γ st)):WS X (.Try body [.ExceptHandler (some (.Name cn np)) (some n) (b₀ :: suite) hpos] [] [] pos) D σ H:=fun pins s I=>by
  refine wpAny_Try_except (wpAny_mono ((hb pins _).run Γ σ H ρ st D R G h [] s (tryIn I)) (fun f s' hf=>?_) fun v s' hv=>?_)
  · cases f with
    | next=>
      obtain ⟨σ',H',I',q⟩:=hf
      exact wpAny_execs_nil ⟨σ',H',tryOut I',q⟩
    | brk=>
      obtain ⟨σ',H',I',q⟩:=hf
      exact ⟨σ',H',tryOut I',q⟩
    | cont=>
      obtain ⟨σ',H',I',q⟩:=hf
      exact ⟨σ',H',tryOut I',q⟩
    | ret u=>
      obtain ⟨v,σ',H',I',r,q⟩:=hf
      exact ⟨v,σ',H',tryOut I',r,q⟩
  · obtain ⟨σ1,H1,s1,I1,a,cls,a0,dv,H',B,rfl,Fl,dd,C,rfl,hok,q⟩:=hv
    exact handleR hN hi hk hex hst hfr hgc hcm hok I1 Fl dd (hsuite a) (q a Fl.new.2 σ1 (I1.len.trans I.len.symm)) hdbc
end
section
variable {X:Cx} {E:XK}
end
end Sm
namespace Sm
open PySem PySem.Spec PyProof.Rows L2
section
variable {X:Cx} {E:XK}
theorem op_fdivC:OpR X (binaryOp .FloorDiv) (rI (fun _ j=>0 < j/\j.natAbs.log2 < 8000) fun i j=>.int (i / j)):=opI fun i j _ _ _ _ _ hc q=>by
  have h1:(0:Int) < j:=hc.1
  have h2:=hc.2
  refine floordiv_int (by omega) (by rw [Int.fdiv_eq_ediv_of_nonneg i (by omega)]; exact q) (.inl (PyProof.noPylong_of_log2 ?_))
  omega
def oDivC:OP:=fun st p q=>match p,q with
  | .int a,.int b=>if 0 < b/\b.natAbs.log2 < 8000 then .ok (.int (a / b)) st else .stuck
  | _,_=>.stuck
theorem os_divC:OpS X E (binaryOp .FloorDiv) oDivC:=⟨fun H ρ st p q x y Q R rp rq h=>by
  unfold oDivC at h
  split at h
  · cases rp; cases rq
    split at h
    · rename_i hc
      exact WO.of op_fdivC ⟨_,_,rfl,rfl,hc,now R h rfl⟩
    · exact h.elim
  · exact h.elim⟩
theorem oDivC_int (st:Q3) (a:Int) (m:Nat) (h1:0 < m) (h2:m < 2 ^ 8000):oDivC st (.int a) (.int m)=.ok (.int (a / m)) st:=by
  show (if 0 < (m:Int)/\(m:Int).natAbs.log2 < 8000 then _ else _)=_
  rw [if_pos ⟨by omega,by
    rw [Int.natAbs_natCast]
    exact (Nat.log2_lt (by omega)).mpr h2⟩]
end
end Sm
namespace Sm
open PySem PySem.Spec L2
structure AtS (K:PySem.W.Frag) (mg:Str->Option Value) (name:Str) (st:Stmt) (ps:List Str) (f:Addr) (fd:FuncData):Prop where
  F:Fun K name name st f fd
  m:mg name=some (.ref f)
  b:Binds K fd ps []
theorem atS_mk {K:PySem.W.Frag} {mg:Str->Option Value} {h:Heap} {name:Str} {st:Stmt} {ps:List Str} {f:Addr} {oc:Value} {od an:Option Addr} {osl:Array (Option Value)} {kV doc pm cdv ct:Value} (X:K.In h) (G:h.Ns mainGlobals mg)
    (a:PySem.W.nsIn K mainGlobals name=some (some (.ref f))) (l:K.lookup f=some ⟨oc,od,.func (PySem.W.fnOf name name (Y8 st) (Jz st) (Q9 st) .none kV doc pm an cdv ct),osl⟩) (c:PySem.W.codeIn K cdv name=true) (k:PySem.W.keepIn K (.ref f)=true)
    (b:∀ (kV doc pm:Value) (an:Option Addr) (cdv ct:Value) (us:List Value),us.length=ps.length->bindArgs (PySem.W.fnOf name name (Y8 st) (Jz st) (Q9 st) .none kV doc pm an cdv ct) ⟨us,[]⟩=pure (ps.zip us)) :
    AtS K mg name st ps f (PySem.W.fnOf name name (Y8 st) (Jz st) (Q9 st) .none kV doc pm an cdv ct):=
  have F:=fun_mk (st:=st) l c k
  ⟨F,PySem.W.mg_of X G a,F.binds b⟩
theorem AtS.def {P:Program} {w:World} {K:PySem.W.Frag} {mg:Str->Option Value} {base:Heap} {name:Str} {st:Stmt} {ps:List Str} {f:Addr} {fd:FuncData} {k n:Nat} {F:FN} (a:AtS K mg name st ps f fd) (hn:ps.length=n) (G:FnOk P w K mg base (CXD P w) k f fd ps (spF mg n F)):DefS P w K mg base k name n F:=
  ⟨f,fd,ps,G,a.m,a.F.kp,a.b,hn⟩
theorem AtS.defX {P:Program} {w:World} {K:PySem.W.Frag} {mg:Str->Option Value} {base:Heap} {name:Str} {st:Stmt} {ps:List Str} {f:Addr} {fd:FuncData} {k:Nat} {sp:Sp} (a:AtS K mg name st ps f fd) (G:FnOk P w K mg base (CXD P w) k f fd ps sp):DefX P w K mg base k name ps sp:=⟨f,fd,G,a.m,a.F.kp,a.b⟩
def FL (K:PySem.W.Frag) (x ql:Str) (s:Stmt) (f:Addr):Prop:=∃ (oc:Value) (od:Option Addr) (kV dc pm:Value) (an:Option Addr) (cd ct:Value) (sl:Array (Option Value)),K.lookup f=some ⟨oc,od,.func (PySem.W.fnOf x ql (Y8 s) (Jz s) (Q9 s) .none kV dc pm an cd ct),sl⟩/\PySem.W.codeIn K cd ql=true/\PySem.W.keepIn K (.ref f)=true
theorem FL.fn {K:PySem.W.Frag} {x ql:Str} {s:Stmt} {f:Addr} (h:FL K x ql s f):∃ fd,Fun K x ql s f fd:=let ⟨_,_,_,_,_,_,_,_,_,l,c,k⟩:=h; ⟨_,fun_mk l c k⟩
def FA (K:PySem.W.Frag) (x:Str) (s:Stmt) (f:Addr):Prop:=PySem.W.nsIn K mainGlobals x=some (some (.ref f))/\FL K x x s f
theorem FA.mk {K:PySem.W.Frag} {x:Str} {s:Stmt} {f:Addr} {oc:Value} {od an:Option Addr} {sl:Array (Option Value)} {kV dc pm cd ct:Value} (a:PySem.W.nsIn K mainGlobals x=some (some (.ref f))) (l:K.lookup f=some ⟨oc,od,.func (PySem.W.fnOf x x (Y8 s) (Jz s) (Q9 s) .none kV dc pm an cd ct),sl⟩) (c:PySem.W.codeIn K cd x=true) (k:PySem.W.keepIn K (.ref f)=true):FA K x s f:=⟨a,_,_,_,_,_,_,_,_,_,l,c,k⟩
def FM (K:PySem.W.Frag) (C:Addr) (x ql:Str) (s:Stmt) (f:Addr):Prop:=PySem.W.findIn K (.ref C) x=some (some (.ref f))/\PySem.W.isFn K (.ref f)=true/\FL K x ql s f
theorem ln1 {α:Type} {l:List α} (h:l.length=1):∃ a,l=[a]:=match l,h with | [_],_=>⟨_,rfl⟩
theorem ln2 {α:Type} {l:List α} (h:l.length=2):∃ a b,l=[a,b]:=match l,h with | [_,_],_=>⟨_,_,rfl⟩
theorem ln3 {α:Type} {l:List α} (h:l.length=3):∃ a b c,l=[a,b,c]:=match l,h with | [_,_,_],_=>⟨_,_,_,rfl⟩
theorem ln4 {α:Type} {l:List α} (h:l.length=4):∃ a b c d,l=[a,b,c,d]:=match l,h with | [_,_,_,_],_=>⟨_,_,_,_,rfl⟩
theorem ln5 {α:Type} {l:List α} (h:l.length=5):∃ a b c d e,l=[a,b,c,d,e]:=match l,h with | [_,_,_,_,_],_=>⟨_,_,_,_,_,rfl⟩
theorem FL.bd {K:PySem.W.Frag} {x ql:Str} {s:Stmt} {f:Addr} {ps:List Str} (h:FL K x ql s f)
    (b:∀ (kV doc pm:Value) (an:Option Addr) (cdv ct:Value) (us:List Value),us.length=ps.length->bindArgs (PySem.W.fnOf x ql (Y8 s) (Jz s) (Q9 s) .none kV doc pm an cdv ct) ⟨us,[]⟩=pure (ps.zip us)):∃ fd,Fun K x ql s f fd/\Binds K fd ps []:=
  let ⟨_,F⟩:=h.fn
  ⟨_,F,F.binds b⟩
theorem Yi {K:PySem.W.Frag} {mg:Str->Option Value} {h:Heap} {name:Str} {st:Stmt} {f:Addr} (ps:List Str) (X:K.In h) (G:h.Ns mainGlobals mg) (a:FA K name st f)
    (b:∀ (kV doc pm:Value) (an:Option Addr) (cdv ct:Value) (us:List Value),us.length=ps.length->bindArgs (PySem.W.fnOf name name (Y8 st) (Jz st) (Q9 st) .none kV doc pm an cdv ct) ⟨us,[]⟩=pure (ps.zip us):=by
      intro _ _ _ _ _ _ us hl
      first | (obtain ⟨_,rfl⟩:=ln1 hl; rfl) | (obtain ⟨_,_,rfl⟩:=ln2 hl; rfl) | (obtain ⟨_,_,_,rfl⟩:=ln3 hl; rfl) | (obtain ⟨_,_,_,_,rfl⟩:=ln4 hl; rfl) | (obtain ⟨_,_,_,_,_,rfl⟩:=ln5 hl; rfl)):∃ fd,AtS K mg name st ps f fd:=
  let ⟨a,l⟩:=a
  let ⟨_,F,B⟩:=l.bd b
  ⟨_,F,PySem.W.mg_of X G a,B⟩
theorem FM.at {K:PySem.W.Frag} {C:Addr} {x ql:Str} {s:Stmt} {f:Addr} (h:FM K C x ql s f) (ps:List Str)
    (b:∀ (kV doc pm:Value) (an:Option Addr) (cdv ct:Value) (us:List Value),us.length=ps.length->bindArgs (PySem.W.fnOf x ql (Y8 s) (Jz s) (Q9 s) .none kV doc pm an cdv ct) ⟨us,[]⟩=pure (ps.zip us):=by
      intro _ _ _ _ _ _ us hl
      first | (obtain ⟨_,rfl⟩:=ln1 hl; rfl) | (obtain ⟨_,_,rfl⟩:=ln2 hl; rfl) | (obtain ⟨_,_,_,rfl⟩:=ln3 hl; rfl)):∃ fd,Fun K x ql s f fd/\Binds K fd ps []:=h.2.2.bd b
theorem FM.mk {K:PySem.W.Frag} {C:Addr} {x ql:Str} {s:Stmt} {f:Addr} {oc:Value} {od an:Option Addr} {sl:Array (Option Value)} {kV dc pm cd ct:Value} (a:PySem.W.findIn K (.ref C) x=some (some (.ref f))) (e:PySem.W.isFn K (.ref f)=true) (l:K.lookup f=some ⟨oc,od,.func (PySem.W.fnOf x ql (Y8 s) (Jz s) (Q9 s) .none kV dc pm an cd ct),sl⟩) (c:PySem.W.codeIn K cd ql=true) (k:PySem.W.keepIn K (.ref f)=true):FM K C x ql s f:=⟨a,e,_,_,_,_,_,_,_,_,_,l,c,k⟩
theorem AtS.d {K:PySem.W.Frag} {mg:Str->Option Value} {name:Str} {st:Stmt} {ps:List Str} {f:Addr} {fd:FuncData} {k n:Nat} {F:FN} (a:AtS K mg name st ps f fd) (P:Program) (w:World) (base:Heap) (hn:ps.length=n) (G:FnOk P w K mg base (CXD P w) k f fd ps (spF mg n F)):DefS P w K mg base k name n F:=a.def hn G
def noL (K:PySem.W.Frag):Bool:=K.all fun p=>match p.2.data with
  | .seq _ _=>(match p.2.cls with
    | .type n=>!(n == ("list" : Str))
    | _=>true)
  | _=>true
theorem lookup_mem {K:PySem.W.Frag} {a:Addr} {o:Obj} (h:K.lookup a=some o):(a,o)∈K:=by
  induction K with
  | nil=>cases h
  | cons p K ih=>
    obtain ⟨b,u⟩:=p
    rw [D4] at h
    cases e:a == b with
    | true=>
      rw [e] at h
      have:a=b:=by simpa using e
      subst this
      cases h
      exact D1
    | false=>
      rw [e] at h
      exact O6 _ (ih h)
theorem noL_no {K:PySem.W.Frag} {a:Addr} {o:Obj} {its:Array Value} {n:Nat} (hL:noL K=true) (h:K.lookup a=some o) (hc:o.cls=.type "list") (hd:o.data=.seq its n):False:=by
  have:=F6.mp hL _ (lookup_mem h)
  simp [hc,hd] at this
theorem repL_ints {H:Hp} {ρ:Tk}:∀ ns:List Int,RepL H ρ (ns.map .int) (ns.map V.int)
  | []=>rfl
  | n :: ns=>⟨_,_,rfl,rfl,repL_ints ns⟩
theorem rel_nil (H:Hp):Rel H Tk.nil []:=⟨rfl,List.nodup_nil,fun a h=>(by cases h),fun a h=>(by cases h),fun i a c h=>(by simp [Tk.nil] at h)⟩
def spLawS (K:PySem.W.Frag):Sp:=fun vs H Q _=>∃ (a:Addr) (ns:List Int),vs=[.ref a]/\SqL K H a (ns.map V.int)/\ns.length<=63/\∀ H',Q (.bl true) H'
theorem law_imp {P:Program} {w:World} {K:PySem.W.Frag} {mg:Str->Option Value} {base:Heap} {CX:CXT} {k:Nat} {f:Addr} {fd:FuncData} {ps:List Str} {FL:FN} (hL:noL K=true) (F:FnOk P w K mg base CX k f fd ps (spF mg 1 FL)) (hlaw:∀ ns:List Int,ns.length<=63->∃ st',FL [.fro (ns.map .int)] []=.ok (.bl true) st'):FnOk P w K mg base CX k f fd ps (spLawS K):=F.imp fun vs H Q E ⟨a,ns,e,hS,hl,hQ⟩=>by
  subst e
  obtain ⟨st',hF⟩:=hlaw ns hl
  have hR:Rd H a (.lst (ns.map V.int)):=by
    rcases hS with h | ⟨o,its,n,h1,h2,h3,h4,_⟩
    · exact h
    · exact (noL_no hL h1 h2 h4).elim
  refine ⟨rfl,Tk.nil,[],[.fro (ns.map .int)],rel_nil H,⟨_,_,rfl,⟨a,_,rfl,hR,Tk.not_nil a,repL_ints ns⟩,rfl⟩,?_⟩
  rw [hF]
  intro H' ρ' x R v r
  have e:v=.bl true:=r
  subst e
  exact hQ H'
theorem cxd_none {P:Program} {w:World} {H:Hp} {s:Shared} {e:Value} {s':Shared} (h:CXD P w [] H s (fun _ _ _=>False) e s'):False:=by
  obtain ⟨_,_,_,_,_,_,_,_,_,z⟩:=h
  exact z
theorem walkS {l:PySem.W.OpenLaw} {k:Nat} {q:Program} {loose:List Str} {XP:(Str->Option Value)->Heap->Prop} {YP:World->Heap->Prop} {d:DefRec} {K:Params->PySem.W.Frag} (hn:l.most=some 63) (hr:Room k callerA) (hdf:d.params.defaults=[])
    (hY:∀ (w:World) (h:Heap),YP w h->(K w.params).In h)
    (F:∀ (w:World) (mg:Str->Option Value) (fa:Addr) (h:Heap),(K w.params).In h->h.Ns mainGlobals mg->mg d.name=some (.ref fa) ->
      ∃ fd:FuncData,(∀ (s:Shared) (u:Value),BindsTo s fd ⟨[u],[]⟩ [("script",u)])/\∀ base:Heap,(K w.params).In base->base.Ns mainGlobals mg->FnOk l.prog w (K w.params) mg base (CXD l.prog w) k fa fd ["script"] (spLawS (K w.params))) :
    PySem.W.WalkO q loose XP YP l.row.toRowW d [] (fun f vs=>PySem.call f vs):=
  L2.walk_of (n:=63) (k:=k) (x := "script") (CX:=fun w=>CXD l.prog w) (sp:=fun w=>spLawS (K w.params)) hn (by decide) hdf hr hY F (fun _ _ a ns hl _ hS=>⟨a,ns,rfl,hS,hl,fun _=>rfl⟩) fun _ _ _ _ _ z=>cxd_none z
end Sm
namespace Lw
open PySem PySem.Spec L2 Sm
def top (i:Nat):Stmt:=PySem.Challenge.pw_lendwharf_k16_houses_refuse.main.body.getD i (.Pass ⟨0,0,0,0⟩)
abbrev s__wall:Stmt:=top 0
abbrev s_is_whole:Stmt:=top 18
abbrev s_is_between:Stmt:=top 19
abbrev s_is_row:Stmt:=top 22
abbrev s_is_table:Stmt:=top 23
abbrev s_is_house:Stmt:=top 24
abbrev s_rights:Stmt:=top 25
abbrev W1:Stmt:=top 27
abbrev X7:Stmt:=top 28
abbrev s_joined_row:Stmt:=top 29
abbrev s_joined:Stmt:=top 30
abbrev W2:Stmt:=top 33
abbrev s_is_deed:Stmt:=top 34
abbrev Yz:Stmt:=top 35
abbrev Xm:Stmt:=top 36
abbrev s_raised:Stmt:=top 37
abbrev s_done:Stmt:=top 38
abbrev s_made_some:Stmt:=top 40
abbrev Wp:Stmt:=top 41
abbrev X5:Stmt:=top 42
abbrev s_has_root:Stmt:=top 43
abbrev X6:Stmt:=top 44
abbrev Vk:Stmt:=top 45
abbrev s_comes_about:Stmt:=top 46
abbrev Vm:Stmt:=top 47
abbrev V6:Stmt:=top 48
abbrev Ue:Stmt:=Vv (top 50) 0
abbrev s_House_make:Stmt:=Vv (top 50) 1
abbrev s_House_lend:Stmt:=Vv (top 50) 2
abbrev s_House_use:Stmt:=Vv (top 50) 3
abbrev s_House_keep:Stmt:=Vv (top 50) 4
abbrev s_House_fall:Stmt:=Vv (top 50) 5
abbrev Xt:Stmt:=Vv (top 50) 6
abbrev s_House_come:Stmt:=Vv (top 50) 7
abbrev s_House_table:Stmt:=Vv (top 50) 8
abbrev Xs:Stmt:=Vv (top 50) 9
abbrev s_House_used:Stmt:=Vv (top 50) 10
abbrev s__law_acell:Stmt:=top 52
abbrev s__law_atape:Stmt:=top 53
abbrev s__law_adigit:Stmt:=top 54
abbrev Xn:Stmt:=top 55
abbrev s__law_abare:Stmt:=top 56
abbrev Xp:Stmt:=top 57
abbrev s__law_amuch:Stmt:=top 58
abbrev s__law_atable:Stmt:=top 59
abbrev s__law_abegun:Stmt:=top 60
abbrev Xq:Stmt:=top 61
abbrev s__law_akind:Stmt:=top 62
abbrev Xr:Stmt:=top 63
abbrev Ud:Stmt:=top 64
abbrev s__law_atold:Stmt:=top 65
abbrev s_law:Stmt:=top 66
structure Txt (mg:Str->Option Value):Prop where
  b_all:mg "all" = none
  b_any:mg "any" = none
  b_bool:mg "bool" = none
  b_int:mg "int" = none
  b_isinstance:mg "isinstance" = none
  b_len:mg "len" = none
  b_max:mg "max" = none
  b_min:mg "min" = none
  b_range:mg "range" = none
  b_str:mg "str" = none
  b_sum:mg "sum" = none
  b_tuple:mg "tuple" = none
  b_zip:mg "zip" = none
  c_MOST_HOUSES:∃ t,mg "MOST_HOUSES" = some (.int 8 t)
structure ClsT (K:PySem.W.Frag) (C:Addr):Prop where
  cl:Cls K C
  n_number:NoAttr K C "number"
  n_now:NoAttr K C "now"
  n_kept:NoAttr K C "kept"
def clsBody:Stmt->List Stmt
  | .ClassDef _ _ _ b _ _ _ _ _ _ _=>b
  | _=>[]
abbrev sInit:Stmt:=(clsBody (top 16)).getD 0 (.Pass ⟨0,0,0,0⟩)
structure ShortOk (K:PySem.W.Frag) (mg:Str->Option Value) (c0 cs fI:Addr):Prop where
  m0:mg "WharfError" = some (.ref c0)
  ms:mg "Short" = some (.ref cs)
  M:XMade K cs c0 fI
  L:XCall K c0
  S:XSet K cs c0 "had"
structure ShortS (P:Program) (w:World) (K:PySem.W.Frag) (mg:Str->Option Value) (base:Heap):Prop where
  ex:∃ (C W f:Addr) (fd:FuncData),XMade K C W f/\FnOk P w K mg base CX0 1 f fd ["self", "had"] (spInit C "had")/\Binds K fd ["self", "had"] []/\mg "Short" = some (.ref C)
section
variable {P:Program} {w:World} {K:PySem.W.Frag} {mg:Str->Option Value} {base:Heap}
theorem scInit:FnScope ["self", "had"] ["self", "had"] (Q9 sInit):=⟨rfl,rfl,rfl,by decide +kernel,rfl,by decide +kernel,by decide +kernel⟩
theorem ok_init {f c0 cs:Addr} {fd:FuncData} (F:Fun K "__init__" "Short.__init__" sInit f fd) (O:ShortOk K mg c0 cs f):FnOk P w K mg base CX0 1 f fd ["self", "had"] (spInit cs "had"):=by
  refine F.ok scInit (fun vs H Q E h=>?_) (fun cdv A outer s H vs Q E hr h=>?_)
  · obtain ⟨x,v,rfl,_⟩:=h
    rfl
  · obtain ⟨x,v,rfl,hx,kk⟩:=h
    refine ⟨_,pss_cons (ps_expr (pe_xinit O.M O.L (by rfl) O.m0 (Qx (pv 0) (Qx pe_str Z6))))
      (pss_one (ps_xset (fun b z=>absurd (show b∈([]:List Addr) from z) (by simp)) O.S (pv 0) (pv 1))),?_⟩
    exact ⟨_,rfl,x,_,rfl,hx,_,rfl,_,rfl,x,rfl,hx,kk⟩
end
section
variable {P:Program} {w:World} {K:PySem.W.Frag} {mg:Str->Option Value} {base:Heap}
def b__wall_1:MS:=Zi
def w__wall_1:MT:=(toB (mC (.bl true)))
def m__wall:MS:=(X4 w__wall_1 b__wall_1 100000)
def F__wall:FN:=Qn m__wall 1
theorem sc__wall:FnScope ["k"] ["k"] (Q9 s__wall):=⟨rfl,rfl,rfl,by decide +kernel,rfl,by decide +kernel,by decide +kernel⟩
theorem ok__wall {f:Addr} {fd:FuncData} (F:Fun K "_wall" "_wall" s__wall f fd) (T:Txt mg)   : FnOk P w K mg base (CXD P w) 1 f fd ["k"] (spF mg 1 F__wall):=by
  refine Qz (k:=0) (m:=m__wall) F sc__wall rfl rfl rfl fun cdv A outer s H E hr=>?_
  exact (Qh (ss_while 100000 PassesOwn.leaving (V5 se_bl) (Qh ss_pass)))
def m_is_whole:MS:=(Z1 (mAnd (mIsI "int" (Q5 0)) (mNot (mIsI "bool" (Q5 0)))))
def Yn:FN:=Qn m_is_whole 1
theorem sc_is_whole:FnScope ["thing"] ["thing"] (Q9 s_is_whole):=⟨rfl,rfl,rfl,by decide +kernel,rfl,by decide +kernel,by decide +kernel⟩
theorem ok_is_whole {f:Addr} {fd:FuncData} (F:Fun K "is_whole" "is_whole" s_is_whole f fd) (T:Txt mg)   : FnOk P w K mg base (CXD P w) 1 f fd ["thing"] (spF mg 1 Yn):=by
  refine Qz (k:=0) (m:=m_is_whole) F sc_is_whole rfl rfl rfl fun cdv A outer s H E hr=>?_
  exact (Qh (Qy (se_and (se_isi (T := "int") (by decide) (Q1 0) rfl T.b_isinstance rfl T.b_int boot_int) (se_one (se_not (se_isi (T := "bool") (by decide) (Q1 0) rfl T.b_isinstance rfl T.b_bool boot_bool))))))
def m_is_between:MS:=(Z1 (mAnd (Qi 1 Yn (Q2 (Q5 0) Q8)) (mChain (oI fun a b=>.bl (decide (a<=b))) (oI fun a b=>.bl (decide (a<=b))) (Q5 1) (Q5 0) (Q5 2))))
def U5:FN:=Qn m_is_between 3
theorem sc_is_between:FnScope ["thing", "least", "most"] ["thing", "least", "most"] (Q9 s_is_between):=⟨rfl,rfl,rfl,by decide +kernel,rfl,by decide +kernel,by decide +kernel⟩
theorem ok_is_between {f:Addr} {fd:FuncData} (F:Fun K "is_between" "is_between" s_is_between f fd) (T:Txt mg)  (D_is_whole:DefS P w K mg base 1 "is_whole" 1 Yn):FnOk P w K mg base (CXD P w) 2 f fd ["thing", "least", "most"] (spF mg 3 U5):=by
  refine Qz (k:=1) (m:=m_is_between) F sc_is_between rfl rfl rfl fun cdv A outer s H E hr=>?_
  exact (Qh (Qy (se_and (Qf D_is_whole (hr.mono (by decide)) Qa rfl (Q0 (Q1 0) Q6)) (se_one (se_chain os_le os_le (Q1 1) (Q1 0) (Q1 2))))))
def e_is_row_1:ME:=(mAnd (Qi 1 Yn (Q2 (Q5 0) Q8)) (mOp (oI fun a b=>.bl (decide (b<=a))) (Q5 0) (mC (.int 0))))
def m_is_row : MS := (Qm (Yw (tOrM (tNotM (toB (mIsI "tuple" (Q5 0)))) (toB (mOp oNe (Ja Yh (Q2 (Q5 0) Q8)) (mOp Js (Q5 1) (mC (.int 1)))))) (Z1 (mC (.bl false))) Zi)
    (Z1 (Ja (cBls fun ns=>.bl (ns.all id)) (Q2 (Xa (Za [none] (Qp 0) (mSeq (Q5 0)) Zc e_is_row_1)) Q8))))
def F_is_row:FN:=Qn m_is_row 2
theorem sc_is_row:FnScope ["thing", "n"] ["thing", "n"] (Q9 s_is_row):=⟨rfl,rfl,rfl,by decide +kernel,rfl,by decide +kernel,by decide +kernel⟩
theorem ok_is_row {f:Addr} {fd:FuncData} (F:Fun K "is_row" "is_row" s_is_row f fd) (T:Txt mg)  (D_is_whole:DefS P w K mg base 1 "is_whole" 1 Yn):FnOk P w K mg base (CXD P w) 2 f fd ["thing", "n"] (spF mg 2 F_is_row):=by
  refine Qz (k:=1) (m:=m_is_row) F sc_is_row rfl rfl rfl fun cdv A outer s H E hr=>?_
  exact (Qc (Zh (SimW.t (sw_or (Xi (V5 (se_isi (T := "tuple") (by decide) (Q1 0) rfl T.b_isinstance rfl T.b_tuple Ym))) (sw_or1 (Jk (os_ne hr.units) (Qv Y3 rfl T.b_len PySem.boot_len (Q0 (Q1 0) Q6)) (J0 J4 (Q1 1) Qb))))) (Qh (Qy se_bl)) Z4)
    (Qh (Qy (Qv (cs_all rfl) rfl T.b_all boot_all (Q0 (W9 (Zx [none] ["part"] rfl (Xj (Q1 0)) (fun _ _ _ _ _=>(J7 (i:=0) (show (["part"]:List Str).Nodup by decide +kernel))) (fun _ _ _ _ _=>(se_and (Qf D_is_whole (hr.mono (by decide)) pass00D rfl (Q0 (Q1 0) Q6)) (se_one (se_cmp os_ge (Q1 0) Qb)))) (fun _ _ _ _ _=>We) Jw)) Q6)))))
def e_is_table_1:ME:=(Qi 2 F_is_row (Q2 (Q5 0) (Q2 (Ja Yh (Q2 (Q5 1) Q8)) Q8)))
def m_is_table : MS := (Qm (Yw (tOrM (tNotM (toB (mIsI "tuple" (Q5 0)))) (tNotM (toB (mChain (oI fun a b => .bl (decide (a <= b))) (oI fun a b => .bl (decide (a <= b))) (mC (.int 1)) (Ja Yh (Q2 (Q5 0) Q8)) (mC (.int 8)))))) (Z1 (mC (.bl false))) Zi)
    (Z1 (Ja (cBls fun ns=>.bl (ns.all id)) (Q2 (Xa (Za [none,some 0] (Qp 0) (mSeq (Q5 0)) Zc e_is_table_1)) Q8))))
def F_is_table:FN:=Qn m_is_table 1
theorem sc_is_table:FnScope ["thing"] ["thing"] (Q9 s_is_table):=⟨rfl,rfl,rfl,by decide +kernel,rfl,by decide +kernel,by decide +kernel⟩
theorem ok_is_table {f:Addr} {fd:FuncData} (F:Fun K "is_table" "is_table" s_is_table f fd) (T:Txt mg)  (D_is_row:DefS P w K mg base 2 "is_row" 2 F_is_row):FnOk P w K mg base (CXD P w) 3 f fd ["thing"] (spF mg 1 F_is_table):=by
  refine Qz (k:=2) (m:=m_is_table) F sc_is_table rfl rfl rfl fun cdv A outer s H E hr=>?_
  exact (Qc (Zh (SimW.t (sw_or (Xi (V5 (se_isi (T := "tuple") (by decide) (Q1 0) rfl T.b_isinstance rfl T.b_tuple Ym))) (sw_or1 (Xi (st_chain os_le os_le Qb (Qv Y3 rfl T.b_len PySem.boot_len (Q0 (Q1 0) Q6)) (se_gint rfl T.c_MOST_HOUSES.choose_spec)))))) (Qh (Qy se_bl)) Z4)
    (Qh (Qy (Qv (cs_all rfl) rfl T.b_all boot_all (Q0 (W9 (Zx [none,some 0] ["row", "thing"] rfl (Xj (Q1 0)) (fun _ _ _ _ _=>(J7 (i:=0) (show (["row", "thing"]:List Str).Nodup by decide +kernel))) (fun _ _ _ _ _=>(Qf D_is_row (hr.mono (by decide)) pass00D rfl (Q0 (Q1 0) (Q0 (Qv Y3 rfl T.b_len PySem.boot_len (Q0 (Q1 1) Q6)) Q6)))) (fun _ _ _ _ _=>We) Jw)) Q6)))))
def m_is_house:MS:=(Z1 (Qi 3 U5 (Q2 (Q5 1) (Q2 (mC (.int 0)) (Q2 (mOp (oI fun a b=>.int (a - b)) (Ja Yh (Q2 (Q5 0) Q8)) (mC (.int 1))) Q8)))))
def Zb:FN:=Qn m_is_house 2
theorem sc_is_house:FnScope ["table", "thing"] ["table", "thing"] (Q9 s_is_house):=⟨rfl,rfl,rfl,by decide +kernel,rfl,by decide +kernel,by decide +kernel⟩
theorem ok_is_house {f:Addr} {fd:FuncData} (F:Fun K "is_house" "is_house" s_is_house f fd) (T:Txt mg)  (D_is_between:DefS P w K mg base 2 "is_between" 3 U5):FnOk P w K mg base (CXD P w) 3 f fd ["table", "thing"] (spF mg 2 Zb):=by
  refine Qz (k:=2) (m:=m_is_house) F sc_is_house rfl rfl rfl fun cdv A outer s H E hr=>?_
  exact (Qh (Qy (Qf D_is_between (hr.mono (by decide)) Qa rfl (Q0 (Q1 1) (Q0 Qb (Q0 (J0 os_sub (Qv Y3 rfl T.b_len PySem.boot_len (Q0 (Q1 0) Q6)) Qb) Q6))))))
def e_rights_1:ME:=(mOp oIx (Q5 0) (Q5 1))
def m_rights : MS := (Qm (Yw (tNotM (toB (Qi 2 Zb (Q2 (Q5 0) (Q2 (Q5 1) Q8))))) (mRaise "NoHouse" (mC (.str "no house of this table"))) Zi)
    (Qm (Jc 2 (Ja (U2 fun ns=>some (.int ns.sum)) (Q2 (Xa (Za [none,some 1] (Qp 0) (mSeq (Q5 0)) Zc e_rights_1)) Q8)))
    (Qm (Jc 3 (mOp oIx (Q5 0) (Q5 1)))
    (Qm (Jc 4 (mOp (oI fun a b=>.int (a - b)) (Ja (U2 fun ns=>some (.int ns.sum)) (Q2 (Q5 3) Q8)) (mOp oIx (Q5 3) (Q5 1))))
    (Z1 (mOp (oI fun a b=>.int (a - b)) (Q5 2) (Q5 4)))))))
def V0:FN:=Qn m_rights 5
theorem sc_rights:FnScope ["table", "house", "gained", "own", "spent"] ["table", "house"] (Q9 s_rights):=⟨rfl,rfl,rfl,by decide +kernel,rfl,by decide +kernel,by decide +kernel⟩
theorem ok_rights {f:Addr} {fd:FuncData} (F:Fun K "rights" "rights" s_rights f fd) (T:Txt mg) (C_NoHouse:∃ C,mg "NoHouse" = some (.ref C)/\PySem.W.excIn K C Ua "ValueError.__new__" = true) (D_is_house:DefS P w K mg base 3 "is_house" 2 Zb):FnOk P w K mg base (CXD P w) 4 f fd ["table", "house"] (spF mg 2 V0):=by
  refine Qz (k:=3) (m:=m_rights) F sc_rights rfl rfl rfl fun cdv A outer s H E hr=>?_
  exact (Qc (Zh (Xi (V5 (Qf D_is_house (hr.mono (by decide)) Qa rfl (Q0 (Q1 0) (Q0 (Q1 1) Q6))))) (Qh (Uv rfl Vn rfl C_NoHouse.choose_spec.1 C_NoHouse.choose_spec.2 J2)) Z4)
    (Qc (Qu 2 sc_rights.nd (Qv (cs_sum rfl) rfl T.b_sum boot_sum (Q0 (W9 (Zx [none,some 1] ["row", "house"] rfl (Xj (Q1 0)) (fun _ _ _ _ _=>(J7 (i:=0) (show (["row", "house"]:List Str).Nodup by decide +kernel))) (fun _ _ _ _ _=>(J8 (Q1 0) (Q1 1))) (fun _ _ _ _ _=>We) Jw)) Q6)))
    (Qc (Qu 3 sc_rights.nd (J8 (Q1 0) (Q1 1)))
    (Qc (Qu 4 sc_rights.nd (J0 os_sub (Qv (cs_sum rfl) rfl T.b_sum boot_sum (Q0 (Q1 3) Q6)) (J8 (Q1 3) (Q1 1))))
    (Qh (Qy (J0 os_sub (Q1 2) (Q1 4))))))))
def Zs:MS:=(Yw (toB (mOp oNe (Ja Yh (Q2 (Q5 0) Q8)) (Ja Yh (Q2 (Q5 1) Q8)))) (mRaise "NoTable" (mC (.str "the tables have unlike numbers of houses"))) Zi)
def J6:FN:=Qn Zs 2
theorem sc_need_as_many_houses:FnScope ["one", "other"] ["one", "other"] (Q9 W1):=⟨rfl,rfl,rfl,by decide +kernel,rfl,by decide +kernel,by decide +kernel⟩
theorem ok_need_as_many_houses {f:Addr} {fd:FuncData} (F:Fun K "need_as_many_houses" "need_as_many_houses" W1 f fd) (T:Txt mg) (C_NoTable:∃ C,mg "NoTable" = some (.ref C)/\PySem.W.excIn K C Ua "ValueError.__new__" = true)  : FnOk P w K mg base (CXD P w) 1 f fd ["one", "other"] (spF mg 2 J6):=by
  refine Qz (k:=0) (m:=Zs) F sc_need_as_many_houses rfl rfl rfl fun cdv A outer s H E hr=>?_
  exact (Qh (Zh (Jk (os_ne hr.units) (Qv Y3 rfl T.b_len PySem.boot_len (Q0 (Q1 0) Q6)) (Qv Y3 rfl T.b_len PySem.boot_len (Q0 (Q1 1) Q6))) (Qh (Uv rfl Vn rfl C_NoTable.choose_spec.1 C_NoTable.choose_spec.2 J2)) Z4))
def U0:ME:=(mOp (oI fun a b=>.bl (decide (a<=b))) (Q5 0) (Q5 1))
def X9:MS:=(Z1 (Ja (cBls fun ns=>.bl (ns.all id)) (Q2 (Xa (Za [none,none] (K3 (Jv (Qp 0) (Jv (Qp 1) K4))) (mZip (Q2 (Q5 0) (Q2 (Q5 1) Q8))) Zc U0)) Q8)))
def Yy:FN:=Qn X9 2
theorem sc_is_row_within:FnScope ["one", "other"] ["one", "other"] (Q9 X7):=⟨rfl,rfl,rfl,by decide +kernel,rfl,by decide +kernel,by decide +kernel⟩
theorem ok_is_row_within {f:Addr} {fd:FuncData} (F:Fun K "is_row_within" "is_row_within" X7 f fd) (T:Txt mg)   : FnOk P w K mg base (CXD P w) 1 f fd ["one", "other"] (spF mg 2 Yy):=by
  refine Qz (k:=0) (m:=X9) F sc_is_row_within rfl rfl rfl fun cdv A outer s H E hr=>?_
  exact (Qh (Qy (Qv (cs_all rfl) rfl T.b_all boot_all (Q0 (W9 (Zx [none,none] ["mine", "its"] rfl (si_zip rfl T.b_zip (Q0 (Q1 0) (Q0 (Q1 1) Q6))) (fun _ _ _ _ _=>(sg_tup rfl (Y9 (J7 (i:=0) (show (["mine", "its"]:List Str).Nodup by decide +kernel)) (Y9 (J7 (i:=1) (show (["mine", "its"]:List Str).Nodup by decide +kernel)) sgs_nil)))) (fun _ _ _ _ _=>(se_cmp os_le (Q1 0) (Q1 1))) (fun _ _ _ _ _=>We) (free_tup (Ve (Ve free_nil))))) Q6))))
def K5:ME:=(Ja cMax (Q2 (Q5 0) (Q2 (Q5 1) Q8)))
def m_joined_row:MS:=(Z1 (Ja V8 (Q2 (Xa (Za [none,none] (K3 (Jv (Qp 0) (Jv (Qp 1) K4))) (mZip (Q2 (Q5 0) (Q2 (Q5 1) Q8))) Zc K5)) Q8)))
def U4:FN:=Qn m_joined_row 2
theorem sc_joined_row:FnScope ["one", "other"] ["one", "other"] (Q9 s_joined_row):=⟨rfl,rfl,rfl,by decide +kernel,rfl,by decide +kernel,by decide +kernel⟩
theorem ok_joined_row {f:Addr} {fd:FuncData} (F:Fun K "joined_row" "joined_row" s_joined_row f fd) (T:Txt mg)   : FnOk P w K mg base (CXD P w) 1 f fd ["one", "other"] (spF mg 2 U4):=by
  refine Qz (k:=0) (m:=m_joined_row) F sc_joined_row rfl rfl rfl fun cdv A outer s H E hr=>?_
  exact (Qh (Qy (Xk cs_tuple rfl T.b_tuple Ym (Q0 (W9 (Zx [none,none] ["mine", "its"] rfl (si_zip rfl T.b_zip (Q0 (Q1 0) (Q0 (Q1 1) Q6))) (fun _ _ _ _ _=>(sg_tup rfl (Y9 (J7 (i:=0) (show (["mine", "its"]:List Str).Nodup by decide +kernel)) (Y9 (J7 (i:=1) (show (["mine", "its"]:List Str).Nodup by decide +kernel)) sgs_nil)))) (fun _ _ _ _ _=>(Qv (cs_max rfl) rfl T.b_max boot_max (Q0 (Q1 0) (Q0 (Q1 1) Q6)))) (fun _ _ _ _ _=>We) (free_tup (Ve (Ve free_nil))))) Q6))))
def e_joined_1:ME:=(Qi 2 U4 (Q2 (Q5 0) (Q2 (Q5 1) Q8)))
def m_joined : MS := (Qm (Wy (Qi 2 J6 (Q2 (Q5 0) (Q2 (Q5 1) Q8))))
    (Z1 (Ja V8 (Q2 (Xa (Za [none,none] (K3 (Jv (Qp 0) (Jv (Qp 1) K4))) (mZip (Q2 (Q5 0) (Q2 (Q5 1) Q8))) Zc e_joined_1)) Q8))))
def F_joined:FN:=Qn m_joined 2
theorem sc_joined:FnScope ["one", "other"] ["one", "other"] (Q9 s_joined):=⟨rfl,rfl,rfl,by decide +kernel,rfl,by decide +kernel,by decide +kernel⟩
theorem ok_joined {f:Addr} {fd:FuncData} (F:Fun K "joined" "joined" s_joined f fd) (T:Txt mg)  (D_need_as_many_houses:DefS P w K mg base 1 "need_as_many_houses" 2 J6) (D_joined_row:DefS P w K mg base 1 "joined_row" 2 U4):FnOk P w K mg base (CXD P w) 2 f fd ["one", "other"] (spF mg 2 F_joined):=by
  refine Qz (k:=1) (m:=m_joined) F sc_joined rfl rfl rfl fun cdv A outer s H E hr=>?_
  exact (Qc (Yj (Qf D_need_as_many_houses (hr.mono (by decide)) Qa rfl (Q0 (Q1 0) (Q0 (Q1 1) Q6))))
    (Qh (Qy (Xk cs_tuple rfl T.b_tuple Ym (Q0 (W9 (Zx [none,none] ["mine", "its"] rfl (si_zip rfl T.b_zip (Q0 (Q1 0) (Q0 (Q1 1) Q6))) (fun _ _ _ _ _=>(sg_tup rfl (Y9 (J7 (i:=0) (show (["mine", "its"]:List Str).Nodup by decide +kernel)) (Y9 (J7 (i:=1) (show (["mine", "its"]:List Str).Nodup by decide +kernel)) sgs_nil)))) (fun _ _ _ _ _=>(Qf D_joined_row (hr.mono (by decide)) pass00D rfl (Q0 (Q1 0) (Q0 (Q1 1) Q6)))) (fun _ _ _ _ _=>We) (free_tup (Ve (Ve free_nil))))) Q6)))))
def Yd:ME:=(Qi 1 Yn (Q2 (Q5 0) Q8))
def W3 : MS := (Qm (Yw (tOrM (tNotM (toB (mIsI "tuple" (Q5 0)))) (tOrM (toB (mOp oEq (Ja Yh (Q2 (Q5 0) Q8)) (mC (.int 0)))) (tNotM (toB (mIsI "str" (mOp oIx (Q5 0) (mC (.int 0)))))))) (Z1 (mC (.bl false))) Zi)
    (Z1 (Ja (cBls fun ns=>.bl (ns.all id)) (Q2 (Xa (Za [none] (Qp 0) (mSeq (mSl (Q5 0) (Yv (mC (.int 1))) Ze)) Zc Yd)) Q8))))
def J1:FN:=Qn W3 1
theorem sc_is_text_and_numbers:FnScope ["thing"] ["thing"] (Q9 W2):=⟨rfl,rfl,rfl,by decide +kernel,rfl,by decide +kernel,by decide +kernel⟩
theorem ok_is_text_and_numbers {f:Addr} {fd:FuncData} (F:Fun K "is_text_and_numbers" "is_text_and_numbers" W2 f fd) (T:Txt mg)  (D_is_whole:DefS P w K mg base 1 "is_whole" 1 Yn):FnOk P w K mg base (CXD P w) 2 f fd ["thing"] (spF mg 1 J1):=by
  refine Qz (k:=1) (m:=W3) F sc_is_text_and_numbers rfl rfl rfl fun cdv A outer s H E hr=>?_
  exact (Qc (Zh (SimW.t (sw_or (Xi (V5 (se_isi (T := "tuple") (by decide) (Q1 0) rfl T.b_isinstance rfl T.b_tuple Ym))) (sw_or (Jk (Uc hr.units) (Qv Y3 rfl T.b_len PySem.boot_len (Q0 (Q1 0) Q6)) Qb) (sw_or1 (Xi (V5 (se_isi (T := "str") (by decide) (J8 (Q1 0) Qb) rfl T.b_isinstance rfl T.b_str boot_str))))))) (Qh (Qy se_bl)) Z4)
    (Qh (Qy (Qv (cs_all rfl) rfl T.b_all boot_all (Q0 (W9 (Zx [none] ["part"] rfl (Xj (Yq (Q1 0) (Wf Qb) Vi)) (fun _ _ _ _ _=>(J7 (i:=0) (show (["part"]:List Str).Nodup by decide +kernel))) (fun _ _ _ _ _=>(Qf D_is_whole (hr.mono (by decide)) pass00D rfl (Q0 (Q1 0) Q6))) (fun _ _ _ _ _=>We) Jw)) Q6)))))
def Vb:MS:=(Z1 (mAnd (Qi 1 J1 (Q2 (Q5 0) Q8)) (mAnd (mOp oEq (Ja Yh (Q2 (Q5 0) Q8)) (mParts (mOp oIx (Q5 0) (mC (.int 0))))) (mOp (oI fun a b=>.bl (decide (b<=a))) (mOp oIx (Q5 0) (mNeg (mC (.int 1)))) (mC (.int 1))))))
def Z9:FN:=Qn Vb 1
theorem sc_is_deed:FnScope ["thing"] ["thing"] (Q9 s_is_deed):=⟨rfl,rfl,rfl,by decide +kernel,rfl,by decide +kernel,by decide +kernel⟩
theorem ok_is_deed {f:Addr} {fd:FuncData} (F:Fun K "is_deed" "is_deed" s_is_deed f fd) (T:Txt mg) (PK:PartsOk P w K mg)  (D_is_text_and_numbers:DefS P w K mg base 2 "is_text_and_numbers" 1 J1):FnOk P w K mg base (CXD P w) 3 f fd ["thing"] (spF mg 1 Z9):=by
  refine Qz (k:=2) (m:=Vb) F sc_is_deed rfl rfl rfl fun cdv A outer s H E hr=>?_
  exact (Qh (Qy (se_and (Qf D_is_text_and_numbers (hr.mono (by decide)) Qa rfl (Q0 (Q1 0) Q6)) (se_and (se_cmp (Uc hr.units) (Qv Y3 rfl T.b_len PySem.boot_len (Q0 (Q1 0) Q6)) (se_parts PK rfl (J8 (Q1 0) Qb))) (se_one (se_cmp os_ge (J8 (Q1 0) (se_neg Qb)) Qb))))))
def Jh:ME:=(Qi 2 Zb (Q2 (Q5 1) (Q2 (Q5 0) Q8)))
def Jp : MS := (Qm (Jc 2 (mSl (Q5 1) (Yv (mC (.int 1))) (Yv (mNeg (mC (.int 1))))))
    (Qm (Yw (tNotM (toB (Ja (cBls fun ns=>.bl (ns.all id)) (Q2 (Xa (Za [none,some 0] (Qp 0) (mSeq (Q5 2)) Zc Jh)) Q8)))) (mRaise "NoHouse" (mC (.str "no house of this table"))) Zi)
    (Yw (tAndM (toB (mOp oEq (mOp oIx (Q5 1) (mC (.int 0))) (mC (.str "lend")))) (toB (mOp oEq (mOp oIx (Q5 2) (mC (.int 0))) (mOp oIx (Q5 2) (mC (.int 1)))))) (mRaise "NoHouse" (mC (.str "a house lends nothing to itself"))) Zi)))
def J3:FN:=Qn Jp 3
theorem sc_need_houses_of_deed:FnScope ["table", "deed", "houses"] ["table", "deed"] (Q9 Yz):=⟨rfl,rfl,rfl,by decide +kernel,rfl,by decide +kernel,by decide +kernel⟩
theorem ok_need_houses_of_deed {f:Addr} {fd:FuncData} (F:Fun K "need_houses_of_deed" "need_houses_of_deed" Yz f fd) (T:Txt mg) (C_NoHouse:∃ C,mg "NoHouse" = some (.ref C)/\PySem.W.excIn K C Ua "ValueError.__new__" = true) (D_is_house:DefS P w K mg base 3 "is_house" 2 Zb):FnOk P w K mg base (CXD P w) 4 f fd ["table", "deed"] (spF mg 2 J3):=by
  refine Qz (k:=3) (m:=Jp) F sc_need_houses_of_deed rfl rfl rfl fun cdv A outer s H E hr=>?_
  exact (Qc (Qu 2 sc_need_houses_of_deed.nd (Yq (Q1 1) (Wf Qb) (Wf (se_neg Qb))))
    (Qc (Zh (Xi (V5 (Qv (cs_all rfl) rfl T.b_all boot_all (Q0 (W9 (Zx [none,some 0] ["house", "table"] rfl (Xj (Q1 2)) (fun _ _ _ _ _=>(J7 (i:=0) (show (["house", "table"]:List Str).Nodup by decide +kernel))) (fun _ _ _ _ _=>(Qf D_is_house (hr.mono (by decide)) pass00D rfl (Q0 (Q1 1) (Q0 (Q1 0) Q6)))) (fun _ _ _ _ _=>We) Jw)) Q6)))) (Qh (Uv rfl Vn rfl C_NoHouse.choose_spec.1 C_NoHouse.choose_spec.2 J2)) Z4)
    (Qh (Zh (SimW.t (sw_and (Jk (Uc hr.units) (J8 (Q1 1) Qb) J2) (sw_and1 (Jk (Uc hr.units) (J8 (Q1 2) Qb) (J8 (Q1 2) Qb))))) (Qh (Uv rfl Vn rfl C_NoHouse.choose_spec.1 C_NoHouse.choose_spec.2 J2)) Z4))))
def Wa : MS := (Qm (Yw (toB (mOp oEq (mOp oIx (Q5 1) (mC (.int 0))) (mC (.str "make")))) (Z1 (mOp oIx (Q5 1) (mC (.int 1)))) Zi)
    (Qm (Yw (toB (mOp oEq (mOp oIx (Q5 1) (mC (.int 0))) (mC (.str "lend")))) (Z1 (mOp oIx (Q5 1) (mC (.int 2)))) Zi)
    (Z1 (Ja Yh (Q2 (Q5 0) Q8)))))
def Zn:FN:=Qn Wa 2
theorem sc_place_in_row:FnScope ["table", "deed"] ["table", "deed"] (Q9 Xm):=⟨rfl,rfl,rfl,by decide +kernel,rfl,by decide +kernel,by decide +kernel⟩
theorem ok_place_in_row {f:Addr} {fd:FuncData} (F:Fun K "place_in_row" "place_in_row" Xm f fd) (T:Txt mg)   : FnOk P w K mg base (CXD P w) 1 f fd ["table", "deed"] (spF mg 2 Zn):=by
  refine Qz (k:=0) (m:=Wa) F sc_place_in_row rfl rfl rfl fun cdv A outer s H E hr=>?_
  exact (Qc (Zh (Jk (Uc hr.units) (J8 (Q1 1) Qb) J2) (Qh (Qy (J8 (Q1 1) Qb))) Z4)
    (Qc (Zh (Jk (Uc hr.units) (J8 (Q1 1) Qb) J2) (Qh (Qy (J8 (Q1 1) Qb))) Z4)
    (Qh (Qy (Qv Y3 rfl T.b_len PySem.boot_len (Q0 (Q1 0) Q6))))))
def m_raised : MS := (Qm (Jc 4 (mOp oIx (Q5 0) (Q5 1)))
    (Qm (Jc 5 (mOp Js (mOp Js (mSl (Q5 4) Ze (Yv (Q5 2))) (Ji (Q2 (mOp Js (mOp oIx (Q5 4) (Q5 2)) (Q5 3)) Q8))) (mSl (Q5 4) (Yv (mOp Js (Q5 2) (mC (.int 1)))) Ze)))
    (Z1 (mOp Js (mOp Js (mSl (Q5 0) Ze (Yv (Q5 1))) (Ji (Q2 (Q5 5) Q8))) (mSl (Q5 0) (Yv (mOp Js (Q5 1) (mC (.int 1)))) Ze)))))
def F_raised:FN:=Qn m_raised 6
theorem sc_raised:FnScope ["table", "house", "place", "k", "row", "higher"] ["table", "house", "place", "k"] (Q9 s_raised):=⟨rfl,rfl,rfl,by decide +kernel,rfl,by decide +kernel,by decide +kernel⟩
theorem ok_raised {f:Addr} {fd:FuncData} (F:Fun K "raised" "raised" s_raised f fd) (T:Txt mg)   : FnOk P w K mg base (CXD P w) 1 f fd ["table", "house", "place", "k"] (spF mg 4 F_raised):=by
  refine Qz (k:=0) (m:=m_raised) F sc_raised rfl rfl rfl fun cdv A outer s H E hr=>?_
  exact (Qc (Qu 4 sc_raised.nd (J8 (Q1 0) (Q1 1)))
    (Qc (Qu 5 sc_raised.nd (J0 J4 (J0 J4 (Yq (Q1 4) Vi (Wf (Q1 2))) (Jb (Q0 (J0 J4 (J8 (Q1 4) (Q1 2)) (Q1 3)) Q6))) (Yq (Q1 4) (Wf (J0 J4 (Q1 2) Qb)) Vi)))
    (Qh (Qy (J0 J4 (J0 J4 (Yq (Q1 0) Vi (Wf (Q1 1))) (Jb (Q0 (Q1 5) Q6))) (Yq (Q1 0) (Wf (J0 J4 (Q1 1) Qb)) Vi))))))
def m_done : MS := (Qm (Yw (tNotM (toB (Qi 1 Z9 (Q2 (Q5 1) Q8)))) (mRaise "NoDeed" (mC (.str "neither a making nor a lending nor a using of one right or more"))) Zi)
    (Qm (Wy (Qi 2 J3 (Q2 (Q5 0) (Q2 (Q5 1) Q8))))
    (Qm (Jc 2 (mOp oIx (Q5 1) (mC (.int 1))))
    (Qm (Jc 3 (mOp oIx (Q5 1) (mNeg (mC (.int 1)))))
    (Qm (Yw (toB (mOp oNe (mOp oIx (Q5 1) (mC (.int 0))) (mC (.str "make")))) (Qm (Jc 4 (Qi 2 V0 (Q2 (Q5 0) (Q2 (Q5 2) Q8))))
    (Yw (toB (mOp oLt (Q5 4) (Q5 3))) (mRaiseI "Short" "had" (Q5 4)) Zi)) Zi)
    (Z1 (Qi 4 F_raised (Q2 (Q5 0) (Q2 (Q5 2) (Q2 (Qi 2 Zn (Q2 (Q5 0) (Q2 (Q5 1) Q8))) (Q2 (Q5 3) Q8)))))))))))
def Wu:FN:=Qn m_done 5
theorem sc_done:FnScope ["table", "deed", "house", "k", "had"] ["table", "deed"] (Q9 s_done):=⟨rfl,rfl,rfl,by decide +kernel,rfl,by decide +kernel,by decide +kernel⟩
theorem ok_done {f:Addr} {fd:FuncData} (F:Fun K "done" "done" s_done f fd) (T:Txt mg) (O_Short:ShortS P w K mg base) (C_NoDeed:∃ C,mg "NoDeed" = some (.ref C)/\PySem.W.excIn K C Ua "ValueError.__new__" = true) (D_is_deed:DefS P w K mg base 3 "is_deed" 1 Z9) (D_need_houses_of_deed:DefS P w K mg base 4 "need_houses_of_deed" 2 J3) (D_rights_tables:DefS P w K mg base 4 "rights_tables" 2 V0) (D_raised:DefS P w K mg base 1 "raised" 4 F_raised) (D_place_in_row:DefS P w K mg base 1 "place_in_row" 2 Zn):FnOk P w K mg base (CXD P w) 5 f fd ["table", "deed"] (spF mg 2 Wu):=by
  obtain ⟨cShort,wShort,fShort,fdShort,MShort,IShort,bShort,mShort⟩:=O_Short.ex
  refine Qz (k:=4) (m:=m_done) F sc_done rfl rfl rfl fun cdv A outer s H E hr=>?_
  exact (Qc (Zh (Xi (V5 (Qf D_is_deed (hr.mono (by decide)) Qa rfl (Q0 (Q1 1) Q6)))) (Qh (Uv rfl Vn rfl C_NoDeed.choose_spec.1 C_NoDeed.choose_spec.2 J2)) Z4)
    (Qc (Yj (Qf D_need_houses_of_deed (hr.mono (by decide)) Qa rfl (Q0 (Q1 0) (Q0 (Q1 1) Q6))))
    (Qc (Qu 2 sc_done.nd (J8 (Q1 1) Qb))
    (Qc (Qu 3 sc_done.nd (J8 (Q1 1) (se_neg Qb)))
    (Qc (Zh (Jk (os_ne hr.units) (J8 (Q1 1) Qb) J2) (Qc (Qu 4 sc_done.nd (Qf D_rights_tables (hr.mono (by decide)) Qa rfl (Q0 (Q1 0) (Q0 (Q1 2) Q6))))
    (Qh (Zh (Jk (os_lt hr.units) (Q1 4) (Q1 3)) (Qh (ss_raiseI rfl Vn MShort IShort (hr.mono (by decide)) bShort rfl mShort (Q1 4))) Z4))) Z4)
    (Qh (Qy (Qf D_raised (hr.mono (by decide)) Qa rfl (Q0 (Q1 0) (Q0 (Q1 2) (Q0 (Qf D_place_in_row (hr.mono (by decide)) Qa rfl (Q0 (Q1 0) (Q0 (Q1 1) Q6))) (Q0 (Q1 3) Q6))))))))))))
def m_made_some:MS:=(Z1 (mOp (oI fun a b=>.bl (decide (b < a))) (mOp oIx (mOp oIx (Q5 0) (Q5 1)) (Q5 1)) (mC (.int 0))))
def X2:FN:=Qn m_made_some 2
theorem sc_made_some:FnScope ["table", "house"] ["table", "house"] (Q9 s_made_some):=⟨rfl,rfl,rfl,by decide +kernel,rfl,by decide +kernel,by decide +kernel⟩
theorem ok_made_some {f:Addr} {fd:FuncData} (F:Fun K "made_some" "made_some" s_made_some f fd) (T:Txt mg)   : FnOk P w K mg base (CXD P w) 1 f fd ["table", "house"] (spF mg 2 X2):=by
  refine Qz (k:=0) (m:=m_made_some) F sc_made_some rfl rfl rfl fun cdv A outer s H E hr=>?_
  exact (Qh (Qy (se_cmp os_gt (J8 (J8 (Q1 0) (Q1 1)) (Q1 1)) Qb)))
def Wq : MS := (Qm (Jc 2 (mOp oIx (Q5 0) (Q5 1)))
    (Z1 (mOp (oI fun a b=>.bl (decide (b < a))) (Ja (U2 fun ns=>some (.int ns.sum)) (Q2 (Q5 2) Q8)) (mOp oIx (Q5 2) (Q5 1)))))
def Zd:FN:=Qn Wq 3
theorem sc_lent_or_used_some:FnScope ["table", "house", "row"] ["table", "house"] (Q9 Wp):=⟨rfl,rfl,rfl,by decide +kernel,rfl,by decide +kernel,by decide +kernel⟩
theorem ok_lent_or_used_some {f:Addr} {fd:FuncData} (F:Fun K "lent_or_used_some" "lent_or_used_some" Wp f fd) (T:Txt mg)   : FnOk P w K mg base (CXD P w) 1 f fd ["table", "house"] (spF mg 2 Zd):=by
  refine Qz (k:=0) (m:=Wq) F sc_lent_or_used_some rfl rfl rfl fun cdv A outer s H E hr=>?_
  exact (Qc (Qu 2 sc_lent_or_used_some.nd (J8 (Q1 0) (Q1 1)))
    (Qh (Qy (se_cmp os_gt (Qv (cs_sum rfl) rfl T.b_sum boot_sum (Q0 (Q1 2) Q6)) (J8 (Q1 2) (Q1 1))))))
def Vx:ME:=(mOp (oI fun a b=>.bl (decide (b < a))) (mOp oIx (mOp oIx (Q5 2) (Q5 0)) (Q5 1)) (mC (.int 0)))
def Vg:MT:=(toB (mOp oNe (Q5 0) (Q5 1)))
def X8:MS:=(Z1 (Ja (cBls fun ns=>.bl (ns.any id)) (Q2 (Xa (Za [none,some 1,some 0] (Qp 0) (mSeq (Q5 2)) Vg Vx)) Q8)))
def Yx:FN:=Qn X8 3
theorem sc_was_lent_some:FnScope ["table", "house", "lenders"] ["table", "house", "lenders"] (Q9 X5):=⟨rfl,rfl,rfl,by decide +kernel,rfl,by decide +kernel,by decide +kernel⟩
theorem ok_was_lent_some {f:Addr} {fd:FuncData} (F:Fun K "was_lent_some" "was_lent_some" X5 f fd) (T:Txt mg)   : FnOk P w K mg base (CXD P w) 1 f fd ["table", "house", "lenders"] (spF mg 3 Yx):=by
  refine Qz (k:=0) (m:=X8) F sc_was_lent_some rfl rfl rfl fun cdv A outer s H E hr=>?_
  exact (Qh (Qy (Qv (cs_any rfl) rfl T.b_any boot_any (Q0 (W9 (Zx [none,some 1,some 0] ["lender", "house", "table"] rfl (Xj (Q1 2)) (fun _ _ _ _ _=>(J7 (i:=0) (show (["lender", "house", "table"]:List Str).Nodup by decide +kernel))) (fun _ _ _ _ _=>(se_cmp os_gt (J8 (J8 (Q1 2) (Q1 0)) (Q1 1)) Qb)) (fun _ _ _ _ _=>(sts_one (Jk (os_ne hr.units) (Q1 0) (Q1 1)))) Jw)) Q6))))
def m_has_root:MS:=(Z1 (mOr (Qi 2 X2 (Q2 (Q5 0) (Q2 (Q5 1) Q8))) (Qi 3 Yx (Q2 (Q5 0) (Q2 (Q5 1) (Q2 (Q5 2) Q8))))))
def Um:FN:=Qn m_has_root 3
theorem sc_has_root:FnScope ["table", "house", "ahead"] ["table", "house", "ahead"] (Q9 s_has_root):=⟨rfl,rfl,rfl,by decide +kernel,rfl,by decide +kernel,by decide +kernel⟩
theorem ok_has_root {f:Addr} {fd:FuncData} (F:Fun K "has_root" "has_root" s_has_root f fd) (T:Txt mg)  (D_made_some:DefS P w K mg base 1 "made_some" 2 X2) (D_was_lent_some:DefS P w K mg base 1 "was_lent_some" 3 Yx):FnOk P w K mg base (CXD P w) 2 f fd ["table", "house", "ahead"] (spF mg 3 Um):=by
  refine Qz (k:=1) (m:=m_has_root) F sc_has_root rfl rfl rfl fun cdv A outer s H E hr=>?_
  exact (Qh (Qy (se_or (Qf D_made_some (hr.mono (by decide)) Qa rfl (Q0 (Q1 0) (Q0 (Q1 1) Q6))) (se_one (Qf D_was_lent_some (hr.mono (by decide)) Qa rfl (Q0 (Q1 0) (Q0 (Q1 1) (Q0 (Q1 2) Q6))))))))
def Vz:ME:=(Q5 0)
def W5:MT:=(toB (mOp (oIn true) (Q5 0) (Q5 1)))
def Vy:ME:=(Q5 0)
def Vh:MT:=(toB (Qi 3 Um (Q2 (Q5 1) (Q2 (Q5 0) (Q2 (Q5 2) Q8)))))
def W8 : MS := (Qm (Jc 3 (Xa (Za [none, some 1] (Qp 0) (Wj (Q2 (Ja Yh (Q2 (Q5 0) Q8)) Q8)) W5 Vz)))
    (Qm (Jc 4 (Xa (Za [none,some 0,some 1] (Qp 0) (mSeq (Q5 3)) Vh Vy)))
    (Qm (Wy (mBM mtExtend (Q5 1) (Q2 (Q5 4) Q8)))
    (Jc 2 (mOp (oI fun a b=>.bl (decide (b < a))) (Ja Yh (Q2 (Q5 4) Q8)) (mC (.int 0)))))))
def Z7:MT:=(toB (Q5 2))
def Yu : MS := (Qm (Jc 1 (mTrk (mLstN Q8)))
    (Qm (Jc 2 (mC (.bl true)))
    (Qm (X4 Z7 W8 100000)
    (Z1 (Q5 1)))))
def Zv:FN:=Qn Yu 5
theorem sc_rooted_houses:FnScope ["table", "roots", "grows", "others", "found"] ["table"] (Q9 X6):=⟨rfl,rfl,rfl,by decide +kernel,rfl,by decide +kernel,by decide +kernel⟩
theorem ok_rooted_houses {f:Addr} {fd:FuncData} (F:Fun K "rooted_houses" "rooted_houses" X6 f fd) (T:Txt mg)  (D_has_root:DefS P w K mg base 2 "has_root" 3 Um):FnOk P w K mg base (CXD P w) 3 f fd ["table"] (spF mg 1 Zv):=by
  refine Qz (k:=2) (m:=Yu) F sc_rooted_houses rfl rfl rfl fun cdv A outer s H E hr=>?_
  exact (Qc (Qu 1 sc_rooted_houses.nd (se_trk (sn_lst Q6)))
    (Qc (Qu 2 sc_rooted_houses.nd se_bl)
    (Qc (ss_while 100000 PassesOwn.leaving (V5 (Q1 2)) (Qc (by first | exact ss_compV [none,some 1] ["house", "roots"] 3 sc_rooted_houses.nd rfl (Wg rfl T.b_range (Q0 (Qv Y3 rfl T.b_len PySem.boot_len (Q0 (Q1 0) Q6)) Q6)) (fun _ _ _ _ _=>(J7 (i:=0) (show (["house", "roots"]:List Str).Nodup by decide +kernel))) (fun _ _ _ _ _=>(Q1 0)) (fun _ _ _ _ _=>(sts_one (Jk (os_notin hr.units) (Q1 0) (Q1 1)))) Jw | exact Qu 3 sc_rooted_houses.nd (W9 (Zx [none,some 1] ["house", "roots"] rfl (Wg rfl T.b_range (Q0 (Qv Y3 rfl T.b_len PySem.boot_len (Q0 (Q1 0) Q6)) Q6)) (fun _ _ _ _ _=>(J7 (i:=0) (show (["house", "roots"]:List Str).Nodup by decide +kernel))) (fun _ _ _ _ _=>(Q1 0)) (fun _ _ _ _ _=>(sts_one (Jk (os_notin hr.units) (Q1 0) (Q1 1)))) Jw)))
    (Qc (by first | exact ss_compV [none,some 0,some 1] ["house", "table", "roots"] 4 sc_rooted_houses.nd rfl (Xj (Q1 3)) (fun _ _ _ _ _=>(J7 (i:=0) (show (["house", "table", "roots"]:List Str).Nodup by decide +kernel))) (fun _ _ _ _ _=>(Q1 0)) (fun _ _ _ _ _=>(sts_one (V5 (Qf D_has_root (hr.mono (by decide)) pass00D rfl (Q0 (Q1 1) (Q0 (Q1 0) (Q0 (Q1 2) Q6))))))) Jw | exact Qu 4 sc_rooted_houses.nd (W9 (Zx [none,some 0,some 1] ["house", "table", "roots"] rfl (Xj (Q1 3)) (fun _ _ _ _ _=>(J7 (i:=0) (show (["house", "table", "roots"]:List Str).Nodup by decide +kernel))) (fun _ _ _ _ _=>(Q1 0)) (fun _ _ _ _ _=>(sts_one (V5 (Qf D_has_root (hr.mono (by decide)) pass00D rfl (Q0 (Q1 1) (Q0 (Q1 0) (Q0 (Q1 2) Q6))))))) Jw)))
    (Qc (Yj (se_extend (Q1 1) (Q0 (Q1 4) Q6)))
    (Qh (Qu 2 sc_rooted_houses.nd (se_cmp os_gt (Qv Y3 rfl T.b_len PySem.boot_len (Q0 (Q1 4) Q6)) Qb)))))))
    (Qh (Qy (Q1 1))))))
def Ws:ME:=(Q5 0)
def Y6:MT:=(toB (mOp (oIn true) (Q5 0) (Q5 1)))
def Wr:ME:=(Qi 2 Zd (Q2 (Q5 1) (Q2 (Q5 0) Q8)))
def W6 : MS := (Qm (Jc 1 (Qi 1 Zv (Q2 (Q5 0) Q8)))
    (Qm (Jc 2 (Xa (Za [none,some 1] (Qp 0) (Wj (Q2 (Ja Yh (Q2 (Q5 0) Q8)) Q8)) Y6 Ws)))
    (Qm (Yw (toB (Ja (cBls fun ns=>.bl (ns.any id)) (Q2 (Xa (Za [none,some 0] (Qp 0) (mSeq (Q5 2)) Zc Wr)) Q8))) (Z1 (Q5 2)) Zi)
    (Z1 (mLst Q8)))))
def Z8:FN:=Qn W6 3
theorem sc_rootless_houses:FnScope ["table", "roots", "others"] ["table"] (Q9 Vk):=⟨rfl,rfl,rfl,by decide +kernel,rfl,by decide +kernel,by decide +kernel⟩
theorem ok_rootless_houses {f:Addr} {fd:FuncData} (F:Fun K "rootless_houses" "rootless_houses" Vk f fd) (T:Txt mg)  (D_rooted_houses:DefS P w K mg base 3 "rooted_houses" 1 Zv) (D_lent_or_used_some:DefS P w K mg base 1 "lent_or_used_some" 2 Zd):FnOk P w K mg base (CXD P w) 4 f fd ["table"] (spF mg 1 Z8):=by
  refine Qz (k:=3) (m:=W6) F sc_rootless_houses rfl rfl rfl fun cdv A outer s H E hr=>?_
  exact (Qc (Qu 1 sc_rootless_houses.nd (Qf D_rooted_houses (hr.mono (by decide)) Qa rfl (Q0 (Q1 0) Q6)))
    (Qc (by first | exact ss_compV [none,some 1] ["house", "roots"] 2 sc_rootless_houses.nd rfl (Wg rfl T.b_range (Q0 (Qv Y3 rfl T.b_len PySem.boot_len (Q0 (Q1 0) Q6)) Q6)) (fun _ _ _ _ _=>(J7 (i:=0) (show (["house", "roots"]:List Str).Nodup by decide +kernel))) (fun _ _ _ _ _=>(Q1 0)) (fun _ _ _ _ _=>(sts_one (Jk (os_notin hr.units) (Q1 0) (Q1 1)))) Jw | exact Qu 2 sc_rootless_houses.nd (W9 (Zx [none,some 1] ["house", "roots"] rfl (Wg rfl T.b_range (Q0 (Qv Y3 rfl T.b_len PySem.boot_len (Q0 (Q1 0) Q6)) Q6)) (fun _ _ _ _ _=>(J7 (i:=0) (show (["house", "roots"]:List Str).Nodup by decide +kernel))) (fun _ _ _ _ _=>(Q1 0)) (fun _ _ _ _ _=>(sts_one (Jk (os_notin hr.units) (Q1 0) (Q1 1)))) Jw)))
    (Qc (Zh (V5 (Qv (cs_any rfl) rfl T.b_any boot_any (Q0 (W9 (Zx [none,some 0] ["house", "table"] rfl (Xj (Q1 2)) (fun _ _ _ _ _=>(J7 (i:=0) (show (["house", "table"]:List Str).Nodup by decide +kernel))) (fun _ _ _ _ _=>(Qf D_lent_or_used_some (hr.mono (by decide)) pass00D rfl (Q0 (Q1 1) (Q0 (Q1 0) Q6)))) (fun _ _ _ _ _=>We) Jw)) Q6))) (Qh (Qy (Q1 2))) Z4)
    (Qh (Qy (se_lst Q6))))))
def V3:MS:=(Yw (toB (mOp oLt (Qi 2 V0 (Q2 (Q5 0) (Q2 (Q5 1) Q8))) (mC (.int 0)))) (Z1 (Ji (Q2 (mC (.str "short")) (Q2 (Q5 1) Q8)))) Zi)
def Ww : MS := (Qm (mFor (Qp 1) (Wj (Q2 (Ja Yh (Q2 (Q5 0) Q8)) Q8)) V3)
    (Qm (Jc 2 (Qi 1 Z8 (Q2 (Q5 0) Q8)))
    (Qm (Yw (toB (mOp (oI fun a b=>.bl (decide (b < a))) (Ja Yh (Q2 (Q5 2) Q8)) (mC (.int 0)))) (Z1 (Ji (Q2 (mC (.str "rootless")) (Q2 (Q5 2) Q8)))) Zi)
    (Z1 (Ji (Q2 (mC (.str "comes")) (Q2 (Qi 1 Zv (Q2 (Q5 0) Q8)) Q8)))))))
def Y4:FN:=Qn Ww 3
theorem sc_comes_about:FnScope ["table", "house", "rootless"] ["table"] (Q9 s_comes_about):=⟨rfl,rfl,rfl,by decide +kernel,rfl,by decide +kernel,by decide +kernel⟩
theorem ok_comes_about {f:Addr} {fd:FuncData} (F:Fun K "comes_about" "comes_about" s_comes_about f fd) (T:Txt mg)  (D_rights_tables:DefS P w K mg base 4 "rights_tables" 2 V0) (D_rootless_houses:DefS P w K mg base 4 "rootless_houses" 1 Z8) (D_rooted_houses:DefS P w K mg base 3 "rooted_houses" 1 Zv):FnOk P w K mg base (CXD P w) 5 f fd ["table"] (spF mg 1 Y4):=by
  refine Qz (k:=4) (m:=Ww) F sc_comes_about rfl rfl rfl fun cdv A outer s H E hr=>?_
  exact (Qc (ss_for PassesOwn.leaving rfl (Wg rfl T.b_range (Q0 (Qv Y3 rfl T.b_len PySem.boot_len (Q0 (Q1 0) Q6)) Q6)) (J7 (i:=1) sc_comes_about.nd) (Qh (Zh (Jk (os_lt hr.units) (Qf D_rights_tables (hr.mono (by decide)) Qa rfl (Q0 (Q1 0) (Q0 (Q1 1) Q6))) Qb) (Qh (Qy (Jb (Q0 J2 (Q0 (Q1 1) Q6))))) Z4)))
    (Qc (Qu 2 sc_comes_about.nd (Qf D_rootless_houses (hr.mono (by decide)) Qa rfl (Q0 (Q1 0) Q6)))
    (Qc (Zh (Jk os_gt (Qv Y3 rfl T.b_len PySem.boot_len (Q0 (Q1 2) Q6)) Qb) (Qh (Qy (Jb (Q0 J2 (Q0 (Q1 2) Q6))))) Z4)
    (Qh (Qy (Jb (Q0 J2 (Q0 (Qf D_rooted_houses (hr.mono (by decide)) Qa rfl (Q0 (Q1 0) Q6)) Q6))))))))
def Vp:MS:=(Z1 (mAnd (Qi 1 F_is_table (Q2 (Q5 0) Q8)) (mOp oEq (mOp oIx (Qi 1 Y4 (Q2 (Q5 0) Q8)) (mC (.int 0))) (mC (.str "comes")))))
def Y0:FN:=Qn Vp 1
theorem sc_does_come_about:FnScope ["thing"] ["thing"] (Q9 Vm):=⟨rfl,rfl,rfl,by decide +kernel,rfl,by decide +kernel,by decide +kernel⟩
theorem ok_does_come_about {f:Addr} {fd:FuncData} (F:Fun K "does_come_about" "does_come_about" Vm f fd) (T:Txt mg)  (D_is_table:DefS P w K mg base 3 "is_table" 1 F_is_table) (D_comes_about:DefS P w K mg base 5 "comes_about" 1 Y4):FnOk P w K mg base (CXD P w) 6 f fd ["thing"] (spF mg 1 Y0):=by
  refine Qz (k:=5) (m:=Vp) F sc_does_come_about rfl rfl rfl fun cdv A outer s H E hr=>?_
  exact (Qh (Qy (se_and (Qf D_is_table (hr.mono (by decide)) Qa rfl (Q0 (Q1 0) Q6)) (se_one (se_cmp (Uc hr.units) (J8 (Qf D_comes_about (hr.mono (by decide)) Qa rfl (Q0 (Q1 0) Q6)) Qb) J2)))))
def Yk:MS:=(Yw (tNotM (toB (Qi 1 Y0 (Q2 (Q5 0) Q8)))) (mRaise "NoTable" (mC (.str "no table that comes about"))) Zi)
def Z2:FN:=Qn Yk 1
theorem sc_need_comes_about:FnScope ["thing"] ["thing"] (Q9 V6):=⟨rfl,rfl,rfl,by decide +kernel,rfl,by decide +kernel,by decide +kernel⟩
theorem ok_need_comes_about {f:Addr} {fd:FuncData} (F:Fun K "need_comes_about" "need_comes_about" V6 f fd) (T:Txt mg) (C_NoTable:∃ C,mg "NoTable" = some (.ref C)/\PySem.W.excIn K C Ua "ValueError.__new__" = true) (D_does_come_about:DefS P w K mg base 6 "does_come_about" 1 Y0):FnOk P w K mg base (CXD P w) 7 f fd ["thing"] (spF mg 1 Z2):=by
  refine Qz (k:=6) (m:=Yk) F sc_need_comes_about rfl rfl rfl fun cdv A outer s H E hr=>?_
  exact (Qh (Zh (Xi (V5 (Qf D_does_come_about (hr.mono (by decide)) Qa rfl (Q0 (Q1 0) Q6)))) (Qh (Uv rfl Vn rfl C_NoTable.choose_spec.1 C_NoTable.choose_spec.2 J2)) Z4))
def Yb (C : Addr) : MS := (Qm (Wy (Qi 1 Z2 (Q2 (Q5 2) Q8)))
    (Qm (Yw (tNotM (toB (Qi 2 Zb (Q2 (Q5 2) (Q2 (Q5 1) Q8))))) (mRaise "NoHouse" (mC (.str "no house of this table"))) Zi)
    (Qm (mSFld C "number" (Q5 0) (Q5 1))
    (Qm (mSFld C "now" (Q5 0) (Q5 2))
    (mSFld C "kept" (Q5 0) (Q5 2))))))
def Jg (C:Addr):FN:=Yf (Yb C) 3
theorem sc_House___init__:FnScope ["self", "number", "table"] ["self", "number", "table"] (Q9 Ue):=⟨rfl,rfl,rfl,by decide +kernel,rfl,by decide +kernel,by decide +kernel⟩
theorem ok_House___init__ {f:Addr} {fd:FuncData} {C:Addr} (F:Fun K "__init__" "House.__init__" Ue f fd) (T:Txt mg) (TC:ClsT K C) (C_NoHouse:∃ C,mg "NoHouse" = some (.ref C)/\PySem.W.excIn K C Ua "ValueError.__new__" = true) (D_need_comes_about:DefS P w K mg base 7 "need_comes_about" 1 Z2) (D_is_house:DefS P w K mg base 3 "is_house" 2 Zb):FnOk P w K mg base (CXD P w) 8 f fd ["self", "number", "table"] (spF mg 3 (Jg C)):=by
  refine X1 (k:=7) (m:=(Yb C)) F sc_House___init__ rfl rfl rfl fun cdv A outer s H E hr=>?_
  exact (Qc (Yj (Qf D_need_comes_about (hr.mono (by decide)) Qa rfl (Q0 (Q1 2) Q6)))
    (Qc (Zh (Xi (V5 (Qf D_is_house (hr.mono (by decide)) Qa rfl (Q0 (Q1 2) (Q0 (Q1 1) Q6))))) (Qh (Uv rfl Vn rfl C_NoHouse.choose_spec.1 C_NoHouse.choose_spec.2 J2)) Z4)
    (Qc (ss_fld TC.cl TC.n_number (Q1 1) (Q1 0))
    (Qc (ss_fld TC.cl TC.n_now (Q1 2) (Q1 0))
    (Qh (ss_fld TC.cl TC.n_kept (Q1 2) (Q1 0)))))))
def Vq (C:Addr):MS:=(mSFld C "now" (Q5 0) (Qi 2 Wu (Q2 (W4 C "now" (Q5 0)) (Q2 (Ji (Q2 (mC (.str "make")) (Q2 (W4 C "number" (Q5 0)) (Q2 (Q5 1) Q8)))) Q8))))
def Zg (C:Addr):FN:=Yf (Vq C) 2
theorem sc_House_make:FnScope ["self", "k"] ["self", "k"] (Q9 s_House_make):=⟨rfl,rfl,rfl,by decide +kernel,rfl,by decide +kernel,by decide +kernel⟩
theorem ok_House_make {f:Addr} {fd:FuncData} {C:Addr} (F:Fun K "make" "House.make" s_House_make f fd) (T:Txt mg) (TC:ClsT K C)  (D_done:DefS P w K mg base 5 "done" 2 Wu):FnOk P w K mg base (CXD P w) 6 f fd ["self", "k"] (spF mg 2 (Zg C)):=by
  refine X1 (k:=5) (m:=(Vq C)) F sc_House_make rfl rfl rfl fun cdv A outer s H E hr=>?_
  exact (Qh (ss_fld TC.cl TC.n_now (Qf D_done (hr.mono (by decide)) Qa rfl (Q0 (Ya TC.cl TC.n_now (Q1 0)) (Q0 (Jb (Q0 J2 (Q0 (Ya TC.cl TC.n_number (Q1 0)) (Q0 (Q1 1) Q6)))) Q6))) (Q1 0)))
def Vs (C:Addr):MS:=(mSFld C "now" (Q5 0) (Qi 2 Wu (Q2 (W4 C "now" (Q5 0)) (Q2 (Ji (Q2 (mC (.str "lend")) (Q2 (W4 C "number" (Q5 0)) (Q2 (Q5 1) (Q2 (Q5 2) Q8))))) Q8))))
def Yp (C:Addr):FN:=Yf (Vs C) 3
theorem sc_House_lend:FnScope ["self", "to", "k"] ["self", "to", "k"] (Q9 s_House_lend):=⟨rfl,rfl,rfl,by decide +kernel,rfl,by decide +kernel,by decide +kernel⟩
theorem ok_House_lend {f:Addr} {fd:FuncData} {C:Addr} (F:Fun K "lend" "House.lend" s_House_lend f fd) (T:Txt mg) (TC:ClsT K C)  (D_done:DefS P w K mg base 5 "done" 2 Wu):FnOk P w K mg base (CXD P w) 6 f fd ["self", "to", "k"] (spF mg 3 (Yp C)):=by
  refine X1 (k:=5) (m:=(Vs C)) F sc_House_lend rfl rfl rfl fun cdv A outer s H E hr=>?_
  exact (Qh (ss_fld TC.cl TC.n_now (Qf D_done (hr.mono (by decide)) Qa rfl (Q0 (Ya TC.cl TC.n_now (Q1 0)) (Q0 (Jb (Q0 J2 (Q0 (Ya TC.cl TC.n_number (Q1 0)) (Q0 (Q1 1) (Q0 (Q1 2) Q6))))) Q6))) (Q1 0)))
def Uy (C:Addr):MS:=(mSFld C "now" (Q5 0) (Qi 2 Wu (Q2 (W4 C "now" (Q5 0)) (Q2 (Ji (Q2 (mC (.str "use")) (Q2 (W4 C "number" (Q5 0)) (Q2 (Q5 1) Q8)))) Q8))))
def Wc (C:Addr):FN:=Yf (Uy C) 2
theorem sc_House_use:FnScope ["self", "k"] ["self", "k"] (Q9 s_House_use):=⟨rfl,rfl,rfl,by decide +kernel,rfl,by decide +kernel,by decide +kernel⟩
theorem ok_House_use {f:Addr} {fd:FuncData} {C:Addr} (F:Fun K "use" "House.use" s_House_use f fd) (T:Txt mg) (TC:ClsT K C)  (D_done:DefS P w K mg base 5 "done" 2 Wu):FnOk P w K mg base (CXD P w) 6 f fd ["self", "k"] (spF mg 2 (Wc C)):=by
  refine X1 (k:=5) (m:=(Uy C)) F sc_House_use rfl rfl rfl fun cdv A outer s H E hr=>?_
  exact (Qh (ss_fld TC.cl TC.n_now (Qf D_done (hr.mono (by decide)) Qa rfl (Q0 (Ya TC.cl TC.n_now (Q1 0)) (Q0 (Jb (Q0 J2 (Q0 (Ya TC.cl TC.n_number (Q1 0)) (Q0 (Q1 1) Q6)))) Q6))) (Q1 0)))
def Xf (C:Addr):MS:=(mSFld C "kept" (Q5 0) (W4 C "now" (Q5 0)))
def Wm (C:Addr):FN:=Yf (Xf C) 1
theorem sc_House_keep:FnScope ["self"] ["self"] (Q9 s_House_keep):=⟨rfl,rfl,rfl,by decide +kernel,rfl,by decide +kernel,by decide +kernel⟩
theorem ok_House_keep {f:Addr} {fd:FuncData} {C:Addr} (F:Fun K "keep" "House.keep" s_House_keep f fd) (T:Txt mg) (TC:ClsT K C)   : FnOk P w K mg base (CXD P w) 1 f fd ["self"] (spF mg 1 (Wm C)):=by
  refine X1 (k:=0) (m:=(Xf C)) F sc_House_keep rfl rfl rfl fun cdv A outer s H E hr=>?_
  exact (Qh (ss_fld TC.cl TC.n_kept (Ya TC.cl TC.n_now (Q1 0)) (Q1 0)))
def m_House_fall (C:Addr):MS:=(Wy (Qi 1 F__wall (Q2 (mC (.int 0)) Q8)))
def F_House_fall (C:Addr):FN:=Yf (m_House_fall C) 1
theorem sc_House_fall:FnScope ["self"] ["self"] (Q9 s_House_fall):=⟨rfl,rfl,rfl,by decide +kernel,rfl,by decide +kernel,by decide +kernel⟩
theorem ok_House_fall {f:Addr} {fd:FuncData} {C:Addr} (F:Fun K "fall" "House.fall" s_House_fall f fd) (T:Txt mg) (TC:ClsT K C)  (D__wall:DefS P w K mg base 1 "_wall" 1 F__wall):FnOk P w K mg base (CXD P w) 2 f fd ["self"] (spF mg 1 (F_House_fall C)):=by
  refine X1 (k:=1) (m:=(m_House_fall C)) F sc_House_fall rfl rfl rfl fun cdv A outer s H E hr=>?_
  exact (Qh (Yj (Qf D__wall (hr.mono (by decide)) Qa rfl (Q0 Qb Q6))))
def Vr (C:Addr):MS:=(Z1 (W4 C "kept" (Q5 0)))
def Wd (C:Addr):FN:=Qn (Vr C) 1
theorem sc_House_letter:FnScope ["self"] ["self"] (Q9 Xt):=⟨rfl,rfl,rfl,by decide +kernel,rfl,by decide +kernel,by decide +kernel⟩
theorem ok_House_letter {f:Addr} {fd:FuncData} {C:Addr} (F:Fun K "letter" "House.letter" Xt f fd) (T:Txt mg) (TC:ClsT K C)   : FnOk P w K mg base (CXD P w) 1 f fd ["self"] (spF mg 1 (Wd C)):=by
  refine Qz (k:=0) (m:=(Vr C)) F sc_House_letter rfl rfl rfl fun cdv A outer s H E hr=>?_
  exact (Qh (Qy (Ya TC.cl TC.n_kept (Q1 0))))
def Wi (C : Addr) : MS := (Qm (Wy (Qi 2 J6 (Q2 (W4 C "now" (Q5 0)) (Q2 (Q5 1) Q8))))
    (Qm (Yw (tNotM (toB (Qi 2 Yy (Q2 (mOp oIx (Q5 1) (W4 C "number" (Q5 0))) (Q2 (mOp oIx (W4 C "now" (Q5 0)) (W4 C "number" (Q5 0))) Q8))))) (mRaise "NoLetter" (mC (.str "it tells more of this house than the house did"))) Zi)
    (mSFld C "now" (Q5 0) (Qi 2 F_joined (Q2 (W4 C "now" (Q5 0)) (Q2 (Q5 1) Q8))))))
def Z3 (C:Addr):FN:=Yf (Wi C) 2
theorem sc_House_come:FnScope ["self", "table"] ["self", "table"] (Q9 s_House_come):=⟨rfl,rfl,rfl,by decide +kernel,rfl,by decide +kernel,by decide +kernel⟩
theorem ok_House_come {f:Addr} {fd:FuncData} {C:Addr} (F:Fun K "come" "House.come" s_House_come f fd) (T:Txt mg) (TC:ClsT K C) (C_NoLetter:∃ C,mg "NoLetter" = some (.ref C)/\PySem.W.excIn K C Ua "ValueError.__new__" = true) (D_need_as_many_houses:DefS P w K mg base 1 "need_as_many_houses" 2 J6) (D_is_row_within:DefS P w K mg base 1 "is_row_within" 2 Yy) (D_joined:DefS P w K mg base 2 "joined" 2 F_joined):FnOk P w K mg base (CXD P w) 3 f fd ["self", "table"] (spF mg 2 (Z3 C)):=by
  refine X1 (k:=2) (m:=(Wi C)) F sc_House_come rfl rfl rfl fun cdv A outer s H E hr=>?_
  exact (Qc (Yj (Qf D_need_as_many_houses (hr.mono (by decide)) Qa rfl (Q0 (Ya TC.cl TC.n_now (Q1 0)) (Q0 (Q1 1) Q6))))
    (Qc (Zh (Xi (V5 (Qf D_is_row_within (hr.mono (by decide)) Qa rfl (Q0 (J8 (Q1 1) (Ya TC.cl TC.n_number (Q1 0))) (Q0 (J8 (Ya TC.cl TC.n_now (Q1 0)) (Ya TC.cl TC.n_number (Q1 0))) Q6))))) (Qh (Uv rfl Vn rfl C_NoLetter.choose_spec.1 C_NoLetter.choose_spec.2 J2)) Z4)
    (Qh (ss_fld TC.cl TC.n_now (Qf D_joined (hr.mono (by decide)) Qa rfl (Q0 (Ya TC.cl TC.n_now (Q1 0)) (Q0 (Q1 1) Q6))) (Q1 0)))))
def Uq (C:Addr):MS:=(Z1 (W4 C "now" (Q5 0)))
def Zj (C:Addr):FN:=Qn (Uq C) 1
theorem sc_House_table:FnScope ["self"] ["self"] (Q9 s_House_table):=⟨rfl,rfl,rfl,by decide +kernel,rfl,by decide +kernel,by decide +kernel⟩
theorem ok_House_table {f:Addr} {fd:FuncData} {C:Addr} (F:Fun K "table" "House.table" s_House_table f fd) (T:Txt mg) (TC:ClsT K C)   : FnOk P w K mg base (CXD P w) 1 f fd ["self"] (spF mg 1 (Zj C)):=by
  refine Qz (k:=0) (m:=(Uq C)) F sc_House_table rfl rfl rfl fun cdv A outer s H E hr=>?_
  exact (Qh (Qy (Ya TC.cl TC.n_now (Q1 0))))
def K1 (C:Addr):MS:=(Z1 (Qi 2 V0 (Q2 (W4 C "now" (Q5 0)) (Q2 (W4 C "number" (Q5 0)) Q8))))
def Zq (C:Addr):FN:=Qn (K1 C) 1
theorem sc_House_rights:FnScope ["self"] ["self"] (Q9 Xs):=⟨rfl,rfl,rfl,by decide +kernel,rfl,by decide +kernel,by decide +kernel⟩
theorem ok_House_rights {f:Addr} {fd:FuncData} {C:Addr} (F:Fun K "rights" "House.rights" Xs f fd) (T:Txt mg) (TC:ClsT K C)  (D_rights_tables:DefS P w K mg base 4 "rights_tables" 2 V0):FnOk P w K mg base (CXD P w) 5 f fd ["self"] (spF mg 1 (Zq C)):=by
  refine Qz (k:=4) (m:=(K1 C)) F sc_House_rights rfl rfl rfl fun cdv A outer s H E hr=>?_
  exact (Qh (Qy (Qf D_rights_tables (hr.mono (by decide)) Qa rfl (Q0 (Ya TC.cl TC.n_now (Q1 0)) (Q0 (Ya TC.cl TC.n_number (Q1 0)) Q6)))))
def m_House_used (C:Addr):MS:=(Z1 (Ji (Q2 (mOp oIx (mOp oIx (W4 C "kept" (Q5 0)) (W4 C "number" (Q5 0))) (mNeg (mC (.int 1)))) (Q2 (mOp oIx (mOp oIx (W4 C "now" (Q5 0)) (W4 C "number" (Q5 0))) (mNeg (mC (.int 1)))) Q8))))
def U9 (C:Addr):FN:=Qn (m_House_used C) 1
theorem sc_House_used:FnScope ["self"] ["self"] (Q9 s_House_used):=⟨rfl,rfl,rfl,by decide +kernel,rfl,by decide +kernel,by decide +kernel⟩
theorem ok_House_used {f:Addr} {fd:FuncData} {C:Addr} (F:Fun K "used" "House.used" s_House_used f fd) (T:Txt mg) (TC:ClsT K C)   : FnOk P w K mg base (CXD P w) 1 f fd ["self"] (spF mg 1 (U9 C)):=by
  refine Qz (k:=0) (m:=(m_House_used C)) F sc_House_used rfl rfl rfl fun cdv A outer s H E hr=>?_
  exact (Qh (Qy (Jb (Q0 (J8 (J8 (Ya TC.cl TC.n_kept (Q1 0)) (Ya TC.cl TC.n_number (Q1 0))) (se_neg Qb)) (Q0 (J8 (J8 (Ya TC.cl TC.n_now (Q1 0)) (Ya TC.cl TC.n_number (Q1 0))) (se_neg Qb)) Q6)))))
def Xe : MS := (Qm (Yw (toB (mOp oLt (Q5 1) (Ja Yh (Q2 (Q5 0) Q8)))) (Z1 (mOp oIx (Q5 0) (Q5 1))) Zi)
    (Z1 (mC (.int 0))))
def Wk:FN:=Qn Xe 2
theorem sc__law_acell:FnScope ["script", "k"] ["script", "k"] (Q9 s__law_acell):=⟨rfl,rfl,rfl,by decide +kernel,rfl,by decide +kernel,by decide +kernel⟩
theorem ok__law_acell {f:Addr} {fd:FuncData} (F:Fun K "_law_acell" "_law_acell" s__law_acell f fd) (T:Txt mg)   : FnOk P w K mg base (CXD P w) 1 f fd ["script", "k"] (spF mg 2 Wk):=by
  refine Qz (k:=0) (m:=Xe) F sc__law_acell rfl rfl rfl fun cdv A outer s H E hr=>?_
  exact (Qc (Zh (Jk (os_lt hr.units) (Q1 1) (Qv Y3 rfl T.b_len PySem.boot_len (Q0 (Q1 0) Q6))) (Qh (Qy (J8 (Q1 0) (Q1 1)))) Z4)
    (Qh (Qy Qb)))
def b__law_atape_1 : MS := (Qm (Jc 4 (mOp Js (mOp oMul (Q5 4) (Q5 3)) (Q5 5)))
    (Jc 5 (mOp oMod (mOp Js (mOp Js (mOp oMul (Q5 5) (Q5 5)) (mOp oMul (mC (.int 40692)) (Q5 1))) (Q5 6)) (Q5 3))))
def Xc : MS := (Qm (Jc 2 (Qi 2 Wk (Q2 (Q5 0) (Q2 (Q5 1) Q8))))
    (Qm (Yw (toB (mOp oEq (mOp oMod (Q5 2) (mC (.int 2))) (mC (.int 0)))) (Z1 (mTrk (mLstN (Q2 (mOp oDiv (Q5 2) (mC (.int 2))) Q8)))) Zi)
    (Qm (Jc 3 (mC (.int 2305843009213693951)))
    (Qm (Jc 4 (mC (.int 0)))
    (Qm (Jc 5 (mOp oMod (mOp Js (mOp Js (mOp oMul (mOp oMod (Q5 2) (Q5 3)) (mC (.int 48271))) (mOp oMul (mC (.int 69621)) (Q5 1))) (mC (.int 11))) (Q5 3)))
    (Qm (mFor (Qp 6) (Wj (Q2 (mC (.int 5)) Q8)) b__law_atape_1)
    (Z1 (mTrk (mLstN (Q2 (Q5 4) Q8))))))))))
def Zf:FN:=Yf Xc 7
theorem sc__law_atape:FnScope ["script", "k", "cell", "p", "number", "last", "turn"] ["script", "k"] (Q9 s__law_atape):=⟨rfl,rfl,rfl,by decide +kernel,rfl,by decide +kernel,by decide +kernel⟩
theorem ok__law_atape {f:Addr} {fd:FuncData} (F:Fun K "_law_atape" "_law_atape" s__law_atape f fd) (T:Txt mg)  (D__law_acell:DefS P w K mg base 1 "_law_acell" 2 Wk):FnOk P w K mg base (CXD P w) 2 f fd ["script", "k"] (spF mg 2 Zf):=by
  refine X1 (k:=1) (m:=Xc) F sc__law_atape rfl rfl rfl fun cdv A outer s H E hr=>?_
  exact (Qc (Qu 2 sc__law_atape.nd (Qf D__law_acell (hr.mono (by decide)) Qa rfl (Q0 (Q1 0) (Q0 (Q1 1) Q6))))
    (Qc (Zh (Jk (Uc hr.units) (J0 os_mod (Q1 2) Qb) Qb) (Qh (Qy (se_trk (sn_lst (Q0 (J0 os_div (Q1 2) Qb) Q6))))) Z4)
    (Qc (Qu 3 sc__law_atape.nd Qb)
    (Qc (Qu 4 sc__law_atape.nd Qb)
    (Qc (Qu 5 sc__law_atape.nd (J0 os_mod (J0 J4 (J0 J4 (J0 os_mul (J0 os_mod (Q1 2) (Q1 3)) Qb) (J0 os_mul Qb (Q1 1))) Qb) (Q1 3)))
    (Qc (ss_for PassesOwn.leaving rfl (Wg rfl T.b_range (Q0 Qb Q6)) (J7 (i:=6) sc__law_atape.nd) (Qc (Qu 4 sc__law_atape.nd (J0 J4 (J0 os_mul (Q1 4) (Q1 3)) (Q1 5)))
    (Qh (Qu 5 sc__law_atape.nd (J0 os_mod (J0 J4 (J0 J4 (J0 os_mul (Q1 5) (Q1 5)) (J0 os_mul Qb (Q1 1))) (Q1 6)) (Q1 3))))))
    (Qh (Qy (se_trk (sn_lst (Q0 (Q1 4) Q6)))))))))))
def m__law_adigit : MS := (Qm (Jc 2 (mOp oMod (mOp oIx (Q5 0) (mC (.int 0))) (Q5 1)))
    (Qm (mSetIx (Q5 0) (mC (.int 0)) (mOp oDivC (mOp oIx (Q5 0) (mC (.int 0))) (Q5 1)))
    (Z1 (Q5 2))))
def Qe:FN:=Qn m__law_adigit 3
theorem sc__law_adigit:FnScope ["tape", "many", "found"] ["tape", "many"] (Q9 s__law_adigit):=⟨rfl,rfl,rfl,by decide +kernel,rfl,by decide +kernel,by decide +kernel⟩
theorem ok__law_adigit {f:Addr} {fd:FuncData} (F:Fun K "_law_adigit" "_law_adigit" s__law_adigit f fd) (T:Txt mg)   : FnOk P w K mg base (CXD P w) 1 f fd ["tape", "many"] (spF mg 2 Qe):=by
  refine Qz (k:=0) (m:=m__law_adigit) F sc__law_adigit rfl rfl rfl fun cdv A outer s H E hr=>?_
  exact (Qc (Qu 2 sc__law_adigit.nd (J0 os_mod (J8 (Q1 0) Qb) (Q1 1)))
    (Qc (ss_sub (J0 os_divC (J8 (Q1 0) Qb) (Q1 1)) (Q1 0) Qb)
    (Qh (Qy (Q1 2)))))
def e__law_arights_1:ME:=(mOp oIx (mOp oIx (Q5 2) (Q5 0)) (Q5 1))
def e__law_arights_2:ME:=(Q5 0)
def Xy : MS := (Qm (Jc 2 (Ja (U2 fun ns => some (.int ns.sum)) (Q2 (Xa (Za [none, some 1, some 0] (Qp 0) (Wj (Q2 (Ja Yh (Q2 (Q5 0) Q8)) Q8)) Zc e__law_arights_1)) Q8)))
    (Z1 (mOp Js (mOp (oI fun a b=>.int (a - b)) (Q5 2) (Ja (U2 fun ns=>some (.int ns.sum)) (Q2 (Xa (Za [none] (Qp 0) (mSeq (mOp oIx (Q5 0) (Q5 1))) Zc e__law_arights_2)) Q8))) (mOp oIx (mOp oIx (Q5 0) (Q5 1)) (Q5 1)))))
def Zp:FN:=Qn Xy 3
theorem sc__law_arights:FnScope ["table", "i", "lent"] ["table", "i"] (Q9 Xn):=⟨rfl,rfl,rfl,by decide +kernel,rfl,by decide +kernel,by decide +kernel⟩
theorem ok__law_arights {f:Addr} {fd:FuncData} (F:Fun K "_law_arights" "_law_arights" Xn f fd) (T:Txt mg)   : FnOk P w K mg base (CXD P w) 1 f fd ["table", "i"] (spF mg 2 Zp):=by
  refine Qz (k:=0) (m:=Xy) F sc__law_arights rfl rfl rfl fun cdv A outer s H E hr=>?_
  exact (Qc (Qu 2 sc__law_arights.nd (Qv (cs_sum rfl) rfl T.b_sum boot_sum (Q0 (W9 (Zx [none,some 1,some 0] ["j", "i", "table"] rfl (Wg rfl T.b_range (Q0 (Qv Y3 rfl T.b_len PySem.boot_len (Q0 (Q1 0) Q6)) Q6)) (fun _ _ _ _ _=>(J7 (i:=0) (show (["j", "i", "table"]:List Str).Nodup by decide +kernel))) (fun _ _ _ _ _=>(J8 (J8 (Q1 2) (Q1 0)) (Q1 1))) (fun _ _ _ _ _=>We) Jw)) Q6)))
    (Qh (Qy (J0 J4 (J0 os_sub (Q1 2) (Qv (cs_sum rfl) rfl T.b_sum boot_sum (Q0 (W9 (Zx [none] ["number"] rfl (Xj (J8 (Q1 0) (Q1 1))) (fun _ _ _ _ _=>(J7 (i:=0) (show (["number"]:List Str).Nodup by decide +kernel))) (fun _ _ _ _ _=>(Q1 0)) (fun _ _ _ _ _=>We) Jw)) Q6))) (J8 (J8 (Q1 0) (Q1 1)) (Q1 1))))))
def K6:ME:=(Ja V8 (Q2 (mOp oMul (mLst (Q2 (mC (.int 0)) Q8)) (mOp Js (Q5 1) (mC (.int 1)))) Q8))
def m__law_abare:MS:=(Z1 (Ja V8 (Q2 (Xa (Za [none,some 0] (Qp 0) (Wj (Q2 (Q5 0) Q8)) Zc K6)) Q8)))
def Y1:FN:=Qn m__law_abare 1
theorem sc__law_abare:FnScope ["size"] ["size"] (Q9 s__law_abare):=⟨rfl,rfl,rfl,by decide +kernel,rfl,by decide +kernel,by decide +kernel⟩
theorem ok__law_abare {f:Addr} {fd:FuncData} (F:Fun K "_law_abare" "_law_abare" s__law_abare f fd) (T:Txt mg)   : FnOk P w K mg base (CXD P w) 1 f fd ["size"] (spF mg 1 Y1):=by
  refine Qz (k:=0) (m:=m__law_abare) F sc__law_abare rfl rfl rfl fun cdv A outer s H E hr=>?_
  exact (Qh (Qy (Xk cs_tuple rfl T.b_tuple Ym (Q0 (W9 (Zx [none,some 0] ["i", "size"] rfl (Wg rfl T.b_range (Q0 (Q1 0) Q6)) (fun _ _ _ _ _=>(J7 (i:=0) (show (["i", "size"]:List Str).Nodup by decide +kernel))) (fun _ _ _ _ _=>(Xk cs_tuple rfl T.b_tuple Ym (Q0 (J0 os_mul (se_lst (Q0 Qb Q6)) (J0 J4 (Q1 1) Qb)) Q6))) (fun _ _ _ _ _=>We) Jw)) Q6))))
def Xz : MS := (Qm (Jc 4 (mOp Js (mOp Js (mSl (mOp oIx (Q5 0) (Q5 1)) Ze (Yv (Q5 2))) (Ji (Q2 (mOp Js (mOp oIx (mOp oIx (Q5 0) (Q5 1)) (Q5 2)) (Q5 3)) Q8))) (mSl (mOp oIx (Q5 0) (Q5 1)) (Yv (mOp Js (Q5 2) (mC (.int 1)))) Ze)))
    (Z1 (mOp Js (mOp Js (mSl (Q5 0) Ze (Yv (Q5 1))) (Ji (Q2 (Q5 4) Q8))) (mSl (Q5 0) (Yv (mOp Js (Q5 1) (mC (.int 1)))) Ze))))
def J9:FN:=Qn Xz 5
theorem sc__law_araised:FnScope ["table", "i", "at", "k", "row"] ["table", "i", "at", "k"] (Q9 Xp):=⟨rfl,rfl,rfl,by decide +kernel,rfl,by decide +kernel,by decide +kernel⟩
theorem ok__law_araised {f:Addr} {fd:FuncData} (F:Fun K "_law_araised" "_law_araised" Xp f fd) (T:Txt mg)   : FnOk P w K mg base (CXD P w) 1 f fd ["table", "i", "at", "k"] (spF mg 4 J9):=by
  refine Qz (k:=0) (m:=Xz) F sc__law_araised rfl rfl rfl fun cdv A outer s H E hr=>?_
  exact (Qc (Qu 4 sc__law_araised.nd (J0 J4 (J0 J4 (Yq (J8 (Q1 0) (Q1 1)) Vi (Wf (Q1 2))) (Jb (Q0 (J0 J4 (J8 (J8 (Q1 0) (Q1 1)) (Q1 2)) (Q1 3)) Q6))) (Yq (J8 (Q1 0) (Q1 1)) (Wf (J0 J4 (Q1 2) Qb)) Vi)))
    (Qh (Qy (J0 J4 (J0 J4 (Yq (Q1 0) Vi (Wf (Q1 1))) (Jb (Q0 (Q1 4) Q6))) (Yq (Q1 0) (Wf (J0 J4 (Q1 1) Qb)) Vi)))))
def Xd : MS := (Qm (Jc 1 (Qi 2 Qe (Q2 (Q5 0) (Q2 (mC (.int 12)) Q8))))
    (Qm (Yw (toB (mOp oEq (Q5 1) (mC (.int 11)))) (Z1 (mOp (oI fun a b=>.int (a - b)) (mOp oPow (mC (.int 10)) (mC (.int 20))) (Qi 2 Qe (Q2 (Q5 0) (Q2 (mC (.int 3)) Q8))))) Zi)
    (Z1 (mOp Js (mC (.int 1)) (mOp oMod (Q5 1) (mC (.int 7)))))))
def Xg:FN:=Qn Xd 2
theorem sc__law_amuch:FnScope ["tape", "way"] ["tape"] (Q9 s__law_amuch):=⟨rfl,rfl,rfl,by decide +kernel,rfl,by decide +kernel,by decide +kernel⟩
theorem ok__law_amuch {f:Addr} {fd:FuncData} (F:Fun K "_law_amuch" "_law_amuch" s__law_amuch f fd) (T:Txt mg)  (D__law_adigit:DefS P w K mg base 1 "_law_adigit" 2 Qe):FnOk P w K mg base (CXD P w) 2 f fd ["tape"] (spF mg 1 Xg):=by
  refine Qz (k:=1) (m:=Xd) F sc__law_amuch rfl rfl rfl fun cdv A outer s H E hr=>?_
  exact (Qc (Qu 1 sc__law_amuch.nd (Qf D__law_adigit (hr.mono (by decide)) Qa rfl (Q0 (Q1 0) (Q0 Qb Q6))))
    (Qc (Zh (Jk (Uc hr.units) (Q1 1) Qb) (Qh (Qy (J0 os_sub (J0 os_pow Qb Qb) (Qf D__law_adigit (hr.mono (by decide)) Qa rfl (Q0 (Q1 0) (Q0 Qb Q6)))))) Z4)
    (Qh (Qy (J0 J4 Qb (J0 os_mod (Q1 1) Qb))))))
def Xb : MS := (Qm (Jc 5 (Qi 2 Qe (Q2 (Q5 0) (Q2 (Q5 1) Q8))))
    (Qm (Jc 6 (Qi 2 Qe (Q2 (Q5 0) (Q2 (mC (.int 4)) Q8))))
    (Qm (Jc 7 (Qi 2 Zp (Q2 (Q5 3) (Q2 (Q5 5) Q8))))
    (Yw (tOrM (toB (mOp oLt (Q5 6) (mC (.int 2)))) (toB (mOp oEq (Q5 7) (mC (.int 0))))) (Jc 3 (Qi 4 J9 (Q2 (Q5 3) (Q2 (Q5 5) (Q2 (Q5 5) (Q2 (Qi 1 Xg (Q2 (Q5 0) Q8)) Q8)))))) (Yw (tAndM (toB (mOp oEq (Q5 6) (mC (.int 2)))) (toB (mOp (oI fun a b=>.bl (decide (b < a))) (Q5 1) (mC (.int 1))))) (Qm (Jc 8 (mOp oMod (mOp Js (mOp Js (Q5 5) (mC (.int 1))) (Qi 2 Qe (Q2 (Q5 0) (Q2 (mOp (oI fun a b=>.int (a - b)) (Q5 1) (mC (.int 1))) Q8)))) (Q5 1)))
    (Jc 3 (Qi 4 J9 (Q2 (Q5 3) (Q2 (Q5 5) (Q2 (Q5 8) (Q2 (mOp Js (mC (.int 1)) (Qi 2 Qe (Q2 (Q5 0) (Q2 (Q5 7) Q8)))) Q8))))))) (Jc 3 (Qi 4 J9 (Q2 (Q5 3) (Q2 (Q5 5) (Q2 (Q5 1) (Q2 (mOp Js (mC (.int 1)) (Qi 2 Qe (Q2 (Q5 0) (Q2 (Q5 7) Q8)))) Q8)))))))))))
def m__law_atable : MS := (Qm (Jc 3 (Qi 1 Y1 (Q2 (Q5 1) Q8)))
    (Qm (mFor (Qp 4) (Wj (Q2 (Q5 2) Q8)) Xb)
    (Z1 (Q5 3))))
def Y5:FN:=Qn m__law_atable 9
theorem sc__law_atable:FnScope ["tape", "size", "many", "table", "turn", "i", "way", "have", "j"] ["tape", "size", "many"] (Q9 s__law_atable):=⟨rfl,rfl,rfl,by decide +kernel,rfl,by decide +kernel,by decide +kernel⟩
theorem ok__law_atable {f:Addr} {fd:FuncData} (F:Fun K "_law_atable" "_law_atable" s__law_atable f fd) (T:Txt mg)  (D__law_abare:DefS P w K mg base 1 "_law_abare" 1 Y1) (D__law_adigit:DefS P w K mg base 1 "_law_adigit" 2 Qe) (D__law_arights:DefS P w K mg base 1 "_law_arights" 2 Zp) (D__law_araised:DefS P w K mg base 1 "_law_araised" 4 J9) (D__law_amuch:DefS P w K mg base 2 "_law_amuch" 1 Xg):FnOk P w K mg base (CXD P w) 3 f fd ["tape", "size", "many"] (spF mg 3 Y5):=by
  refine Qz (k:=2) (m:=m__law_atable) F sc__law_atable rfl rfl rfl fun cdv A outer s H E hr=>?_
  exact (Qc (Qu 3 sc__law_atable.nd (Qf D__law_abare (hr.mono (by decide)) Qa rfl (Q0 (Q1 1) Q6)))
    (Qc (ss_for PassesOwn.leaving rfl (Wg rfl T.b_range (Q0 (Q1 2) Q6)) (J7 (i:=4) sc__law_atable.nd) (Qc (Qu 5 sc__law_atable.nd (Qf D__law_adigit (hr.mono (by decide)) Qa rfl (Q0 (Q1 0) (Q0 (Q1 1) Q6))))
    (Qc (Qu 6 sc__law_atable.nd (Qf D__law_adigit (hr.mono (by decide)) Qa rfl (Q0 (Q1 0) (Q0 Qb Q6))))
    (Qc (Qu 7 sc__law_atable.nd (Qf D__law_arights (hr.mono (by decide)) Qa rfl (Q0 (Q1 3) (Q0 (Q1 5) Q6))))
    (Qh (Zh (SimW.t (sw_or (Jk (os_lt hr.units) (Q1 6) Qb) (sw_or1 (Jk (Uc hr.units) (Q1 7) Qb)))) (Qh (Qu 3 sc__law_atable.nd (Qf D__law_araised (hr.mono (by decide)) Qa rfl (Q0 (Q1 3) (Q0 (Q1 5) (Q0 (Q1 5) (Q0 (Qf D__law_amuch (hr.mono (by decide)) Qa rfl (Q0 (Q1 0) Q6)) Q6))))))) (Qh (Zh (SimW.t (sw_and (Jk (Uc hr.units) (Q1 6) Qb) (sw_and1 (Jk os_gt (Q1 1) Qb)))) (Qc (Qu 8 sc__law_atable.nd (J0 os_mod (J0 J4 (J0 J4 (Q1 5) Qb) (Qf D__law_adigit (hr.mono (by decide)) Qa rfl (Q0 (Q1 0) (Q0 (J0 os_sub (Q1 1) Qb) Q6)))) (Q1 1)))
    (Qh (Qu 3 sc__law_atable.nd (Qf D__law_araised (hr.mono (by decide)) Qa rfl (Q0 (Q1 3) (Q0 (Q1 5) (Q0 (Q1 8) (Q0 (J0 J4 Qb (Qf D__law_adigit (hr.mono (by decide)) Qa rfl (Q0 (Q1 0) (Q0 (Q1 7) Q6)))) Q6)))))))) (Qh (Qu 3 sc__law_atable.nd (Qf D__law_araised (hr.mono (by decide)) Qa rfl (Q0 (Q1 3) (Q0 (Q1 5) (Q0 (Q1 1) (Q0 (J0 J4 Qb (Qf D__law_adigit (hr.mono (by decide)) Qa rfl (Q0 (Q1 0) (Q0 (Q1 7) Q6)))) Q6)))))))))))))))
    (Qh (Qy (Q1 3)))))
def m__law_abegun : MS := (Qm (Jc 1 (Qi 2 Zf (Q2 (Q5 0) (Q2 (mC (.int 0)) Q8))))
    (Qm (Jc 2 (mOp Js (mC (.int 1)) (Qi 2 Qe (Q2 (Q5 1) (Q2 (mC (.int 8)) Q8)))))
    (Z1 (Qi 3 Y5 (Q2 (Q5 1) (Q2 (Q5 2) (Q2 (Qi 2 Qe (Q2 (Q5 1) (Q2 (mC (.int 9)) Q8))) Q8)))))))
def Uu:FN:=Qn m__law_abegun 3
theorem sc__law_abegun:FnScope ["script", "tape", "size"] ["script"] (Q9 s__law_abegun):=⟨rfl,rfl,rfl,by decide +kernel,rfl,by decide +kernel,by decide +kernel⟩
theorem ok__law_abegun {f:Addr} {fd:FuncData} (F:Fun K "_law_abegun" "_law_abegun" s__law_abegun f fd) (T:Txt mg)  (D__law_atape:DefS P w K mg base 2 "_law_atape" 2 Zf) (D__law_adigit:DefS P w K mg base 1 "_law_adigit" 2 Qe) (D__law_atable:DefS P w K mg base 3 "_law_atable" 3 Y5):FnOk P w K mg base (CXD P w) 4 f fd ["script"] (spF mg 1 Uu):=by
  refine Qz (k:=3) (m:=m__law_abegun) F sc__law_abegun rfl rfl rfl fun cdv A outer s H E hr=>?_
  exact (Qc (Qu 1 sc__law_abegun.nd (Qf D__law_atape (hr.mono (by decide)) Qa rfl (Q0 (Q1 0) (Q0 Qb Q6))))
    (Qc (Qu 2 sc__law_abegun.nd (J0 J4 Qb (Qf D__law_adigit (hr.mono (by decide)) Qa rfl (Q0 (Q1 1) (Q0 Qb Q6)))))
    (Qh (Qy (Qf D__law_atable (hr.mono (by decide)) Qa rfl (Q0 (Q1 1) (Q0 (Q1 2) (Q0 (Qf D__law_adigit (hr.mono (by decide)) Qa rfl (Q0 (Q1 1) (Q0 Qb Q6))) Q6))))))))
def Ui:ME:=(Ja cMax (Q2 (Q5 0) (Q2 (Q5 1) Q8)))
def b__law_ajoined_1:MS:=(Wy (mBM Xx (Q5 2) (Q2 (Ja V8 (Q2 (Xa (Za [none,none] (K3 (Jv (Qp 0) (Jv (Qp 1) K4))) (mZip (Q2 (Q5 3) (Q2 (Q5 4) Q8))) Zc Ui)) Q8)) Q8)))
def K0 : MS := (Qm (Jc 2 (mTrk (mLstN Q8)))
    (Qm (mFor (K3 (Jv (Qp 3) (Jv (Qp 4) K4))) (mZip (Q2 (Q5 0) (Q2 (Q5 1) Q8))) b__law_ajoined_1)
    (Z1 (Ja V8 (Q2 (Q5 2) Q8)))))
def U7:FN:=Qn K0 5
theorem sc__law_ajoined:FnScope ["one", "other", "rows", "row", "told"] ["one", "other"] (Q9 Xq):=⟨rfl,rfl,rfl,by decide +kernel,rfl,by decide +kernel,by decide +kernel⟩
theorem ok__law_ajoined {f:Addr} {fd:FuncData} (F:Fun K "_law_ajoined" "_law_ajoined" Xq f fd) (T:Txt mg)   : FnOk P w K mg base (CXD P w) 1 f fd ["one", "other"] (spF mg 2 U7):=by
  refine Qz (k:=0) (m:=K0) F sc__law_ajoined rfl rfl rfl fun cdv A outer s H E hr=>?_
  exact (Qc (Qu 2 sc__law_ajoined.nd (se_trk (sn_lst Q6)))
    (Qc (ss_for PassesOwn.leaving rfl (si_zip rfl T.b_zip (Q0 (Q1 0) (Q0 (Q1 1) Q6))) (sg_tup rfl (Y9 (J7 (i:=3) sc__law_ajoined.nd) (Y9 (J7 (i:=4) sc__law_ajoined.nd) sgs_nil))) (Qh (Yj (se_append (Q1 2) (Q0 (Xk cs_tuple rfl T.b_tuple Ym (Q0 (W9 (Zx [none,none] ["number", "more"] rfl (si_zip rfl T.b_zip (Q0 (Q1 3) (Q0 (Q1 4) Q6))) (fun _ _ _ _ _=>(sg_tup rfl (Y9 (J7 (i:=0) (show (["number", "more"]:List Str).Nodup by decide +kernel)) (Y9 (J7 (i:=1) (show (["number", "more"]:List Str).Nodup by decide +kernel)) sgs_nil)))) (fun _ _ _ _ _=>(Qv (cs_max rfl) rfl T.b_max boot_max (Q0 (Q1 0) (Q0 (Q1 1) Q6)))) (fun _ _ _ _ _=>We) (free_tup (Ve (Ve free_nil))))) Q6)) Q6)))))
    (Qh (Qy (Xk cs_tuple rfl T.b_tuple Ym (Q0 (Q1 2) Q6))))))
abbrev kdL:List (Nat × Str):=[(1, "table"),(2, "house"),(3, "deed"),(4, "letter"),(14, "short")]
def spKd (c:Nat->Addr):Sp:=fun vs H Q E=>∃ e dv t wd,vs=[V.ref e]/\(t,wd)∈kdL/\H e=some (.ext (IsXD e (c t) dv))/\∀ H2,Same H H2->Q (.str wd) H2
theorem sc__law_akind:FnScope ["caught", "names", "some"] ["caught"] (Q9 s__law_akind):=⟨rfl,rfl,rfl,by decide +kernel,rfl,by decide +kernel,by decide +kernel⟩
theorem ok__law_akind {f:Addr} {fd:FuncData} {c:Nat->Addr} (F:Fun K "_law_akind" "_law_akind" s__law_akind f fd) (T:Txt mg) (Nm:Nms mg c) (TT:∀ t wd,(t,wd)∈kdL->TgtS K c t/\PySem.W.kitOne K (.ref (c t)) (.ref (c 0))=some true):FnOk P w K mg base (CXD P w) 1 f fd ["caught"] (spKd c):=by
  refine Fun.okD (k:=0) F sc__law_akind (fun vs H Q E h=>by obtain ⟨e,dv,_,_,rfl,_⟩:=h; rfl) fun cdv A outer s H vs Q E hr hsp=>?_
  obtain ⟨e,dv,t,wd,rfl,hm,hE0,hQ⟩:=hsp
  obtain ⟨T0,W0⟩:=TT t wd hm
  refine jok ?_
  refine ⟨_,Uz (js_set (i:=1) sc__law_akind.nd rfl (Or.inl rfl) (je_lst ⟨pa_strsE ["book", "deed", "house", "letter", "manner", "name", "plan", "road", "row", "stand", "table"] [(_,_),(_,_),(_,_),(_,_),(_,_),(_,_),(_,_),(_,_),(_,_),(_,_),(_,_)] rfl⟩))
      (Uz (js_set (i:=1) sc__law_akind.nd rfl (Or.inl rfl) (je_op op_cat ⟨pv 1⟩ (je_lst ⟨pa_strsE ["text", "short", "many"] [(_,_),(_,_),(_,_)] rfl⟩)))
      (Uz (js_set (i:=2) sc__law_akind.nd rfl (Or.inl rfl) (je_lst (W7 ⟨Z0 (Jx K) (by rfl) Nm.isi Qw (Qx (pv 0) (Qx (Y7 (v:=.ref (c 8)) (by rfl) Nm.m8 rfl) Z6))⟩ (W7 ⟨Z0 (Jx K) (by rfl) Nm.isi Qw (Qx (pv 0) (Qx (Y7 (v:=.ref (c 3)) (by rfl) Nm.m3 rfl) Z6))⟩ (W7 ⟨Z0 (Jx K) (by rfl) Nm.isi Qw (Qx (pv 0) (Qx (Y7 (v:=.ref (c 2)) (by rfl) Nm.m2 rfl) Z6))⟩ ja_nil)))))
      (Uz (js_set (i:=2) sc__law_akind.nd rfl (Or.inl rfl) (je_op op_cat ⟨pv 2⟩ (je_lst (W7 ⟨Z0 (Jx K) (by rfl) Nm.isi Qw (Qx (pv 0) (Qx (Y7 (v:=.ref (c 4)) (by rfl) Nm.m4 rfl) Z6))⟩ (W7 ⟨Z0 (Jx K) (by rfl) Nm.isi Qw (Qx (pv 0) (Qx (Y7 (v:=.ref (c 9)) (by rfl) Nm.m9 rfl) Z6))⟩ (W7 ⟨Z0 (Jx K) (by rfl) Nm.isi Qw (Qx (pv 0) (Qx (Y7 (v:=.ref (c 13)) (by rfl) Nm.m13 rfl) Z6))⟩ ja_nil))))))
      (Uz (js_set (i:=2) sc__law_akind.nd rfl (Or.inl rfl) (je_op op_cat ⟨pv 2⟩ (je_lst (W7 ⟨Z0 (Jx K) (by rfl) Nm.isi Qw (Qx (pv 0) (Qx (Y7 (v:=.ref (c 7)) (by rfl) Nm.m7 rfl) Z6))⟩ (W7 ⟨Z0 (Jx K) (by rfl) Nm.isi Qw (Qx (pv 0) (Qx (Y7 (v:=.ref (c 6)) (by rfl) Nm.m6 rfl) Z6))⟩ (W7 ⟨Z0 (Jx K) (by rfl) Nm.isi Qw (Qx (pv 0) (Qx (Y7 (v:=.ref (c 12)) (by rfl) Nm.m12 rfl) Z6))⟩ ja_nil))))))
      (Uz (js_set (i:=2) sc__law_akind.nd rfl (Or.inl rfl) (je_op op_cat ⟨pv 2⟩ (je_lst (W7 ⟨Z0 (Jx K) (by rfl) Nm.isi Qw (Qx (pv 0) (Qx (Y7 (v:=.ref (c 5)) (by rfl) Nm.m5 rfl) Z6))⟩ (W7 ⟨Z0 (Jx K) (by rfl) Nm.isi Qw (Qx (pv 0) (Qx (Y7 (v:=.ref (c 1)) (by rfl) Nm.m1 rfl) Z6))⟩ (W7 ⟨Z0 (Jx K) (by rfl) Nm.isi Qw (Qx (pv 0) (Qx (Y7 (v:=.ref (c 11)) (by rfl) Nm.m11 rfl) Z6))⟩ ja_nil))))))
      (Uz (js_set (i:=2) sc__law_akind.nd rfl (Or.inl rfl) (je_op op_cat ⟨pv 2⟩ (je_lst (W7 ⟨Z0 (Jx K) (by rfl) Nm.isi Qw (Qx (pv 0) (Qx (Y7 (v:=.ref (c 14)) (by rfl) Nm.m14 rfl) Z6))⟩ (W7 ⟨Z0 (Jx K) (by rfl) Nm.isi Qw (Qx (pv 0) (Qx (Y7 (v:=.ref (c 10)) (by rfl) Nm.m10 rfl) Z6))⟩ ja_nil)))))
      (Uz (js_if (PW.pt (pw_or (pt_cmpR op_ne (pe_bm PySem.F.plainAttrs_list PySem.F.slot_list_count PySem.F.type_list_count mt_countB (pv 2) (Qx pe_bl Z6)) pe_int (nomark _)) (pw_or (pt_not (pt_val (Z0 (Jx K) (by rfl) Nm.isi Qw (Qx (pv 0) (Qx (Y7 (v:=.ref (c 0)) (by rfl) Nm.m0 rfl) Z6))))) (pw_or1 (pt_not (pt_val (Z0 (Jx K) (by rfl) Nm.isi Qw (Qx (pv 0) (Qx (pe_bltn (v:=.ty "ValueError") (by rfl) Nm.ve boot_ValueError rfl) Z6))))))))) (jss_one (js_ret je_str)) jss_nil)
      (jss_one (js_ret (je_ix ix_list (⟨pv 1⟩) ⟨pe_bm PySem.F.plainAttrs_list PySem.F.slot_list_index PySem.F.type_list_index mt_indexB (pv 2) (Qx pe_bl Z6)⟩ (fun _ _=>rfl))))))))))),?_⟩
  refine ⟨by first | decide | exact Zt (by simp),fun p1 hp1=>?_⟩
  obtain ⟨H1,e1⟩:∃ H1,upd H p1 (.lst (List.map V.str ["book", "deed", "house", "letter", "manner", "name", "plan", "road", "row", "stand", "table"]))=H1:=⟨_,rfl⟩
  have hE1:H1 e=some (.ext (IsXD e (c t) dv)):=e1 ▸ Zm hE0 hp1
  have sm1:Same H H1:=e1 ▸ Yr (fun _ _ z=>z) hp1
  have k_p1_1:H1 p1=some (.lst (List.map V.str ["book", "deed", "house", "letter", "manner", "name", "plan", "road", "row", "stand", "table"])):=e1 ▸ Qs
  rw [show upd H p1 (.lst (List.map V.str ["book", "deed", "house", "letter", "manner", "name", "plan", "road", "row", "stand", "table"]))=H1 from e1]
  refine ⟨_,rfl,?_⟩
  refine ⟨by first | decide | exact Zt (by simp),fun p2 hp2=>?_⟩
  obtain ⟨H2,e2⟩:∃ H2,upd H1 p2 (.lst (List.map V.str ["text", "short", "many"]))=H2:=⟨_,rfl⟩
  have hE2:H2 e=some (.ext (IsXD e (c t) dv)):=e2 ▸ Zm hE1 hp2
  have sm2:Same H H2:=e2 ▸ Yr sm1 hp2
  have k_p2_2:H2 p2=some (.lst (List.map V.str ["text", "short", "many"])):=e2 ▸ Qs
  have k_p1_2:H2 p1=some (.lst (List.map V.str ["book", "deed", "house", "letter", "manner", "name", "plan", "road", "row", "stand", "table"])):=e2 ▸ Zm k_p1_1 hp2
  rw [show upd H1 p2 (.lst (List.map V.str ["text", "short", "many"]))=H2 from e2]
  refine ⟨_,_,_,_,rfl,rfl,k_p1_2,k_p2_2,(by first | decide | exact Zt (by simp)),fun p3 hp3=>?_⟩
  obtain ⟨H3,e3⟩:∃ H3,upd H2 p3 (.lst (List.map V.str ["book", "deed", "house", "letter", "manner", "name", "plan", "road", "row", "stand", "table"] ++ List.map V.str ["text", "short", "many"]))=H3:=⟨_,rfl⟩
  have hE3:H3 e=some (.ext (IsXD e (c t) dv)):=e3 ▸ Zm hE2 hp3
  have sm3:Same H H3:=e3 ▸ Yr sm2 hp3
  have k_p3_3:H3 p3=some (.lst (List.map V.str ["book", "deed", "house", "letter", "manner", "name", "plan", "road", "row", "stand", "table"] ++ List.map V.str ["text", "short", "many"])):=e3 ▸ Qs
  have k_p1_3:H3 p1=some (.lst (List.map V.str ["book", "deed", "house", "letter", "manner", "name", "plan", "road", "row", "stand", "table"])):=e3 ▸ Zm k_p1_2 hp3
  rw [show upd H2 p3 (.lst (List.map V.str ["book", "deed", "house", "letter", "manner", "name", "plan", "road", "row", "stand", "table"] ++ List.map V.str ["text", "short", "many"]))=H3 from e3]
  refine ⟨_,rfl,e,_,_,_,_,decide (8=t),rfl,rfl,hE3,T0.xc,T0.k 8 (by decide) (by decide),?_⟩
  refine ⟨_,rfl,e,_,_,_,_,decide (3=t),rfl,rfl,hE3,T0.xc,T0.k 3 (by decide) (by decide),?_⟩
  refine ⟨_,rfl,e,_,_,_,_,decide (2=t),rfl,rfl,hE3,T0.xc,T0.k 2 (by decide) (by decide),?_⟩
  refine ⟨by first | decide | exact Zt (by simp),fun p4 hp4=>?_⟩
  obtain ⟨H4,e4⟩:∃ H4,upd H3 p4 (.lst [.bl (decide (8=t)),.bl (decide (3=t)),.bl (decide (2=t))])=H4:=⟨_,rfl⟩
  have hE4:H4 e=some (.ext (IsXD e (c t) dv)):=e4 ▸ Zm hE3 hp4
  have sm4:Same H H4:=e4 ▸ Yr sm3 hp4
  have k_p4_4:H4 p4=some (.lst [.bl (decide (8=t)),.bl (decide (3=t)),.bl (decide (2=t))]):=e4 ▸ Qs
  have k_p3_4:H4 p3=some (.lst (List.map V.str ["book", "deed", "house", "letter", "manner", "name", "plan", "road", "row", "stand", "table"] ++ List.map V.str ["text", "short", "many"])):=e4 ▸ Zm k_p3_3 hp4
  rw [show upd H3 p4 (.lst (_))=H4 from e4]
  refine ⟨_,rfl,?_⟩
  refine ⟨_,rfl,e,_,_,_,_,decide (4=t),rfl,rfl,hE4,T0.xc,T0.k 4 (by decide) (by decide),?_⟩
  refine ⟨_,rfl,e,_,_,_,_,decide (9=t),rfl,rfl,hE4,T0.xc,T0.k 9 (by decide) (by decide),?_⟩
  refine ⟨_,rfl,e,_,_,_,_,decide (13=t),rfl,rfl,hE4,T0.xc,T0.k 13 (by decide) (by decide),?_⟩
  refine ⟨by first | decide | exact Zt (by simp),fun p5 hp5=>?_⟩
  obtain ⟨H5,e5⟩:∃ H5,upd H4 p5 (.lst [.bl (decide (4=t)),.bl (decide (9=t)),.bl (decide (13=t))])=H5:=⟨_,rfl⟩
  have hE5:H5 e=some (.ext (IsXD e (c t) dv)):=e5 ▸ Zm hE4 hp5
  have sm5:Same H H5:=e5 ▸ Yr sm4 hp5
  have k_p5_5:H5 p5=some (.lst [.bl (decide (4=t)),.bl (decide (9=t)),.bl (decide (13=t))]):=e5 ▸ Qs
  have k_p3_5:H5 p3=some (.lst (List.map V.str ["book", "deed", "house", "letter", "manner", "name", "plan", "road", "row", "stand", "table"] ++ List.map V.str ["text", "short", "many"])):=e5 ▸ Zm k_p3_4 hp5
  have k_p4_5:H5 p4=some (.lst [.bl (decide (8=t)),.bl (decide (3=t)),.bl (decide (2=t))]):=e5 ▸ Zm k_p4_4 hp5
  rw [show upd H4 p5 (.lst (_))=H5 from e5]
  refine ⟨_,_,_,_,rfl,rfl,k_p4_5,k_p5_5,(by first | decide | exact Zt (by simp)),fun p6 hp6=>?_⟩
  obtain ⟨H6,e6⟩:∃ H6,upd H5 p6 (.lst [.bl (decide (8=t)),.bl (decide (3=t)),.bl (decide (2=t)),.bl (decide (4=t)),.bl (decide (9=t)),.bl (decide (13=t))])=H6:=⟨_,rfl⟩
  have hE6:H6 e=some (.ext (IsXD e (c t) dv)):=e6 ▸ Zm hE5 hp6
  have sm6:Same H H6:=e6 ▸ Yr sm5 hp6
  have k_p6_6:H6 p6=some (.lst [.bl (decide (8=t)),.bl (decide (3=t)),.bl (decide (2=t)),.bl (decide (4=t)),.bl (decide (9=t)),.bl (decide (13=t))]):=e6 ▸ Qs
  have k_p3_6:H6 p3=some (.lst (List.map V.str ["book", "deed", "house", "letter", "manner", "name", "plan", "road", "row", "stand", "table"] ++ List.map V.str ["text", "short", "many"])):=e6 ▸ Zm k_p3_5 hp6
  have k_p4_6:H6 p4=some (.lst [.bl (decide (8=t)),.bl (decide (3=t)),.bl (decide (2=t))]):=e6 ▸ Zm k_p4_5 hp6
  rw [show upd H5 p6 (.lst ([.bl (decide (8=t)),.bl (decide (3=t)),.bl (decide (2=t))] ++ [.bl (decide (4=t)),.bl (decide (9=t)),.bl (decide (13=t))]))=H6 from e6]
  refine ⟨_,rfl,?_⟩
  refine ⟨_,rfl,e,_,_,_,_,decide (7=t),rfl,rfl,hE6,T0.xc,T0.k 7 (by decide) (by decide),?_⟩
  refine ⟨_,rfl,e,_,_,_,_,decide (6=t),rfl,rfl,hE6,T0.xc,T0.k 6 (by decide) (by decide),?_⟩
  refine ⟨_,rfl,e,_,_,_,_,decide (12=t),rfl,rfl,hE6,T0.xc,T0.k 12 (by decide) (by decide),?_⟩
  refine ⟨by first | decide | exact Zt (by simp),fun p7 hp7=>?_⟩
  obtain ⟨H7,e7⟩:∃ H7,upd H6 p7 (.lst [.bl (decide (7=t)),.bl (decide (6=t)),.bl (decide (12=t))])=H7:=⟨_,rfl⟩
  have hE7:H7 e=some (.ext (IsXD e (c t) dv)):=e7 ▸ Zm hE6 hp7
  have sm7:Same H H7:=e7 ▸ Yr sm6 hp7
  have k_p7_7:H7 p7=some (.lst [.bl (decide (7=t)),.bl (decide (6=t)),.bl (decide (12=t))]):=e7 ▸ Qs
  have k_p3_7:H7 p3=some (.lst (List.map V.str ["book", "deed", "house", "letter", "manner", "name", "plan", "road", "row", "stand", "table"] ++ List.map V.str ["text", "short", "many"])):=e7 ▸ Zm k_p3_6 hp7
  have k_p6_7:H7 p6=some (.lst [.bl (decide (8=t)),.bl (decide (3=t)),.bl (decide (2=t)),.bl (decide (4=t)),.bl (decide (9=t)),.bl (decide (13=t))]):=e7 ▸ Zm k_p6_6 hp7
  rw [show upd H6 p7 (.lst (_))=H7 from e7]
  refine ⟨_,_,_,_,rfl,rfl,k_p6_7,k_p7_7,(by first | decide | exact Zt (by simp)),fun p8 hp8=>?_⟩
  obtain ⟨H8,e8⟩:∃ H8,upd H7 p8 (.lst [.bl (decide (8=t)),.bl (decide (3=t)),.bl (decide (2=t)),.bl (decide (4=t)),.bl (decide (9=t)),.bl (decide (13=t)),.bl (decide (7=t)),.bl (decide (6=t)),.bl (decide (12=t))])=H8:=⟨_,rfl⟩
  have hE8:H8 e=some (.ext (IsXD e (c t) dv)):=e8 ▸ Zm hE7 hp8
  have sm8:Same H H8:=e8 ▸ Yr sm7 hp8
  have k_p8_8:H8 p8=some (.lst [.bl (decide (8=t)),.bl (decide (3=t)),.bl (decide (2=t)),.bl (decide (4=t)),.bl (decide (9=t)),.bl (decide (13=t)),.bl (decide (7=t)),.bl (decide (6=t)),.bl (decide (12=t))]):=e8 ▸ Qs
  have k_p3_8:H8 p3=some (.lst (List.map V.str ["book", "deed", "house", "letter", "manner", "name", "plan", "road", "row", "stand", "table"] ++ List.map V.str ["text", "short", "many"])):=e8 ▸ Zm k_p3_7 hp8
  have k_p6_8:H8 p6=some (.lst [.bl (decide (8=t)),.bl (decide (3=t)),.bl (decide (2=t)),.bl (decide (4=t)),.bl (decide (9=t)),.bl (decide (13=t))]):=e8 ▸ Zm k_p6_7 hp8
  rw [show upd H7 p8 (.lst ([.bl (decide (8=t)),.bl (decide (3=t)),.bl (decide (2=t)),.bl (decide (4=t)),.bl (decide (9=t)),.bl (decide (13=t))] ++ [.bl (decide (7=t)),.bl (decide (6=t)),.bl (decide (12=t))]))=H8 from e8]
  refine ⟨_,rfl,?_⟩
  refine ⟨_,rfl,e,_,_,_,_,decide (5=t),rfl,rfl,hE8,T0.xc,T0.k 5 (by decide) (by decide),?_⟩
  refine ⟨_,rfl,e,_,_,_,_,decide (1=t),rfl,rfl,hE8,T0.xc,T0.k 1 (by decide) (by decide),?_⟩
  refine ⟨_,rfl,e,_,_,_,_,decide (11=t),rfl,rfl,hE8,T0.xc,T0.k 11 (by decide) (by decide),?_⟩
  refine ⟨by first | decide | exact Zt (by simp),fun p9 hp9=>?_⟩
  obtain ⟨H9,e9⟩:∃ H9,upd H8 p9 (.lst [.bl (decide (5=t)),.bl (decide (1=t)),.bl (decide (11=t))])=H9:=⟨_,rfl⟩
  have hE9:H9 e=some (.ext (IsXD e (c t) dv)):=e9 ▸ Zm hE8 hp9
  have sm9:Same H H9:=e9 ▸ Yr sm8 hp9
  have k_p9_9:H9 p9=some (.lst [.bl (decide (5=t)),.bl (decide (1=t)),.bl (decide (11=t))]):=e9 ▸ Qs
  have k_p3_9:H9 p3=some (.lst (List.map V.str ["book", "deed", "house", "letter", "manner", "name", "plan", "road", "row", "stand", "table"] ++ List.map V.str ["text", "short", "many"])):=e9 ▸ Zm k_p3_8 hp9
  have k_p8_9:H9 p8=some (.lst [.bl (decide (8=t)),.bl (decide (3=t)),.bl (decide (2=t)),.bl (decide (4=t)),.bl (decide (9=t)),.bl (decide (13=t)),.bl (decide (7=t)),.bl (decide (6=t)),.bl (decide (12=t))]):=e9 ▸ Zm k_p8_8 hp9
  rw [show upd H8 p9 (.lst (_))=H9 from e9]
  refine ⟨_,_,_,_,rfl,rfl,k_p8_9,k_p9_9,(by first | decide | exact Zt (by simp)),fun p10 hp10=>?_⟩
  obtain ⟨H10,e10⟩:∃ H10,upd H9 p10 (.lst [.bl (decide (8=t)),.bl (decide (3=t)),.bl (decide (2=t)),.bl (decide (4=t)),.bl (decide (9=t)),.bl (decide (13=t)),.bl (decide (7=t)),.bl (decide (6=t)),.bl (decide (12=t)),.bl (decide (5=t)),.bl (decide (1=t)),.bl (decide (11=t))])=H10:=⟨_,rfl⟩
  have hE10:H10 e=some (.ext (IsXD e (c t) dv)):=e10 ▸ Zm hE9 hp10
  have sm10:Same H H10:=e10 ▸ Yr sm9 hp10
  have k_p10_10:H10 p10=some (.lst [.bl (decide (8=t)),.bl (decide (3=t)),.bl (decide (2=t)),.bl (decide (4=t)),.bl (decide (9=t)),.bl (decide (13=t)),.bl (decide (7=t)),.bl (decide (6=t)),.bl (decide (12=t)),.bl (decide (5=t)),.bl (decide (1=t)),.bl (decide (11=t))]):=e10 ▸ Qs
  have k_p3_10:H10 p3=some (.lst (List.map V.str ["book", "deed", "house", "letter", "manner", "name", "plan", "road", "row", "stand", "table"] ++ List.map V.str ["text", "short", "many"])):=e10 ▸ Zm k_p3_9 hp10
  have k_p8_10:H10 p8=some (.lst [.bl (decide (8=t)),.bl (decide (3=t)),.bl (decide (2=t)),.bl (decide (4=t)),.bl (decide (9=t)),.bl (decide (13=t)),.bl (decide (7=t)),.bl (decide (6=t)),.bl (decide (12=t))]):=e10 ▸ Zm k_p8_9 hp10
  rw [show upd H9 p10 (.lst ([.bl (decide (8=t)),.bl (decide (3=t)),.bl (decide (2=t)),.bl (decide (4=t)),.bl (decide (9=t)),.bl (decide (13=t)),.bl (decide (7=t)),.bl (decide (6=t)),.bl (decide (12=t))] ++ [.bl (decide (5=t)),.bl (decide (1=t)),.bl (decide (11=t))]))=H10 from e10]
  refine ⟨_,rfl,?_⟩
  refine ⟨_,rfl,e,_,_,_,_,decide (14=t),rfl,rfl,hE10,T0.xc,T0.k 14 (by decide) (by decide),?_⟩
  refine ⟨_,rfl,e,_,_,_,_,decide (10=t),rfl,rfl,hE10,T0.xc,T0.k 10 (by decide) (by decide),?_⟩
  refine ⟨by first | decide | exact Zt (by simp),fun p11 hp11=>?_⟩
  obtain ⟨H11,e11⟩:∃ H11,upd H10 p11 (.lst [.bl (decide (14=t)),.bl (decide (10=t))])=H11:=⟨_,rfl⟩
  have hE11:H11 e=some (.ext (IsXD e (c t) dv)):=e11 ▸ Zm hE10 hp11
  have sm11:Same H H11:=e11 ▸ Yr sm10 hp11
  have k_p11_11:H11 p11=some (.lst [.bl (decide (14=t)),.bl (decide (10=t))]):=e11 ▸ Qs
  have k_p3_11:H11 p3=some (.lst (List.map V.str ["book", "deed", "house", "letter", "manner", "name", "plan", "road", "row", "stand", "table"] ++ List.map V.str ["text", "short", "many"])):=e11 ▸ Zm k_p3_10 hp11
  have k_p10_11:H11 p10=some (.lst [.bl (decide (8=t)),.bl (decide (3=t)),.bl (decide (2=t)),.bl (decide (4=t)),.bl (decide (9=t)),.bl (decide (13=t)),.bl (decide (7=t)),.bl (decide (6=t)),.bl (decide (12=t)),.bl (decide (5=t)),.bl (decide (1=t)),.bl (decide (11=t))]):=e11 ▸ Zm k_p10_10 hp11
  rw [show upd H10 p11 (.lst (_))=H11 from e11]
  refine ⟨_,_,_,_,rfl,rfl,k_p10_11,k_p11_11,(by first | decide | exact Zt (by simp)),fun p12 hp12=>?_⟩
  obtain ⟨H12,e12⟩:∃ H12,upd H11 p12 (.lst [.bl (decide (8=t)),.bl (decide (3=t)),.bl (decide (2=t)),.bl (decide (4=t)),.bl (decide (9=t)),.bl (decide (13=t)),.bl (decide (7=t)),.bl (decide (6=t)),.bl (decide (12=t)),.bl (decide (5=t)),.bl (decide (1=t)),.bl (decide (11=t)),.bl (decide (14=t)),.bl (decide (10=t))])=H12:=⟨_,rfl⟩
  have hE12:H12 e=some (.ext (IsXD e (c t) dv)):=e12 ▸ Zm hE11 hp12
  have sm12:Same H H12:=e12 ▸ Yr sm11 hp12
  have k_p12_12:H12 p12=some (.lst [.bl (decide (8=t)),.bl (decide (3=t)),.bl (decide (2=t)),.bl (decide (4=t)),.bl (decide (9=t)),.bl (decide (13=t)),.bl (decide (7=t)),.bl (decide (6=t)),.bl (decide (12=t)),.bl (decide (5=t)),.bl (decide (1=t)),.bl (decide (11=t)),.bl (decide (14=t)),.bl (decide (10=t))]):=e12 ▸ Qs
  have k_p3_12:H12 p3=some (.lst (List.map V.str ["book", "deed", "house", "letter", "manner", "name", "plan", "road", "row", "stand", "table"] ++ List.map V.str ["text", "short", "many"])):=e12 ▸ Zm k_p3_11 hp12
  have k_p10_12:H12 p10=some (.lst [.bl (decide (8=t)),.bl (decide (3=t)),.bl (decide (2=t)),.bl (decide (4=t)),.bl (decide (9=t)),.bl (decide (13=t)),.bl (decide (7=t)),.bl (decide (6=t)),.bl (decide (12=t)),.bl (decide (5=t)),.bl (decide (1=t)),.bl (decide (11=t))]):=e12 ▸ Zm k_p10_11 hp12
  rw [show upd H11 p12 (.lst ([.bl (decide (8=t)),.bl (decide (3=t)),.bl (decide (2=t)),.bl (decide (4=t)),.bl (decide (9=t)),.bl (decide (13=t)),.bl (decide (7=t)),.bl (decide (6=t)),.bl (decide (12=t)),.bl (decide (5=t)),.bl (decide (1=t)),.bl (decide (11=t))] ++ [.bl (decide (14=t)),.bl (decide (10=t))]))=H12 from e12]
  simp only [kdL,D5,Prod.mk.injEq,List.not_mem_nil,or_false] at hm
  rcases hm with ⟨rfl,rfl⟩ | ⟨rfl,rfl⟩ | ⟨rfl,rfl⟩ | ⟨rfl,rfl⟩ | ⟨rfl,rfl⟩
  · refine ⟨_,rfl,.inl ⟨rfl,_,.inl (.inl k_p12_12)⟩,_,[false,false,false,false,false,false,false,false,false,false,true,false,false,false],rfl,rfl,k_p12_12,rfl,_,rfl,iteF ?_⟩
    refine ⟨_,rfl,e,_,_,_,_,true,rfl,rfl,hE12,T0.xc,W0,_,rfl,iteF ?_⟩
    refine ⟨_,rfl,e,_,_,_,_,true,rfl,rfl,hE12,T0.xc,T0.ve,_,rfl,iteF ?_⟩
    refine ⟨_,rfl,?_⟩
    refine ⟨_,rfl,.inl ⟨rfl,_,.inl (.inl k_p12_12)⟩,_,[false,false,false,false,false,false,false,false,false,false,true,false,false,false],10,rfl,rfl,k_p12_12,by decide,rfl,noB _ _ (by decide) (by decide),?_⟩
    refine ⟨_,_,_,_,rfl,rfl,.inl (.inl k_p3_12),rfl,?_⟩
    exact hQ _ sm12
  · refine ⟨_,rfl,.inl ⟨rfl,_,.inl (.inl k_p12_12)⟩,_,[false,false,true,false,false,false,false,false,false,false,false,false,false,false],rfl,rfl,k_p12_12,rfl,_,rfl,iteF ?_⟩
    refine ⟨_,rfl,e,_,_,_,_,true,rfl,rfl,hE12,T0.xc,W0,_,rfl,iteF ?_⟩
    refine ⟨_,rfl,e,_,_,_,_,true,rfl,rfl,hE12,T0.xc,T0.ve,_,rfl,iteF ?_⟩
    refine ⟨_,rfl,?_⟩
    refine ⟨_,rfl,.inl ⟨rfl,_,.inl (.inl k_p12_12)⟩,_,[false,false,true,false,false,false,false,false,false,false,false,false,false,false],2,rfl,rfl,k_p12_12,by decide,rfl,noB _ _ (by decide) (by decide),?_⟩
    refine ⟨_,_,_,_,rfl,rfl,.inl (.inl k_p3_12),rfl,?_⟩
    exact hQ _ sm12
  · refine ⟨_,rfl,.inl ⟨rfl,_,.inl (.inl k_p12_12)⟩,_,[false,true,false,false,false,false,false,false,false,false,false,false,false,false],rfl,rfl,k_p12_12,rfl,_,rfl,iteF ?_⟩
    refine ⟨_,rfl,e,_,_,_,_,true,rfl,rfl,hE12,T0.xc,W0,_,rfl,iteF ?_⟩
    refine ⟨_,rfl,e,_,_,_,_,true,rfl,rfl,hE12,T0.xc,T0.ve,_,rfl,iteF ?_⟩
    refine ⟨_,rfl,?_⟩
    refine ⟨_,rfl,.inl ⟨rfl,_,.inl (.inl k_p12_12)⟩,_,[false,true,false,false,false,false,false,false,false,false,false,false,false,false],1,rfl,rfl,k_p12_12,by decide,rfl,noB _ _ (by decide) (by decide),?_⟩
    refine ⟨_,_,_,_,rfl,rfl,.inl (.inl k_p3_12),rfl,?_⟩
    exact hQ _ sm12
  · refine ⟨_,rfl,.inl ⟨rfl,_,.inl (.inl k_p12_12)⟩,_,[false,false,false,true,false,false,false,false,false,false,false,false,false,false],rfl,rfl,k_p12_12,rfl,_,rfl,iteF ?_⟩
    refine ⟨_,rfl,e,_,_,_,_,true,rfl,rfl,hE12,T0.xc,W0,_,rfl,iteF ?_⟩
    refine ⟨_,rfl,e,_,_,_,_,true,rfl,rfl,hE12,T0.xc,T0.ve,_,rfl,iteF ?_⟩
    refine ⟨_,rfl,?_⟩
    refine ⟨_,rfl,.inl ⟨rfl,_,.inl (.inl k_p12_12)⟩,_,[false,false,false,true,false,false,false,false,false,false,false,false,false,false],3,rfl,rfl,k_p12_12,by decide,rfl,noB _ _ (by decide) (by decide),?_⟩
    refine ⟨_,_,_,_,rfl,rfl,.inl (.inl k_p3_12),rfl,?_⟩
    exact hQ _ sm12
  · refine ⟨_,rfl,.inl ⟨rfl,_,.inl (.inl k_p12_12)⟩,_,[false,false,false,false,false,false,false,false,false,false,false,false,true,false],rfl,rfl,k_p12_12,rfl,_,rfl,iteF ?_⟩
    refine ⟨_,rfl,e,_,_,_,_,true,rfl,rfl,hE12,T0.xc,W0,_,rfl,iteF ?_⟩
    refine ⟨_,rfl,e,_,_,_,_,true,rfl,rfl,hE12,T0.xc,T0.ve,_,rfl,iteF ?_⟩
    refine ⟨_,rfl,?_⟩
    refine ⟨_,rfl,.inl ⟨rfl,_,.inl (.inl k_p12_12)⟩,_,[false,false,false,false,false,false,false,false,false,false,false,false,true,false],12,rfl,rfl,k_p12_12,by decide,rfl,noB _ _ (by decide) (by decide),?_⟩
    refine ⟨_,_,_,_,rfl,rfl,.inl (.inl k_p3_12),rfl,?_⟩
    exact hQ _ sm12
def Jr (C:Addr):MS:=(Yw (toB (mOp oEq (Q5 1) (mC (.str "house")))) (Wy (mMake C 3 (Jg C) (Q2 (mOp oIx (Q5 2) (mC (.int 0))) (Q2 (mOp oIx (Q5 2) (mC (.int 1))) Q8)))) (Yw (toB (mOp oEq (Q5 1) (mC (.str "make")))) (Wy (Wx C "make" 2 (Zg C) (Q5 0) (Q2 (mOp oIx (Q5 2) (mC (.int 0))) Q8))) (Yw (toB (mOp oEq (Q5 1) (mC (.str "lend")))) (Wy (Wx C "lend" 3 (Yp C) (Q5 0) (Q2 (mOp oIx (Q5 2) (mC (.int 0))) (Q2 (mOp oIx (Q5 2) (mC (.int 1))) Q8)))) (Yw (toB (mOp oEq (Q5 1) (mC (.str "use")))) (Wy (Wx C "use" 2 (Wc C) (Q5 0) (Q2 (mOp oIx (Q5 2) (mC (.int 0))) Q8))) (Wy (Wx C "come" 2 (Z3 C) (Q5 0) (Q2 (mOp oIx (Q5 2) (mC (.int 0))) Q8)))))))
def U8 (C:Addr):FN:=fun ps st=>match Jr C (ps.map some ++ [some .non,none]) st with
  | .nx Γ st1=>(match (Γ:Gam)[3]? with | some (some PV.non)=>.ok (.str "") st1 | _=>.stuck)
  | .exc x st1=>if x.cls = "NoTable" then .ok (.str "table") st1 else if x.cls = "NoHouse" then .ok (.str "house") st1 else if x.cls = "NoDeed" then .ok (.str "deed") st1 else if x.cls = "NoLetter" then .ok (.str "letter") st1 else if x.cls = "Short" then .ok (.str "short") st1 else .stuck
  | _=>.stuck
theorem sc__law_acaught:FnScope ["house", "way", "things", "caught", "e"] ["house", "way", "things"] (Q9 Xr):=⟨rfl,rfl,rfl,by decide +kernel,rfl,by decide +kernel,by decide +kernel⟩
theorem ok__law_acaught {f:Addr} {fd:FuncData} {c:Nat->Addr} {C:Addr} (F:Fun K "_law_acaught" "_law_acaught" Xr f fd) (T:Txt mg) (TC:ClsT K C) (Nm:Nms mg c) (TT:∀ t wd,(t,wd)∈kdL->TgtS K c t/\PySem.W.kitOne K (.ref (c t)) (.ref (c 0))=some true) (M_House:MakeS P w K mg base 8 C "House" 3 (Jg C)) (D_House_make:MethS P w K mg base 6 C "make" 2 (Zg C)) (D_House_lend:MethS P w K mg base 6 C "lend" 3 (Yp C)) (D_House_use:MethS P w K mg base 6 C "use" 2 (Wc C)) (D_House_come:MethS P w K mg base 3 C "come" 2 (Z3 C)) (D__law_akind:DefX P w K mg base 1 "_law_akind" ["caught"] (spKd c)):FnOk P w K mg base (CXD P w) 10 f fd ["house", "way", "things"] (spF mg 3 (U8 C)):=by
  obtain ⟨fX,fdX,FX,mX,kX,bX⟩:=D__law_akind.ex
  refine Fun.okD (k:=9) F sc__law_acaught (fun vs H Q E h=>h.1) fun cdv A outer s H vs Q E hr hsp=>?_
  obtain ⟨hl,ρ,st0,pvs,R,rl,hA⟩:=hsp
  refine ⟨_,pss_cons (ps_set (i:=3) sc__law_acaught.nd rfl (Or.inl rfl) pe_non)
      (pss_cons ps_w
      (pss_cons (ps_if (pt_cmpR op_isN (pv 3) pe_non (nomark _)) (pss_one (ps_ret pe_str)) pss_nil)
      (pss_one (ps_ret (pe_call (x := "_law_akind") (E:=E) FX (hr.mono (by decide)) (by rfl) mX kX bX .nil Qa (Qx (pv 3) Z6)))))),?_⟩
  match vs,hl with
  | [v0,v1,v2],hl=>
  obtain ⟨q0,q1,q2,e,r0,r1,r2⟩:=repL_3' rl
  subst e
  have Ge:EnvR H ρ [some q0,some q1,some q2,some .non,none] [some v0,some v1,some v2,some .non,none]:=⟨rfl,fun i p e=>match i,e with
    | 0,e=>by cases e; exact ⟨_,rfl,r0⟩
    | 1,e=>by cases e; exact ⟨_,rfl,r1⟩
    | 2,e=>by cases e; exact ⟨_,rfl,r2⟩
    | 3,e=>by cases e; exact ⟨_,rfl,rfl⟩
    | 4,e=>by cases e
    | _ + 5,e=>by cases e⟩
  refine try_run (mb:=Jr C) (Γ:=[some q0,some q1,some q2,some .non,none]) (i:=4) (cn := "WharfError") (ts:=fun _=>tAsg (tVar 4) (gName 3)) (fun _ _=>(Qh (Zh (Jk (Uc hr.units) (Q1 1) J2) (Qh (Yj (se_make M_House (hr.mono (by decide)) pass_try rfl (Q0 (J8 (Q1 2) Qb) (Q0 (J8 (Q1 2) Qb) Q6))))) (Qh (Zh (Jk (Uc hr.units) (Q1 1) J2) (Qh (Yj (se_meth TC.cl D_House_make (hr.mono (by decide)) pass_try (Q1 0) (Q0 (J8 (Q1 2) Qb) Q6)))) (Qh (Zh (Jk (Uc hr.units) (Q1 1) J2) (Qh (Yj (se_meth TC.cl D_House_lend (hr.mono (by decide)) pass_try (Q1 0) (Q0 (J8 (Q1 2) Qb) (Q0 (J8 (Q1 2) Qb) Q6))))) (Qh (Zh (Jk (Uc hr.units) (Q1 1) J2) (Qh (Yj (se_meth TC.cl D_House_use (hr.mono (by decide)) pass_try (Q1 0) (Q0 (J8 (Q1 2) Qb) Q6)))) (Qh (Yj (se_meth TC.cl D_House_come (hr.mono (by decide)) pass_try (Q1 0) (Q0 (J8 (Q1 2) Qb) Q6))))))))))))) sc__law_acaught.nd rfl rfl (fun e=>pss_one (ps_set (i:=3) sc__law_acaught.nd rfl (Or.inl rfl) (pv 4))) Nm.m0 rfl (by intro b z; exact absurd (show b∈([]:List Addr) from z) (by simp)) rfl rfl (by decide) R Ge ?_
  have hA:Acc mg E H ρ (QV Q) (match Jr C [some q0,some q1,some q2,some .non,none] st0 with
    | .nx Γ st1=>(match (Γ:Gam)[3]? with | some (some PV.non)=>.ok (.str "") st1 | _=>.stuck)
    | .exc x st1=>if x.cls = "NoTable" then .ok (.str "table") st1 else if x.cls = "NoHouse" then .ok (.str "house") st1 else if x.cls = "NoDeed" then .ok (.str "deed") st1 else if x.cls = "NoLetter" then .ok (.str "letter") st1 else if x.cls = "Short" then .ok (.str "short") st1 else .stuck
    | _=>.stuck):=hA
  cases hr:Jr C [some q0,some q1,some q2,some .non,none] st0 with
  | nx Γ1 st1=>
    rw [hr] at hA
    dsimp only at hA
    split at hA
    · rename_i eΓ
      intro σ' H' ρ' x' R' G'
      obtain ⟨v,e3,rv⟩:=G'.2 3 _ eΓ
      have rv:v=.non:=rv
      subst rv
      exact ⟨.non,e3,rfl,_,rfl,iteT (hA H' ρ' x' R' _ rfl)⟩
    · exact hA.elim
  | exc x st1=>
    rw [hr] at hA
    dsimp only at hA
    by_cases hx1:x.cls = "NoTable"
    · rw [if_pos hx1] at hA
      intro C dv H1 ρ1 hm x1 R1 fs
      have hm:mg x.cls=some (.ref C):=hm
      rw [hx1,Nm.m1] at hm
      cases hm
      refine ⟨_,rfl,(TT 1 "table" (by simp [kdL])).1.ex,fun e he σ1 hl1=>?_⟩
      have x2:Ext H1 ρ1 (upd H1 e (.ext (IsXD e (c 1) dv))) ρ1:=Ext.add he
      have R2:=R1.add (o:=.ext (IsXD e (c 1) dv)) he
      match σ1,hl1 with
      | [_,_,_,_,_],_=>
      refine ⟨_,rfl,_,rfl,rfl,_,rfl,iteF ?_⟩
      exact ⟨_,rfl,e,dv,1, "table",rfl,by simp [kdL],Qs,fun H2 sm=>hA _ _ ((x1.trans x2).trans (Ext.same sm)) (R2.same sm) _ rfl⟩
    · rw [if_neg hx1] at hA
      by_cases hx2:x.cls = "NoHouse"
      · rw [if_pos hx2] at hA
        intro C dv H1 ρ1 hm x1 R1 fs
        have hm:mg x.cls=some (.ref C):=hm
        rw [hx2,Nm.m2] at hm
        cases hm
        refine ⟨_,rfl,(TT 2 "house" (by simp [kdL])).1.ex,fun e he σ1 hl1=>?_⟩
        have x2:Ext H1 ρ1 (upd H1 e (.ext (IsXD e (c 2) dv))) ρ1:=Ext.add he
        have R2:=R1.add (o:=.ext (IsXD e (c 2) dv)) he
        match σ1,hl1 with
        | [_,_,_,_,_],_=>
        refine ⟨_,rfl,_,rfl,rfl,_,rfl,iteF ?_⟩
        exact ⟨_,rfl,e,dv,2, "house",rfl,by simp [kdL],Qs,fun H2 sm=>hA _ _ ((x1.trans x2).trans (Ext.same sm)) (R2.same sm) _ rfl⟩
      · rw [if_neg hx2] at hA
        by_cases hx3:x.cls = "NoDeed"
        · rw [if_pos hx3] at hA
          intro C dv H1 ρ1 hm x1 R1 fs
          have hm:mg x.cls=some (.ref C):=hm
          rw [hx3,Nm.m3] at hm
          cases hm
          refine ⟨_,rfl,(TT 3 "deed" (by simp [kdL])).1.ex,fun e he σ1 hl1=>?_⟩
          have x2:Ext H1 ρ1 (upd H1 e (.ext (IsXD e (c 3) dv))) ρ1:=Ext.add he
          have R2:=R1.add (o:=.ext (IsXD e (c 3) dv)) he
          match σ1,hl1 with
          | [_,_,_,_,_],_=>
          refine ⟨_,rfl,_,rfl,rfl,_,rfl,iteF ?_⟩
          exact ⟨_,rfl,e,dv,3, "deed",rfl,by simp [kdL],Qs,fun H2 sm=>hA _ _ ((x1.trans x2).trans (Ext.same sm)) (R2.same sm) _ rfl⟩
        · rw [if_neg hx3] at hA
          by_cases hx4:x.cls = "NoLetter"
          · rw [if_pos hx4] at hA
            intro C dv H1 ρ1 hm x1 R1 fs
            have hm:mg x.cls=some (.ref C):=hm
            rw [hx4,Nm.m4] at hm
            cases hm
            refine ⟨_,rfl,(TT 4 "letter" (by simp [kdL])).1.ex,fun e he σ1 hl1=>?_⟩
            have x2:Ext H1 ρ1 (upd H1 e (.ext (IsXD e (c 4) dv))) ρ1:=Ext.add he
            have R2:=R1.add (o:=.ext (IsXD e (c 4) dv)) he
            match σ1,hl1 with
            | [_,_,_,_,_],_=>
            refine ⟨_,rfl,_,rfl,rfl,_,rfl,iteF ?_⟩
            exact ⟨_,rfl,e,dv,4, "letter",rfl,by simp [kdL],Qs,fun H2 sm=>hA _ _ ((x1.trans x2).trans (Ext.same sm)) (R2.same sm) _ rfl⟩
          · rw [if_neg hx4] at hA
            by_cases hx14:x.cls = "Short"
            · rw [if_pos hx14] at hA
              intro C dv H1 ρ1 hm x1 R1 fs
              have hm:mg x.cls=some (.ref C):=hm
              rw [hx14,Nm.m14] at hm
              cases hm
              refine ⟨_,rfl,(TT 14 "short" (by simp [kdL])).1.ex,fun e he σ1 hl1=>?_⟩
              have x2:Ext H1 ρ1 (upd H1 e (.ext (IsXD e (c 14) dv))) ρ1:=Ext.add he
              have R2:=R1.add (o:=.ext (IsXD e (c 14) dv)) he
              match σ1,hl1 with
              | [_,_,_,_,_],_=>
              refine ⟨_,rfl,_,rfl,rfl,_,rfl,iteF ?_⟩
              exact ⟨_,rfl,e,dv,14, "short",rfl,by simp [kdL],Qs,fun H2 sm=>hA _ _ ((x1.trans x2).trans (Ext.same sm)) (R2.same sm) _ rfl⟩
            · rw [if_neg hx14] at hA
              exact hA.elim
  | _=>rw [hr] at hA; exact hA.elim
def Wh : MS := (Qm (Jc 2 (Ja Yh (Q2 (Q5 1) Q8)))
    (Qm (Jc 3 (Qi 2 Qe (Q2 (Q5 0) (Q2 (Q5 2) Q8))))
    (Qm (Yw (tAndM (toB (mOp (oI fun a b=>.bl (decide (b < a))) (Q5 2) (mC (.int 1)))) (toB (mOp oEq (Qi 2 Qe (Q2 (Q5 0) (Q2 (mC (.int 2)) Q8))) (mC (.int 0))))) (Qm (Jc 4 (mOp oMod (mOp Js (Q5 3) (mC (.int 1))) (Q5 2)))
    (Z1 (Qi 4 J9 (Q2 (Qi 4 J9 (Q2 (Qi 1 Y1 (Q2 (Q5 2) Q8)) (Q2 (Q5 3) (Q2 (Q5 4) (Q2 (mC (.int 3)) Q8))))) (Q2 (Q5 4) (Q2 (Q5 3) (Q2 (mC (.int 3)) Q8))))))) Zi)
    (Z1 (Qi 4 J9 (Q2 (Q5 1) (Q2 (Q5 3) (Q2 (Q5 2) (Q2 (mOp Js (mC (.int 1)) (Ja cMax (Q2 (mC (.int 0)) (Q2 (Qi 2 Zp (Q2 (Q5 1) (Q2 (Q5 3) Q8))) Q8)))) Q8)))))))))
def Yg:FN:=Qn Wh 5
theorem sc__law_ano_table:FnScope ["tape", "table", "size", "i", "j"] ["tape", "table"] (Q9 Ud):=⟨rfl,rfl,rfl,by decide +kernel,rfl,by decide +kernel,by decide +kernel⟩
theorem ok__law_ano_table {f:Addr} {fd:FuncData} (F:Fun K "_law_ano_table" "_law_ano_table" Ud f fd) (T:Txt mg)  (D__law_adigit:DefS P w K mg base 1 "_law_adigit" 2 Qe) (D__law_araised:DefS P w K mg base 1 "_law_araised" 4 J9) (D__law_abare:DefS P w K mg base 1 "_law_abare" 1 Y1) (D__law_arights:DefS P w K mg base 1 "_law_arights" 2 Zp):FnOk P w K mg base (CXD P w) 2 f fd ["tape", "table"] (spF mg 2 Yg):=by
  refine Qz (k:=1) (m:=Wh) F sc__law_ano_table rfl rfl rfl fun cdv A outer s H E hr=>?_
  exact (Qc (Qu 2 sc__law_ano_table.nd (Qv Y3 rfl T.b_len PySem.boot_len (Q0 (Q1 1) Q6)))
    (Qc (Qu 3 sc__law_ano_table.nd (Qf D__law_adigit (hr.mono (by decide)) Qa rfl (Q0 (Q1 0) (Q0 (Q1 2) Q6))))
    (Qc (Zh (SimW.t (sw_and (Jk os_gt (Q1 2) Qb) (sw_and1 (Jk (Uc hr.units) (Qf D__law_adigit (hr.mono (by decide)) Qa rfl (Q0 (Q1 0) (Q0 Qb Q6))) Qb)))) (Qc (Qu 4 sc__law_ano_table.nd (J0 os_mod (J0 J4 (Q1 3) Qb) (Q1 2)))
    (Qh (Qy (Qf D__law_araised (hr.mono (by decide)) Qa rfl (Q0 (Qf D__law_araised (hr.mono (by decide)) Qa rfl (Q0 (Qf D__law_abare (hr.mono (by decide)) Qa rfl (Q0 (Q1 2) Q6)) (Q0 (Q1 3) (Q0 (Q1 4) (Q0 Qb Q6))))) (Q0 (Q1 4) (Q0 (Q1 3) (Q0 Qb Q6)))))))) Z4)
    (Qh (Qy (Qf D__law_araised (hr.mono (by decide)) Qa rfl (Q0 (Q1 1) (Q0 (Q1 3) (Q0 (Q1 2) (Q0 (J0 J4 Qb (Qv (cs_max rfl) rfl T.b_max boot_max (Q0 Qb (Q0 (Qf D__law_arights (hr.mono (by decide)) Qa rfl (Q0 (Q1 1) (Q0 (Q1 3) Q6))) Q6)))) Q6))))))))))
def m__law_atold (C:Addr):MS:=(Z1 (Ji (Q2 (Wx C "table" 1 (Zj C) (Q5 0) Q8) (Q2 (Wx C "letter" 1 (Wd C) (Q5 0) Q8) (Q2 (Wx C "rights" 1 (Zq C) (Q5 0) Q8) (Q2 (Wx C "used" 1 (U9 C) (Q5 0) Q8) Q8))))))
def U6 (C:Addr):FN:=Qn (m__law_atold C) 1
theorem sc__law_atold:FnScope ["house"] ["house"] (Q9 s__law_atold):=⟨rfl,rfl,rfl,by decide +kernel,rfl,by decide +kernel,by decide +kernel⟩
theorem ok__law_atold {f:Addr} {fd:FuncData} {C:Addr} (F:Fun K "_law_atold" "_law_atold" s__law_atold f fd) (T:Txt mg) (TC:ClsT K C)   (D_House_table:MethS P w K mg base 1 C "table" 1 (Zj C)) (D_House_letter:MethS P w K mg base 1 C "letter" 1 (Wd C)) (D_House_rights:MethS P w K mg base 5 C "rights" 1 (Zq C)) (D_House_used:MethS P w K mg base 1 C "used" 1 (U9 C)):FnOk P w K mg base (CXD P w) 6 f fd ["house"] (spF mg 1 (U6 C)):=by
  refine Qz (k:=5) (m:=(m__law_atold C)) F sc__law_atold rfl rfl rfl fun cdv A outer s H E hr=>?_
  exact (Qh (Qy (Jb (Q0 (Ux TC.cl D_House_table (hr.mono (by decide)) Qa (Q1 0)) (Q0 (Ux TC.cl D_House_letter (hr.mono (by decide)) Qa (Q1 0)) (Q0 (Ux TC.cl D_House_rights (hr.mono (by decide)) Qa (Q1 0)) (Q0 (Ux TC.cl D_House_used (hr.mono (by decide)) Qa (Q1 0)) Q6)))))))
def b_law_2 (C:Addr):MS:=(Yw (tOrM (toB (mOp oNe (Qi 3 (U8 C) (Q2 (Q5 6) (Q2 (Q5 15) (Q2 (Q5 16) Q8)))) (Q5 17))) (toB (mOp oNe (Qi 1 (U6 C) (Q2 (Q5 6) Q8)) (Q5 7)))) (Z1 (mC (.bl false))) Zi)
def b_law_1 (C : Addr) : MS := (Qm (Jc 4 (Qi 2 Zf (Q2 (Q5 0) (Q2 (Q5 3) Q8))))
    (Qm (Jc 5 (Qi 2 Qe (Q2 (Q5 4) (Q2 (Q5 2) Q8))))
    (Qm (Jc 6 (mMake C 3 (Jg C) (Q2 (Q5 5) (Q2 (Q5 1) Q8))))
    (Qm (Wy (Wx C "make" 2 (Zg C) (Q5 6) (Q2 (mOp Js (mC (.int 1)) (Qi 2 Qe (Q2 (Q5 4) (Q2 (mC (.int 9)) Q8)))) Q8)))
    (Qm (Yw (toB (mOp oEq (Qi 2 Qe (Q2 (Q5 4) (Q2 (mC (.int 2)) Q8))) (mC (.int 0)))) (Wy (Wx C "keep" 1 (Wm C) (Q5 6) Q8)) Zi)
    (Qm (Jc 7 (Qi 1 (U6 C) (Q2 (Q5 6) Q8)))
    (Qm (Jc 8 (Qi 2 Yg (Q2 (Q5 4) (Q2 (Q5 1) Q8))))
    (Qm (Jc 9 (mOp oIx (mLst (Q2 (Q5 2) (Q2 (mNeg (mC (.int 1))) (Q2 (mOp Js (Q5 2) (mC (.int 3))) (Q2 (mOp oPow (mC (.int 10)) (mC (.int 29))) Q8))))) (Qi 2 Qe (Q2 (Q5 4) (Q2 (mC (.int 4)) Q8)))))
    (Qm (Jc 10 (mOp oIx (mLst (Q2 (mC (.int 0)) (Q2 (mNeg (mC (.int 1))) (Q2 (mNeg (mOp oPow (mC (.int 10)) (mC (.int 20)))) Q8)))) (Qi 2 Qe (Q2 (Q5 4) (Q2 (mC (.int 3)) Q8)))))
    (Qm (Jc 11 (mOp Js (mOp Js (Wx C "rights" 1 (Zq C) (Q5 6) Q8) (mC (.int 1))) (Qi 2 Qe (Q2 (Q5 4) (Q2 (mC (.int 3)) Q8)))))
    (Qm (Jc 12 (Qi 4 J9 (Q2 (Wx C "table" 1 (Zj C) (Q5 6) Q8) (Q2 (Q5 5) (Q2 (Qi 2 Qe (Q2 (Q5 4) (Q2 (mOp Js (Q5 2) (mC (.int 1))) Q8))) (Q2 (mC (.int 1)) Q8))))))
    (Qm (Jc 13 (Qi 1 Y1 (Q2 (mOp oIx (mLst (Q2 (mOp Js (Q5 2) (mC (.int 1))) (Q2 (mC (.int 1)) Q8))) (Ja cIntB (Q2 (mOp oEq (Q5 2) (mC (.int 8))) Q8))) Q8)))
    (Qm (Jc 14 (mLst (Q2 (Ji (Q2 (mC (.str "house")) (Q2 (Ji (Q2 (Q5 5) (Q2 (Q5 8) Q8))) (Q2 (mC (.str "table")) Q8)))) (Q2 (Ji (Q2 (mC (.str "house")) (Q2 (Ji (Q2 (Q5 9) (Q2 (Q5 8) Q8))) (Q2 (mC (.str "table")) Q8)))) (Q2 (Ji (Q2 (mC (.str "house")) (Q2 (Ji (Q2 (Q5 9) (Q2 (Q5 1) Q8))) (Q2 (mC (.str "house")) Q8)))) Q8)))))
    (Qm (Jc 14 (mOp Js (Q5 14) (mLst (Q2 (Ji (Q2 (mC (.str "make")) (Q2 (Ji (Q2 (Q5 10) Q8)) (Q2 (mC (.str "deed")) Q8)))) (Q2 (Ji (Q2 (mC (.str "use")) (Q2 (Ji (Q2 (Q5 10) Q8)) (Q2 (mC (.str "deed")) Q8)))) (Q2 (Ji (Q2 (mC (.str "lend")) (Q2 (Ji (Q2 (Q5 5) (Q2 (Q5 10) Q8))) (Q2 (mC (.str "deed")) Q8)))) Q8))))))
    (Qm (Jc 14 (mOp Js (Q5 14) (mLst (Q2 (Ji (Q2 (mC (.str "lend")) (Q2 (Ji (Q2 (Q5 9) (Q2 (Q5 10) Q8))) (Q2 (mC (.str "deed")) Q8)))) (Q2 (Ji (Q2 (mC (.str "lend")) (Q2 (Ji (Q2 (Q5 5) (Q2 (Q5 11) Q8))) (Q2 (mC (.str "house")) Q8)))) (Q2 (Ji (Q2 (mC (.str "lend")) (Q2 (Ji (Q2 (Q5 9) (Q2 (mC (.int 1)) Q8))) (Q2 (mC (.str "house")) Q8)))) Q8))))))
    (Qm (Jc 14 (mOp Js (Q5 14) (mLst (Q2 (Ji (Q2 (mC (.str "use")) (Q2 (Ji (Q2 (Q5 11) Q8)) (Q2 (mC (.str "short")) Q8)))) (Q2 (Ji (Q2 (mC (.str "come")) (Q2 (Ji (Q2 (Q5 13) Q8)) (Q2 (mC (.str "table")) Q8)))) (Q2 (Ji (Q2 (mC (.str "come")) (Q2 (Ji (Q2 (Q5 12) Q8)) (Q2 (mC (.str "letter")) Q8)))) Q8))))))
    (Qm (Yw (toB (mOp (oI fun a b=>.bl (decide (b < a))) (Q5 2) (mC (.int 1)))) (Jc 14 (mOp Js (Q5 14) (mLst (Q2 (Ji (Q2 (mC (.str "lend")) (Q2 (Ji (Q2 (mOp oMod (mOp Js (Q5 5) (mC (.int 1))) (Q5 2)) (Q2 (Q5 11) Q8))) (Q2 (mC (.str "short")) Q8)))) Q8)))) Zi)
    (Qm (mFor (K3 (Jv (Qp 15) (Jv (Qp 16) (Jv (Qp 17) K4)))) (mSeq (Q5 14)) (b_law_2 C))
    (Qm (Jc 18 (Qi 3 Y5 (Q2 (Q5 4) (Q2 (Q5 2) (Q2 (mC (.int 7)) Q8)))))
    (Qm (Jc 18 (mOp Js (mOp Js (mSl (Q5 18) Ze (Yv (Q5 5))) (Ji (Q2 (mOp oIx (Q5 1) (Q5 5)) Q8))) (mSl (Q5 18) (Yv (mOp Js (Q5 5) (mC (.int 1)))) Ze)))
    (Qm (Wy (Wx C "come" 2 (Z3 C) (Q5 6) (Q2 (Q5 18) Q8)))
    (Yw (toB (mOp oNe (Wx C "table" 1 (Zj C) (Q5 6) Q8) (Qi 2 U7 (Q2 (mOp oIx (Q5 7) (mC (.int 0))) (Q2 (Q5 18) Q8))))) (Z1 (mC (.bl false))) Zi))))))))))))))))))))))
def m_law (C : Addr) : MS := (Qm (Jc 1 (Qi 1 Uu (Q2 (Q5 0) Q8)))
    (Qm (Jc 2 (Ja Yh (Q2 (Q5 1) Q8)))
    (Qm (mFor (Qp 3) (mRange2 (Q2 (mC (.int 1)) (Q2 (Ja cMax (Q2 (mC (.int 4)) (Q2 (Ja cMin (Q2 (mC (.int 12)) (Q2 (Ja Yh (Q2 (Q5 0) Q8)) Q8))) Q8))) Q8))) (b_law_1 C))
    (Z1 (mC (.bl true))))))
def F_law (C:Addr):FN:=Qn (m_law C) 19
theorem sc_law:FnScope ["script", "start", "size", "k", "tape", "i", "house", "ahead", "bad", "wrong", "little", "more", "own", "greater", "due", "way", "things", "word", "other"] ["script"] (Q9 s_law):=⟨rfl,rfl,rfl,by decide +kernel,rfl,by decide +kernel,by decide +kernel⟩
theorem ok_law {f:Addr} {fd:FuncData} {C:Addr} (F:Fun K "law" "law" s_law f fd) (T:Txt mg) (TC:ClsT K C)  (D__law_abegun:DefS P w K mg base 4 "_law_abegun" 1 Uu) (D__law_atape:DefS P w K mg base 2 "_law_atape" 2 Zf) (D__law_adigit:DefS P w K mg base 1 "_law_adigit" 2 Qe) (D__law_atold:DefS P w K mg base 6 "_law_atold" 1 (U6 C)) (D__law_ano_table:DefS P w K mg base 2 "_law_ano_table" 2 Yg) (D__law_araised:DefS P w K mg base 1 "_law_araised" 4 J9) (D__law_abare:DefS P w K mg base 1 "_law_abare" 1 Y1) (D__law_acaught:DefS P w K mg base 10 "_law_acaught" 3 (U8 C)) (D__law_atable:DefS P w K mg base 3 "_law_atable" 3 Y5) (D__law_ajoined:DefS P w K mg base 1 "_law_ajoined" 2 U7) (M_House:MakeS P w K mg base 8 C "House" 3 (Jg C)) (D_House_make:MethS P w K mg base 6 C "make" 2 (Zg C)) (D_House_keep:MethS P w K mg base 1 C "keep" 1 (Wm C)) (D_House_rights:MethS P w K mg base 5 C "rights" 1 (Zq C)) (D_House_table:MethS P w K mg base 1 C "table" 1 (Zj C)) (D_House_come:MethS P w K mg base 3 C "come" 2 (Z3 C)):FnOk P w K mg base (CXD P w) 11 f fd ["script"] (spF mg 1 (F_law C)):=by
  refine Qz (k:=10) (m:=(m_law C)) F sc_law rfl rfl rfl fun cdv A outer s H E hr=>?_
  exact (Qc (Qu 1 sc_law.nd (Qf D__law_abegun (hr.mono (by decide)) Qa rfl (Q0 (Q1 0) Q6)))
    (Qc (Qu 2 sc_law.nd (Qv Y3 rfl T.b_len PySem.boot_len (Q0 (Q1 1) Q6)))
    (Qc (ss_for PassesOwn.leaving rfl (si_range2 rfl T.b_range (Q0 Qb (Q0 (Qv (cs_max rfl) rfl T.b_max boot_max (Q0 Qb (Q0 (Qv (cs_min rfl) rfl T.b_min boot_min (Q0 Qb (Q0 (Qv Y3 rfl T.b_len PySem.boot_len (Q0 (Q1 0) Q6)) Q6))) Q6))) Q6))) (J7 (i:=3) sc_law.nd) (Qc (Qu 4 sc_law.nd (Qf D__law_atape (hr.mono (by decide)) Qa rfl (Q0 (Q1 0) (Q0 (Q1 3) Q6))))
    (Qc (Qu 5 sc_law.nd (Qf D__law_adigit (hr.mono (by decide)) Qa rfl (Q0 (Q1 4) (Q0 (Q1 2) Q6))))
    (Qc (Qu 6 sc_law.nd (se_make M_House (hr.mono (by decide)) Qa rfl (Q0 (Q1 5) (Q0 (Q1 1) Q6))))
    (Qc (Yj (se_meth TC.cl D_House_make (hr.mono (by decide)) Qa (Q1 6) (Q0 (J0 J4 Qb (Qf D__law_adigit (hr.mono (by decide)) Qa rfl (Q0 (Q1 4) (Q0 Qb Q6)))) Q6)))
    (Qc (Zh (Jk (Uc hr.units) (Qf D__law_adigit (hr.mono (by decide)) Qa rfl (Q0 (Q1 4) (Q0 Qb Q6))) Qb) (Qh (Yj (Ux TC.cl D_House_keep (hr.mono (by decide)) Qa (Q1 6)))) Z4)
    (Qc (Qu 7 sc_law.nd (Qf D__law_atold (hr.mono (by decide)) Qa rfl (Q0 (Q1 6) Q6)))
    (Qc (Qu 8 sc_law.nd (Qf D__law_ano_table (hr.mono (by decide)) Qa rfl (Q0 (Q1 4) (Q0 (Q1 1) Q6))))
    (Qc (Qu 9 sc_law.nd (J8 (se_lst (Q0 (Q1 2) (Q0 (se_neg Qb) (Q0 (J0 J4 (Q1 2) Qb) (Q0 (J0 os_pow Qb Qb) Q6))))) (Qf D__law_adigit (hr.mono (by decide)) Qa rfl (Q0 (Q1 4) (Q0 Qb Q6)))))
    (Qc (Qu 10 sc_law.nd (J8 (se_lst (Q0 Qb (Q0 (se_neg Qb) (Q0 (se_neg (J0 os_pow Qb Qb)) Q6)))) (Qf D__law_adigit (hr.mono (by decide)) Qa rfl (Q0 (Q1 4) (Q0 Qb Q6)))))
    (Qc (Qu 11 sc_law.nd (J0 J4 (J0 J4 (Ux TC.cl D_House_rights (hr.mono (by decide)) Qa (Q1 6)) Qb) (Qf D__law_adigit (hr.mono (by decide)) Qa rfl (Q0 (Q1 4) (Q0 Qb Q6)))))
    (Qc (Qu 12 sc_law.nd (Qf D__law_araised (hr.mono (by decide)) Qa rfl (Q0 (Ux TC.cl D_House_table (hr.mono (by decide)) Qa (Q1 6)) (Q0 (Q1 5) (Q0 (Qf D__law_adigit (hr.mono (by decide)) Qa rfl (Q0 (Q1 4) (Q0 (J0 J4 (Q1 2) Qb) Q6))) (Q0 Qb Q6))))))
    (Qc (Qu 13 sc_law.nd (Qf D__law_abare (hr.mono (by decide)) Qa rfl (Q0 (J8 (se_lst (Q0 (J0 J4 (Q1 2) Qb) (Q0 Qb Q6))) (Xk cs_intB rfl T.b_int boot_int (Q0 (se_cmp (Uc hr.units) (Q1 2) Qb) Q6))) Q6)))
    (Qc (Qu 14 sc_law.nd (se_lst (Q0 (Jb (Q0 J2 (Q0 (Jb (Q0 (Q1 5) (Q0 (Q1 8) Q6))) (Q0 J2 Q6)))) (Q0 (Jb (Q0 J2 (Q0 (Jb (Q0 (Q1 9) (Q0 (Q1 8) Q6))) (Q0 J2 Q6)))) (Q0 (Jb (Q0 J2 (Q0 (Jb (Q0 (Q1 9) (Q0 (Q1 1) Q6))) (Q0 J2 Q6)))) Q6)))))
    (Qc (Qu 14 sc_law.nd (J0 J4 (Q1 14) (se_lst (Q0 (Jb (Q0 J2 (Q0 (Jb (Q0 (Q1 10) Q6)) (Q0 J2 Q6)))) (Q0 (Jb (Q0 J2 (Q0 (Jb (Q0 (Q1 10) Q6)) (Q0 J2 Q6)))) (Q0 (Jb (Q0 J2 (Q0 (Jb (Q0 (Q1 5) (Q0 (Q1 10) Q6))) (Q0 J2 Q6)))) Q6))))))
    (Qc (Qu 14 sc_law.nd (J0 J4 (Q1 14) (se_lst (Q0 (Jb (Q0 J2 (Q0 (Jb (Q0 (Q1 9) (Q0 (Q1 10) Q6))) (Q0 J2 Q6)))) (Q0 (Jb (Q0 J2 (Q0 (Jb (Q0 (Q1 5) (Q0 (Q1 11) Q6))) (Q0 J2 Q6)))) (Q0 (Jb (Q0 J2 (Q0 (Jb (Q0 (Q1 9) (Q0 Qb Q6))) (Q0 J2 Q6)))) Q6))))))
    (Qc (Qu 14 sc_law.nd (J0 J4 (Q1 14) (se_lst (Q0 (Jb (Q0 J2 (Q0 (Jb (Q0 (Q1 11) Q6)) (Q0 J2 Q6)))) (Q0 (Jb (Q0 J2 (Q0 (Jb (Q0 (Q1 13) Q6)) (Q0 J2 Q6)))) (Q0 (Jb (Q0 J2 (Q0 (Jb (Q0 (Q1 12) Q6)) (Q0 J2 Q6)))) Q6))))))
    (Qc (Zh (Jk os_gt (Q1 2) Qb) (Qh (Qu 14 sc_law.nd (J0 J4 (Q1 14) (se_lst (Q0 (Jb (Q0 J2 (Q0 (Jb (Q0 (J0 os_mod (J0 J4 (Q1 5) Qb) (Q1 2)) (Q0 (Q1 11) Q6))) (Q0 J2 Q6)))) Q6))))) Z4)
    (Qc (ss_for PassesOwn.leaving rfl (Xj (Q1 14)) (sg_tup rfl (Y9 (J7 (i:=15) sc_law.nd) (Y9 (J7 (i:=16) sc_law.nd) (Y9 (J7 (i:=17) sc_law.nd) sgs_nil)))) (Qh (Zh (SimW.t (sw_or (Jk (os_ne hr.units) (Qf D__law_acaught (hr.mono (by decide)) Qa rfl (Q0 (Q1 6) (Q0 (Q1 15) (Q0 (Q1 16) Q6)))) (Q1 17)) (sw_or1 (Jk (os_ne hr.units) (Qf D__law_atold (hr.mono (by decide)) Qa rfl (Q0 (Q1 6) Q6)) (Q1 7))))) (Qh (Qy se_bl)) Z4)))
    (Qc (Qu 18 sc_law.nd (Qf D__law_atable (hr.mono (by decide)) Qa rfl (Q0 (Q1 4) (Q0 (Q1 2) (Q0 Qb Q6)))))
    (Qc (Qu 18 sc_law.nd (J0 J4 (J0 J4 (Yq (Q1 18) Vi (Wf (Q1 5))) (Jb (Q0 (J8 (Q1 1) (Q1 5)) Q6))) (Yq (Q1 18) (Wf (J0 J4 (Q1 5) Qb)) Vi)))
    (Qc (Yj (se_meth TC.cl D_House_come (hr.mono (by decide)) Qa (Q1 6) (Q0 (Q1 18) Q6)))
    (Qh (Zh (Jk (os_ne hr.units) (Ux TC.cl D_House_table (hr.mono (by decide)) Qa (Q1 6)) (Qf D__law_ajoined (hr.mono (by decide)) Qa rfl (Q0 (J8 (Q1 7) Qb) (Q0 (Q1 18) Q6)))) (Qh (Qy se_bl)) Z4))))))))))))))))))))))))
    (Qh (Qy se_bl)))))
end
end Lw
namespace Lw
open PySem PySem.Spec L2 Sm
theorem emod_lt (a:Int) {b:Int} (h:0 < b):0<=a % b/\a % b < b:=⟨Int.emod_nonneg a (by omega),Int.emod_lt_of_pos a h⟩
def Qq (r:List Int):PV:=.tup (r.map .int)
def Q7 (tb:List (List Int)):PV:=.tup (tb.map Qq)
theorem all_id {α:Type} (xs:List α) (p:α->Bool):(xs.map p).all id=xs.all p:=by
  rw [List.all_map]; rfl
structure Wt' (n:Nat) (tb:List (List Int)):Prop where
  len:tb.length=n
  row:∀ r∈tb,r.length=n + 1
  nn:∀ r∈tb,∀ x∈r,(0:Int)<=x
  n1:1<=n
  n8:n<=8
def Zw (n:Nat) (f:Nat->Int):Int:=((List.range n).map f).sum
theorem Jf (n:Nat) (f:Nat->Int):Zw (n + 1) f=Zw n f + f n:=by
  unfold Zw
  rw [List.range_succ,F2,List.sum_append]
  simp
theorem V4 {n:Nat} {f g:Nat->Int} (h:∀ i,i < n->f i=g i):Zw n f=Zw n g:=by
  induction n with
  | zero=>rfl
  | succ n ih=>rw [Jf,Jf,ih fun i hi=>h i (by omega),h n (by omega)]
theorem upto_add (n:Nat) (f g:Nat->Int):Zw n (fun i=>f i + g i)=Zw n f + Zw n g:=by
  induction n with
  | zero=>rfl
  | succ n ih=>rw [Jf,Jf,Jf,ih]; omega
theorem upto_sub (n:Nat) (f g:Nat->Int):Zw n (fun i=>f i - g i)=Zw n f - Zw n g:=by
  induction n with
  | zero=>rfl
  | succ n ih=>rw [Jf,Jf,Jf,ih]; omega
theorem upto_zero (n:Nat):Zw n (fun _=>0)=0:=by
  induction n with
  | zero=>rfl
  | succ n ih=>rw [Jf,ih]; rfl
theorem upto_nonneg {n:Nat} {f:Nat->Int} (h:∀ i,i < n->0<=f i):0<=Zw n f:=by
  induction n with
  | zero=>exact Int.le_refl _
  | succ n ih=>rw [Jf]; have:=ih fun i hi=>h i (by omega); have:=h n (by omega); omega
theorem map_getD {α β:Type} (l:List α) (d:α) (f:α->β):l.map f=(List.range l.length).map fun i=>f (l.getD i d):=by
  refine List.ext_getElem? fun i=>?_
  rw [E6,E6]
  by_cases hi:i < l.length
  · rw [List.getElem?_range hi,getD_some hi d]; rfl
  · rw [List.getElem?_eq_none (by omega),List.getElem?_eq_none (by rw [List.length_range]; omega)]; rfl
theorem sum_upto (r:List Int):r.sum=Zw r.length fun j=>r.getD j 0:=by
  have:=map_getD r 0 id
  rw [List.map_id] at this
  rw [Zw]
  conv=>lhs; rw [this]
  rfl
def ent (tb:List (List Int)) (i j:Nat):Int:=(tb.getD i []).getD j 0
def Sz (n:Nat) (tb:List (List Int)):Prop:=tb.length=n/\∀ r∈tb,r.length=n + 1
theorem Wt'.sz {n:Nat} {tb:List (List Int)} (w:Wt' n tb):Sz n tb:=⟨w.len,w.row⟩
theorem Sz.row {n i:Nat} {tb:List (List Int)} (z:Sz n tb) (hi:i < n):tb[i]?=some (tb.getD i [])/\(tb.getD i []).length=n + 1:=by
  have e:=getD_some (show i < tb.length by rw [z.1]; exact hi) []
  exact ⟨e,z.2 _ (D6 e)⟩
theorem Sz.cell {n i j:Nat} {tb:List (List Int)} (z:Sz n tb) (hi:i < n) (hj:j<=n):(tb.getD i [])[j]?=some (ent tb i j):=getD_some (by rw [(z.row hi).2]; omega) 0
theorem Wt'.ent_nn {n i j:Nat} {tb:List (List Int)} (w:Wt' n tb) (hi:i < n) (hj:j<=n):0<=ent tb i j:=w.nn _ (D6 (w.sz.row hi).1) _ (D6 (w.sz.cell hi hj))
theorem is_whole_int (i:Int) (st:Q3):Yn [.int i] st=.ok (.bl true) st:=by
  simp [Yn,Qn,m_is_whole,isI,tyN]
theorem is_between_ok (a b c:Int) (st:Q3):U5 [.int a,.int b,.int c] st=.ok (.bl (decide (b<=a) && decide (a<=c))) st:=by
  by_cases h:b<=a <;> simp [U5,Qn,m_is_between,is_whole_int,h]
theorem X0 {V:PV} {n:Nat} {st:Q3} (hV:Yh st [V]=.ok (.int n) st) (i:Int):Zb [V,.int i] st=.ok (.bl (decide (0<=i) && decide (i < n))) st:=by
  have e:decide (i<=(n:Int) - 1)=decide (i < (n:Int)):=by
    rw [decide_eq_decide]; omega
  simp [Zb,Qn,m_is_house,hV,is_between_ok,e]
theorem is_house_yes {V:PV} {n i:Nat} {st:Q3} (hV:Yh st [V]=.ok (.int n) st) (hi:i < n):Zb [V,.int i] st=.ok (.bl true) st:=by
  rw [X0 hV]
  simp; omega
def Jq (k:Nat):PV:=.int (k:Int)
theorem fz_ints {n r:Nat} {S:Q3} {hs:List Int} (hr:n<=r) (h:S[r]?=some (.lst (hs.map .int))):fz n S 16 (.ref r)=some (.lst (hs.map .int)):=by
  have hg:Jm 12 (.lst (hs.map .int))=true:=by simp [Jm]
  have:=fz_good (n:=n) (st:=S) (k:=16) hg (by decide)
  rw [fz,if_neg (by omega),h]
  simpa [fz] using this
def Qt (tb:List (List Int)) (h:Nat):Int:=Zw tb.length (fun o=>ent tb o h) - ((tb.getD h []).sum - ent tb h h)
theorem Xu {n h:Nat} {tb:List (List Int)} (z:Sz n tb) (hh:h < n):Qt tb h=Zw n (fun o=>ent tb o h) - (Zw n (fun j=>ent tb h j) + ent tb h n - ent tb h h):=by
  unfold Qt
  rw [z.1,sum_upto (tb.getD h []),(z.row hh).2,Jf]
  rfl
theorem rights_ok {n h:Nat} {tb:List (List Int)} (z:Sz n tb) (hn:n<=100) (hh:h < n) (st:Q3):V0 [Q7 tb,.int h] st=.ok (.int (Qt tb h)) st:=by
  have hH:=is_house_yes (V:=Q7 tb) (n:=n) (i:=h) (st:=st) (by simp [Q7,z.1]) hh
  have hc:Ju (Qp 0) Zc e_rights_1 [] (Jt [none,some 1] [some (Q7 tb),some (.int h),none,none,none]) (tb.map Qq) st=.ok (tb.map fun r=>.int (r.getD h 0)) st:=by
    refine Ye _ _ (by simp) fun r hr=>⟨_,rfl,?_⟩
    have e:=atI_get (getD_some (show h < r.length by rw [z.2 r hr]; omega) 0)
    simp [Jt,e_rights_1,Qq,atI_map,e]
  have e1:=atI_get (z.row hh).1
  have e2:=atI_get (z.cell hh (D2 hh))
  have hs:(tb.map fun r=>r.getD h 0).sum=Zw n fun o=>ent tb o h:=by
    rw [map_getD tb [] fun r=>r.getD h 0,z.1]; rfl
  have hl:tb.length<=1000000:=by rw [z.1]; omega
  unfold Qt
  rw [z.1,<- hs]
  obtain ⟨r,hr⟩:∃ r,tb.getD h []=r:=⟨_,rfl⟩
  obtain ⟨x,hx⟩:∃ x,ent tb h h=x:=⟨_,rfl⟩
  rw [hr] at e1 e2 ⊢
  rw [hx] at e2 ⊢
  obtain ⟨q,hq⟩:∃ q,(tb.map fun r=>r.getD h 0)=q:=⟨_,rfl⟩
  have hq2:(tb.map fun r=>PV.int (r.getD h 0))=q.map .int:=by rw [<- hq,List.map_map]; rfl
  rw [hq2] at hc
  rw [hq]
  unfold Q7 at hH hc ⊢
  simp [V0,Qn,m_rights,hH,hc,hl,Jj,atI_map,e1,Qq,e2]
theorem V1 {n i j:Nat} {tb:List (List Int)} (z:Sz n tb) (hi:i < n) (hj:j<=n) (st:Q3):oIx st (Q7 tb) (.int i)=.ok (Qq (tb.getD i [])) st/\oIx st (Qq (tb.getD i [])) (.int j)=.ok (.int (ent tb i j)) st:=by
  constructor
  · unfold Q7; rw [oIx_tup,atI_map,atI_get (z.row hi).1]; rfl
  · unfold Qq; rw [oIx_tup,atI_map,atI_get (z.cell hi hj)]; rfl
def madeF (tb:List (List Int)) (h:Nat):Bool:=decide (0 < ent tb h h)
theorem made_ok {n h:Nat} {tb:List (List Int)} (z:Sz n tb) (hh:h < n) (st:Q3):X2 [Q7 tb,.int h] st=.ok (.bl (madeF tb h)) st:=by
  obtain ⟨c1,c2⟩:=V1 z hh (D2 hh) st
  unfold madeF
  generalize ent tb h h=x at *
  generalize tb.getD h []=r at *
  simp [X2,Qn,m_made_some,c1,c2]
def Wn (tb:List (List Int)) (h:Nat):Bool:=decide (ent tb h h < (tb.getD h []).sum)
theorem busy_ok {n h:Nat} {tb:List (List Int)} (z:Sz n tb) (hh:h < n) (st:Q3):Zd [Q7 tb,.int h] st=.ok (.bl (Wn tb h)) st:=by
  obtain ⟨c1,c2⟩:=V1 z hh (D2 hh) st
  unfold Wn
  generalize ent tb h h=x at *
  generalize tb.getD h []=r at *
  have c3:U2 (fun ns=>some (.int ns.sum)) st [Qq r]=.ok (.int r.sum) st:=by unfold Qq; rw [cInts_tup]; rfl
  simp [Zd,Qn,Wq,c1,c2,c3]
def lentF (tb:List (List Int)) (h:Nat) (ls:List Nat):Bool:=ls.any fun o=>decide (o≠h) && decide (0 < ent tb o h)
theorem any_id {α:Type} (xs:List α) (p:α->Bool):(xs.map p).any id=xs.any p:=by
  rw [List.any_map]; rfl
theorem lent_ok {n h:Nat} {tb:List (List Int)} (z:Sz n tb) (hh:h < n) {ls:List Nat} (hl:∀ o∈ls,o < n) (hll:ls.length<=1000) {V:PV} {st:Q3} (hV:ListAt st V (ls.map Jq)):Yx [Q7 tb,.int h,V] st=.ok (.bl (lentF tb h ls)) st:=by
  obtain ⟨w,hsrc,hw⟩:=hV.src
  have hc:Ju (Qp 0) Vg Vx w (Jt [none,some 1,some 0] [some (Q7 tb),some (.int h),some V]) (ls.map Jq) st=.ok ((ls.filter fun o=>decide (o≠h)).map fun o=>.bl (decide (0 < ent tb o h))) st:=by
    refine compG_onF _ _ _ hw fun o ho=>⟨_,rfl,?_,fun ht=>?_⟩
    · simp [Jt,Vg,Jq]
      by_cases e:o=h
      · simp [e]
      · have:¬ ((o:Int)=h):=by omega
        simp [e,this]
    · obtain ⟨c1,c2⟩:=V1 z (hl o ho) (D2 hh) st
      generalize ent tb o h=x at *
      generalize tb.getD o []=r at *
      simp [Jt,Vx,Jq,c1,c2]
  have hll':(ls.map Jq).length<=1000000:=by rw [O2]; omega
  have hlf:lentF tb h ls=((ls.filter fun o=>decide (o≠h)).map fun o=>decide (0 < ent tb o h)).any id:=by
    rw [any_id,List.any_filter]; rfl
  rw [hlf]
  generalize ls.map Jq=ov at *
  generalize ls.filter (fun o=>decide (o≠h))=fs at *
  simp [Yx,Qn,X8,hsrc,hll',Jj,hc,-List.any_map]
def rootsF (tb:List (List Int)) (h:Nat) (ls:List Nat):Bool:=madeF tb h || lentF tb h ls
theorem root_ok {n h:Nat} {tb:List (List Int)} (z:Sz n tb) (hh:h < n) {ls:List Nat} (hl:∀ o∈ls,o < n) (hll:ls.length<=1000) {V:PV} {st:Q3} (hV:ListAt st V (ls.map Jq)):Um [Q7 tb,.int h,V] st=.ok (.bl (rootsF tb h ls)) st:=by
  have h1:=made_ok z hh st
  have h2:=lent_ok z hh hl hll hV
  unfold rootsF
  cases hm:madeF tb h with
  | true=>rw [hm] at h1; simp [Um,Qn,m_has_root,h1]
  | false=>rw [hm] at h1; simp [Um,Qn,m_has_root,h1,h2]
theorem in_ints (hs:List Int) (x:Int):((hs.map PV.int).any fun y=>peq y (.int x))=decide (x∈hs):=by
  rw [List.any_map,Bool.eq_iff_iff,List.any_eq_true,decide_eq_true_iff]
  constructor
  · rintro ⟨y,hy,e⟩
    have:y=x:=by simpa [peq] using e
    rw [<- this]; exact hy
  · intro h
    exact ⟨x,h,by simp [peq]⟩
theorem in_ok {hs:List Int} {V:PV} {st:Q3} (hV:ListAt st V (hs.map .int)) (x:Int) (b:Bool):oIn b st (.int x) V=.ok (.bl (decide (x∈hs) != b)) st:=by
  have hq:Ub st V=some (hs.map .int):=by
    rcases hV with rfl | rfl | ⟨i,rfl,e⟩
    · rfl
    · rfl
    · rw [seqOf_r,e]
  have hd:der st (.int x)=.int x:=rfl
  have g1:Jm dep (.int x)=true:=rfl
  have g2:(hs.map PV.int).all (Jm dep)=true:=by simp [Jm,dep]
  unfold oIn
  rw [hq,hd]
  simp only [g1,g2,and_self,if_true,in_ints]
def busyR (n:Nat) (tb:List (List Int)) (h:Nat):Bool:=(List.range (n + 1)).any fun j=>decide (j≠h) && decide (0 < ent tb h j)
theorem upto_le {n j:Nat} {f:Nat->Int} (hf:∀ i,i < n->0<=f i) (hj:j < n):f j<=Zw n f:=by
  induction n with
  | zero=>exact absurd hj (Nat.not_lt_zero _)
  | succ n ih=>
    rw [Jf]
    have hn0:=hf n (Nat.lt_succ_self n)
    by_cases e:j=n
    · subst e
      have:=upto_nonneg (f:=f) (n:=j) fun i hi=>hf i (Nat.lt_succ_of_lt hi)
      omega
    · have:=ih (fun i hi=>hf i (Nat.lt_succ_of_lt hi)) (by omega)
      omega
theorem upto_but {n h:Nat} (f:Nat->Int) (hh:h < n):Zw n f=f h + Zw n fun j=>if j≠h then f j else 0:=by
  induction n with
  | zero=>exact absurd hh (Nat.not_lt_zero _)
  | succ n ih=>
    rw [Jf,Jf]
    by_cases e:n=h
    · subst e
      rw [if_neg (by simp),V4 (f:=f) (g:=fun j=>if j≠n then f j else 0) fun i hi=>by rw [if_pos (by omega)]]
      omega
    · rw [if_pos e,ih (by omega)]
      omega
theorem upto_pos {n h:Nat} {f:Nat->Int} (hf:∀ i,i < n->0<=f i) (hh:h < n):f h < Zw n f <-> ∃ j,j < n/\j≠h/\0 < f j:=by
  have e:=upto_but f hh
  have hg:∀ i,i < n->0<=(fun j=>if j≠h then f j else 0) i:=fun i hi=>by
    show 0<=if i≠h then f i else 0
    split
    · exact hf i hi
    · exact Int.le_refl _
  constructor
  · intro q
    refine Classical.byContradiction fun hno=>?_
    have:Zw n (fun j=>if j≠h then f j else 0)=Zw n fun _=>0:=V4 fun i hi=>by
      by_cases ei:i=h
      · rw [if_neg (by simp [ei])]
      · rw [if_pos ei]
        have h1:=hf i hi
        have h2:¬ 0 < f i:=fun q=>hno ⟨i,hi,ei,q⟩
        omega
    rw [upto_zero] at this
    omega
  · rintro ⟨j,hj,hne,hp⟩
    have:=upto_le hg hj
    simp only [if_pos hne] at this
    omega
theorem busy_eq {n h:Nat} {tb:List (List Int)} (w:Wt' n tb) (hh:h < n):busyR n tb h=Wn tb h:=by
  have hs:(tb.getD h []).sum=Zw (n + 1) fun j=>ent tb h j:=by
    rw [sum_upto,(w.sz.row hh).2]; rfl
  have hp:=(upto_pos (n:=n + 1) (h:=h) (f:=fun j=>ent tb h j) (fun i hi=>w.ent_nn hh (by omega)) (by omega))
  unfold busyR Wn
  rw [hs,Bool.eq_iff_iff,List.any_eq_true,decide_eq_true_iff,hp]
  constructor
  · rintro ⟨j,hj,q⟩
    simp at q
    exact ⟨j,E1.mp hj,q.1,q.2⟩
  · rintro ⟨j,hj,a,b⟩
    exact ⟨j,E1.mpr hj,by simp [a,b]⟩
theorem modN (x:Int) {n:Nat} (h:1<=n):∃ k:Nat,k < n/\x % (n:Int)=(k:Int):=by
  have:=emod_lt x (b:=(n:Int)) (by omega)
  exact ⟨(x % (n:Int)).toNat,by omega,by omega⟩
def kn3 (tb:List (List Int)) (i:Nat) (bs:List Bool) (j:Nat):List Bool:=if bs.getD i false=true/\i≠j/\0 < ent tb i j then bs.set j true else bs
def kn2 (n:Nat) (tb:List (List Int)) (bs:List Bool) (i:Nat):List Bool:=(List.range n).foldl (kn3 tb i) bs
def kn1 (n:Nat) (tb:List (List Int)) (bs:List Bool) (_:Nat):List Bool:=(List.range n).foldl (kn2 n tb) bs
def knInit (n:Nat) (tb:List (List Int)):List Bool:=(List.range n).map (madeF tb)
def knownF (n:Nat) (tb:List (List Int)):List Bool:=(List.range n).foldl (kn1 n tb) (knInit n tb)
theorem fold_len {α β:Type} {f:List α->β->List α} (h:∀ bs x,(f bs x).length=bs.length):∀ (xs:List β) (bs:List α),(xs.foldl f bs).length=bs.length
  | [],_=>rfl
  | x :: xs,bs=>by rw [List.foldl_cons,fold_len h xs,h]
theorem kn3_len (tb:List (List Int)) (i:Nat) (bs:List Bool) (j:Nat):(kn3 tb i bs j).length=bs.length:=by
  unfold kn3; split <;> simp
theorem kn2_len (n:Nat) (tb:List (List Int)) (bs:List Bool) (i:Nat):(kn2 n tb bs i).length=bs.length:=fold_len (kn3_len tb i) _ _
theorem kn1_len (n:Nat) (tb:List (List Int)) (bs:List Bool) (t:Nat):(kn1 n tb bs t).length=bs.length:=fold_len (kn2_len n tb) _ _
inductive Rc (n:Nat) (tb:List (List Int)):Nat->Prop
  | made {h:Nat}:h < n->madeF tb h=true->Rc n tb h
  | lent {o h:Nat}:Rc n tb o->h < n->0 < ent tb o h->Rc n tb h
theorem Rc.lt {n h:Nat} {tb:List (List Int)} (r:Rc n tb h):h < n:=by cases r <;> assumption
theorem Wz {α β:Type} {f:β->α->β} {P:β->Prop}:∀ {xs:List α} {b:β},(∀ b x,x∈xs->P b->P (f b x))->P b->P (xs.foldl f b)
  | [],_,_,h=>h
  | x :: xs,b,hs,h=>Wz (xs:=xs) (fun b y hy=>hs b y (O6 _ hy)) (hs b x D1 h)
theorem fold_hit {α β:Type} {f:β->α->β} {P Q:β->Prop} (hP:∀ b y,P b->P (f b y)) (hQ:∀ b y,Q b->Q (f b y)) {x:α} (hx:∀ b,P b->Q (f b x)):∀ {xs:List α} {b:β},x∈xs->P b->Q (xs.foldl f b)
  | [],_,hm,_=>by cases hm
  | y :: ys,b,hm,hb=>by
    rw [List.foldl_cons]
    rcases D5.mp hm with rfl | hm
    · exact Wz (fun b y _=>hQ b y) (hx b hb)
    · exact fold_hit hP hQ hx hm (hP b y hb)
def Cl (n:Nat) (tb:List (List Int)) (mem:Nat->Bool):Prop:=∀ o h,o < n->h < n->o≠h->0 < ent tb o h->mem o=true->mem h=true
def cnt (n:Nat) (mem:Nat->Bool):Int:=Zw n fun h=>if mem h=true then 1 else 0
theorem cnt_le (n:Nat) (mem:Nat->Bool):cnt n mem<=n:=by
  unfold cnt
  induction n with
  | zero=>exact Int.le_refl _
  | succ n ih=>rw [Jf]; split <;> omega
theorem cnt_lt {n:Nat} {m1 m2:Nat->Bool} (hm:∀ h,h < n->m1 h=true->m2 h=true) {h:Nat} (hh:h < n) (h1:m1 h=false) (h2:m2 h=true):cnt n m1 + 1<=cnt n m2:=by
  have e:=upto_sub n (fun h=>if m2 h=true then (1:Int) else 0) (fun h=>if m1 h=true then 1 else 0)
  have l:=upto_le (n:=n) (j:=h) (f:=fun h=>(if m2 h=true then (1:Int) else 0) - (if m1 h=true then 1 else 0)) (fun i hi=>by
    have:=hm i hi
    cases a:m1 i <;> cases b:m2 i <;> simp_all) hh
  simp only [h1,h2] at l
  unfold cnt
  simp at l
  omega
theorem turns_close {X:Type} (n:Nat) (tb:List (List Int)) (mem:X->Nat->Bool) (f:X->Nat->X) (Inv:X->Prop) (hi:∀ x t,Inv x->Inv (f x t))
    (mono:∀ x t h,Inv x->h < n->mem x h=true->mem (f x t) h=true)
    (push:∀ x t o h,Inv x->o < n->h < n->o≠h->0 < ent tb o h->mem x o=true->mem (f x t) h=true)
    (stay:∀ x t,Inv x->Cl n tb (mem x)->∀ h,h < n->mem (f x t) h=true->mem x h=true) (x0:X) (h0:Inv x0):Cl n tb (mem ((List.range n).foldl f x0)):=by
  have key:∀ t:Nat,Inv ((List.range t).foldl f x0)/\(Cl n tb (mem ((List.range t).foldl f x0))\/(t:Int)<=cnt n (mem ((List.range t).foldl f x0))):=by
    intro t
    induction t with
    | zero=>
      refine ⟨h0,.inr ?_⟩
      exact upto_nonneg fun i _=>by split <;> omega
    | succ t ih=>
      rw [List.range_succ,List.foldl_append,List.foldl_cons,List.foldl_nil]
      obtain ⟨iv,ih⟩:=ih
      generalize (List.range t).foldl f x0=x at *
      refine ⟨hi x t iv,?_⟩
      rcases Classical.em (Cl n tb (mem x)) with c | c
      · refine .inl fun o h ho hh hne he hm=>?_
        exact mono x t h iv hh (c o h ho hh hne he (stay x t iv c o ho hm))
      · rcases ih with ih | ih
        · exact absurd ih c
        · refine .inr ?_
          have:∃ o h,o < n/\h < n/\o≠h/\0 < ent tb o h/\mem x o=true/\mem x h=false:=by
            refine Classical.byContradiction fun q=>c fun o h ho hh hne he hm=>?_
            cases e:mem x h with
            | true=>rfl
            | false=>exact absurd ⟨o,h,ho,hh,hne,he,hm,e⟩ q
          obtain ⟨o,h,ho,hh,hne,he,hm,hf⟩:=this
          have:=cnt_lt (fun h hh=>mono x t h iv hh) hh hf (push x t o h iv ho hh hne he hm)
          push_cast
          omega
  obtain ⟨iv,h | h⟩:=key n
  · exact h
  · intro o k ho hk hne he hm
    generalize (List.range n).foldl f x0=x at *
    cases e:mem x k with
    | true=>rfl
    | false=>
      have:=cnt_lt (m1:=mem x) (m2:=fun _=>true) (fun _ _ _=>rfl) hk e rfl
      have h2:=cnt_le n fun _=>true
      omega
theorem set_get {bs:List Bool} {j h:Nat}:((bs.set j true).getD h false=true) <-> (h=j/\j < bs.length)\/bs.getD h false=true:=by
  rw [List.getD,List.getElem?_set]
  by_cases e:j=h
  · subst e
    by_cases l:j < bs.length
    · simp [l]
    · simp [l,List.getD]
  · rw [if_neg e]
    constructor
    · intro q; exact .inr q
    · rintro (⟨q,_⟩ | q)
      · exact absurd q.symm e
      · exact q
theorem kn3_mono {tb:List (List Int)} {i j h:Nat} {bs:List Bool} (q:bs.getD h false=true):(kn3 tb i bs j).getD h false=true:=by
  unfold kn3
  split
  · exact set_get.mpr (.inr q)
  · exact q
theorem kn2_mono {n:Nat} {tb:List (List Int)} {i h:Nat} {bs:List Bool} (q:bs.getD h false=true):(kn2 n tb bs i).getD h false=true:=Wz (P:=fun bs:List Bool=>bs.getD h false=true) (fun _ _ _ q=>kn3_mono q) q
theorem kn1_mono {n:Nat} {tb:List (List Int)} {t h:Nat} {bs:List Bool} (q:bs.getD h false=true):(kn1 n tb bs t).getD h false=true:=Wz (P:=fun bs:List Bool=>bs.getD h false=true) (fun _ _ _ q=>kn2_mono q) q
theorem known_closed (n:Nat) (tb:List (List Int)):Cl n tb fun h=>(knownF n tb).getD h false:=by
  refine turns_close n tb (fun (bs:List Bool) h=>bs.getD h false) (kn1 n tb) (fun bs=>bs.length=n) (fun x t hx=>by rw [kn1_len]; exact hx) (fun x t h _ _ q=>kn1_mono q) (fun x t o h hx ho hh hne he hm=>?_) (fun x t hx c h hh hm=>?_) _ (by simp [knInit])
  · show (kn1 n tb x t).getD h false=true
    refine fold_hit (P:=fun bs:List Bool=>bs.length=n/\bs.getD o false=true) (Q:=fun bs:List Bool=>bs.getD h false=true) (fun bs y q=>⟨by rw [kn2_len]; exact q.1,kn2_mono q.2⟩) (fun bs y q=>kn2_mono q) (x:=o) (fun bs q=>?_) (E1.mpr ho) ⟨hx,hm⟩
    refine fold_hit (P:=fun bs:List Bool=>bs.length=n/\bs.getD o false=true) (Q:=fun bs:List Bool=>bs.getD h false=true) (fun bs y q=>⟨by rw [kn3_len]; exact q.1,kn3_mono q.2⟩) (fun bs y q=>kn3_mono q) (x:=h) (fun bs q=>?_) (E1.mpr hh) q
    unfold kn3
    rw [if_pos ⟨q.2,hne,he⟩]
    exact set_get.mpr (.inl ⟨rfl,by rw [q.1]; exact hh⟩)
  · have:∀ g,g < n->(kn1 n tb x t).getD g false=true->x.getD g false=true:=by
      refine Wz (P:=fun bs:List Bool=>∀ g,g < n->bs.getD g false=true->x.getD g false=true) (fun bs i hi hb=>?_) fun g _ q=>q
      refine Wz (P:=fun bs:List Bool=>∀ g,g < n->bs.getD g false=true->x.getD g false=true) (fun bs j hj hb g hg q=>?_) hb
      unfold kn3 at q
      split at q
      · rename_i cc
        rcases set_get.mp q with ⟨rfl,_⟩ | q
        · exact c i g (E1.mp hi) hg cc.2.1 cc.2.2 (hb i (E1.mp hi) cc.1)
        · exact hb g hg q
      · exact hb g hg q
    exact this h hh hm
theorem known_rc (n:Nat) (tb:List (List Int)) {h:Nat} (hh:h < n):(knownF n tb).getD h false=true <-> Rc n tb h:=by
  constructor
  · have:∀ g,g < n->(knownF n tb).getD g false=true->Rc n tb g:=by
      refine Wz (P:=fun bs:List Bool=>∀ g,g < n->bs.getD g false=true->Rc n tb g) (fun bs t _ hb=>?_) fun g hg q=>?_
      · refine Wz (P:=fun bs:List Bool=>∀ g,g < n->bs.getD g false=true->Rc n tb g) (fun bs i hi hb=>?_) hb
        refine Wz (P:=fun bs:List Bool=>∀ g,g < n->bs.getD g false=true->Rc n tb g) (fun bs j hj hb g hg q=>?_) hb
        unfold kn3 at q
        split at q
        · rename_i cc
          rcases set_get.mp q with ⟨rfl,_⟩ | q
          · exact .lent (hb i (E1.mp hi) cc.1) hg cc.2.2
          · exact hb g hg q
        · exact hb g hg q
      · unfold knInit at q
        rw [List.getD,E6,List.getElem?_range hg] at q
        exact .made hg (by simpa using q)
    exact this h hh
  · intro r
    induction r with
    | made hl hm=>
      refine Wz (P:=fun bs:List Bool=>bs.getD _ false=true) (fun bs t _ q=>kn1_mono q) ?_
      unfold knInit
      rw [List.getD,E6,List.getElem?_range hl]
      simpa using hm
    | @lent o g r hl he ih=>
      by_cases e:o=g
      · subst e; exact ih r.lt
      · exact known_closed n tb o g r.lt hl e he (ih r.lt)
def RdOk (n:Nat) (fs:List Nat):Prop:=(∀ x∈fs,x < n)/\fs.Nodup
theorem nodup_len:∀ {n:Nat} {fs:List Nat},(∀ x∈fs,x < n)->fs.Nodup->fs.length<=n
  | 0,[],_,_=>O7 _
  | 0,x :: _,h,_=>absurd (h x D1) (Nat.not_lt_zero _)
  | n + 1,fs,h,d=>by
    by_cases hm:n∈fs
    · have h1:(fs.erase n).length<=n:=nodup_len (fun x hx=>by
        have h2:=(d.mem_erase_iff).mp hx
        have:=h x h2.2
        omega) (d.erase n)
      rw [List.length_erase_of_mem hm] at h1
      omega
    · have:=nodup_len (n:=n) (fs:=fs) (fun x hx=>by
        have:=h x hx
        have:x≠n:=fun e=>hm (e ▸ hx)
        omega) d
      omega
theorem RdOk.len {n:Nat} {fs:List Nat} (h:RdOk n fs):fs.length<=n:=nodup_len h.1 h.2
def AhN (tb:List (List Int)) (fs:List Nat):Prop:=∀ k,k < fs.length->madeF tb (fs.getD k 0)=true\/∃ o∈fs.take k,0 < ent tb o (fs.getD k 0)
theorem AhN.snoc {tb:List (List Int)} {fs:List Nat} {h:Nat} (a:AhN tb fs) (ha:madeF tb h=true\/∃ o∈fs,0 < ent tb o h):AhN tb (fs ++ [h]):=by
  intro k hk
  rw [D9,List.length_singleton] at hk
  by_cases e:k < fs.length
  · have:=a k e
    rw [List.take_append_of_le_length (by omega)]
    rw [show (fs ++ [h]).getD k 0=fs.getD k 0 by rw [List.getD,List.getD,O9 e]]
    exact this
  · have:k=fs.length:=by omega
    subst this
    rw [show (fs ++ [h]).getD fs.length 0=h by simp [List.getD]]
    rw [List.take_left]
    exact ha
def intsN (fs:List Nat):List Int:=fs.map fun k:Nat=>(k:Int)
def rdS (st:Q3) (fs:List Nat):Q3:=st ++ [Cell.lst (fs.map Jq)]
theorem rdS_at (st:Q3) (fs:List Nat):(rdS st fs)[st.length]?=some (.lst (fs.map Jq)):=by unfold rdS; simp
theorem intsN_map (fs:List Nat):(intsN fs).map PV.int=fs.map Jq:=by unfold intsN; rw [List.map_map]; rfl
theorem intsN_mem {fs:List Nat} {h:Nat}:(h:Int)∈intsN fs <-> h∈fs:=by
  unfold intsN
  rw [List.mem_map]
  constructor
  · rintro ⟨k,hk,e⟩
    have:k=h:=by omega
    rw [<- this]; exact hk
  · intro q; exact ⟨h,q,rfl⟩
def Wv (n:Nat) (fs:List Nat):List Nat:=(List.range n).filter fun h=>!decide (h∈fs)
def Vf (n:Nat) (tb:List (List Int)) (fs:List Nat):List Nat:=(Wv n fs).filter fun h=>rootsF tb h fs
structure GdR (n:Nat) (tb:List (List Int)) (fs:List Nat):Prop where
  rd:RdOk n fs
  ah:AhN tb fs
  rc:∀ h∈fs,Rc n tb h
theorem AhN.more {tb:List (List Int)}:∀ {ds fs:List Nat},AhN tb fs->(∀ h∈ds,madeF tb h=true\/∃ o∈fs,0 < ent tb o h)->AhN tb (fs ++ ds)
  | [],fs,a,_=>by rw [List.append_nil]; exact a
  | d :: ds,fs,a,h=>by
    rw [show fs ++ d :: ds=(fs ++ [d]) ++ ds by simp]
    refine AhN.more (a.snoc (h d D1)) fun g hg=>?_
    rcases h g (O6 _ hg) with q | ⟨o,ho,q⟩
    · exact .inl q
    · exact .inr ⟨o,E9 _ ho,q⟩
theorem fnd_mem {n:Nat} {tb:List (List Int)} {fs:List Nat} {h:Nat} (q:h∈Vf n tb fs):h < n/\h∉fs/\(madeF tb h=true\/∃ o∈fs,0 < ent tb o h):=by
  obtain ⟨q1,q2⟩:=List.mem_filter.mp q
  obtain ⟨q3,q4⟩:=List.mem_filter.mp q1
  refine ⟨E1.mp q3,by simpa using q4,?_⟩
  unfold rootsF lentF at q2
  rw [Bool.or_eq_true] at q2
  rcases q2 with q2 | q2
  · exact .inl q2
  · obtain ⟨o,ho,e⟩:=List.any_eq_true.mp q2
    rw [F3] at e
    exact .inr ⟨o,ho,by simpa using e.2⟩
theorem GdR.step {n:Nat} {tb:List (List Int)} {fs:List Nat} (g:GdR n tb fs):GdR n tb (fs ++ Vf n tb fs):=by
  refine ⟨⟨fun x hx=>?_,?_⟩,g.ah.more fun h q=>(fnd_mem q).2.2,fun h hx=>?_⟩
  · rcases F1.mp hx with hx | hx
    · exact g.rd.1 x hx
    · exact (fnd_mem hx).1
  · refine List.nodup_append.mpr ⟨g.rd.2,(List.nodup_range.filter _).filter _,fun a ha b hb e=>?_⟩
    subst e
    exact (fnd_mem hb).2.1 ha
  · rcases F1.mp hx with hx | hx
    · exact g.rc h hx
    · obtain ⟨h1,_,h2 | ⟨o,ho,he⟩⟩:=fnd_mem hx
      · exact .made h1 h2
      · exact .lent (g.rc o ho) h1 he
theorem GdR.closed {n:Nat} {tb:List (List Int)} {fs:List Nat} (g:GdR n tb fs) (hc:Vf n tb fs=[]) {h:Nat} (hh:h < n):h∈fs <-> Rc n tb h:=by
  refine ⟨g.rc h,fun r=>?_⟩
  have hno:∀ k,k < n->k∉fs->rootsF tb k fs=false:=fun k hk hm=>by
    cases e:rootsF tb k fs with
    | false=>rfl
    | true=>
      have:k∈Vf n tb fs:=List.mem_filter.mpr ⟨List.mem_filter.mpr ⟨E1.mpr hk,by simp [hm]⟩,e⟩
      rw [hc] at this
      cases this
  induction r with
  | @made k hl hm=>
    refine Classical.byContradiction fun q=>?_
    have:=hno k hl q
    unfold rootsF at this
    rw [hm] at this
    cases this
  | @lent o k r hl he ih=>
    refine Classical.byContradiction fun q=>?_
    have:=hno k hl q
    unfold rootsF lentF at this
    rw [Bool.or_eq_false_iff,List.any_eq_false] at this
    have ho:=ih r.lt
    have hne:o≠k:=fun e=>q (e ▸ ho)
    exact this.2 o ho (by simp [hne,he])
theorem rt_turn {n:Nat} {tb:List (List Int)} (z:Sz n tb) (hn:n<=100) (st:Q3) (fs:List Nat) (r:RdOk n fs) (b a c:Option PV):W8 [some (Q7 tb),some (.ref st.length),b,a,c] (rdS st fs)=.nx [some (Q7 tb),some (.ref st.length),some (.bl (decide (0 < (Vf n tb fs).length))),some (.lst ((Wv n fs).map Jq)),some (.lst ((Vf n tb fs).map Jq))] (rdS st (fs ++ Vf n tb fs)):=by
  have hn1:-1000000<=(n:Int)/\(n:Int)<=1000000:=by omega
  have hql:=r.len
  have hS:=rdS_at st fs
  have hat:ListAt (rdS st fs) (.ref st.length) ((intsN fs).map .int):=.inr (.inr ⟨_,rfl,by rw [intsN_map]; exact hS⟩)
  have hat2:ListAt (rdS st fs) (.ref st.length) (fs.map Jq):=.inr (.inr ⟨_,rfl,hS⟩)
  have hln:Yh (rdS st fs) [Q7 tb]=.ok (.int n) (rdS st fs):=by simp [Q7,z.1]
  have hc1:Ju (Qp 0) W5 Vz [] (Jt [none,some 1] [some (Q7 tb),some (.ref st.length),b,a,c]) (Z5 0 n) (rdS st fs)=.ok ((Wv n fs).map Jq) (rdS st fs):=by
    rw [rangeI0]
    refine compG_onF _ _ _ (by simp) fun j hj=>⟨_,rfl,?_,fun ht=>?_⟩
    · have hin:=in_ok hat (j:Int) true
      by_cases q:j∈fs
      · have q':(j:Int)∈intsN fs:=intsN_mem.mpr q
        generalize rdS st fs=S at *
        simp -implicitDefEqProofs [Jt,W5,hin,q,q']
      · have q':¬ (j:Int)∈intsN fs:=fun z=>q (intsN_mem.mp z)
        generalize rdS st fs=S at *
        simp -implicitDefEqProofs [Jt,W5,hin,q,q']
    · simp [Jt,Vz,Jq]
  have hol:(Wv n fs).length<=n:=by
    have:=List.length_filter_le (fun h=>!decide (h∈fs)) (List.range n)
    rw [List.length_range] at this
    exact this
  have hon:∀ h∈Wv n fs,h < n:=fun h hh=>E1.mp (List.mem_filter.mp hh).1
  have hc2:Ju (Qp 0) Vh Vy [] (Jt [none,some 0,some 1] [some (Q7 tb),some (.ref st.length),b,some (.lst ((Wv n fs).map Jq)),c]) ((Wv n fs).map Jq) (rdS st fs)=.ok ((Vf n tb fs).map Jq) (rdS st fs):=by
    unfold Vf
    refine compG_onF _ _ _ (by simp) fun j hj=>⟨_,rfl,?_,fun ht=>?_⟩
    · have hr:=root_ok z (h:=j) (hon j hj) r.1 (by omega) hat2
      generalize rootsF tb j fs=rb at *
      generalize rdS st fs=S at *
      generalize (Wv n fs).map Jq=ov at *
      simp -implicitDefEqProofs [Jt,Vh,Jq,hr]
    · simp [Jt,Vy,Jq]
  have hfl:(Vf n tb fs).length<=n:=E3 (List.length_filter_le _ _) hol
  have hset:(rdS st fs).set st.length (.lst (fs.map Jq ++ (Vf n tb fs).map Jq))=rdS st (fs ++ Vf n tb fs):=by
    unfold rdS
    rw [F2]
    simp
  have l1:((Wv n fs).map Jq).length<=1000000:=by rw [O2]; omega
  have l2:(fs.map Jq).length + ((Vf n tb fs).map Jq).length<=1000000:=by rw [O2,O2]; omega
  have l3:((Vf n tb fs).map Jq).length=(Vf n tb fs).length:=O2 _
  generalize rdS st (fs ++ Vf n tb fs)=S2 at *
  generalize rdS st fs=S at *
  generalize (Wv n fs).map Jq=ov at *
  generalize (Vf n tb fs).length=fl at *
  generalize (Vf n tb fs).map Jq=fv at *
  generalize fs.map Jq=xv at *
  rw [l3] at l2
  simp -implicitDefEqProofs [W8,hln,hn1,Jj,hc1,l1,hc2,hS,mtExtend,chg,l2,l3,hset]
theorem rt_while {n:Nat} {tb:List (List Int)} (z:Sz n tb) (hn:n<=100) (st:Q3):∀ (m fuel:Nat) (fs:List Nat) (a c:Option PV),GdR n tb fs->n<=fs.length + m->m + 2<=fuel->∃ fs' b' a' c',GdR n tb fs'/\Vf n tb fs'=[]/\X4 Z7 W8 fuel [some (Q7 tb),some (.ref st.length),some (.bl true),a,c] (rdS st fs)=.nx [some (Q7 tb),some (.ref st.length),b',a',c'] (rdS st fs')
  | m,0,_,_,_,_,_,h=>absurd h (by omega)
  | m,1,_,_,_,_,_,h=>absurd h (by omega)
  | m,k + 2,fs,a,c,g,hm,hf=>by
    have ht:=rt_turn z hn st fs g.rd (some (.bl true)) a c
    have w1:∀ S,Z7 [some (Q7 tb),some (.ref st.length),some (.bl true),a,c] S=.ok true S:=fun S=>by simp [Z7]
    by_cases e:Vf n tb fs=[]
    · refine ⟨fs,some (.bl false),some (.lst ((Wv n fs).map Jq)),some (.lst ((Vf n tb fs).map Jq)),g,e,?_⟩
      rw [X4,w1]
      simp only [Vj,if_true,ht]
      rw [X4]
      have w2:∀ S,Z7 [some (Q7 tb),some (.ref st.length),some (.bl (decide (0 < (Vf n tb fs).length))),some (.lst ((Wv n fs).map Jq)),some (.lst ((Vf n tb fs).map Jq))] S=.ok false S:=fun S=>by simp [Z7,e]
      rw [w2]
      simp [e]
    · have hp:0 < (Vf n tb fs).length:=List.length_pos_iff.mpr e
      have g':=g.step
      have hl':=g'.rd.len
      rw [D9] at hl'
      cases m with
      | zero=>omega
      | succ m=>
        obtain ⟨fs',b',a',c',h1,h2,h3⟩:=rt_while z hn st m (k + 1) (fs ++ Vf n tb fs) (some (.lst ((Wv n fs).map Jq))) (some (.lst ((Vf n tb fs).map Jq))) g' (by rw [D9]; omega) (by omega)
        refine ⟨fs',b',a',c',h1,h2,?_⟩
        rw [X4,w1]
        rw [decide_eq_true hp] at ht
        simp only [Vj,if_true,ht]
        exact h3
theorem rooted_run {n:Nat} {tb:List (List Int)} (z:Sz n tb) (hn:n<=100) (st:Q3):∃ fs,GdR n tb fs/\Vf n tb fs=[]/\Yu [some (Q7 tb),none,none,none,none] st=.rt (.ref st.length) (rdS st fs):=by
  obtain ⟨fs,b',a',c',g,e,h⟩:=rt_while z hn st n 100000 [] none none ⟨⟨fun x hx=>(by cases hx),List.nodup_nil⟩,fun k hk=>absurd hk (Nat.not_lt_zero _),fun x hx=>(by cases hx)⟩ (by simp) (by omega)
  refine ⟨fs,g,e,?_⟩
  have hS:st ++ [Cell.lst []]=rdS st []:=rfl
  generalize rdS st fs=S2 at *
  generalize rdS st []=S1 at *
  simp -implicitDefEqProofs [Yu,Jj,hS,h]
theorem rooted_ok {n:Nat} {tb:List (List Int)} (z:Sz n tb) (hn:n<=100) (st:Q3):∃ fs,GdR n tb fs/\Vf n tb fs=[]/\Zv [Q7 tb] st=.ok (.lst (fs.map Jq)) st:=by
  obtain ⟨fs,g,e,h⟩:=rooted_run z hn st
  refine ⟨fs,g,e,?_⟩
  have hfz:=fz_ints (n:=st.length) (r:=st.length) (S:=rdS st fs) (hs:=intsN fs) (O7 _) (by rw [intsN_map]; exact rdS_at _ _)
  rw [intsN_map] at hfz
  have hpre:st <+: rdS st fs:=List.prefix_append _ _
  generalize rdS st fs=S2 at *
  show Qn Yu 5 [Q7 tb] st=_
  unfold Qn
  rw [show (([Q7 tb]:List PV).map some ++ List.replicate (5 - [Q7 tb].length) none)=[some (Q7 tb),none,none,none,none] from rfl,h]
  show Sm.fin st (.ref st.length) S2=_
  unfold Sm.fin
  rw [if_pos hpre,hfz]
  rfl
theorem rc_dec {n:Nat} {tb:List (List Int)} {fs:List Nat} (g:GdR n tb fs) (hc:Vf n tb fs=[]):((List.range n).all fun h=>(knownF n tb).getD h false || !Wn tb h)=(List.range n).all fun h=>decide (h∈fs) || !Wn tb h:=by
  rw [Bool.eq_iff_iff,F6,F6]
  have hh:∀ h,h∈List.range n->(decide (h∈fs) || !Wn tb h)=((knownF n tb).getD h false || !Wn tb h):=fun h hm=>by
    have hlt:=E1.mp hm
    congr 1
    rw [Bool.eq_iff_iff,decide_eq_true_iff,g.closed hc hlt,known_rc n tb hlt]
  constructor <;> intro q x hx
  · rw [hh x hx]; exact q x hx
  · rw [<- hh x hx]; exact q x hx
def reachF (n:Nat) (tb:List (List Int)):Bool:=(List.range n).all fun h=>(knownF n tb).getD h false || !Wn tb h
theorem oth_busy {n:Nat} {tb:List (List Int)} {fs:List Nat} (g:GdR n tb fs) (hc:Vf n tb fs=[]):(Wv n fs).any (Wn tb)=!reachF n tb:=by
  unfold reachF
  rw [rc_dec g hc]
  unfold Wv
  rw [List.any_filter,List.any_eq_not_all_not]
  congr 2
  funext h
  rw [Bool.not_and,Bool.not_not]
theorem forG_first {α:Type} (g:α->PV) (J:Gam->Prop) (Pd:α->Bool) (v:α->PV) {ga:GA} {body:MS} {w:Wt} {st:Q3} (hw:wOk w st):∀ {xs:List α},(∀ x∈xs,∀ Γ,J Γ->∃ Γ1,ga (g x) Γ=some Γ1/\(Pd x=true->∃ Γ2,J Γ2/\body Γ1 st=.nx Γ2 st)/\(Pd x=false->body Γ1 st=.rt (v x) st)) ->
    ∀ Γ,J Γ->(xs.all Pd=true->∃ Γ',J Γ'/\forG ga body w (xs.map g) Γ st=.nx Γ' st)/\(xs.all Pd=false->∃ x∈xs,Pd x=false/\forG ga body w (xs.map g) Γ st=.rt (v x) st)
  | [],_,Γ,hJ=>⟨fun _=>⟨Γ,hJ,by simp [forG,hw]⟩,fun h=>by simp at h⟩
  | x :: xs,h,Γ,hJ=>by
    obtain ⟨Γ1,h1,h2,h3⟩:=h x D1 Γ hJ
    rw [F5,forG,if_pos hw,h1]
    cases px:Pd x with
    | false=>
      refine ⟨fun z=>by simp [px] at z,fun _=>⟨x,D1,px,?_⟩⟩
      simp only [h3 px]
    | true=>
      obtain ⟨Γ2,j2,e2⟩:=h2 px
      have ih:=forG_first g J Pd v (ga:=ga) (body:=body) hw (xs:=xs) (fun y hy=>h y (O6 _ hy)) Γ2 j2
      simp only [e2,List.all_cons,px,Bool.true_and]
      exact ⟨ih.1,fun q=>by
        obtain ⟨y,hy,p,e⟩:=ih.2 q
        exact ⟨y,O6 _ hy,p,e⟩⟩
def Uj (n:Nat) (tb:List (List Int)):Bool:=((List.range n).all fun h=>decide (0<=Qt tb h)) && reachF n tb
theorem rootless_houses_okF {n:Nat} {tb:List (List Int)} (z:Sz n tb) (hn:n<=100) (st:Q3):∃ us:List Nat,us.length<=n/\(us=[] <-> reachF n tb=true)/\Z8 [Q7 tb] st=.ok (.lst (us.map Jq)) st:=by
  obtain ⟨fs,g,hc,e⟩:=rooted_ok z hn st
  have hn1:-1000000<=(n:Int)/\(n:Int)<=1000000:=by omega
  have hln:Yh st [Q7 tb]=.ok (.int n) st:=by simp [Q7,z.1]
  have hat:ListAt st (.lst (fs.map Jq)) ((intsN fs).map .int):=.inl (by rw [intsN_map])
  have hc1:Ju (Qp 0) Y6 Ws [] (Jt [none,some 1] [some (Q7 tb),some (.lst (fs.map Jq)),none]) (Z5 0 n) st=.ok ((Wv n fs).map Jq) st:=by
    rw [rangeI0]
    refine compG_onF _ _ _ (by simp) fun j hj=>⟨_,rfl,?_,fun ht=>?_⟩
    · have hin:=in_ok hat (j:Int) true
      by_cases q:j∈fs
      · have q':(j:Int)∈intsN fs:=intsN_mem.mpr q
        generalize fs.map Jq=fv at *
        simp -implicitDefEqProofs [Jt,Y6,hin,q,q']
      · have q':¬ (j:Int)∈intsN fs:=fun z=>q (intsN_mem.mp z)
        generalize fs.map Jq=fv at *
        simp -implicitDefEqProofs [Jt,Y6,hin,q,q']
    · simp [Jt,Ws,Jq]
  have hol:(Wv n fs).length<=n:=by
    have:=List.length_filter_le (fun h=>!decide (h∈fs)) (List.range n)
    rw [List.length_range] at this
    exact this
  have hon:∀ h∈Wv n fs,h < n:=fun h hh=>E1.mp (List.mem_filter.mp hh).1
  have hob:=oth_busy g hc
  have hc2:Ju (Qp 0) Zc Wr [] (Jt [none,some 0] [some (Q7 tb),some (.lst (fs.map Jq)),some (.lst ((Wv n fs).map Jq))]) ((Wv n fs).map Jq) st=.ok (((Wv n fs).map (Wn tb)).map .bl) st:=by
    rw [List.map_map]
    refine Ye _ _ (by simp) fun j hj=>⟨_,rfl,?_⟩
    have hb:=busy_ok z (hon j hj) st
    show _=Res.ok (PV.bl (Wn tb j)) st
    generalize Wn tb j=rb at *
    simp -implicitDefEqProofs [Jt,Wr,Jq,hb]
  have ha:(Wv n fs).any (Wn tb)=((Wv n fs).map (Wn tb)).any id:=(any_id _ _).symm
  have l1:((Wv n fs).map Jq).length<=1000000:=by rw [O2]; omega
  have hgd:fin st (.lst ((Wv n fs).map Jq)) st=.ok (.lst ((Wv n fs).map Jq)) st:=Yc (by simp [Jm,Jq])
  have hgn:fin st (.lst []) st=.ok (.lst []) st:=Yc (by simp [Jm])
  cases hr:reachF n tb with
  | true=>
    refine ⟨[],by simp,by simp,?_⟩
    rw [hr,ha] at hob
    rw [List.map_nil]
    generalize (Wv n fs).map (Wn tb)=bs at *
    generalize (Wv n fs).map Jq=ov at *
    have hob:bs.any id=false:=hob
    simp -implicitDefEqProofs [Z8,Qn,W6,e,hln,hn1,Jj,hc1,l1,hc2,hob,hgn]
  | false=>
    rw [hr] at hob
    refine ⟨Wv n fs,hol,⟨fun q=>?_,fun q=>by cases q⟩,?_⟩
    · rw [q] at hob; cases hob
    · rw [ha] at hob
      have hob:((Wv n fs).map (Wn tb)).any id=true:=hob
      generalize (Wv n fs).map (Wn tb)=bs at *
      generalize (Wv n fs).map Jq=ov at *
      simp -implicitDefEqProofs [Z8,Qn,W6,e,hln,hn1,Jj,hc1,l1,hc2,hob,hgd]
theorem comes_okF {n:Nat} {tb:List (List Int)} (z:Sz n tb) (hn:n<=100) (st:Q3):∃ (s:Str) (v:PV),Y4 [Q7 tb] st=.ok (.tup [.str s,v]) st/\(s == (Str.ofString "comes"))=Uj n tb:=by
  have hn1:-1000000<=(n:Int)/\(n:Int)<=1000000:=by omega
  have hln:∀ S,Yh S [Q7 tb]=.ok (.int n) S:=fun S=>by simp [Q7,z.1]
  have L:=forG_first (fun k:Nat=>PV.int (k:Int)) (fun Γ=>∃ a,Γ=[some (Q7 tb),a,none]) (fun h=>decide (0<=Qt tb h)) (fun h=>.tup [.str "short",.int h]) (ga:=Qp 1) (body:=V3) (w:=[]) (st:=st) (by simp) (xs:=List.range n) (fun h hh Γ ⟨a,e⟩=>by
    subst e
    have hr:=rights_ok z hn (E1.mp hh) st
    refine ⟨_,rfl,fun hp=>⟨[some (Q7 tb),some (.int h),none],⟨_,rfl⟩,?_⟩,fun hp=>?_⟩
    · have hnn:0<=Qt tb h:=by simpa using hp
      have:¬ (Qt tb h < 0):=by omega
      generalize Qt tb h=x at *
      simp -implicitDefEqProofs [V3,hr,this]
    · have hnn:¬ 0<=Qt tb h:=by simpa using hp
      have:Qt tb h < 0:=by omega
      generalize Qt tb h=x at *
      simp -implicitDefEqProofs [V3,hr,this,Jj])
  have L:=L [some (Q7 tb),none,none] ⟨_,rfl⟩
  rw [<- rangeI0] at L
  unfold Uj
  cases ha:(List.range n).all fun h=>decide (0<=Qt tb h) with
  | false=>
    obtain ⟨h,hh,hp,e⟩:=L.2 ha
    refine ⟨"short",.int h,?_,by rw [Bool.false_and]; decide +kernel⟩
    have hg:fin st (.tup [.str "short",.int h]) st=.ok (.tup [.str "short",.int h]) st:=Yc (by simp [Jm])
    simp -implicitDefEqProofs [Y4,Qn,Ww,hln,hn1,Jj,e,hg]
  | true=>
    obtain ⟨Γ',⟨a,rfl⟩,e⟩:=L.1 ha
    obtain ⟨us,hl,hne,e1⟩:=rootless_houses_okF z hn st
    cases hr:reachF n tb with
    | true=>
      have hu:=hne.mpr hr
      subst hu
      obtain ⟨fs,g,hc,e2⟩:=rooted_ok z hn st
      refine ⟨"comes",.lst (fs.map Jq),?_,by rw [Bool.true_and]; decide +kernel⟩
      have hg:fin st (.tup [.str "comes",.lst (fs.map Jq)]) st=.ok (.tup [.str "comes",.lst (fs.map Jq)]) st:=Yc (by simp [Jm,Jq])
      rw [List.map_nil] at e1
      generalize fs.map Jq=fv at *
      simp -implicitDefEqProofs [Y4,Qn,Ww,hln,hn1,Jj,e,e1,e2,hg]
    | false=>
      have hu:us≠[]:=fun q=>by rw [hne.mp q] at hr; cases hr
      refine ⟨"rootless",.lst (us.map Jq),?_,by rw [Bool.true_and]; decide +kernel⟩
      have hp:0 < (us.map Jq).length:=by rw [O2]; exact List.length_pos_iff.mpr hu
      have hg:fin st (.tup [.str "rootless",.lst (us.map Jq)]) st=.ok (.tup [.str "rootless",.lst (us.map Jq)]) st:=Yc (by simp [Jm,Jq])
      generalize us.map Jq=uv at *
      simp -implicitDefEqProofs [Y4,Qn,Ww,hln,hn1,Jj,e,e1,hp,hg]
theorem need_ok {a b:List (List Int)} (h:a.length=b.length) (st:Q3):J6 [Q7 a,Q7 b] st=.ok .non st:=by
  simp [J6,Qn,Zs,Q7,h]
def rowLe (r1 r2:List Int):Bool:=(r1.zip r2).all fun z=>decide (z.1<=z.2)
theorem row_within_ok (r1 r2:List Int) (st:Q3) (hl:r1.length<=lim):Yy [Qq r1,Qq r2] st=.ok (.bl (rowLe r1 r2)) st:=by
  have hc:Ju (K3 (Jv (Qp 0) (Jv (Qp 1) K4))) Zc U0 [] (Jt [none,none] [some (Qq r1),some (Qq r2)]) ((r1.zip r2).map fun z=>.tup [.int z.1,.int z.2]) st=.ok ((r1.zip r2).map fun z=>.bl (decide (z.1<=z.2))) st:=by
    refine Ye _ _ (by simp) fun z hz=>⟨_,rfl,?_⟩
    simp [Jt,U0]
  unfold Qq at hc ⊢
  simp [Yy,Qn,X9,hl,zipT_map,hc,all_id,rowLe]
theorem is_row_ok (r:List Int) (n:Int) (st:Q3) (hl:r.length<=lim):F_is_row [Qq r,.int n] st=.ok (.bl (decide ((r.length:Int)=n + 1) && r.all fun i=>decide (0<=i))) st:=by
  have hc:Ju (Qp 0) Zc e_is_row_1 [] (Jt [none] [some (Qq r),some (.int n)]) (r.map .int) st=.ok (r.map fun i=>.bl (decide (0<=i))) st:=by
    refine Ye _ _ (by simp) fun i hi=>⟨_,rfl,?_⟩
    simp [Jt,e_is_row_1,is_whole_int]
  unfold Qq at hc ⊢
  by_cases h:(r.length:Int)=n + 1 <;> simp [F_is_row,Qn,m_is_row,isI,tyN,hc,h,hl,all_id]
theorem is_table_ok {n:Nat} {tb:List (List Int)} (w:Wt' n tb) (st:Q3):F_is_table [Q7 tb] st=.ok (.bl true) st:=by
  have h1:=w.n1
  have h8:=w.n8
  have hc:Ju (Qp 0) Zc e_is_table_1 [] (Jt [none,some 0] [some (Q7 tb)]) (tb.map Qq) st=.ok (tb.map fun _=>.bl true) st:=by
    refine Ye _ _ (by simp) fun r hr=>⟨_,rfl,?_⟩
    have e:=w.row r hr
    have e2:=is_row_ok r tb.length st (by rw [e,Jj]; omega)
    simp [Jt,e_is_table_1,Q7,e2]
    rw [w.len,e]
    exact ⟨by omega,w.nn r hr⟩
  unfold Q7 at hc ⊢
  have h1':(1:Int)<=n:=by omega
  have h8':(n:Int)<=8:=by omega
  have hl:n<=1000000:=by omega
  simp [F_is_table,Qn,m_is_table,isI,tyN,hc,w.len,all_id,h1',h8',Jj,hl]
def maxI (x y:Int):Int:=if y > x then y else x
def Vc (a b:List Int):List Int:=(a.zip b).map fun z=>maxI z.1 z.2
def Vd (a b:List (List Int)):List (List Int):=(a.zip b).map fun z=>Vc z.1 z.2
theorem joined_row_ok (a b:List Int) (hl:a.length<=lim) (st:Q3):U4 [Qq a,Qq b] st=.ok (Qq (Vc a b)) st:=by
  have hc:Ju (K3 (Jv (Qp 0) (Jv (Qp 1) K4))) Zc K5 [] (Jt [none,none] [some (Qq a),some (Qq b)]) ((a.zip b).map fun z=>.tup [.int z.1,.int z.2]) st=.ok ((a.zip b).map fun z=>.int (maxI z.1 z.2)) st:=by
    refine Ye _ _ (by simp) fun z hz=>⟨_,rfl,?_⟩
    simp [Jt,K5,maxI]
  have e:((a.zip b).map fun z=>PV.int (maxI z.1 z.2))=(Vc a b).map .int:=by unfold Vc; rw [List.map_map]; rfl
  rw [e] at hc
  have hg:Jm 12 (.tup ((Vc a b).map .int))=true:=by simp [Jm]
  generalize Vc a b=q at *
  unfold Qq at hc ⊢
  simp [U4,Qn,m_joined_row,hl,zipT_map,hc,Yc hg]
theorem joined_ok {a b:List (List Int)} (h:a.length=b.length) (hl:a.length<=lim) (hr:∀ r∈a,r.length<=lim) (st:Q3):F_joined [Q7 a,Q7 b] st=.ok (Q7 (Vd a b)) st:=by
  have hc:Ju (K3 (Jv (Qp 0) (Jv (Qp 1) K4))) Zc e_joined_1 [] (Jt [none,none] [some (Q7 a),some (Q7 b)]) ((a.zip b).map fun z=>.tup [Qq z.1,Qq z.2]) st=.ok ((a.zip b).map fun z=>Qq (Vc z.1 z.2)) st:=by
    refine Ye _ _ (by simp) fun z hz=>⟨_,rfl,?_⟩
    have:=joined_row_ok z.1 z.2 (hr _ (List.of_mem_zip hz).1) st
    simp [Jt,e_joined_1,this]
  have e:((a.zip b).map fun z=>Qq (Vc z.1 z.2))=(Vd a b).map Qq:=by unfold Vd; rw [List.map_map]; rfl
  rw [e] at hc
  have hn:=need_ok h st
  have hg:Jm 12 (.tup ((Vd a b).map Qq))=true:=by simp [Jm,Qq]
  generalize Vd a b=q at *
  unfold Q7 at hc hn ⊢
  simp [F_joined,Qn,m_joined,hl,zipT_map,hc,hn,Yc hg]
def Zk (n:Nat):List Int:=List.replicate (n + 1) 0
theorem zTab_wt {n:Nat} (h1:1<=n) (h8:n<=8):Wt' n (List.replicate n (Zk n)):=by
  refine ⟨by simp,fun r hr=>?_,fun r hr x hx=>?_,h1,h8⟩
  · rw [List.eq_of_mem_replicate hr]; simp [Zk]
  · rw [List.eq_of_mem_replicate hr] at hx
    rw [List.eq_of_mem_replicate hx]
    exact Int.le_refl _
def Yt (tb:List (List Int)) (i j:Nat) (x:Int):List (List Int):=tb.set i ((tb.getD i []).set j x)
theorem Ur {n i j:Nat} {tb:List (List Int)} (z:Sz n tb) (hi:i < n) (hj:j<=n) (x:Int) (a b:Nat):ent (Yt tb i j x) a b=if a=i/\b=j then x else ent tb a b:=by
  unfold ent Yt
  have hl:=(z.row hi).2
  by_cases ha:a=i
  · subst ha
    rw [show (tb.set a ((tb.getD a []).set j x)).getD a []=(tb.getD a []).set j x by rw [List.getD,E8 (by rw [z.1]; exact hi)]; rfl]
    by_cases hb:b=j
    · subst hb
      rw [if_pos ⟨rfl,rfl⟩,List.getD,E8 (by omega)]; rfl
    · rw [if_neg (fun q=>hb q.2),List.getD,F0 (fun q=>hb q.symm)]; rfl
  · rw [if_neg (fun q=>ha q.1)]
    rw [show (tb.set i ((tb.getD i []).set j x)).getD a []=tb.getD a [] by rw [List.getD,F0 (fun q=>ha q.symm)]; rfl]
theorem upto_delta (n i:Nat) (k:Int):Zw n (fun o=>if o=i then k else 0)=if i < n then k else 0:=by
  induction n with
  | zero=>rfl
  | succ n ih=>
    rw [Jf,ih]
    by_cases e:n=i
    · subst e; simp
    · rw [if_neg e]
      by_cases h:i < n
      · rw [if_pos h,if_pos (by omega)]; omega
      · rw [if_neg h,if_neg (by omega)]; omega
theorem putT_sz {n i j:Nat} {tb:List (List Int)} (z:Sz n tb) (hi:i < n) (x:Int):Sz n (Yt tb i j x):=by
  unfold Yt
  refine ⟨by rw [F4]; exact z.1,fun r hr=>?_⟩
  rcases List.mem_or_eq_of_mem_set hr with hr | rfl
  · exact z.2 r hr
  · rw [F4]; exact (z.row hi).2
theorem rights_put {n i j:Nat} {tb:List (List Int)} (z:Sz n tb) (hi:i < n) (hj:j<=n) (k:Int) {h:Nat} (hh:h < n) :
    Qt (Yt tb i j (ent tb i j + k)) h=Qt tb h + (if h=j then k else 0) - (if h=i then k else 0) + (if h=i/\j=i then k else 0):=by
  have z':=putT_sz (j:=j) z hi (ent tb i j + k)
  have he:∀ a b,ent (Yt tb i j (ent tb i j + k)) a b=ent tb a b + if a=i/\b=j then k else 0:=fun a b=>by
    rw [Ur z hi hj]
    split
    · rename_i q; rw [q.1,q.2]
    · omega
  rw [Xu z' hh,Xu z hh]
  have c1:Zw n (fun o=>ent (Yt tb i j (ent tb i j + k)) o h)=Zw n (fun o=>ent tb o h) + if h=j then k else 0:=by
    rw [V4 (g:=fun o=>ent tb o h + if o=i then (if h=j then k else 0) else 0) fun o _=>by
      rw [he]
      by_cases q1:o=i <;> by_cases q2:h=j <;> simp [q1,q2],upto_add,upto_delta,if_pos hi]
  have c2:Zw n (fun b=>ent (Yt tb i j (ent tb i j + k)) h b) + ent (Yt tb i j (ent tb i j + k)) h n=Zw n (fun b=>ent tb h b) + ent tb h n + if h=i then k else 0:=by
    rw [<- Jf,<- Jf,V4 (g:=fun b=>ent tb h b + if b=j then (if h=i then k else 0) else 0) fun b _=>by
      rw [he]
      by_cases q1:h=i <;> by_cases q2:b=j <;> simp [q1,q2],upto_add,upto_delta,if_pos (by omega)]
  rw [c1,c2,he]
  by_cases q1:h=i <;> by_cases q2:j=i <;> by_cases q3:h=j <;> simp [q1,q2,q3] <;> omega
structure Ca (n:Nat) (tb:List (List Int)):Prop where
  nn:∀ h,h < n->0<=Qt tb h
  bz:∀ h,h < n->Wn tb h=true->Rc n tb h
theorem Ca.comes {n:Nat} {tb:List (List Int)} (c:Ca n tb):Uj n tb=true:=by
  unfold Uj reachF
  rw [F3,F6,F6]
  refine ⟨fun h hh=>by simp [c.nn h (E1.mp hh)],fun h hh=>?_⟩
  have hh:=E1.mp hh
  cases hb:Wn tb h with
  | false=>simp
  | true=>rw [(known_rc n tb hh).mpr (c.bz h hh hb)]; rfl
theorem Rc.mono {n:Nat} {t1 t2:List (List Int)} (h:∀ a b,a < n->b < n->ent t1 a b<=ent t2 a b) {g:Nat} (r:Rc n t1 g):Rc n t2 g:=by
  induction r with
  | @made k hl hm=>
    refine .made hl ?_
    unfold madeF at *
    have:=h k k hl hl
    simp at hm
    simp; omega
  | @lent o k r hl he ih=>
    have:=h o k r.lt hl
    exact .lent ih hl (by omega)
theorem busy_iff {n:Nat} {tb:List (List Int)} (w:Wt' n tb) {h:Nat} (hh:h < n):Wn tb h=true <-> ∃ j,j<=n/\j≠h/\0 < ent tb h j:=by
  rw [<- busy_eq w hh]
  unfold busyR
  rw [List.any_eq_true]
  constructor
  · rintro ⟨j,hj,q⟩
    simp at q
    exact ⟨j,by have:=E1.mp hj; omega,q.1,q.2⟩
  · rintro ⟨j,hj,q1,q2⟩
    exact ⟨j,E1.mpr (by omega),by simp [q1,q2]⟩
theorem Ca.rc_of {n:Nat} {tb:List (List Int)} (w:Wt' n tb) (c:Ca n tb) {i:Nat} (hi:i < n) (hr:1<=Qt tb i):Rc n tb i:=by
  rw [Xu w.sz hi] at hr
  have hrow:ent tb i i<=Zw n (fun j=>ent tb i j):=upto_le (fun j hj=>w.ent_nn hi (D2 hj)) hi
  have hnn:=w.ent_nn hi (O7 n)
  have:∃ o,o < n/\0 < ent tb o i:=by
    refine Classical.byContradiction fun q=>?_
    have:Zw n (fun o=>ent tb o i)=Zw n fun _=>0:=V4 fun o ho=>by
      have h1:=w.ent_nn ho (D2 hi)
      have h2:¬ 0 < ent tb o i:=fun z=>q ⟨o,ho,z⟩
      omega
    rw [upto_zero] at this
    omega
  obtain ⟨o,ho,he⟩:=this
  by_cases e:o=i
  · subst e
    exact .made hi (by unfold madeF; simp [he])
  · exact .lent (c.bz o ho ((busy_iff w ho).mpr ⟨i,D2 hi,fun z=>e z.symm,he⟩)) hi he
theorem Ca.make {n i:Nat} {tb:List (List Int)} (w:Wt' n tb) (c:Ca n tb) (hi:i < n) {k:Int} (hk:0<=k) (w':Wt' n (Yt tb i i (ent tb i i + k))):Ca n (Yt tb i i (ent tb i i + k)):=by
  have hle:∀ a b,ent tb a b<=ent (Yt tb i i (ent tb i i + k)) a b:=fun a b=>by
    rw [Ur w.sz hi (D2 hi)]
    split
    · rename_i q; rw [q.1,q.2]; omega
    · omega
  refine ⟨fun h hh=>?_,fun h hh hb=>?_⟩
  · rw [rights_put w.sz hi (D2 hi) k hh]
    have:=c.nn h hh
    by_cases q:h=i <;> simp [q] at * <;> omega
  · obtain ⟨j,hj,q1,q2⟩:=(busy_iff w' hh).mp hb
    rw [Ur w.sz hi (D2 hi)] at q2
    rw [if_neg (fun q=>q1 (by omega))] at q2
    exact (c.bz h hh ((busy_iff w hh).mpr ⟨j,hj,q1,q2⟩)).mono fun a b _ _=>hle a b
theorem Ca.give {n i j:Nat} {tb:List (List Int)} (w:Wt' n tb) (c:Ca n tb) (hi:i < n) (hj:j<=n) (hne:j≠i) {k:Int} (hk:0<=k) (hr:k<=Qt tb i) (hr1:1<=Qt tb i) (w':Wt' n (Yt tb i j (ent tb i j + k))):Ca n (Yt tb i j (ent tb i j + k)):=by
  have hle:∀ a b,ent tb a b<=ent (Yt tb i j (ent tb i j + k)) a b:=fun a b=>by
    rw [Ur w.sz hi hj]
    split
    · rename_i q; rw [q.1,q.2]; omega
    · omega
  refine ⟨fun h hh=>?_,fun h hh hb=>?_⟩
  · rw [rights_put w.sz hi hj k hh]
    have:=c.nn h hh
    by_cases q:h=i
    · subst q
      rw [if_neg (fun z=>hne z.symm),if_pos rfl,if_neg (fun z=>hne z.2)]
      omega
    · by_cases q2:h=j
      · rw [if_pos q2,if_neg q,if_neg (fun z=>q z.1)]; omega
      · rw [if_neg q2,if_neg q,if_neg (fun z=>q z.1)]; omega
  · by_cases q:h=i
    · subst q
      exact (c.rc_of w hi hr1).mono fun a b _ _=>hle a b
    · obtain ⟨b,hb1,q1,q2⟩:=(busy_iff w' hh).mp hb
      rw [Ur w.sz hi hj,if_neg (fun z=>q z.1)] at q2
      exact (c.bz h hh ((busy_iff w hh).mpr ⟨b,hb1,q1,q2⟩)).mono fun a b _ _=>hle a b
theorem Ca.zero {n:Nat} (h1:1<=n) (h8:n<=8) (w:Wt' n (List.replicate n (Zk n))):Ca n (List.replicate n (Zk n)):=by
  have he:∀ a b,a < n->b<=n->ent (List.replicate n (Zk n)) a b=0:=fun a b ha hb=>by
    unfold ent Zk
    rw [show (List.replicate n (List.replicate (n + 1) (0:Int))).getD a []=List.replicate (n + 1) 0 by rw [List.getD,List.getElem?_replicate,if_pos ha]; rfl]
    rw [List.getD,List.getElem?_replicate,if_pos (by omega)]; rfl
  refine ⟨fun h hh=>?_,fun h hh hb=>?_⟩
  · rw [Xu w.sz hh,V4 (g:=fun _=>0) fun o ho=>he o h ho (D2 hh),V4 (f:=fun j=>ent (List.replicate n (Zk n)) h j) (g:=fun _=>0) fun o ho=>he h o hh (D2 ho),upto_zero,he h n hh (O7 n),he h h hh (D2 hh)]
    omega
  · obtain ⟨j,hj,_,q⟩:=(busy_iff w hh).mp hb
    rw [he h j hh hj] at q
    omega
theorem does_ok {n:Nat} {tb:List (List Int)} (w:Wt' n tb) (st:Q3):Y0 [Q7 tb] st=.ok (.bl (Uj n tb)) st:=by
  have h8:=w.n8
  obtain ⟨s,v,e,hs⟩:=comes_okF w.sz (by omega) st
  have ht:=is_table_ok w st
  rw [<- hs]
  generalize Q7 tb=T at *
  simp -implicitDefEqProofs [Y0,Qn,Vp,ht,e,atI,ixN]
theorem Wt'.set0 {n i j:Nat} {tb:List (List Int)} (w:Wt' n tb) (hi:i < n) {x:Int} (hx:0<=x):Wt' n (tb.set i ((tb.getD i []).set j x)):=by
  have hr:=(w.sz.row hi).1
  have hm:=D6 hr
  generalize tb.getD i []=r at *
  refine ⟨by rw [F4]; exact w.len,fun q hq=>?_,fun q hq y hy=>?_,w.n1,w.n8⟩
  · rcases List.mem_or_eq_of_mem_set hq with hq | rfl
    · exact w.row q hq
    · rw [F4]; exact w.row r hm
  · rcases List.mem_or_eq_of_mem_set hq with hq | rfl
    · exact w.nn q hq y hy
    · rcases List.mem_or_eq_of_mem_set hy with hy | rfl
      · exact w.nn r hm y hy
      · exact hx
theorem set_cut {α:Type} (xs:List α) (i:Nat) (x:α) (h:i < xs.length):xs.take i ++ [x] ++ xs.drop (i + 1)=xs.set i x:=by
  rw [List.set_eq_take_append_cons_drop,if_pos h,List.append_assoc]; rfl
theorem raised_ok {n i j:Nat} {tb:List (List Int)} (z:Sz n tb) (hn:n<=100) (hi:i < n) (hj:j<=n) (k:Int) (st:Q3):F_raised [Q7 tb,.int i,.int j,.int k] st=.ok (Q7 (Yt tb i j (ent tb i j + k))) st:=by
  have c0:=V1 z hi hj st
  have hrl:=(z.row hi).2
  have g1:Qq ((tb.getD i []).set j (ent tb i j + k))=.tup (((tb.getD i []).take j).map .int ++ [.int (ent tb i j + k)] ++ ((tb.getD i []).drop (j + 1)).map .int):=by
    unfold Qq
    rw [<- set_cut _ _ _ (by omega),F2,F2]; rfl
  have g2:Q7 (Yt tb i j (ent tb i j + k))=.tup ((tb.take i).map Qq ++ [Qq ((tb.getD i []).set j (ent tb i j + k))] ++ (tb.drop (i + 1)).map Qq):=by
    unfold Q7 Yt
    rw [<- set_cut _ _ _ (by rw [z.1]; exact hi),F2,F2]; rfl
  have c3:cut ((tb.getD i []).map PV.int) none (some (j:Int))=((tb.getD i []).take j).map .int:=by rw [Us,cut_front]
  have c4:cut ((tb.getD i []).map PV.int) (some ((j:Int) + 1)) none=((tb.getD i []).drop (j + 1)).map .int:=by rw [Us]; exact congrArg _ (cut_back _ (j + 1))
  have c5:cut (tb.map Qq) none (some (i:Int))=(tb.take i).map Qq:=by rw [Us,cut_front]
  have c6:cut (tb.map Qq) (some ((i:Int) + 1)) none=(tb.drop (i + 1)).map Qq:=by rw [Us]; exact congrArg _ (cut_back _ (i + 1))
  have l3:(((tb.getD i []).take j).map PV.int).length=j:=by rw [O2,List.length_take,hrl]; omega
  have l4:(((tb.getD i []).drop (j + 1)).map PV.int).length=n - j:=by rw [O2,List.length_drop,hrl]; omega
  have l5:((tb.take i).map Qq).length=i:=by rw [O2,List.length_take,z.1]; omega
  have l6:((tb.drop (i + 1)).map Qq).length=n - (i + 1):=by rw [O2,List.length_drop,z.1]
  have b1:j + 1<=1000000:=by omega
  have b2:j + 1 + (n - j)<=1000000:=by omega
  have b3:i + 1<=1000000:=by omega
  have b4:i + 1 + (n - (i + 1))<=1000000:=by omega
  have hf:fin st (Q7 (Yt tb i j (ent tb i j + k))) st=.ok (Q7 (Yt tb i j (ent tb i j + k))) st:=Yc (by simp [Jm,Q7,Qq])
  obtain ⟨c1,c2⟩:=c0
  have q1:oSl st (Qq (tb.getD i [])) none (some (j:Int))=.ok (.tup (((tb.getD i []).take j).map .int)) st:=by unfold Qq; rw [Up,c3]
  have q2:oSl st (Qq (tb.getD i [])) (some ((j:Int) + 1)) none=.ok (.tup (((tb.getD i []).drop (j + 1)).map .int)) st:=by unfold Qq; rw [Up,c4]
  have q3:oSl st (Q7 tb) none (some (i:Int))=.ok (.tup ((tb.take i).map Qq)) st:=by unfold Q7; rw [Up,c5]
  have q4:oSl st (Q7 tb) (some ((i:Int) + 1)) none=.ok (.tup ((tb.drop (i + 1)).map Qq)) st:=by unfold Q7; rw [Up,c6]
  rw [g2] at hf ⊢
  rw [g1] at hf ⊢
  generalize ent tb i j=x at *
  generalize ((tb.getD i []).take j).map PV.int=v3 at *
  generalize ((tb.getD i []).drop (j + 1)).map PV.int=v4 at *
  generalize (tb.take i).map Qq=v5 at *
  generalize (tb.drop (i + 1)).map Qq=v6 at *
  generalize Qq (tb.getD i [])=rv at *
  generalize Q7 tb=T at *
  simp -implicitDefEqProofs at hf
  simp -implicitDefEqProofs [F_raised,Qn,m_raised,c1,c2,q1,q2,q3,q4,Jj,l3,l4,l5,l6,b1,b2,b3,b4,hf]
inductive Dd where
  | mk (h:Nat) (k:Int)
  | ld (h q:Nat) (k:Int)
  | us (h:Nat) (k:Int)
def Dd.h:Dd->Nat
  | .mk h _=>h
  | .ld h _ _=>h
  | .us h _=>h
def Dd.k:Dd->Int
  | .mk _ k=>k
  | .ld _ _ k=>k
  | .us _ k=>k
def Dd.pl (n:Nat):Dd->Nat
  | .mk h _=>h
  | .ld _ q _=>q
  | .us _ _=>n
def Dd.isM:Dd->Bool
  | .mk _ _=>true
  | _=>false
def Dd.V:Dd->PV
  | .mk h k=>.tup [.str "make",.int h,.int k]
  | .ld h q k=>.tup [.str "lend",.int h,.int q,.int k]
  | .us h k=>.tup [.str "use",.int h,.int k]
def Dd.ok (n:Nat):Dd->Prop
  | .mk h k=>h < n/\1<=k
  | .ld h q k=>h < n/\q < n/\q≠h/\1<=k
  | .us h k=>h < n/\1<=k
theorem Dd.ok_h {n:Nat} {d:Dd} (o:d.ok n):d.h < n:=by cases d <;> exact o.1
theorem Dd.ok_k {n:Nat} {d:Dd} (o:d.ok n):1<=d.k:=by
  cases d with
  | mk h k=>exact o.2
  | ld h q k=>exact o.2.2.2
  | us h k=>exact o.2
theorem Dd.ok_pl {n:Nat} {d:Dd} (o:d.ok n):d.pl n<=n:=by
  cases d with
  | mk h k=>exact D2 o.1
  | ld h q k=>exact D2 o.2.1
  | us h k=>exact O7 n
theorem text_ok (x:Str) (ns:List Int) (hl:ns.length<=100) (st:Q3):J1 [.tup (.str x :: ns.map .int)] st=.ok (.bl true) st:=by
  have c1:cut (PV.str x :: ns.map .int) (some 1) none=ns.map .int:=cut_back _ 1
  have hc:Ju (Qp 0) Zc Yd [] (Jt [none] [some (.tup (.str x :: ns.map .int))]) (ns.map .int) st=.ok (ns.map fun _=>.bl true) st:=by
    refine Ye _ _ (by simp) fun i _=>⟨_,rfl,?_⟩
    simp [Jt,Yd,is_whole_int]
  have e:(ns.map fun _=>PV.bl true)=(ns.map fun _=>true).map PV.bl:=by rw [List.map_map]; rfl
  have ha:(ns.map fun _=>true).all id=true:=by simp
  have a0:atI (PV.str x :: ns.map .int) 0=some (.str x):=Sm.atI_get (show (PV.str x :: ns.map .int)[0]?=some (.str x) from rfl)
  have hll:(ns.map PV.int).length<=1000000:=by rw [O2]; omega
  rw [e] at hc
  have i1:isI "tuple" (.tup (.str x :: ns.map .int))=true:=rfl
  have i2:isI "str" (.str x)=true:=rfl
  have hz:¬ (((ns.map PV.int).length:Int) + 1=0):=by omega
  generalize (ns.map fun _=>true)=bs at *
  generalize ns.map PV.int=nv at *
  simp -implicitDefEqProofs [J1,Qn,W3,i1,i2,a0,c1,hc,ha,Jj,hll,hz,-F3]
theorem str_ml:¬ (Str.ofString "make" = Str.ofString "lend"):=by decide
theorem str_lm:¬ (Str.ofString "lend" = Str.ofString "make"):=by decide
theorem str_um:¬ (Str.ofString "use" = Str.ofString "make"):=by decide
theorem str_ul:¬ (Str.ofString "use" = Str.ofString "lend"):=by decide
theorem is_deed_ok {n:Nat} {d:Dd} (o:d.ok n) (st:Q3):Z9 [d.V] st=.ok (.bl true) st:=by
  have hk:=Dd.ok_k o
  cases d with
  | mk h k=>
    have t:=text_ok "make" [h,k] (by simp) st
    have a0:atI [PV.str "make",.int h,.int k] 0=some (.str "make"):=rfl
    have a1:atI [PV.str "make",.int h,.int k] (-1)=some (.int k):=rfl
    have hk:(1:Int)<=k:=hk
    have t:J1 [.tup [.str "make",.int h,.int k]] st=.ok (.bl true) st:=t
    unfold Dd.V
    simp -implicitDefEqProofs [Z9,Qn,Vb,t,a0,a1,hk]
  | ld h q k=>
    have t:=text_ok "lend" [h,q,k] (by simp) st
    have a0:atI [PV.str "lend",.int h,.int q,.int k] 0=some (.str "lend"):=rfl
    have a1:atI [PV.str "lend",.int h,.int q,.int k] (-1)=some (.int k):=rfl
    have hk:(1:Int)<=k:=hk
    have t:J1 [.tup [.str "lend",.int h,.int q,.int k]] st=.ok (.bl true) st:=t
    unfold Dd.V
    simp -implicitDefEqProofs [Z9,Qn,Vb,t,a0,a1,hk,str_lm]
  | us h k=>
    have t:=text_ok "use" [h,k] (by simp) st
    have a0:atI [PV.str "use",.int h,.int k] 0=some (.str "use"):=rfl
    have a1:atI [PV.str "use",.int h,.int k] (-1)=some (.int k):=rfl
    have hk:(1:Int)<=k:=hk
    have t:J1 [.tup [.str "use",.int h,.int k]] st=.ok (.bl true) st:=t
    unfold Dd.V
    simp -implicitDefEqProofs [Z9,Qn,Vb,t,a0,a1,hk,str_um,str_ul]
theorem needh_ok {n:Nat} {tb:List (List Int)} (hn:tb.length=n) {d:Dd} (o:d.ok n) (st:Q3):J3 [Q7 tb,d.V] st=.ok .non st:=by
  have b1:cBls (fun ns=>.bl (ns.all id)) st [.lst [.bl true]]=.ok (.bl true) st:=cBls_lst _ st [true]
  have b2:cBls (fun ns=>.bl (ns.all id)) st [.lst [.bl true,.bl true]]=.ok (.bl true) st:=cBls_lst _ st [true,true]
  have hh:∀ i:Nat,i < n->Zb [Q7 tb,.int i] st=.ok (.bl true) st:=fun i hi=>by
    have:=X0 (V:=Q7 tb) (n:=n) (st:=st) (by simp [Q7,hn]) (i:Int)
    rw [show (decide ((0:Int)<=(i:Int)) && decide ((i:Int) < (n:Int)))=true by simp; omega] at this
    exact this
  cases d with
  | mk h k=>
    have e:=hh h o.1
    have s1:cut [PV.str "make",.int h,.int k] (some 1) (some (-1))=[.int h]:=rfl
    have a0:atI [PV.str "make",.int h,.int k] 0=some (.str "make"):=rfl
    unfold Dd.V
    generalize Q7 tb=T at *
    simp -implicitDefEqProofs [J3,Qn,Jp,s1,a0,Ju,Qp,Zc,Jt,Jh,b1,b2,e,Jj,str_ml]
  | ld h q k=>
    have e:=hh h o.1
    have e2:=hh q o.2.1
    have s1:cut [PV.str "lend",.int h,.int q,.int k] (some 1) (some (-1))=[.int h,.int q]:=rfl
    have a0:atI [PV.str "lend",.int h,.int q,.int k] 0=some (.str "lend"):=rfl
    have a1:atI [PV.int (h:Int),.int q] 0=some (.int h):=rfl
    have a2:atI [PV.int (h:Int),.int q] 1=some (.int q):=rfl
    have hne:((h:Int) == (q:Int))=false:=by rw [beq_eq_false_iff_ne]; have:=o.2.2.1; omega
    have hne':¬ ((h:Int)=(q:Int)):=by have:=o.2.2.1; omega
    unfold Dd.V
    generalize Q7 tb=T at *
    simp -implicitDefEqProofs [J3,Qn,Jp,s1,a0,a1,a2,Ju,Qp,Zc,Jt,Jh,b1,b2,e,e2,Jj,hne,hne']
  | us h k=>
    have e:=hh h o.1
    have s1:cut [PV.str "use",.int h,.int k] (some 1) (some (-1))=[.int h]:=rfl
    have a0:atI [PV.str "use",.int h,.int k] 0=some (.str "use"):=rfl
    unfold Dd.V
    generalize Q7 tb=T at *
    simp -implicitDefEqProofs [J3,Qn,Jp,s1,a0,Ju,Qp,Zc,Jt,Jh,b1,b2,e,Jj,str_ul]
theorem place_ok {n:Nat} {tb:List (List Int)} (hn:tb.length=n) {d:Dd} (o:d.ok n) (st:Q3):Zn [Q7 tb,d.V] st=.ok (.int (d.pl n)) st:=by
  cases d with
  | mk h k=>
    have a0:atI [PV.str "make",.int h,.int k] 0=some (.str "make"):=rfl
    have a1:atI [PV.str "make",.int h,.int k] 1=some (.int h):=rfl
    unfold Dd.V Dd.pl
    generalize Q7 tb=T at *
    simp -implicitDefEqProofs [Zn,Qn,Wa,a0,a1]
  | ld h q k=>
    have a0:atI [PV.str "lend",.int h,.int q,.int k] 0=some (.str "lend"):=rfl
    have a1:atI [PV.str "lend",.int h,.int q,.int k] 2=some (.int q):=rfl
    unfold Dd.V Dd.pl
    generalize Q7 tb=T at *
    simp -implicitDefEqProofs [Zn,Qn,Wa,a0,a1,str_lm]
  | us h k=>
    have a0:atI [PV.str "use",.int h,.int k] 0=some (.str "use"):=rfl
    have hl:(tb.map Qq).length=n:=by rw [O2]; exact hn
    unfold Dd.V Dd.pl Q7
    generalize tb.map Qq=T at *
    simp -implicitDefEqProofs [Zn,Qn,Wa,a0,hl,str_um,str_ul]
def Dd.fits (tb:List (List Int)) (d:Dd):Bool:=d.isM || decide (d.k<=Qt tb d.h)
def Dd.put (n:Nat) (tb:List (List Int)) (d:Dd):List (List Int):=Yt tb d.h (d.pl n) (ent tb d.h (d.pl n) + d.k)
theorem Dd.a0 (d:Dd) (st:Q3):∃ w:Str,oIx st d.V (.int 0)=.ok (.str w) st/\(w = "make" <-> d.isM=true):=by
  cases d with
  | mk h k=>exact ⟨"make",rfl,by simp [Dd.isM]⟩
  | ld h q k=>exact ⟨"lend",rfl,by simp [Dd.isM,str_lm]⟩
  | us h k=>exact ⟨"use",rfl,by simp [Dd.isM,str_um]⟩
theorem Dd.a1 (d:Dd) (st:Q3):oIx st d.V (.int 1)=.ok (.int d.h) st:=by cases d <;> rfl
theorem Dd.al (d:Dd) (st:Q3):oIx st d.V (.int (-1))=.ok (.int d.k) st:=by cases d <;> rfl
theorem done_ok {n:Nat} {tb:List (List Int)} (w:Wt' n tb) {d:Dd} (o:d.ok n) (st:Q3):Wu [Q7 tb,d.V] st=if d.fits tb=true then .ok (Q7 (d.put n tb)) st else .exc ⟨"Short",some ("had",.int (Qt tb d.h))⟩ st:=by
  have h8:=w.n8
  have e1:=is_deed_ok o st
  have e2:=needh_ok w.len o st
  have e3:=rights_ok w.sz (by omega) (Dd.ok_h o) st
  have e4:=place_ok w.len o st
  have e5:=raised_ok w.sz (by omega) (Dd.ok_h o) (Dd.ok_pl o) d.k st
  obtain ⟨x,e6,hx⟩:=d.a0 st
  have e7:=d.a1 st
  have e8:=d.al st
  have hpre:st <+: st:=List.prefix_refl _
  have hf:fin st (Q7 (d.put n tb)) st=.ok (Q7 (d.put n tb)) st:=Yc (by simp [Jm,Q7,Qq])
  have hfx:finX st ⟨"Short",some ("had",.int (Qt tb d.h))⟩ st=.exc ⟨"Short",some ("had",.int (Qt tb d.h))⟩ st:=by simp [finX,fz]
  unfold Dd.put Dd.fits at *
  generalize Q7 (Yt tb d.h (d.pl n) (ent tb d.h (d.pl n) + d.k))=V2 at *
  generalize Qt tb d.h=r at *
  generalize Q7 tb=T at *
  generalize d.V=DV at *
  generalize (d.pl n:Int)=pl at *
  generalize d.k=k at *
  cases hm:d.isM with
  | true=>
    have hx:x = "make" := hx.mpr hm
    subst hx
    simp -implicitDefEqProofs [Wu,Qn,m_done,e1,e2,e4,e5,e6,e7,e8,hf]
  | false=>
    have hx':¬ x = "make" := fun z=>by rw [hx.mp z] at hm; cases hm
    by_cases hk:k<=r
    · have hk':¬ r < k:=by omega
      simp -implicitDefEqProofs [Wu,Qn,m_done,e1,e2,e3,e4,e5,e6,e7,e8,hf,hx',hk,hk']
    · have hk':r < k:=by omega
      simp -implicitDefEqProofs [Wu,Qn,m_done,e1,e2,e3,e6,e7,e8,hfx,hx',hk,hk']
theorem Qr {a b:MS} {Γ Γ1:Gam} {S S1:Q3} {r:SR} (h1:a Γ S=.nx Γ1 S1) (h2:b Γ1 S1=r):Qm a b Γ S=r:=by rw [mSeqS_eq,h1]; exact h2
theorem Je {i:Nat} {m:ME} {Γ:Gam} {S S1:Q3} {v:PV} (h:m Γ S=.ok v S1):Jc i m Γ S=.nx (Γ.set i (some v)) S1:=by rw [mSet_eq,h]; rfl
theorem Qk {n:Nat} {F:FN} {mr:ML} {Γ:Gam} {S S1 S2:Q3} {ps:List PV} {v:PV} (h1:mr Γ S=.ok ps S1) (h2:ps.length=n) (h3:F ps S1=.ok v S2):Qi n F mr Γ S=.ok v S2:=by rw [mCallF_eq,h1,J5,if_pos h2,h3]
theorem Qj {o:OP} {a b:ME} {Γ:Gam} {S S1 S2 S3:Q3} {x y v:PV} (h1:a Γ S=.ok x S1) (h2:b Γ S1=.ok y S2) (h3:o S2 x y=.ok v S3):mOp o a b Γ S=.ok v S3:=by rw [mOp_eq,h1,J5,h2,J5,h3]
theorem Q4 {m:ME} {mr:ML} {Γ:Gam} {S S1 S2:Q3} {p:PV} {ps:List PV} (h1:m Γ S=.ok p S1) (h2:mr Γ S1=.ok ps S2):Q2 m mr Γ S=.ok (p :: ps) S2:=by rw [mCons_eq,h1,J5,h2,J5]
theorem U3 {o:CF} {mr:ML} {Γ:Gam} {S S1 S2:Q3} {ps:List PV} {v:PV} (h1:mr Γ S=.ok ps S1) (h2:o S1 ps=.ok v S2):Ja o mr Γ S=.ok v S2:=by rw [mCall_eq,h1,J5,h2]
theorem for_ok {ga:GA} {mi:MI} {b:MS} {Γ:Gam} {S S1:Q3} {xs:List PV} {w:Wt} {r:SR} (h1:mi Γ S=.ok (xs,w) S1) (h2:forG ga b w xs Γ S1=r):mFor ga mi b Γ S=r:=by rw [mFor_eq,h1]; exact h2
theorem if_t {c:MT} {a b:MS} {Γ:Gam} {S S1:Q3} {r:SR} (h1:c Γ S=.ok true S1) (h2:a Γ S1=r):Yw c a b Γ S=r:=by rw [mIfS_eq,h1]; exact h2
theorem K2 {c:MT} {a b:MS} {Γ:Gam} {S S1:Q3} {r:SR} (h1:c Γ S=.ok false S1) (h2:b Γ S1=r):Yw c a b Γ S=r:=by rw [mIfS_eq,h1]; exact h2
theorem sq_ok {m:ME} {Γ:Gam} {S S1:Q3} {p:PV} {xs:List PV} {w:Wt} (h1:m Γ S=.ok p S1) (h2:Uw S1 p=some (xs,w)) (h3:xs.length<=1000000):mSeq m Γ S=.ok (xs,w) S1:=by rw [mSeq_eq,h1,J5,h2]; exact if_pos h3
theorem val_ok {m:ML} {Γ:Gam} {S S1:Q3} {ps:List PV} (h:m Γ S=.ok ps S1):Xa m Γ S=.ok (.lst ps) S1:=by rw [mVal_eq,h,J5]
theorem comp_ok {cap:List (Option Nat)} {ga:GA} {mi:MI} {mt:MT} {me:ME} {Γ:Gam} {S S1 S2:Q3} {xs ys:List PV} {w:Wt} (h1:mi Γ S=.ok (xs,w) S1) (h2:Ju ga mt me w (Jt cap Γ) xs S1=.ok ys S2):Za cap ga mi mt me Γ S=.ok ys S2:=by rw [mCompN_eq,h1,J5,h2]; rfl
theorem trk_ok {m:ML} {Γ:Gam} {S S1:Q3} {ps:List PV} (h:m Γ S=.ok ps S1):mTrk m Γ S=.ok (.ref S1.length) (S1 ++ [.lst ps]):=by rw [mTrk_eq,h,J5]
theorem not_ok {t:MT} {Γ:Gam} {S S1:Q3} {b:Bool} (h:t Γ S=.ok b S1):tNotM t Γ S=.ok (!b) S1:=by rw [tNotM_eq,h,J5]
theorem Jd {m:ME} {Γ:Gam} {S S1:Q3} {b:Bool} (h:m Γ S=.ok (.bl b) S1):toB m Γ S=.ok b S1:=by rw [toB_eq,h]; rfl
theorem six_ok {mo mi m:ME} {Γ:Gam} {S S1 S2 S3 S4:Q3} {p o i:PV} (h1:m Γ S=.ok p S1) (h2:mo Γ S1=.ok o S2) (h3:mi Γ S2=.ok i S3) (h4:setIx S3 o i p=some S4):mSetIx mo mi m Γ S=.nx Γ S4:=by
  rw [mSetIx_eq,h1,Vj,h2,Vj,h3,Vj,h4]
theorem app_ok {f:MF} {mo:ME} {mr:ML} {Γ:Gam} {S S1 S2 S3:Q3} {p v:PV} {xs ps:List PV} (h1:mo Γ S=.ok p S1) (h2:listOf S1 p=some xs) (h3:mr Γ S1=.ok ps S2) (h4:f S2 p ps=.ok v S3):Wy (mBM f mo mr) Γ S=.nx Γ S3:=by
  rw [mExpr_eq,mBM_eq,h1,J5]
  simp only [h2]
  rw [h3,J5,h4,Vj]
theorem exp_ok {m:ME} {Γ:Gam} {S S1:Q3} {v:PV} (h:m Γ S=.ok v S1):Wy m Γ S=.nx Γ S1:=by rw [mExpr_eq,h]; rfl
theorem or_t {a b:MT} {Γ:Gam} {S S1:Q3} (h:a Γ S=.ok true S1):tOrM a b Γ S=.ok true S1:=by rw [tOrM_eq,h]; rfl
theorem or_f {a b:MT} {Γ:Gam} {S S1:Q3} {r:Res Bool} (h:a Γ S=.ok false S1) (h2:b Γ S1=r):tOrM a b Γ S=r:=by rw [tOrM_eq,h]; exact h2
theorem seq_rt {a b:MS} {Γ:Gam} {S S1:Q3} {v:PV} (h:a Γ S=.rt v S1):Qm a b Γ S=.rt v S1:=by rw [mSeqS_eq,h]
theorem Xh {mr:ML} {Γ:Gam} {S S1:Q3} {ps:List PV} (h1:mr Γ S=.ok ps S1) (h2:ps.length<=1000000):Ji mr Γ S=.ok (.tup ps) S1:=by rw [mTup_eq,h1,J5]; exact if_pos h2
theorem callx {n:Nat} {F:FN} {mr:ML} {Γ:Gam} {S S1 S2:Q3} {ps:List PV} {x:Exc} (h1:mr Γ S=.ok ps S1) (h2:ps.length=n) (h3:F ps S1=.exc x S2):Qi n F mr Γ S=.exc x S2:=by rw [mCallF_eq,h1,J5,if_pos h2,h3]
theorem objOf_ref {C:Addr} {S:Q3} {i:Nat} {fs:List (Str × PV)} (h:S[i]?=some (.obj C fs)):objOf C S (.ref i)=some (i,fs):=by
  unfold objOf
  simp only [h,if_true]
theorem Jy {C:Addr} {f:Str} {mo:ME} {Γ:Gam} {S:Q3} {i:Nat} {fs:List (Str × PV)} {q:PV} (h1:mo Γ S=.ok (.ref i) S) (h2:S[i]?=some (.obj C fs)) (h3:fs.lookup f=some q):W4 C f mo Γ S=.ok q S:=by
  rw [mFld_eq,h1,J5,objOf_ref h2]
  simp only [h3]
theorem sfld_ok {C:Addr} {f:Str} {mo m:ME} {Γ:Gam} {S S1:Q3} {i:Nat} {fs:List (Str × PV)} {p:PV} (h1:m Γ S=.ok p S1) (h2:mo Γ S1=.ok (.ref i) S1) (h3:S1[i]?=some (.obj C fs)) (h4:fs.length < 1000):mSFld C f mo m Γ S=.nx Γ (S1.set i (.obj C (putG f p fs))):=by
  rw [mSFld_eq,h1,Vj,h2,Vj,objOf_ref h3]
  exact if_pos h4
theorem sfld_x {C:Addr} {f:Str} {mo m:ME} {Γ:Gam} {S S1:Q3} {x:Exc} (h1:m Γ S=.exc x S1):mSFld C f mo m Γ S=.exc x S1:=by
  rw [mSFld_eq,h1]; rfl
theorem meth_ok {C:Addr} {x:Str} {n:Nat} {F:FN} {mo:ME} {mr:ML} {Γ:Gam} {S S1:Q3} {i:Nat} {fs:List (Str × PV)} {ps:List PV} (h1:mo Γ S=.ok (.ref i) S) (h2:S[i]?=some (.obj C fs)) (h3:fs.lookup x=none) (h4:mr Γ S=.ok ps S1) (h5:ps.length + 1=n):Wx C x n F mo mr Γ S=F (.ref i :: ps) S1:=by
  rw [mMeth_eq,h1,J5,objOf_ref h2]
  simp only [h3,if_true]
  rw [h4,J5,if_pos h5]
def hsF (h:Nat) (now last:List (List Int)):List (Str × PV):=[("number",.int h),("now",Q7 now),("kept",Q7 last)]
theorem s1:((Str.ofString "now") == (Str.ofString "number"))=false:=by decide +kernel
theorem s2:((Str.ofString "kept") == (Str.ofString "number"))=false:=by decide +kernel
theorem s3:((Str.ofString "kept") == (Str.ofString "now"))=false:=by decide +kernel
theorem s1':¬ (Str.ofString "number" = Str.ofString "now"):=by decide +kernel
theorem s2':¬ (Str.ofString "number" = Str.ofString "kept"):=by decide +kernel
theorem s3':¬ (Str.ofString "now" = Str.ofString "kept"):=by decide +kernel
theorem Zu (h:Nat) (a b:List (List Int)):(hsF h a b).lookup (Str.ofString "number")=some (.int h):=by unfold hsF; rw [D4,beq_self_eq_true]
theorem Vw (h:Nat) (a b:List (List Int)):(hsF h a b).lookup (Str.ofString "now")=some (Q7 a):=by unfold hsF; rw [D4,s1,D4,beq_self_eq_true]
theorem hs_kept (h:Nat) (a b:List (List Int)):(hsF h a b).lookup (Str.ofString "kept")=some (Q7 b):=by unfold hsF; rw [D4,s2,D4,s3,D4,beq_self_eq_true]
theorem put_now (h:Nat) (a b c:List (List Int)):putG "now" (Q7 c) (hsF h a b)=hsF h c b:=by
  unfold hsF
  rw [putG,if_neg s1',putG,if_pos rfl]
theorem put_kept (h:Nat) (a b c:List (List Int)):putG "kept" (Q7 c) (hsF h a b)=hsF h a c:=by
  unfold hsF
  rw [putG,if_neg s2',putG,if_neg s3',putG,if_pos rfl]
theorem hs_len (h:Nat) (a b:List (List Int)):(hsF h a b).length < 1000:=by unfold hsF; simp
theorem hs_none {x:Str} (h1:(x == (Str.ofString "number"))=false) (h2:(x == (Str.ofString "now"))=false) (h3:(x == (Str.ofString "kept"))=false) (h:Nat) (a b:List (List Int)):(hsF h a b).lookup x=none:=by
  unfold hsF
  rw [D4,h1,D4,h2,D4,h3]; rfl
section
variable {C:Addr} {S:Q3} {i h n:Nat} {now last:List (List Int)}
def ownR (C:Addr) (S:Q3) (i n:Nat) (now last:List (List Int)) (d:Dd):Res PV:=if d.fits now=true then .ok .non (S.set i (.obj C (hsF d.h (d.put n now) last))) else .exc ⟨"Short",some ("had",.int (Qt now d.h))⟩ S
theorem make_ok (hS:S[i]?=some (.obj C (hsF h now last))) (w:Wt' n now) {k:Int} (o:(Dd.mk h k).ok n):Zg C [.ref i,.int k] S=ownR C S i n now last (.mk h k):=by
  have e:=done_ok w o S
  have hn:(W4 C "now" (Q5 0)) [some (.ref i),some (.int k)] S=.ok (Q7 now) S:=Jy rfl hS (Vw _ _ _)
  have hh:(W4 C "number" (Q5 0)) [some (.ref i),some (.int k)] S=.ok (.int h) S:=Jy rfl hS (Zu _ _ _)
  have ha:(Q2 (W4 C "now" (Q5 0)) (Q2 (Ji (Q2 (mC (.str "make")) (Q2 (W4 C "number" (Q5 0)) (Q2 (Q5 1) Q8)))) Q8)) [some (.ref i),some (.int k)] S=.ok [Q7 now,(Dd.mk h k).V] S:=Q4 hn (Q4 (Xh (Q4 rfl (Q4 hh rfl)) (by simp)) rfl)
  unfold ownR
  show Yf (Vq C) 2 _ S=_
  unfold Yf
  rw [show (([.ref i,.int k]:List PV).map some ++ List.replicate (2 - [PV.ref i,.int k].length) none)=[some (.ref i),some (.int k)] from rfl]
  unfold Vq
  by_cases q:(Dd.mk h k).fits now=true
  · rw [if_pos q] at e ⊢
    rw [sfld_ok (Qk (n:=2) ha rfl e) rfl hS (hs_len _ _ _),put_now]; rfl
  · rw [if_neg q] at e ⊢
    rw [sfld_x (callx (n:=2) ha rfl e)]
theorem lend_ok (hS:S[i]?=some (.obj C (hsF h now last))) (w:Wt' n now) {t:Nat} {k:Int} (o:(Dd.ld h t k).ok n):Yp C [.ref i,.int t,.int k] S=ownR C S i n now last (.ld h t k):=by
  have e:=done_ok w o S
  have hn:(W4 C "now" (Q5 0)) [some (.ref i),some (.int t),some (.int k)] S=.ok (Q7 now) S:=Jy rfl hS (Vw _ _ _)
  have hh:(W4 C "number" (Q5 0)) [some (.ref i),some (.int t),some (.int k)] S=.ok (.int h) S:=Jy rfl hS (Zu _ _ _)
  have ha:(Q2 (W4 C "now" (Q5 0)) (Q2 (Ji (Q2 (mC (.str "lend")) (Q2 (W4 C "number" (Q5 0)) (Q2 (Q5 1) (Q2 (Q5 2) Q8))))) Q8)) [some (.ref i),some (.int t),some (.int k)] S=.ok [Q7 now,(Dd.ld h t k).V] S:=Q4 hn (Q4 (Xh (Q4 rfl (Q4 hh rfl)) (by simp)) rfl)
  unfold ownR
  show Yf (Vs C) 3 _ S=_
  unfold Yf
  rw [show (([.ref i,.int t,.int k]:List PV).map some ++ List.replicate (3 - [PV.ref i,.int t,.int k].length) none)=[some (.ref i),some (.int t),some (.int k)] from rfl]
  unfold Vs
  by_cases q:(Dd.ld h t k).fits now=true
  · rw [if_pos q] at e ⊢
    rw [sfld_ok (Qk (n:=2) ha rfl e) rfl hS (hs_len _ _ _),put_now]; rfl
  · rw [if_neg q] at e ⊢
    rw [sfld_x (callx (n:=2) ha rfl e)]
theorem use_ok (hS:S[i]?=some (.obj C (hsF h now last))) (w:Wt' n now) {k:Int} (o:(Dd.us h k).ok n):Wc C [.ref i,.int k] S=ownR C S i n now last (.us h k):=by
  have e:=done_ok w o S
  have hn:(W4 C "now" (Q5 0)) [some (.ref i),some (.int k)] S=.ok (Q7 now) S:=Jy rfl hS (Vw _ _ _)
  have hh:(W4 C "number" (Q5 0)) [some (.ref i),some (.int k)] S=.ok (.int h) S:=Jy rfl hS (Zu _ _ _)
  have ha:(Q2 (W4 C "now" (Q5 0)) (Q2 (Ji (Q2 (mC (.str "use")) (Q2 (W4 C "number" (Q5 0)) (Q2 (Q5 1) Q8)))) Q8)) [some (.ref i),some (.int k)] S=.ok [Q7 now,(Dd.us h k).V] S:=Q4 hn (Q4 (Xh (Q4 rfl (Q4 hh rfl)) (by simp)) rfl)
  unfold ownR
  show Yf (Uy C) 2 _ S=_
  unfold Yf
  rw [show (([.ref i,.int k]:List PV).map some ++ List.replicate (2 - [PV.ref i,.int k].length) none)=[some (.ref i),some (.int k)] from rfl]
  unfold Uy
  by_cases q:(Dd.us h k).fits now=true
  · rw [if_pos q] at e ⊢
    rw [sfld_ok (Qk (n:=2) ha rfl e) rfl hS (hs_len _ _ _),put_now]; rfl
  · rw [if_neg q] at e ⊢
    rw [sfld_x (callx (n:=2) ha rfl e)]
theorem keep_ok (hS:S[i]?=some (.obj C (hsF h now last))):Wm C [.ref i] S=.ok .non (S.set i (.obj C (hsF h now now))):=by
  show Yf (Xf C) 1 _ S=_
  unfold Yf Xf
  rw [show (([.ref i]:List PV).map some ++ List.replicate (1 - [PV.ref i].length) none)=[some (.ref i)] from rfl,sfld_ok (Jy rfl hS (Vw _ _ _)) rfl hS (hs_len _ _ _),put_kept]
theorem fin_tab (S:Q3) (a:List (List Int)):fin S (Q7 a) S=.ok (Q7 a) S:=Yc (by simp [Jm,Q7,Qq])
theorem letter_ok (hS:S[i]?=some (.obj C (hsF h now last))):Wd C [.ref i] S=.ok (Q7 last) S:=by
  show Qn (Vr C) 1 _ S=_
  unfold Qn Vr
  rw [show (([.ref i]:List PV).map some ++ List.replicate (1 - [PV.ref i].length) none)=[some (.ref i)] from rfl,mRet_eq,Jy rfl hS (hs_kept _ _ _)]
  exact fin_tab S last
theorem table_ok (hS:S[i]?=some (.obj C (hsF h now last))):Zj C [.ref i] S=.ok (Q7 now) S:=by
  show Qn (Uq C) 1 _ S=_
  unfold Qn Uq
  rw [show (([.ref i]:List PV).map some ++ List.replicate (1 - [PV.ref i].length) none)=[some (.ref i)] from rfl,mRet_eq,Jy rfl hS (Vw _ _ _)]
  exact fin_tab S now
end
theorem come_ok {C:Addr} {S:Q3} {i h n:Nat} {now last L:List (List Int)} (hS:S[i]?=some (.obj C (hsF h now last))) (w:Wt' n now) (wL:Wt' n L) (hh:h < n) (hr:rowLe (L.getD h []) (now.getD h [])=true):Z3 C [.ref i,Q7 L] S=.ok .non (S.set i (.obj C (hsF h (Vd now L) last))):=by
  have h8:=w.n8
  have lim0:lim=1000000:=rfl
  have hn:(W4 C "now" (Q5 0)) [some (.ref i),some (Q7 L)] S=.ok (Q7 now) S:=Jy rfl hS (Vw _ _ _)
  have hm:(W4 C "number" (Q5 0)) [some (.ref i),some (Q7 L)] S=.ok (.int h) S:=Jy rfl hS (Zu _ _ _)
  have e1:=need_ok (a:=now) (b:=L) (by rw [w.len,wL.len]) S
  have gL:L[h]?=some (L.getD h []):=getD_some (by rw [wL.len]; exact hh) []
  have gN:now[h]?=some (now.getD h []):=getD_some (by rw [w.len]; exact hh) []
  have i1:oIx S (Q7 L) (.int h)=.ok (Qq (L.getD h [])) S:=by
    have:oIx S (Q7 L) (.int h)=okO S (atI (L.map Qq) (h:Int)):=rfl
    rw [this,atI_map,Sm.atI_get gL]; rfl
  have i2:oIx S (Q7 now) (.int h)=.ok (Qq (now.getD h [])) S:=by
    have:oIx S (Q7 now) (.int h)=okO S (atI (now.map Qq) (h:Int)):=rfl
    rw [this,atI_map,Sm.atI_get gN]; rfl
  have rl:∀ r∈now,r.length<=lim:=fun r hr=>by rw [w.sz.2 r hr,lim0]; omega
  have e2:=row_within_ok (L.getD h []) (now.getD h []) S (by rw [wL.sz.2 _ (D6 gL),lim0]; omega)
  rw [hr] at e2
  have e3:=joined_ok (a:=now) (b:=L) (by rw [w.len,wL.len]) (by rw [w.len,lim0]; omega) rl S
  have step:Wi C [some (.ref i),some (Q7 L)] S=.nx [some (.ref i),some (Q7 L)] (S.set i (.obj C (putG "now" (Q7 (Vd now L)) (hsF h now last)))):=
    Qr (exp_ok (Qk (n:=2) (Q4 hn rfl) rfl e1)) (Qr (K2 (not_ok (Jd (Qk (n:=2) (Q4 (Qj rfl hm i1) (Q4 (Qj hn hm i2) rfl)) rfl e2))) rfl) (sfld_ok (Qk (n:=2) (Q4 hn rfl) rfl e3) rfl hS (hs_len _ _ _)))
  rw [put_now] at step
  show Yf (Wi C) 2 _ S=_
  unfold Yf
  rw [show (([.ref i,Q7 L]:List PV).map some ++ List.replicate (2 - [PV.ref i,Q7 L].length) none)=[some (.ref i),some (Q7 L)] from rfl,step]
abbrev Tab:=List (List Int)
inductive Dx where
  | own (d:Dd)
  | kp (i:Nat)
  | fl (i:Nat)
  | sd (i:Nat)
  | cm (l i:Nat)
def Dx.V:Dx->PV
  | .own d=>d.V
  | .kp i=>.tup [.str "keep",.int i]
  | .fl i=>.tup [.str "fall",.int i]
  | .sd i=>.tup [.str "send",.int i]
  | .cm l i=>.tup [.str "come",.int l,.int i]
structure RS where
  now:List Tab
  last:List Tab
  le:List Tab
def Dx.ok (n:Nat) (s:RS):Dx->Prop
  | .own d=>d.ok n
  | .kp i=>i < n
  | .fl i=>i < n
  | .sd i=>i < n
  | .cm l i=>l < s.le.length/\i < n
theorem getD_set' {α:Type} {xs:List α} {i:Nat} (hi:i < xs.length) (v d:α) (j:Nat):(xs.set i v).getD j d=if j=i then v else xs.getD j d:=by
  rw [List.getD_eq_getElem?_getD,List.getElem?_set,List.getD_eq_getElem?_getD]
  by_cases q:i=j
  · subst q; rw [if_pos rfl,if_pos hi,if_pos rfl]; rfl
  · rw [if_neg q,if_neg (fun z=>q z.symm)]
theorem put_wt {n:Nat} {tb:Tab} (w:Wt' n tb) {d:Dd} (o:d.ok n):Wt' n (d.put n tb):=by
  unfold Dd.put Yt
  refine Wt'.set0 w (Dd.ok_h o) ?_
  have h1:=w.ent_nn (Dd.ok_h o) (Dd.ok_pl o)
  have h2:=Dd.ok_k o
  omega
theorem put_ent {n:Nat} {tb:Tab} (w:Wt' n tb) {d:Dd} (o:d.ok n) (a b:Nat):ent tb a b<=ent (d.put n tb) a b/\(a≠d.h->ent (d.put n tb) a b=ent tb a b):=by
  unfold Dd.put
  rw [Ur w.sz (Dd.ok_h o) (Dd.ok_pl o)]
  have h2:=Dd.ok_k o
  refine ⟨?_,fun h=>if_neg fun z=>h z.1⟩
  split
  · rename_i z; rw [z.1,z.2]; omega
  · exact Int.le_refl _
theorem eqs_t (S:Q3) (a:Str):oEq S (.str a) (.str a)=.ok (.bl true) S:=by simp
theorem eqs_f {a b:Str} (S:Q3) (h:¬ a=b):oEq S (.str a) (.str b)=.ok (.bl false) S:=by simp [h]
theorem n_lend_make:¬ (Str.ofString "lend" = Str.ofString "make"):=by decide +kernel
theorem n_use_make:¬ (Str.ofString "use" = Str.ofString "make"):=by decide +kernel
theorem n_use_lend:¬ (Str.ofString "use" = Str.ofString "lend"):=by decide +kernel
theorem n_come_make:¬ (Str.ofString "come" = Str.ofString "make"):=by decide +kernel
theorem n_come_lend:¬ (Str.ofString "come" = Str.ofString "lend"):=by decide +kernel
theorem n_come_use:¬ (Str.ofString "come" = Str.ofString "use"):=by decide +kernel
theorem house_in {n i:Nat} {tb:Tab} (hn:tb.length=n) (hi:i < n) (S:Q3):Zb [Q7 tb,.int i] S=.ok (.bl true) S:=by
  have:=X0 (V:=Q7 tb) (n:=n) (st:=S) (by simp [Q7,hn]) (i:Int)
  rw [show (decide ((0:Int)<=(i:Int)) && decide ((i:Int) < (n:Int)))=true by simp; omega] at this
  exact this
theorem callK_nx {m:MS} {nl:Nat} {ps:List PV} {S S':Q3} {Γ':Gam} (h:m (ps.map some ++ List.replicate (nl - ps.length) none) S=.nx Γ' S'):Yf m nl ps S=.ok .non S':=by unfold Yf; rw [h]
theorem Zz {m:MS} {nl:Nat} {ps:List PV} {S S':Q3} {v:PV} (h:m (ps.map some ++ List.replicate (nl - ps.length) none) S=.rt v S'):Qn m nl ps S=fin S v S':=by unfold Qn; rw [h]
theorem app_lst {S:Q3} {L:Nat} {xs:List PV} (h:S[L]?=some (.lst xs)) (hl:xs.length < 1000000) (y:PV):Xx S (.ref L) [y]=.ok .non (S.set L (.lst (xs ++ [y]))):=by
  simp only [Xx,chg,h]
  rw [if_pos (show xs.length < lim from hl)]
theorem need_comes_ok {n:Nat} {tb:List (List Int)} (w:Wt' n tb) (c:Ca n tb) (st:Q3):Z2 [Q7 tb] st=.ok .non st:=by
  have e:=does_ok w st
  rw [c.comes] at e
  generalize Q7 tb=T at *
  simp -implicitDefEqProofs [Z2,Qn,Yk,e]
theorem init_ok {C:Addr} {n:Nat} {tb:Tab} (w:Wt' n tb) (c:Ca n tb) {h:Nat} (hh:h < n) (S:Q3):Jg C [.ref S.length,.int h,Q7 tb] (S ++ [.obj C []])=.ok .non (S ++ [.obj C (hsF h tb tb)]):=by
  have e1:=need_comes_ok w c (S ++ [.obj C []])
  have e2:=house_in w.len hh (S ++ [.obj C []])
  have gt:∀ fs:List (Str × PV),(S ++ [Cell.obj C fs])[S.length]?=some (.obj C fs):=fun fs=>by simp
  have st:∀ fs gs:List (Str × PV),(S ++ [Cell.obj C fs]).set S.length (.obj C gs)=S ++ [.obj C gs]:=fun fs gs=>by simp
  have p1:putG "number" (.int h) []=[(Str.ofString "number",PV.int h)]:=rfl
  have p2:putG "now" (Q7 tb) [(Str.ofString "number",PV.int h)]=[(Str.ofString "number",.int h),(Str.ofString "now",Q7 tb)]:=by
    rw [putG,if_neg s1']; rfl
  have p3:putG "kept" (Q7 tb) [(Str.ofString "number",PV.int h),(Str.ofString "now",Q7 tb)]=hsF h tb tb:=by
    rw [putG,if_neg s2',putG,if_neg s3']; rfl
  have k3:Yb C [some (.ref S.length),some (.int h),some (Q7 tb)] (S ++ [.obj C []])=.nx [some (.ref S.length),some (.int h),some (Q7 tb)] (S ++ [.obj C (hsF h tb tb)]):=by
    refine Qr (exp_ok (Qk (n:=1) (Q4 rfl rfl) rfl e1)) (Qr (K2 (not_ok (Jd (Qk (n:=2) (Q4 rfl (Q4 rfl rfl)) rfl e2))) rfl) ?_)
    refine Qr ((sfld_ok (p:=.int h) rfl rfl (gt _) (by simp)).trans (by rw [p1,st])) ?_
    refine Qr ((sfld_ok (p:=Q7 tb) rfl rfl (gt _) (by simp)).trans (by rw [p2,st])) ?_
    exact (sfld_ok (p:=Q7 tb) rfl rfl (gt _) (by simp)).trans (by rw [p3,st])
  exact callK_nx k3
theorem fin_eq {st st':Q3} (h:st'.length=st.length) (d:Int):fin st (.int d) st'=.ok (.int d) st':=by
  unfold fin
  by_cases q:st <+: st'
  · rw [if_pos q]
    have:st=st':=q.eq_of_length h.symm
    rw [<- this,fz]; rfl
  · rw [if_neg q]
structure Mv (L:Nat) (S S':Q3):Prop where
  len:S'.length=S.length
  keep:∀ t,t≠L->S'[t]?=S[t]?
theorem Mv.refl (L:Nat) (S:Q3):Mv L S S:=⟨rfl,fun _ _=>rfl⟩
theorem Mv.trans {L:Nat} {S S1 S2:Q3} (a:Mv L S S1) (b:Mv L S1 S2):Mv L S S2:=⟨b.len.trans a.len,fun t ht=>(b.keep t ht).trans (a.keep t ht)⟩
theorem fin_goodE {st st':Q3} (h:st'.length=st.length) {v:PV} (g:Jm 12 v=true):fin st v st'=.ok v st':=by
  unfold fin
  by_cases q:st <+: st'
  · rw [if_pos q]
    have:st=st':=q.eq_of_length h.symm
    rw [<- this,fz_good g (by decide)]; rfl
  · rw [if_neg q]
theorem oAdd_lstL (st:Q3) (a b:List PV):Js st (.lst a) (.lst b)=if a.length + b.length<=lim then .ok (.lst (a ++ b)) st else .stuck:=rfl
def Tp (S:Q3) (L:Nat):Prop:=∃ c:Int,S[L]?=some (.lst [.int c])
theorem adigit_ok {S:Q3} {L:Nat} (T:Tp S L) (m:Nat) (h1:1<=m) (hm:m < 2 ^ 8000):∃ (d:Nat) (S':Q3),d < m/\Tp S' L/\Mv L S S'/\Qe [.ref L,.int m] S=.ok (.int d) S':=by
  obtain ⟨c,hS⟩:=T
  have hL:=(O1.mp hS).1
  have hV:ListAt S (.ref L) [.int c]:=.inr (.inr ⟨L,rfl,hS⟩)
  have i0:oIx S (.ref L) (.int 0)=.ok (.int c) S:=by rw [hV.ix]; rfl
  obtain ⟨d,hd,ed⟩:=modN c h1
  have t0:setIx S (.ref L) (.int 0) (.int (c / (m:Int)))=some (S.set L (.lst [.int (c / (m:Int))])):=by
    unfold setIx
    simp only [hS]
    rfl
  obtain ⟨S1,hS1⟩:∃ S1,S.set L (.lst [.int (c / (m:Int))])=S1:=⟨_,rfl⟩
  rw [hS1] at t0
  have M:Mv L S S1:=⟨by rw [<- hS1,F4],fun t ht=>by rw [<- hS1,F0 (fun u=>ht u.symm)]⟩
  refine ⟨d,S1,hd,⟨_,by rw [<- hS1,E8 hL]⟩,M,?_⟩
  have em:oMod S (.int c) (.int m)=.ok (.int d) S:=by
    show (if 0 < (m:Int) then _ else _)=_
    rw [if_pos (by omega),ed]
  have edv:=oDivC_int S c m h1 hm
  have step:m__law_adigit [some (.ref L),some (.int m),none] S=.rt (.int d) S1:=
    Qr (Γ1:=[some (.ref L),some (.int m),some (.int d)]) (Je (Qj (Qj rfl rfl i0) rfl em)) (Qr (six_ok (Qj (Qj rfl rfl i0) rfl edv) rfl rfl t0) rfl)
  exact (Zz step).trans (fin_eq M.len d)
theorem big_of {m:Nat} (h:m < 10 ^ 100):m < 2 ^ 8000:=D0 h (E3 (Nat.pow_le_pow_left (show 10<=2 ^ 4 by decide) 100) (by rw [<- Nat.pow_mul]; exact Nat.pow_le_pow_right (by decide) (by decide)))
theorem Jn {S:Q3} {L:Nat} (T:Tp S L) (m:Nat) (h1:1<=m) (hm:m < 100):∃ (d:Nat) (S':Q3),d < m/\Tp S' L/\Mv L S S'/\Qe [.ref L,.int m] S=.ok (.int d) S':=adigit_ok T m h1 (big_of (D0 hm (by decide)))
theorem atape_ok (ns:List Int) (k:Nat) (S:Q3):∃ c:Int,Zf [.fro (ns.map .int),.int k] S=.ok (.ref S.length) (S ++ [.lst [.int c]]):=by
  obtain ⟨c,hc⟩:∃ c:Int,Wk [.fro (ns.map .int),.int k] S=.ok (.int c) S:=by
    by_cases q:k < ns.length
    · have e:atI (ns.map PV.int) (k:Int)=some (.int (ns.getD k 0)):=by rw [atI_map,Sm.atI_get (getD_some q 0)]; rfl
      have hl:(ns.map PV.int).length=ns.length:=O2 _
      refine ⟨ns.getD k 0,?_⟩
      generalize ns.getD k 0=x at *
      generalize ns.length=nl at *
      generalize ns.map PV.int=nv at *
      simp -implicitDefEqProofs [Wk,Qn,Xe,hl,q,e]
    · have hl:(ns.map PV.int).length=ns.length:=O2 _
      have q':¬ (k:Int) < (ns.length:Int):=by omega
      refine ⟨0,?_⟩
      generalize ns.length=nl at *
      generalize ns.map PV.int=nv at *
      simp -implicitDefEqProofs [Wk,Qn,Xe,hl,q,q']
  by_cases q:c % 2=0
  · refine ⟨c / 2,?_⟩
    generalize ns.map PV.int=nv at *
    simp -implicitDefEqProofs [Zf,Yf,Xc,hc,q,Jj]
  · obtain ⟨l0,hl0⟩:∃ l0:Int,(c % 2305843009213693951 * 48271 + 69621 * k + 11) % 2305843009213693951=l0:=⟨_,rfl⟩
    have b0:=emod_lt (c % 2305843009213693951 * 48271 + 69621 * k + 11) (b:=2305843009213693951) (by decide)
    rw [hl0] at b0
    obtain ⟨Γ',S1,e,x,y,z,rfl,rfl,_⟩:=forG_inv (g:=fun k:Nat=>PV.int (k:Int)) (xs:=List.range 5) (ga:=Qp 6) (body:=b__law_atape_1) (w:=[]) (Γ:=[some (.fro (ns.map .int)),some (.int k),some (.int c),some (.int 2305843009213693951),some (.int 0),some (.int l0),none]) (st:=S)
      (fun _ Γ st'=>∃ (x y:Int) (z:Option PV),Γ=[some (.fro (ns.map .int)),some (.int k),some (.int c),some (.int 2305843009213693951),some (.int x),some (.int y),z]/\st'=S/\0<=y/\y < 2305843009213693951)
      (fun _ _ _ _=>by simp)
      (fun i t Γ st' hx ⟨x,y,z,e1,e2,y1,y2⟩=>by
        subst e1; subst e2
        obtain ⟨w,hw⟩:∃ w:Int,(y * y + 40692 * k + t) % 2305843009213693951=w:=⟨_,rfl⟩
        have bw:=emod_lt (y * y + 40692 * k + t) (b:=2305843009213693951) (by decide)
        rw [hw] at bw
        have yb:-18446744073709551616 < y/\y < 18446744073709551616:=by omega
        refine ⟨_,rfl,[some (.fro (ns.map .int)),some (.int k),some (.int c),some (.int 2305843009213693951),some (.int (x * 2305843009213693951 + y)),some (.int w),some (.int t)],st',?_,_,_,_,rfl,rfl,bw.1,bw.2⟩
        generalize ns.map PV.int=nv at *
        simp -implicitDefEqProofs [b__law_atape_1,yb,hw])
      ⟨_,_,_,rfl,rfl,b0.1,b0.2⟩
    rw [<- rangeI0] at e
    refine ⟨x,?_⟩
    generalize ns.map PV.int=nv at *
    simp -implicitDefEqProofs [Zf,Yf,Xc,hc,q,Jj,hl0,e]
theorem arights_ok {n h:Nat} {tb:Tab} (z:Sz n tb) (hn:n<=100) (hh:h < n) (st:Q3):Zp [Q7 tb,.int h] st=.ok (.int (Qt tb h)) st:=by
  have hc1:Ju (Qp 0) Zc e__law_arights_1 [] (Jt [none,some 1,some 0] [some (Q7 tb),some (.int h),none]) (Z5 0 n) st=.ok ((List.range n).map fun j=>.int (ent tb j h)) st:=by
    rw [rangeI0]
    refine Ye _ _ (by simp) fun j hj=>⟨_,rfl,?_⟩
    have hj:=E1.mp hj
    have c:=V1 z hj (D2 hh) st
    exact Qj (Qj rfl rfl c.1) rfl c.2
  obtain ⟨c1,c2⟩:=V1 z hh (D2 hh) st
  have hc2:Ju (Qp 0) Zc e__law_arights_2 [] (Jt [none] [some (Q7 tb),some (.int h),some (.int (Zw n fun j=>ent tb j h))]) ((tb.getD h []).map .int) st=.ok ((tb.getD h []).map .int) st:=Ye _ _ (by simp) fun j hj=>⟨_,rfl,rfl⟩
  have hlen:Yh st [Q7 tb]=.ok (.int n) st:=by simp [Q7,z.1]
  have hrg:Wj (Q2 (Ja Yh (Q2 (Q5 0) Q8)) Q8) [some (Q7 tb),some (.int h),none] st=.ok (Z5 0 n,[]) st:=by
    rw [mRange1_eq,Q4 (U3 (Q4 (m:=Q5 0) (p:=Q7 tb) (S1:=st) rfl (show Q8 _ st=.ok [] st from rfl)) hlen) (show Q8 _ st=.ok [] st from rfl),J5]
    show (if -(lim:Int)<=(n:Int)/\(n:Int)<=lim then _ else _)=_
    rw [if_pos (by rw [Jj]; omega),Int.toNat_natCast]
  have s1:U2 (fun ns=>some (.int ns.sum)) st [.lst ((List.range n).map fun j=>.int (ent tb j h))]=.ok (.int (Zw n fun j=>ent tb j h)) st:=by
    rw [cInts_map]; rfl
  have s2:U2 (fun ns=>some (.int ns.sum)) st [.lst ((tb.getD h []).map .int)]=.ok (.int (tb.getD h []).sum) st:=by simp
  have sr:Uw st (Qq (tb.getD h []))=some ((tb.getD h []).map .int,[]):=rfl
  have hl:((tb.getD h []).map PV.int).length<=1000000:=by rw [O2,(z.row hh).2]; omega
  have step:Xy [some (Q7 tb),some (.int h),none] st=.rt (.int (Qt tb h)) st:=by
    refine Qr (Γ1:=[some (Q7 tb),some (.int h),some (.int (Zw n fun j=>ent tb j h))]) (Je (U3 (Q4 (val_ok (comp_ok hrg hc1)) rfl) s1)) ?_
    rw [mRet_eq,Qj (Qj rfl (U3 (Q4 (val_ok (comp_ok (sq_ok (Qj rfl rfl c1) sr hl) hc2)) rfl) s2) rfl) (Qj (Qj rfl rfl c1) rfl c2) rfl,Vj]
    unfold Qt
    rw [z.1]
    congr 2
    omega
  exact (Zz step).trans (fin_int st _)
theorem and_t {a b:MT} {Γ:Gam} {S S1:Q3} {r:Res Bool} (h:a Γ S=.ok true S1) (h2:b Γ S1=r):tAndM a b Γ S=r:=by rw [tAndM_eq,h]; exact h2
theorem and_f {a b:MT} {Γ:Gam} {S S1:Q3} (h:a Γ S=.ok false S1):tAndM a b Γ S=.ok false S1:=by rw [tAndM_eq,h]; rfl
theorem ret_ok {m:ME} {Γ:Gam} {S S1:Q3} {v:PV} (h:m Γ S=.ok v S1):Z1 m Γ S=.rt v S1:=by rw [mRet_eq,h]; rfl
theorem eqi_t (S:Q3) {a b:Int} (h:a=b):oEq S (.int a) (.int b)=.ok (.bl true) S:=by simp [h]
theorem eqi_f (S:Q3) {a b:Int} (h:¬ a=b):oEq S (.int a) (.int b)=.ok (.bl false) S:=by simp [h]
theorem lti_t (S:Q3) {a b:Int} (h:a < b):oLt S (.int a) (.int b)=.ok (.bl true) S:=by simp [h]
theorem lti_f (S:Q3) {a b:Int} (h:¬ a < b):oLt S (.int a) (.int b)=.ok (.bl false) S:=by
  have:oLt S (.int a) (.int b)=.ok (.bl (decide (a < b))) S:=by simp
  rw [this,decide_eq_false h]
theorem gti_t (S:Q3) {a b:Int} (h:b < a):(oI fun a b=>.bl (decide (b < a))) S (.int a) (.int b)=.ok (.bl true) S:=by
  show Res.ok (PV.bl (decide (b < a))) S=_; rw [decide_eq_true h]
theorem gti_f (S:Q3) {a b:Int} (h:¬ b < a):(oI fun a b=>.bl (decide (b < a))) S (.int a) (.int b)=.ok (.bl false) S:=by
  show Res.ok (PV.bl (decide (b < a))) S=_; rw [decide_eq_false h]
theorem modi (S:Q3) {a b:Int} (h:0 < b):oMod S (.int a) (.int b)=.ok (.int (a % b)) S:=by
  show (if 0 < b then _ else _)=_; rw [if_pos h]
theorem addi (S:Q3) (a b:Int):Js S (.int a) (.int b)=.ok (.int (a + b)) S:=by simp
theorem subi (S:Q3) (a b:Int):(oI fun a b=>.int (a - b)) S (.int a) (.int b)=.ok (.int (a - b)) S:=rfl
theorem Va {n i j:Nat} {tb:List (List Int)} (z:Sz n tb) (hn:n<=100) (hi:i < n) (hj:j<=n) (k:Int) (st:Q3):J9 [Q7 tb,.int i,.int j,.int k] st=.ok (Q7 (Yt tb i j (ent tb i j + k))) st:=by
  have c0:=V1 z hi hj st
  have hrl:=(z.row hi).2
  have g1:Qq ((tb.getD i []).set j (ent tb i j + k))=.tup (((tb.getD i []).take j).map .int ++ [.int (ent tb i j + k)] ++ ((tb.getD i []).drop (j + 1)).map .int):=by
    unfold Qq
    rw [<- set_cut _ _ _ (by omega),F2,F2]; rfl
  have g2:Q7 (Yt tb i j (ent tb i j + k))=.tup ((tb.take i).map Qq ++ [Qq ((tb.getD i []).set j (ent tb i j + k))] ++ (tb.drop (i + 1)).map Qq):=by
    unfold Q7 Yt
    rw [<- set_cut _ _ _ (by rw [z.1]; exact hi),F2,F2]; rfl
  have c3:cut ((tb.getD i []).map PV.int) none (some (j:Int))=((tb.getD i []).take j).map .int:=by rw [Us,cut_front]
  have c4:cut ((tb.getD i []).map PV.int) (some ((j:Int) + 1)) none=((tb.getD i []).drop (j + 1)).map .int:=by rw [Us]; exact congrArg _ (cut_back _ (j + 1))
  have c5:cut (tb.map Qq) none (some (i:Int))=(tb.take i).map Qq:=by rw [Us,cut_front]
  have c6:cut (tb.map Qq) (some ((i:Int) + 1)) none=(tb.drop (i + 1)).map Qq:=by rw [Us]; exact congrArg _ (cut_back _ (i + 1))
  have l3:(((tb.getD i []).take j).map PV.int).length=j:=by rw [O2,List.length_take,hrl]; omega
  have l4:(((tb.getD i []).drop (j + 1)).map PV.int).length=n - j:=by rw [O2,List.length_drop,hrl]; omega
  have l5:((tb.take i).map Qq).length=i:=by rw [O2,List.length_take,z.1]; omega
  have l6:((tb.drop (i + 1)).map Qq).length=n - (i + 1):=by rw [O2,List.length_drop,z.1]
  have b1:j + 1<=1000000:=by omega
  have b2:j + 1 + (n - j)<=1000000:=by omega
  have b3:i + 1<=1000000:=by omega
  have b4:i + 1 + (n - (i + 1))<=1000000:=by omega
  have hf:fin st (Q7 (Yt tb i j (ent tb i j + k))) st=.ok (Q7 (Yt tb i j (ent tb i j + k))) st:=Yc (by simp [Jm,Q7,Qq])
  obtain ⟨c1,c2⟩:=c0
  have q1:oSl st (Qq (tb.getD i [])) none (some (j:Int))=.ok (.tup (((tb.getD i []).take j).map .int)) st:=by unfold Qq; rw [Up,c3]
  have q2:oSl st (Qq (tb.getD i [])) (some ((j:Int) + 1)) none=.ok (.tup (((tb.getD i []).drop (j + 1)).map .int)) st:=by unfold Qq; rw [Up,c4]
  have q3:oSl st (Q7 tb) none (some (i:Int))=.ok (.tup ((tb.take i).map Qq)) st:=by unfold Q7; rw [Up,c5]
  have q4:oSl st (Q7 tb) (some ((i:Int) + 1)) none=.ok (.tup ((tb.drop (i + 1)).map Qq)) st:=by unfold Q7; rw [Up,c6]
  rw [g2] at hf ⊢
  rw [g1] at hf ⊢
  generalize ent tb i j=x at *
  generalize ((tb.getD i []).take j).map PV.int=v3 at *
  generalize ((tb.getD i []).drop (j + 1)).map PV.int=v4 at *
  generalize (tb.take i).map Qq=v5 at *
  generalize (tb.drop (i + 1)).map Qq=v6 at *
  generalize Qq (tb.getD i [])=rv at *
  generalize Q7 tb=T at *
  simp -implicitDefEqProofs at hf
  simp -implicitDefEqProofs [J9,Qn,Xz,c1,c2,q1,q2,q3,q4,Jj,l3,l4,l5,l6,b1,b2,b3,b4,hf]
theorem oMul_lst (st:Q3) (xs:List PV) (b:Int):oMul st (.lst xs) (.int b)=if -(2 ^ 63)<=b/\b < 2 ^ 63/\xs.length * b.toNat<=lim then .ok (.lst (List.replicate b.toNat xs).flatten) st else .stuck:=rfl
theorem reps {α:Type} (x:α):∀ n,(List.replicate n [x]).flatten=List.replicate n x
  | 0=>rfl
  | n + 1=>by rw [List.replicate_succ,List.flatten_cons,reps x n]; rfl
theorem bi_lst {mr:ML} {Γ:Gam} {S S1:Q3} {ps:List PV} (h:mr Γ S=.ok ps S1) (hl:ps.length<=1000000:=by decide):mLst mr Γ S=.ok (.lst ps) S1:=by
  unfold mLst
  rw [h,J5]
  exact if_pos hl
theorem abare_ok {n:Nat} (hn:n<=8) (S:Q3):Y1 [.int n] S=.ok (Q7 (List.replicate n (Zk n))) S:=by
  have h5:((n:Int) + 1).toNat=n + 1:=by omega
  have ev:K6 [some (.int 0),some (.int n)] S=.ok (Qq (Zk n)) S:=by
    have:Qq (Zk n)=.tup (List.replicate (n + 1) (.int 0)):=by simp [Qq,Zk]
    rw [this]
    have em:oMul S (.lst [.int 0]) (.int ((n:Int) + 1))=.ok (.lst (List.replicate (n + 1) (.int 0))) S:=by
      rw [oMul_lst,if_pos ⟨by omega,by omega,by rw [Jj,h5]; simp; omega⟩,h5,reps]
    exact U3 (Q4 (Qj (bi_lst rfl) (Qj rfl rfl (addi S _ _)) em) rfl) rfl
  have hc:Ju (Qp 0) Zc K6 [] (Jt [none,some 0] [some (.int n)]) (Z5 0 n) S=.ok ((List.range n).map fun _=>Qq (Zk n)) S:=by
    rw [rangeI0]
    refine Ye _ _ (by simp) fun j hj=>⟨_,rfl,?_⟩
    exact ev
  have hm:((List.range n).map fun _=>Qq (Zk n))=(List.replicate n (Zk n)).map Qq:=by
    rw [List.map_replicate]
    exact List.eq_replicate_iff.mpr ⟨by simp,fun b hb=>by obtain ⟨_,_,rfl⟩:=List.mem_map.mp hb; rfl⟩
  rw [hm] at hc
  have hrg:Wj (Q2 (Q5 0) Q8) [some (.int n)] S=.ok (Z5 0 n,[]) S:=by
    rw [mRange1_eq,Q4 (m:=Q5 0) (p:=.int n) (S1:=S) rfl (show Q8 _ S=.ok [] S from rfl),J5]
    show (if -(lim:Int)<=(n:Int)/\(n:Int)<=lim then _ else _)=_
    rw [if_pos (by rw [Jj]; omega),Int.toNat_natCast]
  have ct:V8 S [.lst ((List.replicate n (Zk n)).map Qq)]=.ok (Q7 (List.replicate n (Zk n))) S:=by
    have hl:((List.replicate n (Zk n)).map Qq).length<=1000000:=by simp; omega
    unfold Q7
    generalize (List.replicate n (Zk n)).map Qq=q at *
    simp [Jj,hl]
  have step:m__law_abare [some (.int n)] S=.rt (Q7 (List.replicate n (Zk n))) S:=ret_ok (U3 (Q4 (val_ok (comp_ok hrg hc)) rfl) ct)
  exact (Zz step).trans (fin_tab S _)
theorem ajoined_ok {a b:Tab} (h:a.length=b.length) (hl:a.length<=1000) (hr:∀ r∈a,r.length<=1000) (S:Q3):U7 [Q7 a,Q7 b] S=.ok (Q7 (Vd a b)) S:=by
  obtain ⟨Γ',S',e,⟨c3,c4,rfl⟩,rfl⟩:=forG_invL (g:=fun z:List Int × List Int=>PV.tup [Qq z.1,Qq z.2]) (xs:=a.zip b)
    (fun pre Γ st=>(∃ c3 c4,Γ=[some (Q7 a),some (Q7 b),some (.ref S.length),c3,c4])/\st=S ++ [.lst (pre.map fun z=>Qq (Vc z.1 z.2))])
    (ga:=K3 (Jv (Qp 3) (Jv (Qp 4) K4))) (body:=b__law_ajoined_1) (w:=[]) (fun _ _ _ _=>by simp)
    (fun pre z post Γ st hx ⟨⟨c3,c4,hΓ⟩,hst⟩=>by
      subst hΓ; subst hst
      have hz:z∈a.zip b:=by rw [hx]; simp
      have hpl:pre.length<=1000:=by
        have:=congrArg List.length hx
        rw [List.length_zip,D9,D7,<- h,Nat.min_self] at this
        omega
      have hrl:z.1.length<=lim:=by have:=hr _ (List.of_mem_zip hz).1; rw [Jj]; omega
      obtain ⟨st,hst⟩:∃ st,S ++ [Cell.lst (pre.map fun z=>Qq (Vc z.1 z.2))]=st:=⟨_,rfl⟩
      have gt:st[S.length]?=some (.lst (pre.map fun z=>Qq (Vc z.1 z.2))):=by rw [<- hst]; simp
      rw [hst]
      have hc:Ju (K3 (Jv (Qp 0) (Jv (Qp 1) K4))) Zc Ui [] (Jt [none,none] [some (Q7 a),some (Q7 b),some (.ref S.length),some (Qq z.1),some (Qq z.2)]) ((z.1.zip z.2).map fun z=>.tup [.int z.1,.int z.2]) st=.ok ((z.1.zip z.2).map fun z=>.int (Lw.maxI z.1 z.2)) st:=by
        refine Ye _ _ (by simp) fun u hu=>⟨_,rfl,?_⟩
        simp [Jt,Ui,Lw.maxI]
      have em:((z.1.zip z.2).map fun z=>PV.int (Lw.maxI z.1 z.2))=(Vc z.1 z.2).map .int:=by unfold Vc; rw [List.map_map]; rfl
      rw [em] at hc
      have hzip:mZip (Q2 (Q5 3) (Q2 (Q5 4) Q8)) [some (Q7 a),some (Q7 b),some (.ref S.length),some (Qq z.1),some (Qq z.2)] st=.ok ((z.1.zip z.2).map fun z=>.tup [.int z.1,.int z.2],[]) st:=by
        have hrl':=hrl
        rw [Jj] at hrl'
        unfold Qq
        simp [zipT_map,hrl,hrl',Jj]
      have hjl:((Vc z.1 z.2).map PV.int).length<=1000000:=by
        unfold Vc
        rw [O2,O2,List.length_zip]
        have:=Nat.min_le_left z.1.length z.2.length
        rw [Jj] at hrl
        omega
      have ct:V8 st [.lst ((Vc z.1 z.2).map .int)]=.ok (Qq (Vc z.1 z.2)) st:=by
        unfold Qq
        generalize (Vc z.1 z.2).map PV.int=q at *
        simp [Jj,hjl]
      have ap:=app_lst gt (by rw [O2]; omega) (Qq (Vc z.1 z.2))
      refine ⟨_,rfl,_,_,app_ok (p:=.ref S.length) rfl (lstOf_ref gt) (Q4 (U3 (Q4 (val_ok (comp_ok hzip hc)) rfl) ct) rfl) ap,⟨_,_,rfl⟩,?_⟩
      rw [<- hst,F2]
      simp)
    (Γ:=[some (Q7 a),some (Q7 b),some (.ref S.length),none,none]) (st:=S ++ [.lst []]) ⟨⟨_,_,rfl⟩,rfl⟩
  have em:((a.zip b).map fun z=>Qq (Vc z.1 z.2))=(Vd a b).map Qq:=by unfold Vd; rw [List.map_map]; rfl
  rw [em] at e
  have hjl:((Vd a b).map Qq).length<=1000000:=by
    unfold Vd
    rw [O2,O2,List.length_zip,<- h,Nat.min_self]
    omega
  obtain ⟨st,hst⟩:∃ st,S ++ [Cell.lst ((Vd a b).map Qq)]=st:=⟨_,rfl⟩
  have gt:ListAt st (.ref S.length) ((Vd a b).map Qq):=.inr (.inr ⟨_,rfl,by rw [<- hst]; simp⟩)
  have hzip:mZip (Q2 (Q5 0) (Q2 (Q5 1) Q8)) [some (Q7 a),some (Q7 b),some (.ref S.length),none,none] (S ++ [.lst []])=.ok ((a.zip b).map fun z=>.tup [Qq z.1,Qq z.2],[]) (S ++ [.lst []]):=by
    have hl':a.length<=1000000:=by omega
    unfold Q7
    simp [zipT_map,hl',Jj]
  have ct:V8 st [.ref S.length]=.ok (Q7 (Vd a b)) st:=by
    have z:st[S.length]?=some (.lst ((Vd a b).map Qq)):=by rw [<- hst]; simp
    show (match Ub st (.ref S.length) with | some xs=>Res.ok (PV.tup xs) st | none=>.stuck)=_
    rw [show Ub st (.ref S.length)=some ((Vd a b).map Qq) from lstOf_ref z]; rfl
  rw [hst] at e
  have step:K0 [some (Q7 a),some (Q7 b),none,none,none] S=.rt (Q7 (Vd a b)) st:=
    Qr (Γ1:=[some (Q7 a),some (Q7 b),some (.ref S.length),none,none]) (S1:=S ++ [.lst []]) (Je (trk_ok (ps:=[]) rfl)) (Qr (for_ok hzip e) (ret_ok (U3 (Q4 rfl rfl) ct)))
  refine (Zz step).trans ?_
  rw [<- hst]
  exact fin_goodA (by simp [Jm,Q7,Qq])
def bM (t:Nat):Int:=10 ^ (21 + t)
theorem bM_succ (t:Nat):bM (t + 1)=10 * bM t:=by
  unfold bM
  rw [show 21 + (t + 1)=(21 + t) + 1 by omega,Int.pow_succ]
  omega
theorem bM_ge:∀ t,1000000000000000000000<=bM t
  | 0=>by decide
  | t + 1=>by have:=bM_ge t; rw [bM_succ]; omega
theorem bM_lt {t:Nat} (h:t<=60):8 * bM t + 2 < 10 ^ 100:=by
  have h1:bM t<=10 ^ 90:=by
    unfold bM
    exact_mod_cast Nat.pow_le_pow_right (n:=10) (by decide) (show 21 + t<=90 by omega)
  have h2:(8:Int) * 10 ^ 90 + 2 < 10 ^ 100:=by decide +kernel
  omega
structure Bd (n:Nat) (M:Int) (tb:Tab):Prop where
  le:∀ i j,i < n->j<=n->ent tb i j<=M
theorem upto_lM {n:Nat} {f:Nat->Int} {M:Int} (h:∀ o,o < n->f o<=M):Zw n f<=n * M:=by
  induction n with
  | zero=>simp [Zw]
  | succ n ih=>
    rw [Jf]
    have h1:=ih fun o ho=>h o (by omega)
    have h2:=h n (by omega)
    have:((n + 1:Nat):Int) * M=n * M + M:=by push_cast; rw [Int.add_mul,Int.one_mul]
    omega
theorem upto_nn {n:Nat} {f:Nat->Int} (h:∀ o,o < n->0<=f o):0<=Zw n f:=by
  induction n with
  | zero=>simp [Zw]
  | succ n ih=>
    rw [Jf]
    have h1:=ih fun o ho=>h o (by omega)
    have h2:=h n (by omega)
    omega
theorem upto_one {n:Nat} {f:Nat->Int} (h:∀ o,o < n->0<=f o) {k:Nat} (hk:k < n):f k<=Zw n f:=by
  induction n with
  | zero=>omega
  | succ n ih=>
    rw [Jf]
    have h2:=h n (by omega)
    have h3:=upto_nn (n:=n) fun o ho=>h o (by omega)
    by_cases q:k=n
    · subst q; omega
    · have h1:=ih (fun o ho=>h o (by omega)) (by omega)
      omega
theorem rights_le {n h:Nat} {tb:Tab} (w:Wt' n tb) {M:Int} (b:Bd n M tb) (hM:0<=M) (hh:h < n):Qt tb h<=8 * M:=by
  rw [Xu w.sz hh]
  have h1:=upto_lM (n:=n) (f:=fun o=>ent tb o h) fun o ho=>b.le o h ho (D2 hh)
  have h2:=upto_one (n:=n) (f:=fun j=>ent tb h j) (fun o ho=>w.ent_nn hh (D2 ho)) hh
  have h3:=w.ent_nn hh (O7 n)
  have h4:(n:Int) * M<=8 * M:=Int.mul_le_mul_of_nonneg_right (by have:=w.n8; omega) hM
  have h2:ent tb h h<=Zw n fun j=>ent tb h j:=h2
  omega
theorem Bd.put {n:Nat} {tb:Tab} (w:Wt' n tb) {M:Int} (b:Bd n M tb) {d:Dd} (o:d.ok n) {K:Int} (hK:M + d.k<=K):Bd n K (d.put n tb):=by
  refine ⟨fun i j hi hj=>?_⟩
  unfold Dd.put
  rw [Ur w.sz (Dd.ok_h o) (Dd.ok_pl o)]
  have h1:=b.le i j hi hj
  have h2:=Dd.ok_k o
  have h3:=b.le d.h (d.pl n) (Dd.ok_h o) (Dd.ok_pl o)
  split <;> omega
theorem Bd.up {n:Nat} {tb:Tab} {M K:Int} (b:Bd n M tb) (h:M<=K):Bd n K tb:=⟨fun i j hi hj=>Int.le_trans (b.le i j hi hj) h⟩
theorem ca_put {n:Nat} {tb:Tab} (w:Wt' n tb) (c:Ca n tb) {d:Dd} (o:d.ok n) (hf:d.isM=false->d.k<=Qt tb d.h):Wt' n (d.put n tb)/\Ca n (d.put n tb):=by
  have hh:=Dd.ok_h o
  have hk:=Dd.ok_k o
  have w':Wt' n (d.put n tb):=put_wt w o
  refine ⟨w',?_⟩
  cases d with
  | mk h k=>exact Ca.make w c hh (by have:(1:Int)<=k:=hk; omega) w'
  | ld h q k=>
    have h1:k<=Qt tb h:=hf rfl
    have hk:(1:Int)<=k:=hk
    exact Ca.give w c hh (D2 o.2.1) o.2.2.1 (by omega) h1 (Int.le_trans hk h1) w'
  | us h k=>
    have h1:k<=Qt tb h:=hf rfl
    have hk:(1:Int)<=k:=hk
    have hh:h < n:=hh
    exact Ca.give w c hh (O7 n) (by omega) (by omega) h1 (Int.le_trans hk h1) w'
theorem amuch_ok {S:Q3} {L:Nat} (T:Tp S L):∃ (k:Int) (S':Q3),(1<=k/\k<=100000000000000000000)/\Tp S' L/\Mv L S S'/\Xg [.ref L] S=.ok (.int k) S':=by
  obtain ⟨d,S1,hd,T1,M1,e1⟩:=Jn T 12 (by decide) (by decide)
  have e1:Qe [.ref L,.int 12] S=.ok (.int d) S1:=e1
  by_cases q:d=11
  · obtain ⟨x,S2,hx,T2,M2,e2⟩:=Jn T1 3 (by decide) (by decide)
    have e2:Qe [.ref L,.int 3] S1=.ok (.int x) S2:=e2
    have M:=M1.trans M2
    have hp:oPow S1 (.int 10) (.int 20)=.ok (.int 100000000000000000000) S1:=by
      rw [oPow_int,if_pos (by decide)]; rfl
    have step:Xd [some (.ref L),none] S=.rt (.int (100000000000000000000 - (x:Int))) S2:=
      Qr (Γ1:=[some (.ref L),some (.int d)]) (Je (Qk (n:=2) (Q4 rfl (Q4 rfl rfl)) rfl e1)) (seq_rt (if_t (Jd (Qj rfl rfl (eqi_t S1 (by omega)))) (ret_ok (Qj (Qj rfl rfl hp) (Qk (n:=2) (Q4 rfl (Q4 rfl rfl)) rfl e2) (subi S2 _ _)))))
    exact ⟨_,S2,by omega,T2,M,(Zz step).trans (fin_eq M.len _)⟩
  · have b:=emod_lt (d:Int) (b:=7) (by decide)
    have step:Xd [some (.ref L),none] S=.rt (.int (1 + (d:Int) % 7)) S1:=
      Qr (Γ1:=[some (.ref L),some (.int d)]) (Je (Qk (n:=2) (Q4 rfl (Q4 rfl rfl)) rfl e1)) (Qr (K2 (Jd (Qj rfl rfl (eqi_f S1 (by omega)))) rfl) (ret_ok (Qj rfl (Qj rfl rfl (modi S1 (by decide))) (addi S1 _ _))))
    exact ⟨_,S1,by omega,T1,M1,(Zz step).trans (fin_eq M1.len _)⟩
theorem other_h {n i y:Nat} (hi:i < n) (hy:y < n - 1):∃ q:Nat,((i:Int) + 1 + (y:Int)) % (n:Int)=(q:Int)/\q < n/\q≠i:=by
  by_cases h:i + 1 + y < n
  · exact ⟨i + 1 + y,by rw [Int.emod_eq_of_lt (by omega) (by omega)]; omega,h,by omega⟩
  · refine ⟨i + 1 + y - n,?_,by omega,by omega⟩
    have e:((i:Int) + 1 + (y:Int))=((i + 1 + y - n:Nat):Int) + (n:Int):=by omega
    rw [e,Int.add_emod_right,Int.emod_eq_of_lt (by omega) (by omega)]
abbrev tbG (L n m:Nat) (tb:Tab) (c4 c5 c6 c7 c8:Option PV):Gam:=[some (.ref L),some (.int n),some (.int m),some (Q7 tb),c4,c5,c6,c7,c8]
structure TbI (n:Nat) (t:Nat) (tb:Tab):Prop where
  w:Wt' n tb
  c:Ca n tb
  b:Bd n (bM t) tb
theorem TbI.put {n t:Nat} {tb:Tab} (I:TbI n t tb) {d:Dd} (o:d.ok n) (hf:d.isM=false->d.k<=Qt tb d.h) (hk:d.isM=true->d.k<=100000000000000000000):TbI n (t + 1) (d.put n tb):=by
  have h:=ca_put I.w I.c o hf
  refine ⟨h.1,h.2,I.b.put I.w o ?_⟩
  have g:=bM_ge t
  rw [bM_succ]
  cases hm:d.isM with
  | true=>have:=hk hm; omega
  | false=>
    have h1:=hf hm
    have h2:=rights_le I.w I.b (by omega) (Dd.ok_h o)
    omega
theorem atable_turn {S:Q3} {L n m t:Nat} {tb:Tab} (T:Tp S L) (I:TbI n t tb) (ht:t<=20) (c4 c5 c6 c7 c8:Option PV):∃ (tb':Tab) (S':Q3) (d5 d6 d7 d8:Option PV),TbI n (t + 1) tb'/\Tp S' L/\Mv L S S'/\Xb (tbG L n m tb c4 c5 c6 c7 c8) S=.nx (tbG L n m tb' c4 d5 d6 d7 d8) S':=by
  have w:=I.w
  have h1:=w.n1
  have h8:=w.n8
  obtain ⟨i,S1,hi,T1,M1,e1⟩:=Jn T n h1 (by omega)
  obtain ⟨y,S2,hy,T2,M2,e2⟩:=Jn T1 4 (by decide) (by decide)
  have e2:Qe [.ref L,.int 4] S1=.ok (.int y) S2:=e2
  have e3:=arights_ok w.sz (by omega) hi S2
  obtain ⟨r,hr⟩:∃ r:Nat,Qt tb i=(r:Int):=⟨(Qt tb i).toNat,by have:=I.c.nn i hi; omega⟩
  rw [hr] at e3
  have M12:=M1.trans M2
  have k1:Jc 5 (Qi 2 Qe (Q2 (Q5 0) (Q2 (Q5 1) Q8))) (tbG L n m tb c4 c5 c6 c7 c8) S=.nx (tbG L n m tb c4 (some (.int i)) c6 c7 c8) S1:=Je (Qk (n:=2) (Q4 rfl (Q4 rfl rfl)) rfl e1)
  have k2:Jc 6 (Qi 2 Qe (Q2 (Q5 0) (Q2 (mC (.int 4)) Q8))) (tbG L n m tb c4 (some (.int i)) c6 c7 c8) S1=.nx (tbG L n m tb c4 (some (.int i)) (some (.int y)) c7 c8) S2:=Je (Qk (n:=2) (Q4 rfl (Q4 rfl rfl)) rfl e2)
  have k3:Jc 7 (Qi 2 Zp (Q2 (Q5 3) (Q2 (Q5 5) Q8))) (tbG L n m tb c4 (some (.int i)) (some (.int y)) c7 c8) S2=.nx (tbG L n m tb c4 (some (.int i)) (some (.int y)) (some (.int r)) c8) S2:=Je (Qk (n:=2) (Q4 rfl (Q4 rfl rfl)) rfl e3)
  have hrb:=rights_le w I.b (by have:=bM_ge t; omega) hi
  have hbl:=bM_lt (t:=t) (by omega)
  have hrN:r < 2 ^ 8000:=big_of (by
    have:(r:Int) < 10 ^ 100:=by omega
    exact_mod_cast this)
  by_cases q:y < 2\/r=0
  · obtain ⟨k,S3,hk,T3,M3,e4⟩:=amuch_ok T2
    have o:(Dd.mk i k).ok n:=⟨hi,hk.1⟩
    have e5:=Va w.sz (by omega) hi (D2 hi) k S3
    refine ⟨_,S3,_,_,_,_,I.put o (fun z=>by cases z) (fun _=>hk.2),T3,M12.trans M3,Qr k1 (Qr k2 (Qr k3 (if_t ?_ (Je (Qk (n:=4) (Q4 rfl (Q4 rfl (Q4 rfl (Q4 (Qk (n:=1) (Q4 rfl rfl) rfl e4) rfl)))) rfl e5)))))⟩
    by_cases q1:y < 2
    · exact or_t (Jd (Qj rfl rfl (lti_t S2 (by omega))))
    · exact or_f (Jd (Qj rfl rfl (lti_f S2 (by omega)))) (Jd (Qj rfl rfl (eqi_t S2 (by omega))))
  · have hr1:1<=r:=by omega
    have t1:tOrM (toB (mOp oLt (Q5 6) (mC (.int 2)))) (toB (mOp oEq (Q5 7) (mC (.int 0)))) (tbG L n m tb c4 (some (.int i)) (some (.int y)) (some (.int r)) c8) S2=.ok false S2:=or_f (Jd (Qj rfl rfl (lti_f S2 (by omega)))) (Jd (Qj rfl rfl (eqi_f S2 (by omega))))
    by_cases q2:y=2/\1 < n
    · obtain ⟨z,S3,hz,T3,M3,e4⟩:=Jn T2 (n - 1) (by omega) (by omega)
      have e4:Qe [.ref L,.int ((n:Int) - 1)] S2=.ok (.int z) S3:=by rw [show ((n:Int) - 1)=((n - 1:Nat):Int) by omega]; exact e4
      obtain ⟨j,ej,hj,hne⟩:=other_h hi hz
      obtain ⟨x,S4,hx,T4,M4,e5⟩:=adigit_ok T3 r hr1 hrN
      have o:(Dd.ld i j (1 + (x:Int))).ok n:=⟨hi,hj,hne,by omega⟩
      have e6:=Va w.sz (by omega) hi (D2 hj) (1 + (x:Int)) S4
      refine ⟨_,S4,_,_,_,_,I.put o (fun _=>?_) (fun z=>by cases z),T4,(M12.trans M3).trans M4,Qr k1 (Qr k2 (Qr k3 (K2 t1 (if_t (and_t (Jd (Qj rfl rfl (eqi_t S2 (by omega)))) (Jd (Qj rfl rfl (gti_t S2 (by omega))))) (Qr (Γ1:=tbG L n m tb c4 (some (.int i)) (some (.int y)) (some (.int r)) (some (.int j))) (S1:=S3) (Je (Qj (Qj (Qj rfl rfl (addi S2 _ _)) (Qk (n:=2) (Q4 rfl (Q4 (Qj rfl rfl (subi S2 _ _)) rfl)) rfl e4) (addi S3 _ _)) rfl ?_)) (Je (Qk (n:=4) (Q4 rfl (Q4 rfl (Q4 rfl (Q4 (Qj rfl (Qk (n:=2) (Q4 rfl (Q4 rfl rfl)) rfl e5) (addi S4 _ _)) rfl)))) rfl e6)))))))⟩
      · show 1 + (x:Int)<=Qt tb i
        rw [hr]; omega
      · rw [modi S3 (by omega),ej]
    · obtain ⟨x,S4,hx,T4,M4,e5⟩:=adigit_ok T2 r hr1 hrN
      have o:(Dd.us i (1 + (x:Int))).ok n:=⟨hi,by omega⟩
      have e6:=Va w.sz (by omega) hi (O7 n) (1 + (x:Int)) S4
      have t2:tAndM (toB (mOp oEq (Q5 6) (mC (.int 2)))) (toB (mOp (oI fun a b=>.bl (decide (b < a))) (Q5 1) (mC (.int 1)))) (tbG L n m tb c4 (some (.int i)) (some (.int y)) (some (.int r)) c8) S2=.ok false S2:=by
        by_cases q3:y=2
        · exact and_t (Jd (Qj rfl rfl (eqi_t S2 (by omega)))) (Jd (Qj rfl rfl (gti_f S2 (by omega))))
        · exact and_f (Jd (Qj rfl rfl (eqi_f S2 (by omega))))
      refine ⟨_,S4,_,_,_,_,I.put o (fun _=>?_) (fun z=>by cases z),T4,M12.trans M4,Qr k1 (Qr k2 (Qr k3 (K2 t1 (K2 t2 (Je (Qk (n:=4) (Q4 rfl (Q4 rfl (Q4 rfl (Q4 (Qj rfl (Qk (n:=2) (Q4 rfl (Q4 rfl rfl)) rfl e5) (addi S4 _ _)) rfl)))) rfl e6))))))⟩
      show 1 + (x:Int)<=Qt tb i
      rw [hr]; omega
theorem ent_zero {n i j:Nat} (hi:i < n) (hj:j<=n):ent (List.replicate n (Zk n)) i j=0:=by
  unfold ent
  rw [List.getD_eq_getElem?_getD (l:=List.replicate n (Zk n)),List.getElem?_replicate,if_pos hi,Option.getD_some,Zk,List.getD_eq_getElem?_getD,List.getElem?_replicate,if_pos (by omega)]; rfl
theorem atable_ok {S:Q3} {L n m:Nat} (T:Tp S L) (h1:1<=n) (h8:n<=8) (hm:m<=9):∃ (tb:Tab) (S':Q3),TbI n m tb/\Tp S' L/\Mv L S S'/\Y5 [.ref L,.int n,.int m] S=.ok (Q7 tb) S':=by
  have w0:=zTab_wt h1 h8
  have I0:TbI n 0 (List.replicate n (Zk n)):=⟨w0,Ca.zero h1 h8 w0,⟨fun i j hi hj=>by rw [ent_zero hi hj]; have:=bM_ge 0; omega⟩⟩
  obtain ⟨Γ',S',e,tb,c4,c5,c6,c7,c8,rfl,I,T',M⟩:=forG_inv (g:=fun k:Nat=>PV.int (k:Int)) (xs:=List.range m) (ga:=Qp 4) (body:=Xb) (w:=[]) (Γ:=tbG L n m (List.replicate n (Zk n)) none none none none none) (st:=S)
    (fun t Γ st=>∃ tb c4 c5 c6 c7 c8,Γ=tbG L n m tb c4 c5 c6 c7 c8/\TbI n t tb/\Tp st L/\Mv L S st) (fun _ _ _ _=>by simp)
    (fun t x Γ st hx ⟨tb,c4,c5,c6,c7,c8,hΓ,I,T,M⟩=>by
      subst hΓ
      have htm:t < m:=by simpa using (O1.mp hx).1
      obtain ⟨tb',S',d5,d6,d7,d8,I',T',M',e⟩:=atable_turn (m:=m) T I (by omega) (some (.int x)) c5 c6 c7 c8
      exact ⟨_,rfl,_,_,e,_,_,_,_,_,_,rfl,I',T',M.trans M'⟩)
    ⟨_,_,_,_,_,_,rfl,I0,T,Mv.refl L S⟩
  rw [List.length_range] at I
  rw [<- rangeI0] at e
  have hrg:Wj (Q2 (Q5 2) Q8) (tbG L n m (List.replicate n (Zk n)) none none none none none) S=.ok (Z5 0 m,[]) S:=by
    rw [mRange1_eq,Q4 (m:=Q5 2) (p:=.int m) (S1:=S) rfl (show Q8 _ S=.ok [] S from rfl),J5]
    show (if -(lim:Int)<=(m:Int)/\(m:Int)<=lim then _ else _)=_
    rw [if_pos (by rw [Jj]; omega),Int.toNat_natCast]
  have step:m__law_atable [some (.ref L),some (.int n),some (.int m),none,none,none,none,none,none] S=.rt (Q7 tb) S':=
    Qr (Γ1:=tbG L n m (List.replicate n (Zk n)) none none none none none) (Je (Qk (n:=1) (Q4 rfl rfl) rfl (abare_ok h8 S))) (Qr (for_ok hrg e) rfl)
  exact ⟨tb,S',I,T',M,(Zz step).trans (fin_goodE M.len (by simp [Jm,Q7,Qq]))⟩
theorem abegun_ok (ns:List Int):∃ (n:Nat) (tb:Tab),(1<=n/\n<=8)/\TbI n 8 tb/\Uu [.fro (ns.map .int)] []=.ok (Q7 tb) []:=by
  obtain ⟨c,e0⟩:=atape_ok ns 0 []
  have e0:Zf [.fro (ns.map .int),.int 0] []=.ok (.ref 0) [.lst [.int c]]:=e0
  have T0:Tp [.lst [.int c]] 0:=⟨c,rfl⟩
  obtain ⟨a,S1,ha,T1,M1,e1⟩:=Jn T0 8 (by decide) (by decide)
  have e1:Qe [.ref 0,.int 8] [.lst [.int c]]=.ok (.int a) S1:=e1
  obtain ⟨m,S2,hm,T2,M2,e2⟩:=Jn T1 9 (by decide) (by decide)
  have e2:Qe [.ref 0,.int 9] S1=.ok (.int m) S2:=e2
  obtain ⟨tb,S3,I,T3,M3,e3⟩:=atable_ok (n:=1 + a) (m:=m) T2 (by omega) (by omega) (by omega)
  have e3:Y5 [.ref 0,.int (1 + (a:Int)),.int m] S2=.ok (Q7 tb) S3:=by rw [show (1 + (a:Int))=((1 + a:Nat):Int) by omega]; exact e3
  have up:∀ t k,bM t<=bM (t + k):=fun t k=>by
    induction k with
    | zero=>exact Int.le_refl _
    | succ k ih=>have:=bM_succ (t + k); have:=bM_ge (t + k); rw [show t + (k + 1)=t + k + 1 by omega]; omega
  refine ⟨1 + a,tb,by omega,⟨I.w,I.c,I.b.up ?_⟩,?_⟩
  · have:=up m (8 - m); rwa [show m + (8 - m)=8 by omega] at this
  have step:m__law_abegun [some (.fro (ns.map .int)),none,none] []=.rt (Q7 tb) S3:=
    Qr (Γ1:=[some (.fro (ns.map .int)),some (.ref 0),none]) (Je (Qk (n:=2) (Q4 rfl (Q4 rfl rfl)) rfl e0)) (Qr (Γ1:=[some (.fro (ns.map .int)),some (.ref 0),some (.int (1 + (a:Int)))]) (Je (Qj rfl (Qk (n:=2) (Q4 rfl (Q4 rfl rfl)) rfl e1) (addi S1 _ _))) (ret_ok (Qk (n:=3) (Q4 rfl (Q4 rfl (Q4 (Qk (n:=2) (Q4 rfl (Q4 rfl rfl)) rfl e2) rfl))) rfl e3)))
  refine (Zz step).trans ?_
  exact fin_goodA (st:=[]) (more:=S3) (by simp [Jm,Q7,Qq])
theorem ne_tab (S:Q3) (a:Tab):oNe S (Q7 a) (Q7 a)=.ok (.bl false) S:=by
  have g:Jm dep (Q7 a)=true:=by simp [dep,Jm,Q7,Qq]
  have hp:peq (Q7 a) (Q7 a)=true:=peq_self g
  unfold Q7 at *
  simp [oNe,der,g,hp]
theorem atI_m1 {α:Type} {xs:List α} {n:Nat} (h:xs.length=n + 1):atI xs (-1)=xs[n]?:=by
  have e:ixN xs.length (-1)=some n:=by
    rw [h]
    unfold ixN
    rw [if_neg (by omega),if_pos (by omega)]
    simp; omega
  unfold atI
  rw [e]; rfl
theorem nei_t (S:Q3) {a b:Nat} (h:a≠b):oNe S (.int a) (.int b)=.ok (.bl true) S:=by
  have:¬ ((a:Int)=(b:Int)):=by omega
  simp [this]
theorem nes_f (S:Q3) (a:Str):oNe S (.str a) (.str a)=.ok (.bl false) S:=by simp
section
variable {C:Addr} {S:Q3} {P i n:Nat} {now last:Tab}
theorem rightsM_ok (hS:S[P]?=some (.obj C (hsF i now last))) (w:Wt' n now) (hi:i < n):Zq C [.ref P] S=.ok (.int (Qt now i)) S:=by
  have h8:=w.n8
  have er:=rights_ok w.sz (by omega) hi S
  have step:K1 C [some (.ref P)] S=.rt (.int (Qt now i)) S:=ret_ok (Qk (n:=2) (Q4 (Jy rfl hS (Vw _ _ _)) (Q4 (Jy rfl hS (Zu _ _ _)) rfl)) rfl er)
  exact (Zz step).trans (fin_int S _)
theorem last_ix {tb:Tab} (w:Wt' n tb) (hi:i < n) (S:Q3):oIx S (Qq (tb.getD i [])) (.int (-1))=.ok (.int (ent tb i n)) S:=by
  have lq:=(w.sz.row hi).2
  show okO S (atI ((tb.getD i []).map PV.int) (-1))=_
  rw [atI_m1 (n:=n) (by rw [O2]; exact lq),E6,getD_some (show n < (tb.getD i []).length by omega) 0]; rfl
theorem usedM_ok (hS:S[P]?=some (.obj C (hsF i now last))) (w:Wt' n now) (wl:Wt' n last) (hi:i < n):U9 C [.ref P] S=.ok (.tup [.int (ent last i n),.int (ent now i n)]) S:=by
  have step:m_House_used C [some (.ref P)] S=.rt (.tup [.int (ent last i n),.int (ent now i n)]) S:=
    ret_ok (Xh (Q4 (Qj (Qj (Jy rfl hS (hs_kept _ _ _)) (Jy rfl hS (Zu _ _ _)) (V1 wl.sz hi (Nat.zero_le n) S).1) rfl (last_ix wl hi S)) (Q4 (Qj (Qj (Jy rfl hS (Vw _ _ _)) (Jy rfl hS (Zu _ _ _)) (V1 w.sz hi (Nat.zero_le n) S).1) rfl (last_ix w hi S)) rfl)) (by simp))
  exact (Zz step).trans (Yc rfl)
theorem m0_ok {x:Str} {F:FN} {mo:ME} {Γ:Gam} {r:Res PV} (hm:mo Γ S=.ok (.ref P) S) (hS:S[P]?=some (.obj C (hsF i now last))) (hx:(hsF i now last).lookup x=none) (e:F [.ref P] S=r):Wx C x 1 F mo Q8 Γ S=r:=(meth_ok hm hS hx (ps:=[]) (S1:=S) rfl rfl).trans e
end
theorem seq_x {a b:MS} {Γ:Gam} {S S1:Q3} {x:Exc} (h:a Γ S=.exc x S1):Qm a b Γ S=.exc x S1:=by rw [mSeqS_eq,h]
theorem exp_x {m:ME} {Γ:Gam} {S S1:Q3} {x:Exc} (h:m Γ S=.exc x S1):Wy m Γ S=.exc x S1:=by rw [mExpr_eq,h]; rfl
theorem finX_none (S:Q3) (cn:Str):finX S ⟨cn,none⟩ S=.exc ⟨cn,none⟩ S:=by unfold finX; rw [if_pos List.prefix_rfl]
theorem callF_x {m:MS} {nl:Nat} {ps:List PV} {S:Q3} {cn:Str} (h:m (ps.map some ++ List.replicate (nl - ps.length) none) S=.exc ⟨cn,none⟩ S):Qn m nl ps S=.exc ⟨cn,none⟩ S:=by unfold Qn; rw [h]; exact finX_none S cn
theorem callK_x {m:MS} {nl:Nat} {ps:List PV} {S S':Q3} {x:Exc} (h:m (ps.map some ++ List.replicate (nl - ps.length) none) S=.exc x S'):Yf m nl ps S=.exc x S':=by unfold Yf; rw [h]
theorem dec_hs {n:Nat} {b:Int} (hb:¬ (0<=b/\b < n)):(decide ((0:Int)<=b) && decide (b < (n:Int)))=false:=by
  rw [Bool.and_eq_false_iff,decide_eq_false_iff_not,decide_eq_false_iff_not]; omega
section
variable {S:Q3}
theorem low2 {x:Str} (hx:x = "make" \/ x = "use") (a k:Int) (hk:k<=0):Z9 [.tup [.str x,.int a,.int k]] S=.ok (.bl false) S:=by
  have t:J1 [.tup [.str x,.int a,.int k]] S=.ok (.bl true) S:=text_ok x [a,k] (by simp) S
  have a0:atI [PV.str x,.int a,.int k] 0=some (.str x):=rfl
  have a1:atI [PV.str x,.int a,.int k] (-1)=some (.int k):=rfl
  have hk:¬ (1:Int)<=k:=by omega
  rcases hx with rfl | rfl
  · simp -implicitDefEqProofs [Z9,Qn,Vb,t,a0,a1,hk]
  · simp -implicitDefEqProofs [Z9,Qn,Vb,t,a0,a1,hk,str_um,str_ul]
theorem lend_d (a b k:Int):Z9 [.tup [.str "lend",.int a,.int b,.int k]] S=.ok (.bl (decide (1<=k))) S:=by
  have t:J1 [.tup [.str "lend",.int a,.int b,.int k]] S=.ok (.bl true) S:=text_ok "lend" [a,b,k] (by simp) S
  have a0:atI [PV.str "lend",.int a,.int b,.int k] 0=some (.str "lend"):=rfl
  have a1:atI [PV.str "lend",.int a,.int b,.int k] (-1)=some (.int k):=rfl
  simp -implicitDefEqProofs [Z9,Qn,Vb,t,a0,a1,str_lm]
theorem nodeed {T v:PV} (h:Z9 [v] S=.ok (.bl false) S):Wu [T,v] S=.exc ⟨"NoDeed",none⟩ S:=
  callF_x (m:=m_done) (nl:=5) (seq_x (if_t (not_ok (Jd (Qk (n:=1) (Q4 rfl rfl) rfl h))) rfl))
theorem needh_x {n i:Nat} {tb:Tab} (hn:tb.length=n) (hi:i < n) {b:Int} (k:Int) (hb:¬ (0<=b/\b < n)\/b=i):J3 [Q7 tb,.tup [.str "lend",.int i,.int b,.int k]] S=.exc ⟨"NoHouse",none⟩ S:=by
  have hh:=fun h:Int=>X0 (V:=Q7 tb) (n:=n) (st:=S) (by simp [Q7,hn]) h
  have hc:Ju (Qp 0) Zc Jh [] [none,some (Q7 tb)] ([(i:Int),b].map .int) S=.ok ([(i:Int),b].map fun h=>.bl (decide (0<=h) && decide (h < (n:Int)))) S:=Ye _ _ (by simp) fun h _=>⟨_,rfl,Qk (n:=2) (Q4 rfl (Q4 rfl rfl)) rfl (hh h)⟩
  have ei:(decide ((0:Int)<=(i:Int)) && decide ((i:Int) < (n:Int)))=true:=by simp; omega
  have s2:Jc 2 (mSl (Q5 1) (Yv (mC (.int 1))) (Yv (mNeg (mC (.int 1))))) [some (Q7 tb),some (.tup [.str "lend",.int i,.int b,.int k]),none] S=.nx [some (Q7 tb),some (.tup [.str "lend",.int i,.int b,.int k]),some (.tup [.int i,.int b])] S:=Je rfl
  refine callF_x (m:=Jp) (nl:=3) (Qr s2 ?_)
  have cm:Xa (Za [none,some 0] (Qp 0) (mSeq (Q5 2)) Zc Jh) [some (Q7 tb),some (.tup [.str "lend",.int i,.int b,.int k]),some (.tup [.int i,.int b])] S=.ok (.lst ([(i:Int),b].map fun h=>.bl (decide (0<=h) && decide (h < (n:Int))))) S:=val_ok (comp_ok (sq_ok (p:=.tup [.int i,.int b]) rfl rfl (by simp)) hc)
  by_cases q:0<=b/\b < n
  · have hbi:b=i:=hb.resolve_left (fun h=>h q)
    have eb:(decide ((0:Int)<=b) && decide (b < (n:Int)))=true:=by simp; omega
    have al:cBls (fun ns=>.bl (ns.all id)) S [.lst ([(i:Int),b].map fun h=>.bl (decide (0<=h) && decide (h < (n:Int))))]=.ok (.bl true) S:=by
      show cBls (fun ns=>.bl (ns.all id)) S [.lst [.bl _,.bl _]]=_
      rw [ei,eb]; exact cBls_lst _ S [true,true]
    exact Qr (K2 (not_ok (Jd (U3 (Q4 cm rfl) al))) rfl) (if_t (and_t (Jd (Qj (Qj rfl rfl rfl) rfl (eqs_t S _))) (Jd (Qj (Qj rfl rfl rfl) (Qj rfl rfl rfl) (eqi_t S hbi.symm)))) rfl)
  · have al:cBls (fun ns=>.bl (ns.all id)) S [.lst ([(i:Int),b].map fun h=>.bl (decide (0<=h) && decide (h < (n:Int))))]=.ok (.bl false) S:=by
      show cBls (fun ns=>.bl (ns.all id)) S [.lst [.bl _,.bl _]]=_
      rw [ei,dec_hs q]; exact cBls_lst _ S [true,false]
    exact seq_x (if_t (not_ok (Jd (U3 (Q4 cm rfl) al))) rfl)
theorem nohouse {T v:PV} (h:Z9 [v] S=.ok (.bl true) S) (e:J3 [T,v] S=.exc ⟨"NoHouse",none⟩ S):Wu [T,v] S=.exc ⟨"NoHouse",none⟩ S:=
  callF_x (m:=m_done) (nl:=5) (Qr (K2 (not_ok (Jd (Qk (n:=1) (Q4 rfl rfl) rfl h))) rfl) (seq_x (exp_x (callx (n:=2) (Q4 rfl (Q4 rfl rfl)) rfl e))))
end
section
variable {C:Addr} {S:Q3} {P i n:Nat} {now last:Tab}
theorem makeX (hS:S[P]?=some (.obj C (hsF i now last))) {k:Int} {x:Exc} (e:Wu [Q7 now,.tup [.str "make",.int i,.int k]] S=.exc x S):Zg C [.ref P,.int k] S=.exc x S:=
  callK_x (m:=Vq C) (nl:=2) (sfld_x (callx (n:=2) (Q4 (Jy rfl hS (Vw _ _ _)) (Q4 (Xh (Q4 rfl (Q4 (Jy rfl hS (Zu _ _ _)) (Q4 rfl rfl))) (by simp)) rfl)) rfl e))
theorem useX (hS:S[P]?=some (.obj C (hsF i now last))) {k:Int} {x:Exc} (e:Wu [Q7 now,.tup [.str "use",.int i,.int k]] S=.exc x S):Wc C [.ref P,.int k] S=.exc x S:=
  callK_x (m:=Uy C) (nl:=2) (sfld_x (callx (n:=2) (Q4 (Jy rfl hS (Vw _ _ _)) (Q4 (Xh (Q4 rfl (Q4 (Jy rfl hS (Zu _ _ _)) (Q4 rfl rfl))) (by simp)) rfl)) rfl e))
theorem lendX (hS:S[P]?=some (.obj C (hsF i now last))) {b k:Int} {x:Exc} (e:Wu [Q7 now,.tup [.str "lend",.int i,.int b,.int k]] S=.exc x S):Yp C [.ref P,.int b,.int k] S=.exc x S:=
  callK_x (m:=Vs C) (nl:=3) (sfld_x (callx (n:=2) (Q4 (Jy rfl hS (Vw _ _ _)) (Q4 (Xh (Q4 rfl (Q4 (Jy rfl hS (Zu _ _ _)) (Q4 rfl (Q4 rfl rfl)))) (by simp)) rfl)) rfl e))
theorem comeX1 (hS:S[P]?=some (.obj C (hsF i now last))) {G:Tab} (h:now.length≠G.length):Z3 C [.ref P,Q7 G] S=.exc ⟨"NoTable",none⟩ S:=by
  have l1:Yh S [Q7 now]=.ok (.int now.length) S:=by simp [Q7]
  have l2:Yh S [Q7 G]=.ok (.int G.length) S:=by simp [Q7]
  have e:J6 [Q7 now,Q7 G] S=.exc ⟨"NoTable",none⟩ S:=callF_x (m:=Zs) (nl:=2) (if_t (Jd (Qj (U3 (Q4 rfl rfl) l1) (U3 (Q4 rfl rfl) l2) (nei_t S h))) rfl)
  exact callK_x (m:=Wi C) (nl:=2) (seq_x (exp_x (callx (n:=2) (Q4 (Jy rfl hS (Vw _ _ _)) (Q4 rfl rfl)) rfl e)))
theorem comeX2 (hS:S[P]?=some (.obj C (hsF i now last))) (w:Wt' n now) {G:Tab} (wG:Wt' n G) (hi:i < n) (h:rowLe (G.getD i []) (now.getD i [])=false):Z3 C [.ref P,Q7 G] S=.exc ⟨"NoLetter",none⟩ S:=by
  have h8:=w.n8
  have e1:=need_ok (a:=now) (b:=G) (by rw [w.len,wG.len]) S
  have e2:=row_within_ok (G.getD i []) (now.getD i []) S (by rw [(wG.sz.row hi).2,Jj]; omega)
  rw [h] at e2
  have i1:=(V1 wG.sz hi (Nat.zero_le n) S).1
  have i2:=(V1 w.sz hi (Nat.zero_le n) S).1
  exact callK_x (m:=Wi C) (nl:=2) (Qr (exp_ok (Qk (n:=2) (Q4 (Jy rfl hS (Vw _ _ _)) (Q4 rfl rfl)) rfl e1)) (seq_x (if_t (not_ok (Jd (Qk (n:=2) (Q4 (Qj rfl (Jy rfl hS (Zu _ _ _)) i1) (Q4 (Qj (Jy rfl hS (Vw _ _ _)) (Jy rfl hS (Zu _ _ _)) i2) rfl)) rfl e2))) rfl)))
theorem initX1 {B:Tab} (w:Wt' n B) (hc:Uj n B=false) (b:PV):Jg C [.ref S.length,b,Q7 B] (S ++ [.obj C []])=.exc ⟨"NoTable",none⟩ (S ++ [.obj C []]):=by
  have e:=does_ok w (S ++ [.obj C []])
  rw [hc] at e
  have e1:Z2 [Q7 B] (S ++ [.obj C []])=.exc ⟨"NoTable",none⟩ (S ++ [.obj C []]):=callF_x (m:=Yk) (nl:=1) (if_t (not_ok (Jd (Qk (n:=1) (Q4 rfl rfl) rfl e))) rfl)
  exact callK_x (m:=Yb C) (nl:=3) (seq_x (exp_x (callx (n:=1) (Q4 rfl rfl) rfl e1)))
theorem initX2 {B:Tab} (w:Wt' n B) (c:Ca n B) {b:Int} (hb:¬ (0<=b/\b < n)):Jg C [.ref S.length,.int b,Q7 B] (S ++ [.obj C []])=.exc ⟨"NoHouse",none⟩ (S ++ [.obj C []]):=by
  have e1:=need_comes_ok w c (S ++ [.obj C []])
  have e2:=X0 (V:=Q7 B) (n:=n) (st:=S ++ [.obj C []]) (by simp [Q7,w.len]) b
  rw [dec_hs hb] at e2
  exact callK_x (m:=Yb C) (nl:=3) (Qr (exp_ok (Qk (n:=1) (Q4 rfl rfl) rfl e1)) (seq_x (if_t (not_ok (Jd (Qk (n:=2) (Q4 rfl (Q4 rfl rfl)) rfl e2))) rfl)))
end
theorem short_not {n i:Nat} {tb:Tab} (w:Wt' n tb) (hi:i < n) {k:Int} (hk:Qt tb i < k):Uj n (Yt tb i n (ent tb i n + k))=false:=by
  have hr:=rights_put w.sz hi (O7 n) k hi
  rw [if_neg (by omega),if_pos rfl,if_neg (by omega)] at hr
  unfold Uj
  rw [Bool.and_eq_false_iff]
  refine .inl (List.all_eq_false.mpr ⟨i,E1.mpr hi,?_⟩)
  rw [decide_eq_true_eq,hr]
  omega
theorem ring_not {n i j:Nat} (h1:1<=n) (h8:n<=8) (hi:i < n) (hj:j < n) (hij:i≠j) {B:Tab} (hB:B=Yt (Yt (List.replicate n (Zk n)) i j (ent (List.replicate n (Zk n)) i j + 3)) j i (ent (Yt (List.replicate n (Zk n)) i j (ent (List.replicate n (Zk n)) i j + 3)) j i + 3)):Wt' n B/\Uj n B=false:=by
  have w0:=zTab_wt h1 h8
  have z0:∀ a b,a < n->b<=n->ent (List.replicate n (Zk n)) a b=0:=fun a b ha hb=>ent_zero ha hb
  have w1:Wt' n (Yt (List.replicate n (Zk n)) i j (ent (List.replicate n (Zk n)) i j + 3)):=w0.set0 hi (by rw [z0 i j hi (D2 hj)]; decide)
  have e1:=Ur w0.sz hi (D2 hj) (ent (List.replicate n (Zk n)) i j + 3)
  have x1:ent (Yt (List.replicate n (Zk n)) i j (ent (List.replicate n (Zk n)) i j + 3)) j i=0:=by rw [e1,if_neg (by omega),z0 j i hj (D2 hi)]
  have w2:Wt' n B:=by rw [hB]; exact w1.set0 hj (by rw [x1]; decide)
  have e2:∀ a b,ent B a b=if a=j/\b=i then (0 + 3:Int) else if a=i/\b=j then (0 + 3:Int) else ent (List.replicate n (Zk n)) a b:=fun a b=>by
    rw [hB,Ur w1.sz hj (D2 hi),x1,e1,z0 i j hi (D2 hj)]
  refine ⟨w2,?_⟩
  have no:∀ h,Rc n B h->False:=fun h r=>by
    induction r with
    | @made h hh hm=>
      have:(0:Int) < ent B h h:=of_decide_eq_true hm
      rw [e2,if_neg (by omega),if_neg (by omega),z0 h h hh (D2 hh)] at this
      omega
    | lent _ _ _ ih=>exact ih
  have bz:Wn B i=true:=(busy_iff w2 hi).mpr ⟨j,D2 hj,fun z=>hij z.symm,by rw [e2,if_neg (by omega),if_pos ⟨rfl,rfl⟩]; decide⟩
  unfold Uj reachF
  rw [Bool.and_eq_false_iff]
  refine .inr (List.all_eq_false.mpr ⟨i,E1.mpr hi,?_⟩)
  rw [bz]
  have:¬ (knownF n B).getD i false=true:=fun h=>no i ((known_rc n B hi).mp h)
  simp only [Bool.not_eq_true] at this
  rw [this]; decide
theorem good_tab (t:Tab):Jm 12 (Q7 t)=true:=by simp [Jm,Q7,Qq]
theorem anotable_ok {S:Q3} {L n:Nat} (T:Tp S L) {tb:Tab} (w:Wt' n tb):∃ (B:Tab) (S':Q3),Wt' n B/\Uj n B=false/\Tp S' L/\Mv L S S'/\Yg [.ref L,Q7 tb] S=.ok (Q7 B) S':=by
  have h1:=w.n1
  have h8:=w.n8
  obtain ⟨i,S1,hi,T1,M1,e1⟩:=Jn T n h1 (by omega)
  have lt:Yh S [Q7 tb]=.ok (.int n) S:=by simp [Q7,w.len]
  have k1:Jc 2 (Ja Yh (Q2 (Q5 1) Q8)) [some (.ref L),some (Q7 tb),none,none,none] S=.nx [some (.ref L),some (Q7 tb),some (.int n),none,none] S:=Je (U3 (Q4 rfl rfl) lt)
  have k2:Jc 3 (Qi 2 Qe (Q2 (Q5 0) (Q2 (Q5 2) Q8))) [some (.ref L),some (Q7 tb),some (.int n),none,none] S=.nx [some (.ref L),some (Q7 tb),some (.int n),some (.int i),none] S1:=Je (Qk (n:=2) (Q4 rfl (Q4 rfl rfl)) rfl e1)
  have short:∀ S2,Tp S2 L->Mv L S S2->(∃ r:SR,(tAndM (toB (mOp (oI fun a b=>.bl (decide (b < a))) (Q5 2) (mC (.int 1)))) (toB (mOp oEq (Qi 2 Qe (Q2 (Q5 0) (Q2 (mC (.int 2)) Q8))) (mC (.int 0))))) [some (.ref L),some (Q7 tb),some (.int n),some (.int i),none] S1=.ok false S2)->∃ (B:Tab) (S':Q3),Wt' n B/\Uj n B=false/\Tp S' L/\Mv L S S'/\Yg [.ref L,Q7 tb] S=.ok (Q7 B) S':=fun S2 T2 M2 ⟨_,hc⟩=>by
    obtain ⟨v,hv⟩:∃ v:Int,(if Qt tb i > 0 then Qt tb i else 0)=v:=⟨_,rfl⟩
    have er:=arights_ok w.sz (by omega) hi S2
    have em:cMax S2 [.int 0,.int (Qt tb i)]=.ok (.int v) S2:=by rw [cMax_int,hv]
    have ea:=Va w.sz (by omega) hi (O7 n) (1 + v) S2
    have v0:0<=v/\Qt tb i<=v:=by rw [<- hv]; split <;> omega
    refine ⟨_,S2,w.set0 (j:=n) hi ?_,short_not w hi (k:=1 + v) (by omega),T2,M2,?_⟩
    · have:=w.ent_nn hi (O7 n); omega
    · have step:Wh [some (.ref L),some (Q7 tb),none,none,none] S=.rt (Q7 (Yt tb i n (ent tb i n + (1 + v)))) S2:=
        Qr k1 (Qr k2 (Qr (K2 hc rfl) (ret_ok (Qk (n:=4) (Q4 rfl (Q4 rfl (Q4 rfl (Q4 (Qj rfl (U3 (Q4 rfl (Q4 (Qk (n:=2) (Q4 rfl (Q4 rfl rfl)) rfl er) rfl)) em) (addi S2 _ _)) rfl)))) rfl ea))))
      exact (Zz step).trans (fin_goodE M2.len (good_tab _))
  by_cases q:1 < n
  · obtain ⟨d,S2,hd,T2,M2,e2⟩:=Jn T1 2 (by decide) (by decide)
    by_cases qd:d=0
    · obtain ⟨j,ej,hj,hne⟩:=other_h (n:=n) (i:=i) (y:=0) hi (by omega)
      have ej:((i:Int) + 1) % (n:Int)=(j:Int):=by simpa using ej
      have eb:=abare_ok (n:=n) (by omega) S2
      have w0:=zTab_wt h1 h8
      have ea1:=Va w0.sz (by omega) hi (D2 hj) 3 S2
      obtain ⟨B1,hB1⟩:∃ B1,Yt (List.replicate n (Zk n)) i j (ent (List.replicate n (Zk n)) i j + 3)=B1:=⟨_,rfl⟩
      have w1:Wt' n B1:=by rw [<- hB1]; exact w0.set0 hi (by rw [ent_zero hi (D2 hj)]; decide)
      have ea2:=Va w1.sz (by omega) hj (D2 hi) 3 S2
      obtain ⟨wB,cB⟩:=ring_not h1 h8 hi hj (fun z=>hne z.symm) rfl
      rw [hB1] at ea1 wB cB
      refine ⟨_,S2,wB,cB,T2,M1.trans M2,?_⟩
      have step:Wh [some (.ref L),some (Q7 tb),none,none,none] S=.rt (Q7 (Yt B1 j i (ent B1 j i + 3))) S2:=
        Qr k1 (Qr k2 (seq_rt (if_t (and_t (Jd (Qj rfl rfl (gti_t S1 (by omega)))) (Jd (Qj (Qk (n:=2) (Q4 rfl (Q4 rfl rfl)) rfl e2) rfl (eqi_t S2 (by omega))))) (Qr (Γ1:=[some (.ref L),some (Q7 tb),some (.int n),some (.int i),some (.int j)]) (Je (Qj (Qj rfl rfl (addi S2 _ _)) rfl (by rw [modi S2 (by omega),ej]))) (ret_ok (Qk (n:=4) (Q4 (Qk (n:=4) (Q4 (Qk (n:=1) (Q4 rfl rfl) rfl eb) (Q4 rfl (Q4 rfl (Q4 rfl rfl)))) rfl ea1) (Q4 rfl (Q4 rfl (Q4 rfl rfl)))) rfl ea2))))))
      exact (Zz step).trans (fin_goodE (M1.trans M2).len (good_tab _))
    · exact short S2 T2 (M1.trans M2) ⟨.stuck,and_t (Jd (Qj rfl rfl (gti_t S1 (by omega)))) (Jd (Qj (Qk (n:=2) (Q4 rfl (Q4 rfl rfl)) rfl e2) rfl (eqi_f S2 (by omega))))⟩
  · exact short S1 T1 M1 ⟨.stuck,and_f (Jd (Qj rfl rfl (gti_f S1 (by omega))))⟩
section
variable {C:Addr} {S:Q3} {P i n:Nat} {now last:Tab}
def ahV (i n:Nat) (now last:Tab):PV:=.tup [Q7 now,Q7 last,.int (Qt now i),.tup [.int (ent last i n),.int (ent now i n)]]
theorem atold_ok (hS:S[P]?=some (.obj C (hsF i now last))) (w:Wt' n now) (wl:Wt' n last) (hi:i < n):U6 C [.ref P] S=.ok (ahV i n now last) S:=by
  have hx:∀ y:Str,(y == (Str.ofString "number"))=false->(y == (Str.ofString "now"))=false->(y == (Str.ofString "kept"))=false->(hsF i now last).lookup y=none:=fun y a b c=>hs_none a b c _ _ _
  have step:m__law_atold C [some (.ref P)] S=.rt (ahV i n now last) S:=
    ret_ok (Xh (Q4 (m0_ok rfl hS (hx _ (by decide +kernel) (by decide +kernel) (by decide +kernel)) (table_ok hS)) (Q4 (m0_ok rfl hS (hx _ (by decide +kernel) (by decide +kernel) (by decide +kernel)) (letter_ok hS)) (Q4 (m0_ok rfl hS (hx _ (by decide +kernel) (by decide +kernel) (by decide +kernel)) (rightsM_ok hS w hi)) (Q4 (m0_ok rfl hS (hx _ (by decide +kernel) (by decide +kernel) (by decide +kernel)) (usedM_ok hS w wl hi)) rfl)))) (by simp))
  exact (Zz step).trans (Yc (by simp [Jm,ahV,Q7,Qq]))
theorem ne_ah (S:Q3):oNe S (ahV i n now last) (ahV i n now last)=.ok (.bl false) S:=by
  have g:Jm dep (ahV i n now last)=true:=by simp [dep,Jm,ahV,Q7,Qq]
  have hp:peq (ahV i n now last) (ahV i n now last)=true:=peq_self g
  have hd:der S (ahV i n now last)=ahV i n now last:=rfl
  unfold oNe
  rw [hd]
  simp [g,hp]
def Ct (C:Addr) (P:Nat) (S:Q3) (way:Str) (th:List PV) (wd:Str):Prop:=∃ S',U8 C [.ref P,.str way,.tup th] S=.ok (.str wd) S'/\(S'=S\/S'=S ++ [.obj C []])
theorem ct_of {way cn wd:Str} {th:List PV} {S':Q3} {fs:Option (Str × PV)} (h:Jr C [some (.ref P),some (.str way),some (.tup th),some .non,none] S=.exc ⟨cn,fs⟩ S') (hS':S'=S\/S'=S ++ [.obj C []]) (hc:∀ T:Q3,(if cn = "NoTable" then Res.ok (PV.str "table") T else if cn = "NoHouse" then .ok (.str "house") T else if cn = "NoDeed" then .ok (.str "deed") T else if cn = "NoLetter" then .ok (.str "letter") T else if cn = "Short" then .ok (.str "short") T else .stuck)=.ok (.str wd) T):Ct C P S way th wd:=by
  refine ⟨S',?_,hS'⟩
  show (match Jr C [some (.ref P),some (.str way),some (.tup th),some .non,none] S with
    | .nx Γ st1=>(match (Γ:Gam)[3]? with | some (some PV.non)=>Res.ok (PV.str "") st1 | _=>.stuck)
    | .exc x st1=>if x.cls = "NoTable" then .ok (.str "table") st1 else if x.cls = "NoHouse" then .ok (.str "house") st1 else if x.cls = "NoDeed" then .ok (.str "deed") st1 else if x.cls = "NoLetter" then .ok (.str "letter") st1 else if x.cls = "Short" then .ok (.str "short") st1 else .stuck
    | _=>.stuck)=_
  rw [h]
  exact hc S'
end
theorem rowLe_iff {n i:Nat} {A B:Tab} (zA:Sz n A) (zB:Sz n B) (hi:i < n):rowLe (A.getD i []) (B.getD i [])=true <-> ∀ j,j<=n->ent A i j<=ent B i j:=by
  have lA:=(zA.row hi).2
  have lB:=(zB.row hi).2
  unfold rowLe
  rw [F6]
  constructor
  · intro h j hj
    have:=h (ent A i j,ent B i j) (List.mem_iff_getElem?.mpr ⟨j,by rw [List.getElem?_zip_eq_some]; exact ⟨getD_some (by omega) 0,getD_some (by omega) 0⟩⟩)
    simpa using this
  · intro h z hz
    obtain ⟨j,hj⟩:=List.mem_iff_getElem?.mp hz
    rw [List.getElem?_zip_eq_some] at hj
    have hjl:j<=n:=by have:=(O1.mp hj.1).1; omega
    have b1:=h j hjl
    unfold ent at b1
    rw [List.getD_eq_getElem?_getD,hj.1,List.getD_eq_getElem?_getD,hj.2] at b1
    simpa using b1
theorem w_mh:¬ (Str.ofString "make" = Str.ofString "house"):=by decide +kernel
theorem w_lh:¬ (Str.ofString "lend" = Str.ofString "house"):=by decide +kernel
theorem w_uh:¬ (Str.ofString "use" = Str.ofString "house"):=by decide +kernel
theorem w_ch:¬ (Str.ofString "come" = Str.ofString "house"):=by decide +kernel
theorem mk_x {C:Addr} {F:FN} {mr:ML} {Γ:Gam} {S S':Q3} {ps:List PV} {x:Exc} (h1:mr Γ S=.ok ps S) (h2:ps.length + 1=3) (h3:F (.ref S.length :: ps) (S ++ [.obj C []])=.exc x S'):mMake C 3 F mr Γ S=.exc x S':=by
  unfold mMake; rw [h1,J5,if_pos h2,h3]; rfl
theorem kHouse (T:Q3):(if Str.ofString "NoHouse" = "NoTable" then Res.ok (PV.str "table") T else if Str.ofString "NoHouse" = "NoHouse" then .ok (.str "house") T else if Str.ofString "NoHouse" = "NoDeed" then .ok (.str "deed") T else if Str.ofString "NoHouse" = "NoLetter" then .ok (.str "letter") T else if Str.ofString "NoHouse" = "Short" then .ok (.str "short") T else .stuck)=.ok (.str "house") T:=by rw [if_neg (by decide +kernel),if_pos rfl]
theorem kDeed (T:Q3):(if Str.ofString "NoDeed" = "NoTable" then Res.ok (PV.str "table") T else if Str.ofString "NoDeed" = "NoHouse" then .ok (.str "house") T else if Str.ofString "NoDeed" = "NoDeed" then .ok (.str "deed") T else if Str.ofString "NoDeed" = "NoLetter" then .ok (.str "letter") T else if Str.ofString "NoDeed" = "Short" then .ok (.str "short") T else .stuck)=.ok (.str "deed") T:=by rw [if_neg (by decide +kernel),if_neg (by decide +kernel),if_pos rfl]
theorem kLetter (T:Q3):(if Str.ofString "NoLetter" = "NoTable" then Res.ok (PV.str "table") T else if Str.ofString "NoLetter" = "NoHouse" then .ok (.str "house") T else if Str.ofString "NoLetter" = "NoDeed" then .ok (.str "deed") T else if Str.ofString "NoLetter" = "NoLetter" then .ok (.str "letter") T else if Str.ofString "NoLetter" = "Short" then .ok (.str "short") T else .stuck)=.ok (.str "letter") T:=by rw [if_neg (by decide +kernel),if_neg (by decide +kernel),if_neg (by decide +kernel),if_pos rfl]
theorem kShort (T:Q3):(if Str.ofString "Short" = "NoTable" then Res.ok (PV.str "table") T else if Str.ofString "Short" = "NoHouse" then .ok (.str "house") T else if Str.ofString "Short" = "NoDeed" then .ok (.str "deed") T else if Str.ofString "Short" = "NoLetter" then .ok (.str "letter") T else if Str.ofString "Short" = "Short" then .ok (.str "short") T else .stuck)=.ok (.str "short") T:=by rw [if_neg (by decide +kernel),if_neg (by decide +kernel),if_neg (by decide +kernel),if_neg (by decide +kernel),if_pos rfl]
section
variable {C:Addr} {S:Q3} {P i n:Nat} {now last:Tab}
theorem look (hS:S[P]?=some (.obj C (hsF i now last))) {x:Str} {k:Nat} {F:FN} {mr:ML} {Γ:Gam} {ps:List PV} {r:Res PV} (hx:(hsF i now last).lookup x=none) (hΓ:Q5 0 Γ S=.ok (.ref P) S) (hm:mr Γ S=.ok ps S) (hk:ps.length + 1=k) (e:F (.ref P :: ps) S=r):Wx C x k F (Q5 0) mr Γ S=r:=(meth_ok hΓ hS hx hm hk).trans e
theorem ct_h1 {B:Tab} (w:Wt' n B) (hc:Uj n B=false) (b:PV):Ct C P S "house" [b,Q7 B] "table" :=
  ct_of (if_t (Jd (Qj rfl rfl (eqs_t S _))) (exp_x (mk_x (Q4 (Qj rfl rfl rfl) (Q4 (Qj rfl rfl rfl) rfl)) rfl (initX1 w hc b)))) (.inr rfl) fun _=>if_pos rfl
theorem ct_h2 {B:Tab} (w:Wt' n B) (c:Ca n B) {b:Int} (hb:¬ (0<=b/\b < n)):Ct C P S "house" [.int b,Q7 B] "house" :=
  ct_of (if_t (Jd (Qj rfl rfl (eqs_t S _))) (exp_x (mk_x (Q4 (Qj rfl rfl rfl) (Q4 (Qj rfl rfl rfl) rfl)) rfl (initX2 w c hb)))) (.inr rfl) kHouse
theorem ct_make (hS:S[P]?=some (.obj C (hsF i now last))) {k:Int} (hk:k<=0):Ct C P S "make" [.int k] "deed" :=
  ct_of (K2 (Jd (Qj rfl rfl (eqs_f S w_mh))) (if_t (Jd (Qj rfl rfl (eqs_t S _))) (exp_x (look hS (hs_none (by decide +kernel) (by decide +kernel) (by decide +kernel) _ _ _) rfl (Q4 (Qj rfl rfl rfl) rfl) rfl (makeX hS (nodeed (low2 (.inl rfl) _ _ hk))))))) (.inl rfl) kDeed
theorem use_w {x:Exc} {S':Q3} (hS:S[P]?=some (.obj C (hsF i now last))) {k:Int} (e:Wc C [.ref P,.int k] S=.exc x S'):Jr C [some (.ref P),some (.str "use"),some (.tup [.int k]),some .non,none] S=.exc x S':=
  K2 (Jd (Qj rfl rfl (eqs_f S w_uh))) (K2 (Jd (Qj rfl rfl (eqs_f S n_use_make))) (K2 (Jd (Qj rfl rfl (eqs_f S n_use_lend))) (if_t (Jd (Qj rfl rfl (eqs_t S _))) (exp_x (look hS (hs_none (by decide +kernel) (by decide +kernel) (by decide +kernel) _ _ _) rfl (Q4 (Qj rfl rfl rfl) rfl) rfl e)))))
theorem lend_w {x:Exc} {S':Q3} (hS:S[P]?=some (.obj C (hsF i now last))) {b k:Int} (e:Yp C [.ref P,.int b,.int k] S=.exc x S'):Jr C [some (.ref P),some (.str "lend"),some (.tup [.int b,.int k]),some .non,none] S=.exc x S':=
  K2 (Jd (Qj rfl rfl (eqs_f S w_lh))) (K2 (Jd (Qj rfl rfl (eqs_f S n_lend_make))) (if_t (Jd (Qj rfl rfl (eqs_t S _))) (exp_x (look hS (hs_none (by decide +kernel) (by decide +kernel) (by decide +kernel) _ _ _) rfl (Q4 (Qj rfl rfl rfl) (Q4 (Qj rfl rfl rfl) rfl)) rfl e))))
theorem come_w {x:Exc} {S':Q3} (hS:S[P]?=some (.obj C (hsF i now last))) {G:PV} (e:Z3 C [.ref P,G] S=.exc x S'):Jr C [some (.ref P),some (.str "come"),some (.tup [G]),some .non,none] S=.exc x S':=
  K2 (Jd (Qj rfl rfl (eqs_f S w_ch))) (K2 (Jd (Qj rfl rfl (eqs_f S n_come_make))) (K2 (Jd (Qj rfl rfl (eqs_f S n_come_lend))) (K2 (Jd (Qj rfl rfl (eqs_f S n_come_use))) (exp_x (look hS (hs_none (by decide +kernel) (by decide +kernel) (by decide +kernel) _ _ _) rfl (Q4 (Qj rfl rfl rfl) rfl) rfl e)))))
theorem short_own (d:Dd) (hd:d.h=i) (hf:d.fits now=false):Lw.ownR C S P n now last d=.exc ⟨"Short",some ("had",.int (Qt now i))⟩ S:=by
  unfold Lw.ownR
  rw [hf,hd]; rfl
end
abbrev di (w:Str) (t:List PV) (d:Str):Str × List PV × Str:=(w,t,d)
def dueV (x:Str × List PV × Str):PV:=.tup [.str x.1,.tup x.2.1,.str x.2.2]
abbrev rG (ns:List Int) (tb:Tab) (n:Nat) (c3 c4 c5 c6 c7 c8 c9 c10 c11 c12 c13 c14 c15 c16 c17 c18:Option PV):Gam:=[some (.fro (ns.map .int)),some (Q7 tb),some (.int n),c3,c4,c5,c6,c7,c8,c9,c10,c11,c12,c13,c14,c15,c16,c17,c18]
theorem turn16 {C:Addr} {n:Nat} {tb:Tab} (w:Wt' n tb) (c:Ca n tb) (ns:List Int) (t:Nat) (S:Q3) (c4 c5 c6 c7 c8 c9 c10 c11 c12 c13 c14 c15 c16 c17 c18:Option PV) :
    ∃ (d4 d5 d6 d7 d8 d9 d10 d11 d12 d13 d14 d15 d16 d17 d18:Option PV) (S':Q3),b_law_1 C (rG ns tb n (some (.int t)) c4 c5 c6 c7 c8 c9 c10 c11 c12 c13 c14 c15 c16 c17 c18) S=.nx (rG ns tb n (some (.int t)) d4 d5 d6 d7 d8 d9 d10 d11 d12 d13 d14 d15 d16 d17 d18) S':=by
  have h1:=w.n1
  have h8:=w.n8
  obtain ⟨ct,e4⟩:=atape_ok ns t S
  obtain ⟨S1,hS1⟩:∃ S1,S ++ [Cell.lst [.int ct]]=S1:=⟨_,rfl⟩
  rw [hS1] at e4
  obtain ⟨L,hL⟩:∃ L,S.length=L:=⟨_,rfl⟩
  rw [hL] at e4
  have len1:S1.length=L + 1:=by rw [<- hS1,<- hL]; simp
  have T1:Tp S1 L:=⟨ct,by rw [<- hS1,<- hL]; simp⟩
  obtain ⟨i,S2,hi,T2,M2,e5⟩:=Jn T1 n h1 (by omega)
  have len2:S2.length=L + 1:=M2.len.trans len1
  have e6:=init_ok (C:=C) w c hi S2
  obtain ⟨S3,hS3⟩:∃ S3,S2 ++ [Cell.obj C (hsF i tb tb)]=S3:=⟨_,rfl⟩
  rw [hS3] at e6
  have e6':∀ Γ:Gam,Q5 5 Γ S2=.ok (.int i) S2->Q5 1 Γ S2=.ok (Q7 tb) S2->mMake C 3 (Jg C) (Q2 (Q5 5) (Q2 (Q5 1) Q8)) Γ S2=.ok (.ref (L + 1)) S3:=fun Γ v5 v1=>by
    unfold mMake
    rw [Q4 v5 (Q4 v1 (show Q8 Γ S2=.ok [] S2 from rfl)),J5,if_pos (show [PV.int (i:Int),Q7 tb].length + 1=3 from rfl),e6,J5,len2]
  have ob3:S3[L + 1]?=some (.obj C (hsF i tb tb)):=by rw [<- hS3,<- len2]; simp
  have T3:Tp S3 L:=by obtain ⟨x,hx⟩:=T2; exact ⟨x,by rw [<- hS3,O9 (by omega)]; exact hx⟩
  obtain ⟨d,S4,hd,T4,M4,e7⟩:=Jn T3 9 (by decide) (by decide)
  have ob4:S4[L + 1]?=some (.obj C (hsF i tb tb)):=by rw [M4.keep _ (by omega)]; exact ob3
  have oM:(Dd.mk i (1 + (d:Int))).ok n:=⟨hi,by omega⟩
  have e8:=make_ok ob4 w oM
  obtain ⟨now,hnow⟩:∃ now,(Dd.mk i (1 + (d:Int))).put n tb=now:=⟨_,rfl⟩
  have e8:Zg C [.ref (L + 1),.int (1 + (d:Int))] S4=.ok .non (S4.set (L + 1) (.obj C (hsF i now tb))):=e8.trans (by unfold Lw.ownR; rw [if_pos (show (Dd.mk i (1 + (d:Int))).fits tb=true from rfl),hnow]; rfl)
  obtain ⟨wN,cN⟩:Wt' n now/\Ca n now:=by rw [<- hnow]; exact ca_put w c oM fun z=>by cases z
  have leN:∀ j,j<=n->ent tb i j<=ent now i j:=fun j _=>by rw [<- hnow]; exact (put_ent w oM i j).1
  obtain ⟨S5,hS5⟩:∃ S5,S4.set (L + 1) (.obj C (hsF i now tb))=S5:=⟨_,rfl⟩
  rw [hS5] at e8
  have ob5:S5[L + 1]?=some (.obj C (hsF i now tb)):=by rw [<- hS5]; exact E8 (O1.mp ob4).1
  have T5:Tp S5 L:=by obtain ⟨x,hx⟩:=T4; exact ⟨x,by rw [<- hS5,F0 (by omega)]; exact hx⟩
  obtain ⟨q,S6,hq,T6,M6,e9⟩:=Jn T5 2 (by decide) (by decide)
  have ob6:S6[L + 1]?=some (.obj C (hsF i now tb)):=by rw [M6.keep _ (by omega)]; exact ob5
  have hx:∀ (a b:Tab) (y:Str),(y == (Str.ofString "number"))=false->(y == (Str.ofString "now"))=false->(y == (Str.ofString "kept"))=false->(hsF i a b).lookup y=none:=fun _ _ y a b c=>hs_none a b c _ _ _
  obtain ⟨last,S7,wl,ob7,T7,e10⟩:∃ (last:Tab) (S7:Q3),Wt' n last/\S7[L + 1]?=some (.obj C (hsF i now last))/\Tp S7 L/\∀ Γ:Gam,Q5 4 Γ S5=.ok (.ref L) S5->Q5 6 Γ S6=.ok (.ref (L + 1)) S6->(Yw (toB (mOp oEq (Qi 2 Qe (Q2 (Q5 4) (Q2 (mC (.int 2)) Q8))) (mC (.int 0)))) (Wy (Wx C "keep" 1 (Wm C) (Q5 6) Q8)) Zi) Γ S5=.nx Γ S7:=by
    by_cases z:q=0
    · refine ⟨now,S6.set (L + 1) (.obj C (hsF i now now)),wN,E8 (O1.mp ob6).1,?_,fun Γ v4 v6=>if_t (Jd (Qj (Qk (n:=2) (Q4 v4 (Q4 rfl rfl)) rfl e9) rfl (eqi_t S6 (by omega)))) (exp_ok (m0_ok v6 ob6 (hx _ _ _ (by decide +kernel) (by decide +kernel) (by decide +kernel)) (keep_ok ob6)))⟩
      obtain ⟨x,hx⟩:=T6
      exact ⟨x,by rw [F0 (by omega)]; exact hx⟩
    · exact ⟨tb,S6,w,ob6,T6,fun Γ v4 v6=>K2 (Jd (Qj (Qk (n:=2) (Q4 v4 (Q4 rfl rfl)) rfl e9) rfl (eqi_f S6 (by omega)))) rfl⟩
  have e11:=atold_ok ob7 wN wl hi
  obtain ⟨B,S8,wB,cB,T8,M8,e12⟩:=anotable_ok T7 w
  have ob8:S8[L + 1]?=some (.obj C (hsF i now last)):=by rw [M8.keep _ (by omega)]; exact ob7
  obtain ⟨a,S9,ha,T9,M9,e13⟩:=Jn T8 4 (by decide) (by decide)
  obtain ⟨wr,hwr,e14⟩:∃ wr:Int,¬ (0<=wr/\wr < n)/\oIx S9 (.lst [.int n,.int (-1),.int ((n:Int) + 3),.int (10 ^ 29)]) (.int a)=.ok (.int wr) S9:=by
    have:a=0\/a=1\/a=2\/a=3:=by omega
    rcases this with rfl | rfl | rfl | rfl
    · exact ⟨_,by omega,rfl⟩
    · exact ⟨_,by omega,rfl⟩
    · exact ⟨_,by omega,rfl⟩
    · exact ⟨_,by omega,rfl⟩
  obtain ⟨b,S10,hb,T10,M10,e15⟩:=Jn T9 3 (by decide) (by decide)
  obtain ⟨lt,hlt,e16⟩:∃ lt:Int,lt<=0/\oIx S10 (.lst [.int 0,.int (-1),.int (-10 ^ 20)]) (.int b)=.ok (.int lt) S10:=by
    have:b=0\/b=1\/b=2:=by omega
    rcases this with rfl | rfl | rfl
    · exact ⟨_,by omega,rfl⟩
    · exact ⟨_,by omega,rfl⟩
    · exact ⟨_,by omega,rfl⟩
  have ob10:S10[L + 1]?=some (.obj C (hsF i now last)):=by rw [M10.keep _ (by omega),M9.keep _ (by omega)]; exact ob8
  have e17:=rightsM_ok ob10 wN hi
  have rn:=cN.nn i hi
  obtain ⟨f,S11,hf,T11,M11,e18⟩:=Jn T10 3 (by decide) (by decide)
  obtain ⟨mo,hmo⟩:∃ mo:Int,Qt now i + 1 + (f:Int)=mo:=⟨_,rfl⟩
  have ob11:S11[L + 1]?=some (.obj C (hsF i now last)):=by rw [M11.keep _ (by omega)]; exact ob10
  have e19:=table_ok ob11
  obtain ⟨j0,S12,hj0,T12,M12,e20⟩:=Jn T11 (n + 1) (by omega) (by omega)
  have e20:Qe [.ref L,.int ((n:Int) + 1)] S11=.ok (.int j0) S12:=e20
  have e21:=Va wN.sz (by omega) hi (show j0<=n by omega) 1 S12
  obtain ⟨ow,how⟩:∃ ow,Yt now i j0 (ent now i j0 + 1)=ow:=⟨_,rfl⟩
  rw [how] at e21
  have wO:Wt' n ow:=by
    rw [<- how]
    exact wN.set0 hi (by have:=wN.ent_nn hi (show j0<=n by omega); omega)
  have rO:rowLe (ow.getD i []) (now.getD i [])=false:=by
    rw [Bool.eq_false_iff]
    intro z
    have:=(rowLe_iff wO.sz wN.sz hi).mp z j0 (by omega)
    rw [<- how,Ur wN.sz hi (by omega),if_pos ⟨rfl,rfl⟩] at this
    omega
  have ob12:S12[L + 1]?=some (.obj C (hsF i now last)):=by rw [M12.keep _ (by omega)]; exact ob11
  obtain ⟨m,hm,hmn,e22⟩:∃ m:Nat,m<=8/\m≠n/\∀ Γ:Gam,Q5 2 Γ S12=.ok (.int n) S12->mOp oIx (mLst (Q2 (mOp Js (Q5 2) (mC (.int 1))) (Q2 (mC (.int 1)) Q8))) (Ja cIntB (Q2 (mOp oEq (Q5 2) (mC (.int 8))) Q8)) Γ S12=.ok (.int m) S12:=by
    by_cases z:n=8
    · exact ⟨1,by omega,by omega,fun Γ v2=>Qj (bi_lst (Q4 (Qj v2 rfl (addi S12 _ _)) (Q4 rfl rfl)) (by simp)) (U3 (Q4 (Qj v2 rfl (eqi_t S12 (by omega))) rfl) rfl) rfl⟩
    · exact ⟨n + 1,by omega,by omega,fun Γ v2=>Qj (bi_lst (Q4 (Qj v2 rfl (addi S12 _ _)) (Q4 rfl rfl)) (by simp)) (U3 (Q4 (Qj v2 rfl (eqi_f S12 (by omega))) rfl) rfl) rfl⟩
  have e23:=abare_ok hm S12
  obtain ⟨du,hdu⟩:∃ du:List (Str × List PV × Str),du=[di "house" [.int i,Q7 B] "table",di "house" [.int wr,Q7 B] "table",di "house" [.int wr,Q7 tb] "house",di "make" [.int lt] "deed",di "use" [.int lt] "deed",di "lend" [.int i,.int lt] "deed",di "lend" [.int wr,.int lt] "deed",di "lend" [.int i,.int mo] "house",di "lend" [.int wr,.int 1] "house",di "use" [.int mo] "short",di "come" [Q7 (List.replicate m (Zk m))] "table",di "come" [Q7 ow] "letter"]:=⟨_,rfl⟩
  have ctd:∀ x∈du,∀ St:Q3,St[L + 1]?=some (.obj C (hsF i now last))->Ct C (L + 1) St x.1 x.2.1 x.2.2:=fun x hx St hS=>by
    rw [hdu] at hx
    simp only [D5,List.not_mem_nil,or_false] at hx
    rcases hx with rfl | rfl | rfl | rfl | rfl | rfl | rfl | rfl | rfl | rfl | rfl | rfl
    · exact ct_h1 wB cB _
    · exact ct_h1 wB cB _
    · exact ct_h2 w c hwr
    · exact ct_make hS hlt
    · exact ct_of (use_w hS (useX hS (nodeed (low2 (.inr rfl) _ _ hlt)))) (.inl rfl) kDeed
    · exact ct_of (lend_w hS (lendX hS (nodeed ((lend_d _ _ _).trans (by rw [decide_eq_false (by omega)]))))) (.inl rfl) kDeed
    · exact ct_of (lend_w hS (lendX hS (nodeed ((lend_d _ _ _).trans (by rw [decide_eq_false (by omega)]))))) (.inl rfl) kDeed
    · exact ct_of (lend_w hS (lendX hS (nohouse ((lend_d _ _ _).trans (by rw [decide_eq_true (by omega)])) (needh_x wN.len hi _ (.inr rfl))))) (.inl rfl) kHouse
    · exact ct_of (lend_w hS (lendX hS (nohouse ((lend_d _ _ _).trans (by rw [decide_eq_true (by omega)])) (needh_x wN.len hi _ (.inl hwr))))) (.inl rfl) kHouse
    · exact ct_of (use_w hS ((use_ok hS wN (show (Dd.us i mo).ok n from ⟨hi,by omega⟩)).trans (short_own _ rfl (by unfold Dd.fits; rw [show (Dd.us i mo).isM=false from rfl,Bool.false_or]; exact decide_eq_false (show ¬ mo<=Qt now i by omega))))) (.inl rfl) kShort
    · exact ct_of (come_w hS (comeX1 hS (by rw [wN.len,List.length_replicate]; omega))) (.inl rfl) fun _=>if_pos rfl
    · exact ct_of (come_w hS (comeX2 hS wN wO hi rO)) (.inl rfl) kLetter
  obtain ⟨du2,hl2,ctd2,e24⟩:∃ du2:List (Str × List PV × Str),du2.length<=20/\(∀ x∈du2,∀ St:Q3,St[L + 1]?=some (.obj C (hsF i now last))->Ct C (L + 1) St x.1 x.2.1 x.2.2)/\∀ (c3 c4 c6 c7 c8 c9 c10 c12 c13 c15 c16 c17 c18:Option PV),(Yw (toB (mOp (oI fun a b=>.bl (decide (b < a))) (Q5 2) (mC (.int 1)))) (Jc 14 (mOp Js (Q5 14) (mLst (Q2 (Ji (Q2 (mC (.str "lend")) (Q2 (Ji (Q2 (mOp oMod (mOp Js (Q5 5) (mC (.int 1))) (Q5 2)) (Q2 (Q5 11) Q8))) (Q2 (mC (.str "short")) Q8)))) Q8)))) Zi) (rG ns tb n c3 c4 (some (.int i)) c6 c7 c8 c9 c10 (some (.int mo)) c12 c13 (some (.lst (du.map dueV))) c15 c16 c17 c18) S12=.nx (rG ns tb n c3 c4 (some (.int i)) c6 c7 c8 c9 c10 (some (.int mo)) c12 c13 (some (.lst (du2.map dueV))) c15 c16 c17 c18) S12:=by
    by_cases z:1 < n
    · obtain ⟨j,ej,hj,hne⟩:=other_h (n:=n) (i:=i) (y:=0) hi (by omega)
      have ej:((i:Int) + 1) % (n:Int)=(j:Int):=by simpa using ej
      refine ⟨du ++ [di "lend" [.int j,.int mo] "short"],by rw [hdu]; simp,fun x hx St hS=>?_,fun c3 c4 c6 c7 c8 c9 c10 c12 c13 c15 c16 c17 c18=>if_t (Jd (Qj rfl rfl (gti_t S12 (by omega)))) ?_⟩
      · rcases F1.mp hx with hx | hx
        · exact ctd x hx St hS
        · rw [List.mem_singleton.mp hx]
          exact ct_of (lend_w hS ((lend_ok hS wN (show (Dd.ld i j mo).ok n from ⟨hi,hj,hne,by omega⟩)).trans (short_own _ rfl (by unfold Dd.fits; rw [show (Dd.ld i j mo).isM=false from rfl,Bool.false_or]; exact decide_eq_false (show ¬ mo<=Qt now i by omega))))) (.inl rfl) kShort
      · rw [F2]
        exact Je (Qj rfl (bi_lst (ps:=[dueV (di "lend" [.int j,.int mo] "short")]) (Q4 (Xh (Q4 rfl (Q4 (Xh (Q4 (Qj (Qj rfl rfl (addi S12 _ _)) rfl (by rw [modi S12 (by omega),ej])) (Q4 rfl rfl)) (by simp)) (Q4 rfl rfl))) (by simp)) rfl) (by simp)) (by rw [oAdd_lstL,if_pos (by rw [hdu,Jj]; simp)]; rfl))
    · exact ⟨du,by rw [hdu]; simp,ctd,fun _ _ _ _ _ _ _ _ _ _ _ _ _=>K2 (Jd (Qj rfl rfl (gti_f S12 (by omega)))) rfl⟩
  obtain ⟨Γ',S13,e25,x15,x16,x17,rfl,l13,ob13,old13⟩:=forG_inv (g:=dueV) (xs:=du2) (ga:=K3 (Jv (Qp 15) (Jv (Qp 16) (Jv (Qp 17) K4)))) (body:=b_law_2 C) (w:=[]) (Γ:=rG ns tb n (some (.int t)) (some (.ref L)) (some (.int i)) (some (.ref (L + 1))) (some (ahV i n now last)) (some (Q7 B)) (some (.int wr)) (some (.int lt)) (some (.int mo)) (some (Q7 ow)) (some (Q7 (List.replicate m (Zk m)))) (some (.lst (du2.map dueV))) c15 c16 c17 c18) (st:=S12)
    (fun _ Γ st=>∃ x15 x16 x17,Γ=rG ns tb n (some (.int t)) (some (.ref L)) (some (.int i)) (some (.ref (L + 1))) (some (ahV i n now last)) (some (Q7 B)) (some (.int wr)) (some (.int lt)) (some (.int mo)) (some (Q7 ow)) (some (Q7 (List.replicate m (Zk m)))) (some (.lst (du2.map dueV))) x15 x16 x17 c18/\L + 1 < st.length/\st[L + 1]?=some (.obj C (hsF i now last))/\st[L]?=S12[L]?) (fun _ _ _ _=>by simp)
    (fun k x Γ st hk ⟨x15,x16,x17,hΓ,l,ob,old⟩=>by
      subst hΓ
      obtain ⟨St',e,hSt⟩:=ctd2 x (D6 hk) st ob
      have keep:∀ t,t < st.length->St'[t]?=st[t]?:=fun t ht=>by
        rcases hSt with rfl | rfl
        · rfl
        · exact O9 ht
      have ob':St'[L + 1]?=some (.obj C (hsF i now last)):=by rw [keep _ l]; exact ob
      exact ⟨_,rfl,_,_,K2 (or_f (Jd (Qj (Qk (n:=3) (Q4 rfl (Q4 rfl (Q4 rfl rfl))) rfl e) rfl (nes_f St' _))) (Jd (Qj (Qk (n:=1) (Q4 rfl rfl) rfl (atold_ok ob' wN wl hi)) rfl (ne_ah St')))) rfl,_,_,_,rfl,(O1.mp ob').1,ob',by rw [keep _ (by omega)]; exact old⟩)
    ⟨_,_,_,rfl,(O1.mp ob12).1,ob12,rfl⟩
  have T13:Tp S13 L:=by obtain ⟨x,hx⟩:=T12; exact ⟨x,by rw [old13]; exact hx⟩
  obtain ⟨tb2,S14,I2,T14,M14,e26⟩:=atable_ok (n:=n) (m:=7) T13 h1 h8 (by omega)
  have w2:=I2.w
  have ob14:S14[L + 1]?=some (.obj C (hsF i now last)):=by rw [M14.keep _ (by omega)]; exact ob13
  have wR:Wt' n (tb2.set i (tb.getD i [])):=by
    refine ⟨by rw [F4]; exact w2.len,fun r hr=>?_,fun r hr=>?_,h1,h8⟩
    · rcases List.mem_or_eq_of_mem_set hr with h | h
      · exact w2.row r h
      · rw [h]; exact (w.sz.row hi).2
    · rcases List.mem_or_eq_of_mem_set hr with h | h
      · exact w2.nn r h
      · rw [h]; exact w.nn _ (D6 (w.sz.row hi).1)
  have gR:(tb2.set i (tb.getD i [])).getD i []=tb.getD i []:=by rw [getD_set' (by rw [w2.len]; exact hi),if_pos rfl]
  have rR:rowLe ((tb2.set i (tb.getD i [])).getD i []) (now.getD i [])=true:=by rw [gR]; exact (rowLe_iff w.sz wN.sz hi).mpr leN
  have g2:Q7 (tb2.set i (tb.getD i []))=.tup ((tb2.take i).map Qq ++ [Qq (tb.getD i [])] ++ (tb2.drop (i + 1)).map Qq):=by
    unfold Q7
    rw [<- set_cut _ _ _ (by rw [w2.len]; exact hi),F2,F2]; rfl
  have c5':cut (tb2.map Qq) none (some (i:Int))=(tb2.take i).map Qq:=by rw [Us,cut_front]
  have c6':cut (tb2.map Qq) (some ((i:Int) + 1)) none=(tb2.drop (i + 1)).map Qq:=by rw [Us]; exact congrArg _ (cut_back _ (i + 1))
  have l5:((tb2.take i).map Qq).length<=8:=by rw [O2,List.length_take,w2.len]; omega
  have l6:((tb2.drop (i + 1)).map Qq).length<=8:=by rw [O2,List.length_drop,w2.len]; omega
  have eo:∀ (c3 c4 c6 c7 c8 c9 c10 c11 c12 c13 c14 c15 c16 c17:Option PV),Jc 18 (mOp Js (mOp Js (mSl (Q5 18) Ze (Yv (Q5 5))) (Ji (Q2 (mOp oIx (Q5 1) (Q5 5)) Q8))) (mSl (Q5 18) (Yv (mOp Js (Q5 5) (mC (.int 1)))) Ze)) (rG ns tb n c3 c4 (some (.int i)) c6 c7 c8 c9 c10 c11 c12 c13 c14 c15 c16 c17 (some (Q7 tb2))) S14=.nx (rG ns tb n c3 c4 (some (.int i)) c6 c7 c8 c9 c10 c11 c12 c13 c14 c15 c16 c17 (some (Q7 (tb2.set i (tb.getD i []))))) S14:=fun c3 c4 c6 c7 c8 c9 c10 c11 c12 c13 c14 c15 c16 c17=>by
    obtain ⟨G,hG⟩:∃ G,rG ns tb n c3 c4 (some (.int i)) c6 c7 c8 c9 c10 c11 c12 c13 c14 c15 c16 c17 (some (Q7 tb2))=G:=⟨_,rfl⟩
    have v18:Q5 18 G S14=.ok (Q7 tb2) S14:=by rw [<- hG]; rfl
    have v5:Q5 5 G S14=.ok (.int i) S14:=by rw [<- hG]; rfl
    have v1:Q5 1 G S14=.ok (Q7 tb) S14:=by rw [<- hG]; rfl
    have a1:mSl (Q5 18) Ze (Yv (Q5 5)) G S14=.ok (.tup ((tb2.take i).map Qq)) S14:=by
      rw [mSl_eq,v18,J5,show Ze G S14=.ok none S14 from rfl,J5,show Yv (Q5 5) G S14=.ok (some (i:Int)) S14 by unfold Yv; rw [v5]; rfl,J5]
      unfold Q7
      rw [Up,c5']
    have a4:mSl (Q5 18) (Yv (mOp Js (Q5 5) (mC (.int 1)))) Ze G S14=.ok (.tup ((tb2.drop (i + 1)).map Qq)) S14:=by
      rw [mSl_eq,v18,J5,show Yv (mOp Js (Q5 5) (mC (.int 1))) G S14=.ok (some ((i:Int) + 1)) S14 by unfold Yv; rw [Qj v5 rfl (addi S14 _ _)]; rfl,J5,show Ze G S14=.ok none S14 from rfl,J5]
      unfold Q7
      rw [Up,c6']
    have at_:∀ a b:List PV,a.length + b.length<=100->Js S14 (.tup a) (.tup b)=.ok (.tup (a ++ b)) S14:=fun a b h=>by
      have:Js S14 (.tup a) (.tup b)=if a.length + b.length<=lim then .ok (.tup (a ++ b)) S14 else .stuck:=rfl
      rw [this,if_pos (by rw [Jj]; omega)]
    have st:=Je (i:=18) (Qj (Qj a1 (Xh (Q4 (Qj v1 v5 (V1 w.sz hi (Nat.zero_le n) S14).1) (show Q8 G S14=.ok [] S14 from rfl)) (by simp)) (at_ _ [Qq (tb.getD i [])] (by simp only [D7,List.length_nil]; omega))) a4 (at_ _ _ (by rw [D9]; simp only [D7,List.length_nil]; omega)))
    rw [<- g2] at st
    rw [<- hG] at st
    exact st
  have e27:=come_ok ob14 wN wR hi rR
  obtain ⟨S15,hS15⟩:∃ S15,S14.set (L + 1) (.obj C (hsF i (Vd now (tb2.set i (tb.getD i []))) last))=S15:=⟨_,rfl⟩
  rw [hS15] at e27
  have ob15:S15[L + 1]?=some (.obj C (hsF i (Vd now (tb2.set i (tb.getD i []))) last)):=by rw [<- hS15]; exact E8 (O1.mp ob14).1
  have e28:=table_ok ob15
  have ej:=ajoined_ok (a:=now) (b:=tb2.set i (tb.getD i [])) (by rw [wN.len,wR.len]) (by rw [wN.len]; omega) (fun q hq=>by rw [wN.row q hq]; omega) S15
  have ed:∀ (c3 c4 c6 c7 c14 c15 c16 c17 c18:Option PV) (X:MS) (r:SR),X (rG ns tb n c3 c4 (some (.int i)) c6 c7 (some (Q7 B)) (some (.int wr)) (some (.int lt)) (some (.int mo)) (some (Q7 ow)) (some (Q7 (List.replicate m (Zk m)))) (some (.lst (du.map dueV))) c15 c16 c17 c18) S12=r->(Qm (Jc 14 (mLst (Q2 (Ji (Q2 (mC (.str "house")) (Q2 (Ji (Q2 (Q5 5) (Q2 (Q5 8) Q8))) (Q2 (mC (.str "table")) Q8)))) (Q2 (Ji (Q2 (mC (.str "house")) (Q2 (Ji (Q2 (Q5 9) (Q2 (Q5 8) Q8))) (Q2 (mC (.str "table")) Q8)))) (Q2 (Ji (Q2 (mC (.str "house")) (Q2 (Ji (Q2 (Q5 9) (Q2 (Q5 1) Q8))) (Q2 (mC (.str "house")) Q8)))) Q8)))))
    (Qm (Jc 14 (mOp Js (Q5 14) (mLst (Q2 (Ji (Q2 (mC (.str "make")) (Q2 (Ji (Q2 (Q5 10) Q8)) (Q2 (mC (.str "deed")) Q8)))) (Q2 (Ji (Q2 (mC (.str "use")) (Q2 (Ji (Q2 (Q5 10) Q8)) (Q2 (mC (.str "deed")) Q8)))) (Q2 (Ji (Q2 (mC (.str "lend")) (Q2 (Ji (Q2 (Q5 5) (Q2 (Q5 10) Q8))) (Q2 (mC (.str "deed")) Q8)))) Q8))))))
    (Qm (Jc 14 (mOp Js (Q5 14) (mLst (Q2 (Ji (Q2 (mC (.str "lend")) (Q2 (Ji (Q2 (Q5 9) (Q2 (Q5 10) Q8))) (Q2 (mC (.str "deed")) Q8)))) (Q2 (Ji (Q2 (mC (.str "lend")) (Q2 (Ji (Q2 (Q5 5) (Q2 (Q5 11) Q8))) (Q2 (mC (.str "house")) Q8)))) (Q2 (Ji (Q2 (mC (.str "lend")) (Q2 (Ji (Q2 (Q5 9) (Q2 (mC (.int 1)) Q8))) (Q2 (mC (.str "house")) Q8)))) Q8))))))
    (Qm (Jc 14 (mOp Js (Q5 14) (mLst (Q2 (Ji (Q2 (mC (.str "use")) (Q2 (Ji (Q2 (Q5 11) Q8)) (Q2 (mC (.str "short")) Q8)))) (Q2 (Ji (Q2 (mC (.str "come")) (Q2 (Ji (Q2 (Q5 13) Q8)) (Q2 (mC (.str "table")) Q8)))) (Q2 (Ji (Q2 (mC (.str "come")) (Q2 (Ji (Q2 (Q5 12) Q8)) (Q2 (mC (.str "letter")) Q8)))) Q8)))))) X)))) (rG ns tb n c3 c4 (some (.int i)) c6 c7 (some (Q7 B)) (some (.int wr)) (some (.int lt)) (some (.int mo)) (some (Q7 ow)) (some (Q7 (List.replicate m (Zk m)))) c14 c15 c16 c17 c18) S12=r:=fun c3 c4 c6 c7 c14 c15 c16 c17 c18 X r hX=>by
    rw [hdu] at hX
    exact Qr (Je rfl) (Qr (Je rfl) (Qr (Je rfl) (Qr (Je rfl) hX)))
  refine ⟨some (.ref L),some (.int i),some (.ref (L + 1)),some (ahV i n now last),some (Q7 B),some (.int wr),some (.int lt),some (.int mo),some (Q7 ow),some (Q7 (List.replicate m (Zk m))),some (.lst (du2.map dueV)),x15,x16,x17,some (Q7 (tb2.set i (tb.getD i []))),S15,?_⟩
  refine Qr (Γ1:=rG ns tb n (some (.int t)) (some (.ref L)) c5 c6 c7 c8 c9 c10 c11 c12 c13 c14 c15 c16 c17 c18) (Je (Qk (n:=2) (Q4 rfl (Q4 rfl rfl)) rfl e4)) ?_
  refine Qr (Γ1:=rG ns tb n (some (.int t)) (some (.ref L)) (some (.int i)) c6 c7 c8 c9 c10 c11 c12 c13 c14 c15 c16 c17 c18) (Je (Qk (n:=2) (Q4 rfl (Q4 rfl rfl)) rfl e5)) ?_
  refine Qr (Γ1:=rG ns tb n (some (.int t)) (some (.ref L)) (some (.int i)) (some (.ref (L + 1))) c7 c8 c9 c10 c11 c12 c13 c14 c15 c16 c17 c18) (Je (e6' _ rfl rfl)) ?_
  refine Qr (exp_ok ((meth_ok (i:=L + 1) rfl ob3 (hx _ _ _ (by decide +kernel) (by decide +kernel) (by decide +kernel)) (Q4 (Qj rfl (Qk (n:=2) (Q4 rfl (Q4 rfl rfl)) rfl e7) (addi S4 _ _)) rfl) rfl).trans e8)) ?_
  refine Qr (e10 _ rfl rfl) ?_
  refine Qr (Γ1:=rG ns tb n (some (.int t)) (some (.ref L)) (some (.int i)) (some (.ref (L + 1))) (some (ahV i n now last)) c8 c9 c10 c11 c12 c13 c14 c15 c16 c17 c18) (Je (Qk (n:=1) (Q4 rfl rfl) rfl e11)) ?_
  refine Qr (Γ1:=rG ns tb n (some (.int t)) (some (.ref L)) (some (.int i)) (some (.ref (L + 1))) (some (ahV i n now last)) (some (Q7 B)) c9 c10 c11 c12 c13 c14 c15 c16 c17 c18) (Je (Qk (n:=2) (Q4 rfl (Q4 rfl rfl)) rfl e12)) ?_
  refine Qr (Γ1:=rG ns tb n (some (.int t)) (some (.ref L)) (some (.int i)) (some (.ref (L + 1))) (some (ahV i n now last)) (some (Q7 B)) (some (.int wr)) c10 c11 c12 c13 c14 c15 c16 c17 c18) (Je (Qj (bi_lst (ps:=[.int n,.int (-1),.int ((n:Int) + 3),.int (10 ^ 29)]) (Q4 rfl (Q4 rfl (Q4 (Qj rfl rfl (addi S8 _ _)) (Q4 rfl rfl)))) (by simp)) (Qk (n:=2) (Q4 rfl (Q4 rfl rfl)) rfl e13) e14)) ?_
  refine Qr (Γ1:=rG ns tb n (some (.int t)) (some (.ref L)) (some (.int i)) (some (.ref (L + 1))) (some (ahV i n now last)) (some (Q7 B)) (some (.int wr)) (some (.int lt)) c11 c12 c13 c14 c15 c16 c17 c18) (Je (Qj (bi_lst (ps:=[.int 0,.int (-1),.int (-10 ^ 20)]) (Q4 rfl (Q4 rfl (Q4 rfl rfl))) (by simp)) (Qk (n:=2) (Q4 rfl (Q4 rfl rfl)) rfl e15) e16)) ?_
  refine Qr (Γ1:=rG ns tb n (some (.int t)) (some (.ref L)) (some (.int i)) (some (.ref (L + 1))) (some (ahV i n now last)) (some (Q7 B)) (some (.int wr)) (some (.int lt)) (some (.int mo)) c12 c13 c14 c15 c16 c17 c18) (Je (Qj (Qj (m0_ok rfl ob10 (hx _ _ _ (by decide +kernel) (by decide +kernel) (by decide +kernel)) e17) rfl (addi S10 _ _)) (Qk (n:=2) (Q4 rfl (Q4 rfl rfl)) rfl e18) ((addi S11 _ _).trans (by rw [hmo])))) ?_
  refine Qr (Γ1:=rG ns tb n (some (.int t)) (some (.ref L)) (some (.int i)) (some (.ref (L + 1))) (some (ahV i n now last)) (some (Q7 B)) (some (.int wr)) (some (.int lt)) (some (.int mo)) (some (Q7 ow)) c13 c14 c15 c16 c17 c18) (Je (Qk (n:=4) (Q4 (m0_ok rfl ob11 (hx _ _ _ (by decide +kernel) (by decide +kernel) (by decide +kernel)) e19) (Q4 rfl (Q4 (Qk (n:=2) (Q4 rfl (Q4 (Qj rfl rfl (addi S11 _ _)) rfl)) rfl e20) (Q4 rfl rfl)))) rfl e21)) ?_
  refine Qr (Γ1:=rG ns tb n (some (.int t)) (some (.ref L)) (some (.int i)) (some (.ref (L + 1))) (some (ahV i n now last)) (some (Q7 B)) (some (.int wr)) (some (.int lt)) (some (.int mo)) (some (Q7 ow)) (some (Q7 (List.replicate m (Zk m)))) c14 c15 c16 c17 c18) (Je (Qk (n:=1) (Q4 (e22 _ rfl) rfl) rfl e23)) ?_
  refine ed _ _ _ _ _ _ _ _ _ _ _ (Qr (e24 _ _ _ _ _ _ _ _ _ _ _ _ _) (Qr (for_ok (sq_ok (p:=.lst (du2.map dueV)) rfl rfl (by rw [O2]; omega)) e25) ?_))
  refine Qr (Γ1:=rG ns tb n (some (.int t)) (some (.ref L)) (some (.int i)) (some (.ref (L + 1))) (some (ahV i n now last)) (some (Q7 B)) (some (.int wr)) (some (.int lt)) (some (.int mo)) (some (Q7 ow)) (some (Q7 (List.replicate m (Zk m)))) (some (.lst (du2.map dueV))) x15 x16 x17 (some (Q7 tb2))) (Je (Qk (n:=3) (Q4 rfl (Q4 rfl (Q4 rfl rfl))) rfl e26)) ?_
  refine Qr (eo _ _ _ _ _ _ _ _ _ _ _ _ _ _) ?_
  refine Qr (exp_ok ((meth_ok (i:=L + 1) rfl ob14 (hx _ _ _ (by decide +kernel) (by decide +kernel) (by decide +kernel)) (Q4 rfl rfl) rfl).trans e27)) ?_
  exact K2 (Jd (Qj (m0_ok rfl ob15 (hx _ _ _ (by decide +kernel) (by decide +kernel) (by decide +kernel)) e28) (Qk (n:=2) (Q4 (Qj rfl rfl rfl) (Q4 rfl rfl)) rfl ej) (ne_tab S15 _))) rfl
theorem law_all (C:Addr):∀ ns:List Int,ns.length<=63->∃ st',F_law C [.fro (ns.map .int)] []=.ok (.bl true) st':=by
  intro ns hns
  obtain ⟨n,tb,hn,I0,e1⟩:=abegun_ok ns
  have w:=I0.w
  have lt:Yh [] [Q7 tb]=.ok (.int n) []:=by simp [Q7,w.len]
  obtain ⟨m,hm,em⟩:∃ m:Nat,m<=11/\(if (if (ns.length:Int) < 12 then (ns.length:Int) else 12) > 4 then (if (ns.length:Int) < 12 then (ns.length:Int) else 12) else 4)=(1:Int) + (m:Int):=by
    refine ⟨((if (if (ns.length:Int) < 12 then (ns.length:Int) else 12) > 4 then (if (ns.length:Int) < 12 then (ns.length:Int) else 12) else 4) - 1).toNat,?_,?_⟩ <;> split <;> split <;> omega
  obtain ⟨Γ',S',f,c3,c4,c5,c6,c7,c8,c9,c10,c11,c12,c13,c14,c15,c16,c17,c18,rfl⟩:=forG_inv (g:=fun k:Nat=>PV.int (1 + (k:Int))) (xs:=List.range m) (ga:=Qp 3) (body:=b_law_1 C) (w:=[]) (Γ:=rG ns tb n none none none none none none none none none none none none none none none none) (st:=[])
    (fun _ Γ _=>∃ c3 c4 c5 c6 c7 c8 c9 c10 c11 c12 c13 c14 c15 c16 c17 c18,Γ=rG ns tb n c3 c4 c5 c6 c7 c8 c9 c10 c11 c12 c13 c14 c15 c16 c17 c18) (fun _ _ _ _=>by simp)
    (fun k x Γ st hx ⟨c3,c4,c5,c6,c7,c8,c9,c10,c11,c12,c13,c14,c15,c16,c17,c18,hΓ⟩=>by
      subst hΓ
      obtain ⟨d4,d5,d6,d7,d8,d9,d10,d11,d12,d13,d14,d15,d16,d17,d18,S',e⟩:=turn16 (C:=C) w I0.c ns (1 + x) st c4 c5 c6 c7 c8 c9 c10 c11 c12 c13 c14 c15 c16 c17 c18
      rw [show (((1 + x:Nat):Int))=1 + (x:Int) by omega] at e
      exact ⟨_,rfl,_,_,e,_,_,_,_,_,_,_,_,_,_,_,_,_,_,_,_,rfl⟩)
    ⟨_,_,_,_,_,_,_,_,_,_,_,_,_,_,_,_,rfl⟩
  have hr:((List.range m).map fun k:Nat=>PV.int (1 + (k:Int)))=Z5 1 m:=rfl
  rw [hr] at f
  have emin:cMin [] [.int 12,.int (ns.length:Int)]=.ok (.int (if (ns.length:Int) < 12 then (ns.length:Int) else 12)) []:=cMin_int _ _ _
  have emax:cMax [] [.int 4,.int (if (ns.length:Int) < 12 then (ns.length:Int) else 12)]=.ok (.int (1 + (m:Int))) []:=by rw [cMax_int,em]
  have ln:Yh [] [.fro (ns.map .int)]=.ok (.int ns.length) []:=by simp
  have hrg:mRange2 (Q2 (mC (.int 1)) (Q2 (Ja cMax (Q2 (mC (.int 4)) (Q2 (Ja cMin (Q2 (mC (.int 12)) (Q2 (Ja Yh (Q2 (Q5 0) Q8)) Q8))) Q8))) Q8)) (rG ns tb n none none none none none none none none none none none none none none none none) []=.ok (Z5 1 m,[]) []:=by
    rw [mRange2_eq,Q4 (m:=mC (.int 1)) (p:=.int 1) rfl (Q4 (U3 (Q4 rfl (Q4 (U3 (Q4 rfl (Q4 (U3 (Q4 rfl rfl) ln) rfl)) emin) rfl)) emax) (show Q8 _ _=.ok [] _ from rfl)),J5]
    show (if -(lim:Int)<=1/\1<=(lim:Int)/\-(lim:Int)<=1 + (m:Int)/\1 + (m:Int)<=lim then _ else _)=_
    rw [if_pos (by rw [Jj]; omega),show (1 + (m:Int) - 1).toNat=m by omega]
  have step:m_law C [some (.fro (ns.map .int)),none,none,none,none,none,none,none,none,none,none,none,none,none,none,none,none,none,none] []=.rt (.bl true) S':=Qr (Γ1:=[some (.fro (ns.map .int)),some (Q7 tb),none,none,none,none,none,none,none,none,none,none,none,none,none,none,none,none,none]) (Je (Qk (n:=1) (Q4 rfl rfl) rfl e1)) (Qr (Γ1:=rG ns tb n none none none none none none none none none none none none none none none none) (Je (U3 (Q4 rfl rfl) lt)) (Qr (for_ok hrg f) rfl))
  exact ⟨[],(Zz step).trans (fin_goodA (st:=[]) (more:=S') rfl)⟩
end Lw
namespace Lw
open PySem PySem.Spec L2 Sm
theorem all_mk {l:PySem.W.OpenLaw} {w:World} {K:PySem.W.Frag} {h:Heap} {mg:Str->Option Value} {fa f1 f2 f3 f4 f5 f6 f7 f8 f9 f10 f11 f12 f13 f14 f15 f16 f17 f18 f19 f20 f21 f22 f23 f24 f25 f26 f27 f28 f29 f30 f31 f32 f33 f34 f35 f36 f37 f38 f39 f40 f41 f42 f43 f44 f45 f46 f47 f48 f49 f50 f51 f52:Addr} (X:K.In h) (G:h.Ns mainGlobals mg) (hfa:mg "law" = some (.ref fa))
    {od52 an52:Option Addr} {sl52:Array (Option Value)} {oc52 kV52 dc52 pm52 cd52 ct52:Value}
    {e_NoDeed e_NoHouse e_NoLetter e_NoTable:Addr}
    {eH:Addr}
    {t_MOST_HOUSES:Tok}
    {eW eS fI pd xN:Addr} {xnm xqn:Str} {xbs xsub:List Value} {xsn:List Str} {xab:Bool} {xcol:Option Bool} {xdd odI anI:Option Addr} {xk0 xk1 xk2 xk3 xk5:Option Value} {slI:Array (Option Value)} {kVI dcI pmI cdI ctI:Value} {pt1 pt2 pt3 pu1 pu2 pu3:Tok} {pep:Nat} {cdx:ClassData} {ee0 ee1 ee2 ee3 ee4 ee5 ee6 ee7 ee8 ee9 ee10 ee11 ee12 ee13 ee14:Addr} {cdx1 cdx2 cdx3 cdx4 cdx14:ClassData}
    (aH:PySem.W.nsIn K mainGlobals "House" = some (some (.ref eH)))
    (Hpg:PySem.W.plainGet K eH Str.empty=true)
    (Hhd:PySem.W.hasDictIn K eH=true)
    (Hpo:PySem.W.plainOver K eH=true)
    (Hsa:PySem.W.findIn K (.ref eH) "__setattr__" = some (some (.builtin "object.__setattr__")))
    (Hmk:PySem.W.makesIn K eH=true)
    (Hkc:PySem.W.keepIn K (.ref eH)=true)
    (Hn_number:PySem.W.findIn K (.ref eH) "number" = some none)
    (Hn_now:PySem.W.findIn K (.ref eH) "now" = some none)
    (Hn_kept:PySem.W.findIn K (.ref eH) "kept" = some none)
    (a52:PySem.W.nsIn K mainGlobals "law" = some (some (.ref f52)))
    (l52:K.lookup f52=some ⟨oc52,od52,.func (PySem.W.fnOf "law" "law" (Y8 s_law) (Jz s_law) (Q9 s_law) .none kV52 dc52 pm52 an52 cd52 ct52),sl52⟩)
    (c52:PySem.W.codeIn K cd52 "law" = true)
    (k52:PySem.W.keepIn K (.ref f52)=true)
    (al_rights_tables:PySem.W.nsIn K mainGlobals "rights_tables" = some (some (.ref f7)))
    (z_all:PySem.W.nsIn K mainGlobals "all" = some none)
    (z_any:PySem.W.nsIn K mainGlobals "any" = some none)
    (z_bool:PySem.W.nsIn K mainGlobals "bool" = some none)
    (z_int:PySem.W.nsIn K mainGlobals "int" = some none)
    (z_isinstance:PySem.W.nsIn K mainGlobals "isinstance" = some none)
    (z_len:PySem.W.nsIn K mainGlobals "len" = some none)
    (z_max:PySem.W.nsIn K mainGlobals "max" = some none)
    (z_min:PySem.W.nsIn K mainGlobals "min" = some none)
    (z_range:PySem.W.nsIn K mainGlobals "range" = some none)
    (z_str:PySem.W.nsIn K mainGlobals "str" = some none)
    (z_sum:PySem.W.nsIn K mainGlobals "sum" = some none)
    (z_tuple:PySem.W.nsIn K mainGlobals "tuple" = some none)
    (z_zip:PySem.W.nsIn K mainGlobals "zip" = some none)
    (v_MOST_HOUSES:PySem.W.nsIn K mainGlobals "MOST_HOUSES" = some (some (.int 8 t_MOST_HOUSES)))
    (n_NoDeed:PySem.W.nsIn K mainGlobals "NoDeed" = some (some (.ref e_NoDeed)))
    (n_NoHouse:PySem.W.nsIn K mainGlobals "NoHouse" = some (some (.ref e_NoHouse)))
    (n_NoLetter:PySem.W.nsIn K mainGlobals "NoLetter" = some (some (.ref e_NoLetter)))
    (n_NoTable:PySem.W.nsIn K mainGlobals "NoTable" = some (some (.ref e_NoTable)))
    (nW:PySem.W.nsIn K mainGlobals "WharfError" = some (some (.ref eW)))
    (nS:PySem.W.nsIn K mainGlobals "Short" = some (some (.ref eS)))
    (xlk:K.lookup eS=some (excClassObj xnm xqn eS xN xbs (.ref eW :: Ua) true xsn xsub xab xcol xdd xk0 xk1 xk2 xk3 xk5 "ValueError.__new__"))
    (xfi:PySem.W.findIn K (.ref eS) "__init__" = some (some (.ref fI)))
    (li:K.lookup fI=some ⟨.type "function",odI,.func (PySem.W.fnOf "__init__" "Short.__init__" (Y8 sInit) (Jz sInit) (Q9 sInit) .none kVI dcI pmI anI cdI ctI),slI⟩)
    (ci:PySem.W.codeIn K cdI "Short.__init__" = true)
    (ki:PySem.W.keepIn K (.ref fI)=true)
    (xkp:PySem.W.keepIn K (.ref eS)=true)
    (xcga:PySem.W.specialIn K (.ref eW) "__getattribute__" = some (some (.builtin "type.__getattribute__")))
    (xcrd:PySem.W.readsIn K eW (.type "type")=true)
    (xcfc:PySem.W.findCls K (.ref eW) (.type "type") "__init__" = some (.val (.builtin "ValueError.__init__")))
    (xsa:PySem.W.findIn K (.ref eS) "__setattr__" = some (some (.builtin "object.__setattr__")))
    (xno:PySem.W.findIn K (.ref eS) "had" = some none)
    (xob:PySem.W.mroIn K eS (.type "object")=some true)
    (pns:PySem.W.nsIn K mainGlobals "PARTS_OF_DEED" = some (some (.ref pd)))
    (plk:K.lookup pd=some ⟨.type "dict",none,.dict #[⟨PyData.keyHash w.params "make",.str "make" pt1,.int 3 pu1⟩,⟨PyData.keyHash w.params "lend",.str "lend" pt2,.int 4 pu2⟩,⟨PyData.keyHash w.params "use",.str "use" pt3,.int 3 pu3⟩] pep,#[]⟩)
    (xcls:PySem.W.clsIn K eS=some cdx)
    (xga:PySem.W.findIn K (.ref eS) "__getattribute__" = some (some (.builtin "BaseException.__getattribute__")))
    (xgt:PySem.W.findIn K (.ref eS) "__getattr__" = some none)
    (xcl:PySem.W.findIn K (.ref eS) "__class__" = some (some (.builtin "object.__class__")))
    (xgs:PySem.W.specialIn K (.builtin "object.__class__") "__get__" = some (some (.builtin "getset_descriptor.__get__")))
    (xtk:PySem.W.takesIn K (.builtin "object.__class__")=some true)
    (xbe:PySem.W.mroIn K eS (.type "BaseException")=some true)
    (nn0:PySem.W.nsIn K mainGlobals "WharfError" = some (some (.ref ee0)))
    (nn1:PySem.W.nsIn K mainGlobals "NoTable" = some (some (.ref ee1)))
    (nn2:PySem.W.nsIn K mainGlobals "NoHouse" = some (some (.ref ee2)))
    (nn3:PySem.W.nsIn K mainGlobals "NoDeed" = some (some (.ref ee3)))
    (nn4:PySem.W.nsIn K mainGlobals "NoLetter" = some (some (.ref ee4)))
    (nn5:PySem.W.nsIn K mainGlobals "NoStand" = some (some (.ref ee5)))
    (nn6:PySem.W.nsIn K mainGlobals "NoRoad" = some (some (.ref ee6)))
    (nn7:PySem.W.nsIn K mainGlobals "NoPlan" = some (some (.ref ee7)))
    (nn8:PySem.W.nsIn K mainGlobals "NoBook" = some (some (.ref ee8)))
    (nn9:PySem.W.nsIn K mainGlobals "NoManner" = some (some (.ref ee9)))
    (nn10:PySem.W.nsIn K mainGlobals "TooMany" = some (some (.ref ee10)))
    (nn11:PySem.W.nsIn K mainGlobals "NoText" = some (some (.ref ee11)))
    (nn12:PySem.W.nsIn K mainGlobals "NoRow" = some (some (.ref ee12)))
    (nn13:PySem.W.nsIn K mainGlobals "NoName" = some (some (.ref ee13)))
    (nn14:PySem.W.nsIn K mainGlobals "Short" = some (some (.ref ee14)))
    (nzValueError:PySem.W.nsIn K mainGlobals "ValueError" = some none)
    (nzisinstance:PySem.W.nsIn K mainGlobals "isinstance" = some none)
    (xcls1:PySem.W.clsIn K ee1=some cdx1)
    (xga1:PySem.W.findIn K (.ref ee1) "__getattribute__" = some (some (.builtin "BaseException.__getattribute__")))
    (xgt1:PySem.W.findIn K (.ref ee1) "__getattr__" = some none)
    (xcl1:PySem.W.findIn K (.ref ee1) "__class__" = some (some (.builtin "object.__class__")))
    (xob1:PySem.W.mroIn K ee1 (.type "object")=some true)
    (xbe1:PySem.W.mroIn K ee1 (.type "BaseException")=some true)
    (xcls2:PySem.W.clsIn K ee2=some cdx2)
    (xga2:PySem.W.findIn K (.ref ee2) "__getattribute__" = some (some (.builtin "BaseException.__getattribute__")))
    (xgt2:PySem.W.findIn K (.ref ee2) "__getattr__" = some none)
    (xcl2:PySem.W.findIn K (.ref ee2) "__class__" = some (some (.builtin "object.__class__")))
    (xob2:PySem.W.mroIn K ee2 (.type "object")=some true)
    (xbe2:PySem.W.mroIn K ee2 (.type "BaseException")=some true)
    (xcls3:PySem.W.clsIn K ee3=some cdx3)
    (xga3:PySem.W.findIn K (.ref ee3) "__getattribute__" = some (some (.builtin "BaseException.__getattribute__")))
    (xgt3:PySem.W.findIn K (.ref ee3) "__getattr__" = some none)
    (xcl3:PySem.W.findIn K (.ref ee3) "__class__" = some (some (.builtin "object.__class__")))
    (xob3:PySem.W.mroIn K ee3 (.type "object")=some true)
    (xbe3:PySem.W.mroIn K ee3 (.type "BaseException")=some true)
    (xcls4:PySem.W.clsIn K ee4=some cdx4)
    (xga4:PySem.W.findIn K (.ref ee4) "__getattribute__" = some (some (.builtin "BaseException.__getattribute__")))
    (xgt4:PySem.W.findIn K (.ref ee4) "__getattr__" = some none)
    (xcl4:PySem.W.findIn K (.ref ee4) "__class__" = some (some (.builtin "object.__class__")))
    (xob4:PySem.W.mroIn K ee4 (.type "object")=some true)
    (xbe4:PySem.W.mroIn K ee4 (.type "BaseException")=some true)
    (xcls14:PySem.W.clsIn K ee14=some cdx14)
    (xga14:PySem.W.findIn K (.ref ee14) "__getattribute__" = some (some (.builtin "BaseException.__getattribute__")))
    (xgt14:PySem.W.findIn K (.ref ee14) "__getattr__" = some none)
    (xcl14:PySem.W.findIn K (.ref ee14) "__class__" = some (some (.builtin "object.__class__")))
    (xob14:PySem.W.mroIn K ee14 (.type "object")=some true)
    (xbe14:PySem.W.mroIn K ee14 (.type "BaseException")=some true)
    (h27:FM K eH "__init__" "House.__init__" Ue f27)
    (h28:FM K eH "make" "House.make" s_House_make f28)
    (h29:FM K eH "lend" "House.lend" s_House_lend f29)
    (h30:FM K eH "use" "House.use" s_House_use f30)
    (h31:FM K eH "keep" "House.keep" s_House_keep f31)
    (h32:FM K eH "fall" "House.fall" s_House_fall f32)
    (h33:FM K eH "letter" "House.letter" Xt f33)
    (h34:FM K eH "come" "House.come" s_House_come f34)
    (h35:FM K eH "table" "House.table" s_House_table f35)
    (h36:FM K eH "rights" "House.rights" Xs f36)
    (h37:FM K eH "used" "House.used" s_House_used f37)
    (h1:FA K "_wall" s__wall f1)
    (h2:FA K "is_whole" s_is_whole f2)
    (h3:FA K "is_between" s_is_between f3)
    (h4:FA K "is_row" s_is_row f4)
    (h5:FA K "is_table" s_is_table f5)
    (h6:FA K "is_house" s_is_house f6)
    (h7:FA K "rights" s_rights f7)
    (h8:FA K "need_as_many_houses" W1 f8)
    (h9:FA K "is_row_within" X7 f9)
    (h10:FA K "joined_row" s_joined_row f10)
    (h11:FA K "joined" s_joined f11)
    (h12:FA K "is_text_and_numbers" W2 f12)
    (h13:FA K "is_deed" s_is_deed f13)
    (h14:FA K "need_houses_of_deed" Yz f14)
    (h15:FA K "place_in_row" Xm f15)
    (h16:FA K "raised" s_raised f16)
    (h17:FA K "done" s_done f17)
    (h18:FA K "made_some" s_made_some f18)
    (h19:FA K "lent_or_used_some" Wp f19)
    (h20:FA K "was_lent_some" X5 f20)
    (h21:FA K "has_root" s_has_root f21)
    (h22:FA K "rooted_houses" X6 f22)
    (h23:FA K "rootless_houses" Vk f23)
    (h24:FA K "comes_about" s_comes_about f24)
    (h25:FA K "does_come_about" Vm f25)
    (h26:FA K "need_comes_about" V6 f26)
    (h38:FA K "_law_acell" s__law_acell f38)
    (h39:FA K "_law_atape" s__law_atape f39)
    (h40:FA K "_law_adigit" s__law_adigit f40)
    (h41:FA K "_law_arights" Xn f41)
    (h42:FA K "_law_abare" s__law_abare f42)
    (h43:FA K "_law_araised" Xp f43)
    (h44:FA K "_law_amuch" s__law_amuch f44)
    (h45:FA K "_law_atable" s__law_atable f45)
    (h46:FA K "_law_abegun" s__law_abegun f46)
    (h47:FA K "_law_ajoined" Xq f47)
    (h48:FA K "_law_akind" s__law_akind f48)
    (h49:FA K "_law_acaught" Xr f49)
    (h50:FA K "_law_ano_table" Ud f50)
    (h51:FA K "_law_atold" s__law_atold f51)
    (x_NoDeed:PySem.W.excIn K e_NoDeed Ua "ValueError.__new__" = true)
    (x_NoHouse:PySem.W.excIn K e_NoHouse Ua "ValueError.__new__" = true)
    (x_NoLetter:PySem.W.excIn K e_NoLetter Ua "ValueError.__new__" = true)
    (x_NoTable:PySem.W.excIn K e_NoTable Ua "ValueError.__new__" = true)
    (xw:PySem.W.excIn K eW Ua "ValueError.__new__" = true)
    (psm:(pd == sysModules)=false)
    (xve1:PySem.W.kitOne K (.ref ee1) (.type "ValueError")=some true)
    (xw1:PySem.W.kitOne K (.ref ee1) (.ref ee0)=some true)
    (xk1_1:PySem.W.kitOne K (.ref ee1) (.ref ee1)=some true)
    (xk1_2:PySem.W.kitOne K (.ref ee1) (.ref ee2)=some false)
    (xk1_3:PySem.W.kitOne K (.ref ee1) (.ref ee3)=some false)
    (xk1_4:PySem.W.kitOne K (.ref ee1) (.ref ee4)=some false)
    (xk1_5:PySem.W.kitOne K (.ref ee1) (.ref ee5)=some false)
    (xk1_6:PySem.W.kitOne K (.ref ee1) (.ref ee6)=some false)
    (xk1_7:PySem.W.kitOne K (.ref ee1) (.ref ee7)=some false)
    (xk1_8:PySem.W.kitOne K (.ref ee1) (.ref ee8)=some false)
    (xk1_9:PySem.W.kitOne K (.ref ee1) (.ref ee9)=some false)
    (xk1_10:PySem.W.kitOne K (.ref ee1) (.ref ee10)=some false)
    (xk1_11:PySem.W.kitOne K (.ref ee1) (.ref ee11)=some false)
    (xk1_12:PySem.W.kitOne K (.ref ee1) (.ref ee12)=some false)
    (xk1_13:PySem.W.kitOne K (.ref ee1) (.ref ee13)=some false)
    (xk1_14:PySem.W.kitOne K (.ref ee1) (.ref ee14)=some false)
    (xve2:PySem.W.kitOne K (.ref ee2) (.type "ValueError")=some true)
    (xw2:PySem.W.kitOne K (.ref ee2) (.ref ee0)=some true)
    (xk2_1:PySem.W.kitOne K (.ref ee2) (.ref ee1)=some false)
    (xk2_2:PySem.W.kitOne K (.ref ee2) (.ref ee2)=some true)
    (xk2_3:PySem.W.kitOne K (.ref ee2) (.ref ee3)=some false)
    (xk2_4:PySem.W.kitOne K (.ref ee2) (.ref ee4)=some false)
    (xk2_5:PySem.W.kitOne K (.ref ee2) (.ref ee5)=some false)
    (xk2_6:PySem.W.kitOne K (.ref ee2) (.ref ee6)=some false)
    (xk2_7:PySem.W.kitOne K (.ref ee2) (.ref ee7)=some false)
    (xk2_8:PySem.W.kitOne K (.ref ee2) (.ref ee8)=some false)
    (xk2_9:PySem.W.kitOne K (.ref ee2) (.ref ee9)=some false)
    (xk2_10:PySem.W.kitOne K (.ref ee2) (.ref ee10)=some false)
    (xk2_11:PySem.W.kitOne K (.ref ee2) (.ref ee11)=some false)
    (xk2_12:PySem.W.kitOne K (.ref ee2) (.ref ee12)=some false)
    (xk2_13:PySem.W.kitOne K (.ref ee2) (.ref ee13)=some false)
    (xk2_14:PySem.W.kitOne K (.ref ee2) (.ref ee14)=some false)
    (xve3:PySem.W.kitOne K (.ref ee3) (.type "ValueError")=some true)
    (xw3:PySem.W.kitOne K (.ref ee3) (.ref ee0)=some true)
    (xk3_1:PySem.W.kitOne K (.ref ee3) (.ref ee1)=some false)
    (xk3_2:PySem.W.kitOne K (.ref ee3) (.ref ee2)=some false)
    (xk3_3:PySem.W.kitOne K (.ref ee3) (.ref ee3)=some true)
    (xk3_4:PySem.W.kitOne K (.ref ee3) (.ref ee4)=some false)
    (xk3_5:PySem.W.kitOne K (.ref ee3) (.ref ee5)=some false)
    (xk3_6:PySem.W.kitOne K (.ref ee3) (.ref ee6)=some false)
    (xk3_7:PySem.W.kitOne K (.ref ee3) (.ref ee7)=some false)
    (xk3_8:PySem.W.kitOne K (.ref ee3) (.ref ee8)=some false)
    (xk3_9:PySem.W.kitOne K (.ref ee3) (.ref ee9)=some false)
    (xk3_10:PySem.W.kitOne K (.ref ee3) (.ref ee10)=some false)
    (xk3_11:PySem.W.kitOne K (.ref ee3) (.ref ee11)=some false)
    (xk3_12:PySem.W.kitOne K (.ref ee3) (.ref ee12)=some false)
    (xk3_13:PySem.W.kitOne K (.ref ee3) (.ref ee13)=some false)
    (xk3_14:PySem.W.kitOne K (.ref ee3) (.ref ee14)=some false)
    (xve4:PySem.W.kitOne K (.ref ee4) (.type "ValueError")=some true)
    (xw4:PySem.W.kitOne K (.ref ee4) (.ref ee0)=some true)
    (xk4_1:PySem.W.kitOne K (.ref ee4) (.ref ee1)=some false)
    (xk4_2:PySem.W.kitOne K (.ref ee4) (.ref ee2)=some false)
    (xk4_3:PySem.W.kitOne K (.ref ee4) (.ref ee3)=some false)
    (xk4_4:PySem.W.kitOne K (.ref ee4) (.ref ee4)=some true)
    (xk4_5:PySem.W.kitOne K (.ref ee4) (.ref ee5)=some false)
    (xk4_6:PySem.W.kitOne K (.ref ee4) (.ref ee6)=some false)
    (xk4_7:PySem.W.kitOne K (.ref ee4) (.ref ee7)=some false)
    (xk4_8:PySem.W.kitOne K (.ref ee4) (.ref ee8)=some false)
    (xk4_9:PySem.W.kitOne K (.ref ee4) (.ref ee9)=some false)
    (xk4_10:PySem.W.kitOne K (.ref ee4) (.ref ee10)=some false)
    (xk4_11:PySem.W.kitOne K (.ref ee4) (.ref ee11)=some false)
    (xk4_12:PySem.W.kitOne K (.ref ee4) (.ref ee12)=some false)
    (xk4_13:PySem.W.kitOne K (.ref ee4) (.ref ee13)=some false)
    (xk4_14:PySem.W.kitOne K (.ref ee4) (.ref ee14)=some false)
    (xve14:PySem.W.kitOne K (.ref ee14) (.type "ValueError")=some true)
    (xw14:PySem.W.kitOne K (.ref ee14) (.ref ee0)=some true)
    (xk14_1:PySem.W.kitOne K (.ref ee14) (.ref ee1)=some false)
    (xk14_2:PySem.W.kitOne K (.ref ee14) (.ref ee2)=some false)
    (xk14_3:PySem.W.kitOne K (.ref ee14) (.ref ee3)=some false)
    (xk14_4:PySem.W.kitOne K (.ref ee14) (.ref ee4)=some false)
    (xk14_5:PySem.W.kitOne K (.ref ee14) (.ref ee5)=some false)
    (xk14_6:PySem.W.kitOne K (.ref ee14) (.ref ee6)=some false)
    (xk14_7:PySem.W.kitOne K (.ref ee14) (.ref ee7)=some false)
    (xk14_8:PySem.W.kitOne K (.ref ee14) (.ref ee8)=some false)
    (xk14_9:PySem.W.kitOne K (.ref ee14) (.ref ee9)=some false)
    (xk14_10:PySem.W.kitOne K (.ref ee14) (.ref ee10)=some false)
    (xk14_11:PySem.W.kitOne K (.ref ee14) (.ref ee11)=some false)
    (xk14_12:PySem.W.kitOne K (.ref ee14) (.ref ee12)=some false)
    (xk14_13:PySem.W.kitOne K (.ref ee14) (.ref ee13)=some false)
    (xk14_14:PySem.W.kitOne K (.ref ee14) (.ref ee14)=some true)
    (xes:PySem.W.exmOne K (.ref eS) (.ref eS)=some true)
    (xex1:PySem.W.exmOne K (.ref ee1) (.ref ee0)=some true)
    (xex2:PySem.W.exmOne K (.ref ee2) (.ref ee0)=some true)
    (xex3:PySem.W.exmOne K (.ref ee3) (.ref ee0)=some true)
    (xex4:PySem.W.exmOne K (.ref ee4) (.ref ee0)=some true)
    (xex14:PySem.W.exmOne K (.ref ee14) (.ref ee0)=some true)
    (hL:noL K=true) :
    ∃ fd:FuncData,(∀ (s:Shared) (v:Value),BindsTo s fd ⟨[v],[]⟩ [("script",v)])/\∀ base:Heap,K.In base->base.Ns mainGlobals mg->FnOk l.prog w K mg base (CXD l.prog w) 11 fa fd ["script"] (spLawS K):=by
  have e:=hfa.symm.trans (PySem.W.mg_of X G a52)
  cases e
  have T:Txt mg:=⟨PySem.W.mg_none_of X G z_all,PySem.W.mg_none_of X G z_any,PySem.W.mg_none_of X G z_bool,PySem.W.mg_none_of X G z_int,PySem.W.mg_none_of X G z_isinstance,PySem.W.mg_none_of X G z_len,PySem.W.mg_none_of X G z_max,PySem.W.mg_none_of X G z_min,PySem.W.mg_none_of X G z_range,PySem.W.mg_none_of X G z_str,PySem.W.mg_none_of X G z_sum,PySem.W.mg_none_of X G z_tuple,PySem.W.mg_none_of X G z_zip,⟨_,PySem.W.mg_of X G v_MOST_HOUSES⟩⟩
  have C_NoDeed:∃ C,mg "NoDeed" = some (.ref C)/\PySem.W.excIn K C Ua "ValueError.__new__" = true:=⟨_,PySem.W.mg_of X G n_NoDeed,x_NoDeed⟩
  have C_NoHouse:∃ C,mg "NoHouse" = some (.ref C)/\PySem.W.excIn K C Ua "ValueError.__new__" = true:=⟨_,PySem.W.mg_of X G n_NoHouse,x_NoHouse⟩
  have C_NoLetter:∃ C,mg "NoLetter" = some (.ref C)/\PySem.W.excIn K C Ua "ValueError.__new__" = true:=⟨_,PySem.W.mg_of X G n_NoLetter,x_NoLetter⟩
  have C_NoTable:∃ C,mg "NoTable" = some (.ref C)/\PySem.W.excIn K C Ua "ValueError.__new__" = true:=⟨_,PySem.W.mg_of X G n_NoTable,x_NoTable⟩
  have CD:∃ cd,PySem.W.clsIn K eS=some cd/\cd.mro=.ref eS :: .ref eW :: Ua/\cd.hasDict=true:=⟨_,by unfold PySem.W.clsIn; rw [xlk],rfl,rfl⟩
  have OS:ShortOk K mg eW eS fI:=⟨PySem.W.mg_of X G nW,PySem.W.mg_of X G nS,⟨⟨_,_,_,_,_,_,_,_,_,_,_,_,_,_,xlk⟩,xw,xfi,⟨_,li,rfl⟩,xkp⟩,⟨xcga,xcrd,xcfc⟩,⟨xsa,xob,CD,xno⟩⟩
  have FI:=fun_mk (x := "__init__") (qual := "Short.__init__") (st:=sInit) li ci ki
  have BI:=FI.binds (ps:=["self", "had"]) fun _ _ _ _ _ _ us hl=>match us,hl with | [_,_],_=>rfl
  have PK:PartsOk l.prog w K mg:=parts_mk (PySem.W.mg_of X G pns) plk psm
  have XC:XCls K eS:=⟨show (PySem.W.clsIn K eS).isSome=true by rw [xcls]; rfl,xga,xgt,xcl,xgs,xtk,xob,xbe⟩
  have Sx:∃ C,mg "Short" = some (.ref C)/\PySem.W.exmOne K (.ref C) (.ref C)=some true/\XGet K C "had" := ⟨_,OS.ms,xes,XC,(let ⟨cd,a,_,b⟩:=CD; ⟨cd,a,b⟩),xno⟩
  have Nm:Nms mg (fun i=>[ee0,ee1,ee2,ee3,ee4,ee5,ee6,ee7,ee8,ee9,ee10,ee11,ee12,ee13,ee14].getD i 0):=⟨PySem.W.mg_of X G nn0,PySem.W.mg_of X G nn1,PySem.W.mg_of X G nn2,PySem.W.mg_of X G nn3,PySem.W.mg_of X G nn4,PySem.W.mg_of X G nn5,PySem.W.mg_of X G nn6,PySem.W.mg_of X G nn7,PySem.W.mg_of X G nn8,PySem.W.mg_of X G nn9,PySem.W.mg_of X G nn10,PySem.W.mg_of X G nn11,PySem.W.mg_of X G nn12,PySem.W.mg_of X G nn13,PySem.W.mg_of X G nn14,PySem.W.mg_none_of X G nzValueError,PySem.W.mg_none_of X G nzisinstance⟩
  have XC1:XCls K ee1:=⟨show (PySem.W.clsIn K ee1).isSome=true by rw [xcls1]; rfl,xga1,xgt1,xcl1,xgs,xtk,xob1,xbe1⟩
  have T1:TgtS K (fun i=>[ee0,ee1,ee2,ee3,ee4,ee5,ee6,ee7,ee8,ee9,ee10,ee11,ee12,ee13,ee14].getD i 0) 1:=⟨XC1,xve1,xex1,fun i h1 h2=>match i,h1,h2 with | 0,h,_=>absurd h (by omega) | 1,_,_=>xk1_1 | 2,_,_=>xk1_2 | 3,_,_=>xk1_3 | 4,_,_=>xk1_4 | 5,_,_=>xk1_5 | 6,_,_=>xk1_6 | 7,_,_=>xk1_7 | 8,_,_=>xk1_8 | 9,_,_=>xk1_9 | 10,_,_=>xk1_10 | 11,_,_=>xk1_11 | 12,_,_=>xk1_12 | 13,_,_=>xk1_13 | 14,_,_=>xk1_14 | _ + 15,_,h=>absurd h (by omega)⟩
  have XC2:XCls K ee2:=⟨show (PySem.W.clsIn K ee2).isSome=true by rw [xcls2]; rfl,xga2,xgt2,xcl2,xgs,xtk,xob2,xbe2⟩
  have T2:TgtS K (fun i=>[ee0,ee1,ee2,ee3,ee4,ee5,ee6,ee7,ee8,ee9,ee10,ee11,ee12,ee13,ee14].getD i 0) 2:=⟨XC2,xve2,xex2,fun i h1 h2=>match i,h1,h2 with | 0,h,_=>absurd h (by omega) | 1,_,_=>xk2_1 | 2,_,_=>xk2_2 | 3,_,_=>xk2_3 | 4,_,_=>xk2_4 | 5,_,_=>xk2_5 | 6,_,_=>xk2_6 | 7,_,_=>xk2_7 | 8,_,_=>xk2_8 | 9,_,_=>xk2_9 | 10,_,_=>xk2_10 | 11,_,_=>xk2_11 | 12,_,_=>xk2_12 | 13,_,_=>xk2_13 | 14,_,_=>xk2_14 | _ + 15,_,h=>absurd h (by omega)⟩
  have XC3:XCls K ee3:=⟨show (PySem.W.clsIn K ee3).isSome=true by rw [xcls3]; rfl,xga3,xgt3,xcl3,xgs,xtk,xob3,xbe3⟩
  have T3:TgtS K (fun i=>[ee0,ee1,ee2,ee3,ee4,ee5,ee6,ee7,ee8,ee9,ee10,ee11,ee12,ee13,ee14].getD i 0) 3:=⟨XC3,xve3,xex3,fun i h1 h2=>match i,h1,h2 with | 0,h,_=>absurd h (by omega) | 1,_,_=>xk3_1 | 2,_,_=>xk3_2 | 3,_,_=>xk3_3 | 4,_,_=>xk3_4 | 5,_,_=>xk3_5 | 6,_,_=>xk3_6 | 7,_,_=>xk3_7 | 8,_,_=>xk3_8 | 9,_,_=>xk3_9 | 10,_,_=>xk3_10 | 11,_,_=>xk3_11 | 12,_,_=>xk3_12 | 13,_,_=>xk3_13 | 14,_,_=>xk3_14 | _ + 15,_,h=>absurd h (by omega)⟩
  have XC4:XCls K ee4:=⟨show (PySem.W.clsIn K ee4).isSome=true by rw [xcls4]; rfl,xga4,xgt4,xcl4,xgs,xtk,xob4,xbe4⟩
  have T4:TgtS K (fun i=>[ee0,ee1,ee2,ee3,ee4,ee5,ee6,ee7,ee8,ee9,ee10,ee11,ee12,ee13,ee14].getD i 0) 4:=⟨XC4,xve4,xex4,fun i h1 h2=>match i,h1,h2 with | 0,h,_=>absurd h (by omega) | 1,_,_=>xk4_1 | 2,_,_=>xk4_2 | 3,_,_=>xk4_3 | 4,_,_=>xk4_4 | 5,_,_=>xk4_5 | 6,_,_=>xk4_6 | 7,_,_=>xk4_7 | 8,_,_=>xk4_8 | 9,_,_=>xk4_9 | 10,_,_=>xk4_10 | 11,_,_=>xk4_11 | 12,_,_=>xk4_12 | 13,_,_=>xk4_13 | 14,_,_=>xk4_14 | _ + 15,_,h=>absurd h (by omega)⟩
  have XC14:XCls K ee14:=⟨show (PySem.W.clsIn K ee14).isSome=true by rw [xcls14]; rfl,xga14,xgt14,xcl14,xgs,xtk,xob14,xbe14⟩
  have T14:TgtS K (fun i=>[ee0,ee1,ee2,ee3,ee4,ee5,ee6,ee7,ee8,ee9,ee10,ee11,ee12,ee13,ee14].getD i 0) 14:=⟨XC14,xve14,xex14,fun i h1 h2=>match i,h1,h2 with | 0,h,_=>absurd h (by omega) | 1,_,_=>xk14_1 | 2,_,_=>xk14_2 | 3,_,_=>xk14_3 | 4,_,_=>xk14_4 | 5,_,_=>xk14_5 | 6,_,_=>xk14_6 | 7,_,_=>xk14_7 | 8,_,_=>xk14_8 | 9,_,_=>xk14_9 | 10,_,_=>xk14_10 | 11,_,_=>xk14_11 | 12,_,_=>xk14_12 | 13,_,_=>xk14_13 | 14,_,_=>xk14_14 | _ + 15,_,h=>absurd h (by omega)⟩
  have TT:∀ t wd,(t,wd)∈kdL->TgtS K (fun i=>[ee0,ee1,ee2,ee3,ee4,ee5,ee6,ee7,ee8,ee9,ee10,ee11,ee12,ee13,ee14].getD i 0) t/\PySem.W.kitOne K (.ref ([ee0,ee1,ee2,ee3,ee4,ee5,ee6,ee7,ee8,ee9,ee10,ee11,ee12,ee13,ee14].getD t 0)) (.ref ee0)=some true:=fun t wd h=>by
    simp only [kdL,D5,Prod.mk.injEq,List.not_mem_nil,or_false] at h
    rcases h with ⟨rfl,rfl⟩ | ⟨rfl,rfl⟩ | ⟨rfl,rfl⟩ | ⟨rfl,rfl⟩ | ⟨rfl,rfl⟩
    · exact ⟨T1,xw1⟩
    · exact ⟨T2,xw2⟩
    · exact ⟨T3,xw3⟩
    · exact ⟨T4,xw4⟩
    · exact ⟨T14,xw14⟩
  have TC:ClsT K eH:=⟨⟨Hpg,Hhd,Hpo,Hsa⟩,Hn_number,Hn_now,Hn_kept⟩
  obtain ⟨_,A1⟩:=Yi ["k"] X G h1
  obtain ⟨_,A2⟩:=Yi ["thing"] X G h2
  obtain ⟨_,A3⟩:=Yi ["thing", "least", "most"] X G h3
  obtain ⟨_,A4⟩:=Yi ["thing", "n"] X G h4
  obtain ⟨_,A5⟩:=Yi ["thing"] X G h5
  obtain ⟨_,A6⟩:=Yi ["table", "thing"] X G h6
  obtain ⟨_,A7⟩:=Yi ["table", "house"] X G h7
  obtain ⟨_,A8⟩:=Yi ["one", "other"] X G h8
  obtain ⟨_,A9⟩:=Yi ["one", "other"] X G h9
  obtain ⟨_,A10⟩:=Yi ["one", "other"] X G h10
  obtain ⟨_,A11⟩:=Yi ["one", "other"] X G h11
  obtain ⟨_,A12⟩:=Yi ["thing"] X G h12
  obtain ⟨_,A13⟩:=Yi ["thing"] X G h13
  obtain ⟨_,A14⟩:=Yi ["table", "deed"] X G h14
  obtain ⟨_,A15⟩:=Yi ["table", "deed"] X G h15
  obtain ⟨_,A16⟩:=Yi ["table", "house", "place", "k"] X G h16
  obtain ⟨_,A17⟩:=Yi ["table", "deed"] X G h17
  obtain ⟨_,A18⟩:=Yi ["table", "house"] X G h18
  obtain ⟨_,A19⟩:=Yi ["table", "house"] X G h19
  obtain ⟨_,A20⟩:=Yi ["table", "house", "lenders"] X G h20
  obtain ⟨_,A21⟩:=Yi ["table", "house", "ahead"] X G h21
  obtain ⟨_,A22⟩:=Yi ["table"] X G h22
  obtain ⟨_,A23⟩:=Yi ["table"] X G h23
  obtain ⟨_,A24⟩:=Yi ["table"] X G h24
  obtain ⟨_,A25⟩:=Yi ["thing"] X G h25
  obtain ⟨_,A26⟩:=Yi ["thing"] X G h26
  obtain ⟨_,A27,B27⟩:=h27.at ["self", "number", "table"]
  obtain ⟨_,A28,B28⟩:=h28.at ["self", "k"]
  obtain ⟨_,A29,B29⟩:=h29.at ["self", "to", "k"]
  obtain ⟨_,A30,B30⟩:=h30.at ["self", "k"]
  obtain ⟨_,A31,B31⟩:=h31.at ["self"]
  obtain ⟨_,A32,B32⟩:=h32.at ["self"]
  obtain ⟨_,A33,B33⟩:=h33.at ["self"]
  obtain ⟨_,A34,B34⟩:=h34.at ["self", "table"]
  obtain ⟨_,A35,B35⟩:=h35.at ["self"]
  obtain ⟨_,A36,B36⟩:=h36.at ["self"]
  obtain ⟨_,A37,B37⟩:=h37.at ["self"]
  obtain ⟨_,A38⟩:=Yi ["script", "k"] X G h38
  obtain ⟨_,A39⟩:=Yi ["script", "k"] X G h39
  obtain ⟨_,A40⟩:=Yi ["tape", "many"] X G h40
  obtain ⟨_,A41⟩:=Yi ["table", "i"] X G h41
  obtain ⟨_,A42⟩:=Yi ["size"] X G h42
  obtain ⟨_,A43⟩:=Yi ["table", "i", "at", "k"] X G h43
  obtain ⟨_,A44⟩:=Yi ["tape"] X G h44
  obtain ⟨_,A45⟩:=Yi ["tape", "size", "many"] X G h45
  obtain ⟨_,A46⟩:=Yi ["script"] X G h46
  obtain ⟨_,A47⟩:=Yi ["one", "other"] X G h47
  obtain ⟨_,A48⟩:=Yi ["caught"] X G h48
  obtain ⟨_,A49⟩:=Yi ["house", "way", "things"] X G h49
  obtain ⟨_,A50⟩:=Yi ["tape", "table"] X G h50
  obtain ⟨_,A51⟩:=Yi ["house"] X G h51
  have A52:=atS_mk (st:=s_law) (ps:=["script"]) X G a52 l52 c52 k52 fun _ _ _ _ _ _ us hl=>match us,hl with | [_],_=>rfl
  refine ⟨PySem.W.fnOf "law" "law" (Y8 s_law) (Jz s_law) (Q9 s_law) .none kV52 dc52 pm52 an52 cd52 ct52,fun s v=>.of_eq rfl,fun base kb nb=>?_⟩
  have O_Short:ShortS l.prog w K mg base:=⟨_,_,_,_,OS.M,ok_init FI OS,BI,OS.ms⟩
  have D__wall:=A1.d l.prog w base rfl (ok__wall A1.F T    )
  have D_is_whole:=A2.d l.prog w base rfl (ok_is_whole A2.F T    )
  have D_is_between:=A3.d l.prog w base rfl (ok_is_between A3.F T   D_is_whole )
  have D_is_row:=A4.d l.prog w base rfl (ok_is_row A4.F T   D_is_whole )
  have D_is_table:=A5.d l.prog w base rfl (ok_is_table A5.F T   D_is_row )
  have D_is_house:=A6.d l.prog w base rfl (ok_is_house A6.F T   D_is_between )
  have D_rights:=A7.d l.prog w base rfl (ok_rights A7.F T  C_NoHouse D_is_house )
  have D_rights_tables:DefS l.prog w K mg base 4 "rights_tables" 2 V0:=⟨_,_,_,ok_rights A7.F T  C_NoHouse D_is_house ,PySem.W.mg_of X G al_rights_tables,A7.F.kp,A7.b,rfl⟩
  have D_need_as_many_houses:=A8.d l.prog w base rfl (ok_need_as_many_houses A8.F T  C_NoTable  )
  have D_is_row_within:=A9.d l.prog w base rfl (ok_is_row_within A9.F T    )
  have D_joined_row:=A10.d l.prog w base rfl (ok_joined_row A10.F T    )
  have D_joined:=A11.d l.prog w base rfl (ok_joined A11.F T   D_need_as_many_houses D_joined_row )
  have D_is_text_and_numbers:=A12.d l.prog w base rfl (ok_is_text_and_numbers A12.F T   D_is_whole )
  have D_is_deed:=A13.d l.prog w base rfl (ok_is_deed A13.F T PK   D_is_text_and_numbers )
  have D_need_houses_of_deed:=A14.d l.prog w base rfl (ok_need_houses_of_deed A14.F T  C_NoHouse D_is_house )
  have D_place_in_row:=A15.d l.prog w base rfl (ok_place_in_row A15.F T    )
  have D_raised:=A16.d l.prog w base rfl (ok_raised A16.F T    )
  have D_done:=A17.d l.prog w base rfl (ok_done A17.F T O_Short  C_NoDeed D_is_deed D_need_houses_of_deed D_rights_tables D_raised D_place_in_row )
  have D_made_some:=A18.d l.prog w base rfl (ok_made_some A18.F T    )
  have D_lent_or_used_some:=A19.d l.prog w base rfl (ok_lent_or_used_some A19.F T    )
  have D_was_lent_some:=A20.d l.prog w base rfl (ok_was_lent_some A20.F T    )
  have D_has_root:=A21.d l.prog w base rfl (ok_has_root A21.F T   D_made_some D_was_lent_some )
  have D_rooted_houses:=A22.d l.prog w base rfl (ok_rooted_houses A22.F T   D_has_root )
  have D_rootless_houses:=A23.d l.prog w base rfl (ok_rootless_houses A23.F T   D_rooted_houses D_lent_or_used_some )
  have D_comes_about:=A24.d l.prog w base rfl (ok_comes_about A24.F T   D_rights_tables D_rootless_houses D_rooted_houses )
  have D_does_come_about:=A25.d l.prog w base rfl (ok_does_come_about A25.F T   D_is_table D_comes_about )
  have D_need_comes_about:=A26.d l.prog w base rfl (ok_need_comes_about A26.F T  C_NoTable D_does_come_about )
  have M_House:MakeS l.prog w K mg base 8 eH "House" 3 (Jg eH):=⟨_,_,_,ok_House___init__ A27 T TC  C_NoHouse D_need_comes_about D_is_house ,⟨Hmk,h27.1,h27.2.1,Hkc⟩,PySem.W.mg_of X G aH,B27,rfl⟩
  have D_House_make:MethS l.prog w K mg base 6 eH "make" 2 (Zg eH):=⟨_,_,_,ok_House_make A28 T TC   D_done ,⟨h28.1,h28.2.1,A28.kp⟩,B28,rfl⟩
  have D_House_lend:MethS l.prog w K mg base 6 eH "lend" 3 (Yp eH):=⟨_,_,_,ok_House_lend A29 T TC   D_done ,⟨h29.1,h29.2.1,A29.kp⟩,B29,rfl⟩
  have D_House_use:MethS l.prog w K mg base 6 eH "use" 2 (Wc eH):=⟨_,_,_,ok_House_use A30 T TC   D_done ,⟨h30.1,h30.2.1,A30.kp⟩,B30,rfl⟩
  have D_House_keep:MethS l.prog w K mg base 1 eH "keep" 1 (Wm eH):=⟨_,_,_,ok_House_keep A31 T TC    ,⟨h31.1,h31.2.1,A31.kp⟩,B31,rfl⟩
  have D_House_fall:MethS l.prog w K mg base 2 eH "fall" 1 (F_House_fall eH):=⟨_,_,_,ok_House_fall A32 T TC   D__wall ,⟨h32.1,h32.2.1,A32.kp⟩,B32,rfl⟩
  have D_House_letter:MethS l.prog w K mg base 1 eH "letter" 1 (Wd eH):=⟨_,_,_,ok_House_letter A33 T TC    ,⟨h33.1,h33.2.1,A33.kp⟩,B33,rfl⟩
  have D_House_come:MethS l.prog w K mg base 3 eH "come" 2 (Z3 eH):=⟨_,_,_,ok_House_come A34 T TC  C_NoLetter D_need_as_many_houses D_is_row_within D_joined ,⟨h34.1,h34.2.1,A34.kp⟩,B34,rfl⟩
  have D_House_table:MethS l.prog w K mg base 1 eH "table" 1 (Zj eH):=⟨_,_,_,ok_House_table A35 T TC    ,⟨h35.1,h35.2.1,A35.kp⟩,B35,rfl⟩
  have D_House_rights:MethS l.prog w K mg base 5 eH "rights" 1 (Zq eH):=⟨_,_,_,ok_House_rights A36 T TC   D_rights_tables ,⟨h36.1,h36.2.1,A36.kp⟩,B36,rfl⟩
  have D_House_used:MethS l.prog w K mg base 1 eH "used" 1 (U9 eH):=⟨_,_,_,ok_House_used A37 T TC    ,⟨h37.1,h37.2.1,A37.kp⟩,B37,rfl⟩
  have D__law_acell:=A38.d l.prog w base rfl (ok__law_acell A38.F T    )
  have D__law_atape:=A39.d l.prog w base rfl (ok__law_atape A39.F T   D__law_acell )
  have D__law_adigit:=A40.d l.prog w base rfl (ok__law_adigit A40.F T    )
  have D__law_arights:=A41.d l.prog w base rfl (ok__law_arights A41.F T    )
  have D__law_abare:=A42.d l.prog w base rfl (ok__law_abare A42.F T    )
  have D__law_araised:=A43.d l.prog w base rfl (ok__law_araised A43.F T    )
  have D__law_amuch:=A44.d l.prog w base rfl (ok__law_amuch A44.F T   D__law_adigit )
  have D__law_atable:=A45.d l.prog w base rfl (ok__law_atable A45.F T   D__law_abare D__law_adigit D__law_arights D__law_araised D__law_amuch )
  have D__law_abegun:=A46.d l.prog w base rfl (ok__law_abegun A46.F T   D__law_atape D__law_adigit D__law_atable )
  have D__law_ajoined:=A47.d l.prog w base rfl (ok__law_ajoined A47.F T    )
  have D__law_akind:=A48.defX (P:=l.prog) (w:=w) (base:=base) (ok__law_akind A48.F T Nm TT   )
  have D__law_acaught:=A49.d l.prog w base rfl (ok__law_acaught A49.F T TC Nm TT M_House D_House_make D_House_lend D_House_use D_House_come  D__law_akind )
  have D__law_ano_table:=A50.d l.prog w base rfl (ok__law_ano_table A50.F T   D__law_adigit D__law_araised D__law_abare D__law_arights )
  have D__law_atold:=A51.d l.prog w base rfl (ok__law_atold A51.F T TC    D_House_table D_House_letter D_House_rights D_House_used)
  exact law_imp hL (ok_law A52.F T TC   D__law_abegun D__law_atape D__law_adigit D__law_atold D__law_ano_table D__law_araised D__law_abare D__law_acaught D__law_atable D__law_ajoined M_House D_House_make D_House_keep D_House_rights D_House_table D_House_come) (law_all _)
end Lw
theorem PySem.W.Fast.tw14994069776438323608 : True := trivial
theorem PySem.W.Fast.tw13963626688162090312 : True := trivial
theorem PySem.W.Fast.tw1192162379821419807 : True := trivial
theorem PySem.W.Fast.tw9506697985184141384 : True := trivial
theorem PySem.W.Fast.tw6735424663366253692 : True := trivial
theorem PySem.W.Fast.tw1240221165611016216 : True := trivial
theorem PySem.W.Fast.tw17269723620103041833 : True := trivial
theorem PySem.W.Fast.tw17410424164044264429 : True := trivial
theorem PySem.W.Fast.tw9655593456992777630 : True := trivial
theorem PySem.W.Fast.tw12713269453328772078 : True := trivial
theorem PySem.W.Fast.tw6245352884088910062 : True := trivial
theorem PySem.W.Fast.tw14171786229760189228 : True := trivial
theorem PySem.W.Fast.tw16287094587673018590 : True := trivial
theorem PySem.W.Fast.tw3216313040384880509 : True := trivial
theorem PySem.W.Fast.tw11209277645097165217 : True := trivial
theorem PySem.W.Fast.tw9780026751926137017 : True := trivial
theorem PySem.W.Fast.tw12296425769873648909 : True := trivial
theorem PySem.W.Fast.tw6830703340681812723 : True := trivial
theorem PySem.W.Fast.tw16218546034716714698 : True := trivial
theorem PySem.W.Fast.tw12856312328638795814 : True := trivial
theorem PySem.W.Fast.tw4563834037971609014 : True := trivial
theorem PySem.W.Fast.tw15059342934679950540 : True := trivial
theorem PySem.W.Fast.tw13281719272844857141 : True := trivial
theorem PySem.W.Fast.tw121531371236380978 : True := trivial
theorem PySem.W.Fast.tw7001422095004638780 : True := trivial
theorem PySem.W.Fast.te6323683094585902781 : True := trivial
open PySem PySem.W PyProof.Rows Sm
set_option maxRecDepth 100000 in
set_option maxHeartbeats 0 in
theorem PySem.Challenge.cw_lendwharf_k16_houses_refuse_holds : PySem.Challenge.rw_lendwharf_k16_houses_refuse.Holds := by
  w_on; o_law; k_head; (case hw=>w_witness2)
  k_fill
  refine Sm.walkS (l:=PySem.Challenge.rw_lendwharf_k16_houses_refuse) (k:=11) rfl ⟨rfl,by decide,by decide⟩ rfl (fun w h Y=>PySem.W.kIn_of Y) ?F
  case F=>
    intro w mg fa h KX G hmg
    refine' Lw.all_mk KX G hmg ..
    any_goals k_is
    any_goals exact FA.mk (by k_is) (by k_is) (by k_is) (by k_is)
    any_goals exact FM.mk (by k_is) (by k_is) (by k_is) (by k_is) (by k_is)
    any_goals k_exc
    all_goals first | kts_exm | kit_is | rfl | decide
