import PyProof.Rows.All
import Wide.All
import OpenK.AllK
import Wide.FinOn
import Lean
import PyProof.EqAt
import PyProof.EqKinds
import PyProof.TupleCall
import PyProof.ZipIter
import PyProof.Draws
import PyProof.SumAny
import PyProof.EnumMake
import PyProof.WalkInts
import PyProof.ExcArgsOwn
import PyProof.ExcAttrAll.ValueError
import PyProof.NsDelKeeps
import KE.KTryMore
import OpenK.KOwn
import PyProof.ListMulRoad
import PyProof.FactsAll.tuple_2
import PyProof.NeKinds
import PyProof.Rows.RuleIs
import PyProof.ExcInit
import PyProof.ExcClass3
import OpenK.KCls
import PyProof.InstStoreFacts
import OpenK.KMake
import PyProof.DictRoads
import PyProof.Rows.CountFlat
import PyProof.ListRange
import PyProof.Rows.SetFrom
import PyProof.CollectStr
import PyProof.Rows.TupMore
import PyProof.AttrMissHeap
import KE.KDictOf
import PyProof.DictWalks
import KE.KSortTup
import PyProof.DictItemsLoops
import KE.KDictList
import PyProof.CallStr
import PySem.Challenge.RW_lendwharf_k40_no_roads_and_no_houses
set_option Elab.async false
set_option linter.all false
set_option maxRecDepth 100000
set_option maxHeartbeats 4000000
open List renaming getElem?_eq_some_iff -> O0, getElem?_eq_getElem -> O2, getElem?_append_left -> O3, size_toArray -> O4, length_map -> O5, getElem?_append_right -> O8, map_cons -> D0, mem_cons_of_mem -> D4, length_append -> D5, mem_cons -> D6, mem_of_getElem? -> D8, getElem?_set_self -> D9, getElem?_set_ne -> E3, mem_cons_self -> E4, getElem?_map -> E5, mem_append_right -> E6, mem_append -> E7, getD_eq_getElem?_getD -> E9, length_cons -> F1, find?_cons -> F3, append_assoc -> F4, map_map -> F5, append_nil -> F6, map_append -> F7, all_eq_true -> F9, length_range -> G6, mem_append_left -> G7, length_set -> G8
open PySem.Heap renaming get?_push_of_some -> O1, lt_size -> O7, get?_push_size -> D3, get?_update_other -> E8, size_push -> F8
open Nat renaming le_refl -> O6, lt_of_lt_of_le -> D2, ne_of_lt -> D7, le_trans -> E2
open Bool renaming false_ne_true -> O9
noncomputable section
namespace L2
open PySem PySem.Spec PyProof.Rows
abbrev Key:=Sum Int Str
def keyIs:Key->Value->Bool
  | .inl k,v=>Value.isInt k v
  | .inr x,v=>Value.isStrOf x v
def keyH (w:World):Key->Int
  | .inl k=>hashInt k
  | .inr x=>hashStr w x
theorem Za:∀ {k:Key} {v:Value},keyIs k v=true->(∃ i t,k=Sum.inl i/\v=Value.int i t)\/(∃ x t,k=Sum.inr x/\v=Value.str x t)
  | .inl i,v,h=>by
    obtain ⟨t,e⟩:=Value.isInt_shape (k:=i) (v:=v) h
    exact .inl ⟨i,t,rfl,e⟩
  | .inr x,v,h=>by
    obtain ⟨t,e⟩:=Value.isStrOf_shape (x:=x) (v:=v) h
    exact .inr ⟨x,t,rfl,e⟩
theorem keyIs_int (i:Int) (t:Tok):keyIs (.inl i) (.int i t)=true:=by simp [keyIs,Value.isInt]
theorem keyIs_str (x:Str) (t:Tok):keyIs (.inr x) (.str x t)=true:=by simp [keyIs,Value.isStrOf]
theorem key_ll (a b:Int):decide ((Sum.inl a:Key)=Sum.inl b)=(a == b):=by
  by_cases e:a=b
  · subst e; simp
  · have h:¬ (Sum.inl a:Key)=Sum.inl b:=fun q=>e (Sum.inl.inj q)
    rw [decide_eq_false h]
    exact (beq_eq_false_iff_ne.mpr e).symm
theorem key_rr (a b:Str):decide ((Sum.inr a:Key)=Sum.inr b)=decide (a=b):=by
  by_cases e:a=b
  · subst e; simp
  · have h:¬ (Sum.inr a:Key)=Sum.inr b:=fun q=>e (Sum.inr.inj q)
    rw [decide_eq_false h,decide_eq_false e]
theorem key_lr (a:Int) (b:Str):decide ((Sum.inl a:Key)=Sum.inr b)=false:=decide_eq_false (fun q=>nomatch q)
theorem key_rl (a:Str) (b:Int):decide ((Sum.inr a:Key)=Sum.inl b)=false:=decide_eq_false (fun q=>nomatch q)
def Z0 (prog:Program) (w:World):PySem.KeyKind prog w Key where
  is:=keyIs
  hash:=keyH w
  inj:=fun v a b ha hb=>by
    rcases Za ha with ⟨i,t,rfl,rfl⟩ | ⟨x,t,rfl,rfl⟩
    · rcases Za hb with ⟨j,u,rfl,e⟩ | ⟨y,u,rfl,e⟩
      · injection e with e1 _; rw [e1]
      · exact nomatch e
    · rcases Za hb with ⟨j,u,rfl,e⟩ | ⟨y,u,rfl,e⟩
      · exact nomatch e
      · injection e with e1 _; rw [e1]
  byValue:=fun k v h=>by
    rcases Za h with ⟨i,t,rfl,rfl⟩ | ⟨x,t,rfl,rfl⟩ <;> rfl
  pyHash:=fun hv h=>by
    rcases Za hv with ⟨i,t,rfl,rfl⟩ | ⟨x,t,rfl,rfl⟩
    · exact wpAny_pyHash_int h
    · exact wpAny_pyHash_str h
  eqBool:=fun hu hv h=>by
    rcases Za hu with ⟨i,t,rfl,rfl⟩ | ⟨x,t,rfl,rfl⟩
    · rcases Za hv with ⟨j,u,rfl,rfl⟩ | ⟨y,u,rfl,rfl⟩
      · rw [key_ll] at h; exact wpAny_eqBool_int h
      · rw [key_lr] at h; exact SeqAt.EqAt.int_str i t y u _ _ _ _ h
    · rcases Za hv with ⟨j,u,rfl,rfl⟩ | ⟨y,u,rfl,rfl⟩
      · rw [key_rl] at h; exact SeqAt.EqAt.str_int x t j u _ _ _ _ h
      · rw [key_rr] at h; exact wpAny_eqBool_str h
  «strs»:=fun k x t v h=>by
    rcases Za h with ⟨i,u,rfl,e⟩ | ⟨y,u,rfl,e⟩
    · exact nomatch e
    · injection e with e1 _
      subst e1
      cases v <;> rfl
theorem mixKind_int (prog:Program) (w:World) (i:Int) (t:Tok):(Z0 prog w).is (.inl i) (.int i t)=true:=keyIs_int i t
theorem mixKind_str (prog:Program) (w:World) (x:Str) (t:Tok):(Z0 prog w).is (.inr x) (.str x t)=true:=keyIs_str x t
end L2
namespace L2
open PySem PySem.Spec PyProof.Rows
inductive V where
  | non | bl (b:Bool) | int (i:Int) | str (x:Str) | byt (b:Array UInt8) | flt (b:UInt64) | ref (a:Addr) | ty (n:String)
  deriving DecidableEq
def RelV:V->Value->Prop
  | .non,u=>u=Value.none
  | .bl b,u=>u=Value.bool b
  | .int i,u=>∃ t,u=Value.int i t
  | .str x,u=>∃ t,u=Value.str x t
  | .byt b,u=>∃ t,u=Value.bytes b t
  | .flt b,u=>∃ t,u=Value.float b t
  | .ref a,u=>u=Value.ref a
  | .ty n,u=>u=Value.type n
abbrev Vals:List V->List Value->Prop:=Paired RelV
theorem Vals.length {xs:List V} {us:List Value} (r:Vals xs us):xs.length=us.length:=Paired.length r
theorem Vals.get:∀ {xs:List V} {us:List Value} {i:Nat} {x:V},Vals xs us->xs[i]?=some x->∃ u,us[i]?=some u/\RelV x u
  | _,_,_,_,.nil,e=>by simp at e
  | _,_,0,_,.cons r _,e=>by simp at e; subst e; exact ⟨_,rfl,r⟩
  | _,_,i + 1,x,.cons _ t,e=>by
    obtain ⟨u,h1,h2⟩:=Vals.get (i:=i) (x:=x) t (by simpa using e)
    exact ⟨u,by simpa using h1,h2⟩
theorem Vals.set {x:V} {u:Value} (r:RelV x u):∀ {xs:List V} {us:List Value} (i:Nat),Vals xs us->Vals (xs.set i x) (us.set i u)
  | _,_,_,.nil=>.nil
  | _,_,0,.cons _ t=>.cons r t
  | _,_,i + 1,.cons q t=>.cons q (Vals.set r i t)
theorem Vals.append:∀ {xs ys:List V} {us ws:List Value},Vals xs us->Vals ys ws->Vals (xs ++ ys) (us ++ ws)
  | _,_,_,_,.nil,s=>s
  | _,_,_,_,.cons r t,s=>.cons r (Vals.append t s)
theorem Vals.take:∀ {xs:List V} {us:List Value} (n:Nat),Vals xs us->Vals (xs.take n) (us.take n)
  | _,_,0,_=>.nil
  | _,_,_ + 1,.nil=>.nil
  | _,_,n + 1,.cons r t=>.cons r (Vals.take n t)
theorem Vals.drop:∀ {xs:List V} {us:List Value} (n:Nat),Vals xs us->Vals (xs.drop n) (us.drop n)
  | _,_,0,r=>r
  | _,_,_ + 1,.nil=>.nil
  | _,_,n + 1,.cons _ t=>Vals.drop n t
def RelO:Option V->Option Value->Prop
  | some v,some u=>RelV v u
  | none,none=>True
  | _,_=>False
def KV {κ:Type}:List (κ × V)->List (κ × Value)->Prop:=Paired fun (p:κ × V) (q:κ × Value)=>p.1=q.1/\RelV p.2 q.2
def kV:Key->V
  | .inl i=>.int i
  | .inr x=>.str x
inductive HO where
  | lst (xs:List V)
  | tup (xs:List V)
  | dK (kvs:List (Key × V)) | dT (kvs:List (List Key × V))
  | set (S:Int->Bool) (n:Nat)
  | ins (C dx:Addr) (fs:List (Str × V))
  | own (x:Addr)
  | xd (fs:List (Str × V))
  | met (f x:Addr)
  | rng (lo hi:Int)
  | frz (o:Obj) (u:HO)
  | tbl (ps:Array Value)
  | ext (φ:Heap->Prop)
abbrev Hp:=Addr->Option HO
def upd (H:Hp) (a:Addr) (o:HO):Hp:=fun b=>if b=a then some o else H b
theorem Qb {H:Hp} {a:Addr} {o:HO}:upd H a o a=some o:=by unfold upd; rw [if_pos rfl]
theorem Q7 {H:Hp} {a b:Addr} {o:HO} (h:b≠a):upd H a o b=H b:=by unfold upd; rw [if_neg h]
theorem ne_of {H:Hp} {a b:Addr} {o u:HO} (h:H a=some o) (h':H b=some u) (d:o≠u):a≠b:=by
  intro e; subst e; rw [h] at h'; exact d (Option.some.inj h')
theorem Q9 {H:Hp} {a b:Addr} {o:HO} (h:H a=some o) (h':H b=none):a≠b:=by
  intro e; subst e; rw [h] at h'; cases h'
section
variable (P:Program) (w:World)
def ObjOk (H:Hp) (h:Heap) (a:Addr):HO->Prop
  | .lst xs=>xs.length<=sizeLine/\∃ (its:List Value) (n:Nat),Vals xs its/\h.get? a=some { cls:=.type "list",data:=.seq its.toArray n }
  | .tup xs=>xs.length<=sizeLine/\∃ its:List Value,Vals xs its/\IsTup h a its.toArray
  | .dK kvs=>kvs.length<=sizeLine/\(a == sysModules)=false/\∃ vs,KV kvs vs/\h.DictOf (Z0 P w) a vs
  | .dT kvs=>kvs.length<=sizeLine/\(a == sysModules)=false/\∃ xs:List (List Key × Addr × Value),
      Paired (fun (p:List Key × V) (q:List Key × Addr × Value)=>p.1=q.1/\H q.2.1=some (.tup (p.1.map kV))/\RelV p.2 q.2.2) kvs xs /\
      ∃ o es ep,h.get? a=some o/\o.ExactDict/\o.data=.dict es ep/\es.toList=xs.map (entryOfKey (tupleKind (Z0 P w)))/\(xs.map (·.1)).Nodup
  | .set S n=>h.SetOf (intKind P w) a S n
  | .ins C dx fs=>H dx=some (.own a)/\fs.length<=1000/\dx≠a/\h.get? a=some (PySem.W.instObj C dx) /\
      ∃ mA,h.Ns1 dx mA/\(∀ f,RelO (fs.lookup f) (mA f))/\PySem.Within mA (fs.map (·.1))
  | .own _=>∃ o,h.get? a=some o
  | .xd fs=>∃ mA,h.Ns1 a mA/\∀ f,RelO (fs.lookup f) (mA f)
  | .rng lo hi=>∃ t u v,h.get? a=some { cls:=.type "range",data:=.fields #[.int lo t,.int hi u,.int 1 v] }
  | .frz o u=>h.get? a=some o/\ObjOk H h a u
  | .tbl ps=>h.get? a=some { cls:=.none,data:=.fields ps }
  | .met f x=>h.get? a=some (PySem.W.methodObj (.ref f) (.ref x))
  | .ext φ=>φ h/\(∃ o,h.get? a=some o)/\∀ h1 h2:Heap,φ h1->(∀ o,h1.get? a=some o->h2.get? a=some o)->φ h2
def HOk (H:Hp) (h:Heap):Prop:=∀ a o,H a=some o->ObjOk P w H h a o
end
section
variable {P:Program} {w:World} {H H':Hp} {h h':Heap} {a:Addr} {o:HO}
theorem ObjOk.lt (x:ObjOk P w H h a o):a < h.objs.size:=by
  cases o with
  | lst xs=>obtain ⟨_,_,_,_,e⟩:=x; exact O7 e
  | tup xs=>obtain ⟨_,_,_,p⟩:=x; exact p.lt
  | dK kvs=>obtain ⟨_,_,_,_,o,_,_,e,_⟩:=x; exact O7 e
  | dT kvs=>obtain ⟨_,_,_,_,o,_,_,e,_⟩:=x; exact O7 e
  | set S n=>obtain ⟨o,_,_,_,e,_⟩:=x; exact O7 e
  | ins C dx fs=>obtain ⟨_,_,_,e,_⟩:=x; exact O7 e
  | own y=>obtain ⟨_,e⟩:=x; exact O7 e
  | xd fs=>obtain ⟨_,⟨_,_,_,e,_⟩,_⟩:=x; exact O7 e
  | rng lo hi=>obtain ⟨_,_,_,e⟩:=x; exact O7 e
  | frz ob u=>obtain ⟨e,_⟩:=x; exact O7 e
  | tbl ps=>exact O7 (show h.get? a=some _ from x)
  | met f y=>exact O7 (show h.get? a=some _ from x)
  | ext φ=>obtain ⟨_,⟨_,e⟩,_⟩:=x; exact O7 e
theorem Paired.mapP {α β:Type} {F G:α->β->Prop}:∀ {l₁:List α} {l₂:List β},Paired F l₁ l₂->(∀ a b,F a b->G a b)->Paired G l₁ l₂
  | _,_,.nil,_=>.nil
  | _,_,.cons r t,f=>.cons (f _ _ r) (Paired.mapP t f)
theorem ObjOk.stay (x:ObjOk P w H h a o) (k:∀ b u,(b=a\/H b=some (.own a))->h.get? b=some u->h'.get? b=some u)
    (ho:∀ b,H b=some (.own a)->H' b=some (.own a)) (ht:∀ b xs,H b=some (.tup xs)->H' b=some (.tup xs)):ObjOk P w H' h' a o:=by
  induction o with
  | lst xs=>obtain ⟨z,its,n,r,e⟩:=x; exact ⟨z,its,n,r,k _ _ (.inl rfl) e⟩
  | tup xs=>obtain ⟨z,its,r,ob,e,c⟩:=x; exact ⟨z,its,r,ob,k _ _ (.inl rfl) e,c⟩
  | dK kvs=>obtain ⟨z,y,vs,r,ob,es,ep,e,c⟩:=x; exact ⟨z,y,vs,r,ob,es,ep,k _ _ (.inl rfl) e,c⟩
  | dT kvs=>
    obtain ⟨z,y,xs,r,ob,es,ep,e,c⟩:=x
    exact ⟨z,y,xs,Paired.mapP r fun p q z=>⟨z.1,ht _ _ z.2.1,z.2.2⟩,ob,es,ep,k _ _ (.inl rfl) e,c⟩
  | set S n=>obtain ⟨ob,es,ep,t,e,c⟩:=x; exact ⟨ob,es,ep,t,k _ _ (.inl rfl) e,c⟩
  | ins C dx fs=>
    obtain ⟨d,z,ne,e,mA,⟨od,es,ep,e2,c⟩,r⟩:=x
    exact ⟨ho _ d,z,ne,k _ _ (.inl rfl) e,mA,⟨od,es,ep,k _ _ (.inr d) e2,c⟩,r⟩
  | own y=>obtain ⟨ob,e⟩:=x; exact ⟨ob,k _ _ (.inl rfl) e⟩
  | xd fs=>obtain ⟨mA,⟨od,es,ep,e,c⟩,r⟩:=x; exact ⟨mA,⟨od,es,ep,k _ _ (.inl rfl) e,c⟩,r⟩
  | rng lo hi=>obtain ⟨t,u,v,e⟩:=x; exact ⟨t,u,v,k _ _ (.inl rfl) e⟩
  | frz ob u ih=>obtain ⟨e,q⟩:=x; exact ⟨k _ _ (.inl rfl) e,ih q⟩
  | tbl ps=>
    have e:h.get? a=some { cls:=.none,data:=.fields ps }:=x
    show h'.get? a=some { cls:=.none,data:=.fields ps }
    exact k a _ (.inl rfl) e
  | met f y=>
    have e:h.get? a=some (PySem.W.methodObj (.ref f) (.ref y)):=x
    show h'.get? a=some (PySem.W.methodObj (.ref f) (.ref y))
    exact k a _ (.inl rfl) e
  | ext φ=>obtain ⟨p,⟨o,e⟩,st⟩:=x; exact ⟨st _ _ p fun o q=>k _ _ (.inl rfl) q,⟨o,k _ _ (.inl rfl) e⟩,st⟩
theorem HOk.lt (x:HOk P w H h) (e:H a=some o):a < h.objs.size:=(x a o e).lt
theorem HOk.fresh (x:HOk P w H h) (e:h.objs.size<=a):H a=none:=by
  cases q:H a with
  | none=>rfl
  | some u=>exact absurd (D2 (x.lt q) e) (Nat.lt_irrefl _)
theorem HOk.kept (x:HOk P w H h) (k:∀ b u,h.get? b=some u->h'.get? b=some u):HOk P w H h':=fun a o e=>
  (x a o e).stay (fun b u _ q=>k b u q) (fun _ q=>q) fun _ _ q=>q
theorem HOk.laid (x:HOk P w H h) (k:∀ b u,h.get? b=some u->h'.get? b=some u) (hp:h.objs.size<=a) (new:ObjOk P w (upd H a o) h' a o):HOk P w (upd H a o) h':=fun b u e=>by
  have hn:=x.fresh hp
  by_cases hb:b=a
  · subst hb; rw [Qb] at e; cases e; exact new
  · rw [Q7 hb] at e
    exact (x b u e).stay (fun c v _ q=>k c v q) (fun c q=>by rw [Q7 (Q9 q hn)]; exact q) fun c xs q=>by rw [Q7 (Q9 q hn)]; exact q
end
def Rd (H:Hp) (a:Addr) (u:HO):Prop:=H a=some u\/∃ o,H a=some (.frz o u)
theorem Rd.ok {P:Program} {w:World} {H:Hp} {h:Heap} {a:Addr} {u:HO} (r:Rd H a u) (x:HOk P w H h):ObjOk P w H h a u:=by
  rcases r with r | ⟨o,r⟩
  · exact x a u r
  · obtain ⟨_,q⟩:=x a _ r
    exact q
def Mut:Option HO->Prop
  | some (.lst _)=>True
  | some (.dK _)=>True
  | some (.dT _)=>True
  | some (.set _ _)=>True
  | some (.ins _ _ _)=>True
  | some (.ext _)=>True
  | _=>False
section
variable {P:Program} {w:World} {H:Hp} {h h':Heap} {x e:Addr} {o':HO}
theorem HOk.write (ok:HOk P w H h) (mu:Mut (H x)) (he:e=x\/H e=some (.own x)) (k:∀ b u,b≠e->h.get? b=some u->h'.get? b=some u) (heo:∃ u,h'.get? e=some u)
    (new:ObjOk P w (upd H x o') h' x o'):HOk P w (upd H x o') h':=fun b u q=>by
  have nown:∀ c y,H c=some (.own y)->c≠x:=fun c y r z=>by subst z; rw [r] at mu; exact mu
  have ntup:∀ c xs,H c=some (.tup xs)->c≠x:=fun c xs r z=>by subst z; rw [r] at mu; exact mu
  by_cases hb:b=x
  · subst hb; rw [Qb] at q; cases q; exact new
  · rw [Q7 hb] at q
    by_cases hbe:b=e
    · have q':H b=some (.own x):=by
        rcases he with z | z
        · exact absurd (hbe.trans z) hb
        · rw [hbe]; exact z
      rw [q] at q'; cases q'
      obtain ⟨v,hv⟩:=heo
      exact ⟨v,by rw [hbe]; exact hv⟩
    · refine (ok b u q).stay (fun c v hc r=>k c v ?_ r) (fun c r=>by rw [Q7 (nown c b r)]; exact r) fun c xs r=>by rw [Q7 (ntup c xs r)]; exact r
      rcases hc with rfl | hc
      · exact hbe
      · rintro rfl
        rcases he with z | z
        · exact nown c b hc z
        · rw [hc] at z; cases z; exact hb rfl
end
structure Un (fs ex:List Addr) (H H':Hp) (h h':Heap):Prop where
  keep:∀ b o,h.get? b=some o->H b=none->b∉fs->b∉ex->h'.get? b=some o
  slot:∀ b o,h.get? b=some o->H b=none->b∈fs->b∉ex->∃ sl,h'.get? b=some { o with slots:=sl }
  free:∀ b o,h.get? b=some o->H b=none->b∉ex->H' b=none
  there:∀ b o,h.get? b=some o->b∉ex->∃ o',h'.get? b=some o'
  tups:∀ b xs,H b=some (.tup xs)->H' b=some (.tup xs)
  frzs:∀ b o u,H b=some (.frz o u)->H' b=some (.frz o u)
  tbls:∀ b ps,H b=some (.tbl ps)->∃ more,H' b=some (.tbl (ps ++ more))
section
variable {fs fs' ex ex':List Addr} {H H1 H2:Hp} {h h1 h2 h':Heap} {a x e:Addr} {o:HO}
theorem Un.any (u:Un fs ex H H1 h h1) {b:Addr} {ob:Obj} (q:h.get? b=some ob) (n:H b=none) (hx:b∉ex):∃ sl,h1.get? b=some { ob with slots:=sl }:=by
  by_cases hb:b∈fs
  · exact u.slot b ob q n hb hx
  · exact ⟨ob.slots,u.keep b ob q n hb hx⟩
theorem Un.kept (k:∀ b u,h.get? b=some u->h'.get? b=some u):Un fs ex H H h h':=
  ⟨fun b ob q _ _ _=>k b ob q,fun b ob q _ _ _=>⟨ob.slots,k b ob q⟩,fun _ _ _ n _=>n,fun b ob q _=>⟨ob,k b ob q⟩,fun _ _ q=>q,fun _ _ _ q=>q,fun _ ps q=>⟨#[],by rw [q]; simp⟩⟩
theorem Un.refl:Un fs ex H H h h:=Un.kept fun _ _ q=>q
theorem Un.laid (k:∀ b u,h.get? b=some u->h'.get? b=some u) (hp:h.objs.size<=a) (hn:H a=none):Un fs ex H (upd H a o) h h' where
  keep:=fun b u q _ _ _=>k b u q
  slot:=fun b u q _ _ _=>⟨u.slots,k b u q⟩
  free:=fun b u q n _=>by rw [Q7 (D7 (D2 (O7 q) hp))]; exact n
  there:=fun b u q _=>⟨u,k b u q⟩
  tups:=fun b xs q=>by rw [Q7 (Q9 q hn)]; exact q
  frzs:=fun b u xs q=>by rw [Q7 (Q9 q hn)]; exact q
  tbls:=fun b ps q=>⟨#[],by rw [Q7 (Q9 q hn),q]; simp⟩
theorem Un.write (mu:Mut (H x)) (he:e=x\/H e=some (.own x)) (k:∀ b u,b≠e->h.get? b=some u->h'.get? b=some u) (heo:∃ u,h'.get? e=some u):Un fs ex H (upd H x o) h h':=by
  have hx:∀ b,H b=none->b≠x:=fun b n z=>by subst z; rw [n] at mu; exact mu
  have hb:∀ b,H b=none->b≠e:=fun b n z=>by
    subst z
    rcases he with r | r
    · exact hx b n r
    · rw [n] at r; cases r
  have hm:∀ b u,H b=some u->¬ Mut (some u)->b≠x:=fun b u q nm z=>by subst z; rw [q] at mu; exact nm mu
  refine ⟨fun b u q n _ _=>k b u (hb b n) q,fun b u q n _ _=>⟨u.slots,k b u (hb b n) q⟩,fun b u q n _=>by rw [Q7 (hx b n)]; exact n,fun b u q _=>?_,
    fun b xs q=>by rw [Q7 (hm b _ q fun z=>z)]; exact q,fun b u xs q=>by rw [Q7 (hm b _ q fun z=>z)]; exact q,fun b ps q=>⟨#[],by rw [Q7 (hm b _ q fun z=>z),q]; simp⟩⟩
  by_cases hbe:b=e
  · subst hbe; exact heo
  · exact ⟨u,k b u hbe q⟩
end
def trk (h:Heap) (H:Hp):List Addr:=(List.range h.objs.size).filter fun a=>(H a).isSome
def hidT (h:Heap) (H:Hp):Heap:=PySem.W.hideAll h (trk h H)
theorem hidT_size (h:Heap) (H:Hp):(hidT h H).objs.size=h.objs.size:=PySem.W.hideAll_size _ _
theorem hidT_get {h:Heap} {H:Hp} {b:Addr} {o:Obj} (e:h.get? b=some o) (n:H b=none):(hidT h H).get? b=some o:=
  PySem.W.hideAll_get _ e fun hm=>by
    have q:(H b).isSome=true:=(List.mem_filter.mp hm).2
    rw [n] at q; simp at q
theorem of_hidT {h:Heap} {H:Hp} {b:Addr} {o:Obj} (e:(hidT h H).get? b=some o):h.get? b=some o/\H b=none:=by
  have e':h.get? b=some o:=PySem.W.of_hideAll (trk h H) e
  refine ⟨e',?_⟩
  cases q:H b with
  | none=>rfl
  | some x=>
    have hm:b∈trk h H:=List.mem_filter.mpr ⟨List.mem_range.mpr (O7 e'),by simp [q]⟩
    have z:(hidT h H).get? b=none:=PySem.W.hideAll_none (trk h H) hm
    rw [z] at e; cases e
def allNews (g h:Heap) (L:Addr):List (Addr × Obj):=(List.range h.objs.size).filterMap fun a=>if a=L\/(g.get? a).isSome=true then none else (h.get? a).map fun o=>(a,o)
def rest (g h:Heap) (L d:Addr):List (Addr × Obj):=(allNews g h L).filter fun p=>decide (p.1≠d)
end L2
namespace L2
open PySem PySem.Spec PyProof.Rows
structure Mod (K:PySem.W.Frag) (mg:Str->Option Value) (base:Heap):Prop where
  kin:K.In base
  glob:base.Ns mainGlobals mg
  blt:∃ mb,base.Ns builtinsNs mb/\∀ x:Str,x≠"__name__" -> mb x=bootBuiltins x
  nolimit:base.NoLimit
structure Cx where
  prog:Program
  w:World
  K:PySem.W.Frag
  mg:Str->Option Value
  base:Heap
  A:Around
  N:List Str
  s₀:Shared
  H₀:Hp
  env:Env
  outer:List Env
  stack:List Env
  ex:List Addr
  fn:Str->Bool
  calm:Bool
  pn:List (Addr × Obj)
  xe:Value->Shared->Prop
def frs (l:List Env):List Addr:=l.filterMap (·.frame)
abbrev Cx.fs (X:Cx):List Addr:=frs X.outer
def Vis (sc:Scope) (x:Str):Prop:=sc.names.lookup x=some .local\/sc.names.lookup x=some .cell\/sc.names.lookup x=some .free
def Loc (sc:Scope) (x:Str):Prop:=sc.names.lookup x=some .local\/sc.names.lookup x=some .cell
def Look (env:Env) (h:Heap) (m:Str->Option Value) (x:Str) (u:Value):Prop:=
  (env.kindOf x=some .local/\m x=some u)\/((env.kindOf x=some .cell\/env.kindOf x=some .free)/\∃ c,env.cells.lookup x=some c/\h.IsCell c (some u))
structure Cx.Ok (X:Cx):Prop where
  mod:Mod X.K X.mg X.base
  kind:X.env.scope.kind=.function
  glob:X.env.globals=mainGlobals
  blt:X.env.builtins=builtinsNs
  above:X.s₀.heap.objs.size<=X.env.locals
  inj:∀ x y c,X.env.cells.lookup x=some c->X.env.cells.lookup y=some c->x=y
  has:∀ x,(X.env.kindOf x=some .cell\/X.env.kindOf x=some .free)->∃ c,X.env.cells.lookup x=some c
  cab:∀ x c,X.fn x=true->X.env.cells.lookup x=some c->X.s₀.heap.objs.size<=c
  hd:X.calm=true->X.A.handled=none
  frames:X.A.frames=some X.stack
  stk:X.stack=X.outer\/(X.stack=X.env :: X.outer/\X.env.frame=some X.env.locals)
  exf:∀ b∈X.ex,b≠X.env.locals/\∀ x c,X.env.cells.lookup x=some c->c≠b
  bs:∀ b o,X.base.get? b=some o->X.s₀.heap.get? b=some o/\X.H₀ b=none
  bsz:X.base.objs.size<=X.s₀.heap.objs.size
  noex:∀ b o,X.base.get? b=some o->b∉X.ex
  exfs:∀ b∈X.ex,b∉X.fs
  funs:X.s₀.heap.FunFrames X.base X.outer
  frf:∀ b∈X.fs,X.H₀ b=none
structure Inv (X:Cx) (pins:List (Addr × Obj)) (σ:List (Option V)) (H:Hp) (s:Shared):Prop where
  ok:X.Ok
  os:s.os=X.s₀.os
  bare:AllBare s.gens
  base:Un X.fs X.ex X.H₀ H X.s₀.heap s.heap
  loc:∃ m,s.heap.Ns X.env.locals m/\∀ (i:Nat) (x:Str) (v:V),X.N[i]?=some x->σ[i]?=some (some v)->Vis X.env.scope x->∃ u,RelV v u/\Look X.env s.heap m x u
  cell:∀ x c,X.env.cells.lookup x=some c->∃ v,s.heap.IsCell c v
  free:H X.env.locals=none
  freeC:∀ x c,X.env.cells.lookup x=some c->H c=none
  pin:∀ p∈X.pn ++ pins,s.heap.get? p.1=some p.2/\H p.1=none/\p.1≠X.env.locals/\p.1∉X.fs/\∀ v,p.2.data≠.cell v
  hok:HOk X.prog X.w H s.heap
  len:σ.length=X.N.length
section
variable {X:Cx} {pins:List (Addr × Obj)} {σ:List (Option V)} {H H':Hp} {s:Shared} {h':Heap}
theorem Cx.Ok.nofr (ok:X.Ok) {b:Addr} {o:Obj} (e:X.base.get? b=some o):b∉X.fs:=fun hb=>by
  have:=(ok.funs.mem hb).1
  rw [e] at this; cases this
theorem Inv.bs (I:Inv X pins σ H s):∀ b o,X.base.get? b=some o->s.heap.get? b=some o/\H b=none:=fun b o e=>
  ⟨I.base.keep b o (I.ok.bs b o e).1 (I.ok.bs b o e).2 (I.ok.nofr e) (I.ok.noex b o e),I.base.free b o (I.ok.bs b o e).1 (I.ok.bs b o e).2 (I.ok.noex b o e)⟩
theorem Inv.bk (I:Inv X pins σ H s):∀ b o,X.base.get? b=some o->s.heap.get? b=some o:=fun b o e=>(I.bs b o e).1
theorem Inv.mod (I:Inv X pins σ H s):Mod X.K X.mg X.base:=I.ok.mod
theorem Inv.kIn (I:Inv X pins σ H s):X.K.In s.heap:=I.ok.mod.kin.keeps I.bk
theorem Inv.lt (I:Inv X pins σ H s):X.env.locals < s.heap.objs.size:=let ⟨_,hn,_⟩:=I.loc; hn.lt
theorem Inv.sz (I:Inv X pins σ H s):X.s₀.heap.objs.size<=s.heap.objs.size:=E2 I.ok.above (Nat.le_of_lt I.lt)
theorem Inv.nofs (I:Inv X pins σ H s) {a:Addr} (h:s.heap.objs.size<=a):a∉X.fs:=fun hb=>by
  obtain ⟨_,o,ho,_⟩:=I.ok.funs.mem hb
  exact absurd (D2 (O7 ho) (E2 I.sz h)) (Nat.lt_irrefl _)
theorem Inv.cne (I:Inv X pins σ H s):∀ x c,X.env.cells.lookup x=some c->c≠X.env.locals:=fun x c e z=>by
  obtain ⟨v,o,ho,hd⟩:=I.cell x c e
  obtain ⟨m,⟨o',es,ep,ho',hd',_⟩,_⟩:=I.loc
  rw [z,ho'] at ho; cases ho; rw [hd'] at hd; cases hd
theorem Inv.funs (I:Inv X pins σ H s):s.heap.FunFrames X.base X.outer:=by
  have all:∀ (l:List Env),(∀ b∈frs l,b∈X.fs)->X.s₀.heap.FunFrames X.base l->s.heap.FunFrames X.base l:=by
    intro l
    induction l with
    | nil=>intro _ _; trivial
    | cons env r ih=>
      intro hs hl
      obtain ⟨hk,⟨L,o,hf,hn,ho,hd⟩,hr⟩:=hl
      have hL:L∈X.fs:=hs L (by unfold frs; rw [List.filterMap_cons,hf]; exact E4)
      obtain ⟨sl,e⟩:=I.base.slot L o ho (I.ok.frf L hL) hL fun z=>I.ok.exfs L z hL
      exact ⟨hk,⟨L,_,hf,hn,e,hd⟩,ih (fun b hb=>hs b (by unfold frs; rw [List.filterMap_cons,hf]; exact D4 _ hb)) hr⟩
  exact all X.outer (fun _ hb=>hb) I.ok.funs
theorem Inv.stack (I:Inv X pins σ H s):s.heap.FunFrames X.base X.stack:=by
  rcases I.ok.stk with e | ⟨e,hf⟩
  · rw [e]; exact I.funs
  · rw [e]
    obtain ⟨m,hn,_⟩:=I.loc
    refine .cons (by rw [I.ok.kind]; decide) hf hn ?_ I.funs
    exact Heap.get?_none_of_le (E2 I.ok.bsz I.ok.above)
theorem Inv.stkSub (I:Inv X pins σ H s):∀ b∈frs X.stack,b∈X.env.locals :: X.fs:=fun b hb=>by
  rcases I.ok.stk with e | ⟨e,hf⟩
  · rw [e] at hb; exact D4 _ hb
  · rw [e] at hb
    unfold frs at hb
    rw [List.filterMap_cons,hf] at hb
    exact hb
theorem Inv.stkFree (I:Inv X pins σ H s):∀ b∈frs X.stack,H b=none:=fun b hb=>by
  rcases D6.mp (I.stkSub b hb) with e | hb
  · rw [e]; exact I.free
  · obtain ⟨_,o,ho,_⟩:=I.ok.funs.mem hb
    exact I.base.free b o ho (I.ok.frf b hb) fun z=>I.ok.exfs b z hb
theorem Inv.step {g':Array GenState} {t':Nat} {d':Drawn} {ch:List Addr} (I:Inv X pins σ H s)
    (hch:∀ b∈ch,(b∈X.ex\/X.s₀.heap.objs.size<=b)/\b≠X.env.locals/\(∀ x c,X.env.cells.lookup x=some c->c≠b)/\∀ p∈X.pn ++ pins,p.1≠b)
    (keep:∀ b o,b≠X.env.locals->b∉X.fs->b∉ch->s.heap.get? b=some o->H b=none->h'.get? b=some o)
    (slot:∀ b o,b≠X.env.locals->b∈X.fs->b∉ch->s.heap.get? b=some o->H b=none->∃ sl,h'.get? b=some { o with slots:=sl }) (free:∀ b o,b∉ch->s.heap.get? b=some o->H b=none->H' b=none)
    (there:∀ b o,b∉ch->s.heap.get? b=some o->∃ o',h'.get? b=some o')
    (tups:∀ b xs,H b=some (.tup xs)->H' b=some (.tup xs)) (frzs:∀ b o u,H b=some (.frz o u)->H' b=some (.frz o u)) (tbls:∀ b ps,H b=some (.tbl ps)->∃ more,H' b=some (.tbl (ps ++ more)))
    (ns:∀ m,s.heap.Ns X.env.locals m->h'.Ns X.env.locals m) (hok:HOk X.prog X.w H' h') (hg:AllBare g') :
    Inv X pins σ H' { s with heap:=h',gens:=g',drawn:=d',toks:=t' }:=by
  have neL:∀ b o,X.s₀.heap.get? b=some o->b≠X.env.locals:=fun b o e=>D7 (D2 (O7 e) I.ok.above)
  have neC:∀ b o,X.s₀.heap.get? b=some o->b∉X.ex->b∉ch:=fun b o e hx hb=>by
    rcases (hch b hb).1 with z | z
    · exact hx z
    · exact absurd (D2 (O7 e) z) (Nat.lt_irrefl _)
  have cellK:∀ x c,X.env.cells.lookup x=some c->∀ v,s.heap.IsCell c v->h'.IsCell c v:=fun x c e v ⟨o,ho,hd⟩=>by
    have nch:c∉ch:=fun z=>(hch c z).2.2.1 x c e rfl
    by_cases hc:c∈X.fs
    · obtain ⟨sl,q⟩:=slot c o (I.cne x c e) hc nch ho (I.freeC x c e)
      exact ⟨_,q,hd⟩
    · exact ⟨o,keep c o (I.cne x c e) hc nch ho (I.freeC x c e),hd⟩
  refine ⟨I.ok,I.os,hg,⟨fun b o e n hb hx=>?_,fun b o e n hb hx=>?_,fun b o e n hx=>?_,fun b o e hx=>?_,fun b xs e=>tups b xs (I.base.tups b xs e),fun b o xs e=>frzs b o xs (I.base.frzs b o xs e),fun b ps e=>?_⟩,?_,fun x c e=>?_,?_,fun x c e=>?_,fun p hp=>?_,hok,I.len⟩
  · exact keep b o (neL b o e) hb (neC b o e hx) (I.base.keep b o e n hb hx) (I.base.free b o e n hx)
  · obtain ⟨sl,e1⟩:=I.base.slot b o e n hb hx
    obtain ⟨sl',e2⟩:=slot b _ (neL b o e) hb (neC b o e hx) e1 (I.base.free b o e n hx)
    exact ⟨sl',e2⟩
  · obtain ⟨o',e1⟩:=I.base.there b o e hx
    exact free b o' (neC b o e hx) e1 (I.base.free b o e n hx)
  · obtain ⟨o',e1⟩:=I.base.there b o e hx
    exact there b o' (neC b o e hx) e1
  · obtain ⟨m1,e1⟩:=I.base.tbls b ps e
    obtain ⟨m2,e2⟩:=tbls b _ e1
    exact ⟨m1 ++ m2,by rw [e2,Array.append_assoc]⟩
  · obtain ⟨m,hn,hl⟩:=I.loc
    refine ⟨m,ns m hn,fun i x v e1 e2 e3=>?_⟩
    obtain ⟨u,r,l⟩:=hl i x v e1 e2 e3
    refine ⟨u,r,?_⟩
    rcases l with l | ⟨k,c,e,z⟩
    · exact .inl l
    · exact .inr ⟨k,c,e,cellK x c e _ z⟩
  · obtain ⟨v,z⟩:=I.cell x c e
    exact ⟨v,cellK x c e v z⟩
  · obtain ⟨m,⟨o,_,_,ho,_⟩,_⟩:=I.loc
    exact free _ o (fun z=>(hch _ z).2.1 rfl) ho I.free
  · obtain ⟨v,o,ho,hd⟩:=I.cell x c e
    exact free c o (fun z=>(hch c z).2.2.1 x c e rfl) ho (I.freeC x c e)
  · obtain ⟨e,n,ne,nf,d⟩:=I.pin p hp
    have nch:p.1∉ch:=fun z=>(hch p.1 z).2.2.2 p hp rfl
    exact ⟨keep p.1 p.2 ne nf nch e n,free p.1 p.2 nch e n,ne,nf,d⟩
theorem Inv.un {t':Nat} (I:Inv X pins σ H s) (u:Un X.fs [] H H' s.heap h') (hok:HOk X.prog X.w H' h'):Inv X pins σ H' { s with heap:=h',toks:=t' }:=by
  obtain ⟨m,⟨o,es,ep,ho,r⟩,_⟩:=id I.loc
  obtain ⟨sl,hL⟩:=u.any ho I.free (by simp)
  exact I.step (g':=s.gens) (d':=s.drawn) (ch:=[]) (fun _ z=>nomatch z) (fun b o _ hb _ e n=>u.keep b o e n hb (by simp)) (fun b o _ hb _ e n=>u.slot b o e n hb (by simp)) (fun b o _ e n=>u.free b o e n (by simp)) (fun b o _ e=>u.there b o e (by simp)) u.tups u.frzs u.tbls (fun m' hm=>by
    obtain ⟨o',es',ep',ho',r'⟩:=hm
    rw [ho] at ho'; cases ho'
    exact ⟨_,es',ep',hL,r'⟩) hok I.bare
theorem Inv.call {g':Array GenState} {t':Nat} {d':Drawn} {ch:List Addr} (I:Inv X pins σ H s) (u:Un (frs X.stack) ch H H' s.heap h') (hok:HOk X.prog X.w H' h') (hg:AllBare g')
    (hch:∀ b∈ch,(b∈X.ex\/X.s₀.heap.objs.size<=b)/\b≠X.env.locals/\(∀ x c,X.env.cells.lookup x=some c->c≠b)/\∀ p∈X.pn ++ pins,p.1≠b) :
    Inv X pins σ H' { s with heap:=h',gens:=g',drawn:=d',toks:=t' }:=by
  obtain ⟨m,⟨o,es,ep,ho,r⟩,_⟩:=id I.loc
  obtain ⟨sl,hL⟩:=u.any ho I.free fun z=>(hch _ z).2.1 rfl
  exact I.step (ch:=ch) hch (fun b o hL hb hc e n=>u.keep b o e n (fun z=>(D6.mp (I.stkSub b z)).elim hL hb) hc) (fun b o _ _ hc e n=>u.any e n hc) (fun b o hc e n=>u.free b o e n hc) (fun b o hc e=>u.there b o e hc) u.tups u.frzs u.tbls (fun m' hm=>by
    obtain ⟨o',es',ep',ho',r'⟩:=hm
    rw [ho] at ho'; cases ho'
    exact ⟨_,es',ep',hL,r'⟩) hok hg
theorem Inv.turned {t':Nat} {it:Addr} (I:Inv X pins σ H s) (k:∀ b o,b≠it->s.heap.get? b=some o->h'.get? b=some o) (hn:H it=none) (hL:it≠X.env.locals)
    (h1:it∈X.ex\/X.s₀.heap.objs.size<=it) (h2:∀ x c,X.env.cells.lookup x=some c->c≠it) (h3:∀ p∈X.pn ++ pins,p.1≠it):Inv X pins σ H { s with heap:=h',toks:=t' }:=by
  have nit:∀ b u,H b=some u->b≠it:=fun b u e z=>by rw [z,hn] at e; cases e
  refine I.step (g':=s.gens) (d':=s.drawn) (ch:=[it]) (fun b hb=>?_) (fun b o _ _ hc e _=>k b o (fun z=>hc (by simp [z])) e) (fun b o _ _ hc e _=>⟨o.slots,k b o (fun z=>hc (by simp [z])) e⟩) (fun _ _ _ _ n=>n)
    (fun b o hc e=>⟨o,k b o (fun z=>hc (by simp [z])) e⟩) (fun _ _ e=>e) (fun _ _ _ e=>e) (fun b ps e=>⟨#[],by rw [e]; simp⟩) (fun m hm=>?_) (fun b u e=>?_) I.bare
  · have e:b=it:=by simpa using hb
    subst e
    exact ⟨h1,hL,h2,h3⟩
  · obtain ⟨o,es,ep,ho,r⟩:=hm
    exact ⟨o,es,ep,k _ o (Ne.symm hL) ho,r⟩
  · refine (I.hok b u e).stay (fun c v hc q=>k c v ?_ q) (fun _ q=>q) fun _ _ q=>q
    rcases hc with z | z
    · rw [z]; exact nit b u e
    · exact nit c _ z
theorem Inv.tok (I:Inv X pins σ H s) (t:Nat):Inv X pins σ H { s with toks:=t }:=I.un (h':=s.heap) (t':=t) Un.refl I.hok
theorem Inv.kept {t':Nat} (I:Inv X pins σ H s) (k:∀ b u,s.heap.get? b=some u->h'.get? b=some u):Inv X pins σ H { s with heap:=h',toks:=t' }:=I.un (Un.kept k) (I.hok.kept k)
theorem Inv.laid {a:Addr} {o:HO} {t':Nat} (I:Inv X pins σ H s) (k:∀ b u,s.heap.get? b=some u->h'.get? b=some u) (hp:s.heap.objs.size<=a) (new:ObjOk X.prog X.w (upd H a o) h' a o) :
    Inv X pins σ (upd H a o) { s with heap:=h',toks:=t' }:=I.un (Un.laid k hp (I.hok.fresh hp)) (I.hok.laid k hp new)
theorem Inv.write {x e:Addr} {o:HO} {t':Nat} (I:Inv X pins σ H s) (mu:Mut (H x)) (he:e=x\/H e=some (.own x)) (k:∀ b u,b≠e->s.heap.get? b=some u->h'.get? b=some u) (heo:∃ u,h'.get? e=some u)
    (new:ObjOk X.prog X.w (upd H x o) h' x o):Inv X pins σ (upd H x o) { s with heap:=h',toks:=t' }:=I.un (Un.write mu he k heo) (I.hok.write mu he k heo new)
theorem Inv.pins_of {pins':List (Addr × Obj)} (I:Inv X pins σ H s) (h:∀ p∈pins',s.heap.get? p.1=some p.2/\H p.1=none/\p.1≠X.env.locals/\p.1∉X.fs/\∀ v,p.2.data≠.cell v):Inv X pins' σ H s:=
  ⟨I.ok,I.os,I.bare,I.base,I.loc,I.cell,I.free,I.freeC,fun p hp=>(E7.mp hp).elim (fun z=>I.pin p (G7 _ z)) (h p),I.hok,I.len⟩
theorem Q0y {N:List Str} (hN:N.Nodup) {i j:Nat} {x:Str} (a:N[i]?=some x) (b:N[j]?=some x):i=j:=by
  obtain ⟨h1,e1⟩:=O0.mp a
  obtain ⟨h2,e2⟩:=O0.mp b
  exact (List.getElem_inj hN).mp (e1.trans e2.symm)
theorem store_ok2 {M:Model} {A:Around} {E:Value->Shared->Prop} {i:Nat} {x:Str} {v:V} {u:Value} {Q:Unit->Shared->Prop} (I:Inv X pins σ H s) (hN:X.N.Nodup) (hi:X.N[i]?=some x) (hx:Loc X.env.scope x) (r:RelV v u)
    (h:∀ s',Inv X pins (σ.set i (some v)) H s'->(∃ a,Heap.SameBut a s.heap s'.heap/\(a=X.env.locals\/X.env.cells.lookup x=some a))->Q () s') (hf:X.fn x=true\/X.env.scope.names.lookup x=some .local:=by first | exact .inl rfl | exact .inr rfl | assumption):wpAny M A (storeName X.env x u) Q E s:=by
  obtain ⟨m,hn,hl⟩:=id I.loc
  have hcls:(X.env.scope.kind == .class || (X.env.scope.kind == .module && X.env.locals != X.env.globals))=false:=by rw [I.ok.kind]; rfl
  have hiσ:i < σ.length:=by rw [I.len]; exact (O0.mp hi).1
  have cne:=I.cne
  have tracked:∀ {a:Addr} {h':Heap},(∃ o,s.heap.get? a=some o/\H a=none)->Heap.SameBut a s.heap h'->HOk X.prog X.w H h':=fun {a h'} ha hs b ob e=>by
    obtain ⟨_,_,hfree⟩:=ha
    refine (I.hok b ob e).stay (fun c w' hc q=>(hs.2 c ?_).trans q) (fun _ q=>q) fun _ _ q=>q
    rintro rfl
    rcases hc with rfl | hc
    · rw [hfree] at e; cases e
    · rw [hfree] at hc; cases hc
  rcases hx with hk | hk
  · refine wpAny_storeName_local hk hn (fun h' hn' hs=>?_) hcls
    obtain ⟨oL,_,_,hoL,_⟩:=id hn
    refine h _ ⟨I.ok,I.os,I.bare,⟨fun b o e n hb hx=>?_,fun b o e n hb hx=>?_,I.base.free,fun b o e hx=>?_,I.base.tups,I.base.frzs,I.base.tbls⟩,⟨_,hn',fun j y v' e1 e2 e3=>?_⟩,fun y c e=>?_,I.free,I.freeC,fun p hp=>?_,tracked ⟨oL,hoL,I.free⟩ hs,by simpa using I.len⟩ ⟨_,hs,.inl rfl⟩
    · exact (hs.2 b (D7 (D2 (O7 e) I.ok.above))).trans (I.base.keep b o e n hb hx)
    · obtain ⟨sl,e1⟩:=I.base.slot b o e n hb hx
      exact ⟨sl,(hs.2 b (D7 (D2 (O7 e) I.ok.above))).trans e1⟩
    · obtain ⟨o',e1⟩:=I.base.there b o e hx
      exact ⟨o',(hs.2 b (D7 (D2 (O7 e) I.ok.above))).trans e1⟩
    · by_cases hj:j=i
      · subst hj
        rw [hi] at e1; cases e1
        rw [D9 hiσ] at e2
        cases e2
        exact ⟨u,r,.inl ⟨hk,by simp⟩⟩
      · rw [E3 (Ne.symm hj)] at e2
        obtain ⟨u',r',q⟩:=hl j y v' e1 e2 e3
        refine ⟨u',r',?_⟩
        rcases q with ⟨k,e⟩ | ⟨k,c,e,z⟩
        · refine .inl ⟨k,?_⟩
          have:y≠x:=fun e=>hj (Q0y hN e1 (e ▸ hi))
          simp [this,e]
        · exact .inr ⟨k,c,e,z.sameBut hs (cne y c e)⟩
    · obtain ⟨w',z⟩:=I.cell y c e
      exact ⟨w',z.sameBut hs (cne y c e)⟩
    · obtain ⟨e,n,ne,nf,d⟩:=I.pin p hp
      exact ⟨(hs.2 p.1 ne).trans e,n,ne,nf,d⟩
  · have hfn:X.fn x=true:=by
      rcases hf with z | z
      · exact z
      · rw [z] at hk; cases hk
    obtain ⟨c,hc⟩:=I.ok.has x (.inl hk)
    obtain ⟨w',z⟩:=I.cell x c hc
    refine wpAny_storeName_cell I.ok.kind hk hc z (fun h' hc' hs=>?_)
    obtain ⟨oc,hoc,hocd⟩:=id z
    refine h { s with heap:=h' } ⟨I.ok,I.os,I.bare,⟨fun b o e n hb hx=>?_,fun b o e n hb hx=>?_,I.base.free,fun b o e hx=>?_,I.base.tups,I.base.frzs,I.base.tbls⟩,⟨m,hn.sameBut hs (Ne.symm (cne x c hc)),fun j y v' e1 e2 e3=>?_⟩,fun y c' e=>?_,I.free,I.freeC,fun p hp=>?_,tracked ⟨oc,hoc,I.freeC x c hc⟩ hs,by simpa using I.len⟩ ⟨c,hs,.inr hc⟩
    · exact (hs.2 b (D7 (D2 (O7 e) (I.ok.cab x c hfn hc)))).trans (I.base.keep b o e n hb hx)
    · obtain ⟨sl,e1⟩:=I.base.slot b o e n hb hx
      exact ⟨sl,(hs.2 b (D7 (D2 (O7 e) (I.ok.cab x c hfn hc)))).trans e1⟩
    · obtain ⟨o',e1⟩:=I.base.there b o e hx
      exact ⟨o',(hs.2 b (D7 (D2 (O7 e) (I.ok.cab x c hfn hc)))).trans e1⟩
    · by_cases hj:j=i
      · subst hj
        rw [hi] at e1; cases e1
        rw [D9 hiσ] at e2
        cases e2
        exact ⟨u,r,.inr ⟨.inl hk,c,hc,hc'⟩⟩
      · rw [E3 (Ne.symm hj)] at e2
        obtain ⟨u',r',q⟩:=hl j y v' e1 e2 e3
        refine ⟨u',r',?_⟩
        rcases q with q | ⟨k,c',e,z'⟩
        · exact .inl q
        · refine .inr ⟨k,c',e,z'.sameBut hs ?_⟩
          rintro rfl
          exact hj (Q0y hN e1 (I.ok.inj _ _ _ e hc ▸ hi))
    · by_cases hcc:c'=c
      · subst hcc; exact ⟨_,hc'⟩
      · obtain ⟨w2,z2⟩:=I.cell y c' e
        exact ⟨w2,z2.sameBut hs hcc⟩
    · obtain ⟨e,n,ne,nf,d⟩:=I.pin p hp
      refine ⟨(hs.2 p.1 ?_).trans e,n,ne,nf,d⟩
      intro q
      rw [q,hoc] at e
      have q':oc=p.2:=Option.some.inj e
      exact d w' (by rw [<- q']; exact hocd)
theorem Q04 {M:Model} {A:Around} {E:Value->Shared->Prop} {i:Nat} {x:Str} {v:V} {u:Value} {Q:Unit->Shared->Prop} (I:Inv X pins σ H s) (hN:X.N.Nodup) (hi:X.N[i]?=some x) (hx:Loc X.env.scope x) (r:RelV v u)
    (h:∀ s',Inv X pins (σ.set i (some v)) H s'->Q () s') (hf:X.fn x=true\/X.env.scope.names.lookup x=some .local:=by first | exact .inl rfl | exact .inr rfl | assumption):wpAny M A (storeName X.env x u) Q E s:=
  store_ok2 I hN hi hx r (fun s' I' _=>h s' I') hf
theorem Inv.call' {s':Shared} {ch:List Addr} (I:Inv X pins σ H s) (ho:s'.os=s.os) (u:Un (frs X.stack) ch H H' s.heap s'.heap) (hok:HOk X.prog X.w H' s'.heap) (hg:AllBare s'.gens)
    (hch:∀ b∈ch,(b∈X.ex\/X.s₀.heap.objs.size<=b)/\b≠X.env.locals/\(∀ x c,X.env.cells.lookup x=some c->c≠b)/\∀ p∈X.pn ++ pins,p.1≠b):Inv X pins σ H' s':=by
  obtain ⟨h',g',d',t',o'⟩:=s'
  have e:o'=s.os:=ho
  subst e
  exact I.call (g':=g') (t':=t') (d':=d') u hok hg hch
end
abbrev XK:=Value->Option Addr->Hp->Prop
abbrev St:=List (Option V)
abbrev VK:=V->Hp->Prop
abbrev TE:=St->Hp->VK->Prop
abbrev TT:=St->Hp->(Bool->Hp->Prop)->Prop
abbrev TA:=St->Hp->(List V->Hp->Prop)->Prop
structure Ends where
  nx:St->Hp->Prop
  rt:VK
  bk:St->Hp->Prop:=fun _ _=>False
  ct:St->Hp->Prop:=fun _ _=>False
abbrev TS:=Ends->St->Hp->Prop
def EP (X:Cx) (pins:List (Addr × Obj)) (σ:St) (Q:VK) (u:Value) (s':Shared):Prop:=∃ v H',Inv X pins σ H' s'/\RelV v u/\Q v H'
def TP (X:Cx) (pins:List (Addr × Obj)) (σ:St) (Q:Bool->Hp->Prop) (b:Bool) (s':Shared):Prop:=∃ H',Inv X pins σ H' s'/\Q b H'
def AP (X:Cx) (pins:List (Addr × Obj)) (σ:St) (Q:List V->Hp->Prop) (us:List Value) (s':Shared):Prop:=∃ vs H',Inv X pins σ H' s'/\Vals vs us/\Q vs H'
def SP (X:Cx) (pins:List (Addr × Obj)) (D:Ends) (f:Flow) (s':Shared):Prop:=
  match f with
  | .next=>∃ σ' H',Inv X pins σ' H' s'/\D.nx σ' H'
  | .brk=>∃ σ' H',Inv X pins σ' H' s'/\D.bk σ' H'
  | .cont=>∃ σ' H',Inv X pins σ' H' s'/\D.ct σ' H'
  | .ret u=>∃ v σ' H',Inv X pins σ' H' s'/\RelV v u/\D.rt v H'
def PE (X:Cx) (e:Expr) (t:TE):Prop:=
  ∀ (pins:List (Addr × Obj)) (s:Shared) (σ:St) (H:Hp) (Q:VK),Inv X pins σ H s->t σ H Q->wpAny (model X.prog X.w) X.A (eval e X.env) (EP X pins σ Q) X.xe s
def PT (X:Cx) (e:Expr) (t:TT):Prop:=
  ∀ (pins:List (Addr × Obj)) (s:Shared) (σ:St) (H:Hp) (Q:Bool->Hp->Prop),Inv X pins σ H s->t σ H Q->wpAny (model X.prog X.w) X.A (isTrue e X.env (eval e X.env)) (TP X pins σ Q) X.xe s
def PW (X:Cx) (e:Expr) (t:TT):Prop:=
  ∀ (whole:Sem Value) (pins:List (Addr × Obj)) (s:Shared) (σ:St) (H:Hp) (Q:Bool->Hp->Prop),Inv X pins σ H s->t σ H Q->wpAny (model X.prog X.w) X.A (isTrue e X.env whole) (TP X pins σ Q) X.xe s
theorem PW.pt {X:Cx} {e:Expr} {t:TT} (h:PW X e t):PT X e t:=h _
def PA (X:Cx) (es:List Expr) (t:TA):Prop:=
  ∀ (pos:Pos) (pins:List (Addr × Obj)) (s:Shared) (σ:St) (H:Hp) (Q:List V->Hp->Prop),Inv X pins σ H s->t σ H Q->wpAny (model X.prog X.w) X.A (spliced (backTo pos (starEach es X.env))) (AP X pins σ Q) X.xe s
def PS (X:Cx) (st:Stmt) (t:TS):Prop:=
  ∀ (pins:List (Addr × Obj)) (s:Shared) (σ:St) (H:Hp) (D:Ends),Inv X pins σ H s->t D σ H->wpAny (model X.prog X.w) X.A (exec st X.env) (SP X pins D) X.xe s
def PSs (X:Cx) (st:List Stmt) (t:TS):Prop:=
  ∀ (pins:List (Addr × Obj)) (s:Shared) (σ:St) (H:Hp) (D:Ends),Inv X pins σ H s->t D σ H->wpAny (model X.prog X.w) X.A (execs st X.env) (SP X pins D) X.xe s
theorem thn {α:Type} {t:Sem α} {Q Q':α->Shared->Prop} {M:Model} {A:Around} {E:Value->Shared->Prop} {s:Shared} (h:wpAny M A t Q E s) (hQ:∀ a s,Q a s->Q' a s):wpAny M A t Q' E s:=wpAny_mono h hQ fun _ _ x=>x
end L2
namespace L2
open PySem PySem.Spec PyProof.Rows
section
variable {X:Cx}
def tVar (i:Nat):TE:=fun σ H Q=>∃ v,σ[i]?=some (some v)/\Q v H
def tC (v:V):TE:=fun _ H Q=>Q v H
theorem pe_var {i:Nat} {x:Str} {pos:Pos} (hN:X.N[i]?=some x) (hv:Vis X.env.scope x) (hd:(x == ("__debug__" : Str))=false:=by decide) (hcd:(x == ("__classdict__" : Str))=false:=by decide):PE X (.Name x pos) (tVar i):=by
  intro pins s σ H Q I h
  obtain ⟨v,e,h⟩:=h
  obtain ⟨m,hn,hl⟩:=I.loc
  obtain ⟨u,r,l⟩:=hl i x v hN e hv
  have fin:EP X pins σ Q u s:=⟨v,H,I,r,h⟩
  rcases l with ⟨hk,hm⟩ | ⟨hk,c,hc,hcell⟩
  · exact wpAny_Name (wpAny_loadName_local I.ok.kind hk hn hm fin) hd
  · rcases hk with hk | hk
    · exact wpAny_Name (wpAny_loadName_cell I.ok.kind hk hc hcell fin) hd
    · exact wpAny_Name (wpAny_loadName_free I.ok.kind hk hc hcell fin hcd) hd
theorem pe_int {i j pos}:PE X (.Constant (.int i) j pos) (tC (.int i)):=fun _ _ _ H _ I h=>wpAny_Constant_int ⟨.int i,H,I.tok _,⟨_,rfl⟩,h⟩
theorem pe_bl {b j pos}:PE X (.Constant (.bool b) j pos) (tC (.bl b)):=fun _ _ _ H _ I h=>Constant_bool ⟨.bl b,H,I,rfl,h⟩
theorem pe_non {j pos}:PE X (.Constant .none j pos) (tC .non):=fun _ _ _ H _ I h=>Constant_none ⟨.non,H,I,rfl,h⟩
theorem pe_str {x j pos}:PE X (.Constant (.str x) j pos) (tC (.str x)):=fun _ _ _ H _ I h=>Calls.Constant_str ⟨.str x,H,I.tok _,⟨_,rfl⟩,h⟩
def Gl (X:Cx) (x:Str):Prop:=X.env.kindOf x=some .globalImplicit
theorem jn {E:Value->Shared->Prop} {pins:List (Addr × Obj)} {s:Shared} {σ:St} {H:Hp} {x:Str} {u:Value} {pos:Pos} {Q:Value->Shared->Prop} (I:Inv X pins σ H s) (hg:Gl X x) (hm:X.mg x=some u) (h:Q u s)
    (hd:(x == ("__debug__" : Str))=false:=by decide):wpAny (model X.prog X.w) X.A (eval (.Name x pos) X.env) Q E s:=
  Calls.Name_function_global I.ok.kind hg (Calls.loadGlobal_global (by rw [I.ok.glob]; exact I.mod.glob.keeps I.bk) hm h) hd
theorem Xz {E:Value->Shared->Prop} {pins:List (Addr × Obj)} {s:Shared} {σ:St} {H:Hp} {x:Str} {u:Value} {pos:Pos} {Q:Value->Shared->Prop} (I:Inv X pins σ H s) (hg:Gl X x) (hm:X.mg x=none) (hv:bootBuiltins x=some u) (h:Q u s)
    (hn:x≠"__name__" := by decide) (hd:(x == ("__debug__" : Str))=false:=by decide):wpAny (model X.prog X.w) X.A (eval (.Name x pos) X.env) Q E s:=by
  obtain ⟨mb,h1,h2⟩:=I.mod.blt
  exact Calls.Name_function_global I.ok.kind hg (Calls.loadGlobal_builtin (by rw [I.ok.glob]; exact I.mod.glob.keeps I.bk) hm (by rw [I.ok.blt]; exact h1.keeps I.bk) ((h2 x hn).trans hv) h) hd
theorem Y0 {x:Str} {v:V} {u:Value} {pos:Pos} (hg:Gl X x) (hm:X.mg x=some u) (r:RelV v u) (hd:(x == ("__debug__" : Str))=false:=by decide):PE X (.Name x pos) (tC v):=
  fun _ _ _ H _ I h=>jn I hg hm ⟨v,H,I,r,h⟩ hd
theorem pe_bltn {x:Str} {v:V} {u:Value} {pos:Pos} (hg:Gl X x) (hm:X.mg x=none) (hv:bootBuiltins x=some u) (r:RelV v u) (hn:x≠"__name__" := by decide) (hd:(x == ("__debug__" : Str))=false:=by decide):PE X (.Name x pos) (tC v):=
  fun _ _ _ H _ I h=>Xz I hg hm hv ⟨v,H,I,r,h⟩ hn hd
variable {a b:Expr} {ta tb:TE} {pos:Pos}
def tB (t:TE):TT:=fun σ H Q=>t σ H fun x H1=>∃ c,x=.bl c/\Q c H1
theorem pt_val {e:Expr} {t:TE} (h:PE X e t) (he:∀ whole,isTrue e X.env whole=(do let v <- whole; standAt e.pos; holding [v] (truthy v)):=by intro _; rfl):PT X e (tB t):=by
  intro pins s σ H Q I hw
  refine isTrue_plain (thn (h pins s σ H _ I hw) fun v s1 ⟨x,H1,I1,r1,q1⟩=>?_) (he _)
  obtain ⟨d,rfl,q⟩:=q1
  cases r1
  exact wpAny_truthy_bool ⟨H1,I1,q⟩
variable {tA tB':TT} {rest:List Expr}
def tAnd (t u:TT):TT:=fun σ H Q=>t σ H fun c H1=>if c=true then u σ H1 Q else Q false H1
def tOr (t u:TT):TT:=fun σ H Q=>t σ H fun c H1=>if c=true then Q true H1 else u σ H1 Q
def tNot (t:TT):TT:=fun σ H Q=>t σ H fun c H1=>Q (!c) H1
theorem pw_and1 (ha:PT X a tA):PW X (.BoolOp .And [a] pos) tA:=by
  intro wh pins s σ H Q I h
  refine isTrue_and (thn (ha pins s σ H Q I h) fun c s1 e=>?_)
  cases c with
  | true=>exact isTrue_and_nil e
  | false=>exact e
theorem pw_or1 (ha:PT X a tA):PW X (.BoolOp .Or [a] pos) tA:=by
  intro wh pins s σ H Q I h
  refine isTrue_or (thn (ha pins s σ H Q I h) fun c s1 e=>?_)
  cases c with
  | false=>exact isTrue_or_nil e
  | true=>exact e
theorem pw_and (ha:PT X a tA) (hb:PW X (.BoolOp .And (b :: rest) pos) tB'):PW X (.BoolOp .And (a :: b :: rest) pos) (tAnd tA tB'):=by
  intro wh pins s σ H Q I h
  refine isTrue_and (thn (ha pins s σ H _ I h) fun c s1 ⟨H1,I1,q1⟩=>?_)
  cases c with
  | true=>exact hb wh pins s1 σ H1 Q I1 q1
  | false=>exact ⟨H1,I1,q1⟩
theorem pw_or (ha:PT X a tA) (hb:PW X (.BoolOp .Or (b :: rest) pos) tB'):PW X (.BoolOp .Or (a :: b :: rest) pos) (tOr tA tB'):=by
  intro wh pins s σ H Q I h
  refine isTrue_or (thn (ha pins s σ H _ I h) fun c s1 ⟨H1,I1,q1⟩=>?_)
  cases c with
  | true=>exact ⟨H1,I1,q1⟩
  | false=>exact hb wh pins s1 σ H1 Q I1 q1
theorem pt_not (ha:PT X a tA):PT X (.UnaryOp .Not a pos) (tNot tA):=by
  intro pins s σ H Q I h
  exact isTrue_not (ha pins s σ H (fun c H1=>Q (!c) H1) I h)
def tAndV (ta tb:TE):TE:=fun σ H Q=>ta σ H fun x H1=>∃ c,x=.bl c/\if c=true then tb σ H1 Q else Q (.bl false) H1
def tNotV (ta:TE):TE:=fun σ H Q=>ta σ H fun x H1=>∃ c,x=.bl c/\Q (.bl (!c)) H1
theorem pe_one {op} {t:TE} (h:PE X a t):PE X (.BoolOp op [a] pos) t:=fun pins s σ H Q I hw=>BoolOp_one (h pins s σ H Q I hw)
theorem pe_and (ha:PE X a ta) (hb:PE X (.BoolOp .And (b :: rest) pos) tb):PE X (.BoolOp .And (a :: b :: rest) pos) (tAndV ta tb):=by
  intro pins s σ H Q I h
  refine BoolOp_and (thn (ha pins s σ H _ I h) fun v s1 ⟨x,H1,I1,r1,q1⟩=>?_)
  obtain ⟨c,rfl,q1⟩:=q1
  cases r1
  refine wpAny_truthy_bool ?_
  cases c with
  | true=>exact hb pins s1 σ H1 Q I1 q1
  | false=>exact ⟨.bl false,H1,I1,rfl,q1⟩
theorem pe_not (ha:PE X a ta):PE X (.UnaryOp .Not a pos) (tNotV ta):=by
  intro pins s σ H Q I h
  refine UnaryOp_ (thn (ha pins s σ H _ I h) fun v s1 ⟨x,H1,I1,r1,q1⟩=>?_)
  obtain ⟨c,rfl,q1⟩:=q1
  cases r1
  exact not_of (wpAny_truthy_bool ⟨.bl (!c),H1,I1,rfl,q1⟩)
def tIf (t:TT) (ta tb:TE):TE:=fun σ H Q=>t σ H fun c H1=>if c=true then ta σ H1 Q else tb σ H1 Q
theorem pe_ifExp {c:Expr} (hc:PT X c tA) (ha:PE X a ta) (hb:PE X b tb):PE X (.IfExp c a b pos) (tIf tA ta tb):=by
  intro pins s σ H Q I h
  refine wpAny_IfExp (thn (hc pins s σ H _ I h) fun d s1 ⟨H1,I1,q1⟩=>?_)
  cases d with
  | true=>exact ha pins s1 σ H1 Q I1 q1
  | false=>exact hb pins s1 σ H1 Q I1 q1
end
end L2
namespace L2
open PySem PySem.Spec PyProof.Rows
def SqL (K:PySem.W.Frag) (H:Hp) (a:Addr) (xs:List V):Prop:=
  Rd H a (.lst xs) \/
    ∃ (o:Obj) (its:Array Value) (n:Nat),K.lookup a=some o/\o.cls=.type "list" /\ o.dict=none/\o.data=.seq its n/\its.size<=sizeLine/\Vals xs its.toList
def SqT (K:PySem.W.Frag) (H:Hp) (a:Addr) (xs:List V):Prop:=
  Rd H a (.tup xs) \/
    ∃ (o:Obj) (its:Array Value) (n:Nat),K.lookup a=some o/\o.cls=.type "tuple" /\ o.data=.seq its n/\its.size<=sizeLine/\Vals xs its.toList
def absV:Value->Option V
  | .none=>some .non
  | .bool b=>some (.bl b)
  | .int i _=>some (.int i)
  | .str x _=>some (.str x)
  | .bytes b _=>some (.byt b)
  | .float b _=>some (.flt b)
  | .ref a=>some (.ref a)
  | .type n=>some (.ty n)
  | _=>none
theorem RelV.abs {x:V} {u:Value} (r:RelV x u):absV u=some x:=by
  cases x with
  | non=>cases r; rfl
  | bl _=>cases r; rfl
  | int _=>obtain ⟨t,rfl⟩:=r; rfl
  | str _=>obtain ⟨t,rfl⟩:=r; rfl
  | byt _=>obtain ⟨t,rfl⟩:=r; rfl
  | flt _=>obtain ⟨t,rfl⟩:=r; rfl
  | ref _=>cases r; rfl
  | ty _=>cases r; rfl
theorem RelV.inj {x y:V} {u:Value} (r:RelV x u) (q:RelV y u):x=y:=Option.some.inj (r.abs.symm.trans q.abs)
theorem Vals.inj:∀ {xs ys:List V} {us:List Value},Vals xs us->Vals ys us->xs=ys
  | _,_,_,.nil,.nil=>rfl
  | _,_,_,.cons r t,.cons r' t'=>by rw [r.inj r',Vals.inj t t']
section
variable {X:Cx} {pins:List (Addr × Obj)} {σ:St} {H:Hp} {s:Shared} {a:Addr} {xs ys:List V}
theorem SqL.of {K:PySem.W.Frag} (h:H a=some (.lst xs)):SqL K H a xs:=.inl (.inl h)
theorem SqT.of {K:PySem.W.Frag} (h:H a=some (.tup xs)):SqT K H a xs:=.inl (.inl h)
theorem Inv.list (I:Inv X pins σ H s) (h:SqL X.K H a xs):∃ its:List Value,Vals xs its/\PlainL s.heap a its.toArray/\xs.length<=sizeLine:=by
  rcases h with h | ⟨o,its,n,hk,hc,hd,hs,hz,r⟩
  · obtain ⟨z,its,n,r,e⟩:=h.ok I.hok
    exact ⟨its,r,⟨_,n,e,rfl,rfl,rfl⟩,z⟩
  · refine ⟨its.toList,r,⟨o,n,I.kIn a o hk,hc,hd,by simpa using hs⟩,?_⟩
    have e:=r.length
    simp only [Array.length_toList] at e
    omega
theorem Inv.tuple (I:Inv X pins σ H s) (h:SqT X.K H a xs):∃ its:List Value,Vals xs its/\IsTup s.heap a its.toArray/\xs.length<=sizeLine:=by
  rcases h with h | ⟨o,its,n,hk,hc,hs,hz,r⟩
  · obtain ⟨z,its,r,p⟩:=h.ok I.hok
    exact ⟨its,r,p,z⟩
  · refine ⟨its.toList,r,⟨o,I.kIn a o hk,hc,n,by simpa using hs⟩,?_⟩
    have e:=r.length
    simp only [Array.length_toList] at e
    omega
theorem Inv.list_inj (I:Inv X pins σ H s) (h:SqL X.K H a xs) (h':SqL X.K H a ys):xs=ys:=by
  obtain ⟨its,r,⟨o,n,e,_,_,d⟩,_⟩:=I.list h
  obtain ⟨its',r',⟨o',n',e',_,_,d'⟩,_⟩:=I.list h'
  rw [e] at e'; cases e'
  rw [d] at d'
  injection d' with d1 _
  have:its=its':=by simpa using congrArg Array.toList d1
  subst this
  exact r.inj r'
theorem Inv.tuple_inj (I:Inv X pins σ H s) (h:SqT X.K H a xs) (h':SqT X.K H a ys):xs=ys:=by
  obtain ⟨its,r,⟨o,e,_,n,d⟩,_⟩:=I.tuple h
  obtain ⟨its',r',⟨o',e',_,n',d'⟩,_⟩:=I.tuple h'
  rw [e] at e'; cases e'
  rw [d] at d'
  injection d' with d1 _
  have:its=its':=by simpa using congrArg Array.toList d1
  subst this
  exact r.inj r'
end
abbrev Cx.wish (X:Cx) (E:Value->Shared->Prop):Cx:={ X with xe:=E }
abbrev Cx.nox (X:Cx):Cx:=X.wish fun _ _=>False
theorem Cx.Ok.wish {X:Cx} (ok:X.Ok) (E:Value->Shared->Prop):(X.wish E).Ok:=
  ⟨ok.mod,ok.kind,ok.glob,ok.blt,ok.above,ok.inj,ok.has,ok.cab,ok.hd,ok.frames,ok.stk,ok.exf,ok.bs,ok.bsz,ok.noex,ok.exfs,ok.funs,ok.frf⟩
theorem Cx.Ok.unwish {X:Cx} {E:Value->Shared->Prop} (ok:(X.wish E).Ok):X.Ok:=
  ⟨ok.mod,ok.kind,ok.glob,ok.blt,ok.above,ok.inj,ok.has,ok.cab,ok.hd,ok.frames,ok.stk,ok.exf,ok.bs,ok.bsz,ok.noex,ok.exfs,ok.funs,ok.frf⟩
section
variable {X:Cx} {pins:List (Addr × Obj)} {σ:St} {H:Hp} {s:Shared} {E:Value->Shared->Prop}
theorem Inv.wish (I:Inv X pins σ H s) (E:Value->Shared->Prop):Inv (X.wish E) pins σ H s:=⟨I.ok.wish E,I.os,I.bare,I.base,I.loc,I.cell,I.free,I.freeC,I.pin,I.hok,I.len⟩
theorem Inv.unwish (I:Inv (X.wish E) pins σ H s):Inv X pins σ H s:=⟨I.ok.unwish,I.os,I.bare,I.base,I.loc,I.cell,I.free,I.freeC,I.pin,I.hok,I.len⟩
end
section
variable {X:Cx} {st:Stmt} {rest:List Stmt} {t u:TS} {e:Expr} {te:TE} {pos:Pos}
def tNext:TS:=fun D σ H=>D.nx σ H
def tSeq (t u:TS):TS:=fun D σ H=>t { D with nx:=u D } σ H
theorem pss_nil:PSs X [] tNext:=fun _ _ σ H _ I h=>wpAny_execs_nil ⟨σ,H,I,h⟩
theorem Xk (h1:PS X st t) (h2:PSs X rest u):PSs X (st :: rest) (tSeq t u):=by
  intro pins s σ H D I h
  refine wpAny_execs_cons (thn (h1 pins s σ H { D with nx:=u D } I h) fun f s1 q=>?_)
  cases f with
  | next=>
    obtain ⟨σ',H',I',q⟩:=q
    exact h2 pins s1 σ' H' D I' q
  | ret v=>exact q
  | brk=>exact q
  | cont=>exact q
theorem jb (h1:PS X st t):PSs X [st] t:=by
  intro pins s σ H D I h
  refine wpAny_execs_cons (thn (h1 pins s σ H D I h) fun f s1 q=>?_)
  cases f with
  | next=>exact wpAny_execs_nil q
  | ret v=>exact q
  | brk=>exact q
  | cont=>exact q
def tBreak:TS:=fun D σ H=>D.bk σ H
theorem ps_break:PS X (.Break pos) tBreak:=fun _ _ σ H _ I h=>wpAny_Break ⟨σ,H,I,h⟩
theorem Inv.quiet {pins:List (Addr × Obj)} {σ:St} {H:Hp} {s:Shared} (I:Inv X pins σ H s):interactive X.env=false:=by simp [interactive,I.ok.kind]
def tDrop (te:TE):TS:=fun D σ H=>te σ H fun _ H1=>D.nx σ H1
theorem ps_expr (he:PE X e te) (hs:swapsWith e none pos.line X.env=pure false:=by rfl):PS X (.Expr e pos) (tDrop te):=by
  intro pins s σ H D I h
  exact wpAny_Expr_any (thn (he pins s σ H _ I h) fun v s1 ⟨x,H1,I1,r1,q1⟩=>⟨σ,H1,I1,q1⟩) I.quiet hs
def tRet (te:TE):TS:=fun D σ H=>te σ H D.rt
theorem ps_ret (he:PE X e te):PS X (.Return (some e) pos) (tRet te):=by
  intro pins s σ H D I h
  exact wpAny_Return_some (thn (he pins s σ H _ I h) fun v s1 ⟨x,H1,I1,r1,q1⟩=>⟨x,σ,H1,I1,r1,q1⟩)
def tIfS (c:TT) (t u:TS):TS:=fun D σ H=>c σ H fun b H1=>if b=true then t D σ H1 else u D σ H1
theorem ps_if {c:Expr} {a b:List Stmt} {tc:TT} (hc:PT X c tc) (ha:PSs X a t) (hb:PSs X b u):PS X (.If c a b pos) (tIfS tc t u):=by
  intro pins s σ H D I h
  refine wpAny_If (thn (hc pins s σ H _ I h) fun d s1 ⟨H1,I1,q1⟩=>?_)
  cases d with
  | true=>exact ha pins s1 σ H1 D I1 q1
  | false=>exact hb pins s1 σ H1 D I1 q1
end
abbrev TG:=V->St->Hp->(St->Hp->Prop)->Prop
abbrev TGs:=List V->St->Hp->(St->Hp->Prop)->Prop
def PG (X:Cx) (target:Expr) (t:TG):Prop:=
  ∀ (pins:List (Addr × Obj)) (s:Shared) (σ:St) (H:Hp) (v:V) (u:Value) (Q:St->Hp->Prop),Inv X pins σ H s->RelV v u->t v σ H Q ->
    wpAny (model X.prog X.w) X.A (assign target X.env u) (fun _ s'=>∃ σ' H',Inv X pins σ' H' s'/\Q σ' H') X.xe s
def PGs (X:Cx) (ts:List Expr) (t:TGs):Prop:=
  ∀ (pins:List (Addr × Obj)) (s:Shared) (σ:St) (H:Hp) (vs:List V) (us:List Value) (Q:St->Hp->Prop),Inv X pins σ H s->Vals vs us->t vs σ H Q ->
    wpAny (model X.prog X.w) X.A (assignInOrder ((assignEach ts X.env).map (·.2)) us) (fun _ s'=>∃ σ' H',Inv X pins σ' H' s'/\Q σ' H') X.xe s
abbrev TSet:=V->V->V->Hp->(Hp->Prop)->Prop
def PSet (X:Cx) (t:TSet):Prop:=
  ∀ (pins:List (Addr × Obj)) (s:Shared) (σ:St) (H:Hp) (o i v:V) (ov iv u:Value) (Q:Hp->Prop),Inv X pins σ H s->RelV o ov->RelV i iv->RelV v u->t o i v H Q ->
    wpAny (model X.prog X.w) X.A (setItem ov iv u) (fun _ s'=>∃ H',Inv X pins σ H' s'/\Q H') X.xe s
section
variable {X:Cx} {pos:Pos}
def gName (i:Nat):TG:=fun v σ H Q=>Q (σ.set i (some v)) H
theorem pg_name {i:Nat} {x:Str} (hN:X.N.Nodup) (hi:X.N[i]?=some x) (hx:Loc X.env.scope x) (hf:X.fn x=true\/X.env.scope.names.lookup x=some .local:=by first | exact .inl rfl | exact .inr rfl | assumption):PG X (.Name x pos) (gName i):=by
  intro pins s σ H v u Q I r h
  exact wpAny_assign_Name (Q04 I hN hi hx r (fun s' I'=>⟨_,H,I',h⟩) hf)
def gNil:TGs:=fun vs σ H Q=>vs=[]/\Q σ H
def gCons (t:TG) (u:TGs):TGs:=fun vs σ H Q=>∃ v r,vs=v :: r/\t v σ H fun σ' H'=>u r σ' H' Q
theorem pgs_nil:PGs X [] gNil:=by
  intro pins s σ H vs us Q I r h
  obtain ⟨e,h⟩:=h
  subst e
  cases r
  exact assignInOrder_nil ⟨σ,H,I,h⟩
theorem pgs_cons {e:Expr} {es:List Expr} {t:TG} {u:TGs} (h1:PG X e t) (h2:PGs X es u)
    (hs:(assignEach (e :: es) X.env).map (·.2)=assign e X.env :: (assignEach es X.env).map (·.2):=by rfl):PGs X (e :: es) (gCons t u):=by
  intro pins s σ H vs us Q I r h
  obtain ⟨v,vr,e1,h⟩:=h
  subst e1
  cases r with
  | cons r rr=>
    rw [hs]
    refine assignInOrder_cons (thn (h1 pins s σ H _ _ _ I r h) fun _ s1 ⟨σ1,H1,I1,q1⟩=>?_)
    exact h2 pins s1 σ1 H1 _ _ Q I1 rr q1
def gTup (K:PySem.W.Frag) (n:Nat) (t:TGs):TG:=fun v σ H Q=>∃ a xs,v=.ref a/\SqT K H a xs/\xs.length=n/\t xs σ H Q
theorem pg_tup {es:List Expr} {k:Nat} {t:TGs} {n:Nat} (hc:X.calm=true) (h:PGs X es t)
    (hn:(assignEach es X.env).length=n:=by rfl) (hst:(assignEach es X.env).findIdx? (·.1)=none:=by rfl):PG X (.Tuple es k pos) (gTup X.K n t):=by
  intro pins s σ H v u Q I r hw
  obtain ⟨a,xs,e1,hq,hl,hw⟩:=hw
  subst e1
  cases r
  obtain ⟨its,rv,ht,hz⟩:=I.tuple hq
  refine assign_Tuple_tuple (I.ok.hd hc) ht (by simp [hn,<- hl,rv.length]) hst fun h' hx=>?_
  have I1:Inv X pins σ H { s with heap:=h' }:=I.kept (t':=s.toks) fun b o e=>hx b o (D7 (O7 e)) e
  exact h pins _ σ H xs _ Q I1 (by simpa using rv) hw
def gSub (to ti:TE) (t:TSet):TG:=fun v σ H Q=>to σ H fun o H1=>ti σ H1 fun i H2=>t o i v H2 fun H3=>Q σ H3
theorem pg_sub {o i:Expr} {to ti:TE} {t:TSet} (ho:PE X o to) (hi:PE X i ti) (hs:PSet X t)
    (ha:∀ v,assign (.Subscript o i pos) X.env v=(do
      let ov <- holding [v] (eval o X.env)
      let iv <- holding [v,ov] (eval i X.env)
      standAt pos
      holding [v,ov,iv] (setItem ov iv v)
      release [v,ov,iv] []):=by intro _; rfl):PG X (.Subscript o i pos) (gSub to ti t):=by
  intro pins s σ H v u Q I r h
  rw [ha]
  refine wpAny_bind (wpAny_holding (thn (ho pins s σ H _ I h) fun ov s1 ⟨x,H1,I1,r1,q1⟩=>?_))
  refine wpAny_bind (wpAny_holding (thn (hi pins s1 σ H1 _ I1 q1) fun iv s2 ⟨y,H2,I2,r2,q2⟩=>?_))
  refine wpAny_bind (wpAny_standAt (wpAny_bind (wpAny_holding (thn (hs pins s2 σ H2 x y v ov iv u _ I2 r1 r2 r q2) fun _ s3 ⟨H3,I3,q3⟩=>?_))))
  exact wpAny_release ⟨σ,H3,I3,q3⟩
def tAsg (te:TE) (g:TG):TS:=fun D σ H=>te σ H fun x H1=>g x σ H1 D.nx
theorem ps_asg {tg e:Expr} {te:TE} {g:TG} (he:PE X e te) (hg:PG X tg g) (hs:swapsWithSole [tg] e pos.line X.env=pure false:=by rfl) (hw:swappedStores [tg] e X.env=pure none:=by rfl)
    (h1:(assignEach [tg] X.env).map (·.2)=[assign tg X.env]:=by rfl):PS X (.Assign [tg] e pos) (tAsg te g):=by
  intro pins s σ H D I h
  refine wpAny_Assign_stores (thn (he pins s σ H _ I h) fun v s1 ⟨x,H1,I1,r1,q1⟩=>?_) hs hw
  rw [h1]
  exact thn (hg pins s1 σ H1 x v _ I1 r1 q1) fun _ s2 q=>q
theorem ps_set {i:Nat} {x:Str} {e:Expr} {te:TE} {pos':Pos} (hN:X.N.Nodup) (hi:X.N[i]?=some x) (hx:Loc X.env.scope x) (he:PE X e te) (hs:swapsWith e (some (.Name x pos')) pos.line X.env=pure false:=by rfl) (hf:X.fn x=true\/X.env.scope.names.lookup x=some .local:=by first | exact .inl rfl | exact .inr rfl | assumption) :
    PS X (.Assign [.Name x pos'] e pos) (tAsg te (gName i)):=by
  intro pins s σ H D I h
  refine wpAny_Assign_Name (thn (he pins s σ H _ I h) fun v s1 ⟨y,H1,I1,r1,q1⟩=>?_) hs
  exact Q04 I1 hN hi hx r1 (fun s2 I2=>⟨_,H1,I2,q1⟩) hf
end
section
variable {X:Cx} {pos:Pos}
def tWhile (c:TT) (tb:TS):TS:=fun D σ H=>∃ W:Nat->St->Hp->Prop,(∃ m,W m σ H)/\∀ m σ H,W m σ H ->
  c σ H fun b H1=>if b=true then ∃ N:St->Hp->Prop,(∀ σ' H',N σ' H'->∃ m',m' < m/\W m' σ' H')/\tb { D with nx:=N,ct:=N,bk:=D.nx } σ H1 else D.nx σ H1
theorem ps_while {c:Expr} {body:List Stmt} {tc:TT} {tb:TS} (hp:PassesOwn (model X.prog X.w) X.A X.env X.xe) (hc:PT X c tc) (hb:PSs X body tb):PS X (.While c body [] pos) (tWhile tc tb):=by
  intro pins s σ H D I h
  obtain ⟨W,⟨m0,w0⟩,turn⟩:=h
  refine wpAny_While (codeAny_whileLoop (fun n s'=>∃ σ' H',Inv X pins σ' H' s'/\W n σ' H') ?_ m0 ⟨σ,H,I,w0⟩)
  rintro n s1 ⟨σ1,H1,I1,w1⟩
  refine wpAny_passesOwn hp (thn (hc pins s1 σ1 H1 _ I1 (turn n σ1 H1 w1)) fun b s2 ⟨H2,I2,q2⟩=>?_)
  cases b with
  | true=>
    obtain ⟨N,hN,q2⟩:=q2
    rw [if_pos rfl]
    refine wpAny_passesOwn hp (thn (hb pins s2 σ1 H2 _ I2 q2) fun f s3 q3=>?_)
    cases f with
    | next=>
      obtain ⟨σ3,H3,I3,n3⟩:=q3
      obtain ⟨m',hm,w3⟩:=hN σ3 H3 n3
      exact ⟨m',hm,σ3,H3,I3,w3⟩
    | cont=>
      obtain ⟨σ3,H3,I3,n3⟩:=q3
      obtain ⟨m',hm,w3⟩:=hN σ3 H3 n3
      exact ⟨m',hm,σ3,H3,I3,w3⟩
    | brk=>exact q3
    | ret v=>exact q3
  | false=>
    rw [if_neg O9]
    exact wpAny_execs_nil ⟨σ1,H2,I2,q2⟩
end
structure It where
  go:Nat->Hp->Prop
  yld:Nat->Hp->V->Hp->Prop
  stop:Nat->Hp->Prop
def Q1q (X:Cx) (pins:List (Addr × Obj)) (H:Hp) (b:Addr):Prop:=
  H b=none/\b≠X.env.locals/\b∉X.fs/\(b∈X.ex\/X.s₀.heap.objs.size<=b)/\(∀ x c,X.env.cells.lookup x=some c->c≠b)/\∀ p∈X.pn ++ pins,p.1≠b
theorem Inv.fpOk {X:Cx} {pins:List (Addr × Obj)} {σ:St} {H H':Hp} {s:Shared} {b:Addr} (I:Inv X pins σ H s) (hb:s.heap.objs.size<=b) (hn:H' b=none):Q1q X pins H' b:=by
  refine ⟨hn,Nat.ne_of_gt (D2 I.lt hb),I.nofs hb,.inr (E2 I.sz hb),fun x c e z=>?_,fun p hp z=>?_⟩
  · obtain ⟨v,q⟩:=I.cell x c e
    exact absurd (D2 q.lt (by rw [z]; exact hb)) (Nat.lt_irrefl _)
  · exact absurd (D2 (O7 (I.pin p hp).1) (by rw [z]; exact hb)) (Nat.lt_irrefl _)
structure Turn (P:Program) (w:World) (K:PySem.W.Frag) (tg:Expr) (J:It) (fp:List Addr) (it:Addr) (tn:Nat->Heap->Prop):Prop where
  mem:it∈fp
  obj:∀ i h,tn i h->∀ b∈fp,∃ o,h.get? b=some o/\∀ v,o.data≠.cell v
  keep:∀ i h h',tn i h->(∀ b∈fp,∀ o,h.get? b=some o->h'.get? b=some o)->tn i h'
  item:∀ (X:Cx),X.prog=P->X.w=w->X.K=K->X.calm=true->∀ (i:Nat) (pins:List (Addr × Obj)) (s:Shared) (σ:St) (H:Hp) (E:Value->Shared->Prop),Inv X pins σ H s->(∀ b∈fp,Q1q X pins H b)->tn i s.heap->J.go i H ->
    wpAny (model P w) X.A (pyNext (.ref it)) (fun r s1=>∃ u,r=some u /\
      wpAny (model P w) X.A (letOwnedTupleGo tg (.ref it) u) (fun _ s2=>∃ x H',Inv X pins σ H' s2/\RelV x u/\J.yld i H x H'/\tn (i + 1) s2.heap/\∀ b∈fp,H' b=none) E s1) E s
  done:∀ (X:Cx),X.prog=P->X.w=w->X.K=K->X.calm=true->∀ (i:Nat) (pins:List (Addr × Obj)) (s:Shared) (σ:St) (H:Hp) (E:Value->Shared->Prop),Inv X pins σ H s->(∀ b∈fp,Q1q X pins H b)->tn i s.heap->J.stop i H ->
    wpAny (model P w) X.A (pyNext (.ref it)) (fun r s1=>r=none/\Inv X pins σ H s1) E s
  self:∀ (A:Around) (i:Nat) (s:Shared) (Q:Value->Shared->Prop) (E:Value->Shared->Prop),tn i s.heap->Q (.ref it) s->wpAny (model P w) A (pyIter (.ref it)) Q E s
abbrev TI:=St->Hp->(It->Hp->Prop)->Prop
def PIE (X:Cx) (pins:List (Addr × Obj)) (σ:St) (tg:Expr) (R:It->Hp->Prop) (itv:Value) (s2:Shared):Prop:=
  ∃ (it:Addr) (fp:List Addr) (tn:Nat->Heap->Prop) (J:It) (H':Hp),itv=.ref it/\Inv X pins σ H' s2/\Turn X.prog X.w X.K tg J fp it tn/\tn 0 s2.heap/\(∀ b∈fp,Q1q X pins H' b)/\R J H'
def PI (X:Cx) (tg iter:Expr) (wi:TI):Prop:=
  ∀ (pins:List (Addr × Obj)) (s:Shared) (σ:St) (H:Hp) (R:It->Hp->Prop),Inv X pins σ H s->wi σ H R ->
    wpAny (model X.prog X.w) X.A (eval iter X.env) (fun v s1=>wpAny (model X.prog X.w) X.A (pyIter v) (PIE X pins σ tg R) X.xe s1) X.xe s
theorem go_of {M:Model} {A:Around} {E:Value->Shared->Prop} {s:Shared} {tg:Expr} {it:Addr} {u:Value} {o:Obj} {n:String} {vs:Array Value} {Q:Unit->Shared->Prop} (ho:s.heap.get? it=some o) (hc:o.cls=.type n) (hd:o.data=.fields vs)
    (hn:["enumerate", "zip", "dict_itemiterator", "dict_reverseitemiterator", "odict_iterator", "itertools.zip_longest", "itertools.pairwise"].contains n=false) (hQ:Q () s):wpAny M A (letOwnedTupleGo tg (.ref it) u) Q E s:=by
  unfold letOwnedTupleGo
  cases tg <;> first
    | exact wpAny_pure hQ
    | (cases u <;> first
        | exact wpAny_pure hQ
        | (refine wpAny_bind (wpAny_load ho ?_)
           rw [hc,hd]
           show wpAny M A (if (["enumerate", "zip", "dict_itemiterator", "dict_reverseitemiterator", "odict_iterator", "itertools.zip_longest", "itertools.pairwise"].contains n && vs[0]? == some (rawInt _))=true then _ else _) Q E s
           rw [if_neg (by intro h; rw [hn,Bool.false_and] at h; cases h)]
           exact wpAny_pure hQ))
def Itl (K:PySem.W.Frag) (a:Addr):It:=
  ⟨fun i H=>∃ xs x,SqL K H a xs/\xs[i]?=some x,fun i H x H'=>H'=H/\∀ xs,SqL K H a xs->xs[i]?=some x,fun i H=>∃ xs,SqL K H a xs/\xs.length<=i⟩
def Itt (K:PySem.W.Frag) (a:Addr):It:=
  ⟨fun i H=>∃ xs x,SqT K H a xs/\xs[i]?=some x,fun i H x H'=>H'=H/\∀ xs,SqT K H a xs->xs[i]?=some x,fun i H=>∃ xs,SqT K H a xs/\xs.length<=i⟩
def Itr (lo:Int) (n:Nat):It:=⟨fun i _=>i < n,fun i H x H'=>H'=H/\x=.int (lo + i),fun i _=>n<=i⟩
theorem turn_list {P:Program} {w:World} {K:PySem.W.Frag} {tg:Expr} (a it:Addr):Turn P w K tg (Itl K a) [it] it (fun i h=>h.IsListIter it a i) where
  mem:=by simp
  obj:=fun i h st b hb=>by
    have e:b=it:=by simpa using hb
    subst e
    obtain ⟨o,e,c,d⟩:=st
    exact ⟨o,e,fun v z=>by rw [d] at z; cases z⟩
  keep:=fun i h h' st k=>st.at fun o e=>k it (by simp) o e
  item:=by
    intro X hP hw hK hc i pins s σ H E I hf st hg
    subst hP hw hK
    obtain ⟨xs,x,hq,hx⟩:=hg
    obtain ⟨its,rv,p,hz⟩:=I.list hq
    obtain ⟨u,hu,ru⟩:=rv.get hx
    obtain ⟨f0,f1,f2,f3,f4,f5⟩:=hf it (by simp)
    refine wpAny_pyNext_list_item st p.isList (x:=u) (by simpa using hu) fun h' st' sb=>?_
    have I1:Inv X pins σ H { s with heap:=h' }:=I.turned (t':=s.toks) (fun b o hb e=>(sb.2 b hb).trans e) f0 f1 f3 f4 f5
    obtain ⟨o,e,c,d⟩:=id st'
    exact ⟨u,rfl,go_of (s:={ s with heap:=h' }) e c d (by decide) ⟨x,H,I1,ru,⟨rfl,fun ys hy=>by rw [I.list_inj hy hq]; exact hx⟩,st',fun b hb=>(hf b hb).1⟩⟩
  done:=by
    intro X hP hw hK hc i pins s σ H E I hf st hg
    subst hP hw hK
    obtain ⟨xs,hq,hx⟩:=hg
    obtain ⟨its,rv,p,hz⟩:=I.list hq
    obtain ⟨f0,f1,f2,f3,f4,f5⟩:=hf it (by simp)
    have hl:=rv.length
    exact wpAny_pyNext_list_end (I.ok.hd hc) st p.isList (by simp; omega) fun h' eb=>⟨rfl,I.turned (t':=s.toks) (fun b o hb e=>eb b o hb e) f0 f1 f3 f4 f5⟩
  self:=fun _ _ _ _ _ st h=>wpAny_pyIter_listiter st h
theorem turn_tuple {P:Program} {w:World} {K:PySem.W.Frag} {tg:Expr} (a it:Addr):Turn P w K tg (Itt K a) [it] it (fun i h=>h.IsTupleIter it a i) where
  mem:=by simp
  obj:=fun i h st b hb=>by
    have e:b=it:=by simpa using hb
    subst e
    obtain ⟨o,e,c,d⟩:=st
    exact ⟨o,e,fun v z=>by rw [d] at z; cases z⟩
  keep:=fun i h h' st k=>st.at fun o e=>k it (by simp) o e
  item:=by
    intro X hP hw hK hc i pins s σ H E I hf st hg
    subst hP hw hK
    obtain ⟨xs,x,hq,hx⟩:=hg
    obtain ⟨its,rv,p,hz⟩:=I.tuple hq
    obtain ⟨u,hu,ru⟩:=rv.get hx
    obtain ⟨f0,f1,f2,f3,f4,f5⟩:=hf it (by simp)
    refine wpAny_pyNext_tuple_item st (show s.heap.IsTuple a its.toArray from p) (x:=u) (by simpa using hu) fun h' st' sb=>?_
    have I1:Inv X pins σ H { s with heap:=h' }:=I.turned (t':=s.toks) (fun b o hb e=>(sb.2 b hb).trans e) f0 f1 f3 f4 f5
    obtain ⟨o,e,c,d⟩:=id st'
    exact ⟨u,rfl,go_of (s:={ s with heap:=h' }) e c d (by decide) ⟨x,H,I1,ru,⟨rfl,fun ys hy=>by rw [I.tuple_inj hy hq]; exact hx⟩,st',fun b hb=>(hf b hb).1⟩⟩
  done:=by
    intro X hP hw hK hc i pins s σ H E I hf st hg
    subst hP hw hK
    obtain ⟨xs,hq,hx⟩:=hg
    obtain ⟨its,rv,p,hz⟩:=I.tuple hq
    obtain ⟨f0,f1,f2,f3,f4,f5⟩:=hf it (by simp)
    have hl:=rv.length
    exact wpAny_pyNext_tuple_end (I.ok.hd hc) st (show s.heap.IsTuple a its.toArray from p) (by simp; omega) fun h' eb=>⟨rfl,I.turned (t':=s.toks) (fun b o hb e=>eb b o hb e) f0 f1 f3 f4 f5⟩
  self:=fun _ _ _ _ _ st h=>wpAny_pyIter_tupleiter st h
theorem turn_range {P:Program} {w:World} {K:PySem.W.Frag} {tg:Expr} (it:Addr) (lo:Int) (n:Nat):Turn P w K tg (Itr lo n) [it] it (fun i h=>IsRangeIter h it (lo + (i:Nat) * 1) ((n:Int) - (i:Nat)) 1) where
  mem:=by simp
  obj:=fun i h st b hb=>by
    have e:b=it:=by simpa using hb
    subst e
    exact ⟨_,st,fun v z=>by
      have z':Data.fields _=Data.cell v:=z
      cases z'⟩
  keep:=fun i h h' st k=>k it (by simp) _ st
  item:=by
    intro X hP hw hK hc i pins s σ H E I hf st hg
    subst hP hw hK
    obtain ⟨f0,f1,f2,f3,f4,f5⟩:=hf it (by simp)
    have W:=Walks.range (prog:=X.prog) (w:=X.w) (I.ok.hd hc) it lo 1 n
    refine W.item i s _ _ hg st fun v h' tk hv st' kk=>?_
    obtain ⟨t,rfl⟩:=hv
    have I1:Inv X pins σ H { s with heap:=h',toks:=tk }:=I.turned (fun b o hb e=>kk b o (by simpa using hb) e) f0 f1 f3 f4 f5
    refine ⟨_,rfl,go_of (s:={ s with heap:=h',toks:=tk }) (n := "range_iterator") st' rfl rfl (by decide) ⟨.int (lo + i),H,I1,⟨t,?_⟩,⟨rfl,rfl⟩,st',fun b hb=>(hf b hb).1⟩⟩
    rw [Int.mul_one]
  done:=by
    intro X hP hw hK hc i pins s σ H E I hf st hg
    subst hP hw hK
    obtain ⟨f0,f1,f2,f3,f4,f5⟩:=hf it (by simp)
    exact wpAny_pyNext_range_end (I.ok.hd hc) st (by have:n<=i:=hg; omega) fun h' eb=>⟨rfl,I.turned (t':=s.toks) (fun b o hb e=>eb b o hb e) f0 f1 f3 f4 f5⟩
  self:=fun _ _ _ _ _ st h=>wpAny_pyIter_rangeiter st h
end L2
namespace L2
open PySem PySem.Spec PyProof.Rows
section
variable {X:Cx} {tg:Expr}
def iList (K:PySem.W.Frag) (tl:TE):TI:=fun σ H R=>tl σ H fun x H1=>∃ a,x=.ref a/\(∃ xs,SqL K H1 a xs)/\R (Itl K a) H1
def iTup (K:PySem.W.Frag) (tl:TE):TI:=fun σ H R=>tl σ H fun x H1=>∃ a,x=.ref a/\(∃ xs,SqT K H1 a xs)/\R (Itt K a) H1
theorem pi_list {l:Expr} {tl:TE} (hl:PE X l tl):PI X tg l (iList X.K tl):=by
  intro pins s σ H R I h
  refine thn (hl pins s σ H _ I h) fun v s1 ⟨x,H1,I1,r1,q1⟩=>?_
  obtain ⟨a,e,⟨xs,hq⟩,q⟩:=q1
  subst e
  cases r1
  obtain ⟨its,rv,p,hz⟩:=I1.list hq
  refine wpAny_pyIter_list p.isList ?_
  refine ⟨s1.heap.objs.size,[s1.heap.objs.size],_,_,H1,rfl,I1.kept (t':=s1.toks) fun b o e=>O1 _ e,turn_list a _,⟨_,D3 _ rfl,rfl,rfl⟩,fun b hb=>?_,q⟩
  have e:b=s1.heap.objs.size:=by simpa using hb
  subst e
  exact I1.fpOk (O6 _) (I1.hok.fresh (O6 _))
theorem pi_tup {l:Expr} {tl:TE} (hl:PE X l tl):PI X tg l (iTup X.K tl):=by
  intro pins s σ H R I h
  refine thn (hl pins s σ H _ I h) fun v s1 ⟨x,H1,I1,r1,q1⟩=>?_
  obtain ⟨a,e,⟨xs,hq⟩,q⟩:=q1
  subst e
  cases r1
  obtain ⟨its,rv,p,hz⟩:=I1.tuple hq
  refine wpAny_pyIter_tuple (show s1.heap.IsTuple a its.toArray from p) ?_
  refine ⟨s1.heap.objs.size,[s1.heap.objs.size],_,_,H1,rfl,I1.kept (t':=s1.toks) fun b o e=>O1 _ e,turn_tuple a _,⟨_,D3 _ rfl,rfl,rfl⟩,fun b hb=>?_,q⟩
  have e:b=s1.heap.objs.size:=by simpa using hb
  subst e
  exact I1.fpOk (O6 _) (I1.hok.fresh (O6 _))
theorem range_it {pins:List (Addr × Obj)} {σ:St} {H:Hp} {s:Shared} {R:It->Hp->Prop} {E:Value->Shared->Prop} {lo hi:Int} {t u v:Tok} {tk:Nat} (I:Inv X pins σ H s) (h1:-(2 ^ 62)<=lo) (h2:lo < 2 ^ 62) (h3:-(2 ^ 62)<=hi) (h4:hi < 2 ^ 62)
    (q:R (Itr lo (hi - lo).toNat) H):wpAny (model X.prog X.w) X.A (pyIter (.ref s.heap.objs.size)) (PIE X pins σ tg R) E { s with heap:=s.heap.push { cls:=.type "range",data:=.fields #[.int lo t,.int hi u,.int 1 v] },toks:=tk }:=by
  refine wpAny_pyIter_range (IsRange.new ..) (small_one h1 h2 h3 h4) ?_
  have I1:Inv X pins σ H { s with heap:=s.heap.push { cls:=.type "range",data:=.fields #[.int lo t,.int hi u,.int 1 v] },toks:=tk }:=I.kept fun b o e=>O1 _ e
  refine ⟨(s.heap.push { cls:=.type "range",data:=.fields #[.int lo t,.int hi u,.int 1 v] }).objs.size,[(s.heap.push { cls:=.type "range",data:=.fields #[.int lo t,.int hi u,.int 1 v] }).objs.size],_,_,H,rfl,
    I1.kept (t':=tk) fun b o e=>O1 _ e,turn_range _ lo (hi - lo).toNat,?_,fun b hb=>?_,q⟩
  · have e1:lo + ((0:Nat):Int) * 1=lo:=by simp
    have e2:(((hi - lo).toNat:Nat):Int) - ((0:Nat):Int)=Builtin.Range.rangeSize lo hi 1:=by rw [rangeSize_one]; split <;> omega
    show IsRangeIter _ _ (lo + ((0:Nat):Int) * 1) ((((hi - lo).toNat:Nat):Int) - ((0:Nat):Int)) 1
    rw [e1,e2]
    exact D3 _ rfl
  · have e:b=(s.heap.push { cls:=.type "range",data:=.fields #[.int lo t,.int hi u,.int 1 v] }).objs.size:=by simpa using hb
    subst e
    exact I1.fpOk (O6 _) (I1.hok.fresh (O6 _))
def iRng1 (ta:TA):TI:=fun σ H R=>ta σ H fun vs H1=>∃ j:Int,vs=[.int j]/\-(2 ^ 62)<=j/\j < 2 ^ 62/\R (Itr 0 j.toNat) H1
def iRng2 (ta:TA):TI:=fun σ H R=>ta σ H fun vs H1=>∃ i j:Int,vs=[.int i,.int j]/\(-(2 ^ 62)<=i/\i < 2 ^ 62/\-(2 ^ 62)<=j/\j < 2 ^ 62)/\R (Itr i (j - i).toNat) H1
theorem pi_range1 {a:Expr} {ta:TA} {p pos:Pos} (hg:Gl X "range") (hm:X.mg "range" = none) (ha:PA X [a] ta) (hs:starEach [a] X.env=[(false,eval a X.env)]:=by rfl):PI X tg (.Call (.Name "range" p) [a] [] pos) (iRng1 ta):=by
  intro pins s σ H R I h
  refine Call_ (Xz I hg hm boot_range (PyProof.Rows.callWith_type1 (thn (ha pos pins s σ H _ I h) fun us s1 ⟨vs,H1,I1,r1,q1⟩=>?_) hs rfl))
  obtain ⟨j,e,q1,q2,q⟩:=q1
  subst e
  cases r1 with
  | cons r rr=>
    cases rr
    obtain ⟨t,rfl⟩:=r
    exact call_range_1 (range_it I1 (by omega) (by omega) q1 q2 (by simpa using q))
theorem pi_range2 {a b:Expr} {ta:TA} {p pos:Pos} (hg:Gl X "range") (hm:X.mg "range" = none) (ha:PA X [a,b] ta) (hs:starEach [a,b] X.env=[(false,eval a X.env),(false,eval b X.env)]:=by rfl) (hs2:starEach [b] X.env=[(false,eval b X.env)]:=by rfl) :
    PI X tg (.Call (.Name "range" p) [a,b] [] pos) (iRng2 ta):=by
  intro pins s σ H R I h
  refine Call_ (Xz I hg hm boot_range (PyProof.Rows.callWith_type1 (thn (ha pos pins s σ H _ I h) fun us s1 ⟨vs,H1,I1,r1,q1⟩=>?_) (by rw [hs,hs2]) (by rw [hs2]; rfl)))
  obtain ⟨i,j,e,⟨q1,q2,q3,q4⟩,q⟩:=q1
  subst e
  cases r1 with
  | cons r rr=>
    cases rr with
    | cons r' rr=>
      cases rr
      obtain ⟨t,rfl⟩:=r
      obtain ⟨t',rfl⟩:=r'
      exact call_range_2 (range_it I1 q1 q2 q3 q4 q)
def tFor (wi:TI) (g:TG) (tb:TS):TS:=fun D σ H=>wi σ H fun J H1=>∃ W:Nat->Nat->St->Hp->Prop,(∃ m,W 0 m σ H1)/\∀ i m σ H,W i m σ H ->
  (J.stop i H/\D.nx σ H)\/(J.go i H/\∃ N:St->Hp->Prop,(∀ σ' H',N σ' H'->∃ m',m' < m/\W (i + 1) m' σ' H')/\∀ x H',J.yld i H x H'->g x σ H' fun σ2 H2=>tb { D with nx:=N,ct:=N,bk:=D.nx } σ2 H2)
def Q0m (fp:List Addr) (h:Heap):List (Addr × Obj):=fp.filterMap fun b=>(h.get? b).map fun o=>(b,o)
theorem V0 {fp:List Addr} {h:Heap} {b:Addr} {o:Obj} (hb:b∈fp) (e:h.get? b=some o):(b,o)∈Q0m fp h:=List.mem_filterMap.mpr ⟨b,hb,by rw [e]; rfl⟩
theorem of_pinsAt {fp:List Addr} {h:Heap} {p:Addr × Obj} (hp:p∈Q0m fp h):p.1∈fp/\h.get? p.1=some p.2:=by
  obtain ⟨b,hb,e⟩:=List.mem_filterMap.mp hp
  cases q:h.get? b with
  | none=>rw [q] at e; cases e
  | some o=>
    rw [q] at e
    have e':(b,o)=p:=Option.some.inj e
    subst e'
    exact ⟨hb,q⟩
theorem Inv.pinned {pins:List (Addr × Obj)} {σ:St} {H:Hp} {s:Shared} {fp:List Addr} (I:Inv X pins σ H s) (hf:∀ b∈fp,Q1q X pins H b) (ho:∀ b∈fp,∃ o,s.heap.get? b=some o/\∀ v,o.data≠.cell v):Inv X (pins ++ Q0m fp s.heap) σ H s:=
  I.pins_of fun p hp=>(E7.mp hp).elim (fun z=>I.pin p (E6 _ z)) fun z=>by
    obtain ⟨hb,e⟩:=of_pinsAt z
    obtain ⟨f0,f1,f2,_⟩:=hf p.1 hb
    obtain ⟨o,e',d⟩:=ho p.1 hb
    rw [e] at e'; cases e'
    exact ⟨e,f0,f1,f2,d⟩
theorem Inv.unpinned {pins pl:List (Addr × Obj)} {σ:St} {H:Hp} {s:Shared} (I:Inv X (pins ++ pl) σ H s):Inv X pins σ H s:=I.pins_of fun p hp=>I.pin p (E6 _ (G7 _ hp))
theorem ps_for {iter:Expr} {body:List Stmt} {wi:TI} {g:TG} {tb:TS} {pos:Pos} (hp:PassesOwn (model X.prog X.w) X.A X.env X.xe) (hc:X.calm=true) (hi:PI X tg iter wi) (hg:PG X tg g) (hb:PSs X body tb)
    (hs:∀ x,foldedSetIterable iter X.env x=pure x:=by intro _; rfl):PS X (.For tg iter body [] pos) (tFor wi g tb):=by
  intro pins s σ H D I h
  refine wpAny_For (thn (hi pins s σ H _ I h) fun v s1 h1=>thn h1 fun itv s2 h2=>?_) hs
  obtain ⟨it,fp,tn,J,H2,e,I2,T,st2,f2,W,⟨m0,w0⟩,turn⟩:=h2
  subst e
  have stat:∀ {H':Hp},(∀ b∈fp,H' b=none)->∀ b∈fp,Q1q X pins H' b:=fun hn b hb=>⟨hn b hb,(f2 b hb).2⟩
  refine codeAny_forLoop_any (fun n s'=>∃ i σ' H',Inv X pins σ' H' s'/\tn i s'.heap/\(∀ b∈fp,H' b=none)/\W i n σ' H') ?_ m0 ⟨0,σ,H2,I2,st2,fun b hb=>(f2 b hb).1,w0⟩
  rintro n s3 ⟨i,σ3,H3,I3,st3,fr3,w3⟩
  rcases turn i n σ3 H3 w3 with ⟨stop,qn⟩ | ⟨go,N,hN,step⟩
  · refine wpAny_passesOwn hp (thn (T.done X rfl rfl rfl hc i pins s3 σ3 H3 X.xe I3 (stat fr3) st3 stop) fun r s4 ⟨hr,I4⟩=>?_)
    subst hr
    exact wpAny_execs_nil ⟨σ3,H3,I4,qn⟩
  · refine wpAny_passesOwn hp (thn (T.item X rfl rfl rfl hc i pins s3 σ3 H3 X.xe I3 (stat fr3) st3 go) fun r s4 ⟨u,hr,h4⟩=>?_)
    subst hr
    refine wpAny_passesOwn hp (thn h4 fun _ s5 ⟨x,H5,I5,r5,y5,st5,fr5⟩=>?_)
    have I5':=I5.pinned (stat fr5) (T.obj _ _ st5)
    refine wpAny_passesOwn hp (thn (hg _ s5 σ3 H5 x u _ I5' r5 (step x H5 y5)) fun _ s6 ⟨σ6,H6,I6,q6⟩=>?_)
    refine wpAny_passesOwn hp (thn (hb _ s6 σ6 H6 _ I6 q6) fun f s7 q7=>?_)
    have again:∀ {σ7:St} {H7:Hp},Inv X (pins ++ Q0m fp s5.heap) σ7 H7 s7->N σ7 H7->∃ m,m < n/\∃ i σ' H',Inv X pins σ' H' s7/\tn i s7.heap/\(∀ b∈fp,H' b=none)/\W i m σ' H':=fun {σ7 H7} I7 n7=>by
      obtain ⟨m',hm,w7⟩:=hN σ7 H7 n7
      refine ⟨m',hm,i + 1,σ7,H7,I7.unpinned,T.keep _ _ _ st5 fun b hb o e=>(I7.pin (b,o) (E6 _ (E6 _ (V0 hb e)))).1,fun b hb=>?_,w7⟩
      obtain ⟨o,e,d⟩:=T.obj _ _ st5 b hb
      exact (I7.pin (b,o) (E6 _ (E6 _ (V0 hb e)))).2.1
    cases f with
    | next=>obtain ⟨σ7,H7,I7,n7⟩:=q7; exact again I7 n7
    | cont=>obtain ⟨σ7,H7,I7,n7⟩:=q7; exact again I7 n7
    | brk=>obtain ⟨σ7,H7,I7,q7⟩:=q7; exact ⟨σ7,H7,I7.unpinned,q7⟩
    | ret v=>obtain ⟨x7,σ7,H7,I7,r7,q7⟩:=q7; exact ⟨x7,σ7,H7,I7.unpinned,r7,q7⟩
end
end L2
namespace L2
open PySem PySem.Spec PyProof.Rows
abbrev R2:=V->V->Hp->VK->Prop
def OpR (X:Cx) (f:Value->Value->Sem Value) (r:R2):Prop:=
  ∀ (pins:List (Addr × Obj)) (s:Shared) (σ:St) (H:Hp) (x y:V) (v u:Value) (Q:VK),Inv X pins σ H s->RelV x v->RelV y u->r x y H Q ->
    wpAny (model X.prog X.w) X.A (f v u) (EP X pins σ Q) X.xe s
def UnR (X:Cx) (f:Value->Sem Value) (r:V->Hp->VK->Prop):Prop:=
  ∀ (pins:List (Addr × Obj)) (s:Shared) (σ:St) (H:Hp) (x:V) (v:Value) (Q:VK),Inv X pins σ H s->RelV x v->r x H Q ->
    wpAny (model X.prog X.w) X.A (f v) (EP X pins σ Q) X.xe s
def V8 (X:Cx) (f:Value) (r:List V->Hp->VK->Prop):Prop:=
  ∀ (pins:List (Addr × Obj)) (s:Shared) (σ:St) (H:Hp) (xs:List V) (us:List Value) (Q:VK),Inv X pins σ H s->Vals xs us->r xs H Q ->
    wpAny (model X.prog X.w) X.A (call f us) (EP X pins σ Q) X.xe s
def tOp (r:R2) (ta tb:TE):TE:=fun σ H Q=>ta σ H fun x H1=>tb σ H1 fun y H2=>r x y H2 Q
def tUn (r:V->Hp->VK->Prop) (ta:TE):TE:=fun σ H Q=>ta σ H fun x H1=>r x H1 Q
def rI (C:Int->Int->Prop) (g:Int->Int->V):R2:=fun x y H Q=>∃ i j,x=.int i/\y=.int j/\C i j/\Q (g i j) H
def rI0 (g:Int->Int->V):R2:=fun x y H Q=>∃ i j,x=.int i/\y=.int j/\Q (g i j) H
def rU (g:Int->V):V->Hp->VK->Prop:=fun x H Q=>∃ i,x=.int i/\Q (g i) H
section
variable {X:Cx} {a b c:Expr} {ta tb tc:TE} {pos:Pos}
theorem binT (ha:PE X a ta) (hb:PE X b tb) {pins:List (Addr × Obj)} {s:Shared} {σ:St} {H:Hp} {R:V->V->Hp->Prop} (I:Inv X pins σ H s)
    (h:ta σ H fun x H1=>tb σ H1 fun y H2=>R x y H2) {Q:Value->Shared->Prop} {f:Value->Value->Sem Value}
    (hf:∀ v u s2 x y H2,Inv X pins σ H2 s2->RelV x v->RelV y u->R x y H2->wpAny (model X.prog X.w) X.A (f v u) Q X.xe s2) :
    wpAny (model X.prog X.w) X.A (eval a X.env) (fun v s₁=>wpAny (model X.prog X.w) X.A (eval b X.env) (fun u s₂=>wpAny (model X.prog X.w) X.A (f v u) Q X.xe s₂) X.xe s₁) X.xe s:=by
  refine thn (ha pins s σ H _ I h) fun v s1 ⟨x,H1,I1,r1,q1⟩=>?_
  refine thn (hb pins s1 σ H1 _ I1 q1) fun u s2 ⟨y,H2,I2,r2,q2⟩=>?_
  exact hf v u s2 x y H2 I2 r1 r2 q2
theorem pe_op {op:Operator} {r:R2} (ho:OpR X (binaryOp op) r) (ha:PE X a ta) (hb:PE X b tb):PE X (.BinOp a op b pos) (tOp r ta tb):=by
  intro pins s σ H Q I h
  exact wpAny_BinOp (binT ha hb I h fun v u s2 x y H2 I2 rx ry q=>ho pins s2 σ H2 x y v u Q I2 rx ry q)
theorem pe_un {op:UnaryOp} {r:V->Hp->VK->Prop} (ho:UnR X (unaryOp op) r) (ha:PE X a ta):PE X (.UnaryOp op a pos) (tUn r ta):=by
  intro pins s σ H Q I h
  exact UnaryOp_ (thn (ha pins s σ H _ I h) fun v s1 ⟨x,H1,I1,r1,q1⟩=>ho pins s1 σ H1 x v Q I1 r1 q1)
theorem opI {f:Value->Value->Sem Value} {C:Int->Int->Prop} {g:Int->Int->Int}
    (rule:∀ (i j:Int) (t u:Tok) (s:Shared) (Q:Value->Shared->Prop) (E:Value->Shared->Prop),C i j->Q (.int (g i j) s.toks) { s with toks:=s.toks + 1 }->wpAny (model X.prog X.w) X.A (f (.int i t) (.int j u)) Q E s) :
    OpR X f (rI C fun i j=>.int (g i j)):=by
  intro pins s σ H x y v u Q I rx ry h
  obtain ⟨i,j,rfl,rfl,hc,q⟩:=h
  obtain ⟨t,rfl⟩:=rx
  obtain ⟨t',rfl⟩:=ry
  exact rule i j t t' s _ _ hc ⟨.int (g i j),H,I.tok _,⟨_,rfl⟩,q⟩
theorem opI0 {f:Value->Value->Sem Value} {g:Int->Int->Int}
    (rule:∀ (i j:Int) (t u:Tok) (s:Shared) (Q:Value->Shared->Prop) (E:Value->Shared->Prop),Q (.int (g i j) s.toks) { s with toks:=s.toks + 1 }->wpAny (model X.prog X.w) X.A (f (.int i t) (.int j u)) Q E s) :
    OpR X f (rI0 fun i j=>.int (g i j)):=by
  intro pins s σ H x y v u Q I rx ry h
  obtain ⟨i,j,rfl,rfl,q⟩:=h
  obtain ⟨t,rfl⟩:=rx
  obtain ⟨t',rfl⟩:=ry
  exact rule i j t t' s _ _ ⟨.int (g i j),H,I.tok _,⟨_,rfl⟩,q⟩
theorem opB0 {f:Value->Value->Sem Value} {g:Int->Int->Bool}
    (rule:∀ (i j:Int) (t u:Tok) (s:Shared) (Q:Value->Shared->Prop) (E:Value->Shared->Prop),Q (.bool (g i j)) s->wpAny (model X.prog X.w) X.A (f (.int i t) (.int j u)) Q E s) :
    OpR X f (rI0 fun i j=>.bl (g i j)):=by
  intro pins s σ H x y v u Q I rx ry h
  obtain ⟨i,j,rfl,rfl,q⟩:=h
  obtain ⟨t,rfl⟩:=rx
  obtain ⟨t',rfl⟩:=ry
  exact rule i j t t' s _ _ ⟨.bl (g i j),H,I,rfl,q⟩
def CPow (i j:Int):Prop:=0<=j/\j<=1000000/\i.natAbs < 2 ^ 64
def CMul (i j:Int):Prop:=(-(2 ^ 64) < i/\i < 2 ^ 64)\/(-(2 ^ 64) < j/\j < 2 ^ 64)
theorem CMul.ok {i j:Int} (h:CMul i j):IntMulOk i j:=by
  rcases h with ⟨h1,h2⟩ | ⟨h1,h2⟩
  · exact .of_left (intBits_le_64 h1 h2)
  · exact .of_right (intBits_le_64 h1 h2)
theorem op_add:OpR X (binaryOp .Add) (rI0 fun i j=>.int (i + j)):=opI0 fun _ _ _ _ _ _ _ q=>add_int q
theorem op_sub:OpR X (binaryOp .Sub) (rI0 fun i j=>.int (i - j)):=opI0 fun _ _ _ _ _ _ _ q=>sub_int q
theorem op_mul:OpR X (binaryOp .Mult) (rI CMul fun i j=>.int (i * j)):=opI fun _ _ _ _ _ _ _ hc q=>mul_int q hc.ok
theorem op_mod:OpR X (binaryOp .Mod) (rI (fun _ j=>0 < j) fun i j=>.int (i % j)):=opI fun i j _ _ _ _ _ hc q=>by
  have h1:(0:Int) < j:=hc
  exact mod_int' (by omega) (by rw [Int.fmod_eq_emod_of_nonneg i (by omega)]; exact q)
theorem op_pow:OpR X (binaryOp .Pow) (rI CPow fun i j=>.int (i ^ j.toNat)):=opI fun _ _ _ _ _ _ _ hc q=>pow_int_small hc.1 hc.2.1 hc.2.2 q
theorem unI {f:Value->Sem Value} {g:Int->Int}
    (rule:∀ (i:Int) (t:Tok) (s:Shared) (Q:Value->Shared->Prop) (E:Value->Shared->Prop),Q (.int (g i) s.toks) { s with toks:=s.toks + 1 }->wpAny (model X.prog X.w) X.A (f (.int i t)) Q E s) :
    UnR X f (rU fun i=>.int (g i)):=by
  intro pins s σ H x v Q I rx h
  obtain ⟨i,rfl,q⟩:=h
  obtain ⟨t,rfl⟩:=rx
  exact rule i t s _ _ ⟨.int (g i),H,I.tok _,⟨_,rfl⟩,q⟩
theorem un_neg:UnR X (unaryOp .USub) (rU fun i=>.int (-i)):=unI fun _ _ _ _ _ q=>neg_int q
end
def scal:V->V->Bool
  | .non,.non=>true | .non,.int _=>true | .int _,.non=>true | .non,.bl _=>true | .bl _,.non=>true | .non,.str _=>true | .str _,.non=>true
  | .int _,.int _=>true | .bl _,.bl _=>true | .str _,.str _=>true | .byt _,.byt _=>true
  | .int _,.str _=>true | .str _,.int _=>true | .bl _,.str _=>true | .str _,.bl _=>true
  | _,_=>false
def rNe:R2:=fun x y H Q=>scal x y=true/\Q (.bl (!decide (x=y))) H
theorem dec_int {i j:Int}:decide (V.int i=V.int j)=(i == j):=by
  rw [Bool.eq_iff_iff]
  simp
theorem dec_bl {i j:Bool}:decide (V.bl i=V.bl j)=(i == j):=by
  rw [Bool.eq_iff_iff]
  simp
theorem dec_str {i j:Str}:decide (V.str i=V.str j)=(i == j):=by
  rw [Bool.eq_iff_iff]
  simp
theorem dec_byt {i j:Array UInt8}:decide (V.byt i=V.byt j)=(i.toList == j.toList):=by
  rw [Bool.eq_iff_iff]
  cases i
  cases j
  simp
section
variable {X:Cx} {a b c:Expr} {ta tb tc:TE} {pos:Pos}
theorem Zi {pins:List (Addr × Obj)} {σ:St} {H:Hp} {s:Shared} {Q:VK} {k k':Bool} (I:Inv X pins σ H s) (q:Q (.bl k) H) (e:k=k'):EP X pins σ Q (.bool k') s:=by
  subst e
  exact ⟨.bl k,H,I,rfl,q⟩
theorem op_ne:OpR X (compareOp .NotEq) rNe:=by
  intro pins s σ H x y v u Q I rx ry h
  obtain ⟨hs,q⟩:=h
  cases x with
  | non=>
    cases rx
    cases y with
    | non=>cases ry; exact PySem.EqNone.ne_none_none (Zi I q (by simp))
    | bl j=>cases ry; exact PySem.EqNone.ne_none_bool (Zi I q (by simp))
    | int j=>obtain ⟨t',rfl⟩:=ry; exact PySem.EqNone.ne_none_int (Zi I q (by simp))
    | str j=>obtain ⟨t',rfl⟩:=ry; exact PySem.EqNone.ne_none_str (Zi I q (by simp))
    | _=>exact absurd (show false=true from hs) O9
  | bl i=>
    cases rx
    cases y with
    | non=>cases ry; exact PySem.EqNone.ne_bool_none (Zi I q (by simp))
    | bl j=>cases ry; exact ne_bool (Zi I q (congrArg not dec_bl))
    | str j=>obtain ⟨t',rfl⟩:=ry; exact PySem.EqMixed.ne_bool_str (Zi I q (by simp))
    | _=>exact absurd (show false=true from hs) O9
  | int i=>
    obtain ⟨t,rfl⟩:=rx
    cases y with
    | non=>cases ry; exact PySem.EqNone.ne_int_none (Zi I q (by simp))
    | int j=>obtain ⟨t',rfl⟩:=ry; exact ne_int (Zi I q (congrArg not dec_int))
    | str j=>obtain ⟨t',rfl⟩:=ry; exact PySem.EqMixed.ne_int_str (Zi I q (by simp))
    | _=>exact absurd (show false=true from hs) O9
  | str i=>
    obtain ⟨t,rfl⟩:=rx
    cases y with
    | non=>cases ry; exact PySem.EqNone.ne_str_none (Zi I q (by simp))
    | bl j=>cases ry; exact PySem.EqMixed.ne_str_bool (Zi I q (by simp))
    | int j=>obtain ⟨t',rfl⟩:=ry; exact PySem.EqMixed.ne_str_int (Zi I q (by simp))
    | str j=>obtain ⟨t',rfl⟩:=ry; exact ne_str (Zi I q (congrArg not dec_str))
    | _=>exact absurd (show false=true from hs) O9
  | byt i=>
    obtain ⟨t,rfl⟩:=rx
    cases y with
    | byt j=>obtain ⟨t',rfl⟩:=ry; exact PySem.W.ne_bytes (Zi I q (congrArg not dec_byt))
    | _=>exact absurd (show false=true from hs) O9
  | _=>cases y <;> exact absurd (show false=true from hs) O9
theorem op_lt:OpR X (compareOp .Lt) (rI0 fun i j=>.bl (decide (i < j))):=opB0 fun _ _ _ _ _ _ _ q=>lt_int q
theorem op_le:OpR X (compareOp .LtE) (rI0 fun i j=>.bl (decide (i<=j))):=opB0 fun _ _ _ _ _ _ _ q=>le_int q
theorem op_gt:OpR X (compareOp .Gt) (rI0 fun i j=>.bl (decide (j < i))):=opB0 fun _ _ _ _ _ _ _ q=>gt_int q
theorem op_ge:OpR X (compareOp .GtE) (rI0 fun i j=>.bl (decide (j<=i))):=opB0 fun _ _ _ _ _ _ _ q=>ge_int q
theorem op_isN:OpR X (compareOp .Is) (fun x y H Q=>y=.non/\Q (.bl (decide (x=.non))) H):=by
  intro pins s σ H x y v u Q I rx ry h
  obtain ⟨rfl,q⟩:=h
  cases ry
  refine is_none_gen (Zi I q ?_)
  cases x <;> first
    | (cases rx; rfl)
    | (obtain ⟨t,rfl⟩:=rx; rfl)
theorem op_notN:OpR X (compareOp .IsNot) (fun x y H Q=>y=.non/\Q (.bl (!decide (x=.non))) H):=by
  intro pins s σ H x y v u Q I rx ry h
  obtain ⟨rfl,q⟩:=h
  cases ry
  refine isnot_none_gen (Zi I q ?_)
  cases x <;> first
    | (cases rx; rfl)
    | (obtain ⟨t,rfl⟩:=rx; rfl)
theorem OpR.or {f:Value->Value->Sem Value} {r r':R2} (h:OpR X f r) (h':OpR X f r'):OpR X f (fun x y H Q=>r x y H Q\/r' x y H Q):=by
  intro pins s σ H x y v u Q I rx ry q
  rcases q with q | q
  · exact h pins s σ H x y v u Q I rx ry q
  · exact h' pins s σ H x y v u Q I rx ry q
theorem nomark (b:Expr) {op:CmpOp} (h:op≠.In:=by decide) (h2:op≠.NotIn:=by decide):behindInMarks op b=false:=by
  have e1:(op == CmpOp.In)=false:=by cases op <;> first | rfl | exact absurd rfl h
  have e2:(op == CmpOp.NotIn)=false:=by cases op <;> first | rfl | exact absurd rfl h2
  cases b <;> simp [behindInMarks,e1,e2]
theorem pe_cmpR {op:CmpOp} {r:R2} (ho:OpR X (compareOp op) r) (ha:PE X a ta) (hb:PE X b tb) (hm:behindInMarks op b=false):PE X (.Compare a [op] [b] pos) (tOp r ta tb):=by
  intro pins s σ H Q I h
  exact wpAny_Compare1 (binT ha hb I h fun v u s2 x y H2 I2 rx ry q=>ho pins s2 σ H2 x y v u Q I2 rx ry q) hm
def tTest (t:TE):TT:=fun σ H Q=>t σ H fun x H'=>∃ k,x=.bl k/\Q k H'
theorem pt_cmpR {op:CmpOp} {r:R2} (ho:OpR X (compareOp op) r) (ha:PE X a ta) (hb:PE X b tb) (hm:behindInMarks op b=false):PT X (.Compare a [op] [b] pos) (tTest (tOp r ta tb)):=by
  intro pins s σ H Q I h
  refine wpAny_isTrue_Compare1 (thn (ha pins s σ H _ I h) fun v s1 ⟨x,H1,I1,r1,q1⟩=>thn (hb pins s1 σ H1 _ I1 q1) fun u s2 ⟨y,H2,I2,r2,q2⟩=>
    thn (ho pins s2 σ H2 x y v u _ I2 r1 r2 q2) fun c s3 ⟨z,H3,I3,r3,k,e,q3⟩=>?_) hm
  subst e
  cases r3
  exact wpAny_truthy_bool ⟨H3,I3,q3⟩
def tChain (r r':R2) (ta tb tc:TE):TE:=fun σ H Q=>ta σ H fun x H1=>tb σ H1 fun y H2=>r x y H2 fun z H3=>∃ k,z=.bl k /\
  (if k=true then tc σ H3 fun w' H4=>r' y w' H4 Q else Q (.bl false) H3)
theorem pe_chain {op op':CmpOp} {r r':R2} (ho:OpR X (compareOp op) r) (ho':OpR X (compareOp op') r') (ha:PE X a ta) (hb:PE X b tb) (hc:PE X c tc)
    (hm:lastMarks [op,op'] [b,c]=false:=by with_unfolding_all rfl):PE X (.Compare a [op,op'] [b,c] pos) (tChain r r' ta tb tc):=by
  intro pins s σ H Q I h
  refine Compare_chain (thn (ha pins s σ H _ I h) fun v s1 ⟨x,H1,I1,r1,q1⟩=>chain_link (thn (hb pins s1 σ H1 _ I1 q1) fun u s2 ⟨y,H2,I2,r2,q2⟩=>
    thn (ho pins s2 σ H2 x y v u _ I2 r1 r2 q2) fun d s3 ⟨z,H3,I3,r3,k,e,q3⟩=>?_)) hm
  subst e
  cases r3
  refine wpAny_truthy_bool ?_
  cases k with
  | false=>exact ite_ff ⟨.bl false,H3,I3,rfl,q3⟩
  | true=>exact ite_tt (chain_last (thn (hc pins s3 σ H3 _ I3 q3) fun w' s4 ⟨z',H4,I4,r4,q4⟩=>ho' pins s4 σ H4 y z' u w' Q I4 r2 r4 q4))
theorem pt_chain {op op':CmpOp} {r r':R2} (ho:OpR X (compareOp op) r) (ho':OpR X (compareOp op') r') (ha:PE X a ta) (hb:PE X b tb) (hc:PE X c tc)
    (hm:lastMarks [op,op'] [b,c]=false:=by with_unfolding_all rfl):PT X (.Compare a [op,op'] [b,c] pos) (tTest (tChain r r' ta tb tc)):=by
  intro pins s σ H Q I h
  refine isTrue_chain (thn (ha pins s σ H _ I h) fun v s1 ⟨x,H1,I1,r1,q1⟩=>test_link (thn (hb pins s1 σ H1 _ I1 q1) fun u s2 ⟨y,H2,I2,r2,q2⟩=>
    thn (ho pins s2 σ H2 x y v u _ I2 r1 r2 q2) fun d s3 ⟨z,H3,I3,r3,k,e,q3⟩=>?_)) hm
  subst e
  cases r3
  refine wpAny_truthy_bool ?_
  cases k with
  | false=>
    obtain ⟨k',e',q'⟩:=q3
    cases e'
    exact ite_ff ⟨H3,I3,q'⟩
  | true=>
    refine ite_tt (test_last (thn (hc pins s3 σ H3 _ I3 q3) fun w' s4 ⟨z',H4,I4,r4,q4⟩=>thn (ho' pins s4 σ H4 y z' u w' _ I4 r2 r4 q4) fun d' s5 ⟨z2,H5,I5,r5,k2,e2,q5⟩=>?_))
    subst e2
    cases r5
    exact wpAny_truthy_bool ⟨H5,I5,q5⟩
theorem zj:(sizeLine:Nat) < 2 ^ 63:=by rw [sizeLine_eq]; decide
theorem op_add_str:OpR X (binaryOp .Add) (fun x y H Q=>∃ i j,x=.str i/\y=.str j/\i.length + j.length<=sizeLine/\Q (.str (i ++ j)) H):=by
  intro pins s σ H x y v u Q I rx ry h
  obtain ⟨i,j,rfl,rfl,hz,q⟩:=h
  obtain ⟨t,rfl⟩:=rx
  obtain ⟨t',rfl⟩:=ry
  exact add_str (fun t' tk=>⟨.str (i ++ j),H,I.tok _,⟨_,rfl⟩,q⟩) hz
theorem Ks {x:V} {us:List Value} (r:Vals [x] us):∃ u,us=[u]/\RelV x u:=by
  cases r with
  | cons r1 r2=>cases r2; exact ⟨_,rfl,r1⟩
theorem vals2 {x y:V} {us:List Value} (r:Vals [x,y] us):∃ u w',us=[u,w']/\RelV x u/\RelV y w':=by
  cases r with
  | cons r1 r2=>
    cases r2 with
    | cons r3 r4=>cases r4; exact ⟨_,_,rfl,r1,r3⟩
theorem call_min2 (hc:X.calm=true):V8 X (.builtin "min") (fun xs H Q=>∃ i j,xs=[.int i,.int j]/\Q (.int (if j < i then j else i)) H):=by
  intro pins s σ H xs us Q I r h
  obtain ⟨i,j,rfl,q⟩:=h
  obtain ⟨u,w',rfl,⟨t,rfl⟩,⟨t',rfl⟩⟩:=vals2 r
  refine min_two_ints (I.ok.hd hc) fun h' tk k=>⟨_,H,I.kept k,?_,q⟩
  by_cases hj:j < i
  · rw [if_pos hj,if_pos hj]; exact ⟨_,rfl⟩
  · rw [if_neg hj,if_neg hj]; exact ⟨_,rfl⟩
end
end L2
namespace L2
open PySem PySem.Spec PyProof.Rows
structure ObjM (h:Heap) (x dx C:Addr) (mA:Str->Option Value):Prop where
  obj:h.get? x=some (PySem.W.instObj C dx)
  ns:h.Ns1 dx mA
  ne:dx≠x
theorem lookIn_ns {h:Heap} {dx:Addr} {mA:Str->Option Value} (n:h.Ns1 dx mA):∃ od,h.get? dx=some od/\∀ name,PySem.W.lookIn name od=some (mA name):=by
  obtain ⟨o,es,ep,ho,hd,hk,_,hm⟩:=n
  refine ⟨o,ho,fun name=>?_⟩
  have e:=hm name
  unfold nsFind findBy at e
  rw [<- Array.find?_toList] at e
  unfold PySem.W.lookIn
  rw [hd]
  dsimp only
  split
  · rename_i y q
    rw [q] at e
    exact congrArg some e
  · rename_i q
    rw [q] at e
    have a:es.toList.any (·.refKey)=false:=by
      rw [List.any_eq_false]
      intro y hy
      obtain ⟨z,t,hkey⟩:=hk y (Array.mem_toList_iff.mp hy)
      simp [DictEntry.refKey,hkey]
    have a':¬ es.toList.any (·.refKey)=true:=by rw [a]; exact O9
    rw [if_neg a']
    exact congrArg some e
theorem ObjM.look {h:Heap} {x dx C:Addr} {mA:Str->Option Value} (I:ObjM h x dx C mA):∃ od,PySem.W.InstAt h x (PySem.W.instObj C dx) C (some od)/\∀ name,PySem.W.lookIn name od=some (mA name):=
  let ⟨od,ho,hl⟩:=lookIn_ns I.ns
  ⟨od,⟨I.obj,rfl,rfl,ho⟩,hl⟩
section
variable {prog:Program} {w:World} {A:Around} {E:Value->Shared->Prop} {s:Shared} {K:PySem.W.Frag} {x dx C f:Addr} {mA:Str->Option Value} {name:Str} {v:Value}
end
theorem RelO.some_of {v:V} {o:Option Value} (r:RelO (some v) o):∃ u,o=some u/\RelV v u:=by
  cases o with
  | none=>exact (show False from r).elim
  | some u=>exact ⟨u,rfl,r⟩
section
variable {P:Program} {w:World} {H H':Hp} {h h':Heap} {a C dx:Addr} {fs fs':List (Str × V)}
theorem ins_get (hok:HOk P w H h) (e:H a=some (.ins C dx fs)):∃ mA,ObjM h a dx C mA/\(∀ f,RelO (fs.lookup f) (mA f))/\PySem.Within mA (fs.map (·.1))/\fs.length<=1000/\H dx=some (.own a):=by
  obtain ⟨d,z,ne,ob,mA,n,r,q⟩:=(show ObjOk P w H h a (.ins C dx fs) from hok a _ e)
  exact ⟨mA,⟨ob,n,ne⟩,r,q,z,d⟩
end
structure Cls (K:PySem.W.Frag) (C:Addr):Prop where
  pg:PySem.W.plainGet K C Str.empty=true
  hd:PySem.W.hasDictIn K C=true
  po:PySem.W.plainOver K C=true
  sa:PySem.W.findIn K (.ref C) "__setattr__" = some (some (.builtin "object.__setattr__"))
theorem Cls.get {K:PySem.W.Frag} {C:Addr} (c:Cls K C) (f:Str):PySem.W.plainGet K C f=true:=c.pg
section
variable {X:Cx} {pins:List (Addr × Obj)} {σ:St} {H:Hp} {s:Shared} {a C dx:Addr} {fs:List (Str × V)} {f:Str} {v:V} {A:Around} {E:Value->Shared->Prop}
end
section
variable {X:Cx} {o e value:Expr} {f:Str} {pos pos' tpos:Pos} {ta tv:TE}
end
section
variable {X:Cx} {pins:List (Addr × Obj)} {σ:St} {H:Hp} {s:Shared} {A:Around} {E:Value->Shared->Prop} {Q:Value->Shared->Prop} {c:Value} {b:Bool}
inductive TyOf (K:PySem.W.Frag) (H:Hp):V->Value->Prop where
  | non:TyOf K H .non (.type "NoneType")
  | bl (x:Bool):TyOf K H (.bl x) (.type "bool")
  | int (i:Int):TyOf K H (.int i) (.type "int")
  | str (x:Str):TyOf K H (.str x) (.type "str")
  | flt (x:UInt64):TyOf K H (.flt x) (.type "float")
  | lst {a:Addr} {xs:List V} (e:H a=some (.lst xs)):TyOf K H (.ref a) (.type "list")
  | frz {a:Addr} {o:Obj} {xs:List V} (e:H a=some (.frz o (.lst xs))):TyOf K H (.ref a) (.type "list")
  | tup {a:Addr} {xs:List V} (e:H a=some (.tup xs)):TyOf K H (.ref a) (.type "tuple")
  | dK {a:Addr} {kvs:List (Key × V)} (e:H a=some (.dK kvs)):TyOf K H (.ref a) (.type "dict")
  | dT {a:Addr} {kvs:List (List Key × V)} (e:H a=some (.dT kvs)):TyOf K H (.ref a) (.type "dict")
  | ins {a C dx:Addr} {fs:List (Str × V)} (e:H a=some (.ins C dx fs)) (cl:Cls K C) (ha:PySem.W.findIn K (.ref C) "__class__" = some (some (.builtin "object.__class__")))
      (hn:PySem.W.specialIn K (.builtin "object.__class__") "__get__" = some (some (.builtin "getset_descriptor.__get__"))) (htk:PySem.W.takesIn K (.builtin "object.__class__")=some true)
      (hm:PySem.W.mroIn K C (.type "object")=some true):TyOf K H (.ref a) (.ref C)
theorem isinst_ok {x:V} {u t:Value} (I:Inv X pins σ H s) (rx:RelV x u) (ty:TyOf X.K H x t) (e:PySem.W.kitOne X.K t c=some b) (h:∀ tk,Q (.bool b) { s with toks:=tk }) :
    wpAny (model X.prog X.w) A (call (.builtin "isinstance") [u,c]) Q E s:=by
  cases ty with
  | non=>cases (show u=Value.none from rx); exact PySem.W.kia_one PySem.W.kitx_none I.kIn True.intro e (fun z=>nomatch z) h
  | bl y=>cases (show u=Value.bool y from rx); exact PySem.W.kia_one PySem.W.kitx_bool I.kIn True.intro e (fun z=>nomatch z) h
  | int i=>obtain ⟨t,q⟩:=(show ∃ t,u=Value.int i t from rx); cases q; exact PySem.W.kia_one PySem.W.kitx_int I.kIn True.intro e (fun z=>nomatch z) h
  | str y=>obtain ⟨t,q⟩:=(show ∃ t,u=Value.str y t from rx); cases q; exact PySem.W.kia_one PySem.W.kitx_str I.kIn True.intro e (fun z=>nomatch z) h
  | flt y=>obtain ⟨t,q⟩:=(show ∃ t,u=Value.float y t from rx); cases q; exact PySem.W.kia_one PySem.W.kitx_float I.kIn True.intro e (fun z=>nomatch z) h
  | @lst a xs ea=>
    cases (show u=Value.ref a from rx)
    obtain ⟨_,_,n,_,h1⟩:=(show ObjOk X.prog X.w H s.heap a (.lst xs) from I.hok a _ ea)
    exact PySem.W.kia_one PySem.W.kitx_list I.kIn ⟨_,h1,rfl⟩ e (fun z=>nomatch z) h
  | @frz a ob xs ea=>
    cases (show u=Value.ref a from rx)
    obtain ⟨_,_,_,n,_,h1⟩:=(show ObjOk X.prog X.w H s.heap a (.frz ob (.lst xs)) from I.hok a _ ea)
    exact PySem.W.kia_one PySem.W.kitx_list I.kIn ⟨_,h1,rfl⟩ e (fun z=>nomatch z) h
  | @tup a xs ea=>
    cases (show u=Value.ref a from rx)
    obtain ⟨_,_,_,p⟩:=(show ObjOk X.prog X.w H s.heap a (.tup xs) from I.hok a _ ea)
    obtain ⟨o,h1,h2,_⟩:=p
    exact PySem.W.kia_one PySem.W.kitx_tuple I.kIn ⟨o,h1,h2⟩ e (fun z=>nomatch z) h
  | @dK a kvs ea=>
    cases (show u=Value.ref a from rx)
    obtain ⟨_,_,vs,_,p⟩:=(show ObjOk X.prog X.w H s.heap a (.dK kvs) from I.hok a _ ea)
    obtain ⟨o,es,ep,h1,h2,_⟩:=p
    exact PySem.W.kia_one PySem.W.kitx_dict I.kIn ⟨o,h1,h2.1⟩ e (fun z=>nomatch z) h
  | @dT a kvs ea=>
    cases (show u=Value.ref a from rx)
    obtain ⟨_,_,xs,_,o,es,ep,h1,h2,_⟩:=(show ObjOk X.prog X.w H s.heap a (.dT kvs) from I.hok a _ ea)
    exact PySem.W.kia_one PySem.W.kitx_dict I.kIn ⟨o,h1,h2.1⟩ e (fun z=>nomatch z) h
  | @ins a C dx fs ea cl ha hn htk hm=>
    cases (show u=Value.ref a from rx)
    obtain ⟨mA,O,_⟩:=ins_get I.hok ea
    obtain ⟨od,J,_⟩:=O.look
    exact PySem.W.kia_one (PySem.W.kitx_own (cl.get _) cl.hd ha hn htk hm) I.kIn J e (fun z=>nomatch z) h
end
end L2
namespace L2
open PySem PySem.Spec PyProof.Rows
structure Room (k:Nat) (A:Around):Prop where
  hd:A.handled=none
  dp:A.depth + 3 * k + 5 < recursionLimit
  un:A.units + 16 * k + 200 < cLine
theorem Room.mono {j k:Nat} {A:Around} (r:Room k A) (h:j<=k):Room j A:=⟨r.hd,by have:=r.dp; omega,by have:=r.un; omega⟩
theorem Room.deeper {k:Nat} {A:Around} (r:Room (k + 1) A) (env:Env):Room k (A.deeper env):=
  ⟨r.hd,by have:=r.dp; show A.depth + 1 + 3 * k + 5 < _; omega,by have:=r.un; show A.units + 3 + 16 * k + 200 < _; omega⟩
theorem Room.depth {k:Nat} {A:Around} (r:Room k A):A.depth < recursionLimit:=by have:=r.dp; omega
theorem Room.units {k:Nat} {A:Around} (r:Room k A):A.units + 64 < cLine:=by have:=r.un; omega
def tNil:TA:=fun _ H Q=>Q [] H
def tCons (ta:TE) (tr:TA):TA:=fun σ H Q=>ta σ H fun x H1=>tr σ H1 fun xs H2=>Q (x :: xs) H2
section
variable {X:Cx} {e:Expr} {es:List Expr} {te:TE} {t:TA} {pos:Pos}
theorem Ju:PA X [] tNil:=fun _ _ _ _ H Q I h=>Calls.spliced_nil ⟨[],H,I,.nil,h⟩
theorem Qm (ha:PE X e te) (hr:PA X es t) (hs:starEach (e :: es) X.env=(false,eval e X.env) :: starEach es X.env:=by rfl):PA X (e :: es) (tCons te t):=by
  intro pos pins s σ H Q I h
  rw [hs]
  show wpAny _ _ (spliced ((false,eval e X.env) :: backTo pos (starEach es X.env))) _ _ s
  refine Calls.spliced_cons (thn (ha pins s σ H _ I h) fun u s1 ⟨x,H1,I1,r1,q1⟩=>?_)
  exact thn (hr pos pins s1 σ H1 _ I1 q1) fun us s2 ⟨xs,H2,I2,r2,q2⟩=>⟨x :: xs,H2,I2,.cons r1 r2,q2⟩
def tTup (t:TA):TE:=fun σ H Q=>t σ H fun xs H1=>xs.length<=sizeLine/\∀ p,H1 p=none->Q (.ref p) (upd H1 p (.tup xs))
def tLst (t:TA):TE:=fun σ H Q=>t σ H fun xs H1=>xs.length<=sizeLine/\∀ p,H1 p=none->Q (.ref p) (upd H1 p (.lst xs))
theorem pe_tup {x1} (h:PA X es t):PE X (.Tuple es x1 pos) (tTup t):=by
  intro pins s σ H Q I hq
  refine wpAny_Tuple_spliced (thn (h pos pins s σ H _ I hq) fun us s1 ⟨xs,H1,I1,r,z,q⟩=>⟨by rw [<- r.length]; exact z,?_⟩)
  have hf:H1 s1.heap.objs.size=none:=I1.hok.fresh (O6 _)
  refine ⟨.ref s1.heap.objs.size,upd H1 s1.heap.objs.size (.tup xs),I1.laid (t':=s1.toks) (fun b u e=>O1 _ e) (O6 _) ?_,rfl,q _ hf⟩
  exact ⟨z,us,r,⟨_,D3 _ rfl,rfl,_,rfl⟩⟩
theorem pe_lst (h:PA X es t):PE X (.List es pos) (tLst t):=by
  intro pins s σ H Q I hq
  refine wpAny_List_spliced (thn (h pos pins s σ H _ I hq) fun us s1 ⟨xs,H1,I1,r,z,q⟩=>⟨by rw [<- r.length]; exact z,?_⟩)
  have hf:H1 s1.heap.objs.size=none:=I1.hok.fresh (O6 _)
  refine ⟨.ref s1.heap.objs.size,upd H1 s1.heap.objs.size (.lst xs),I1.laid (t':=s1.toks) (fun b u e=>O1 _ e) (O6 _) ?_,rfl,q _ hf⟩
  exact ⟨z,us,0,r,D3 _ rfl⟩
end
abbrev Sp:=List V->Hp->VK->XK->Prop
abbrev CXT:=List Env->Hp->Shared->XK->Value->Shared->Prop
structure Env0 (P:Program) (w:World) (K:PySem.W.Frag) (mg:Str->Option Value) (base:Heap) (A:Around) (outer:List Env) (s:Shared) (H:Hp):Prop where
  frames:A.frames=some outer
  mod:Mod K mg base
  bs:∀ b o,base.get? b=some o->s.heap.get? b=some o/\H b=none
  bsz:base.objs.size<=s.heap.objs.size
  funs:s.heap.FunFrames base outer
  frf:∀ b∈frs outer,H b=none
  hok:HOk P w H s.heap
  bare:AllBare s.gens
def CE (outer:List Env) (P:Program) (w:World) (H:Hp) (s:Shared) (Q:VK) (u:Value) (s':Shared):Prop:=
  ∃ v H',s'.os=s.os/\AllBare s'.gens/\Un (frs outer) [] H H' s.heap s'.heap/\HOk P w H' s'.heap/\RelV v u/\Q v H'
def CR (CX:CXT) (outer:List Env) (P:Program) (w:World) (H:Hp) (s:Shared) (Q:VK) (E:XK) (r:Result) (s':Shared):Prop:=
  match r with
  | .ok (.ret u)=>CE outer P w H s Q u s'
  | .ok _=>False
  | .error e=>CX outer H s E e s'
structure FnOk (P:Program) (w:World) (K:PySem.W.Frag) (mg:Str->Option Value) (base:Heap) (CX:CXT) (k:Nat) (f:Addr) (fd:FuncData) (ps:List Str) (sp:Sp):Prop where
  len:∀ vs H Q E,sp vs H Q E->vs.length=ps.length
  run:∀ (A:Around) (outer:List Env) (s:Shared) (H:Hp) (args:Args) (us:List Value) (vs:List V) (Q:VK) (E:XK),Room k A->Env0 P w K mg base A outer s H->BindsTo s fd args (ps.zip us)->Vals vs us->sp vs H Q E ->
    codeAny (model P w) A (.call (.ref f) args) (CR CX outer P w H s Q E) s
theorem FnOk.imp {P:Program} {w:World} {K:PySem.W.Frag} {mg:Str->Option Value} {base:Heap} {CX:CXT} {k:Nat} {f:Addr} {fd:FuncData} {ps:List Str} {sp sp':Sp} (F:FnOk P w K mg base CX k f fd ps sp)
    (h:∀ vs H Q E,sp' vs H Q E->sp vs H Q E):FnOk P w K mg base CX k f fd ps sp':=
  ⟨fun vs H Q E q=>F.len vs H Q E (h _ _ _ _ q),fun A outer s H args us vs Q E hr he hb hv hs=>F.run A outer s H args us vs Q E hr he hb hv (h _ _ _ _ hs)⟩
section
variable {X:Cx} {pins:List (Addr × Obj)} {σ:St} {H:Hp} {s s':Shared}
theorem Inv.env0 (I:Inv X pins σ H s):Env0 X.prog X.w X.K X.mg X.base X.A X.stack s H:=
  ⟨I.ok.frames,I.ok.mod,I.bs,E2 I.ok.bsz I.sz,I.stack,I.stkFree,I.hok,I.bare⟩
theorem Inv.after {Q:VK} {u:Value} (I:Inv X pins σ H s) (h:CE X.stack X.prog X.w H s Q u s'):EP X pins σ Q u s':=by
  obtain ⟨v,H',os,bare,un,hok,r,q⟩:=h
  obtain ⟨hh,g,d,t,os'⟩:=s'
  obtain rfl:os'=s.os:=os
  exact ⟨v,H',I.call (h':=hh) (g':=g) (d':=d) (t':=t) (ch:=[]) un hok bare (fun b z=>absurd z (by simp)),r,q⟩
end
def tCall (sp:Sp) (dvs:List V) (E:XK) (t:TA):TE:=fun σ H Q=>t σ H fun vs H1=>sp (vs ++ dvs) H1 Q E
def Binds (K:PySem.W.Frag) (fd:FuncData) (ps:List Str) (ds:List Value):Prop:=
  ∀ (s:Shared) (us:List Value),K.In s.heap->(us ++ ds).length=ps.length->BindsTo s fd ⟨us,[]⟩ (ps.zip (us ++ ds))
theorem Binds.all {K:PySem.W.Frag} {fd:FuncData} {ps:List Str} (h:∀ us:List Value,us.length=ps.length->bindArgs fd ⟨us,[]⟩=pure (ps.zip us)):Binds K fd ps []:=fun s us _ hl=>by
  rw [F6] at hl ⊢
  exact .of_eq (h us hl)
def Q1p (CX:CXT) (X:Cx) (E:XK):Prop:=∀ (pins:List (Addr × Obj)) (σ:St) (H:Hp) (s:Shared) (e:Value) (s':Shared),Inv X pins σ H s->CX X.stack H s E e s'->X.xe e s'
section
variable {X:Cx} {CX:CXT} {k:Nat} {f C:Addr} {fd:FuncData} {ps:List Str} {sp:Sp} {dvs:List V} {ds:List Value} {E:XK} {x m:Str} {p pos apos:Pos} {e o:Expr} {es:List Expr} {ta:TE} {t:TA}
theorem run_fn {pins:List (Addr × Obj)} {σ:St} {H:Hp} {s:Shared} {Q:VK} {us:List Value} {vs:List V} (F:FnOk X.prog X.w X.K X.mg X.base CX k f fd ps sp) (hr:Room k X.A) (hb:Binds X.K fd ps ds) (hd:Vals dvs ds) (hx:Q1p CX X E)
    (I:Inv X pins σ H s) (r:Vals vs us) (h:sp (vs ++ dvs) H Q E):wpAny (model X.prog X.w) X.A (call (.ref f) us) (EP X pins σ Q) X.xe s:=by
  have r2:Vals (vs ++ dvs) (us ++ ds):=r.append hd
  have hl:(us ++ ds).length=ps.length:=by rw [<- r2.length]; exact F.len _ _ _ _ h
  refine wpAny_call (codeAny_mono (F.run X.A X.stack s H ⟨us,[]⟩ (us ++ ds) (vs ++ dvs) Q E hr I.env0 (hb s us I.kIn hl) r2 h) fun r s' hq=>?_)
  cases r with
  | error e=>exact hx pins σ H s e s' I hq
  | ok fl=>
    cases fl with
    | ret u=>exact I.after hq
    | next=>exact False.elim hq
    | brk=>exact False.elim hq
    | cont=>exact False.elim hq
theorem pe_call (F:FnOk X.prog X.w X.K X.mg X.base CX k f fd ps sp) (hr:Room k X.A) (hg:Gl X x) (hm:X.mg x=some (.ref f)) (hk:PySem.W.keepIn X.K (.ref f)=true) (hb:Binds X.K fd ps ds) (hd:Vals dvs ds) (hx:Q1p CX X E)
    (ha:PA X (e :: es) t) (hdb:(x == ("__debug__" : Str))=false:=by decide) (he:starEach (e :: es) X.env=(false,eval e X.env) :: starEach es X.env:=by rfl) (hpl:(backTo pos (starEach es X.env)).any (·.1)=false:=by rfl) :
    PE X (.Call (.Name x p) (e :: es) [] pos) (tCall sp dvs E t):=by
  intro pins s σ H Q I h
  refine wpAny_Call_Name_kw (jn I hg hm ?_ hdb)
  refine PySem.W.callWith_K (h₀:=X.base) I.ok.mod.kin hk (thn (ha pos pins s σ H _ I h) fun us s1 ⟨vs,H1,I1,r,q⟩=>⟨I1.kIn,?_⟩) he hpl
  exact run_fn F hr hb hd hx I1 r q
end
section
variable {X:Cx} {CX:CXT} {k:Nat} {f C:Addr} {fd:FuncData} {ps ks:List Str} {sp:Sp} {E:XK} {x m:Str} {p pos apos kpos:Pos} {e o:Expr} {es:List Expr} {kws:List Keyword} {te ta:TE} {t tk:TA} {nm:Option Str}
variable {g:List Value->List Value->List Value} {gV:List V->List V->List V}
end
structure FnScope (N P:List Str) (sc:Scope):Prop where
  kind:sc.kind=.function
  co:sc.isCoroutine=false
  gen:sc.isGenerator=false
  nd:N.Nodup
  pre:N.take P.length=P
  par:∀ x∈P,sc.names.lookup x=some .local\/sc.names.lookup x=some .cell
  nofree:∀ y∈sc.names,y.2≠.free
theorem bindL_out {kindOf:Str->Option NameKind} {x:Str}:∀ {binds:List (Str × Value)} {m:Str->Option Value},(∀ v,(x,v)∉binds)->bindL kindOf binds m x=m x
  | [],_,_=>rfl
  | (n,v) :: r,m,h=>by
    unfold bindL
    rw [bindL_out fun w hw=>h w (D4 _ hw)]
    split
    · have:x≠n:=by rintro rfl; exact h v E4
      simp [this]
    · rfl
theorem bindC_out {kindOf:Str->Option NameKind} {x:Str}:∀ {binds:List (Str × Value)} {m:Str->Option Value},(∀ v,(x,v)∉binds)->bindC kindOf binds m x=m x
  | [],_,_=>rfl
  | (n,v) :: r,m,h=>by
    unfold bindC
    rw [bindC_out fun w hw=>h w (D4 _ hw)]
    split
    · rfl
    · have:x≠n:=by rintro rfl; exact h v E4
      simp [this]
theorem bindL_get {kindOf:Str->Option NameKind} {x:Str} {v:Value}:∀ {P:List Str} {vs:List Value} {i:Nat} {m:Str->Option Value},P.Nodup->P[i]?=some x->vs[i]?=some v->kindOf x=some .local ->
    bindL kindOf (P.zip vs) m x=some v
  | [],_,_,_,_,h,_,_=>by simp at h
  | _ :: _,[],_,_,_,_,h,_=>by simp at h
  | p :: P,w :: vs,0,m,nd,h1,h2,hk=>by
    simp at h1 h2; subst h1; subst h2
    show bindL kindOf ((p,w) :: P.zip vs) m p=_
    unfold bindL
    rw [bindL_out fun v hv=>(List.nodup_cons.mp nd).1 (List.of_mem_zip hv).1,if_pos hk]
    simp
  | p :: P,w :: vs,i + 1,m,nd,h1,h2,hk=>by
    show bindL kindOf ((p,w) :: P.zip vs) m x=_
    unfold bindL
    exact bindL_get (i:=i) (List.nodup_cons.mp nd).2 (by simpa using h1) (by simpa using h2) hk
theorem bindC_get {kindOf:Str->Option NameKind} {x:Str} {v:Value}:∀ {P:List Str} {vs:List Value} {i:Nat} {m:Str->Option Value},P.Nodup->P[i]?=some x->vs[i]?=some v->kindOf x≠some .local ->
    bindC kindOf (P.zip vs) m x=some v
  | [],_,_,_,_,h,_,_=>by simp at h
  | _ :: _,[],_,_,_,_,h,_=>by simp at h
  | p :: P,w :: vs,0,m,nd,h1,h2,hk=>by
    simp at h1 h2; subst h1; subst h2
    show bindC kindOf ((p,w) :: P.zip vs) m p=_
    unfold bindC
    rw [bindC_out fun v hv=>(List.nodup_cons.mp nd).1 (List.of_mem_zip hv).1,if_neg hk]
    simp
  | p :: P,w :: vs,i + 1,m,nd,h1,h2,hk=>by
    show bindC kindOf ((p,w) :: P.zip vs) m x=_
    unfold bindC
    exact bindC_get (i:=i) (List.nodup_cons.mp nd).2 (by simpa using h1) (by simpa using h2) hk
def start (N:List Str) (vs:List V):St:=vs.map some ++ List.replicate (N.length - vs.length) none
def cxOf (CX:CXT) (P:Program) (w:World) (K:PySem.W.Frag) (mg:Str->Option Value) (base:Heap) (N:List Str) (qual:Str) (scope:Scope) (f:Addr) (cd:Value) (A:Around) (outer:List Env) (s:Shared) (H:Hp) (E:XK):Cx where
  prog:=P
  w:=w
  K:=K
  mg:=mg
  base:=base
  A:=A.deeper (envOfC qual scope s.heap.objs.size f cd)
  N:=N
  s₀:=s
  H₀:=H
  env:=envOfC qual scope s.heap.objs.size f cd
  outer:=outer
  stack:=envOfC qual scope s.heap.objs.size f cd :: outer
  ex:=[]
  calm:=true
  fn:=fun _=>true
  pn:=[]
  xe:=fun e s'=>wpAny (model P w) (A.deeper (envOfC qual scope s.heap.objs.size f cd)) (leaving (envOfC qual scope s.heap.objs.size f cd) e) (fun _ s''=>CX outer H s E e s'') (fun e' s''=>CX outer H s E e' s'') s'
theorem cell_has {sc:Scope} {n:Nat} {x:Str} (h:sc.names.lookup x=some .cell):∃ c,(cellsFrom n sc.names []).lookup x=some c:=by
  have q:=PySem.W.cellsFrom_some sc.names n [] (.inl h)
  exact Option.isSome_iff_exists.mp q
theorem inv_start {CX:CXT} {P:Program} {w:World} {K:PySem.W.Frag} {mg:Str->Option Value} {base:Heap} {N ps:List Str} {qual:Str} {scope:Scope} {f:Addr} {cd:Value} {A:Around} {outer:List Env} {s s1:Shared} {H:Hp} {E:XK} {us:List Value} {vs:List V}
    (S:FnScope N ps scope) (hd:A.handled=none) (e0:Env0 P w K mg base A outer s H) (hl:vs.length=ps.length) (r:Vals vs us)
    (x:InCallC s s.heap.objs.size (bindL (envOfC qual scope s.heap.objs.size f cd).kindOf (ps.zip us) fun _=>none) (cellsFrom (s.heap.objs.size + 1) scope.names []) (bindC (envOfC qual scope s.heap.objs.size f cd).kindOf (ps.zip us) fun _=>none) s1) :
    Inv (cxOf CX P w K mg base N qual scope f cd A outer s H E) [] (start N vs) H s1:=by
  have hpl:ps.length<=N.length:=by have:=congrArg List.length S.pre; rw [List.length_take] at this; omega
  obtain ⟨h1,tk,rfl,hk⟩:=x.done
  have noA:∀ b:Addr,b∉(cxOf CX P w K mg base N qual scope f cd A outer s H E).ex:=fun b z=>absurd (show b∈([]:List Addr) from z) (by simp)
  refine ⟨⟨e0.mod,S.kind,rfl,rfl,O6 _,fun y z c h1 h2=>?_,fun y hy=>?_,fun y c _ h=>?_,fun _=>hd,Around.frames_deeper e0.frames,.inr ⟨rfl,rfl⟩,fun b z=>absurd z (noA b),e0.bs,e0.bsz,fun b _ _=>noA b,fun b z=>absurd z (noA b),e0.funs,e0.frf⟩,
    rfl,e0.bare,Un.kept hk,⟨_,x.toInCall.ns,fun i y v h1 h2 h3=>?_⟩,fun y c h=>⟨_,x.cell y c h⟩,e0.hok.fresh (O6 _),fun y c h=>?_,fun p hp=>absurd (show p∈([]:List (Addr × Obj)) from hp) (by simp),e0.hok.kept hk,?_⟩
  · exact name_of_addr x.apart (PySem.mem_of_lookup h1) (PySem.mem_of_lookup h2)
  · have hy:scope.names.lookup y=some .cell\/scope.names.lookup y=some .free:=hy
    rcases hy with hy | hy
    · exact cell_has hy
    · exact absurd rfl (S.nofree _ (PySem.mem_of_lookup hy))
  · exact Nat.le_of_lt (x.above y c (PySem.mem_of_lookup h))
  · have hi:i < vs.length:=by
      unfold start at h2
      by_cases hi:i < vs.length
      · exact hi
      · rw [O8 (by simpa using hi)] at h2
        rw [List.getElem?_replicate] at h2
        split at h2 <;> cases h2
    have ha:vs[i]?=some v:=by
      unfold start at h2
      rw [O3 (by simpa using hi),E5] at h2
      cases e:vs[i]? with
      | none=>rw [e] at h2; cases h2
      | some a=>rw [e] at h2; cases h2; rfl
    obtain ⟨u,hu,rv⟩:=r.get ha
    have hp:ps[i]?=some y:=by
      rw [<- S.pre,List.getElem?_take_of_lt (by omega)]; exact h1
    have ndP:ps.Nodup:=by rw [<- S.pre]; exact S.nd.sublist (List.take_sublist _ _)
    refine ⟨u,rv,?_⟩
    rcases S.par y (D8 hp) with k | k
    · exact .inl ⟨k,bindL_get ndP hp hu k⟩
    · obtain ⟨c,e⟩:=cell_has (n:=s.heap.objs.size + 1) k
      refine .inr ⟨.inl k,c,e,?_⟩
      have q:=x.cell y c e
      rw [bindC_get ndP hp hu (by show scope.names.lookup y≠_; rw [k]; decide)] at q
      exact q
  · exact e0.hok.fresh (Nat.le_of_lt (x.above y c (PySem.mem_of_lookup h)))
  · unfold start
    show _=N.length
    rw [D5,O5,List.length_replicate]
    omega
theorem fn_of {CX:CXT} {P:Program} {w:World} {K:PySem.W.Frag} {mg:Str->Option Value} {base:Heap} {k:Nat} {f:Addr} {name qual:Str} {params:Arguments} {body:List Stmt} {scope:Scope} {dV kV doc pm cdv ct oc:Value} {an od:Option Addr}
    {osl:Array (Option Value)} {N ps:List Str} {sp:Sp} (lk:K.lookup f=some ⟨oc,od,.func (PySem.W.fnOf name qual params body scope dV kV doc pm an cdv ct),osl⟩) (hcd:PySem.W.codeIn K cdv qual=true) (S:FnScope N ps scope)
    (len:∀ vs H Q E,sp vs H Q E->vs.length=ps.length)
    (hbody:∀ (A:Around) (outer:List Env) (s:Shared) (H:Hp) (vs:List V) (Q:VK) (E:XK),Room k (A.deeper (envOfC qual scope s.heap.objs.size f cdv))->sp vs H Q E ->
      ∃ t,PSs (cxOf CX P w K mg base N qual scope f cdv A outer s H E) body t/\t { nx:=fun _ H'=>Q .non H',rt:=Q } (start N vs) H) :
    FnOk P w K mg base CX (k + 1) f (PySem.W.fnOf name qual params body scope dV kV doc pm an cdv ct) ps sp:=by
  refine ⟨len,fun A outer s H args us vs Q E hr e0 hb r hsp=>?_⟩
  have hl:=len _ _ _ _ hsp
  have KX:K.In s.heap:=e0.mod.kin.keeps fun b o e=>(e0.bs b o e).1
  have lim:s.heap.NoLimit:=e0.mod.nolimit.keeps fun b o e=>(e0.bs b o e).1
  have hkind:∀ y∈ps.zip us,scope.names.lookup y.1=some .local\/(scope.names.lookup y.1=some .cell/\((cellsFrom (s.heap.objs.size + 1) scope.names []).lookup y.1).isSome=true):=fun ⟨n,v⟩ hy=>by
    rcases S.par n (List.of_mem_zip hy).1 with q | q
    · exact .inl q
    · exact .inr ⟨q,PySem.W.cellsFrom_some _ _ _ (.inl q)⟩
  refine codeAny_call_function hr.depth (KX _ _ lk) rfl S.co S.gen rfl (PySem.W.codeRec_of KX hcd) (hb _ _ _ _ ?_)
  refine wpAny_newFunctionEnv_cells S.kind hkind fun env he s1 x=>?_
  subst he
  refine ⟨lim.keeps x.toInCall.keep,codeAny_func ?_⟩
  obtain ⟨t,ht,hq⟩:=hbody A outer s H vs Q E (hr.deeper _) hsp
  have I:Inv (cxOf CX P w K mg base N qual scope f cdv A outer s H E) [] (start N vs) H s1:=inv_start S hr.hd e0 hl r x
  refine wpAny_mono (ht [] s1 (start N vs) H _ I hq) (fun fl s' hs=>?_) fun e s' hs=>hs
  have fin:∀ {σ':St} {H':Hp} {v:V} {u:Value},Inv (cxOf CX P w K mg base N qual scope f cdv A outer s H E) [] σ' H' s'->RelV v u->Q v H'->CE outer P w H s Q u s':=
    fun {σ' H' v u} J rv q=>⟨v,H',J.os,J.bare,J.base,J.hok,rv,q⟩
  cases fl with
  | ret u=>
    obtain ⟨v,σ',H',J,rv,q⟩:=hs
    exact fin J rv q
  | next=>
    obtain ⟨σ',H',J,q⟩:=hs
    exact fin (v:=V.non) (u:=Value.none) J rfl q
  | brk=>
    obtain ⟨_,_,_,q⟩:=hs
    exact False.elim q
  | cont=>
    obtain ⟨_,_,_,q⟩:=hs
    exact False.elim q
end L2
namespace L2
open PySem PySem.Spec PyProof.Rows
section
variable {X:Cx} {x:Str} {p pos:Pos} {e:Expr} {es:List Expr} {t:TA} {id T:String} {r:List V->Hp->VK->Prop}
def tCB (r:List V->Hp->VK->Prop) (t:TA):TE:=fun σ H Q=>t σ H fun vs H1=>r vs H1 Q
theorem Jt (hc:V8 X (.builtin id) r) (hg:Gl X x) (hm:X.mg x=none) (hv:bootBuiltins x=some (.builtin id)) (ha:PA X (e :: es) t) (hn:x≠"__name__" := by decide) (hdb:(x == ("__debug__" : Str))=false:=by decide)
    (he:starEach (e :: es) X.env=(false,eval e X.env) :: starEach es X.env:=by rfl) (hpl:(backTo pos (starEach es X.env)).any (·.1)=false:=by rfl):PE X (.Call (.Name x p) (e :: es) [] pos) (tCB r t):=by
  intro pins s σ H Q I h
  refine wpAny_Call_Name_kw (Xz I hg hm hv ?_ hn hdb)
  exact PyProof.Rows.callWith_builtin1 (thn (ha pos pins s σ H _ I h) fun us s1 ⟨vs,H1,I1,r1,q1⟩=>hc pins s1 σ H1 vs us Q I1 r1 q1) he hpl
theorem Q2i (hc:V8 X (.type T) r) (hg:Gl X x) (hm:X.mg x=none) (hv:bootBuiltins x=some (.type T)) (ha:PA X (e :: es) t) (hn:x≠"__name__" := by decide) (hdb:(x == ("__debug__" : Str))=false:=by decide)
    (he:starEach (e :: es) X.env=(false,eval e X.env) :: starEach es X.env:=by rfl) (hpl:(backTo pos (starEach es X.env)).any (·.1)=false:=by rfl):PE X (.Call (.Name x p) (e :: es) [] pos) (tCB r t):=by
  intro pins s σ H Q I h
  refine wpAny_Call_Name_kw (Xz I hg hm hv ?_ hn hdb)
  exact PyProof.Rows.callWith_type1 (thn (ha pos pins s σ H _ I h) fun us s1 ⟨vs,H1,I1,r1,q1⟩=>hc pins s1 σ H1 vs us Q I1 r1 q1) he hpl
end
end L2
namespace HT
open PySem PyProof.Rows
def lexLt:List Int->List Int->Bool
  | [],[]=>false
  | [],_ :: _=>true
  | _ :: _,[]=>false
  | x :: xs,y :: ys=>if x=y then lexLt xs ys else decide (x < y)
theorem lexLt_cons (x y:Int) (xs ys:List Int):lexLt (x :: xs) (y :: ys)=if x=y then lexLt xs ys else decide (x < y):=rfl
theorem lexLt_nil_nil:lexLt [] []=false:=rfl
theorem Q16 (y:Int) (ys:List Int):lexLt [] (y :: ys)=true:=rfl
theorem Q17 (x:Int) (xs:List Int):lexLt (x :: xs) []=false:=rfl
theorem eqAt_int (A:Around) (s:Shared) (a:Int) (t:Tok) (c:Int) (u:Tok):∃ e,SeqAt.EqAt A s (.int a t) (.int c u) e/\(e=true <-> a=c):=
  ⟨(a == c),SeqAt.EqAt.int_int a t c u,by simp⟩
theorem rcLt_int (A:Around) (s:Shared) (a:Int) (t:Tok) (c:Int) (u:Tok) (prog:Program) (w:World) (E:Value->Shared->Prop) (Q:Value->Shared->Prop) (h:Q (.bool (decide (a < c))) s) :
    wpAny (model prog w) A (richCompare .Lt (.int a t) (.int c u)) Q E s:=
  (PyProof.Rows.lt_int h:wpAny (model prog w) A (compareOp .Lt (.int a t) (.int c u)) Q E s)
section
open PySem.SeqAt
open PySem.AutoSeq1 (wpAny_loadPart')
open PySem.MeetsSeq PySem.MeetsSeq2 PySem.MeetsSeq3
theorem Q1s (l b:Addr) (items items2:Array Value) (n n2:Nat) (dd dd2:Option Addr) (sl sl2:Array (Option Value)) (ns ms:List Int) (hi:IntsAre items.toList ns) (hj:IntsAre items2.toList ms) :
    Meets (Builtin.«tuple.__lt__» ⟨[.ref l,.ref b],[]⟩)
      (fun _ R s=>s.heap.get? l=some { cls:=.type "tuple",dict:=dd,data:=.seq items n,slots:=sl }/\s.heap.get? b=some { cls:=.type "tuple",dict:=dd2,data:=.seq items2 n2,slots:=sl2 } /\
        R (.ok (.ret (.bool (lexLt ns ms)))) s):=
  .of_wp fun prog w A R s h=>by
    obtain ⟨hp,g,d,tk,os⟩:=s; obtain ⟨hl,hb,h⟩:=h
    have f2:=AutoSeq1.sub_tuple_tuple
    have z1:items.size=ns.length:=by rw [<- hi.length]; simp
    have z2:items2.size=ms.length:=by rw [<- hj.length]; simp
    wp_walk using wpAny_loadPart' hl,wpAny_loadPart' hb,wpAny_forIn_list _ (fun rest b s'=>b.1=none/\s'=⟨hp,g,d,tk,os⟩/\∃ (vs ws:List Value) (ns' ms':List Int),rest=vs.zip ws /\
      IntsAre vs ns'/\IntsAre ws ms'/\ns'.length + items2.size=ms'.length + items.size/\R (.ok (.ret (.bool (lexLt ns' ms')))) ⟨hp,g,d,tk,os⟩) _
    case turn=>
      rintro ⟨y,x⟩ rest b s' ⟨hb',rfl,vs,ws,ns',ms',hz,hvi,hwi,hlen,hR⟩
      cases hvi with
      | nil=>rw [List.zip_nil_left] at hz; cases hz
      | cons a t hvi'=>
        cases hwi with
        | nil=>rw [List.zip_nil_right] at hz; cases hz
        | cons c u hwi'=>
          rw [List.zip_cons_cons] at hz
          injection hz with hyx hrest
          injection hyx with hy hx
          subst hy hx
          rw [lexLt_cons] at hR
          simp only [F1] at hlen
          obtain ⟨e,he,hiff⟩:=eqAt_int A.in1 ⟨hp,g,d,tk,os⟩ a t c u
          refine wpAny_bind (he prog w _ _ ?_)
          cases e with
          | true=>
            rw [if_pos (hiff.mp rfl)] at hR
            wp_walk
            exact ⟨rfl,rfl,_,_,_,_,hrest,hvi',hwi',by omega,hR⟩
          | false=>
            rw [if_neg (fun q=>absurd (hiff.mpr q) O9)] at hR
            have hri:=rcLt_int A.in1 ⟨hp,g,d,tk,os⟩ a t c u prog w
            wp_walk using hri
            exact ⟨_,rfl,by simpa using hR⟩
    case fin=>
      rintro ⟨b1,b2⟩ s' ⟨hb',rfl,vs,ws,ns',ms',hz,hvi,hwi,hlen,hR⟩
      simp only at hb'
      subst hb'
      have hv:lexLt ns' ms'=decide (items.size < items2.size):=by
        cases hvi with
        | nil=>
          cases hwi with
          | nil=>
            simp only [List.length_nil] at hlen
            rw [lexLt_nil_nil]
            exact (decide_eq_false (by omega)).symm
          | cons c u hw=>
            simp only [List.length_nil,F1] at hlen
            rw [Q16]
            exact (decide_eq_true (by omega)).symm
        | cons a t hv=>
          cases hwi with
          | nil=>
            simp only [List.length_nil,F1] at hlen
            rw [Q17]
            exact (decide_eq_false (by omega)).symm
          | cons c u hw=>
            rw [List.zip_cons_cons] at hz
            cases hz
      rw [hv] at hR
      wp_walk
      exact ⟨_,rfl,by simpa [Builtin.Tuple.tupleCompareSizes] using hR⟩
    case h=>
      exact ⟨rfl,rfl,items.toList,items2.toList,ns,ms,rfl,hi,hj,by omega,h⟩
end
section
variable {prog:Program} {w:World} {A:Around} {E:Value->Shared->Prop} {s:Shared}
theorem lt_tupInts {l b:Addr} {items items2:Array Value} {ns ms:List Int} {Q:Value->Shared->Prop} (hl:IsTup s.heap l items) (hb:IsTup s.heap b items2) (hi:IntsAre items.toList ns) (hj:IntsAre items2.toList ms)
    (hu:A.units < cLine) (h:Q (.bool (lexLt ns ms)) s):wpAny (model prog w) A (compareOp .Lt (.ref l) (.ref b)) Q E s:=by
  obtain ⟨⟨cls,dd,data,sl⟩,ho,hc,n,hd⟩:=id hl
  obtain ⟨⟨cls2,dd2,data2,sl2⟩,ho2,hc2,n2,hd2⟩:=id hb
  simp only at hc hd hc2 hd2
  subst hc hd hc2 hd2
  exact richCompare_meets_room (op:=.Lt) ⟨_,ho,rfl⟩ ⟨_,ho2,rfl⟩ PySem.F.slot_tuple_lt PySem.F.entry_tuple_lt (PySem.F.args_tuple_lt_2 _ _) (Q1s l b items items2 n n2 dd dd2 sl sl2 ns ms hi hj)
    ⟨ho,ho2,show Value.bool (lexLt ns ms)≠Value.notImplemented/\Q (.bool (lexLt ns ms)) s from ⟨(fun x=>nomatch x),h⟩⟩ hu
theorem cat_tup {t b:Addr} {vs ws:List Value} {Q:Value->Shared->Prop} (ht:IsTup s.heap t vs.toArray) (hb:IsTup s.heap b ws.toArray) (hv:vs≠[])
    (h1:ws=[]->Q (.ref t) s) (h2:ws≠[]->Q (.ref s.heap.objs.size) { s with heap:=s.heap.push { cls:=.type "tuple",data:=.seq (vs ++ ws).toArray } })
    (hsz:vs.length + ws.length<=sizeLine):wpAny (model prog w) A (binaryOp .Add (.ref t) (.ref b)) Q E s:=by
  obtain ⟨⟨cls,dd,data,sl⟩,ho,hc,n,hd⟩:=id ht
  obtain ⟨⟨cls2,dd2,data2,sl2⟩,ho2,hc2,n2,hd2⟩:=id hb
  simp only at hc hd hc2 hd2
  subst hc hd hc2 hd2
  have e:vs.toArray ++ ws.toArray=(vs ++ ws).toArray:=by simp
  by_cases hw:ws=[]
  · exact concat_meets ⟨_,ho,rfl⟩ ⟨_,ho2,rfl⟩ noFill_tuple_add seq_tuple_add PySem.F.slot_tuple_add PySem.F.entry_tuple_add (PySem.F.args_tuple_add_2 _ _)
      (tuple_addW1 t b vs.toArray ws.toArray n n2 dd dd2 sl sl2 (by simpa using hv) (by simp [hw])) ⟨ho,ho2,h1 hw⟩
  · refine concat_meets ⟨_,ho,rfl⟩ ⟨_,ho2,rfl⟩ noFill_tuple_add seq_tuple_add PySem.F.slot_tuple_add PySem.F.entry_tuple_add (PySem.F.args_tuple_add_2 _ _)
      (tuple_addW2 t b vs.toArray ws.toArray n n2 dd dd2 sl sl2 (by simpa using hv) (by simpa using hw) (by rw [O4,O4]; exact hsz)) ⟨ho,ho2,?_⟩
    rw [e]
    exact h2 hw
def sIx (n d:Nat):Option Int->Nat
  | none=>d
  | some v=>if v < 0 then (v + (n:Int)).toNat else min v.toNat n
theorem sIx_none (n d:Nat):sIx n d none=d:=rfl
theorem sIx_nat (n d k:Nat):sIx n d (some (k:Int))=min k n:=by
  show (if (k:Int) < 0 then ((k:Int) + (n:Int)).toNat else min (k:Int).toNat n)=min k n
  rw [if_neg (by omega),Int.toNat_natCast]
theorem sIx_le (n d:Nat) (hd:d<=n) (o:Option Int):sIx n d o<=n:=by
  cases o with
  | none=>exact hd
  | some v=>
    show (if v < 0 then (v + (n:Int)).toNat else min v.toNat n)<=n
    by_cases hv:v < 0
    · rw [if_pos hv]; omega
    · rw [if_neg hv]; exact Nat.min_le_right _ _
theorem clip_eq (v:Int) (n d:Nat):(if v < 0 then max (v + (n:Int)) 0 else min v (n:Int))=((sIx n d (some v):Nat):Int):=by
  show (if v < 0 then max (v + (n:Int)) 0 else min v (n:Int))=(((if v < 0 then (v + (n:Int)).toNat else min v.toNat n):Nat):Int)
  by_cases hv:v < 0
  · simp only [if_pos hv]; omega
  · simp only [if_neg hv]; omega
theorem adjust_gen (lo hi:Option Int) (n:Nat):Builtin.Slice.sliceAdjust lo hi 1 (n:Int)=(((sIx n 0 lo:Nat):Int),((sIx n n hi:Nat):Int)):=by
  have h1:¬ ((1:Int) < 0):=by omega
  unfold Builtin.Slice.sliceAdjust
  simp only [h1,if_false]
  refine Prod.ext ?_ ?_
  · cases lo with
    | none=>rfl
    | some v=>exact clip_eq v n 0
  · cases hi with
    | none=>rfl
    | some v=>exact clip_eq v n n
theorem places_gen (i j:Nat):Builtin.Slice.slicePlaces (i:Int) (j:Int) 1=j - i:=by
  unfold Builtin.Slice.slicePlaces
  have h1:(1:Int) > 0:=by omega
  simp only [h1,if_true,Int.ediv_one]
  split <;> omega
theorem Q07 {v:Value} {o:Option Int} {Q:Option Int->Shared->Prop} (p:IsPart v o) (h:Q o s):wpAny (model prog w) A (Builtin.Slice.slicePartIndex v) Q E s:=by
  cases p with
  | none=>exact slicePart_none h
  | int i t=>exact slicePart_int h
theorem Uh {sl:Addr} {vl vu:Value} {lo hi:Option Int} {n:Nat} {Q:Int × Int × Nat->Shared->Prop} (hs:s.heap.IsSliceOf sl vl vu .none) (pl:IsPart vl lo) (pu:IsPart vu hi)
    (h:Q (((sIx n 0 lo:Nat):Int),1,sIx n n hi - sIx n 0 lo) s):wpAny (model prog w) A (Builtin.Slice.sliceApplied (.ref sl) (pure (n:Int))) Q E s:=by
  obtain ⟨os,hos,hcs,hds⟩:=id hs
  unfold Builtin.Slice.sliceApplied Builtin.Slice.sliceFields
  refine wpAny_bind (wpAny_bind (wpAny_field hos hds (x:=vl) rfl (wpAny_bind (wpAny_field hos hds (x:=vu) rfl (wpAny_bind (wpAny_field hos hds (x:=.none) rfl (wpAny_pure ?_)))))))
  refine wpAny_bind (slicePart_none ?_)
  show wpAny _ _ (if ((1:Int) == 0)=true then _ else _) _ _ s
  rw [if_neg (by decide)]
  refine wpAny_bind (Q07 pl (wpAny_bind (Q07 pu (wpAny_bind (wpAny_pure ?_)))))
  show wpAny _ _ (match Builtin.Slice.sliceAdjust lo hi 1 (n:Int) with | (lo,hi)=>pure (lo,(1:Int),Builtin.Slice.slicePlaces lo hi 1)) _ _ s
  rw [adjust_gen lo hi n]
  show wpAny _ _ (pure (((sIx n 0 lo:Nat):Int),(1:Int),Builtin.Slice.slicePlaces ((sIx n 0 lo:Nat):Int) ((sIx n n hi:Nat):Int) 1)) _ _ s
  rw [places_gen]
  exact wpAny_pure h
theorem pick_gen (xs:Array Value) (i k:Nat):((List.range k).filterMap fun (m:Nat)=>xs[((i:Int) + (m:Int) * 1).toNat]?).toArray=((xs.toList.drop i).take k).toArray:=by
  have e:(fun (m:Nat)=>xs[((i:Int) + (m:Int) * 1).toNat]?)=fun m=>xs[i + m]?:=by
    funext m
    have:((i:Int) + (m:Int) * 1).toNat=i + m:=by omega
    rw [this]
  rw [e]
  have:=pick_run xs i k
  rw [List.filterMap_map] at this
  have e2:((fun x=>xs[x]?) ∘ fun x=>i + x)=fun m=>xs[i + m]?:=rfl
  rw [e2] at this
  rw [this]
theorem getItem_tuple_cut {t sl:Addr} {items:Array Value} {vl vu:Value} {lo hi:Option Int} {Q:Value->Shared->Prop} (ht:IsTup s.heap t items) (hs:s.heap.IsSliceOf sl vl vu .none) (pl:IsPart vl lo) (pu:IsPart vu hi)
    (hw:¬ (sIx items.size 0 lo=0/\sIx items.size items.size hi=items.size))
    (h:Q (.ref s.heap.objs.size) { s with heap:=s.heap.push { cls:=.type "tuple",data:=.seq ((items.toList.drop (sIx items.size 0 lo)).take (sIx items.size items.size hi - sIx items.size 0 lo)).toArray } })
    (hsz:items.size<=sizeLine):wpAny (model prog w) A (getItem (.ref t) (.ref sl)) Q E s:=by
  have htake:sizeOk (.seq ((items.toList.drop (sIx items.size 0 lo)).take (sIx items.size items.size hi - sIx items.size 0 lo)).toArray):=by
    show ((items.toList.drop (sIx items.size 0 lo)).take (sIx items.size items.size hi - sIx items.size 0 lo)).toArray.size<=sizeLine
    rw [O4,List.length_take,List.length_drop,Array.length_toList]
    omega
  have hj:sIx items.size items.size hi<=items.size:=sIx_le _ _ (O6 _) hi
  obtain ⟨os,hos,hcs,hds⟩:=id hs
  have hTs:s.TypeIs (.ref sl) "slice" := ⟨os,hos,hcs⟩
  unfold getItem
  try with_reducible refine wpAny_holding ?_
  first | refine wpAny_bind (wpAny_pure ?_) | skip
  refine wpAny_bind (wpAny_sequenceKey ht.typeIs (by decide) ?_)
  refine wpAny_bind (wpAny_callSpecial?_slot (name:=Str.ofString "__getitem__") ht.typeIs PyProof.Rows.slot_tuple_getitem
    (wpAny_call_entry PyProof.Rows.slot_tuple_getitem ht.typeIs entry_tuple_getitem ?_ (args_tuple_getitem _ _)))
  show wpAny _ _ (Builtin.Tuple.tupleItemsOf (.ref t) >>= _) _ _ s
  refine wpAny_bind (tupleItemsOf_ ht ?_)
  refine wpAny_bind (wpAny_typeOf hTs ?_)
  rw [if_pos (by decide)]
  refine wpAny_bind (Uh hs pl pu ?_)
  have hno:¬ ((((sIx items.size 0 lo:Nat):Int) == 0 && (1:Int) == 1 && (sIx items.size items.size hi - sIx items.size 0 lo) == items.size)=true):=by
    intro q
    rw [Bool.and_eq_true,Bool.and_eq_true] at q
    have q1:((sIx items.size 0 lo:Nat):Int)=0:=eq_of_beq q.1.1
    have q2:sIx items.size items.size hi - sIx items.size 0 lo=items.size:=eq_of_beq q.2
    exact hw ⟨by omega,by omega⟩
  show wpAny _ _ (if (((sIx items.size 0 lo:Nat):Int) == 0 && (1:Int) == 1 && (sIx items.size items.size hi - sIx items.size 0 lo) == items.size)=true then _ else _) _ _ s
  rw [if_neg hno,pick_gen]
  first
    | exact wpAny_bind (m:=Builtin.Tuple.tupleExact _) (wpAny_newObj_type (wpAny_pure ⟨_,rfl,wpAny_pure h⟩) htake)
    | exact wpAny_bind (m:=Builtin.Tuple.tupleExact _) (wpAny_newObj_type (wpAny_bind (wpAny_pure (wpAny_pure ⟨_,rfl,wpAny_pure h⟩))) htake)
    | exact wpAny_bind (wpAny_bind (m:=Builtin.Tuple.tupleExact _) (wpAny_newObj_type (wpAny_pure (wpAny_pure ⟨_,rfl,wpAny_pure h⟩)) htake))
    | exact wpAny_bind (wpAny_bind (m:=Builtin.Tuple.tupleExact _) (wpAny_newObj_type (wpAny_pure ⟨_,rfl,wpAny_pure h⟩) htake))
end
end HT
namespace L2
open PySem PySem.Spec PyProof.Rows
abbrev TO:=St->Hp->(Option Int->Hp->Prop)->Prop
def PO (X:Cx) (e:Option Expr) (t:TO):Prop:=
  ∀ (pins:List (Addr × Obj)) (s:Shared) (σ:St) (H:Hp) (Q:Option Int->Hp->Prop),Inv X pins σ H s->t σ H Q ->
    wpAny (model X.prog X.w) X.A (evalPart e X.env) (fun u s'=>∃ o H',Inv X pins σ H' s'/\IsPart u o/\Q o H') X.xe s
def tNoPart:TO:=fun _ H Q=>Q none H
def tPart (t:TE):TO:=fun σ H Q=>t σ H fun x H1=>∃ i,x=.int i/\Q (some i) H1
theorem qp {ns:List Int}:∀ {us:List Value},Vals (ns.map V.int) us->IntsAre us ns:=by
  induction ns with
  | nil=>intro us r; rw [List.map_nil] at r; cases r; exact .nil
  | cons n ns ih=>
    intro us r
    rw [D0] at r
    cases r with
    | cons r1 r2=>
      obtain ⟨t,e⟩:=r1
      subst e
      exact .cons n t (ih r2)
section
variable {X:Cx} {e:Expr} {te:TE} {lo hi:Option Expr} {tl th:TO} {pos p2:Pos}
theorem po_none:PO X none tNoPart:=by
  intro pins s σ H Q I h
  rw [evalPart_none]
  exact wpAny_pure ⟨none,H,I,.none,h⟩
theorem po_some (h:PE X e te):PO X (some e) (tPart te):=by
  intro pins s σ H Q I hw
  rw [evalPart_some]
  refine thn (h pins s σ H _ I hw) fun u s1 ⟨x,H1,I1,r1,q1⟩=>?_
  obtain ⟨i,rfl,q⟩:=q1
  obtain ⟨t,rfl⟩:=r1
  exact ⟨some i,H1,I1,.int i t,q⟩
def SlR (X:Cx) (r:V->Option Int->Option Int->Hp->VK->Prop):Prop:=
  ∀ (pins:List (Addr × Obj)) (s:Shared) (σ:St) (H:Hp) (x:V) (v vl vu:Value) (lo hi:Option Int) (sl:Addr) (Q:VK),Inv X pins σ H s->RelV x v->s.heap.IsSliceOf sl vl vu .none->IsPart vl lo->IsPart vu hi->r x lo hi H Q ->
    ∃ T id,typeLookup (.type T) "__getitem__" = pure (some (.builtin id))/\s.TypeIs v T/\wpAny (model X.prog X.w) X.A (getItem v (.ref sl)) (EP X pins σ Q) X.xe s
theorem SlR.or {r r':V->Option Int->Option Int->Hp->VK->Prop} (h:SlR X r) (h':SlR X r'):SlR X (fun x lo hi H Q=>r x lo hi H Q\/r' x lo hi H Q):=by
  intro pins s σ H x v vl vu lo hi sl Q I rx hs pl pu q
  rcases q with q | q
  · exact h pins s σ H x v vl vu lo hi sl Q I rx hs pl pu q
  · exact h' pins s σ H x v vl vu lo hi sl Q I rx hs pl pu q
def tSl (r:V->Option Int->Option Int->Hp->VK->Prop) (te:TE) (tl th:TO):TE:=fun σ H Q=>te σ H fun x H1=>tl σ H1 fun l H2=>th σ H2 fun u H3=>r x l u H3 Q
theorem pe_slice {r:V->Option Int->Option Int->Hp->VK->Prop} (hr:SlR X r) (he:PE X e te) (hl:PO X lo tl) (hu:PO X hi th):PE X (.Subscript e (.Slice lo hi none p2) pos) (tSl r te tl th):=by
  intro pins s σ H Q I h
  refine Subscript_ (thn (he pins s σ H _ I h) fun v s1 ⟨x,H1,I1,r1,q1⟩=>?_)
  refine wpAny_Slice (thn (hl pins s1 σ H1 _ I1 q1) fun vl s2 ⟨l,H2,I2,pl,q2⟩=>thn (hu pins s2 σ H2 _ I2 q2) fun vu s3 ⟨u,H3,I3,pu,q3⟩=>?_)
  rw [evalPart_none]
  refine wpAny_pure ?_
  have I4:Inv X pins σ H3 { s3 with heap:=s3.heap.push { cls:=.type "slice",data:=.fields #[vl,vu,.none] } }:=I3.kept (t':=s3.toks) fun b ob q=>O1 _ q
  obtain ⟨T,id,hT,ht,hg⟩:=hr pins { s3 with heap:=s3.heap.push { cls:=.type "slice",data:=.fields #[vl,vu,.none] } } σ H3 x v vl vu l u s3.heap.objs.size Q I4 r1 (Heap.IsSliceOf.new ..) pl pu q3
  show wpAny (model X.prog X.w) X.A (subscriptTail e (.Slice lo hi none p2) v (.ref s3.heap.objs.size)) (EP X pins σ Q) X.xe { s3 with heap:=s3.heap.push { cls:=.type "slice",data:=.fields #[vl,vu,.none] } }
  exact tail_any (ops:=[.ref s3.heap.objs.size,v]) ht hT hg (by with_unfolding_all rfl)
def cutV (xs:List V) (lo hi:Option Int):List V:=(xs.drop (HT.sIx xs.length 0 lo)).take (HT.sIx xs.length xs.length hi - HT.sIx xs.length 0 lo)
theorem yf (xs:List V) (lo hi:Option Int):(cutV xs lo hi).length<=xs.length:=by
  unfold cutV
  rw [List.length_take,List.length_drop]
  omega
def rSlT (K:PySem.W.Frag):V->Option Int->Option Int->Hp->VK->Prop:=fun x lo hi H Q=>∃ a xs,x=.ref a/\SqT K H a xs /\
  ¬ (HT.sIx xs.length 0 lo=0/\HT.sIx xs.length xs.length hi=xs.length)/\∀ p,H p=none->Q (.ref p) (upd H p (.tup (cutV xs lo hi)))
theorem sl_tup:SlR X (rSlT X.K):=by
  intro pins s σ H x v vl vu lo hi sl Q I rx hs pl pu h
  obtain ⟨a,xs,rfl,hx,hw,q⟩:=h
  cases rx
  obtain ⟨its,r,ht,hz⟩:=I.tuple hx
  have hlen:its.toArray.size=xs.length:=by rw [O4]; exact r.length.symm
  refine ⟨"tuple",_,PyProof.Rows.slot_tuple_getitem.lookup,ht.typeIs,?_⟩
  refine HT.getItem_tuple_cut ht hs pl pu (by rw [hlen]; exact hw) ?_ (by rw [hlen]; exact hz)
  rw [hlen]
  refine ⟨.ref s.heap.objs.size,_,I.laid (t':=s.toks) (o:=.tup (cutV xs lo hi)) (fun b ob q=>O1 _ q) (O6 _) ?_,rfl,q _ (I.hok.fresh (O6 _))⟩
  exact ⟨E2 (yf xs lo hi) hz,_,(r.drop (HT.sIx xs.length 0 lo)).take (HT.sIx xs.length xs.length hi - HT.sIx xs.length 0 lo),IsTup.new _ _⟩
def rLtT (K:PySem.W.Frag):R2:=fun x y H Q=>∃ a b ns ms,x=.ref a/\y=.ref b/\SqT K H a (ns.map V.int)/\SqT K H b (ms.map V.int)/\Q (.bl (HT.lexLt ns ms)) H
theorem op_ltT (hu:X.A.units < cLine):OpR X (compareOp .Lt) (rLtT X.K):=by
  intro pins s σ H x y v u Q I rx ry h
  obtain ⟨a,b,ns,ms,rfl,rfl,ha,hb,q⟩:=h
  cases rx
  cases ry
  obtain ⟨its,r1,p1,_⟩:=I.tuple ha
  obtain ⟨its2,r2,p2,_⟩:=I.tuple hb
  have i1:IntsAre its.toArray.toList ns:=qp r1
  have i2:IntsAre its2.toArray.toList ms:=qp r2
  exact HT.lt_tupInts p1 p2 i1 i2 hu ⟨.bl (HT.lexLt ns ms),H,I,rfl,q⟩
def rCatT (K:PySem.W.Frag):R2:=fun x y H Q=>∃ a b xs ys,x=.ref a/\y=.ref b/\SqT K H a xs/\SqT K H b ys/\xs≠[]/\xs.length + ys.length<=sizeLine /\
  (ys=[]->Q (.ref a) H)/\(ys≠[]->∀ p,H p=none->Q (.ref p) (upd H p (.tup (xs ++ ys))))
theorem Vals.nil_iff {xs:List V} {us:List Value} (r:Vals xs us):us=[] <-> xs=[]:=by
  cases r with
  | nil=>simp
  | cons _ _=>simp
theorem op_catT:OpR X (binaryOp .Add) (rCatT X.K):=by
  intro pins s σ H x y v u Q I rx ry h
  obtain ⟨a,b,xs,ys,rfl,rfl,ha,hb,hx,hz,q1,q2⟩:=h
  cases rx
  cases ry
  obtain ⟨its,r1,p1,_⟩:=I.tuple ha
  obtain ⟨its2,r2,p2,_⟩:=I.tuple hb
  refine HT.cat_tup p1 p2 (fun z=>hx (r1.nil_iff.mp z)) (fun z=>⟨.ref a,H,I,rfl,q1 (r2.nil_iff.mp z)⟩) (fun z=>?_) (by rw [<- r1.length,<- r2.length]; exact hz)
  refine ⟨.ref s.heap.objs.size,_,I.laid (t':=s.toks) (o:=.tup (xs ++ ys)) (fun b ob q=>O1 _ q) (O6 _) ?_,rfl,q2 (fun w=>z (r2.nil_iff.mpr w)) _ (I.hok.fresh (O6 _))⟩
  exact ⟨by rw [D5]; exact hz,_,r1.append r2,IsTup.new _ _⟩
end
end L2
namespace L2
open PySem PySem.Spec PyProof.Rows
def ixN (n:Nat) (i:Int):Option Nat:=if 0<=i then (if i < n then some i.toNat else none) else if -(n:Int)<=i then some (i + n).toNat else none
def atI {α:Type} (xs:List α) (i:Int):Option α:=(ixN xs.length i).bind fun j=>xs[j]?
theorem ixN_seq {n:Nat} {i:Int} {j:Nat} (h:ixN n i=some j):seqIndex? i n=some j/\j < n/\-(n:Int)<=i/\i < n:=by
  unfold ixN at h
  by_cases h0:0<=i
  · rw [if_pos h0] at h
    by_cases h1:i < n
    · rw [if_pos h1] at h
      have e:i.toNat=j:=Option.some.inj h
      exact ⟨by rw [seqIndex_of h0 h1,e],by omega,by omega,h1⟩
    · rw [if_neg h1] at h; cases h
  · rw [if_neg h0] at h
    by_cases h1:-(n:Int)<=i
    · rw [if_pos h1] at h
      have e:(i + n).toNat=j:=Option.some.inj h
      exact ⟨by rw [seqIndex_neg (by omega) h1,e],by omega,h1,by omega⟩
    · rw [if_neg h1] at h; cases h
theorem atI_get {α:Type} {xs:List α} {i:Int} {v:α} (h:atI xs i=some v):∃ j,seqIndex? i xs.length=some j/\xs[j]?=some v/\j < xs.length/\-(xs.length:Int)<=i/\i < xs.length:=by
  unfold atI at h
  cases e:ixN xs.length i with
  | none=>rw [e] at h; cases h
  | some j=>
    rw [e] at h
    obtain ⟨h1,h2,h3,h4⟩:=ixN_seq e
    exact ⟨j,h1,h,h2,h3,h4⟩
def PlainIx (b:Expr):Prop:=∀ o i,subscripted b false o i=operate [o,i] (getItem o i)
def IxR (X:Cx) (r:R2):Prop:=
  ∀ (value slice:Expr) (pins:List (Addr × Obj)) (s:Shared) (σ:St) (H:Hp) (x y:V) (v u:Value) (Q:VK),Inv X pins σ H s->RelV x v->RelV y u->r x y H Q ->
    subscripted slice false v u=operate [v,u] (getItem v u)->wpAny (model X.prog X.w) X.A (subscriptTail value slice v u) (EP X pins σ Q) X.xe s
def MtR (X:Cx) (id:String) (r:V->List V->Hp->VK->Prop):Prop:=
  ∀ (pins:List (Addr × Obj)) (s:Shared) (σ:St) (H:Hp) (x:V) (xs:List V) (v:Value) (us:List Value) (Q:VK),Inv X pins σ H s->RelV x v->Vals xs us->r x xs H Q ->
    wpAny (model X.prog X.w) X.A (call (.builtin id) (v :: us)) (EP X pins σ Q) X.xe s
section
variable {X:Cx} {a b:Expr} {ta tb:TE} {pos:Pos}
theorem IxR.or {r r':R2} (h:IxR X r) (h':IxR X r'):IxR X (fun x y H Q=>r x y H Q\/r' x y H Q):=by
  intro value slice pins s σ H x y v u Q I rx ry q hs
  rcases q with q | q
  · exact h value slice pins s σ H x y v u Q I rx ry q hs
  · exact h' value slice pins s σ H x y v u Q I rx ry q hs
theorem pe_ix {r:R2} (hr:IxR X r) (ha:PE X a ta) (hb:PE X b tb) (hs:PlainIx b):PE X (.Subscript a b pos) (tOp r ta tb):=by
  intro pins s σ H Q I h
  exact Subscript_ (binT ha hb I h fun v u s2 x y H2 I2 rx ry q=>hr a b pins s2 σ H2 x y v u Q I2 rx ry q (hs _ _))
def rIxL (K:PySem.W.Frag):R2:=fun x y H Q=>∃ p xs i v,x=.ref p/\y=.int i/\SqL K H p xs/\atI xs i=some v/\Q v H
def rIxT (K:PySem.W.Frag):R2:=fun x y H Q=>∃ p xs i v,x=.ref p/\y=.int i/\SqT K H p xs/\atI xs i=some v/\Q v H
def rIxS:R2:=fun x y H Q=>∃ z i c,x=.str z/\y=.int i/\z.length<=sizeLine/\atI z.cps.toList i=some c/\Q (.str ⟨#[c]⟩) H
theorem ix_list:IxR X (rIxL X.K):=by
  intro value slice pins s σ H x y v u Q I rx ry h hs
  obtain ⟨p,xs,i,z,rfl,rfl,hq,he,q⟩:=h
  cases rx
  obtain ⟨t,rfl⟩:=ry
  obtain ⟨its,r,pl,hz⟩:=I.list hq
  obtain ⟨j,h1,h2,h3,h4,h5⟩:=atI_get he
  obtain ⟨w,ew,rw'⟩:=r.get h2
  have hl:=r.length
  have hn:=zj
  have fin:EP X pins σ Q w s:=⟨z,H,I,rw',q⟩
  by_cases h0:0<=i
  · have hj:i.toNat=j:=by
      rw [seqIndex_of h0 h5] at h1
      exact Option.some.inj h1
    exact item_listR pl.isList h0 (by omega) (by rw [hj]; simpa using ew) fin hs
  · have hj:(i + (its.toArray.size:Int)).toNat=j:=by
      rw [seqIndex_neg (by omega) h4] at h1
      rw [O4,<- hl]
      exact Option.some.inj h1
    exact subscriptTail_builtinR (x:=w) pl.isList.typeIs slot_list_getitem.lookup
      (wpAny_getItem_list_neg (Q:=fun r s'=>r=w/\EP X pins σ Q r s') pl.isList (by omega) (by rw [O4] <;> omega) (by omega) (by rw [hj]; simpa using ew) ⟨rfl,fin⟩) hs
theorem ix_tup:IxR X (rIxT X.K):=by
  intro value slice pins s σ H x y v u Q I rx ry h hs
  obtain ⟨p,xs,i,z,rfl,rfl,hq,he,q⟩:=h
  cases rx
  obtain ⟨t,rfl⟩:=ry
  obtain ⟨its,r,pl,hz⟩:=I.tuple hq
  obtain ⟨j,h1,h2,h3,h4,h5⟩:=atI_get he
  obtain ⟨w,ew,rw'⟩:=r.get h2
  have hl:=r.length
  have hn:=zj
  have fin:EP X pins σ Q w s:=⟨z,H,I,rw',q⟩
  exact subscriptTail_builtinR (x:=w) pl.typeIs slot_tuple_getitem.lookup
    (getItem_tuple (j:=j) (Q:=fun r s'=>r=w/\EP X pins σ Q r s') pl (by omega) (by omega) (by rw [O4,<- hl]; exact h1) (by simpa using ew) ⟨rfl,fin⟩) hs
theorem ix_str:IxR X rIxS:=by
  intro value slice pins s σ H x y v u Q I rx ry h hs
  obtain ⟨z,i,c,rfl,rfl,hz,he,q⟩:=h
  obtain ⟨t,rfl⟩:=rx
  obtain ⟨t',rfl⟩:=ry
  obtain ⟨j,h1,h2,h3,h4,h5⟩:=atI_get he
  have hl:z.cps.toList.length=z.length:=by simp [Str.length]
  rw [hl] at h1 h4 h5
  have hn:=zj
  exact tail_any (typeIs_str s z t) slot_str_getitem.lookup (getItem_str (c:=c) (by
    have e1:decide (i < -(2 ^ 63:Int))=false:=decide_eq_false (by omega)
    have e2:decide (i>=2 ^ 63)=false:=decide_eq_false (by omega)
    rw [e1,e2,Bool.or_false]) (by rw [h1]; simpa using h2) ⟨.str ⟨#[c]⟩,H,I.tok _,⟨_,rfl⟩,q⟩) hs
def rIx (K:PySem.W.Frag):R2:=fun x y H Q=>rIxL K x y H Q\/rIxT K x y H Q\/rIxS x y H Q
theorem ix_seq:IxR X (rIx X.K):=ix_list.or (ix_tup.or ix_str)
theorem mapSeq_set (its:List Value) (n j:Nat) (u:Value):Obj.mapSeq (·.setIfInBounds j u) { cls:=.type "list",data:=.seq its.toArray n }={ cls:=.type "list",data:=.seq (its.set j u).toArray n }:=by
  simp [Obj.mapSeq]
theorem Inv.lst {pins:List (Addr × Obj)} {σ:St} {H:Hp} {s:Shared} {p:Addr} {xs:List V} (I:Inv X pins σ H s) (h:H p=some (.lst xs)) :
    ∃ (its:List Value) (n:Nat),Vals xs its/\s.heap.get? p=some { cls:=.type "list",data:=.seq its.toArray n }/\xs.length<=sizeLine:=by
  obtain ⟨z,its,n,r,e⟩:=I.hok p _ h
  exact ⟨its,n,r,e,z⟩
theorem Inv.lstUpd {pins:List (Addr × Obj)} {σ:St} {H:Hp} {s:Shared} {p:Addr} {xs ys:List V} {its its':List Value} {n n':Nat} {f:Obj->Obj} (I:Inv X pins σ H s) (h:H p=some (.lst xs))
    (ho:s.heap.get? p=some { cls:=.type "list",data:=.seq its.toArray n }) (hf:f { cls:=.type "list",data:=.seq its.toArray n }={ cls:=.type "list",data:=.seq its'.toArray n' }) (r:Vals ys its') (hz:ys.length<=sizeLine) (t:Nat) :
    Inv X pins σ (upd H p (.lst ys)) { s with heap:=s.heap.update p f,toks:=t }:=by
  have e:(s.heap.update p f).get? p=some { cls:=.type "list",data:=.seq its'.toArray n' }:=by
    rw [Heap.get?_update_self f ho (by rw [hf] <;> rfl),hf]
  refine I.write (x:=p) (e:=p) (by rw [h]; trivial) (.inl rfl) (fun b u hb q=>(E8 _ _ (Ne.symm hb)).trans q) ⟨_,e⟩ ?_
  exact ⟨hz,its',n',r,e⟩
def rSetL:V->V->V->Hp->(Hp->Prop)->Prop:=fun o i v H Q=>∃ p xs k j,o=.ref p/\i=.int k/\H p=some (.lst xs)/\ixN xs.length k=some j/\Q (upd H p (.lst (xs.set j v)))
theorem set_list:PSet X rSetL:=by
  intro pins s σ H o i v ov iv u Q I ro ri rv h
  obtain ⟨p,xs,k,j,rfl,rfl,hp,hj,q⟩:=h
  cases ro
  obtain ⟨t,rfl⟩:=ri
  obtain ⟨its,n,r,ho,hz⟩:=I.lst hp
  obtain ⟨h1,h2,h3,h4⟩:=ixN_seq hj
  have hl:=r.length
  have hn:=zj
  have I':Inv X pins σ (upd H p (.lst (xs.set j v))) { s with heap:=s.heap.update p (Obj.mapSeq (·.setIfInBounds j u)) }:=
    I.lstUpd hp ho (mapSeq_set its n j u) (r.set rv j) (by rw [G8]; exact hz) s.toks
  by_cases h0:0<=k
  · have hk:k.toNat=j:=by
      rw [seqIndex_of h0 h4] at h1
      exact Option.some.inj h1
    exact PySem.W.ki_setAt ho h0 (by omega) (by rw [O4,<- hl]; exact h4) (by rw [hk]; exact ⟨_,I',q⟩)
  · have hk:(k + (its.toArray.size:Int)).toNat=j:=by
      rw [seqIndex_neg (by omega) h3] at h1
      rw [O4,<- hl]
      exact Option.some.inj h1
    exact PySem.W.ki_setBack ho (by omega) (by rw [O4,<- hl]; exact h3) (by omega) (by rw [hk]; exact ⟨_,I',q⟩)
theorem slice_bounds (lo hi:Option Int) (n:Nat):(sliceBounds lo hi none n).1=((HT.sIx n 0 lo:Nat):Int)/\(sliceBounds lo hi none n).2.1=((HT.sIx n n hi:Nat):Int)/\(sliceBounds lo hi none n).2.2=1:=by
  refine ⟨?_,?_,rfl⟩
  · cases lo with
    | none=>simp [sliceBounds,HT.sIx]
    | some i=>
      simp only [sliceBounds,HT.sIx,Option.getD_none,show (1:Int) > 0 by decide,if_true]
      by_cases h:i < 0
      · simp only [h,if_true] <;> omega
      · simp only [h,if_false] <;> omega
  · cases hi with
    | none=>simp [sliceBounds,HT.sIx]
    | some i=>
      simp only [sliceBounds,HT.sIx,Option.getD_none,show (1:Int) > 0 by decide,if_true]
      by_cases h:i < 0
      · simp only [h,if_true] <;> omega
      · simp only [h,if_false] <;> omega
theorem Q1t (its:List Value) (lo hi:Option Int):slicePick its.toArray lo hi none=((its.drop (HT.sIx its.length 0 lo)).take (HT.sIx its.length its.length hi - HT.sIx its.length 0 lo)).toArray:=by
  obtain ⟨h1,h2,h3⟩:=slice_bounds lo hi its.toArray.size
  unfold slicePick
  rw [h1,h2,h3]
  simp only [sliceRange_one,pick_run,O4] <;> rfl
def rSlL (K:PySem.W.Frag):V->Option Int->Option Int->Hp->VK->Prop:=fun x lo hi H Q=>∃ a xs,x=.ref a/\SqL K H a xs/\∀ p,H p=none->Q (.ref p) (upd H p (.lst (cutV xs lo hi)))
theorem sl_list:SlR X (rSlL X.K):=by
  intro pins s σ H x v vl vu lo hi sl Q I rx hs pl pu h
  obtain ⟨a,xs,rfl,hx,q⟩:=h
  cases rx
  obtain ⟨its,r,ht,hz⟩:=I.list hx
  have hlen:=r.length
  refine ⟨"list",_,slot_list_getitem.lookup,ht.isList.typeIs,?_⟩
  refine wpAny_getItem_list_slice ht.isList hs pl pu .none (by simp) ?_ (by rw [O4] <;> omega)
  rw [Q1t,<- hlen]
  refine ⟨.ref s.heap.objs.size,_,I.laid (t':=s.toks) (o:=.lst (cutV xs lo hi)) (fun b ob q=>O1 _ q) (O6 _) ?_,rfl,q _ (I.hok.fresh (O6 _))⟩
  exact ⟨E2 (yf xs lo hi) hz,_,0,(r.drop (HT.sIx xs.length 0 lo)).take (HT.sIx xs.length xs.length hi - HT.sIx xs.length 0 lo),D3 _ rfl⟩
theorem call_len_seq:V8 X (.builtin "len") (fun xs H Q=>∃ p ys,xs=[.ref p]/\(SqL X.K H p ys\/SqT X.K H p ys)/\Q (.int ys.length) H):=by
  intro pins s σ H xs us Q I r h
  obtain ⟨p,ys,rfl,hq,q⟩:=h
  obtain ⟨u,rfl,rx⟩:=Ks r
  cases rx
  have hn:=zj
  rcases hq with hq | hq
  · obtain ⟨its,r',pl,hz⟩:=I.list hq
    have hlen:=r'.length
    exact Calls.call_len_list pl.isList (by simp only [O4] <;> omega) ⟨.int ys.length,H,I.tok _,⟨s.toks + 1,by rw [O4,hlen]⟩,q⟩
  · obtain ⟨its,r',pl,hz⟩:=I.tuple hq
    have hlen:=r'.length
    exact len_tuple pl (by simp only [O4] <;> omega) ⟨.int ys.length,H,I.tok _,⟨s.toks + 1,by rw [O4,hlen]⟩,q⟩
theorem call_len_str:V8 X (.builtin "len") (fun xs H Q=>∃ z,xs=[.str z]/\z.length<=sizeLine/\Q (.int z.length) H):=by
  intro pins s σ H xs us Q I r h
  obtain ⟨z,rfl,hz,q⟩:=h
  obtain ⟨u,rfl,t,rfl⟩:=Ks r
  have hn:=zj
  exact len_str (by omega) ⟨.int z.length,H,I.tok _,⟨_,rfl⟩,q⟩
theorem jr:V8 X (.type "list") (fun xs H Q=>∃ p ys,xs=[.ref p]/\(SqL X.K H p ys\/SqT X.K H p ys)/\∀ l,H l=none->Q (.ref l) (upd H l (.lst ys))):=by
  intro pins s σ H xs us Q I r h
  obtain ⟨p,ys,rfl,hq,q⟩:=h
  obtain ⟨u,rfl,rx⟩:=Ks r
  cases rx
  have fin:∀ (its:List Value),Vals ys its->ys.length<=sizeLine->∀ (h':Heap) (c':Nat),(∀ b o',s.heap.get? b=some o'->h'.get? b=some o') ->
      h'.get? s.heap.objs.size=some { cls:=.type "list",dict:=none,data:=.seq its.toArray c',slots:=#[] }->EP X pins σ Q (.ref s.heap.objs.size) { s with heap:=h' }:=fun its r' hz h' c' kp e=>
    ⟨.ref s.heap.objs.size,_,I.laid (t':=s.toks) kp (O6 _) (show ObjOk X.prog X.w _ h' _ (.lst ys) from ⟨hz,its,c',r',e⟩),rfl,q _ (I.hok.fresh (O6 _))⟩
  rcases hq with hq | hq
  · obtain ⟨its,r',pl,hz⟩:=I.list hq
    have hlen:=r'.length
    obtain ⟨o,ho,hc,n,hd⟩:=pl.isList
    exact call_list_seq p (.inl rfl) ho hc hd (fun h' c' kp e=>fin its r' hz h' c' kp e) (by simp only [O4] <;> omega)
  · obtain ⟨its,r',pl,hz⟩:=I.tuple hq
    have hlen:=r'.length
    obtain ⟨o,ho,hc,n,hd⟩:=pl
    exact call_list_seq p (.inr rfl) ho hc hd (fun h' c' kp e=>fin its r' hz h' c' kp e) (by simp only [O4] <;> omega)
theorem qa:V8 X (.type "tuple") (fun xs H Q=>∃ p ys,xs=[.ref p]/\((SqL X.K H p ys/\∀ l,H l=none->Q (.ref l) (upd H l (.tup ys)))\/(SqT X.K H p ys/\Q (.ref p) H))):=by
  intro pins s σ H xs us Q I r h
  obtain ⟨p,ys,rfl,h⟩:=h
  obtain ⟨u,rfl,rx⟩:=Ks r
  cases rx
  rcases h with ⟨hq,q⟩ | ⟨hq,q⟩
  · obtain ⟨its,r',pl,hz⟩:=I.list hq
    have hlen:=r'.length
    refine call_tuple_list pl.isList (fun h' kp=>?_) (by simp only [O4] <;> omega)
    have I1:Inv X pins σ H { s with heap:=h' }:=I.kept (t':=s.toks) kp
    have I2:Inv X pins σ (upd H h'.objs.size (.tup ys)) { s with heap:=h'.push { cls:=.type "tuple",data:=.seq its.toArray } }:=
      I1.laid (t':=s.toks) (fun b o e=>O1 _ e) (O6 _) (show ObjOk X.prog X.w _ _ _ (.tup ys) from ⟨hz,its,r',IsTup.new _ _⟩)
    exact ⟨.ref h'.objs.size,_,I2,rfl,q _ (I1.hok.fresh (O6 _))⟩
  · obtain ⟨its,r',pl,hz⟩:=I.tuple hq
    exact call_tuple_same pl ⟨.ref p,H,I,rfl,q⟩
def tyV (K:PySem.W.Frag) (T:String) (x:V) (H:Hp):Prop:=match x with
  | .str _=>T = "str"
  | .int _=>T = "int"
  | .ref p=>(T = "list" /\ ∃ xs,SqL K H p xs)\/(T = "tuple" /\ ∃ o,K.lookup p=some o/\o.cls=.type "tuple" /\ o.dict=none) \/
      (T = "dict" /\ ((∃ kvs,H p=some (.dK kvs))\/∃ kvs,H p=some (.dT kvs)))\/(T = "set" /\ ∃ S n,H p=some (.set S n))
  | _=>False
theorem tyV_is {pins:List (Addr × Obj)} {σ:St} {H:Hp} {s:Shared} {T:String} {x:V} {v:Value} (I:Inv X pins σ H s) (r:RelV x v) (ty:tyV X.K T x H) :
    s.TypeIs v T/\∀ a,v=.ref a->∃ ob,s.heap.get? a=some ob/\ob.dict=none:=by
  cases x with
  | str z=>
    obtain ⟨t,rfl⟩:=r
    cases (show T = "str" from ty)
    exact ⟨typeIs_str s z t,fun _ e=>nomatch e⟩
  | int i=>
    obtain ⟨t,rfl⟩:=r
    cases (show T = "int" from ty)
    exact ⟨typeIs_int s i t,fun _ e=>nomatch e⟩
  | ref p=>
    cases r
    rcases ty with ⟨rfl,xs,hq⟩ | ⟨rfl,o,hk,hc,hd⟩ | ⟨rfl,hk⟩ | ⟨rfl,S,n,hk⟩
    · obtain ⟨its,_,pl,_⟩:=I.list hq
      refine ⟨pl.isList.typeIs,fun a e=>?_⟩
      cases e
      obtain ⟨o,n,e,c,hd,_⟩:=pl
      exact ⟨o,e,hd⟩
    · refine ⟨⟨o,I.kIn p o hk,hc⟩,fun a e=>?_⟩
      cases e
      exact ⟨o,I.kIn _ o hk,hd⟩
    · have z:∃ o,s.heap.get? p=some o/\o.ExactDict:=by
        rcases hk with ⟨kvs,hk⟩ | ⟨kvs,hk⟩
        · obtain ⟨_,_,_,_,o,_,_,e,ex,_⟩:=I.hok p _ hk
          exact ⟨o,e,ex⟩
        · obtain ⟨_,_,_,_,o,_,_,e,ex,_⟩:=I.hok p _ hk
          exact ⟨o,e,ex⟩
      obtain ⟨o,e,ex⟩:=z
      refine ⟨⟨o,e,ex.1⟩,fun a e2=>?_⟩
      cases e2
      exact ⟨o,e,ex.2.1⟩
    · obtain ⟨o,_,_,_,e,ex,_⟩:=I.hok p _ hk
      refine ⟨⟨o,e,ex.1⟩,fun a e2=>?_⟩
      cases e2
      exact ⟨o,e,ex.2.1⟩
  | _=>exact False.elim ty
def tBM (K:PySem.W.Frag) (T:String) (r:V->List V->Hp->VK->Prop) (to:TE) (t:TA):TE:=fun σ H Q=>to σ H fun x H1=>tyV K T x H1/\t σ H1 fun xs H2=>r x xs H2 Q
variable {o e:Expr} {es:List Expr} {to:TE} {t:TA} {name:Str} {apos cpos:Pos} {T id:String} {r:V->List V->Hp->VK->Prop}
theorem pe_bm (pa:PlainAttrs T) (slot:Slot T name id) (hty:typeOf (.builtin id)=pure (.type "method_descriptor")) (hm:MtR X id r) (ho:PE X o to) (ha:PA X (e :: es) t)
    (hbase:attributeBase o name X.env (eval o X.env)=eval o X.env:=by rfl)
    (hfew:((backTo cpos (starEach (e :: es) X.env)).all (fun x=>!x.1) && (backToKw cpos (keywordEach [] X.env)).all (fun x=>x.1.isSome)
      && decide ((e :: es).length + ([]:List Keyword).length + (if ([]:List Keyword).isEmpty then 0 else 1) < 30))=true:=by rfl)
    (hline:(apos.endLine == cpos.line)=true:=by rfl) (hs:starEach (e :: es) X.env=(false,eval e X.env) :: starEach es X.env:=by rfl) (hplain:(backTo cpos (starEach es X.env)).any (·.1)=false:=by rfl) :
    PE X (.Call (.Attribute o name apos) (e :: es) [] cpos) (tBM X.K T r to t):=by
  intro pins s σ H Q I h
  refine wpAny_Call_method_late hbase hfew hline rfl (thn (ho pins s σ H _ I h) fun v s1 ⟨x,H1,I1,r1,ty,q1⟩=>?_)
  obtain ⟨h1,h2⟩:=tyV_is I1 r1 ty
  refine ⟨T,id,pa,slot,hty,h1,h2,?_⟩
  have hA:=ha cpos pins s1 σ H1 _ I1 q1
  rw [hs] at hA ⊢
  refine Calls.callWith_builtin (by show (false || (backTo cpos (starEach es X.env)).any (·.1))=false; rw [hplain] <;> rfl) (Calls.evalArgs_plain ?_)
  exact thn hA fun us s2 ⟨vs,H2,I2,r2,q2⟩=>hm pins s2 σ H2 x vs v us Q I2 r1 r2 q2
end
end L2
namespace L2
open PySem PySem.Spec PyProof.Rows
def MtM (X:Cx) (id:String) (r:V->List V->Hp->VK->Prop):Prop:=
  ∀ (pins:List (Addr × Obj)) (s:Shared) (σ:St) (H:Hp) (x:V) (xs:List V) (v:Value) (us:List Value) (Q:VK),Inv X pins σ H s->RelV x v->Vals xs us->r x xs H Q ->
    wpAny (model X.prog X.w) X.A (call (.builtin id) (v :: us)) (EP X pins σ Q) X.xe s
theorem Vals.one:∀ {x:V} {us:List Value},Vals [x] us->∃ u,us=[u]/\RelV x u
  | _,_,.cons r .nil=>⟨_,rfl,r⟩
theorem Vals.rep {xs:List V} {us:List Value} (h:Vals xs us):∀ k:Nat,Vals (List.replicate k xs).flatten (List.replicate k us).flatten
  | 0=>.nil
  | k + 1=>by
    rw [List.replicate_succ,List.replicate_succ,List.flatten_cons,List.flatten_cons]
    exact Vals.append h (Vals.rep h k)
theorem zr (its:List Value):∀ (k:Nat) (acc:List Value),
    List.foldl (fun x1 x2=>x1 ++ x2) acc.toArray (List.replicate k its.toArray)=(acc ++ (List.replicate k its).flatten).toArray
  | 0,acc=>by simp
  | k + 1,acc=>by
    have e:acc.toArray ++ its.toArray=(acc ++ its).toArray:=by simp
    have e2:(acc ++ its) ++ (List.replicate k its).flatten=acc ++ (List.replicate (k + 1) its).flatten:=by
      rw [List.replicate_succ,List.flatten_cons,F4]
    rw [<- e2,<- zr its k (acc ++ its),<- e,List.replicate_succ,List.foldl_cons]
section
variable {X:Cx} {pins:List (Addr × Obj)} {σ:St} {H:Hp} {s:Shared} {l b:Addr} {xs ys zs:List V}
theorem Inv.lset {its its':List Value} {n:Nat} {f:Array Value->Array Value} {t':Nat} (I:Inv X pins σ H s) (hH:H l=some (.lst xs))
    (e:s.heap.get? l=some { cls:=.type "list",data:=.seq its.toArray n }) (hf:f its.toArray=its'.toArray) (hv:Vals ys its') (hz:ys.length<=sizeLine) :
    Inv X pins σ (upd H l (.lst ys)) { s with heap:=s.heap.update l (Obj.mapSeq f),toks:=t' }:=by
  have q:=PySem.IsL.update e f
  rw [hf] at q
  refine I.write (x:=l) (e:=l) (by rw [hH]; exact trivial) (.inl rfl) (fun b' u hb hu=>(E8 s.heap (Obj.mapSeq f) (Ne.symm hb)).trans hu) ⟨_,q⟩ ?_
  exact ⟨hz,its',_,hv,q⟩
theorem Inv.lnew {its:List Value} {t':Nat} (I:Inv X pins σ H s) (hv:Vals ys its) (hz:ys.length<=sizeLine) :
    Inv X pins σ (upd H s.heap.objs.size (.lst ys)) { s with heap:=s.heap.push { cls:=.type "list",data:=.seq its.toArray },toks:=t' }:=
  I.laid (fun _ _ q=>O1 _ q) (O6 _) ⟨hz,its,0,hv,D3 _ rfl⟩
theorem Inv.fresh (I:Inv X pins σ H s):H s.heap.objs.size=none:=I.hok.fresh (O6 _)
theorem Inv.lstM (I:Inv X pins σ H s) (hH:H l=some (.lst xs)):xs.length<=sizeLine/\∃ (its:List Value) (n:Nat),Vals xs its/\xs.length=its.length/\s.heap.get? l=some { cls:=.type "list",data:=.seq its.toArray n }:=by
  obtain ⟨z,its,n,r,e⟩:=I.hok l _ hH
  exact ⟨z,its,n,r,r.length,e⟩
theorem notLongL {n:Nat} (h:n<=sizeLine):Builtin.List.listTooLong n=false:=by
  unfold Builtin.List.listTooLong
  exact decide_eq_false (by omega)
end
section
variable {X:Cx}
def rAppend:V->List V->Hp->VK->Prop:=fun x vs H Q=>∃ l xs y,x=.ref l/\vs=[y]/\H l=some (.lst xs)/\xs.length < sizeLine/\Q .non (upd H l (.lst (xs ++ [y])))
theorem mt_append:MtM X "list.append" rAppend:=by
  intro pins s σ H x vs v us Q I rx rv h
  obtain ⟨l,xs,y,rfl,rfl,hH,hz,q⟩:=h
  cases rx
  obtain ⟨u,rfl,ru⟩:=rv.one
  obtain ⟨z,its,n,r,hl,e⟩:=I.lstM hH
  refine call_meets F.slot_list_append ⟨_,e,rfl⟩ F.entry_list_append (F.args_list_append_2 _ _) (PySem.list_append l its.toArray n u (by rw [O4]; omega)) ⟨e,?_⟩
  refine ⟨.non,_,I.lset (its':=its ++ [u]) hH e (by simp) (r.append (.cons ru .nil)) ?_,rfl,q⟩
  rw [D5,List.length_singleton]
  omega
def rExtend:V->List V->Hp->VK->Prop:=fun x vs H Q=>∃ l b xs zs,x=.ref l/\vs=[.ref b]/\H l=some (.lst xs)/\H b=some (.lst zs)/\xs.length + zs.length<=sizeLine/\Q .non (upd H l (.lst (xs ++ zs)))
theorem mt_extend:MtM X "list.extend" rExtend:=by
  intro pins s σ H x vs v us Q I rx rv h
  obtain ⟨l,b,xs,zs,rfl,rfl,hH,hB,hz,q⟩:=h
  cases rx
  obtain ⟨u,rfl,ru⟩:=rv.one
  cases ru
  obtain ⟨z,its,n,r,hl,e⟩:=I.lstM hH
  obtain ⟨z2,its2,n2,r2,hl2,e2⟩:=I.lstM hB
  have hsz:its.toArray.size + its2.toArray.size<=sizeLine:=by rw [O4,O4]; omega
  have hlong:¬ (!its.toArray.isEmpty && Builtin.List.listTooLong (its.toArray.size + its2.toArray.size))=true:=by
    rw [notLongL hsz,Bool.and_false]
    exact O9
  refine call_meets F.slot_list_extend ⟨_,e,rfl⟩ F.entry_list_extend (F.args_list_extend_2 _ _)
    (AutoSeq1.list_extend_list_list_0 l its.toArray n b its2.toArray n2 hlong (by rw [O4]; omega) (by omega)) ⟨e,e2,?_⟩
  refine ⟨.non,_,I.lset (its':=its ++ its2) hH e (by simp) (r.append r2) ?_,rfl,q⟩
  rw [D5]
  omega
def rCat:R2:=fun x y H Q=>∃ l b xs zs,x=.ref l/\y=.ref b/\H l=some (.lst xs)/\H b=some (.lst zs)/\xs.length + zs.length<=sizeLine/\∀ p,H p=none->Q (.ref p) (upd H p (.lst (xs ++ zs)))
theorem zc:OpR X (binaryOp .Add) rCat:=by
  intro pins s σ H x y v u Q I rx ry h
  obtain ⟨l,b,xs,zs,rfl,rfl,hH,hB,hz,q⟩:=h
  cases rx
  cases ry
  obtain ⟨z,its,n,r,hl,e⟩:=I.lstM hH
  obtain ⟨z2,its2,n2,r2,hl2,e2⟩:=I.lstM hB
  refine PySem.P.add_list e e2 ?_ (by rw [O4,O4]; omega)
  have ea:its.toArray ++ its2.toArray=(its ++ its2).toArray:=by simp
  rw [ea]
  exact ⟨.ref _,_,I.lnew (t':=s.toks) (r.append r2) (by rw [D5]; omega),rfl,q _ I.fresh⟩
def rRep:R2:=fun x y H Q=>∃ l k xs,x=.ref l/\y=.int k/\H l=some (.lst xs)/\-(2 ^ 63)<=k/\k < 2 ^ 63/\xs.length * k.toNat<=sizeLine /\
  ∀ p,H p=none->Q (.ref p) (upd H p (.lst (List.replicate k.toNat xs).flatten))
theorem len_rep {α:Type} (xs:List α) (k:Nat):(List.replicate k xs).flatten.length=k * xs.length:=by
  induction k with
  | zero=>simp
  | succ k ih=>rw [List.replicate_succ,List.flatten_cons,D5,ih,Nat.succ_mul,Nat.add_comm]
theorem op_rep:OpR X (binaryOp .Mult) rRep:=by
  intro pins s σ H x y v u Q I rx ry h
  obtain ⟨l,k,xs,rfl,rfl,hH,h1,h2,hz,q⟩:=h
  cases rx
  obtain ⟨t,rfl⟩:=ry
  obtain ⟨z,its,n,r,hl,e⟩:=I.lstM hH
  have hlen:its.toArray.size * k.toNat<=sizeLine:=by rw [O4,<- hl]; exact hz
  have hcap:¬ its.toArray.size * k.toNat > (2 ^ 63 - 1) / 8:=by
    have:(sizeLine:Nat)<=(2 ^ 63 - 1) / 8:=by decide
    omega
  have hfit:¬ (!Builtin.List.listFitsIndex k)=true:=by
    rw [fitsIndex_both h1 h2]
    exact O9
  have hlong:¬ Builtin.List.listTooLong (its.toArray.size * k.toNat)=true:=by
    rw [notLongL hlen]
    exact O9
  have hnew:List.foldl (fun x1 x2=>x1 ++ x2) #[] (List.replicate (if its.toArray.isEmpty=true then 0 else k.toNat) its.toArray)=(List.replicate k.toNat its).flatten.toArray:=by
    have f0:∀ m:Nat,List.foldl (fun x1 x2=>x1 ++ x2) #[] (List.replicate m its.toArray)=(List.replicate m its).flatten.toArray:=fun m=>by
      have:=zr its m []
      rw [List.nil_append] at this
      exact this
    rw [f0]
    cases its with
    | nil=>simp
    | cons a r'=>rw [if_neg (by simp)]
  refine wpAny_binaryOp_repeat_ref (T := "list") (U := "int") (by decide) ⟨_,e,rfl⟩ (fun s'=>typeIs_int s' k t) noFill_list_mul F.fills_int_mul F.slot_int_rmul repeat_list F.slot_int_index.lookup
    (call_meets F.slot_int_rmul (typeIs_int s k t) F.entry_int_rmul (F.args_int_rmul_2 _ _) (int___rmul___int_list k t l its.toArray n)
      ⟨e,rfl,⟨_,e,rfl⟩,call_meets F.slot_list_mul ⟨_,e,rfl⟩ F.entry_list_mul (F.args_list_mul_2 _ _) (AutoListH.list___mul___list_int_3 l its.toArray n k t hfit hcap hlong) ⟨e,?_⟩⟩)
  rw [hnew]
  exact ⟨.ref _,_,I.lnew (t':=s.toks) (r.rep k.toNat) (by rw [len_rep,Nat.mul_comm]; exact hz),rfl,q _ I.fresh⟩
end
section
variable {prog:Program} {w:World} {A:Around} {E:Value->Shared->Prop} {s:Shared}
end
section
variable {X:Cx}
end
end L2
namespace Att
open PySem PySem.W PySem.Calls PyProof.Rows
theorem yq {P:Params} {h:Heap}:∀ (ns:List Int) (vs:List Value),WellAll P h vs (ns.map WData.int)->IntsAre vs ns:=by
  intro ns
  induction ns with
  | nil=>
    intro vs w
    rw [List.map_nil] at w
    cases w
    exact .nil
  | cons n ns ih=>
    intro vs w
    rw [D0] at w
    cases w with
    | cons a b=>
      cases a
      exact .cons _ _ (ih _ b)
theorem script_of {l:OpenLaw} {n:Nat} (hn:l.most=some n) {P:Params} {h:Heap} {args:List WData} {vals:List Value}
    (hpre:l.row.toRowW.claim.pre args=true) (hwl:WellAll P h vals args) :
    ∃ a vs ns,vals=[Value.ref a]/\args=[WData.list (ns.map WData.int)]/\h.get? a=some { cls:=.type "list",data:=.seq vs.toArray }/\IntsAre vs ns/\ns.length<=n:=by
  have hsh:WShape.hasAll [] args [.list .int]=true:=(pre_splitW hpre).1
  have hc:l.pre.holds [] { args:=args }=true:=(pre_splitW hpre).2
  obtain ⟨d,r,rfl,h1,h2⟩:=hasAllW_cons hsh
  obtain rfl:=hasAllW_nil h2
  obtain ⟨xs,rfl,h3⟩:=hasW_list h1
  obtain ⟨ns,rfl⟩:=items_int h3
  have hlen:ns.length<=n:=by
    unfold OpenLaw.pre at hc
    have h4:(WTm.not (.lt (.lit (.int (n:Int))) (.len (.arg 0)))).holds [] { args:=[.list (ns.map .int)] }=true:=by
      have h4:=(holds_andW hc).1
      rw [hn] at h4
      exact h4
    have h5:=condW_of h4 (w_not (w_lt w_lit (w_len_list (w_arg rfl))))
    rw [O5] at h5
    refine Nat.le_of_not_lt fun q=>?_
    have q':(n:Int) < ((ns.length:Nat):Int):=by omega
    first
      | (rw [decide_eq_true q'] at h5; exact absurd h5 (by decide))
      | (simp at h5; omega)
  cases hwl with
  | cons w1 w2=>
    cases w2
    cases w1 with
    | list ho hall=>exact ⟨_,_,ns,rfl,rfl,ho,yq ns _ hall,hlen⟩
theorem post_true (l:OpenLaw) (args:List WData):l.row.toRowW.claim.post args (.bool true) args=true:=
  postW_of (r:=l.row.toRowW) (X:=(true == true))
    (show WShape.has [] (.bool true) .bool=true by first | rfl | decide | simp [WShape.has,WShape.arms,WShape.armsAll])
    (show (WTm.eq .res (.lit (.bool true))).value [] { args:=args,res:=some (.bool true),after:=args }=some (.bool (true == true)) from w_eq_bool (w_res rfl) w_lit) rfl
theorem attach_call {l:OpenLaw} {n:Nat} {q:Program} {loose:List Str} {XP:(Str->Option Value)->Heap->Prop} {YP:World->Heap->Prop} {d:DefRec}
    (hn:l.most=some n) (hdf:d.params.defaults=[])
    (call:∀ (w:World) (s₀ s₁:Shared) (mg mb:Str->Option Value) (fa:Addr) (o:Obj) (pm cd doc:Value) (a:Addr) (vs:List Value) (ns:List Int),
      Ground q loose [] XP w s₀ mg mb s₁.heap->YP w s₁.heap ->
      s₁.heap.get? fa=some o->o.data=.func (docDef d.name d.params d.body d.scope pm cd doc)->s₁.heap.CodeRec cd d.name->mg d.name=some (.ref fa) ->
      s₁.heap.get? a=some { cls:=.type "list",data:=.seq vs.toArray }->IntsAre vs ns->ns.length<=n->s₁.gens=#[] ->
      codeAny (model l.prog w) callerA (.call (.ref fa) ⟨[.ref a],[]⟩) (fun r s'=>r=.ok (.ret (.bool true))/\OldK s₁.heap s'.heap/\s'.os=s₁.os/\AllBare s'.gens) s₁) :
    WalkO q loose XP YP l.row.toRowW d [] (fun f vs=>PySem.call f vs):=by
  intro w s₀ s₁ mg mb G Y fa o pm cd doc dV kV ho hd hcd hD hmg hg args vals as hpre hlay hrd hwl hlo
  obtain rfl:dV=.none:=Dflts.none hD hdf
  obtain rfl:kV=.none:=Dflts.noKw hD
  obtain ⟨a,vs,ns,rfl,rfl,hobj,hints,hlen⟩:=script_of hn hpre hwl
  refine enter_call (codeAny_mono (call w s₀ s₁ mg mb fa o pm cd doc a vs ns G Y ho (fd_plain hd) hcd hmg hobj hints hlen hg) fun r s' hq=>?_)
  obtain ⟨rfl,h2,h3,h4⟩:=hq
  exact ⟨.inl ⟨.bool true,.bool true,[],rfl,fun _=>rfl,.bool true,post_true l _,fun _=>⟨List.Pairwise.nil,fun _ hm=>(nomatch hm)⟩⟩,h2,h3,h4⟩
section
variable {prog:Program} {w:World} {A:Around} {E:Value->Shared->Prop} {s:Shared} {K:Frag}
end
end Att
namespace L2
open PySem PySem.Spec PyProof.Rows
theorem Q27:∀ {vs:List Value} {ns:List Int},IntsAre vs ns->Vals (ns.map V.int) vs
  | _,_,.nil=>.nil
  | _,_,.cons n t h=>.cons ⟨t,rfl⟩ (Q27 h)
def Only (H:Hp):Prop:=∀ b,H b=none\/∃ o xs,H b=some (.frz o (.lst xs))
theorem law_call {P:Program} {w:World} {K:PySem.W.Frag} {mg mb:Str->Option Value} {CX:CXT} {k:Nat} {fa a:Addr} {fd:FuncData} {x:Str} {sp:Sp} {s₁:Shared} {vs:List Value} {ns:List Int}
    (KX:K.In s₁.heap) (hns:s₁.heap.Ns mainGlobals mg) (hb:s₁.heap.Ns builtinsNs mb) (hbb:∀ x:Str,x≠"__name__" -> mb x=bootBuiltins x) (hlim:s₁.heap.NoLimit) (hg:s₁.gens=#[])
    (ha:s₁.heap.get? a=some { cls:=.type "list",data:=.seq vs.toArray }) (hi:IntsAre vs ns) (hl:ns.length<=sizeLine) (hr:Room k callerA)
    (F:∀ base:Heap,K.In base->base.Ns mainGlobals mg->FnOk P w K mg base CX k fa fd [x] sp) (hbind:∀ (s:Shared) (u:Value),BindsTo s fd ⟨[u],[]⟩ [(x,u)])
    (hsp:∀ H:Hp,Only H->SqL K H a (ns.map V.int)->sp [.ref a] H (fun v _=>v=.bl true) fun _ _ _=>False)
    (hCX:∀ H e s',CX [] H s₁ (fun _ _ _=>False) e s'->False) :
    codeAny (model P w) callerA (.call (.ref fa) ⟨[.ref a],[]⟩) (fun r s'=>r=.ok (.ret (.bool true))/\OldK s₁.heap s'.heap/\s'.os=s₁.os/\AllBare s'.gens) s₁:=by
  have rv:=Q27 hi
  have lenV:=hi.length
  have core:∀ H:Hp,Only H->SqL K H a (ns.map V.int)->HOk P w H s₁.heap->(∀ b,H b≠none->b=a)->(H a≠none->K.lookup a=none) ->
      codeAny (model P w) callerA (.call (.ref fa) ⟨[.ref a],[]⟩) (fun r s'=>r=.ok (.ret (.bool true))/\OldK s₁.heap s'.heap/\s'.os=s₁.os/\AllBare s'.gens) s₁:=by
    intro H hO hS hok hA hK
    have base_of:∀ {b:Addr} {o:Obj},s₁.heap.get? b=some o->H b=none->(hidT s₁.heap H).get? b=some o:=fun e n=>hidT_get e n
    have noA:∀ {b:Addr} {o:Obj} {es:Array DictEntry} {ep:Nat},s₁.heap.get? b=some o->o.data=.dict es ep->H b=none:=fun {b o es ep} e d=>by
      cases q:H b with
      | none=>rfl
      | some u=>
        have e':b=a:=hA b (by rw [q]; simp)
        subst e'
        rw [ha] at e; cases e
        have d':Data.seq vs.toArray _=Data.dict es ep:=d
        cases d'
    have nsK:∀ {b:Addr} {m:Str->Option Value},s₁.heap.Ns b m->(hidT s₁.heap H).Ns b m:=fun {b m} ⟨o,es,ep,e,d,r⟩=>⟨o,es,ep,base_of e (noA e d),d,r⟩
    have hKb:K.In (hidT s₁.heap H):=fun b o e=>base_of (KX b o e) (by
      cases q:H b with
      | none=>rfl
      | some u=>
        have e':b=a:=hA b (by rw [q]; simp)
        subst e'
        rw [hK (by rw [q]; simp)] at e; cases e)
    have hM:Mod K mg (hidT s₁.heap H):=⟨hKb,nsK hns,⟨mb,nsK hb,hbb⟩,let ⟨mc,h1,h2⟩:=hlim; ⟨mc,nsK h1,h2⟩⟩
    have e0:Env0 P w K mg (hidT s₁.heap H) callerA [] s₁ H:=⟨rfl,hM,fun b o e=>of_hidT e,Nat.le_of_eq (hidT_size _ _),trivial,fun b hb=>absurd (show b∈([]:List Addr) from hb) (by simp),hok,.of_eq hg⟩
    refine codeAny_mono ((F _ hKb (nsK hns)).run callerA [] s₁ H ⟨[.ref a],[]⟩ [.ref a] [.ref a] _ _ hr e0 (hbind s₁ (.ref a)) (.cons rfl .nil) (hsp H hO hS)) fun r s' h=>?_
    cases r with
    | error e=>exact (hCX H e s' h).elim
    | ok fl=>
      cases fl with
      | next=>exact False.elim h
      | brk=>exact False.elim h
      | cont=>exact False.elim h
      | ret u=>
        obtain ⟨v,H',os,bare,un,hok',r',q⟩:=h
        have q':v=.bl true:=q
        subst q'
        obtain rfl:u=Value.bool true:=r'
        refine ⟨rfl,OldK.of_keep fun b o e=>?_,os,bare⟩
        cases q:H b with
        | none=>exact un.keep b o e q (by intro z; exact absurd (show b∈([]:List Addr) from z) (by simp)) (by simp)
        | some u=>
          rcases hO b with z | ⟨ob,xs,z⟩
          · rw [q] at z; cases z
          · have z2:=un.frzs b ob _ z
            obtain ⟨e1,_⟩:=hok b _ z
            obtain ⟨e2,_⟩:=hok' b _ z2
            rw [e] at e1; cases e1
            exact e2
  cases hk:K.lookup a with
  | some o=>
    have e:=KX a o hk
    rw [ha] at e
    cases e
    refine core (fun _=>none) (fun _=>.inl rfl) (.inr ⟨_,vs.toArray,_,hk,rfl,rfl,rfl,by rw [O4,lenV]; exact hl,by simpa using rv⟩) (fun b u z=>by have z':(none:Option HO)=some u:=z; cases z') (fun b z=>absurd rfl z) fun z=>absurd rfl z
  | none=>
    refine core (fun b=>if b=a then some (.frz { cls:=.type "list",data:=.seq vs.toArray } (.lst (ns.map V.int))) else none) (fun b=>?_) (.inl (.inr ⟨{ cls:=.type "list",data:=.seq vs.toArray },if_pos rfl⟩)) (fun b u z=>?_) (fun b z=>?_) fun _=>hk
    · by_cases hb:b=a
      · exact .inr ⟨_,_,if_pos hb⟩
      · exact .inl (if_neg hb)
    · by_cases hb:b=a
      · have z':=(if_pos hb).symm.trans z
        cases z'
        subst hb
        exact ⟨ha,by rw [O5]; exact hl,vs,_,rv,ha⟩
      · have z':=(if_neg hb).symm.trans z
        cases z'
    · by_cases hb:b=a
      · exact hb
      · exact absurd (if_neg hb) z
end L2
namespace L2
open PySem PySem.Spec PyProof.Rows
theorem walk_of {l:PySem.W.OpenLaw} {n k:Nat} {q:Program} {loose:List Str} {XP:(Str->Option Value)->Heap->Prop} {YP:World->Heap->Prop} {d:DefRec} {K:Params->PySem.W.Frag} {CX:World->CXT} {sp:World->Sp} {x:Str}
    (hn:l.most=some n) (hn2:n<=sizeLine) (hdf:d.params.defaults=[]) (hr:Room k callerA)
    (hY:∀ (w:World) (h:Heap),YP w h->(K w.params).In h)
    (F:∀ (w:World) (mg:Str->Option Value) (fa:Addr) (h:Heap),(K w.params).In h->h.Ns mainGlobals mg->mg d.name=some (.ref fa) ->
      ∃ fd:FuncData,(∀ (s:Shared) (u:Value),BindsTo s fd ⟨[u],[]⟩ [(x,u)]) /\
        ∀ base:Heap,(K w.params).In base->base.Ns mainGlobals mg->FnOk l.prog w (K w.params) mg base (CX w) k fa fd [x] (sp w))
    (hsp:∀ (w:World) (H:Hp) (a:Addr) (ns:List Int),ns.length<=n->Only H->SqL (K w.params) H a (ns.map V.int)->sp w [.ref a] H (fun v _=>v=.bl true) fun _ _ _=>False)
    (hCX:∀ (w:World) (H:Hp) (s:Shared) (e:Value) (s':Shared),CX w [] H s (fun _ _ _=>False) e s'->False) :
    PySem.W.WalkO q loose XP YP l.row.toRowW d [] (fun f vs=>PySem.call f vs):=by
  refine Att.attach_call hn hdf fun w s₀ s₁ mg mb fa o pm cd doc a vs ns G Y ho hd hcd hmg hobj hints hlen hg=>?_
  have KX:=hY w _ Y
  obtain ⟨fd,hb,hF⟩:=F w mg fa _ KX G.T.g hmg
  exact law_call KX G.T.g G.T.b G.T.builtins G.T.nolimit hg hobj hints (E2 hlen hn2) hr hF hb (fun H hO hS=>hsp w H a ns hlen hO hS) fun H e s'=>hCX w H s₁ e s'
end L2
namespace L2
open PySem PySem.Spec PyProof.Rows
def Qt (s:Stmt):Arguments:=match s with
  | .FunctionDef _ a _ _ _ _ _ _ _ _=>a
  | _=>{ posonlyargs:=[],args:=[],vararg:=none,kwonlyargs:=[],kw_defaults:=[],kwarg:=none,defaults:=[] }
def Qp (s:Stmt):List Stmt:=match s with
  | .FunctionDef _ _ b _ _ _ _ _ _ _=>b
  | _=>[]
def Q6 (s:Stmt):Scope:=match s with
  | .FunctionDef _ _ _ _ _ _ sc _ _ _=>sc
  | _=>{ kind:=.function,names:=[],isGenerator:=false,isCoroutine:=false }
abbrev E0:XK:=fun _ _ _=>False
structure Fun (K:PySem.W.Frag) (x qual:Str) (st:Stmt) (f:Addr) (fd:FuncData):Prop where
  ex:∃ (oc:Value) (od:Option Addr) (kV doc pm:Value) (an:Option Addr) (cdv ct:Value) (osl:Array (Option Value)),
    fd=PySem.W.fnOf x qual (Qt st) (Qp st) (Q6 st) .none kV doc pm an cdv ct/\K.lookup f=some ⟨oc,od,.func fd,osl⟩/\PySem.W.codeIn K cdv qual=true
  kp:PySem.W.keepIn K (.ref f)=true
section
variable {P:Program} {w:World} {K:PySem.W.Frag} {mg:Str->Option Value} {base:Heap}
theorem Fun.binds {x qual:Str} {st:Stmt} {f:Addr} {fd:FuncData} {ps:List Str} (F:Fun K x qual st f fd)
    (h:∀ (kV doc pm:Value) (an:Option Addr) (cdv ct:Value) (us:List Value),us.length=ps.length->bindArgs (PySem.W.fnOf x qual (Qt st) (Qp st) (Q6 st) .none kV doc pm an cdv ct) ⟨us,[]⟩=pure (ps.zip us)):Binds K fd ps []:=by
  obtain ⟨oc,od,kV,doc,pm,an,cdv,ct,osl,rfl,lk,hcd⟩:=F.ex
  exact .all (h kV doc pm an cdv ct)
theorem fun_mk {x qual:Str} {st:Stmt} {f:Addr} {oc:Value} {od an:Option Addr} {osl:Array (Option Value)} {kV doc pm cdv ct:Value} (l:K.lookup f=some ⟨oc,od,.func (PySem.W.fnOf x qual (Qt st) (Qp st) (Q6 st) .none kV doc pm an cdv ct),osl⟩)
    (c:PySem.W.codeIn K cdv qual=true) (k:PySem.W.keepIn K (.ref f)=true):Fun K x qual st f (PySem.W.fnOf x qual (Qt st) (Qp st) (Q6 st) .none kV doc pm an cdv ct):=⟨⟨oc,od,kV,doc,pm,an,cdv,ct,osl,rfl,l,c⟩,k⟩
end
section
variable {X:Cx}
theorem pv (i:Nat) {x:Str} {pos:Pos} (hN:X.N[i]?=some x:=by rfl) (hv:Vis X.env.scope x:=by first | exact Or.inl rfl | exact Or.inr (Or.inl rfl) | exact Or.inr (Or.inr rfl)) (hd:(x == ("__debug__" : Str))=false:=by decide)
    (hcd:(x == ("__classdict__" : Str))=false:=by decide):PE X (.Name x pos) (tVar i):=pe_var hN hv hd hcd
end
theorem iteF {A B:Prop} (h:B):if false=true then A else B:=by
  rw [if_neg O9]
  exact h
theorem iteT {A B:Prop} (h:A):if true=true then A else B:=by
  rw [if_pos rfl]
  exact h
def Same (H H':Hp):Prop:=∀ b o,H b=some o->H' b=some o
theorem Same.refl (H:Hp):Same H H:=fun _ _ h=>h
end L2
namespace L2
open PySem PySem.Spec PyProof.Rows
theorem closure_of {scope:Scope} {env:Env} (h:∀ x∈scope.names,x.2=.free->∃ c,env.cells.lookup x.1=some c) :
    ∃ cl,closureFor scope env=pure cl/\(∀ x c,cl.lookup x=some c->env.cells.lookup x=some c)/\(∀ x∈scope.names,x.2=.free->∃ c,cl.lookup x.1=some c):=by
  have key:∀ (l:List (Str × NameKind)) (acc:List (Str × Addr)),(∀ x∈l,x.2=.free->∃ c,env.cells.lookup x.1=some c)->(∀ x c,acc.lookup x=some c->env.cells.lookup x=some c) ->
      ∃ cl,(forIn l acc fun (x:Str × NameKind) (r:List (Str × Addr))=>(match x with
        | (name,kind)=>if (kind == NameKind.free)=true then (do let c <- cellOf env name; pure (ForInStep.yield ((name,c) :: r))) else (do pure PUnit.unit; pure (ForInStep.yield r)):Sem (ForInStep (List (Str × Addr)))))=pure cl /\
        (∀ x c,cl.lookup x=some c->env.cells.lookup x=some c)/\(∀ x∈l,x.2=.free->∃ c,cl.lookup x.1=some c)/\(∀ x c,acc.lookup x=some c->∃ c',cl.lookup x=some c'):=by
    intro l
    induction l with
    | nil=>intro acc _ ha; exact ⟨acc,rfl,ha,fun x hx=>(by simp at hx),fun x c e=>⟨c,e⟩⟩
    | cons x r ih=>
      intro acc hl ha
      obtain ⟨n,k⟩:=x
      by_cases hk:k=.free
      · subst hk
        obtain ⟨c,hc⟩:=hl (n,.free) E4 rfl
        have ha':∀ x c',((n,c) :: acc).lookup x=some c'->env.cells.lookup x=some c':=fun x c' e=>by
          rw [List.lookup_cons] at e
          by_cases hx:x=n
          · subst hx; simp at e; rw [<- e]; exact hc
          · have:(x == n)=false:=by simpa using hx
            rw [this] at e; exact ha x c' e
        obtain ⟨cl,e1,e2,e3,e4⟩:=ih ((n,c) :: acc) (fun y hy=>hl y (D4 _ hy)) ha'
        refine ⟨cl,?_,e2,fun y hy hf=>?_,fun y c' e=>?_⟩
        · rw [List.forIn_cons]
          have hcell:cellOf env n=pure c:=by unfold cellOf; rw [hc]
          simp only [beq_self_eq_true,if_true,hcell]
          exact e1
        · rcases D6.mp hy with e | hy
          · subst e
            exact e4 n c (by simp)
          · exact e3 y hy hf
        · by_cases hy:y=n
          · subst hy; exact e4 y c (by simp)
          · have:(y == n)=false:=by simpa using hy
            exact e4 y c' (by rw [List.lookup_cons,this]; exact e)
      · obtain ⟨cl,e1,e2,e3,e4⟩:=ih acc (fun y hy=>hl y (D4 _ hy)) ha
        refine ⟨cl,?_,e2,fun y hy hf=>?_,e4⟩
        · rw [List.forIn_cons]
          have:(k == NameKind.free)=false:=by simpa using hk
          simp only [this,Bool.false_eq_true,if_false]
          exact e1
        · rcases D6.mp hy with e | hy
          · subst e; exact absurd hf hk
          · exact e3 y hy hf
  obtain ⟨cl,e1,e2,e3,_⟩:=key scope.names [] h (fun x c e=>by simp at e)
  refine ⟨cl,?_,e2,e3⟩
  unfold closureFor
  exact (congrArg (fun z=>z >>= pure) e1).trans rfl
theorem jh (f:Str->NameKind->NameKind) (x:Str):∀ l:List (Str × NameKind),(l.map fun y=>(y.1,f y.1 y.2)).lookup x=(l.lookup x).map (f x)
  | []=>rfl
  | (n,k) :: r=>by
    have ih:=jh f x r
    rw [D0,List.lookup_cons,List.lookup_cons]
    by_cases hx:x=n
    · subst hx; simp
    · have hb:(x == n)=false:=by simpa using hx
      rw [hb]; exact ih
theorem Xj {scope:Scope} {env:Env} {x:Str}:(relabel scope env).names.lookup x =
    (scope.names.lookup x).map fun k=>if (k == .free && env.scope.kind == .function && env.kindOf x == some .cell) then .cell else k:=by
  rw [<- jh (fun n k=>if (k == .free && env.scope.kind == .function && env.kindOf n == some .cell) then .cell else k)]
  unfold relabel
  refine congrArg (List.lookup x) (List.map_congr_left fun y _=>?_)
  obtain ⟨n,k⟩:=y
  show (if (k == NameKind.free && env.scope.kind == .function && env.kindOf n == some .cell)=true then (n,NameKind.cell) else (n,k))=_
  split <;> rfl
def compOk (N N':List Str) (sc scE:Scope) (cap:List (Option Nat)):Bool:=
  sc.kind == .function && sc.names.all (fun x=>x.2 != .cell) && sc.names.all (fun x=>x.2 != .local || sc.names.lookup x.1 == some .local) &&
  sc.names.all (fun x=>x.2 != .free || scE.names.lookup x.1 == some .cell || scE.names.lookup x.1 == some .free) && cap.length == N'.length &&
  (List.range cap.length).all (fun i=>match cap[i]? with
    | some (some j)=>(match N'[i]?,N[j]? with | some a,some b=>a == b && sc.names.lookup a == some .free | _,_=>false)
    | _=>true)
def jq (cap:List (Option Nat)) (σ:St):St:=cap.map fun c=>c.bind fun j=>(σ[j]?).join
section
variable {prog:Program} {w:World} {A:Around} {R:Result->Shared->Prop} {s:Shared}
end
section
variable {X:Cx}
theorem HOk.same {P:Program} {w:World} {H:Hp} {h h':Heap} {a:Addr} (ok:HOk P w H h) (hn:H a=none) (hs:Heap.SameBut a h h'):HOk P w H h':=fun b ob e=>by
  refine (ok b ob e).stay (fun c w' hc q=>(hs.2 c ?_).trans q) (fun _ q=>q) fun _ _ q=>q
  rintro rfl
  rcases hc with rfl | hc
  · rw [hn] at e; cases e
  · rw [hn] at hc; cases hc
end
end L2
namespace L2
open PySem PySem.Spec PyProof.Rows
def HasItems (t:Bool) (h:Heap) (a:Addr) (items:Array Value):Prop:=if t=true then h.IsTuple a items else h.IsList a items
def IterAt (t:Bool) (h:Heap) (it a:Addr) (i:Nat):Prop:=if t=true then h.IsTupleIter it a i else h.IsListIter it a i
theorem HasItems.at {t:Bool} {h h':Heap} {a:Addr} {items:Array Value} (x:HasItems t h a items) (k:∀ o,h.get? a=some o->h'.get? a=some o):HasItems t h' a items:=by
  cases t
  · exact Heap.IsList.at x k
  · obtain ⟨o,e,r⟩:=x
    exact ⟨o,k o e,r⟩
theorem HasItems.there {t:Bool} {h:Heap} {a:Addr} {items:Array Value} (x:HasItems t h a items):∃ o,h.get? a=some o:=by
  cases t
  · obtain ⟨o,e,_⟩:=x; exact ⟨o,e⟩
  · obtain ⟨o,e,_⟩:=x; exact ⟨o,e⟩
theorem IterAt.at {t:Bool} {h h':Heap} {it a:Addr} {i:Nat} (x:IterAt t h it a i) (k:∀ o,h.get? it=some o->h'.get? it=some o):IterAt t h' it a i:=by
  cases t
  · exact Heap.IsListIter.at x k
  · obtain ⟨o,e,r⟩:=x
    exact ⟨o,k o e,r⟩
theorem IterAt.there {t:Bool} {h:Heap} {it a:Addr} {i:Nat} (x:IterAt t h it a i):∃ o,h.get? it=some o/\∀ v,o.data≠.cell v:=by
  cases t
  · obtain ⟨o,e,_,d⟩:=x; exact ⟨o,e,fun v z=>by rw [d] at z; cases z⟩
  · obtain ⟨o,e,_,d⟩:=x; exact ⟨o,e,fun v z=>by rw [d] at z; cases z⟩
section
variable {prog:Program} {w:World} {A:Around} {E:Value->Shared->Prop} {s:Shared}
theorem jf {it l:Addr} {i:Nat} {items} {x:Value} {Q:Value->Shared->Prop} (hit:s.heap.IsTupleIter it l i)
    (hl:s.heap.IsTuple l items) (hx:items[i]?=some x)
    (hQ:∀ h',h'.IsTupleIter it l (i + 1)->Heap.SameBut it s.heap h'->Q x { s with heap:=h' }) :
    wpAny (model prog w) A (Builtin.SmallTypes.nextOf (.ref it)) Q E s:=by
  obtain ⟨o,ho,hc,hd⟩:=id hit
  obtain ⟨ol,hol,_,nl,hdl⟩:=hl
  unfold Builtin.SmallTypes.nextOf
  refine wpAny_bind (wpAny_callSpecial?_slot (name:=Str.ofString "__next__") hit.typeIs F.slot_tuple_iterator_next
    (wpAny_call_entry F.slot_tuple_iterator_next hit.typeIs F.entry_tuple_iterator_next ?_ (F.args_tuple_iterator_next_1 _)))
  show wpAny _ _ (field (.ref it) 0 >>= _) _ _ s
  refine wpAny_bind (wpAny_field ho hd (x:=.ref l) rfl ?_)
  show wpAny _ _ (if (Value.ref l == Value.none)=true then _ else _) _ _ s
  rw [if_neg (show ¬ ((Value.ref l == Value.none)=true) from O9)]
  show wpAny _ _ (field (.ref it) 1 >>= _) _ _ s
  refine wpAny_bind (wpAny_field ho hd (x:=.int i 0) rfl ?_)
  show wpAny _ _ (seqItems? (.ref l) >>= _) _ _ s
  refine wpAny_bind (wpAny_seqItems hol hdl ?_)
  simp only [Int.toNat_natCast,hx]
  refine wpAny_bind (wpAny_setField ho hd (by simp) (wpAny_pure ⟨x,rfl,wpAny_pure (hQ _ ?_ (Heap.SameBut.update ..))⟩))
  exact ⟨_,Heap.get?_update_self _ ho (Obj.isFreed_of_fields (Obj.data_mapFields hd _)),(Obj.cls_mapFields ..).trans hc,by
    rw [Obj.data_mapFields hd]; simp [rawInt]⟩
theorem zf {it l:Addr} {i:Nat} {items} {Q:Value->Shared->Prop} (hh:A.handled=none)
    (hit:s.heap.IsTupleIter it l i) (hl:s.heap.IsTuple l items) (hx:items[i]?=none)
    (hE:∀ h' e,Heap.ExtBut it s.heap h'->(∃ o,h'.get? e=some o/\o.cls=.type "StopIteration")->E (.ref e) { s with heap:=h' }) :
    wpAny (model prog w) A (Builtin.SmallTypes.nextOf (.ref it)) Q E s:=by
  obtain ⟨o,ho,hc,hd⟩:=id hit
  obtain ⟨ol,hol,_,nl,hdl⟩:=hl
  unfold Builtin.SmallTypes.nextOf
  refine wpAny_bind (wpAny_callSpecial?_slot (name:=Str.ofString "__next__") hit.typeIs F.slot_tuple_iterator_next
    (wpAny_call_entry F.slot_tuple_iterator_next hit.typeIs F.entry_tuple_iterator_next ?_ (F.args_tuple_iterator_next_1 _)))
  show wpAny _ _ (field (.ref it) 0 >>= _) _ _ s
  refine wpAny_bind (wpAny_field ho hd (x:=.ref l) rfl ?_)
  show wpAny _ _ (if (Value.ref l == Value.none)=true then _ else _) _ _ s
  rw [if_neg (show ¬ ((Value.ref l == Value.none)=true) from O9)]
  show wpAny _ _ (field (.ref it) 1 >>= _) _ _ s
  refine wpAny_bind (wpAny_field ho hd (x:=.int i 0) rfl ?_)
  show wpAny _ _ (seqItems? (.ref l) >>= _) _ _ s
  refine wpAny_bind (wpAny_seqItems hol hdl ?_)
  simp only [Int.toNat_natCast,hx]
  refine wpAny_bind (wpAny_rule (wpAny_bind (wpAny_setField ho hd (by simp) ?_)))
  show wpAny _ _ (newExc (.type "StopIteration") [] >>= _) _ _ _
  refine wpAny_bind ?_
  simp only [newExc,newTuple]
  refine wpAny_bind (wpAny_newObj_type ?_ (by size_fits))
  refine wpAny_bind (m:=firstArgMember _ _) (wpAny_of_eq (a:=Value.none) (by first | rfl | (simp only [firstArgMember]; rfl)) ?_)
  refine wpAny_newObj_type ?_ (by size_fits)
  simp only [raiseNew]
  refine wpAny_bind (wpAny_handled ?_)
  first | rw [show A.in1.handled=none from hh] | rw [hh]
  refine wpAny_bind (wpAny_pure (wpAny_throw ?_))
  exact hE _ _ (((Heap.SameBut.update ..).extBut.push _).push _) ⟨_,D3 _ rfl,rfl⟩
theorem Xp {t:Bool} {it l:Addr} {i:Nat} {items:Array Value} {x:Value} {Q:Value->Shared->Prop} (hit:IterAt t s.heap it l i)
    (hl:HasItems t s.heap l items) (hx:items[i]?=some x)
    (hQ:∀ h',IterAt t h' it l (i + 1)->Heap.SameBut it s.heap h'->Q x { s with heap:=h' }) :
    wpAny (model prog w) A (Builtin.SmallTypes.nextOf (.ref it)) Q E s:=by
  cases t
  · exact wpAny_nextOf_list_item hit hl hx hQ
  · exact jf hit hl hx hQ
theorem Q10 {t:Bool} {it l:Addr} {i:Nat} {items:Array Value} {Q:Value->Shared->Prop} (hh:A.handled=none)
    (hit:IterAt t s.heap it l i) (hl:HasItems t s.heap l items) (hx:items[i]?=none)
    (hE:∀ h' e,Heap.ExtBut it s.heap h'->(∃ o,h'.get? e=some o/\o.cls=.type "StopIteration")->E (.ref e) { s with heap:=h' }) :
    wpAny (model prog w) A (Builtin.SmallTypes.nextOf (.ref it)) Q E s:=by
  cases t
  · exact wpAny_nextOf_list_end hh hit hl hx hE
  · exact zf hh hit hl hx hE
def Wj (t:Bool) (l:Addr):Obj:=if t=true then { cls:=.type "tuple_iterator",data:=.fields #[.ref l,.int 0 0] } else { cls:=.type "list_iterator",data:=.fields #[.ref l,.int 0 0] }
theorem Wy {t:Bool} {l:Addr} {items:Array Value} {Q:Value->Shared->Prop} (hl:HasItems t s.heap l items)
    (hQ:Q (.ref s.heap.objs.size) { s with heap:=s.heap.push (Wj t l) }):wpAny (model prog w) A (pyIter (.ref l)) Q E s:=by
  cases t
  · exact wpAny_pyIter_list hl hQ
  · exact wpAny_pyIter_tuple hl hQ
theorem qm {t:Bool} {h:Heap} {it l:Addr} (e:h.get? it=some (Wj t l)):IterAt t h it l 0:=by
  cases t
  · exact ⟨_,e,rfl,rfl⟩
  · exact ⟨_,e,rfl,rfl⟩
theorem X3 (t:Bool) (l:Addr):(Wj t l).isFreed=false:=by cases t <;> rfl
theorem zipG_item {t1 t2:Bool} {z TI TO i1 i2 l1 l2:Addr} {k1 k2:Nat} {xs ys:Array Value} {x y a b:Value} {Q:Value->Shared->Prop} (D:ZipApart z TI TO i1 i2 l1 l2)
    (hz:IsZip s.heap z TI TO .none) (hTI:IsPair s.heap TI (.ref i1) (.ref i2)) (hTO:IsPair s.heap TO a b)
    (h1:IterAt t1 s.heap i1 l1 k1) (h2:IterAt t2 s.heap i2 l2 k2) (hl1:HasItems t1 s.heap l1 xs) (hl2:HasItems t2 s.heap l2 ys) (hx:xs[k1]?=some x) (hy:ys[k2]?=some y)
    (hQ:∀ h',IsZip h' z TI TO (rawInt s.heap.objs.size)->IsPair h' TO x y->IterAt t1 h' i1 l1 (k1 + 1)->IterAt t2 h' i2 l2 (k2 + 1)->IsPair h' s.heap.objs.size x y->h'.objs.size=s.heap.objs.size + 1 ->
      (∀ c o,c≠z->c≠TO->c≠i1->c≠i2->s.heap.get? c=some o->h'.get? c=some o)->Q (.ref s.heap.objs.size) { s with heap:=h' }) :
    wpAny (model prog w) A (Builtin.«zip.__next__» ⟨[.ref z],[]⟩) (fun fin s'=>∃ v,fin=.done (.ret v)/\Q v s') E s:=by
  show wpAny _ _ (field (.ref z) 2 >>= _) _ _ _
  refine wpAny_bind (wpAny_field hz rfl (x:=.bool false) rfl ?_)
  show wpAny _ _ (field (.ref z) 3 >>= _) _ _ _
  refine wpAny_bind (wpAny_field hz rfl (x:=.ref TI) rfl ?_)
  refine wpAny_bind (wpAny_seqItems hTI rfl ?_)
  show wpAny _ _ (Builtin.SmallTypes.ownedTupleIsFree (.ref z) >>= _) _ _ _
  refine wpAny_bind ?_
  unfold Builtin.SmallTypes.ownedTupleIsFree
  refine wpAny_bind (wpAny_field hz rfl (x:=.none) rfl (wpAny_pure ?_))
  simp only [if_true]
  refine wpAny_bind (wpAny_rule ?_)
  refine wpAny_bind (wpAny_field hz rfl (x:=.ref TO) rfl ?_)
  refine wpAny_bind (wpAny_setField_rec hz (by simp) fun h₁ hz₁ hs₁=>?_)
  replace hz₁:IsZip h₁ z TI TO .ellipsis:=hz₁
  refine wpAny_bind ?_
  simp only [List.zipIdx_cons,List.zipIdx_nil,List.forIn_cons,List.forIn_nil]
  refine wpAny_bind (wpAny_bind (wpAny_onRaise ?_))
  show wpAny _ _ (Builtin.SmallTypes.nextOf (.ref i1) >>= _) _ _ _
  refine wpAny_bind (Xp (h1.at fun o e=>hs₁.extBut _ _ D.i1z e) (hl1.at fun o e=>hs₁.extBut _ _ D.l1z e) hx fun h₂ h1₂ hs₂=>wpAny_pure ?_)
  have hTO₂:IsPair h₂ TO a b:=hs₂.extBut _ _ D.TOi1 (hs₁.extBut _ _ D.TOz hTO)
  refine wpAny_bind (wpAny_seqItems hTO₂ rfl ?_)
  refine wpAny_bind (wpAny_updateSeq_pair hTO₂ fun h₃ hTO₃ hs₃=>?_)
  replace hTO₃:IsPair h₃ TO x b:=hTO₃
  refine wpAny_bind (wpAny_letGo (wpAny_pure ?_))
  refine wpAny_bind (wpAny_bind (wpAny_onRaise ?_))
  show wpAny _ _ (Builtin.SmallTypes.nextOf (.ref i2) >>= _) _ _ _
  refine wpAny_bind (Xp (h2.at fun o e=>hs₃.extBut _ _ D.TOi2.symm (hs₂.extBut _ _ D.i12.symm (hs₁.extBut _ _ D.i2z e)))
    (hl2.at fun o e=>hs₃.extBut _ _ D.l2TO (hs₂.extBut _ _ D.l2i1 (hs₁.extBut _ _ D.l2z e))) hy fun h₄ h2₄ hs₄=>wpAny_pure ?_)
  have hTO₄:IsPair h₄ TO x b:=hs₄.extBut _ _ D.TOi2 hTO₃
  refine wpAny_bind (wpAny_seqItems hTO₄ rfl ?_)
  refine wpAny_bind (wpAny_updateSeq_pair hTO₄ fun h₅ hTO₅ hs₅=>?_)
  replace hTO₅:IsPair h₅ TO x y:=hTO₅
  refine wpAny_bind (wpAny_letGo (wpAny_pure (wpAny_pure ?_)))
  refine wpAny_bind (wpAny_seqItems hTO₅ rfl ?_)
  refine wpAny_bind (wpAny_newTuple ?_)
  have hsz:h₅.objs.size=s.heap.objs.size:=by rw [hs₅.1,hs₄.1,hs₃.1,hs₂.1,hs₁.1]
  have hz₅:IsZip h₅ z TI TO .ellipsis:=hs₅.extBut _ _ D.TOz.symm (hs₄.extBut _ _ D.i2z.symm (hs₃.extBut _ _ D.TOz.symm (hs₂.extBut _ _ D.i1z.symm hz₁)))
  have hk₅:∀ c o,c≠z->c≠TO->c≠i1->c≠i2->s.heap.get? c=some o->h₅.get? c=some o:=fun c o c1 c2 c3 c4 e=>
    hs₅.extBut _ _ c2 (hs₄.extBut _ _ c4 (hs₃.extBut _ _ c2 (hs₂.extBut _ _ c3 (hs₁.extBut _ _ c1 e))))
  have h1₅:IterAt t1 h₅ i1 l1 (k1 + 1):=h1₂.at fun o e=>hs₅.extBut _ _ D.TOi1.symm (hs₄.extBut _ _ D.i12 (hs₃.extBut _ _ D.TOi1.symm e))
  have h2₅:IterAt t2 h₅ i2 l2 (k2 + 1):=h2₄.at fun o e=>hs₅.extBut _ _ D.TOi2.symm e
  have hzlt:z < h₅.objs.size:=O7 hz₅
  show wpAny _ _ (Builtin.SmallTypes.ownedTupleHandOut (.ref z) (.ref h₅.objs.size) >>= _) _ _ _
  refine wpAny_bind ?_
  unfold Builtin.SmallTypes.ownedTupleHandOut
  have hz₆:IsZip (h₅.push { cls:=.type "tuple",data:=.seq #[x,y] }) z TI TO .ellipsis:=O1 _ hz₅
  refine wpAny_bind (wpAny_setField_rec hz₆ (by simp) fun h₇ hz₇ hs₇=>?_)
  replace hz₇:IsZip h₇ z TI TO (rawInt h₅.objs.size):=hz₇
  refine wpAny_setField_rec hz₇ (by simp) fun h₈ hz₈ hs₈=>?_
  replace hz₈:IsZip h₈ z TI TO (rawInt h₅.objs.size):=hz₈
  have up:∀ c o,c≠z->h₅.get? c=some o->h₈.get? c=some o:=fun c o c1 e=>hs₈.extBut _ _ c1 (hs₇.extBut _ _ c1 (O1 _ e))
  have hT₈:IsPair h₈ h₅.objs.size x y:=hs₈.extBut _ _ (Nat.ne_of_gt hzlt) (hs₇.extBut _ _ (Nat.ne_of_gt hzlt) (D3 _ rfl))
  have hz8:h₈.objs.size=h₅.objs.size + 1:=by rw [hs₈.1,hs₇.1,F8]
  rw [hsz] at hz₈ hT₈ hz8
  refine wpAny_pure ⟨_,rfl,?_⟩
  show Q (.ref h₅.objs.size) _
  rw [hsz]
  exact hQ h₈ hz₈ (up _ _ D.TOz hTO₅) (h1₅.at fun o e=>up _ o D.i1z e) (h2₅.at fun o e=>up _ o D.i2z e) hT₈ hz8 fun c o c1 c2 c3 c4 e=>up c o c1 (hk₅ c o c1 c2 c3 c4 e)
theorem zipG_end {t1 t2:Bool} {z TI TO i1 i2 l1 l2:Addr} {k1 k2:Nat} {xs ys:Array Value} {a b:Value} {Q:Fin->Shared->Prop} (hh:A.handled=none) (D:ZipApart z TI TO i1 i2 l1 l2)
    (hz:IsZip s.heap z TI TO .none) (hTI:IsPair s.heap TI (.ref i1) (.ref i2)) (hTO:IsPair s.heap TO a b)
    (h1:IterAt t1 s.heap i1 l1 k1) (h2:IterAt t2 s.heap i2 l2 k2) (hl1:HasItems t1 s.heap l1 xs) (hl2:HasItems t2 s.heap l2 ys) (hend:xs[k1]?=none\/ys[k2]?=none)
    (hE:∀ h' e,(∀ c o,c≠z->c≠TO->c≠i1->c≠i2->s.heap.get? c=some o->h'.get? c=some o)->(∃ o,h'.get? e=some o/\o.cls=.type "StopIteration")->E (.ref e) { s with heap:=h' }) :
    wpAny (model prog w) A (Builtin.«zip.__next__» ⟨[.ref z],[]⟩) Q E s:=by
  show wpAny _ _ (field (.ref z) 2 >>= _) _ _ _
  refine wpAny_bind (wpAny_field hz rfl (x:=.bool false) rfl ?_)
  show wpAny _ _ (field (.ref z) 3 >>= _) _ _ _
  refine wpAny_bind (wpAny_field hz rfl (x:=.ref TI) rfl ?_)
  refine wpAny_bind (wpAny_seqItems hTI rfl ?_)
  show wpAny _ _ (Builtin.SmallTypes.ownedTupleIsFree (.ref z) >>= _) _ _ _
  refine wpAny_bind ?_
  unfold Builtin.SmallTypes.ownedTupleIsFree
  refine wpAny_bind (wpAny_field hz rfl (x:=.none) rfl (wpAny_pure ?_))
  simp only [if_true]
  refine wpAny_bind (wpAny_rule ?_)
  refine wpAny_bind (wpAny_field hz rfl (x:=.ref TO) rfl ?_)
  refine wpAny_bind (wpAny_setField_rec hz (by simp) fun h₁ hz₁ hs₁=>?_)
  replace hz₁:IsZip h₁ z TI TO .ellipsis:=hz₁
  refine wpAny_bind ?_
  simp only [List.zipIdx_cons,List.zipIdx_nil,List.forIn_cons,List.forIn_nil]
  refine wpAny_bind (wpAny_bind (wpAny_onRaise ?_))
  show wpAny _ _ (Builtin.SmallTypes.nextOf (.ref i1) >>= _) _ _ _
  cases hx:xs[k1]? with
  | none=>
    refine wpAny_bind (Q10 hh (h1.at fun o e=>hs₁.extBut _ _ D.i1z e) (hl1.at fun o e=>hs₁.extBut _ _ D.l1z e) hx fun h₂ e hs₂ he=>?_)
    obtain ⟨oe,hoe,hce⟩:=he
    have hz₂:IsZip h₂ z TI TO .ellipsis:=hs₂ _ _ D.i1z.symm hz₁
    have hez:e≠z:=fun x=>by subst x; rw [hz₂] at hoe; cases hoe; simp at hce
    refine wpAny_setField_rec hz₂ (by simp) fun h₃ _ hs₃=>hE h₃ e (fun c o c1 _ c3 _ x=>hs₃.extBut _ _ c1 (hs₂ _ _ c3 (hs₁.extBut _ _ c1 x))) ⟨oe,hs₃.extBut _ _ hez hoe,hce⟩
  | some x=>
    have hy:ys[k2]?=none:=by rcases hend with h | h; rw [hx] at h; cases h; exact h
    refine wpAny_bind (Xp (h1.at fun o e=>hs₁.extBut _ _ D.i1z e) (hl1.at fun o e=>hs₁.extBut _ _ D.l1z e) hx fun h₂ h1₂ hs₂=>wpAny_pure ?_)
    have hTO₂:IsPair h₂ TO a b:=hs₂.extBut _ _ D.TOi1 (hs₁.extBut _ _ D.TOz hTO)
    refine wpAny_bind (wpAny_seqItems hTO₂ rfl ?_)
    refine wpAny_bind (wpAny_updateSeq_pair hTO₂ fun h₃ hTO₃ hs₃=>?_)
    refine wpAny_bind (wpAny_letGo (wpAny_pure ?_))
    refine wpAny_bind (wpAny_bind (wpAny_onRaise ?_))
    show wpAny _ _ (Builtin.SmallTypes.nextOf (.ref i2) >>= _) _ _ _
    refine wpAny_bind (Q10 hh (h2.at fun o e=>hs₃.extBut _ _ D.TOi2.symm (hs₂.extBut _ _ D.i12.symm (hs₁.extBut _ _ D.i2z e)))
      (hl2.at fun o e=>hs₃.extBut _ _ D.l2TO (hs₂.extBut _ _ D.l2i1 (hs₁.extBut _ _ D.l2z e))) hy fun h₄ e hs₄ he=>?_)
    obtain ⟨oe,hoe,hce⟩:=he
    have hz₄:IsZip h₄ z TI TO .ellipsis:=hs₄ _ _ D.i2z.symm (hs₃.extBut _ _ D.TOz.symm (hs₂.extBut _ _ D.i1z.symm hz₁))
    have hez:e≠z:=fun x=>by subst x; rw [hz₄] at hoe; cases hoe; simp at hce
    refine wpAny_setField_rec hz₄ (by simp) fun h₅ _ hs₅=>hE h₅ e (fun c o c1 c2 c3 c4 x=>hs₅.extBut _ _ c1 (hs₄ _ _ c4 (hs₃.extBut _ _ c2 (hs₂.extBut _ _ c3 (hs₁.extBut _ _ c1 x))))) ⟨oe,hs₅.extBut _ _ hez hoe,hce⟩
theorem Q0z {t1 t2:Bool} {z TI TO i1 i2 l1 l2:Addr} {k1 k2:Nat} {xs ys:Array Value} {x y a b:Value} {Q:Option Value->Shared->Prop} (D:ZipApart z TI TO i1 i2 l1 l2)
    (hz:IsZip s.heap z TI TO .none) (hTI:IsPair s.heap TI (.ref i1) (.ref i2)) (hTO:IsPair s.heap TO a b)
    (h1:IterAt t1 s.heap i1 l1 k1) (h2:IterAt t2 s.heap i2 l2 k2) (hl1:HasItems t1 s.heap l1 xs) (hl2:HasItems t2 s.heap l2 ys) (hx:xs[k1]?=some x) (hy:ys[k2]?=some y)
    (hQ:∀ h',IsZip h' z TI TO (rawInt s.heap.objs.size)->IsPair h' TO x y->IterAt t1 h' i1 l1 (k1 + 1)->IterAt t2 h' i2 l2 (k2 + 1)->IsPair h' s.heap.objs.size x y->h'.objs.size=s.heap.objs.size + 1 ->
      (∀ c o,c≠z->c≠TO->c≠i1->c≠i2->s.heap.get? c=some o->h'.get? c=some o)->Q (some (.ref s.heap.objs.size)) { s with heap:=h' }) :
    wpAny (model prog w) A (pyNext (.ref z)) Q E s:=by
  have hT:s.TypeIs (.ref z) "zip" := ⟨_,hz,rfl⟩
  unfold pyNext
  exact wpAny_bind (wpAny_attempt (wpAny_callSpecial?_slot (name:=Str.ofString "__next__") hT F.slot_zip_next
    (wpAny_call_entry F.slot_zip_next hT F.entry_zip_next
      (zipG_item D hz hTI hTO h1 h2 hl1 hl2 hx hy fun h' a1 a2 a3 a4 a5 a6 a7=>wpAny_pure (hQ h' a1 a2 a3 a4 a5 a6 a7)) (F.args_zip_next_1 _))))
theorem Q20 {t1 t2:Bool} {z TI TO i1 i2 l1 l2:Addr} {k1 k2:Nat} {xs ys:Array Value} {a b:Value} {Q:Option Value->Shared->Prop} (hh:A.handled=none) (D:ZipApart z TI TO i1 i2 l1 l2)
    (hz:IsZip s.heap z TI TO .none) (hTI:IsPair s.heap TI (.ref i1) (.ref i2)) (hTO:IsPair s.heap TO a b)
    (h1:IterAt t1 s.heap i1 l1 k1) (h2:IterAt t2 s.heap i2 l2 k2) (hl1:HasItems t1 s.heap l1 xs) (hl2:HasItems t2 s.heap l2 ys) (hend:xs[k1]?=none\/ys[k2]?=none)
    (hQ:∀ h',(∀ c o,c≠z->c≠TO->c≠i1->c≠i2->s.heap.get? c=some o->h'.get? c=some o)->Q none { s with heap:=h' }):wpAny (model prog w) A (pyNext (.ref z)) Q E s:=by
  have hT:s.TypeIs (.ref z) "zip" := ⟨_,hz,rfl⟩
  unfold pyNext
  refine wpAny_bind (wpAny_attempt (wpAny_callSpecial?_slot (name:=Str.ofString "__next__") hT F.slot_zip_next
    (wpAny_call_entry F.slot_zip_next hT F.entry_zip_next (zipG_end hh D hz hTI hTO h1 h2 hl1 hl2 hend fun h' e hk he=>?_) (F.args_zip_next_1 _))))
  obtain ⟨o,ho,hc⟩:=he
  refine wpAny_bind (wpAny_isInstance (T := "StopIteration") (b:=true) ⟨o,ho,hc⟩ isSubtype_stop ?_)
  exact wpAny_pure (hQ _ hk)
end
def zH1 (t1:Bool) (h:Heap) (l1:Addr):Heap:=h.push (Wj t1 l1)
def zH2 (t1 t2:Bool) (h:Heap) (l1 l2:Addr):Heap:=(zH1 t1 h l1).push (Wj t2 l2)
def zH3 (t1 t2:Bool) (h:Heap) (l1 l2:Addr):Heap:=(zH2 t1 t2 h l1 l2).push { cls:=.type "tuple",data:=.seq #[.ref h.objs.size,.ref (zH1 t1 h l1).objs.size] }
def zH4 (t1 t2:Bool) (h:Heap) (l1 l2:Addr):Heap:=(zH3 t1 t2 h l1 l2).push { cls:=.type "tuple",data:=.seq #[.none,.none] }
def zH5 (t1 t2:Bool) (h:Heap) (l1 l2:Addr):Heap:=(zH4 t1 t2 h l1 l2).push { cls:=.type "zip",data:=.fields #[.none,.bool false,.bool false,.ref (zH2 t1 t2 h l1 l2).objs.size,.ref (zH3 t1 t2 h l1 l2).objs.size] }
theorem Q11 (t1 t2:Bool) (l1 l2:Addr) (xs ys:Array Value) :
    Meets (Builtin.«zip.__new__» ⟨[.type "zip",.ref l1,.ref l2],[]⟩) (fun _ R s=>HasItems t1 s.heap l1 xs/\HasItems t2 s.heap l2 ys /\
      R (.ok (.ret (.ref (zH4 t1 t2 s.heap l1 l2).objs.size))) { s with heap:=zH5 t1 t2 s.heap l1 l2 }):=
  .of_wp fun prog w A R s h=>by
    obtain ⟨hp,g,d,tk,os⟩:=s; obtain ⟨hl1,hl2,h⟩:=h
    have hsub:=sub_zip
    have hL1:HasItems t1 (Shared.heap ⟨hp,g,d,tk,os⟩) l1 xs:=hl1
    have hL2:HasItems t2 (Shared.heap ⟨hp.push (Wj t1 l1),g,d,tk,os⟩) l2 ys:=hl2.at fun o e=>O1 _ e
    wp_walk using Wy hL1,Wy hL2
    exact ⟨_,rfl,h⟩
section
variable {prog:Program} {w:World} {A:Around} {E:Value->Shared->Prop} {s:Shared}
theorem call_zipG {t1 t2:Bool} {l1 l2:Addr} {xs ys:Array Value} {Q:Value->Shared->Prop} (hl1:HasItems t1 s.heap l1 xs) (hl2:HasItems t2 s.heap l2 ys)
    (h:∀ h',IsZip h' (s.heap.objs.size + 4) (s.heap.objs.size + 2) (s.heap.objs.size + 3) .none->IsPair h' (s.heap.objs.size + 2) (.ref s.heap.objs.size) (.ref (s.heap.objs.size + 1)) ->
      IsPair h' (s.heap.objs.size + 3) .none .none->IterAt t1 h' s.heap.objs.size l1 0->IterAt t2 h' (s.heap.objs.size + 1) l2 0->h'.objs.size=s.heap.objs.size + 5 ->
      (∀ c o,s.heap.get? c=some o->h'.get? c=some o)->Q (.ref (s.heap.objs.size + 4)) { s with heap:=h' }) :
    wpAny (model prog w) A (call (.type "zip") [.ref l1,.ref l2]) Q E s:=by
  refine callType_new F.called_zip (by decide) (F.typeCall_zip_2 _ _) (F.newCall_zip_2 _ _) (fun obj=>F.args_object_init_3 obj _ _) F.entry_zip_new
    (Q11 t1 t2 l1 l2 xs ys) ⟨hl1,hl2,?_⟩
  have z1:(zH1 t1 s.heap l1).objs.size=s.heap.objs.size + 1:=F8 ..
  have z2:(zH2 t1 t2 s.heap l1 l2).objs.size=s.heap.objs.size + 2:=by unfold zH2; rw [F8,z1]
  have z3:(zH3 t1 t2 s.heap l1 l2).objs.size=s.heap.objs.size + 3:=by unfold zH3; rw [F8,z2]
  have z4:(zH4 t1 t2 s.heap l1 l2).objs.size=s.heap.objs.size + 4:=by unfold zH4; rw [F8,z3]
  have z5:(zH5 t1 t2 s.heap l1 l2).objs.size=s.heap.objs.size + 5:=by unfold zH5; rw [F8,z4]
  have g5:(zH5 t1 t2 s.heap l1 l2).get? (zH4 t1 t2 s.heap l1 l2).objs.size=some { cls:=.type "zip",data:=.fields #[.none,.bool false,.bool false,.ref (zH2 t1 t2 s.heap l1 l2).objs.size,.ref (zH3 t1 t2 s.heap l1 l2).objs.size] }:=D3 _ rfl
  have g4:(zH5 t1 t2 s.heap l1 l2).get? (zH3 t1 t2 s.heap l1 l2).objs.size=some { cls:=.type "tuple",data:=.seq #[.none,.none] }:=O1 _ (D3 _ rfl)
  have g3:(zH5 t1 t2 s.heap l1 l2).get? (zH2 t1 t2 s.heap l1 l2).objs.size=some { cls:=.type "tuple",data:=.seq #[.ref s.heap.objs.size,.ref (zH1 t1 s.heap l1).objs.size] }:=O1 _ (O1 _ (D3 _ rfl))
  have g2:(zH5 t1 t2 s.heap l1 l2).get? (zH1 t1 s.heap l1).objs.size=some (Wj t2 l2):=O1 _ (O1 _ (O1 _ (D3 _ (X3 _ _))))
  have g1:(zH5 t1 t2 s.heap l1 l2).get? s.heap.objs.size=some (Wj t1 l1):=O1 _ (O1 _ (O1 _ (O1 _ (D3 _ (X3 _ _)))))
  show _/\_
  rw [z2,z3,z4] at g5
  rw [z1,z2] at g3
  rw [z3] at g4
  rw [z1] at g2
  rw [z4]
  exact ⟨⟨_,g5,rfl⟩,h _ g5 g3 g4 (qm g1) (qm g2) z5 fun c o x=>
    O1 _ (O1 _ (O1 _ (O1 _ (O1 _ x))))⟩
end
def SqK (K:PySem.W.Frag) (t:Bool) (H:Hp) (a:Addr) (xs:List V):Prop:=if t=true then SqT K H a xs else SqL K H a xs
section
variable {X:Cx} {pins:List (Addr × Obj)} {σ:St} {H:Hp} {s:Shared}
theorem Inv.seqK {t:Bool} {a:Addr} {xs:List V} (I:Inv X pins σ H s) (h:SqK X.K t H a xs):∃ its:List Value,Vals xs its/\HasItems t s.heap a its.toArray/\xs.length<=sizeLine:=by
  cases t
  · obtain ⟨its,r,p,z⟩:=I.list h
    exact ⟨its,r,p.isList,z⟩
  · obtain ⟨its,r,p,z⟩:=I.tuple h
    exact ⟨its,r,p,z⟩
theorem Inv.seqK_inj {t:Bool} {a:Addr} {xs ys:List V} (I:Inv X pins σ H s) (h:SqK X.K t H a xs) (h':SqK X.K t H a ys):xs=ys:=by
  cases t
  · exact I.list_inj h h'
  · exact I.tuple_inj h h'
theorem Inv.turnedL {t':Nat} {its:List Addr} {h':Heap} (I:Inv X pins σ H s) (k:∀ b o,b∉its->s.heap.get? b=some o->h'.get? b=some o) (hf:∀ b∈its,Q1q X pins H b):Inv X pins σ H { s with heap:=h',toks:=t' }:=by
  have nit:∀ b u,H b=some u->b∉its:=fun b u e z=>by rw [(hf b z).1] at e; cases e
  refine I.step (g':=s.gens) (d':=s.drawn) (ch:=its) (fun b hb=>?_) (fun b o _ _ hc e _=>k b o hc e) (fun b o _ _ hc e _=>⟨o.slots,k b o hc e⟩) (fun _ _ _ _ n=>n)
    (fun b o hc e=>⟨o,k b o hc e⟩) (fun _ _ e=>e) (fun _ _ _ e=>e) (fun b ps e=>⟨#[],by rw [e]; simp⟩) (fun m hm=>?_) (fun b u e=>?_) I.bare
  · obtain ⟨f0,f1,f2,f3,f4,f5⟩:=hf b hb
    exact ⟨f3,f1,f4,f5⟩
  · obtain ⟨o,es,ep,ho,r⟩:=hm
    exact ⟨o,es,ep,k _ o (fun z=>(hf _ z).2.1 rfl) ho,r⟩
  · refine (I.hok b u e).stay (fun c v hc q=>k c v ?_ q) (fun _ q=>q) fun _ _ q=>q
    rcases hc with z | z
    · rw [z]; exact nit b u e
    · exact nit c _ z
end
def Itz (K:PySem.W.Frag) (t1 t2:Bool) (a b:Addr):It:=
  ⟨fun i H=>∃ xs ys x y,SqK K t1 H a xs/\SqK K t2 H b ys/\xs[i]?=some x/\ys[i]?=some y,
   fun i H v H'=>∃ p x y,H p=none/\v=.ref p/\H'=upd H p (.tup [x,y])/\∀ xs ys,SqK K t1 H a xs->SqK K t2 H b ys->xs[i]?=some x/\ys[i]?=some y,
   fun i H=>∃ xs ys,SqK K t1 H a xs/\SqK K t2 H b ys/\(xs.length<=i\/ys.length<=i)⟩
def zipSt (t1 t2:Bool) (z TI TO i1 i2 a b:Addr) (i:Nat) (h:Heap):Prop:=
  IsZip h z TI TO .none/\IsPair h TI (.ref i1) (.ref i2)/\(∃ u v,IsPair h TO u v)/\IterAt t1 h i1 a i/\IterAt t2 h i2 b i
theorem Q2j {a b:Value}:∀ v,({ cls:=.type "tuple",data:=.seq #[a,b] }:Obj).data≠.cell v:=fun v z=>by cases z
theorem turn_zip {P:Program} {w:World} {K:PySem.W.Frag} {elts:List Expr} {k:Nat} {pos:Pos} {t1 t2:Bool} {z TI TO i1 i2 a b:Addr} (D:ZipApart z TI TO i1 i2 a b) :
    Turn P w K (.Tuple elts k pos) (Itz K t1 t2 a b) [z,TI,TO,i1,i2] z (zipSt t1 t2 z TI TO i1 i2 a b) where
  mem:=by simp
  obj:=fun i h st c hc=>by
    obtain ⟨hz,hTI,⟨u,v,hTO⟩,h1,h2⟩:=st
    simp at hc
    rcases hc with rfl | rfl | rfl | rfl | rfl
    · exact ⟨_,hz,fun v q=>by cases q⟩
    · exact ⟨_,hTI,Q2j⟩
    · exact ⟨_,hTO,Q2j⟩
    · exact h1.there
    · exact h2.there
  keep:=fun i h h' st kk=>by
    obtain ⟨hz,hTI,⟨u,v,hTO⟩,h1,h2⟩:=st
    exact ⟨kk z (by simp) _ hz,kk TI (by simp) _ hTI,⟨u,v,kk TO (by simp) _ hTO⟩,h1.at fun o e=>kk i1 (by simp) o e,h2.at fun o e=>kk i2 (by simp) o e⟩
  item:=by
    intro X hP hw hK hc i pins s σ H E I hf st hg
    subst hP hw hK
    obtain ⟨xs,ys,x,y,hq1,hq2,hx,hy⟩:=hg
    obtain ⟨hz,hTI,⟨u,v,hTO⟩,h1,h2⟩:=st
    obtain ⟨its,rv,p,_⟩:=I.seqK hq1
    obtain ⟨its2,rv2,p2,_⟩:=I.seqK hq2
    obtain ⟨ux,hux,rux⟩:=rv.get hx
    obtain ⟨uy,huy,ruy⟩:=rv2.get hy
    refine Q0z D hz hTI hTO h1 h2 p p2 (x:=ux) (y:=uy) (by simpa using hux) (by simpa using huy) fun h' a1 a2 a3 a4 a5 a6 a7=>⟨_,rfl,?_⟩
    refine wpAny_letOwnedTupleGo_zip (s:={ s with heap:=h' }) a1 fun h'' b1 b2=>?_
    have hfr:H s.heap.objs.size=none:=I.fresh
    have zlt:z < s.heap.objs.size:=O7 hz
    have TIlt:TI < s.heap.objs.size:=O7 hTI
    have TOlt:TO < s.heap.objs.size:=O7 hTO
    have i1lt:i1 < s.heap.objs.size:=by obtain ⟨o,e,_⟩:=h1.there; exact O7 e
    have i2lt:i2 < s.heap.objs.size:=by obtain ⟨o,e,_⟩:=h2.there; exact O7 e
    have I1:Inv X pins σ H { s with heap:=h'' }:=I.turnedL (t':=s.toks) (its:=[z,TO,i1,i2]) (fun c o hc e=>(b2.2 c (fun q=>hc (by simp [q]))).trans (a7 c o (fun q=>hc (by simp [q])) (fun q=>hc (by simp [q])) (fun q=>hc (by simp [q])) (fun q=>hc (by simp [q])) e))
      fun c hc=>hf c (by simp at hc ⊢; rcases hc with rfl | rfl | rfl | rfl <;> simp)
    have tupAt:IsPair h'' s.heap.objs.size ux uy:=(b2.2 _ (Nat.ne_of_gt zlt)).trans a5
    have fsz:H s.heap.objs.size=none:=hfr
    have I2:Inv X pins σ (upd H s.heap.objs.size (.tup [x,y])) { s with heap:=h'' }:=by
      refine ⟨I1.ok,I1.os,I1.bare,?_,I1.loc,I1.cell,?_,?_,?_,?_,I1.len⟩
      · have u0:=I1.base
        have old:∀ c o,X.s₀.heap.get? c=some o->c≠s.heap.objs.size:=fun c o e=>D7 (D2 (O7 e) I.sz)
        exact ⟨u0.keep,u0.slot,fun c o e n hx=>by rw [Q7 (old c o e)]; exact u0.free c o e n hx,u0.there,
          fun c ts e=>by have:=u0.tups c ts e; rw [Q7 (Q9 this fsz)]; exact this,
          fun c o ts e=>by have:=u0.frzs c o ts e; rw [Q7 (Q9 this fsz)]; exact this,
          fun c ps e=>by obtain ⟨more,q⟩:=u0.tbls c ps e; exact ⟨more,by rw [Q7 (Q9 q fsz)]; exact q⟩⟩
      · rw [Q7 (D7 I.lt)]; exact I.free
      · intro x' c e
        obtain ⟨v',q⟩:=I.cell x' c e
        rw [Q7 (D7 q.lt)]; exact I.freeC x' c e
      · intro p' hp'
        obtain ⟨e,n,ne,nf,d⟩:=I1.pin p' hp'
        have e0:=(I.pin p' hp').1
        exact ⟨e,by rw [Q7 (D7 (O7 e0))]; exact n,ne,nf,d⟩
      · intro c o q
        by_cases hcs:c=s.heap.objs.size
        · subst hcs
          rw [Qb] at q; cases q
          exact ⟨by simp only [F1,List.length_nil]; rw [sizeLine_eq]; decide,[ux,uy],.cons rux (.cons ruy .nil),⟨_,tupAt,rfl,0,rfl⟩⟩
        · rw [Q7 hcs] at q
          exact (I1.hok c o q).stay (fun _ _ _ r=>r) (fun c' r=>by rw [Q7 (Q9 r fsz)]; exact r) fun c' ts r=>by rw [Q7 (Q9 r fsz)]; exact r
    refine ⟨.ref s.heap.objs.size,_,I2,rfl,⟨s.heap.objs.size,x,y,fsz,rfl,rfl,fun xs' ys' q1 q2=>?_⟩,?_,fun c hc=>?_⟩
    · rw [I.seqK_inj q1 hq1,I.seqK_inj q2 hq2]; exact ⟨hx,hy⟩
    · exact ⟨b1,b2.extBut _ _ D.TIz (a7 _ _ D.TIz D.TITO D.TIi1 D.TIi2 hTI),⟨_,_,b2.extBut _ _ D.TOz a2⟩,a3.at fun o e=>b2.extBut _ _ D.i1z e,a4.at fun o e=>b2.extBut _ _ D.i2z e⟩
    · have:=(hf c hc).1
      have clt:c < s.heap.objs.size:=by simp at hc; rcases hc with rfl | rfl | rfl | rfl | rfl <;> assumption
      rw [Q7 (D7 clt)]; exact this
  done:=by
    intro X hP hw hK hc i pins s σ H E I hf st hg
    subst hP hw hK
    obtain ⟨xs,ys,hq1,hq2,hend⟩:=hg
    obtain ⟨hz,hTI,⟨u,v,hTO⟩,h1,h2⟩:=st
    obtain ⟨its,rv,p,_⟩:=I.seqK hq1
    obtain ⟨its2,rv2,p2,_⟩:=I.seqK hq2
    have l1:=rv.length
    have l2:=rv2.length
    refine Q20 (I.ok.hd hc) D hz hTI hTO h1 h2 p p2 (hend.elim (fun h=>.inl (by simp; omega)) fun h=>.inr (by simp; omega)) fun h' kk=>⟨rfl,?_⟩
    exact I.turnedL (t':=s.toks) (its:=[z,TO,i1,i2]) (fun c o hc e=>kk c o (fun q=>hc (by simp [q])) (fun q=>hc (by simp [q])) (fun q=>hc (by simp [q])) (fun q=>hc (by simp [q])) e)
      fun c hc=>hf c (by simp at hc ⊢; rcases hc with rfl | rfl | rfl | rfl <;> simp)
  self:=fun _ _ _ _ _ st h=>wpAny_pyIter_zip st.1 h
section
variable {X:Cx}
def iZip (K:PySem.W.Frag) (t1 t2:Bool) (ta:TA):TI:=fun σ H R=>ta σ H fun vs H1=>∃ a b xs ys,vs=[.ref a,.ref b]/\SqK K t1 H1 a xs/\SqK K t2 H1 b ys/\R (Itz K t1 t2 a b) H1
theorem boot_zip:bootBuiltins "zip" = some (.type "zip"):=by decide +kernel
theorem pi_zip (t1 t2:Bool) {a b:Expr} {ta:TA} {p pos:Pos} {elts:List Expr} {k:Nat} {tp:Pos} (hg:Gl X "zip") (hm:X.mg "zip" = none) (ha:PA X [a,b] ta) (hs:starEach [a,b] X.env=[(false,eval a X.env),(false,eval b X.env)]:=by rfl) (hs2:starEach [b] X.env=[(false,eval b X.env)]:=by rfl) :
    PI X (.Tuple elts k tp) (.Call (.Name "zip" p) [a,b] [] pos) (iZip X.K t1 t2 ta):=by
  intro pins s σ H R I h
  refine Call_ (Xz I hg hm boot_zip (PyProof.Rows.callWith_type1 (thn (ha pos pins s σ H _ I h) fun us s1 ⟨vs,H1,I1,r1,q1⟩=>?_) (by rw [hs,hs2]) (by rw [hs2]; rfl)))
  obtain ⟨a',b',xs,ys,e,q1,q2,q⟩:=q1
  subst e
  cases r1 with
  | cons r rr=>
    cases rr with
    | cons r' rr=>
      cases rr
      cases r
      cases r'
      obtain ⟨its,rv,p1,_⟩:=I1.seqK q1
      obtain ⟨its2,rv2,p2,_⟩:=I1.seqK q2
      refine call_zipG p1 p2 fun h' z1 z2 z3 z4 z5 z6 z7=>?_
      refine wpAny_pyIter_zip (s:={ s1 with heap:=h' }) z1 ?_
      have lta:a' < s1.heap.objs.size:=by obtain ⟨o,e⟩:=p1.there; exact O7 e
      have ltb:b' < s1.heap.objs.size:=by obtain ⟨o,e⟩:=p2.there; exact O7 e
      have D:ZipApart (s1.heap.objs.size + 4) (s1.heap.objs.size + 2) (s1.heap.objs.size + 3) s1.heap.objs.size (s1.heap.objs.size + 1) a' b':=by
        constructor <;> (intro z; unfold Addr at *; omega)
      refine ⟨_,[s1.heap.objs.size + 4,s1.heap.objs.size + 2,s1.heap.objs.size + 3,s1.heap.objs.size,s1.heap.objs.size + 1],_,_,H1,rfl,I1.kept (t':=s1.toks) z7,turn_zip (t1:=t1) (t2:=t2) D,⟨z1,z2,⟨_,_,z3⟩,z4,z5⟩,fun c hc=>?_,q⟩
      have hc':s1.heap.objs.size<=c:=by simp at hc; unfold Addr at *; omega
      exact I1.fpOk hc' (I1.hok.fresh hc')
end
end L2
namespace L2
open PySem PySem.Spec PyProof.Rows
theorem walksK {prog:Program} {w:World} {A:Around} (hh:A.handled=none) (t:Bool) (I ax:Addr) (hne:ax≠I) (items:Array Value) :
    Walks prog w A I [I,ax] [I] items.size (fun i v=>items[i]?=some v) (fun i h=>IterAt t h I ax i/\HasItems t h ax items):=by
  cases t
  · exact Walks.list hh I ax hne items
  · exact Walks.tuple hh I ax hne items
theorem getD_at {α:Type} (l:List α) (d:α) {n:Nat} (h:n < l.length):l.getD n d=l[n]:=by simp [List.getD,h]
theorem preSum_list (ns:List Int):preSum (fun j=>ns.getD j 0) ns.length=ns.sum:=by
  have key:∀ (k:Nat),k<=ns.length->preSum (fun j=>ns.getD j 0) k=(ns.take k).sum:=by
    intro k
    induction k with
    | zero=>intro _; rfl
    | succ k ih=>
      intro hk
      show preSum _ k + ns.getD k 0=_
      have hlt:k < ns.length:=by omega
      rw [ih (by omega),List.take_succ,List.sum_append,getD_at _ _ hlt,O2 hlt]
      simp
  rw [key ns.length (O6 _),List.take_length]
section
variable {X:Cx} {pins:List (Addr × Obj)} {σ:St} {H:Hp} {s:Shared}
theorem Inv.movedNew {s':Shared} (I:Inv X pins σ H s) {o:Obj} (m:Moved [s.heap.objs.size] (fun a b=>b=a) { s with heap:=s.heap.push o } s'):Inv X pins σ H s':=by
  obtain ⟨m1,m2,m3,m4,m5⟩:=m
  obtain ⟨h',g',d',t',o'⟩:=s'
  have e1:g'=s.gens:=m2
  have e2:d'=s.drawn:=m3
  have e3:o'=s.os:=m4
  subst e1 e2 e3
  refine I.kept (t':=t') fun b u e=>m1 b u (fun z=>?_) (O1 _ e)
  have:b=s.heap.objs.size:=by simpa using z
  exact absurd (O7 e) (by rw [this]; exact Nat.lt_irrefl _)
theorem Q1c {ns:List Int} {its:List Value} (r:Vals (ns.map V.int) its):∀ (i:Nat) (v:Value),its.toArray[i]?=some v->∃ t,v=Value.int (ns.getD i 0) t:=fun i v e=>by
  have e':its[i]?=some v:=by simpa using e
  have hi:i < its.length:=(O0.mp e').1
  have hl:=r.length
  rw [O5] at hl
  have hn:(ns.map V.int)[i]?=some (V.int (ns.getD i 0)):=by
    have:i < ns.length:=by omega
    simp [List.getD,this]
  obtain ⟨u,hu,t,ru⟩:=r.get hn
  rw [e'] at hu
  cases hu
  exact ⟨t,ru⟩
theorem bools_get {bs:List Bool} {its:List Value} (r:Vals (bs.map V.bl) its):∀ (i:Nat) (v:Value),its.toArray[i]?=some v->v=Value.bool (bs.getD i false):=fun i v e=>by
  have e':its[i]?=some v:=by simpa using e
  have hi:i < its.length:=(O0.mp e').1
  have hl:=r.length
  rw [O5] at hl
  have hn:(bs.map V.bl)[i]?=some (V.bl (bs.getD i false)):=by
    have:i < bs.length:=by omega
    simp [List.getD,this]
  obtain ⟨u,hu,ru⟩:=r.get hn
  rw [e'] at hu
  cases hu
  exact ru
theorem Ve {t:Bool} {l:Addr} {items:Array Value} (hl:HasItems t s.heap l items):l≠s.heap.objs.size /\
    (IterAt t (s.heap.push (Wj t l)) s.heap.objs.size l 0/\HasItems t (s.heap.push (Wj t l)) l items)/\∀ b∈[s.heap.objs.size,l],b < (s.heap.push (Wj t l)).objs.size:=by
  obtain ⟨o,e⟩:=hl.there
  have hlt:=O7 e
  refine ⟨D7 hlt,⟨qm (D3 _ (X3 _ _)),hl.at fun o e=>O1 _ e⟩,fun b hb=>?_⟩
  rw [F8]
  simp at hb
  rcases hb with rfl | rfl
  · exact Nat.lt_succ_self _
  · exact Nat.lt_succ_of_lt hlt
end
section
variable {X:Cx}
theorem call_sum (t:Bool) (hc:X.calm=true):V8 X (.builtin "sum") (fun xs H Q=>∃ (a:Addr) (ns:List Int),xs=[.ref a]/\SqK X.K t H a (ns.map V.int)/\Q (.int ns.sum) H):=by
  intro pins s σ H xs us Q I r h
  obtain ⟨a,ns,rfl,hq,q⟩:=h
  obtain ⟨u,rfl,r1⟩:=Ks r
  cases r1
  obtain ⟨its,rv,p,_⟩:=I.seqK hq
  obtain ⟨w1,w2,w3⟩:=Ve p
  have hl:=rv.length
  rw [O5] at hl
  refine call_sum_walkAnyS (Wy p ⟨_,_,_,_,_,_,_,fun j=>ns.getD j 0,rfl,(walksK (A:=X.A.in1) (I.ok.hd hc) t _ a w1 its.toArray).toS,w2,w3,Q1c rv,fun s' t' m=>?_⟩)
  refine ⟨.int ns.sum,H,I.movedNew m,⟨t',?_⟩,q⟩
  rw [O4,<- hl,preSum_list]
theorem range_all (bs:List Bool):(List.range bs.length).all (fun i=>bs.getD i false)=bs.all id:=by
  induction bs with
  | nil=>rfl
  | cons b r ih=>
    rw [F1,List.range_succ_eq_map,List.all_cons,List.all_map,List.all_cons,<- ih]
    rfl
theorem range_any (bs:List Bool):(List.range bs.length).any (fun i=>bs.getD i false)=bs.any id:=by
  induction bs with
  | nil=>rfl
  | cons b r ih=>
    rw [F1,List.range_succ_eq_map,List.any_cons,List.any_map,List.any_cons,<- ih]
    rfl
theorem call_all (t:Bool) (hc:X.calm=true):V8 X (.builtin "all") (fun xs H Q=>∃ (a:Addr) (bs:List Bool),xs=[.ref a]/\SqK X.K t H a (bs.map V.bl)/\Q (.bl (bs.all id)) H):=by
  intro pins s σ H xs us Q I r h
  obtain ⟨a,bs,rfl,hq,q⟩:=h
  obtain ⟨u,rfl,r1⟩:=Ks r
  cases r1
  obtain ⟨its,rv,p,_⟩:=I.seqK hq
  obtain ⟨w1,w2,w3⟩:=Ve p
  have hl:=rv.length
  rw [O5] at hl
  refine call_all_walkS (Wy p ⟨_,_,_,_,_,_,_,fun j=>bs.getD j false,rfl,(walksK (A:=X.A.in1) (I.ok.hd hc) t _ a w1 its.toArray).toS,w2,fun i v s' Q' E' hv hQ=>?_,fun s' m=>?_⟩)
  · rw [bools_get rv i v hv]
    exact wpAny_truthy_bool hQ
  · refine ⟨.bl (bs.all id),H,I.movedNew m,?_,q⟩
    show Value.bool _=_
    rw [O4,<- hl,range_all]
theorem call_any (t:Bool) (hc:X.calm=true):V8 X (.builtin "any") (fun xs H Q=>∃ (a:Addr) (bs:List Bool),xs=[.ref a]/\SqK X.K t H a (bs.map V.bl)/\Q (.bl (bs.any id)) H):=by
  intro pins s σ H xs us Q I r h
  obtain ⟨a,bs,rfl,hq,q⟩:=h
  obtain ⟨u,rfl,r1⟩:=Ks r
  cases r1
  obtain ⟨its,rv,p,_⟩:=I.seqK hq
  obtain ⟨w1,w2,w3⟩:=Ve p
  have hl:=rv.length
  rw [O5] at hl
  refine call_any_walkS (Wy p ⟨_,_,_,_,_,_,_,fun j=>bs.getD j false,rfl,(walksK (A:=X.A.in1) (I.ok.hd hc) t _ a w1 its.toArray).toS,w2,fun i v s' Q' E' hv hQ=>?_,fun s' m=>?_⟩)
  · rw [bools_get rv i v hv]
    exact wpAny_truthy_bool hQ
  · refine ⟨.bl (bs.any id),H,I.movedNew m,?_,q⟩
    show Value.bool _=_
    rw [O4,<- hl,range_any]
theorem call_minL (t:Bool) (hc:X.calm=true):V8 X (.builtin "min") (fun xs H Q=>∃ (a:Addr) (ns:List Int),xs=[.ref a]/\SqK X.K t H a (ns.map V.int)/\ns≠[]/\∀ m,m∈ns->(∀ k,k∈ns->m<=k)->Q (.int m) H):=by
  intro pins s σ H xs us Q I r h
  obtain ⟨a,ns,rfl,hq,hne,q⟩:=h
  obtain ⟨u,rfl,r1⟩:=Ks r
  cases r1
  obtain ⟨its,rv,p,_⟩:=I.seqK hq
  obtain ⟨w1,w2,w3⟩:=Ve p
  have hl:=rv.length
  rw [O5] at hl
  have hpos:0 < ns.length:=List.length_pos_iff.mpr hne
  refine call_min_walkS (Wy p ⟨_,_,_,_,_,_,_,_,rfl,(walksK (A:=X.A.in1) (I.ok.hd hc) t _ a w1 its.toArray).toS,w2,w3,by rw [O4]; omega,CmpOf.ints_lt (fun j=>ns.getD j 0) (fun i v hv=>Q1c rv i v hv),fun v s' hv m=>?_⟩)
  obtain ⟨t',rfl⟩:=Q1c rv _ _ hv
  obtain ⟨h1,h2⟩:=argBest_lt (fun j=>ns.getD j 0) (its.toArray.size - 1)
  have hb:argBest (fun i j=>decide (ns.getD i 0 < ns.getD j 0)) (its.toArray.size - 1) < ns.length:=by
    have e':its.toArray.size=ns.length:=by rw [O4]; omega
    rw [e'] at h1 ⊢
    exact Nat.lt_of_le_of_lt h1 (by omega)
  refine ⟨.int (ns.getD (argBest (fun i j=>decide (ns.getD i 0 < ns.getD j 0)) (its.toArray.size - 1)) 0),H,I.movedNew m,⟨t',rfl⟩,q _ ?_ fun k hk=>?_⟩
  · rw [getD_at _ _ hb]
    exact List.getElem_mem hb
  · obtain ⟨j,hj,rfl⟩:=List.mem_iff_getElem.mp hk
    have:=h2 j (by rw [O4]; omega)
    rw [getD_at _ _ hj] at this
    exact this
end
section
variable {prog:Program} {w:World} {A:Around} {E:Value->Shared->Prop} {s:Shared}
end
theorem Inv.tracks {X:Cx} {pins:List (Addr × Obj)} {σ:St} {H:Hp} {s s1:Shared} {p:Addr} {xs:List V} {its:List Value} (I:Inv X pins σ H s) (I1:Inv X pins σ H s1) (hp:s.heap.objs.size<=p) (hn:H p=none) (rv:Vals xs its) (hz:xs.length<=sizeLine)
    (ht:IsTup s1.heap p its.toArray):Inv X pins σ (upd H p (.tup xs)) s1:=by
  refine ⟨I1.ok,I1.os,I1.bare,?_,I1.loc,I1.cell,?_,?_,?_,?_,I1.len⟩
  · have u0:=I1.base
    have old:∀ c o,X.s₀.heap.get? c=some o->c≠p:=fun c o e=>D7 (D2 (O7 e) (E2 I.sz hp))
    exact ⟨u0.keep,u0.slot,fun c o e n hx=>by rw [Q7 (old c o e)]; exact u0.free c o e n hx,u0.there,
      fun c ts e=>by have:=u0.tups c ts e; rw [Q7 (Q9 this hn)]; exact this,
      fun c o ts e=>by have:=u0.frzs c o ts e; rw [Q7 (Q9 this hn)]; exact this,
      fun c ps e=>by obtain ⟨more,q⟩:=u0.tbls c ps e; exact ⟨more,by rw [Q7 (Q9 q hn)]; exact q⟩⟩
  · rw [Q7 (D7 (D2 I.lt hp))]; exact I.free
  · intro x' c e
    obtain ⟨v',q⟩:=I.cell x' c e
    rw [Q7 (D7 (D2 q.lt hp))]; exact I.freeC x' c e
  · intro p' hp'
    obtain ⟨e,n,ne,nf,d⟩:=I1.pin p' hp'
    have e0:=(I.pin p' hp').1
    exact ⟨e,by rw [Q7 (D7 (D2 (O7 e0) hp))]; exact n,ne,nf,d⟩
  · intro c o q
    by_cases hcs:c=p
    · subst hcs
      rw [Qb] at q; cases q
      exact ⟨hz,its,rv,ht⟩
    · rw [Q7 hcs] at q
      exact (I1.hok c o q).stay (fun _ _ _ r=>r) (fun c' r=>by rw [Q7 (Q9 r hn)]; exact r) fun c' ts r=>by rw [Q7 (Q9 r hn)]; exact r
section
variable {X:Cx}
end
end L2
namespace L2
open PySem PySem.Spec PyProof.Rows
theorem same_new {H:Hp} {a:Addr} {o:HO} (h:H a=none):Same H (upd H a o):=fun b u e=>by rw [Q7 (Q9 e h)]; exact e
section
variable {K:PySem.W.Frag} {cap:List (Option Nat)} {te:TE} {σ:St} {H1:Hp} {Q:VK}
abbrev g2 (K:PySem.W.Frag):TG:=gTup K 2 (gCons (gName 0) (gCons (gName 1) gNil))
end
def clsV:V->Option Value
  | .ty n=>some (.type n)
  | .ref a=>some (.ref a)
  | _=>none
theorem clsV_rel {c:V} {cv u:Value} (e:clsV c=some cv) (r:RelV c u):u=cv:=by
  cases c with
  | ty n=>cases e; exact r
  | ref a=>cases e; exact r
  | _=>cases e
section
variable {X:Cx}
theorem call_isinst:V8 X (.builtin "isinstance") (fun xs H Q=>∃ x c cv t b,xs=[x,c]/\clsV c=some cv/\TyOf X.K H x t/\PySem.W.kitOne X.K t cv=some b/\Q (.bl b) H):=by
  intro pins s σ H xs us Q I r h
  obtain ⟨x,c,cv,t,b,rfl,hc,ty,e,q⟩:=h
  obtain ⟨u,w',rfl,r1,r2⟩:=vals2 r
  rw [clsV_rel hc r2]
  exact isinst_ok I r1 ty e fun tk=>⟨.bl b,H,I.tok tk,rfl,q⟩
theorem Qn:bootBuiltins "isinstance" = some (.builtin "isinstance"):=by decide +kernel
theorem boot_sum:bootBuiltins "sum" = some (.builtin "sum"):=by decide +kernel
theorem K3:bootBuiltins "all" = some (.builtin "all"):=by decide +kernel
theorem boot_any:bootBuiltins "any" = some (.builtin "any"):=by decide +kernel
theorem boot_min:bootBuiltins "min" = some (.builtin "min"):=by decide +kernel
theorem boot_tuple:bootBuiltins "tuple" = some (.type "tuple"):=by decide +kernel
theorem zx:bootBuiltins "list" = some (.type "list"):=by decide +kernel
theorem boot_int:bootBuiltins "int" = some (.type "int"):=by decide +kernel
theorem boot_bool:bootBuiltins "bool" = some (.type "bool"):=by decide +kernel
end
section
variable {X:Cx} (K:PySem.W.Frag)
end
end L2
namespace L2
open PySem PySem.Spec PyProof.Rows PySem.W PySem.Builtin.Getset_descriptor
structure XCls (K:Frag) (C:Addr):Prop where
  cls:(clsIn K C).isSome=true
  ga:findIn K (.ref C) "__getattribute__" = some (some (.builtin "BaseException.__getattribute__"))
  gt:findIn K (.ref C) "__getattr__" = some none
  cl:findIn K (.ref C) "__class__" = some (some (.builtin "object.__class__"))
  gs:specialIn K (.builtin "object.__class__") "__get__" = some (some (.builtin "getset_descriptor.__get__"))
  tk:takesIn K (.builtin "object.__class__")=some true
  ob:mroIn K C (.type "object")=some true
  be:mroIn K C (.type "BaseException")=some true
def IsX (x C:Addr) (h:Heap):Prop:=∃ ox,h.get? x=some ox/\ox.cls=.ref C
theorem IsX.type {M:Model} {h:Heap} {x C:Addr} (I:IsX x C h):Looks M h (typeOf (.ref x)) (.ref C):=by
  obtain ⟨ox,h1,h2⟩:=I
  exact h2 ▸ (Looks.ld h1).andThen .now
theorem xc_find {K:Frag} {M:Model} {h:Heap} {x C:Addr} (X:K.In h) (F:XCls K C):Looks M h (Builtin.ObjectAttr.find (.ref x) (.ref C) "__class__") (.bind (.builtin "getset_descriptor.__get__") (.builtin "object.__class__")):=by
  have L1:=looks_findIn (M:=M) X F.cl
  have L2:Looks M h (Builtin.ObjectAttr.getOf (some (.builtin "object.__class__"))) (some (.builtin "getset_descriptor.__get__")):=looks_specialIn X F.gs
  have L3:Looks M h (Builtin.ObjectAttr.dataDescriptor? (some (.builtin "object.__class__")) (some (.builtin "getset_descriptor.__get__"))) (some (.builtin "getset_descriptor.__get__",.builtin "object.__class__")):=(looks_takesIn X F.tk).andThen .now
  exact L1.andThen (L2.andThen (L3.andThen (Looks.tag .now)))
section
variable {prog:Program} {w:World} {A:Around} {E:Value->Shared->Prop} {h:Heap} {g:Array GenState} {d:Drawn} {t:Nat} {os:OsState} {K:Frag} {x C:Addr}
theorem xc_get {tp:Value} {R:Result->Shared->Prop} (X:K.In h) (F:XCls K C) (I:IsX x C h) (hq:R (.ok (.ret (.ref C))) ⟨h,g,d,t,os⟩):codeAny (model prog w) A (.call (.builtin "getset_descriptor.__get__") ⟨[.builtin "object.__class__",.ref x,tp],[]⟩) R ⟨h,g,d,t,os⟩:=by
  have L0:=I.type (M:=model prog w)
  have L1:=looks_mroIn (M:=model prog w) X F.ob
  refine codeAny_call_builtin KF.slot_gs.plain KF.entry_gs (KF.slot_gs.check _ _ _ _ _ _ _ _ KF.type_class (KF.args_gs _ _ _) ?_)
  unfold Builtin.«getset_descriptor.__get__» descrGet
  rw [dga_obj]
  refine wpAny_bind (wpAny_pure ?_)
  unfold descrGetter descrCheckInstance descrNameAndClass isInstance
  simp only [KF.owner_class]
  repeat lk
  refine ⟨Code.quiet_builtin _ (by decide +kernel),codeAny_builtin KF.entry_class ?_⟩
  unfold Builtin.«object.__class__» shownTypeOf
  repeat lk
  exact hq
theorem xc_entry {tk:Tok} {Q:Fin->Shared->Prop} (X:K.In h) (F:XCls K C) (I:IsX x C h) (hq:Q (.done (.ret (.ref C))) ⟨h,g,d,t,os⟩) :
    wpAny (model prog w) A (Builtin.«object.__getattribute__» ⟨[.ref x,.str "__class__" tk],[]⟩) Q E ⟨h,g,d,t,os⟩:=by
  have L0:=I.type (M:=model prog w)
  have L1:=xc_find (M:=model prog w) (x:=x) X F
  unfold Builtin.«object.__getattribute__»
  refine wpAny_bind (wpAny_pure ?_)
  refine wpAny_bind (wpAny_pure ?_)
  refine wpAny_bind (L0.at (wpAny_bind (L1.at ?_)))
  show wpAny _ _ (Builtin.ObjectAttr.bindTo (.builtin "getset_descriptor.__get__") (.builtin "object.__class__") (.ref x) (.ref C)) _ _ _
  unfold Builtin.ObjectAttr.bindTo
  refine wpAny_bind (wpAny_holding (wpAny_call (xc_get X F I ?_)))
  exact wpAny_pure hq
theorem xc_check {M:Model} {nameV:Value} {Q:Unit->Shared->Prop} (X:K.In h) (F:XCls K C) (I:IsX x C h) (hq:Q () ⟨h,g,d,t,os⟩):wpAny M A (checkBuiltinCall "BaseException.__getattribute__" ⟨[.ref x,nameV],[]⟩) Q E ⟨h,g,d,t,os⟩:=by
  have hk:builtinKind "BaseException.__getattribute__" = some .slot:=by decide +kernel
  have hsplit:splitId "BaseException.__getattribute__" = some ("BaseException", "__getattribute__"):=by decide +kernel
  have LI:Looks M h (isInstance (.ref x) (.type "BaseException")) true:=(I.type).andThen (looks_mroIn X F.be)
  have ha:=PySem.F.args_bexc_ga (.ref x) nameV
  simp only [checkBuiltinCall,hk,hsplit]
  refine wpAny_bind (LI.at ?_)
  simp only [Bool.not_true,Bool.false_eq_true,if_false]
  exact wpAny_of_eq ha hq
theorem xc_call {tk:Tok} {R:Result->Shared->Prop} (X:K.In h) (F:XCls K C) (I:IsX x C h) (hq:R (.ok (.ret (.ref C))) ⟨h,g,d,t,os⟩) :
    codeAny (model prog w) A (.call (.builtin "BaseException.__getattribute__") ⟨[.ref x,.str "__class__" tk],[]⟩) R ⟨h,g,d,t,os⟩:=
  codeAny_call_builtin PySem.F.attr_ValueError.ga.plain PySem.F.entry_bexc_ga (xc_check X F I (xc_entry X F I hq))
theorem xc_by {tk:Tok} {Q:Value->Shared->Prop} (X:K.In h) (F:XCls K C) (I:IsX x C h) (hq:Q (.ref C) ⟨h,g,d,t,os⟩):wpAny (model prog w) A (getAttrBy (.ref x) (.str "__class__" tk) false) Q E ⟨h,g,d,t,os⟩:=by
  have L0:=I.type (M:=model prog w)
  have L1:=looks_findIn (M:=model prog w) X F.ga
  have L2:=looks_findIn (M:=model prog w) X F.gt
  have hx2:(Value.builtin "BaseException.__getattribute__" == Value.builtin "object.__getattribute__")=false:=by decide +kernel
  have hx1:(onTheHeap (Value.ref C) && Value.builtin "BaseException.__getattribute__" == Value.builtin "object.__getattribute__")=false:=by rw [hx2]; rfl
  have f3:=PySem.F.attr_ValueError.ga.bind (.ref x)
  unfold getAttrBy
  refine wpAny_holding (wpAny_bind (L0.at (wpAny_bind (L1.at ?_))))
  repeat (any_goals (first | assumption | with_reducible refine L2.at ?_ | wp_step))
  refine xc_call X F I ?_
  repeat (any_goals (first | assumption | wp_step))
theorem xc_attr {Q:Option Value->Shared->Prop} (X:K.In h) (F:XCls K C) (I:IsX x C h) (hq:Q (some (.ref C)) ⟨h,g,d,t + 1,os⟩):wpAny (model prog w) A (getAttr? (.ref x) "__class__") Q E ⟨h,g,d,t,os⟩:=by
  unfold getAttr? getAttrBy?
  repeat (any_goals (first | assumption | with_reducible apply xc_by X F I | wp_step))
end
theorem kitx_exc {K:Frag} {x C:Addr} (F:XCls K C):KitX K (.ref x) (.ref C) (IsX x C) where
  ty:=fun _ _ _ I=>I.type
  it:=fun _ _ X _=>by
    obtain ⟨cdD,hcD⟩:=Option.isSome_iff_exists.mp F.cls
    unfold clsIn at hcD
    split at hcD
    · rename_i c' d' cd' sl' ho
      intro A' Q' E' s' k q
      unfold isType loadHead
      exact wpAny_bind (wpAny_loadPart (k _ _ (X _ _ ho)) (wpAny_pure q))
    · cases hcD
  ne:=fun h tp dd its n sl X htp=>by
    obtain ⟨cdD,hcD⟩:=Option.isSome_iff_exists.mp F.cls
    refine Bool.eq_false_iff.mpr fun q=>?_
    have e:C=tp:=Value.ref.inj (beq_iff_eq.mp q)
    subst e
    unfold clsIn at hcD
    split at hcD
    · rename_i c' d' cd' sl' ho
      have z:=(X _ _ ho).symm.trans htp
      cases z
    · cases hcD
  ca:=fun {prog w A E Q s} X I k=>by
    obtain ⟨h,g,d,t,os⟩:=s
    exact xc_attr X F I k
end L2
namespace L2
open PySem PySem.Spec PyProof.Rows
theorem ObjOk.there {P:Program} {w:World} {H:Hp} {h:Heap} {a:Addr} {o:HO} (x:ObjOk P w H h a o):∃ u,h.get? a=some u:=by
  cases o with
  | lst xs=>obtain ⟨_,_,_,_,e⟩:=x; exact ⟨_,e⟩
  | tup xs=>obtain ⟨_,_,_,o,e,_⟩:=x; exact ⟨o,e⟩
  | dK kvs=>obtain ⟨_,_,_,_,o,_,_,e,_⟩:=x; exact ⟨o,e⟩
  | dT kvs=>obtain ⟨_,_,_,_,o,_,_,e,_⟩:=x; exact ⟨o,e⟩
  | set S n=>obtain ⟨o,_,_,_,e,_⟩:=x; exact ⟨o,e⟩
  | ins C dx fs=>obtain ⟨_,_,_,e,_⟩:=x; exact ⟨_,e⟩
  | own y=>exact x
  | xd fs=>obtain ⟨_,⟨o,_,_,e,_⟩,_⟩:=x; exact ⟨o,e⟩
  | rng lo hi=>obtain ⟨_,_,_,e⟩:=x; exact ⟨_,e⟩
  | frz ob u=>obtain ⟨e,_⟩:=x; exact ⟨_,e⟩
  | tbl ps=>exact ⟨_,x⟩
  | met f y=>exact ⟨_,x⟩
  | ext φ=>exact x.2.1
theorem HOk.none_of {P:Program} {w:World} {H:Hp} {h:Heap} {a:Addr} (x:HOk P w H h) (e:h.get? a=none):H a=none:=by
  cases q:H a with
  | none=>rfl
  | some o=>
    obtain ⟨u,z⟩:=(x a o q).there
    rw [e] at z
    cases z
structure Fly (P:Program) (w:World) (outer:List Env) (H H':Hp) (s s':Shared) (a:Addr) (cls a0:Value) (B:Heap):Prop where
  os:s'.os=s.os
  bare:AllBare s'.gens
  fl:Heap.FlyingW B outer a cls a0 s'.heap
  hokB:HOk P w H' B
  keep:∀ b o,s.heap.get? b=some o->H b=none->b∉frs outer->B.get? b=some o
  there:∀ b o,s.heap.get? b=some o->b∉frs outer->∃ o',B.get? b=some o'
  slot:∀ b o,s.heap.get? b=some o->b∈frs outer->∃ sl,s'.heap.get? b=some { o with slots:=sl }
  free:∀ b o,s.heap.get? b=some o->H b=none->H' b=none
  tups:∀ b xs,H b=some (.tup xs)->H' b=some (.tup xs)
  frzs:∀ b o u,H b=some (.frz o u)->H' b=some (.frz o u)
  tbls:∀ b ps,H b=some (.tbl ps)->∃ more,H' b=some (.tbl (ps ++ more))
section
variable {P:Program} {w:World} {K:PySem.W.Frag} {mg:Str->Option Value} {base:Heap} {N:List Str} {qual:Str} {scope:Scope} {f:Addr} {cd:Value} {A:Around} {outer:List Env} {s:Shared} {H:Hp} {E:XK}
end
abbrev bmVE:List Value:=[.type "ValueError",.type "Exception",.type "BaseException",.type "object"]
theorem own_obj {K:PySem.W.Frag} {h:Heap} {C:Addr} {bmB:List Value} {newId:String} {x:Str} {mg:Str->Option Value} (X:K.In h) (m:mg x=some (.ref C)) (q:PySem.W.excIn K C bmB newId=true):OwnCls x C bmB newId mg h:=by
  refine ⟨m,?_⟩
  unfold PySem.W.excIn at q
  split at q
  · rename_i dd cd sl ho
    split at q
    · rename_i C' bm k0 k1 k2 k3 n k5 hm hs
      simp only [Bool.and_eq_true,beq_iff_eq,Bool.not_eq_true'] at q
      obtain ⟨⟨⟨⟨⟨rfl,rfl⟩,hdel⟩,ht⟩,hok⟩,hni⟩:=q
      obtain ⟨nm,bs,mro,ns,qn,hd,sn,sub,ab,col,del⟩:=cd
      dsimp only at hm hdel hok hni
      subst hm hdel
      have hsl:sl=#[k0,k1,k2,k3,some (.builtin n),k5]:=by
        obtain ⟨l⟩:=sl
        simp only at hs
        rw [hs]
      subst hsl
      exact ⟨bm,ns,nm,qn,bs,hd,sn,sub,ab,col,dd,k0,k1,k2,k3,k5,_,X _ _ ho,.of_isNs (PySem.W.isNs_of_in X hok),PySem.W.nsMap_none_of_in X hok hni,PySem.W.tail_of_in X ht⟩
    · cases q
  · cases q
section
variable {X:Cx}
def tRaise (C:Addr) (E:XK) (t:TA):TS:=fun _ σ H=>t σ H fun vs H1=>vs.length<=sizeLine/\E (.ref C) none H1
end
end L2
namespace L2
open PySem PySem.Spec PyProof.Rows
def K6 (X:Cx) (a:Addr):Cx:={ X with A:=X.A.mark (some (.ref a)),calm:=false,xe:=fun _ _=>False }
section
variable {X:Cx} {pins:List (Addr × Obj)} {σ:St} {H H':Hp} {s s':Shared} {a C:Addr}
theorem Inv.suite (I:Inv X pins σ H s) (a:Addr):Inv (K6 X a) pins σ H s:=
  ⟨⟨I.ok.mod,I.ok.kind,I.ok.glob,I.ok.blt,I.ok.above,I.ok.inj,I.ok.has,I.ok.cab,fun h=>(by cases h),I.ok.frames,I.ok.stk,I.ok.exf,I.ok.bs,I.ok.bsz,I.ok.noex,I.ok.exfs,I.ok.funs,I.ok.frf⟩,I.os,I.bare,I.base,I.loc,I.cell,I.free,I.freeC,I.pin,I.hok,I.len⟩
theorem Inv.unsuite (ok:X.Ok) (I:Inv (K6 X a) pins σ H s):Inv X pins σ H s:=⟨ok,I.os,I.bare,I.base,I.loc,I.cell,I.free,I.freeC,I.pin,I.hok,I.len⟩
theorem Fly.inv {cls a0:Value} {B h5:Heap} (I:Inv X pins σ H s) (F:Fly X.prog X.w X.stack H H' s s' a cls a0 B) (kB:B.StaysIn h5) (sm:s'.heap.UpToSlots h5):Inv X pins σ H' { s' with heap:=h5 }:=by
  have sl:∀ b o,s.heap.get? b=some o->b∈frs X.stack->∃ sl,h5.get? b=some { o with slots:=sl }:=fun b o q hb=>by
    obtain ⟨sl,z⟩:=F.slot b o q hb
    obtain ⟨_,o',ho',hnf⟩:=I.stack.mem hb
    rw [q] at ho'
    cases ho'
    obtain ⟨sl',z'⟩:=sm b _ z hnf
    exact ⟨sl',z'⟩
  refine I.call' (s':={ s' with heap:=h5 }) (ch:=[]) F.os ⟨fun b o q n hb _=>kB _ _ (F.keep b o q n hb),fun b o q n hb _=>sl b o q hb,fun b o q n _=>F.free b o q n,fun b o q _=>?_,F.tups,F.frzs,F.tbls⟩ (F.hokB.kept kB) F.bare fun b z=>absurd z (by simp)
  by_cases hb:b∈frs X.stack
  · obtain ⟨sl,z⟩:=sl b o q hb
    exact ⟨_,z⟩
  · obtain ⟨o',z⟩:=F.there b o q hb
    exact ⟨o',kB _ _ z⟩
theorem Fly.new {cls a0:Value} {B:Heap} (F:Fly X.prog X.w X.stack H H' s s' a cls a0 B):s.heap.get? a=none/\H' a=none:=by
  have hB:B.get? a=none:=F.fl.2.1
  refine ⟨?_,F.hokB.none_of hB⟩
  cases q:s.heap.get? a with
  | none=>rfl
  | some o=>
    by_cases hb:a∈frs X.stack
    · obtain ⟨_,o',ho',hnf⟩:=F.fl.2.2.1.mem hb
      obtain ⟨oe,vs,he,_,hd,_⟩:=F.fl.first
      rw [ho'] at he
      cases he
      exact absurd hd (hnf vs)
    · obtain ⟨o',z⟩:=F.there a o q hb
      rw [hB] at z
      cases z
theorem Inv.track {s1:Shared} {φ:Heap->Prop} (I0:Inv X pins σ H s) (hex:∀ b,b∉X.ex) (h0:s.heap.get? a=none) (I:Inv X pins σ H' s1) (hn:H' a=none) (o:ObjOk X.prog X.w (upd H' a (.ext φ)) s1.heap a (.ext φ)):Inv X pins σ (upd H' a (.ext φ)) s1:=by
  have ne0:∀ b u,s.heap.get? b=some u->b≠a:=fun b u e z=>by rw [z,h0] at e; cases e
  have nes:∀ b u,X.s₀.heap.get? b=some u->b≠a:=fun b u e=>by
    obtain ⟨u',e'⟩:=I0.base.there b u e (hex b)
    exact ne0 b u' e'
  refine ⟨I.ok,I.os,I.bare,?_,I.loc,I.cell,?_,?_,?_,?_,I.len⟩
  · have u0:=I.base
    exact ⟨u0.keep,u0.slot,fun c o e n hx=>by rw [Q7 (nes c o e)]; exact u0.free c o e n hx,u0.there,
      fun c ts e=>by have:=u0.tups c ts e; rw [Q7 (Q9 this hn)]; exact this,
      fun c o ts e=>by have:=u0.frzs c o ts e; rw [Q7 (Q9 this hn)]; exact this,
      fun c ps e=>by obtain ⟨more,q⟩:=u0.tbls c ps e; exact ⟨more,by rw [Q7 (Q9 q hn)]; exact q⟩⟩
  · obtain ⟨m,⟨o,_,_,e,_⟩,_⟩:=I0.loc
    rw [Q7 (ne0 _ _ e)]; exact I.free
  · intro x c e
    obtain ⟨v,o,z,_⟩:=I0.cell x c e
    rw [Q7 (ne0 _ _ z)]; exact I.freeC x c e
  · intro p hp
    obtain ⟨e,n,ne,nf,d⟩:=I.pin p hp
    exact ⟨e,by rw [Q7 (ne0 _ _ (I0.pin p hp).1)]; exact n,ne,nf,d⟩
  · intro c u q
    by_cases hc:c=a
    · subst hc
      rw [Qb] at q; cases q
      exact o
    · rw [Q7 hc] at q
      exact (I.hok c u q).stay (fun _ _ _ r=>r) (fun c' r=>by rw [Q7 (Q9 r hn)]; exact r) fun c' ts r=>by rw [Q7 (Q9 r hn)]; exact r
theorem Inv.forget {i:Nat} {n:Str} {m:Str->Option Value} {h':Heap} {v:Option Value} {tk:Nat} (I:Inv X pins σ H s) (hN:X.N.Nodup) (hi:X.N[i]?=some n) (hl:∀ (i:Nat) (x:Str) (v:V),X.N[i]?=some x->σ[i]?=some (some v)->Vis X.env.scope x->∃ u,RelV v u/\Look X.env s.heap m x u)
    (hn':h'.Ns X.env.locals (fun x=>if x=n then v else m x)) (hs:Heap.SameBut X.env.locals s.heap h'):Inv X pins (σ.set i none) H { s with heap:=h',toks:=tk }:=by
  have cne:=I.cne
  have tracked:HOk X.prog X.w H h':=I.hok.same I.free hs
  have neL:∀ b o,X.s₀.heap.get? b=some o->b≠X.env.locals:=fun b o e=>D7 (D2 (O7 e) I.ok.above)
  refine ⟨I.ok,I.os,I.bare,⟨fun b o e n hb hx=>(hs.2 b (neL b o e)).trans (I.base.keep b o e n hb hx),fun b o e n hb hx=>?_,I.base.free,fun b o e hx=>?_,I.base.tups,I.base.frzs,I.base.tbls⟩,⟨_,hn',fun j y v' e1 e2 e3=>?_⟩,fun y c e=>?_,I.free,I.freeC,fun p hp=>?_,tracked,by simpa using I.len⟩
  · obtain ⟨sl,z⟩:=I.base.slot b o e n hb hx
    exact ⟨sl,(hs.2 b (neL b o e)).trans z⟩
  · obtain ⟨o',z⟩:=I.base.there b o e hx
    exact ⟨o',(hs.2 b (neL b o e)).trans z⟩
  · by_cases hj:j=i
    · subst hj
      rw [hi] at e1; cases e1
      have:j < σ.length:=by have:=(O0.mp e2).1; simpa using this
      rw [D9 this] at e2
      cases e2
    · rw [E3 (Ne.symm hj)] at e2
      obtain ⟨u,r,q⟩:=hl j y v' e1 e2 e3
      refine ⟨u,r,?_⟩
      rcases q with ⟨k,e⟩ | ⟨k,c,e,z⟩
      · refine .inl ⟨k,?_⟩
        have:y≠n:=fun e=>hj (Q0y hN e1 (e ▸ hi))
        simp [this,e]
      · exact .inr ⟨k,c,e,z.sameBut hs (cne y c e)⟩
  · obtain ⟨w',z⟩:=I.cell y c e
    exact ⟨w',z.sameBut hs (cne y c e)⟩
  · obtain ⟨e,n,ne,nf,d⟩:=I.pin p hp
    exact ⟨(hs.2 p.1 ne).trans e,n,ne,nf,d⟩
end
section
variable {X:Cx}
end
section
variable {X:Cx}
end
end L2
namespace L2
open PySem PySem.Spec PyProof.Rows
theorem xz (l:Addr) (items:Array Value) (n:Nat) (dd:Option Addr) (sl:Array (Option Value)) (t:Tok) :
    Meets (Builtin.«tuple.__mul__» ⟨[.ref l,.int 1 t],[]⟩) (fun _ R s=>s.heap.get? l=some { cls:=.type "tuple",dict:=dd,data:=.seq items n,slots:=sl }/\R (.ok (.ret (.ref l))) s):=
  .of_wp fun prog w A R s h=>by
    obtain ⟨hp,g,d,tk,os⟩:=s; obtain ⟨hl,h⟩:=h
    wp_walk using wpAny_loadPart' hl
    exact ⟨_,rfl,h⟩
theorem Q00 (l:Addr) (items:Array Value) (n:Nat) (dd:Option Addr) (sl:Array (Option Value)) (x:Int) (t:Tok) (h1:¬ (decide (x < -(2 ^ 63)) || decide (x>=2 ^ 63))=true) (h2:¬ (items.isEmpty || x == 1)=true) (h3:¬ (decide (x<=0) || items.isEmpty)=true) (h4:¬ (items.size:Int) * x > (2 ^ 63 - 1) / 8) (h5:¬ Builtin.Tuple.tupleTooMany ((items.size:Int) * x)=true)
    (h6:((List.replicate x.toNat items).foldl (fun x1 x2=>x1 ++ x2) #[]).size<=sizeLine) :
    Meets (Builtin.«tuple.__mul__» ⟨[.ref l,.int x t],[]⟩) (fun _ R s=>s.heap.get? l=some { cls:=.type "tuple",dict:=dd,data:=.seq items n,slots:=sl } /\
      R (.ok (.ret (Value.ref s.heap.objs.size))) { s with heap:=s.heap.push { cls:=Value.type "tuple",data:=Data.seq ((List.replicate x.toNat items).foldl (fun x1 x2=>x1 ++ x2) #[]) } }):=
  .of_wp fun prog w A R s h=>by
    obtain ⟨hp,g,d,tk,os⟩:=s; obtain ⟨hl,h⟩:=h
    wp_walk using wpAny_loadPart' hl
    refine wpAny_ite_false (decide_eq_false h1) ?_
    wp_walk using wpAny_loadPart' hl
    refine wpAny_ite_false (decide_eq_false h4) ?_
    wp_walk using wpAny_loadPart' hl
    all_goals first | exact ⟨_,rfl,h⟩ | (refine wpAny_ite_false (decide_eq_false h5) ?_; wp_walk) | skip
    all_goals first | exact ⟨_,rfl,h⟩ | (refine wpAny_ite_false (decide_eq_false (Nat.not_lt.mpr h6)) ?_; wp_walk; exact ⟨_,rfl,h⟩)
theorem Q1d (a:Int) (t:Tok) (l:Addr) (items:Array Value) (n:Nat) (dd:Option Addr) (sl:Array (Option Value)) :
    Meets (Builtin.«int.__rmul__» ⟨[.int a t,.ref l],[]⟩) (fun _ R s=>s.heap.get? l=some { cls:=.type "tuple",dict:=dd,data:=.seq items n,slots:=sl }/\R (.ok (.ret Value.notImplemented)) s):=
  .of_wp fun prog w A R s h=>by obtain ⟨hp,g,d,tk,os⟩:=s; obtain ⟨hl,h⟩:=h; wp_walk using wpAny_loadPart' hl; exact ⟨_,rfl,h⟩
theorem ze:fillsNumberSlot (.type "tuple") "mul" = pure false:=
  PySem.fillsNumberSlot_seq (id := "tuple.__mul__") (r:=some (.builtin "tuple.__rmul__")) F.slot_tuple_mul.lookup (by decide +kernel) F.slot_tuple_rmul.lookup (by decide +kernel)
theorem repeat_tuple:seqRepeat? (.type "tuple")=pure (some (.builtin "tuple.__mul__")):=by
  unfold seqRepeat?
  rw [PySem.seqSlot_of (T := "tuple") (name := "__mul__") (id := "tuple.__mul__") F.slot_tuple_mul.lookup (by decide +kernel),PySem.seqSlot_of (T := "tuple") (name := "__rmul__") (id := "tuple.__rmul__") F.slot_tuple_rmul.lookup (by decide +kernel)]
  rfl
section
variable {X:Cx}
def rRepT (K:PySem.W.Frag):R2:=fun x y H Q=>∃ a k xs,x=.ref a/\y=.int k/\SqT K H a xs/\xs≠[]/\1<=k/\xs.length * k.toNat<=4096 /\
  (k=1->Q (.ref a) H)/\(k≠1->∀ p,H p=none->Q (.ref p) (upd H p (.tup (List.replicate k.toNat xs).flatten)))
theorem op_repT:OpR X (binaryOp .Mult) (rRepT X.K):=by
  intro pins s σ H x y v u Q I rx ry h
  obtain ⟨a,k,xs,rfl,rfl,ha,hne,hk,hz,q1,q2⟩:=h
  cases rx
  obtain ⟨t,rfl⟩:=ry
  obtain ⟨its,r,p1,hs⟩:=I.tuple ha
  obtain ⟨⟨cls,dd,data,sl⟩,ho,hc,n,hd⟩:=id p1
  simp only at hc hd
  subst hc hd
  have hl:its.length=xs.length:=r.length.symm
  have hpos:0 < its.length:=by rw [hl]; exact List.length_pos_iff.mpr hne
  have hkz:k.toNat<=4096:=by
    have:1 * k.toNat<=xs.length * k.toNat:=Nat.mul_le_mul_right _ (by omega)
    omega
  refine wpAny_binaryOp_repeat_ref (T := "tuple") (U := "int") (by decide) ⟨_,ho,rfl⟩ (fun s'=>typeIs_int s' k t) ze F.fills_int_mul F.slot_int_rmul repeat_tuple F.slot_int_index.lookup
    (call_meets F.slot_int_rmul (typeIs_int s k t) F.entry_int_rmul (F.args_int_rmul_2 _ _) (Q1d k t a its.toArray n dd sl)
      ⟨ho,rfl,⟨_,ho,rfl⟩,?_⟩)
  by_cases h1:k=1
  · subst h1
    exact call_meets F.slot_tuple_mul ⟨_,ho,rfl⟩ F.entry_tuple_mul (F.args_tuple_mul_2 _ _) (xz a its.toArray n dd sl t) ⟨ho,⟨.ref a,H,I,rfl,q1 rfl⟩⟩
  · have f0:List.foldl (fun x1 x2=>x1 ++ x2) #[] (List.replicate k.toNat its.toArray)=(List.replicate k.toNat its).flatten.toArray:=by
      have:=zr its k.toNat []
      rw [List.nil_append] at this
      exact this
    have hlen:(its.toArray.size:Int) * k=((its.length * k.toNat:Nat):Int):=by
      rw [O4,Int.natCast_mul,Int.toNat_of_nonneg (by omega)]
    have hfl:(List.replicate k.toNat its).flatten.length<=4096:=by rw [len_rep,hl,Nat.mul_comm]; exact hz
    have hb:its.length * k.toNat<=4096:=by rw [hl]; exact hz
    refine call_meets F.slot_tuple_mul ⟨_,ho,rfl⟩ F.entry_tuple_mul (F.args_tuple_mul_2 _ _) (Q00 a its.toArray n dd sl k t ?_ ?_ ?_ ?_ ?_ ?_) ⟨ho,?_⟩
    · rw [decide_eq_false (by omega),decide_eq_false (by omega)]; exact O9
    · intro z
      rcases Bool.or_eq_true_iff.mp z with z | z
      · rw [List.isEmpty_toArray,List.isEmpty_iff] at z; rw [z] at hpos; simp at hpos
      · exact h1 (eq_of_beq z)
    · intro z
      rcases Bool.or_eq_true_iff.mp z with z | z
      · have:=of_decide_eq_true z; omega
      · rw [List.isEmpty_toArray,List.isEmpty_iff] at z; rw [z] at hpos; simp at hpos
    · rw [hlen]; omega
    · rw [hlen]
      have:(4096:Int)<=sizeLine:=by decide
      show ¬ decide (((its.length * k.toNat:Nat):Int) > (sizeLine:Int))=true
      rw [decide_eq_false (by omega)]; exact O9
    · rw [f0,O4]; exact E2 hfl (by decide)
    · rw [f0]
      refine ⟨.ref s.heap.objs.size,_,I.laid (t':=s.toks) (o:=.tup (List.replicate k.toNat xs).flatten) (fun b ob q=>O1 _ q) (O6 _) ?_,rfl,q2 h1 _ (I.hok.fresh (O6 _))⟩
      exact ⟨by rw [len_rep,Nat.mul_comm]; exact E2 hz (by decide),_,r.rep k.toNat,IsTup.new _ _⟩
end
section
variable {X:Cx} {pins:List (Addr × Obj)} {s:Shared} {σ:St} {H:Hp}
open PySem.SeqAt
theorem op_is_bl:OpR X (compareOp .Is) (fun x y H Q=>∃ b c,x=.bl b/\y=.bl c/\Q (.bl (b == c)) H):=by
  intro pins s σ H x y v u Q I rx ry h
  obtain ⟨b,c,rfl,rfl,q⟩:=h
  cases rx
  cases ry
  exact PyProof.Rows.is_bool ⟨.bl _,H,I,rfl,q⟩
theorem op_isnot_bl:OpR X (compareOp .IsNot) (fun x y H Q=>∃ b c,x=.bl b/\y=.bl c/\Q (.bl (b != c)) H):=by
  intro pins s σ H x y v u Q I rx ry h
  obtain ⟨b,c,rfl,rfl,q⟩:=h
  cases rx
  cases ry
  exact PyProof.Rows.isnot_bool ⟨.bl _,H,I,rfl,q⟩
end
end L2
namespace L2
open PySem PySem.Spec PyProof.Rows
end L2
namespace L2
open PySem PySem.Spec PyProof.Rows
section
variable {K:PySem.W.Frag} {cap:List (Option Nat)} {te:TE} {σ:St} {H1:Hp} {Q:VK}
end
structure JE (X:Cx) (e:Expr) (t:TE):Prop where out:PE X e t
structure JA (X:Cx) (es:List Expr) (t:TA):Prop where out:PA X es t
structure JS (X:Cx) (st:Stmt) (t:TS):Prop where out:PS X st t
structure JSs (X:Cx) (sts:List Stmt) (t:TS):Prop where out:PSs X sts t
section
variable {X:Cx} {pos:Pos}
theorem jok {sts:List Stmt} {R:TS->Prop} (h:∃ t,JSs X sts t/\R t):∃ t,PSs X sts t/\R t:=by
  obtain ⟨t,a,b⟩:=h
  exact ⟨t,a.out,b⟩
theorem Q1b:JA X [] tNil:=⟨Ju⟩
theorem Yb {e:Expr} {es:List Expr} {te:TE} {t:TA} (ha:JE X e te) (hr:JA X es t) (hs:starEach (e :: es) X.env=(false,eval e X.env) :: starEach es X.env:=by rfl):JA X (e :: es) (tCons te t):=⟨Qm ha.out hr.out hs⟩
theorem qk {es:List Expr} {t:TA} (h:JA X es t):JE X (.List es pos) (tLst t):=⟨pe_lst h.out⟩
theorem je_str {x:Str} {j:Nat}:JE X (.Constant (.str x) j pos) (tC (.str x)):=⟨pe_str⟩
theorem je_op {a b:Expr} {ta tb:TE} {op:Operator} {r:R2} (ho:OpR X (binaryOp op) r) (ha:JE X a ta) (hb:JE X b tb):JE X (.BinOp a op b pos) (tOp r ta tb):=⟨pe_op ho ha.out hb.out⟩
theorem je_ix {a b:Expr} {ta tb:TE} {r:R2} (hr:IxR X r) (ha:JE X a ta) (hb:JE X b tb) (hs:PlainIx b):JE X (.Subscript a b pos) (tOp r ta tb):=⟨pe_ix hr ha.out hb.out hs⟩
theorem jss_nil:JSs X [] tNext:=⟨pss_nil⟩
theorem Vy {st:Stmt} {rest:List Stmt} {t u:TS} (h1:JS X st t) (h2:JSs X rest u):JSs X (st :: rest) (tSeq t u):=⟨Xk h1.out h2.out⟩
theorem jss_one {st:Stmt} {t:TS} (h1:JS X st t):JSs X [st] t:=⟨jb h1.out⟩
theorem js_if {c:Expr} {a b:List Stmt} {tc:TT} {t u:TS} (hc:PT X c tc) (ha:JSs X a t) (hb:JSs X b u):JS X (.If c a b pos) (tIfS tc t u):=⟨ps_if hc ha.out hb.out⟩
theorem js_ret {e:Expr} {te:TE} (he:JE X e te):JS X (.Return (some e) pos) (tRet te):=⟨ps_ret he.out⟩
theorem zn {i:Nat} {x:Str} {e:Expr} {te:TE} {pos':Pos} (hN:X.N.Nodup) (hi:X.N[i]?=some x) (hx:Loc X.env.scope x) (he:JE X e te) (hs:swapsWith e (some (.Name x pos')) pos.line X.env=pure false:=by rfl) (hf:X.fn x=true\/X.env.scope.names.lookup x=some .local:=by first | exact .inl rfl | exact .inr rfl | assumption) :
    JS X (.Assign [.Name x pos'] e pos) (tAsg te (gName i)):=⟨ps_set hN hi hx he.out hs hf⟩
end
end L2
namespace L2
open PySem PySem.Spec PyProof.Rows
theorem Wm:∀ (names:List (Str × NameKind)) (h:Heap) (acc:List (Str × Addr)) (x:Str) (c:Addr),(cellsFrom h.objs.size names acc).lookup x=some c ->
    acc.lookup x=some c\/((x,NameKind.cell)∈names/\h.objs.size<=c/\(pushCells h names).IsCell c none)
  | [],_,_,_,_,e=>.inl e
  | (name,kind) :: r,h,acc,x,c,e=>by
    unfold cellsFrom at e
    unfold pushCells
    by_cases hk:(kind == NameKind.cell)=true
    · rw [if_pos hk] at e ⊢
      have hk':kind=.cell:=by simpa using hk
      have ih:=Wm r (h.push { cls:=.type "cell",data:=.cell none }) ((name,h.objs.size) :: acc) x c (by rw [F8]; exact e)
      rw [F8] at ih
      rcases ih with z | ⟨z1,z2,z3⟩
      · rw [List.lookup_cons] at z
        cases hb:x == name with
        | true=>
          rw [hb] at z; cases z
          exact .inr ⟨by rw [beq_iff_eq.mp hb,hk']; exact E4,O6 _,⟨_,pushCells_keeps _ _ _ _ (D3 _ rfl),rfl⟩⟩
        | false=>rw [hb] at z; exact .inl z
      · exact .inr ⟨D4 _ z1,by omega,z3⟩
    · rw [if_neg hk] at e ⊢
      rcases Wm r h acc x c e with z | ⟨z1,z2,z3⟩
      · exact .inl z
      · exact .inr ⟨D4 _ z1,z2,z3⟩
theorem V1 {x:Str}:∀ (names:List (Str × NameKind)) (n:Nat) (acc:List (Str × Addr)),(x,NameKind.cell)∉names->(cellsFrom n names acc).lookup x=acc.lookup x
  | [],_,_,_=>rfl
  | (name,kind) :: r,n,acc,h=>by
    unfold cellsFrom
    have hr:(x,NameKind.cell)∉r:=fun z=>h (D4 _ z)
    by_cases hk:(kind == NameKind.cell)=true
    · rw [if_pos hk,V1 r _ _ hr,List.lookup_cons]
      cases hb:x == name with
      | true=>exact absurd (by rw [beq_iff_eq.mp hb,show kind=.cell by simpa using hk]; exact E4) h
      | false=>rfl
    · rw [if_neg hk,V1 r _ _ hr]
theorem Ue {x:Str} {c:Addr}:∀ (names:List (Str × NameKind)) (n:Nat) (acc:List (Str × Addr)),(x,NameKind.cell)∈names->(cellsFrom n names acc).lookup x=some c->n<=c
  | [],_,_,h,_=>by cases h
  | (name,kind) :: r,n,acc,h,e=>by
    unfold cellsFrom at e
    by_cases hr:(x,NameKind.cell)∈r
    · by_cases hk:(kind == NameKind.cell)=true
      · rw [if_pos hk] at e
        exact Nat.le_of_succ_le (Ue r _ _ hr e)
      · rw [if_neg hk] at e
        exact Ue r _ _ hr e
    · rcases D6.mp h with q | q
      · cases q
        rw [if_pos (by decide),V1 r _ _ hr,List.lookup_cons] at e
        simp at e
        exact Nat.le_of_eq e
      · exact absurd q hr
theorem Uf:∀ (names:List (Str × NameKind)) (n:Nat) (acc:List (Str × Addr)),(∀ x c,acc.lookup x=some c->c < n)->(∀ x y c,acc.lookup x=some c->acc.lookup y=some c->x=y) ->
    ∀ x y c,(cellsFrom n names acc).lookup x=some c->(cellsFrom n names acc).lookup y=some c->x=y
  | [],_,_,_,h=>h
  | (name,kind) :: r,n,acc,h1,h2=>by
    unfold cellsFrom
    by_cases hk:(kind == NameKind.cell)=true
    · rw [if_pos hk]
      refine Uf r (n + 1) _ (fun x c e=>?_) (fun x y c e e'=>?_)
      · rw [List.lookup_cons] at e
        cases hb:x == name with
        | true=>rw [hb] at e; cases e; exact Nat.lt_succ_self _
        | false=>rw [hb] at e; exact Nat.lt_succ_of_lt (h1 x c e)
      · rw [List.lookup_cons] at e e'
        cases hb:x == name with
        | true=>
          rw [hb] at e; cases e
          cases hb':y == name with
          | true=>rw [beq_iff_eq.mp hb,beq_iff_eq.mp hb']
          | false=>rw [hb'] at e'; exact absurd (h1 y _ e') (Nat.lt_irrefl _)
        | false=>
          rw [hb] at e
          cases hb':y == name with
          | true=>rw [hb'] at e'; cases e'; exact absurd (h1 x _ e) (Nat.lt_irrefl _)
          | false=>rw [hb'] at e'; exact h2 x y c e e'
    · rw [if_neg hk]
      exact Uf r n acc h1 h2
theorem Q1r {M:Model} {A:Around} {E:Value->Shared->Prop} {s:Shared} {scope:Scope} {globals:Addr} {cl:List (Str × Addr)} {qual:Str} {func:Option Addr} {code:Value} {env:Env} {builtins:Addr} {Q:Env->Shared->Prop}
    (hQ:Q (newEnv scope s.heap.objs.size globals (cellsFrom (s.heap.objs.size + 1) scope.names cl) qual func code (some env) builtins) { s with heap:=pushCells (s.heap.push { cls:=.type "dict",data:=.dict #[] }) scope.names }) :
    wpAny M A (newFunctionEnv scope globals cl [] qual func code (some env) builtins) Q E s:=by
  simp only [newFunctionEnv,Option.isSome_some,if_true]
  refine wpAny_bind (wpAny_alloc ?_)
  refine wpAny_bind (wpAny_layCells _ (fun name kind cells=>by cases hkc:kind == NameKind.cell <;> simp [hkc]) _ _ _ _ ?_)
  rw [show ({ s with heap:=s.heap.push { cls:=.type "dict",data:=.dict #[] } }:Shared).heap.objs.size=s.heap.objs.size + 1 from F8 ..]
  refine wpAny_bind ?_
  rw [List.forIn_nil]
  exact wpAny_pure (wpAny_pure hQ)
def compOkC (N N':List Str) (sc scE:Scope) (cap:List (Option Nat)):Bool:=
  sc.kind == .function && sc.names.all (fun x=>x.2 != .cell || sc.names.lookup x.1 == some .cell) && sc.names.all (fun x=>x.2 != .local || sc.names.lookup x.1 == some .local) &&
  sc.names.all (fun x=>x.2 != .free || scE.names.lookup x.1 == some .cell || scE.names.lookup x.1 == some .free) && cap.length == N'.length &&
  (List.range cap.length).all (fun i=>match cap[i]? with
    | some (some j)=>(match N'[i]?,N[j]? with | some a,some b=>a == b && sc.names.lookup a == some .free | _,_=>false)
    | _=>true)
structure CompOkC (N N':List Str) (sc scE:Scope) (cap:List (Option Nat)):Prop where
  kind:sc.kind=.function
  cel:∀ x∈sc.names,x.2=.cell->sc.names.lookup x.1=some .cell
  loc:∀ x∈sc.names,x.2=.local->sc.names.lookup x.1=some .local
  fre:∀ x∈sc.names,x.2=.free->scE.names.lookup x.1=some .cell\/scE.names.lookup x.1=some .free
  len:cap.length=N'.length
  at_:∀ (i j:Nat),cap[i]?=some (some j)->∃ x,N'[i]?=some x/\N[j]?=some x/\sc.names.lookup x=some .free
theorem compOkC.of {N N':List Str} {sc scE:Scope} {cap:List (Option Nat)} (h:compOkC N N' sc scE cap=true):CompOkC N N' sc scE cap:=by
  unfold compOkC at h
  simp only [Bool.and_eq_true,F9,beq_iff_eq,Bool.or_eq_true,bne_iff_ne] at h
  obtain ⟨⟨⟨⟨⟨h1,h2⟩,h3⟩,h4⟩,h5⟩,h6⟩:=h
  refine ⟨h1,fun x hx e=>?_,fun x hx e=>?_,fun x hx e=>?_,h5,fun i j e=>?_⟩
  · rcases h2 x hx with z | z
    · exact absurd e z
    · exact z
  · rcases h3 x hx with z | z
    · exact absurd e z
    · exact z
  · rcases h4 x hx with (z | z) | z
    · exact absurd e z
    · exact .inl z
    · exact .inr z
  · have hi:i < cap.length:=(O0.mp e).1
    have:=h6 i (List.mem_range.mpr hi)
    rw [e] at this
    simp only at this
    cases e1:N'[i]? with
    | none=>rw [e1] at this; cases this
    | some a=>
      cases e2:N[j]? with
      | none=>rw [e1,e2] at this; cases this
      | some b=>
        rw [e1,e2] at this
        simp only [Bool.and_eq_true,beq_iff_eq] at this
        obtain ⟨rfl,z⟩:=this
        exact ⟨a,rfl,rfl,z⟩
def Va (X:Cx) (N':List Str) (sc:Scope) (cl:List (Str × Addr)) (C:Addr) (s0:Shared) (H0:Hp) (ex:List Addr):Cx:=
  { X with N:=N',s₀:=s0,H₀:=H0,env:=compEnvC sc cl C X.env,outer:=X.stack,ex:=ex,fn:=fun x=>sc.names.lookup x == some .cell,pn:=[],xe:=fun _ _=>False }
section
variable {X:Cx}
theorem blk_invC {pins:List (Addr × Obj)} {σ:St} {H:Hp} {s:Shared} {N N':List Str} {sc scE:Scope} {cap:List (Option Nat)} {cl:List (Str × Addr)} {fp:List Addr}
    (I:Inv X pins σ H s) (hN:X.N=N) (hE:X.env.scope=scE) (ck:CompOkC N N' sc scE cap) (c1:∀ x c,cl.lookup x=some c->X.env.cells.lookup x=some c) (c2:∀ x∈sc.names,x.2=.free->∃ c,cl.lookup x.1=some c)
    (hf:∀ b∈fp,Q1q X pins H b) (hfs:∀ b∈fp,b < s.heap.objs.size) :
    Inv (Va X N' sc (cellsFrom (s.heap.objs.size + 1) sc.names cl) s.heap.objs.size s H fp) [] (jq cap σ) H { s with heap:=pushCells (s.heap.push { cls:=.type "dict",data:=.dict #[] }) sc.names }:=by
  obtain ⟨h₁,hh₁⟩:∃ h₁,pushCells (s.heap.push { cls:=.type "dict",data:=.dict #[] }) sc.names=h₁:=⟨_,rfl⟩
  obtain ⟨cl',hcl'⟩:∃ cl',cellsFrom (s.heap.objs.size + 1) sc.names cl=cl':=⟨_,rfl⟩
  rw [hh₁,hcl']
  have keep:∀ b o,s.heap.get? b=some o->h₁.get? b=some o:=fun b o e=>by rw [<- hh₁]; exact pushCells_keeps _ _ b o (O1 _ e)
  have hns:h₁.Ns s.heap.objs.size (fun _=>none):=by rw [<- hh₁]; exact (Heap.Ns.new s.heap (.type "dict")).keeps (pushCells_keeps _ _)
  have look:∀ x c,cl'.lookup x=some c->cl.lookup x=some c\/(s.heap.objs.size + 1<=c/\h₁.IsCell c none):=fun x c e=>by
    rw [<- hcl'] at e
    have:=Wm (sc.names) (s.heap.push { cls:=.type "dict",data:=.dict #[] }) cl x c (by rw [F8]; exact e)
    rw [F8,hh₁] at this
    rcases this with z | ⟨_,z,z'⟩
    · exact .inl z
    · exact .inr ⟨z,z'⟩
  have cellLt:∀ x c,cl.lookup x=some c->c < s.heap.objs.size:=fun x c e=>by
    obtain ⟨v,o,ho,_⟩:=I.cell x c (c1 x c e)
    exact O7 ho
  have inj:∀ x y c,cl'.lookup x=some c->cl'.lookup y=some c->x=y:=by
    rw [<- hcl']
    exact Uf _ _ _ (fun x c e=>Nat.lt_succ_of_lt (cellLt x c e)) fun x y c a b=>I.ok.inj x y c (c1 x c a) (c1 y c b)
  have isC:∀ x,sc.names.lookup x=some .cell->∃ c,cl'.lookup x=some c:=fun x e=>by
    rw [<- hcl']
    exact Option.isSome_iff_exists.mp (PySem.W.cellsFrom_some _ _ _ (.inl e))
  have isF:∀ x,sc.names.lookup x=some .free->cl'.lookup x=cl.lookup x:=fun x e=>by
    rw [<- hcl']
    refine V1 _ _ _ fun z=>?_
    have:=ck.cel _ z rfl
    rw [e] at this; cases this
  have kindOf:∀ x k,(compEnvC sc cl' s.heap.objs.size X.env).kindOf x=some k->k=.cell\/k=.free->sc.names.lookup x=some .free\/sc.names.lookup x=some .cell:=fun x k e hk=>by
    have e':(relabel sc X.env).names.lookup x=some k:=e
    rw [Xj] at e'
    cases q:sc.names.lookup x with
    | none=>rw [q] at e'; cases e'
    | some k'=>
      rw [q] at e'
      have e'':(if (k' == NameKind.free && X.env.scope.kind == .function && X.env.kindOf x == some .cell)=true then NameKind.cell else k')=k:=Option.some.inj e'
      by_cases hc:(k' == NameKind.free && X.env.scope.kind == .function && X.env.kindOf x == some .cell)=true
      · simp only [Bool.and_eq_true,beq_iff_eq] at hc
        rw [hc.1.1]; exact .inl rfl
      · rw [if_neg hc] at e''
        subst e''
        rcases hk with z | z
        · rw [z]; exact .inr rfl
        · rw [z]; exact .inl rfl
  have cellAt:∀ x c,X.env.cells.lookup x=some c->∀ v,s.heap.IsCell c v->h₁.IsCell c v:=fun x c e v ⟨o,ho,hd⟩=>⟨o,keep c o ho,hd⟩
  have Hnew:∀ c,s.heap.objs.size<=c->H c=none:=fun c hc=>I.hok.fresh hc
  refine ⟨⟨I.ok.mod,ck.kind,I.ok.glob,I.ok.blt,O6 _,inj,fun x hx=>?_,fun x c h1 h2=>?_,I.ok.hd,I.ok.frames,.inl rfl,fun b hb=>?_,I.bs,
    E2 I.ok.bsz I.sz,fun b o e hb=>?_,fun b hb hz=>?_,I.stack,I.stkFree⟩,rfl,I.bare,Un.kept keep,⟨_,hns,fun i x v e1 e2 e3=>?_⟩,fun x c e=>?_,Hnew _ (O6 _),fun x c e=>?_,fun p hp=>(by cases hp),I.hok.kept keep,?_⟩
  · have hx:(compEnvC sc cl' s.heap.objs.size X.env).kindOf x=some .cell\/(compEnvC sc cl' s.heap.objs.size X.env).kindOf x=some .free:=hx
    have q:sc.names.lookup x=some .free\/sc.names.lookup x=some .cell:=by
      rcases hx with z | z
      · exact kindOf x _ z (.inl rfl)
      · exact kindOf x _ z (.inr rfl)
    rcases q with q | q
    · obtain ⟨c,hc⟩:=c2 _ (PySem.mem_of_lookup q) rfl
      exact ⟨c,(isF x q).trans hc⟩
    · exact isC x q
  · have h1:sc.names.lookup x=some .cell:=by simpa [Va] using h1
    have h2:cl'.lookup x=some c:=h2
    rw [<- hcl'] at h2
    exact E2 (Nat.le_succ _) (Ue _ _ _ (PySem.mem_of_lookup h1) h2)
  · refine ⟨D7 (hfs b hb),fun x c e=>?_⟩
    rcases look x c e with z | ⟨z,_⟩
    · exact (hf b hb).2.2.2.2.1 x c (c1 x c z)
    · exact fun q=>absurd (D2 (hfs b hb) (E2 (Nat.le_succ _) (q ▸ z))) (Nat.lt_irrefl _)
  · rcases (hf b hb).2.2.2.1 with z | z
    · exact I.ok.noex b o e z
    · exact absurd (D2 (O7 e) (E2 I.ok.bsz z)) (Nat.lt_irrefl _)
  · rcases D6.mp (I.stkSub b hz) with e | z
    · exact (hf b hb).2.1 e
    · exact (hf b hb).2.2.1 z
  · have e1:N'[i]?=some x:=e1
    have e2:(jq cap σ)[i]?=some (some v):=e2
    unfold jq at e2
    rw [E5] at e2
    cases q:cap[i]? with
    | none=>rw [q] at e2; cases e2
    | some oj=>
      rw [q] at e2
      cases oj with
      | none=>cases e2
      | some j=>
        obtain ⟨y,z1,z2,z3⟩:=ck.at_ i j q
        rw [e1] at z1; cases z1
        have ev:σ[j]?=some (some v):=by
          have e2':(σ[j]?).join=some v:=Option.some.inj e2
          cases r:σ[j]? with
          | none=>rw [r] at e2'; cases e2'
          | some o=>rw [r] at e2'; exact congrArg some e2'
        obtain ⟨m',hm',hl⟩:=I.loc
        have sK:X.env.scope.names.lookup x=some .cell\/X.env.scope.names.lookup x=some .free:=by rw [hE]; exact ck.fre _ (PySem.mem_of_lookup z3) rfl
        obtain ⟨u,ru,l⟩:=hl j x v (by rw [hN]; exact z2) ev (sK.elim (fun z=>.inr (.inl z)) fun z=>.inr (.inr z))
        refine ⟨u,ru,?_⟩
        obtain ⟨c,hc⟩:=c2 _ (PySem.mem_of_lookup z3) rfl
        rcases l with ⟨k,_⟩ | ⟨k,c',hc',hcell⟩
        · have k:X.env.scope.names.lookup x=some .local:=k
          rcases sK with z | z <;> (rw [k] at z; cases z)
        · have:c=c':=by
            have q1:=c1 x c hc
            rw [hc'] at q1
            exact (Option.some.inj q1).symm
          subst this
          refine .inr ⟨?_,c,(isF x z3).trans hc,cellAt x c hc' _ hcell⟩
          show (relabel sc X.env).names.lookup x=some .cell\/(relabel sc X.env).names.lookup x=some .free
          rw [Xj,z3]
          show some (if _ then NameKind.cell else NameKind.free)=_\/some (if _ then NameKind.cell else NameKind.free)=_
          split
          · exact .inl rfl
          · exact .inr rfl
  · rcases look x c e with z | ⟨_,z⟩
    · obtain ⟨v,q⟩:=I.cell x c (c1 x c z)
      exact ⟨v,cellAt x c (c1 x c z) v q⟩
    · exact ⟨_,z⟩
  · rcases look x c e with z | ⟨z,_⟩
    · exact I.freeC x c (c1 x c z)
    · exact Hnew c (by omega)
  · unfold jq
    show _=N'.length
    rw [O5]
    exact ck.len
end
end L2
namespace L2
open PySem PySem.Spec PyProof.Rows
section
variable {X:Cx}
end
end L2
namespace PySem
open Sem (wp)
section
variable {prog:Program} {w:World} {A:Around} {E:Value->Shared->Prop} {hp:Heap} {gs:Array GenState} {dr:Drawn} {tk:Nat} {sy:OsState}
variable {cn cq:Str} {kC kN:Addr} {bas tl tB:List Value} {hd:Bool} {sns:List Str} {subs:List Value} {abb:Bool} {coll:Option Bool} {dic:Option Addr} {j0 j1 j2 j3 j5:Option Value} {BB Bn newI nI initI inN:String} {tN:List Value}
end
section
variable {M:Model} {A:Around} {E:Value->Shared->Prop} {env:Env}
variable {cn cq:Str} {kC kN:Addr} {bas tl:List Value} {hd:Bool} {sns:List Str} {subs:List Value} {abb:Bool} {coll:Option Bool} {dic:Option Addr} {j0 j1 j2 j3 j5:Option Value} {newI:String}
end
end PySem
namespace L2
open PySem PySem.Spec PyProof.Rows PySem.W PySem.Builtin.ObjectAttr
section
variable {prog:Program} {w:World} {A:Around} {E:Value->Shared->Prop} {s:Shared} {K:Frag} {x C W:Addr} {name:Str} {v:Value}
end
end L2
namespace L2
open PySem PySem.Spec PyProof.Rows PySem.W
section
variable {prog:Program} {w:World} {A:Around} {E:Value->Shared->Prop} {s:Shared} {K:Frag} {x C W f:Addr}
end
section
variable {X:Cx} {x C W f:Addr}
end
end L2
namespace PySem
open Sem (wp)
def Xd (o:Obj):Option Value:=match o.data with | .fields vs=>vs[2]? | _=>none
theorem fld2_map {o:Obj} {vs:Array Value} {x:Value} (od:o.data=.fields vs):Xd (Obj.mapFields (·.setIfInBounds 1 x) o)=Xd o:=by
  have d:=Obj.data_mapFields od (·.setIfInBounds 1 x)
  unfold Xd
  rw [d,od]
  exact Array.getElem?_setIfInBounds_ne (by decide)
section
variable {M:Model} {A:Around} {E:Value->Shared->Prop} {s:Shared} {bs:Heap} {en:Env} {ou:List Env} {L e:Addr} {ob:Obj} {vs:Array Value} {a0:Value} {Q:Unit->Shared->Prop}
theorem Q1f {head:Value} {nx:Bool} (fr:A.frames=some (en :: ou)) (ff:s.heap.FunFrames bs (en :: ou)) (ef:en.frame=some L) (oe:s.heap.get? e=some ob) (kb:bs.StaysIn s.heap) (ne:bs.get? e=none)
    (od:ob.data=.fields vs) (z1:1 < vs.size) (z0:vs[0]?=some a0)
    (h:∀ h',Heap.LeftW bs (en :: ou) e ob.cls a0 s.heap h'->(∃ o',h'.get? e=some o'/\o'.dict=ob.dict/\Xd o'=Xd ob)->Q () { s with heap:=h' }) :
    wpAny M A (do
      let a <- frameOf en
      let pl <- entryPlaceOf L nx
      let b <- EntryCells.newEntry head a .none (rawInt L) .none pl
      setField (.ref e) 1 b) (fun _ s'=>wpAny M A (setFlight (.ref e) none) Q E s') E s:=by
  have nf:e∉(en :: ou).filterMap (·.frame):=fun m=>by
    obtain ⟨_,o,q,n⟩:=ff.mem m
    rw [oe] at q
    cases q
    exact n vs od
  refine wpAny_bind (wpAny_frameOf_fun fr ff ef fun g gs=>?_)
  refine wpAny_bind (wpAny_entryPlaceOf fun pl hp=>?_)
  unfold EntryCells.newEntry newFields
  refine wpAny_bind (wpAny_newObj_type ?_ (hp.sizeOk5 _ _ _ _ _))
  have ge:g.get? e=some ob:=(gs.2.1 e nf).trans oe
  have gb:bs.StaysIn g:=fun b o q=>(gs.2.1 b fun m=>by
    rw [(ff.mem m).1] at q
    cases q).trans (kb b o q)
  obtain ⟨tb,etb⟩:∃ tb:List Value,[head,.ref L,.none,rawInt L,.none] ++ (if pl.isEmpty then List.replicate 6 Value.none else pl)=tb:=⟨_,rfl⟩
  have l5:3 < tb.length/\tb[3]?=some (rawInt L):=by
    rw [<- etb]
    exact ⟨by simp,by simp⟩
  rw [etb]
  have ge2:=O1 (h:=g) { cls:=.type "traceback",dict:=none,data:=.fields tb.toArray } ge
  refine wpAny_setField ge2 od z1 ?_
  have te:g.objs.size≠e:=Nat.ne_of_gt (O7 ge)
  have d3:=Obj.data_mapFields od (·.setIfInBounds 1 (Value.ref g.objs.size))
  have ge3:=Heap.get?_update_self (Obj.mapFields (·.setIfInBounds 1 (Value.ref g.objs.size))) ge2 (Obj.isFreed_of_fields d3)
  have gt3:=(E8 (g.push { cls:=.type "traceback",dict:=none,data:=.fields tb.toArray })
    (Obj.mapFields (·.setIfInBounds 1 (Value.ref g.objs.size))) te.symm).trans
    (D3 g rfl)
  unfold setFlight
  refine wpAny_bind (wpAny_field ge3 d3 (x:=.ref g.objs.size) (by simp [z1]) ?_)
  rw [if_pos (show (Value.ref g.objs.size != Value.none)=true by simp)]
  refine wpAny_setField gt3 rfl (by simpa using l5.1) (h _ ?_ ?_)
  all_goals
    obtain ⟨g3,eg3⟩:∃ g3,((g.push { cls:=.type "traceback",dict:=none,data:=.fields tb.toArray }).update e (Obj.mapFields (·.setIfInBounds 1 (Value.ref g.objs.size))))=g3:=⟨_,rfl⟩
    rw [eg3] at ge3 gt3 ⊢
  · have kp:∀ b o,b≠e->g.get? b=some o->(g3.update g.objs.size (Obj.mapFields (·.setIfInBounds 3 ((none:Option Addr).elim Value.none fun f=>rawInt f)))).get? b=some o:=fun b o n q=>by
      rw [E8 _ _ (Nat.ne_of_gt (O7 q)),<- eg3,E8 _ _ n.symm]
      exact O1 _ q
    have nr:∀ b o,s.heap.get? b=some o->(∀ ws,o.data≠.fields ws)->b≠e:=fun b o q n z=>by
      rw [z,oe] at q
      cases q
      exact n vs od
    refine ⟨fun b o q=>kp b o (fun z=>by rw [z,ne] at q; cases q) (gb b o q),ff.of_keeps fun b o q n=>?_,?_,fun b o q n=>?_⟩
    · obtain ⟨sl,z⟩:=gs.2.2 b o q
      exact ⟨_,kp b _ (nr b o q n) z,rfl⟩
    · refine ⟨_,_,g.objs.size,_,_,?_,⟨Obj.cls_mapFields _ _,?_⟩,d3,by simp [z1],gb.fresh,te,Heap.get?_update_self _ gt3 (Obj.isFreed_of_fields (Obj.data_mapFields rfl _)),Obj.data_mapFields rfl _,?_⟩
      · rw [E8 _ _ te]
        exact ge3
      · rw [Array.getElem?_setIfInBounds_ne (by decide)]
        exact z0
      · have:=l5.1
        simp [this]
    · obtain ⟨sl,z⟩:=gs.2.2 b o q
      exact ⟨sl,kp b _ (nr b o q n) z⟩
  · refine ⟨_,(E8 _ _ te).trans ge3,?_,fld2_map od⟩
    cases ob with
    | mk c d dt sl=>cases dt <;> first | rfl | cases od
theorem leave1_dict (fr:A.frames=some (en :: ou)) (ff:s.heap.FunFrames bs (en :: ou)) (ef:en.frame=some L) (oe:s.heap.get? e=some ob) (kb:bs.StaysIn s.heap) (ne:bs.get? e=none)
    (od:ob.data=.fields vs) (z1:vs[1]?=some .none) (z0:vs[0]?=some a0)
    (h:∀ h',Heap.LeftW bs (en :: ou) e ob.cls a0 s.heap h'->(∃ o',h'.get? e=some o'/\o'.dict=ob.dict/\Xd o'=Xd ob)->Q () { s with heap:=h' }):wpAny M A (leaving en (.ref e)) Q E s:=by
  unfold leaving noteFrame
  simp only [ef]
  refine wpAny_bind (wpAny_bind (wpAny_field oe od z1 ?_))
  rw [if_neg (by decide)]
  exact Q1f fr ff ef oe kb ne od (Array.getElem?_eq_some_iff.mp z1).1 z0 h
theorem leave2_dict {cls:Value} {dv:Option Addr} (fr:A.frames=some (en :: ou)) (ef:en.frame=some L) (fl:Heap.FlyingW bs (en :: ou) e cls a0 s.heap) (dd:∃ o',s.heap.get? e=some o'/\o'.dict=dv/\Xd o'=some .none)
    (h:∀ h',Heap.FlyingW bs ou e cls a0 h'->(∃ o',h'.get? e=some o'/\o'.dict=dv/\Xd o'=some .none)->s.heap.UpToSlots h'->Q () { s with heap:=h' }):wpAny M A (leaving en (.ref e)) Q E s:=by
  obtain ⟨kb,ne,ff,oe,ws,T,oT,ts,he,⟨hc,z0⟩,od,z1,nT,Te,hT,dT,z3⟩:=fl
  obtain ⟨o',ho',hdv,hfl⟩:=dd
  rw [he] at ho'
  cases ho'
  unfold leaving noteFrame
  simp only [ef]
  refine wpAny_bind (wpAny_bind (wpAny_field he od z1 ?_))
  rw [if_pos (show (Value.ref T != Value.none)=true by simp)]
  refine wpAny_bind (wpAny_field hT dT z3 ?_)
  rw [if_neg (show ¬ ((Value.none == rawInt L)=true) by simp [rawInt])]
  refine wpAny_bind (wpAny_setField hT dT (Array.getElem?_eq_some_iff.mp z3).1 ?_)
  have ot:∀ b,b≠T->(s.heap.update T (Obj.mapFields (·.setIfInBounds 3 Value.none))).get? b=s.heap.get? b:=fun b n=>E8 _ _ n.symm
  have nr:∀ b o,s.heap.get? b=some o->(∀ ws,o.data≠.fields ws)->b≠T:=fun b o q n z=>by
    rw [z,hT] at q
    cases q
    exact n ts dT
  refine Q1f fr (ff.of_keeps fun b o q n=>⟨o,(ot b (nr b o q n)).trans q,rfl⟩) ef ((ot e Te.symm).trans he) (fun b o q=>(ot b fun z=>by rw [z,nT] at q; cases q).trans (kb b o q)) ne od (Array.getElem?_eq_some_iff.mp z1).1 z0 fun h' lf d'=>?_
  obtain ⟨k1,⟨_,_,k2⟩,k3,k4⟩:=lf
  rw [hc] at k3
  exact h h' ⟨k1,ne,k2,k3⟩ (d'.imp fun o q=>⟨q.1,q.2.1.trans hdv,q.2.2.trans hfl⟩) fun b o q n=>k4 b o ((ot b (nr b o q n)).trans q) n
theorem yn {head:Value} {nx:Bool} (fr:A.frames=some (en :: ou)) (ff:s.heap.FunFrames bs (en :: ou)) (ef:en.frame=some L) (oe:s.heap.get? e=some ob) (kb:bs.StaysIn s.heap) (ne:bs.get? e=none)
    (od:ob.data=.fields vs) (z1:1 < vs.size) (z0:vs[0]?=some a0)
    (h:∀ h',Heap.NotedW bs (en :: ou) e ob.cls a0 (rawInt L) s.heap h'->(∃ o',h'.get? e=some o'/\o'.dict=ob.dict/\Xd o'=Xd ob)->Q () { s with heap:=h' }) :
    wpAny M A (do
      let a <- frameOf en
      let pl <- entryPlaceOf L nx
      let b <- EntryCells.newEntry head a .none (rawInt L) .none pl
      setField (.ref e) 1 b) Q E s:=by
  have nf:e∉(en :: ou).filterMap (·.frame):=fun m=>by
    obtain ⟨_,o,q,n⟩:=ff.mem m
    rw [oe] at q
    cases q
    exact n vs od
  refine wpAny_bind (wpAny_frameOf_fun fr ff ef fun g gs=>?_)
  refine wpAny_bind (wpAny_entryPlaceOf fun pl hp=>?_)
  unfold EntryCells.newEntry newFields
  refine wpAny_bind (wpAny_newObj_type ?_ (hp.sizeOk5 _ _ _ _ _))
  have ge:g.get? e=some ob:=(gs.2.1 e nf).trans oe
  have gb:bs.StaysIn g:=fun b o q=>(gs.2.1 b fun m=>by
    rw [(ff.mem m).1] at q
    cases q).trans (kb b o q)
  obtain ⟨tb,etb⟩:∃ tb:List Value,[head,.ref L,.none,rawInt L,.none] ++ (if pl.isEmpty then List.replicate 6 Value.none else pl)=tb:=⟨_,rfl⟩
  have l5:3 < tb.length/\tb[3]?=some (rawInt L):=by
    rw [<- etb]
    exact ⟨by simp,by simp⟩
  rw [etb]
  have ge2:=O1 (h:=g) { cls:=.type "traceback",dict:=none,data:=.fields tb.toArray } ge
  have te:g.objs.size≠e:=Nat.ne_of_gt (O7 ge)
  have d3:=Obj.data_mapFields od (·.setIfInBounds 1 (Value.ref g.objs.size))
  have ge3:=Heap.get?_update_self (Obj.mapFields (·.setIfInBounds 1 (Value.ref g.objs.size))) ge2 (Obj.isFreed_of_fields d3)
  have gt3:=(E8 (g.push { cls:=.type "traceback",dict:=none,data:=.fields tb.toArray })
    (Obj.mapFields (·.setIfInBounds 1 (Value.ref g.objs.size))) te.symm).trans
    (D3 g rfl)
  refine wpAny_setField ge2 od z1 (h _ ?_ ?_)
  · have kp:∀ b o,b≠e->g.get? b=some o->((g.push { cls:=.type "traceback",dict:=none,data:=.fields tb.toArray }).update e (Obj.mapFields (·.setIfInBounds 1 (Value.ref g.objs.size)))).get? b=some o:=fun b o n q=>by
      rw [E8 _ _ n.symm]
      exact O1 _ q
    have nr:∀ b o,s.heap.get? b=some o->(∀ ws,o.data≠.fields ws)->b≠e:=fun b o q n z=>by
      rw [z,oe] at q
      cases q
      exact n vs od
    refine ⟨fun b o q=>kp b o (fun z=>by rw [z,ne] at q; cases q) (gb b o q),ff.of_keeps fun b o q n=>?_,?_,fun b o q n=>?_⟩
    · obtain ⟨sl,z⟩:=gs.2.2 b o q
      exact ⟨_,kp b _ (nr b o q n) z,rfl⟩
    · refine ⟨_,_,g.objs.size,_,_,ge3,⟨Obj.cls_mapFields _ _,?_⟩,d3,by simp [z1],gb.fresh,te,gt3,rfl,by simpa using l5.2⟩
      rw [Array.getElem?_setIfInBounds_ne (by decide)]
      exact z0
    · obtain ⟨sl,z⟩:=gs.2.2 b o q
      exact ⟨sl,kp b _ (nr b o q n) z⟩
  · refine ⟨_,ge3,?_,fld2_map od⟩
    cases ob with
    | mk c d dt sl=>cases dt <;> first | rfl | cases od
theorem look_dict {cls:Value} {dv:Option Addr} (fr:A.frames=some (en :: ou)) (ef:en.frame=some L) (fl:Heap.FlyingW bs (en :: ou) e cls a0 s.heap) (dd:∃ o',s.heap.get? e=some o'/\o'.dict=dv/\Xd o'=some .none)
    (h:∀ h',Heap.HeldW bs (en :: ou) e cls a0 L h'->(∃ o',h'.get? e=some o'/\o'.dict=dv/\Xd o'=some .none)->s.heap.UpToSlots h'->Q () { s with heap:=h' }):wpAny M A (noteFrame (.ref e) en) Q E s:=by
  obtain ⟨kb,ne,ff,oe,ws,T,oT,ts,he,⟨hc,z0⟩,od,z1,nT,Te,hT,dT,z3⟩:=fl
  obtain ⟨o',ho',hdv,hfl⟩:=dd
  rw [he] at ho'
  cases ho'
  unfold noteFrame
  simp only [ef]
  refine wpAny_bind (wpAny_field he od z1 ?_)
  rw [if_pos (show (Value.ref T != Value.none)=true by simp)]
  refine wpAny_bind (wpAny_field hT dT z3 ?_)
  rw [if_neg (show ¬ ((Value.none == rawInt L)=true) by simp [rawInt])]
  refine wpAny_bind (wpAny_setField hT dT (Array.getElem?_eq_some_iff.mp z3).1 ?_)
  have ot:∀ b,b≠T->(s.heap.update T (Obj.mapFields (·.setIfInBounds 3 Value.none))).get? b=s.heap.get? b:=fun b n=>E8 _ _ n.symm
  have nr:∀ b o,s.heap.get? b=some o->(∀ ws,o.data≠.fields ws)->b≠T:=fun b o q n z=>by
    rw [z,hT] at q
    cases q
    exact n ts dT
  refine yn fr (ff.of_keeps fun b o q n=>⟨o,(ot b (nr b o q n)).trans q,rfl⟩) ef ((ot e Te.symm).trans he) (fun b o q=>(ot b fun z=>by rw [z,nT] at q; cases q).trans (kb b o q)) ne od (Array.getElem?_eq_some_iff.mp z1).1 z0 fun h' nt d'=>?_
  obtain ⟨k1,k2,k3,k4⟩:=nt
  rw [hc] at k3
  exact h h' ⟨k1,ne,k2,k3⟩ (d'.imp fun o q=>⟨q.1,q.2.1.trans hdv,q.2.2.trans hfl⟩) fun b o q n=>k4 b o ((ot b (nr b o q n)).trans q) n
theorem yc {l:List Env} {cls fv:Value} {dv:Option Addr} (kb:bs.StaysIn s.heap) (ne:bs.get? e=none) (ff:s.heap.FunFrames bs l) (tr:s.heap.TracedAtW bs e cls a0 fv) (dd:∃ o',s.heap.get? e=some o'/\o'.dict=dv/\Xd o'=some .none)
    (h:∀ h',Heap.FlyingW bs l e cls a0 h'->(∃ o',h'.get? e=some o'/\o'.dict=dv/\Xd o'=some .none)->s.heap.UpToSlots h'->Q () { s with heap:=h' }):wpAny M A (setFlight (.ref e) none) Q E s:=by
  obtain ⟨oe,ws,T,oT,ts,he,hc,od,z1,nT,Te,hT,dT,z3⟩:=tr
  obtain ⟨o',ho',hdv,hfl⟩:=dd
  have s3:=(Array.getElem?_eq_some_iff.mp z3).1
  have ot:∀ b,b≠T->(s.heap.update T (Obj.mapFields (·.setIfInBounds 3 ((none:Option Addr).elim Value.none fun f=>rawInt f)))).get? b=s.heap.get? b:=fun b n=>E8 _ _ n.symm
  have nr:∀ b o,s.heap.get? b=some o->(∀ ws,o.data≠.fields ws)->b≠T:=fun b o q n z=>by
    rw [z,hT] at q
    cases q
    exact n ts dT
  unfold setFlight
  refine wpAny_bind (wpAny_field he od z1 ?_)
  rw [if_pos (show (Value.ref T != Value.none)=true by simp)]
  refine wpAny_setField hT dT s3 (h _ ⟨fun b o q=>(ot b fun z=>by rw [z,nT] at q; cases q).trans (kb b o q),ne,ff.of_keeps fun b o q n=>⟨o,(ot b (nr b o q n)).trans q,rfl⟩,?_⟩ ⟨o',(ot e Te.symm).trans ho',hdv,hfl⟩ fun b o q n=>⟨o.slots,(ot b (nr b o q n)).trans q⟩)
  exact ⟨oe,ws,T,_,_,(ot e Te.symm).trans he,hc,od,z1,nT,Te,Heap.get?_update_self _ hT (Obj.isFreed_of_fields (Obj.data_mapFields dT _)),Obj.data_mapFields dT _,by simp [s3]⟩
end
end PySem
namespace L2
open PySem PySem.Spec PyProof.Rows
def CXD (P:Program) (w:World):CXT:=fun outer H s E e s'=>∃ a cls a0 dv H' B,e=Value.ref a/\Fly P w outer H H' s s' a cls a0 B/\(∃ o',s'.heap.get? a=some o'/\o'.dict=dv/\Xd o'=some .none)/\E cls dv H'
theorem X0 {P:Program} {w:World} {X:Cx}:Q1p (CXD P w) X E0:=fun _ _ _ _ _ _ _ h=>by
  obtain ⟨_,_,_,_,_,_,_,_,_,z⟩:=h
  exact z.elim
section
variable {P:Program} {w:World} {K:PySem.W.Frag} {mg:Str->Option Value} {base:Heap} {N:List Str} {qual:Str} {scope:Scope} {f:Addr} {cd:Value} {A:Around} {outer:List Env} {s:Shared} {H:Hp} {E:XK}
abbrev cxD (P:Program) (w:World) (K:PySem.W.Frag) (mg:Str->Option Value) (base:Heap) (N:List Str) (qual:Str) (scope:Scope) (f:Addr) (cd:Value) (A:Around) (outer:List Env) (s:Shared) (H:Hp) (E:XK):Cx:=cxOf (CXD P w) P w K mg base N qual scope f cd A outer s H E
theorem stk_neD {pins:List (Addr × Obj)} {σ:St} {H1:Hp} {s1:Shared} (I:Inv (cxD P w K mg base N qual scope f cd A outer s H E) pins σ H1 s1) {b:Addr} {o:Obj} (e:s.heap.get? b=some o) (n:b∉frs outer):b∉frs (cxD P w K mg base N qual scope f cd A outer s H E).stack:=fun hb=>by
  rcases D6.mp (I.stkSub b hb) with z | z
  · have h1:b < s.heap.objs.size:=O7 e
    have h2:s.heap.objs.size<=(cxD P w K mg base N qual scope f cd A outer s H E).env.locals:=I.ok.above
    rw [<- z] at h2
    exact absurd (D2 h1 h2) (Nat.lt_irrefl _)
  · exact n z
theorem frs_subD {b:Addr} (h:b∈frs outer):b∈frs (cxD P w K mg base N qual scope f cd A outer s H E).stack:=by
  show b∈frs (_ :: outer)
  unfold frs at h ⊢
  rw [List.filterMap_cons]
  split
  · exact h
  · exact D4 _ h
theorem raiseD {pins:List (Addr × Obj)} {σ:St} {H1:Hp} {s1:Shared} {hx:Heap} {e C t:Addr} {dv:Option Addr} (I:Inv (cxD P w K mg base N qual scope f cd A outer s H E) pins σ H1 s1)
    (hk:∀ b o,b≠e->s1.heap.get? b=some o->hx.get? b=some o) (he1:∀ o,s1.heap.get? e=some o->∃ vs,o.data=.fields vs) (new:s.heap.get? e=none) (hH:H1 e=none)
    (oe:hx.get? e=some { cls:=.ref C,dict:=dv,data:=.fields #[.ref t,.none,.none,.none,.bool false,.none] }) (hE:E (.ref C) dv H1) :
    (cxD P w K mg base N qual scope f cd A outer s H E).xe (.ref e) { s1 with heap:=hx }:=by
  have hin:∀ en∈(cxD P w K mg base N qual scope f cd A outer s H E).stack,∀ b,en.frame=some b->b∈e :: frs (cxD P w K mg base N qual scope f cd A outer s H E).stack:=fun en he b hb=>D4 _ (List.mem_filterMap.mpr ⟨en,he,hb⟩)
  have ff:=PySem.W.funFrames_hide I.stack hin
  have nee:∀ b o,s1.heap.get? b=some o->(∀ vs,o.data≠.fields vs)->b≠e:=fun b o q n z=>by
    subst z
    obtain ⟨vs,d⟩:=he1 o q
    exact n vs d
  have hid:(PySem.W.hideAll s1.heap (e :: frs (cxD P w K mg base N qual scope f cd A outer s H E).stack)).get? e=none:=PySem.W.hideAll_none _ E4
  have kb:(PySem.W.hideAll s1.heap (e :: frs (cxD P w K mg base N qual scope f cd A outer s H E).stack)).StaysIn hx:=fun b o q=>hk b o (fun z=>by rw [z,hid] at q; cases q) (PySem.W.of_hideAll _ q)
  show wpAny (model P w) _ (leaving _ (.ref e)) _ _ _
  refine leave1_dict (bs:=PySem.W.hideAll s1.heap (e :: frs (cxD P w K mg base N qual scope f cd A outer s H E).stack)) (a0:=.ref t) (s:={ s1 with heap:=hx }) I.ok.frames (ff.of_keeps fun b o q n=>⟨o,hk b o (nee b o q n) q,rfl⟩) rfl oe kb hid rfl rfl rfl fun h2 lf dd=>?_
  obtain ⟨k1,⟨_,_,k2⟩,k3,k4⟩:=lf
  have noex:∀ b:Addr,b∉(cxD P w K mg base N qual scope f cd A outer s H E).ex:=fun b z=>absurd (show b∈([]:List Addr) from z) (by simp)
  have nse:∀ b o,s.heap.get? b=some o->b≠e:=fun b o q z=>by rw [z,new] at q; cases q
  have out:∀ b o,s.heap.get? b=some o->b∉frs outer->b∉e :: frs (cxD P w K mg base N qual scope f cd A outer s H E).stack:=fun b o q n m=>by
    rcases D6.mp m with z | z
    · exact nse b o q z
    · exact stk_neD I q n z
  refine ⟨e,.ref C,.ref t,dv,H1,_,rfl,⟨I.os,I.bare,⟨k1,hid,k2,k3⟩,fun b u q=>?_,fun b o q n hb=>?_,fun b o q hb=>?_,fun b o q hb=>?_,fun b o q n=>I.base.free b o q n (noex b),I.base.tups,I.base.frzs,I.base.tbls⟩,dd,hE⟩
  · have ne:∀ c v,H1 c=some v->c∉e :: frs (cxD P w K mg base N qual scope f cd A outer s H E).stack:=fun c v z m=>by
      rcases D6.mp m with m | m
      · rw [m,hH] at z; cases z
      · rw [I.stkFree c m] at z; cases z
    refine (I.hok b u q).stay (fun c v hc r=>PySem.W.hideAll_get _ r ?_) (fun _ r=>r) fun _ _ r=>r
    rcases hc with rfl | hc
    · exact ne c u q
    · exact ne c _ hc
  · exact PySem.W.hideAll_get _ (I.base.keep b o q n hb (noex b)) (out b o q hb)
  · obtain ⟨o',z⟩:=I.base.there b o q (noex b)
    exact ⟨o',PySem.W.hideAll_get _ z (out b o q hb)⟩
  · obtain ⟨sl,z⟩:=I.base.slot b o q (I.ok.frf b hb) hb (noex b)
    obtain ⟨_,o',ho',hnf⟩:=I.ok.funs.mem hb
    have ho2:s.heap.get? b=some o':=ho'
    rw [q] at ho2
    cases ho2
    obtain ⟨sl',z'⟩:=k4 b _ (hk b _ (nse b o q) z) hnf
    exact ⟨sl',z'⟩
theorem Qd:Q1p (CXD P w) (cxD P w K mg base N qual scope f cd A outer s H E) E:=by
  intro pins σ H1 s1 e s' I h
  obtain ⟨a,cls,a0,dv,H',B,rfl,F,dd,hE⟩:=h
  show wpAny (model P w) _ (leaving _ (.ref a)) _ _ _
  have noex:∀ b:Addr,b∉(cxD P w K mg base N qual scope f cd A outer s H E).ex:=fun b z=>absurd (show b∈([]:List Addr) from z) (by simp)
  refine leave2_dict I.ok.frames rfl F.fl dd fun h2 x1 d2 x2=>?_
  refine ⟨a,cls,a0,dv,H',B,rfl,⟨F.os.trans I.os,F.bare,x1,F.hokB,fun b o q n hb=>?_,fun b o q hb=>?_,fun b o q hb=>?_,fun b o q n=>?_,fun b xs q=>F.tups b xs (I.base.tups b xs q),fun b o u q=>F.frzs b o u (I.base.frzs b o u q),fun b ps q=>?_⟩,d2,hE⟩
  · exact F.keep b o (I.base.keep b o q n hb (noex b)) (I.base.free b o q n (noex b)) (stk_neD I q hb)
  · obtain ⟨o',z⟩:=I.base.there b o q (noex b)
    exact F.there b o' z (stk_neD I q hb)
  · obtain ⟨sl,z⟩:=I.base.slot b o q (I.ok.frf b hb) hb (noex b)
    obtain ⟨_,o',ho',hnf⟩:=I.ok.funs.mem hb
    have ho2:s.heap.get? b=some o':=ho'
    rw [q] at ho2
    cases ho2
    obtain ⟨sl',z'⟩:=F.slot b _ z (frs_subD hb)
    obtain ⟨sl2,z2⟩:=x2 b _ z' hnf
    exact ⟨sl2,z2⟩
  · obtain ⟨o',z⟩:=I.base.there b o q (noex b)
    exact F.free b o' z (I.base.free b o q n (noex b))
  · obtain ⟨m1,e1⟩:=I.base.tbls b ps q
    obtain ⟨m2,e2⟩:=F.tbls b _ e1
    exact ⟨m1 ++ m2,by rw [e2,Array.append_assoc]⟩
end
section
variable {X:Cx}
def RaiseD (X:Cx) (E:XK):Prop:=∀ (pins:List (Addr × Obj)) (σ:St) (H0 H1:Hp) (s0 s1:Shared) (hx:Heap) (e C t:Addr) (dv:Option Addr),Inv X pins σ H0 s0->s0.heap.get? e=none->Inv X pins σ H1 s1->(∀ b o,b≠e->s1.heap.get? b=some o->hx.get? b=some o) ->
  (∀ o,s1.heap.get? e=some o->∃ vs,o.data=.fields vs)->H1 e=none->hx.get? e=some { cls:=.ref C,dict:=dv,data:=.fields #[.ref t,.none,.none,.none,.bool false,.none] }->E (.ref C) dv H1->X.xe (.ref e) { s1 with heap:=hx }
theorem ps_raiseD {x:Str} {C:Addr} {e:Expr} {t:TA} {E:XK} {np cpos pos:Pos} (hcalm:X.calm=true) (RO:RaiseD X E) (hg:Gl X x) (hm:X.mg x=some (.ref C)) (q:PySem.W.excIn X.K C bmVE "ValueError.__new__" = true) (ha:PA X [e] t)
    (hdb:(x == ("__debug__" : Str))=false:=by decide) (he:starEach [e] X.env=[(false,eval e X.env)]:=by rfl):PS X (.Raise (some (.Call (.Name x np) [e] [] cpos)) none pos) (tRaise C E t):=by
  intro pins s σ H D I h
  obtain ⟨tl,N,nm,qn,bs,hdct,sn,sub,ab,col,dd,k0,k1,k2,k3,k5,mN,hC,hN,hni,T⟩:=(own_obj I.mod.kin hm q).obj
  refine wpAny_Raise_call_subU (C:=C) (nm:=nm) (q:=qn) (N:=N) (bs:=bs) (bm:=tl) (hdct:=hdct) (sn:=sn) (sub:=sub) (ab:=ab) (col:=col) (dd:=dd) (k0:=k0) (k1:=k1) (k2:=k2) (k3:=k3) (k5:=k5)
    PySem.F.excBase_ValueError (by decide +kernel) PySem.F.excBase_ValueError (mN:=mN) (T.hasType (by decide +kernel)) (I.ok.hd hcalm) (by rw [he]; rfl) hni (jn I hg hm ⟨rfl,?_⟩ hdb)
  have ha':=ha cpos pins s σ H _ I h
  rw [he] at ha' ⊢
  refine Calls.evalArgs_plain (wpAny_mono ha' (fun us s1 ⟨vs,H1,I1,r,z,hE⟩=>?_) fun _ _ y=>y)
  refine ⟨rfl,by rw [<- r.length]; exact z,I1.bk _ _ hC,hN.keeps I1.bk,T.keeps I1.bk,fun h' e' hx=>?_⟩
  obtain ⟨t,oe,_,_⟩:=hx.there
  exact RO pins σ H1 H1 s1 s1 h' e' C t none I1 hx.new I1 (fun b o _ k=>hx.keeps b o k) (fun o k=>by rw [hx.new] at k; cases k) (I1.hok.none_of hx.new) oe hE
end
theorem raiseDok {P:Program} {w:World} {K:PySem.W.Frag} {mg:Str->Option Value} {base:Heap} {N:List Str} {qual:Str} {scope:Scope} {f:Addr} {cd:Value} {A:Around} {outer:List Env} {s:Shared} {H:Hp} {E:XK} :
    RaiseD (cxD P w K mg base N qual scope f cd A outer s H E) E:=fun pins σ H0 H1 s0 s1 hx e C t dv I0 g0 I hk he1 hH oe hE=>by
  refine raiseD I hk he1 ?_ hH oe hE
  cases q:s.heap.get? e with
  | none=>rfl
  | some o=>
    obtain ⟨o',z⟩:=I0.base.there e o q (fun z=>absurd (show e∈([]:List Addr) from z) (by simp))
    rw [g0] at z; cases z
theorem Fun.okD {P:Program} {w:World} {K:PySem.W.Frag} {mg:Str->Option Value} {base:Heap} {x qual:Str} {st:Stmt} {f:Addr} {fd:FuncData} {N ps:List Str} {k:Nat} {sp:Sp} (F:Fun K x qual st f fd) (S:FnScope N ps (Q6 st)) (len:∀ vs H Q E,sp vs H Q E->vs.length=ps.length)
    (hbody:∀ (cdv:Value) (A:Around) (outer:List Env) (s:Shared) (H:Hp) (vs:List V) (Q:VK) (E:XK),Room k (A.deeper (envOfC qual (Q6 st) s.heap.objs.size f cdv))->sp vs H Q E ->
      ∃ t,PSs (cxD P w K mg base N qual (Q6 st) f cdv A outer s H E) (Qp st) t/\t { nx:=fun _ H'=>Q .non H',rt:=Q } (start N vs) H):FnOk P w K mg base (CXD P w) (k + 1) f fd ps sp:=by
  obtain ⟨oc,od,kV,doc,pm,an,cdv,ct,osl,rfl,lk,hcd⟩:=F.ex
  exact fn_of lk hcd S len fun A outer s H vs Q E hr hsp=>hbody cdv A outer s H vs Q E hr hsp
end L2
namespace L2
open PySem PySem.Spec PyProof.Rows PySem.W PySem.Builtin.Getset_descriptor
def IsXD (x C:Addr) (dv:Option Addr) (h:Heap):Prop:=∃ ox vs,h.get? x=some ox/\ox.cls=.ref C/\ox.dict=dv/\ox.data=.fields vs/\vs[2]?=some .none
theorem IsXD.x {x C:Addr} {dv:Option Addr} {h:Heap} (I:IsXD x C dv h):IsX x C h:=let ⟨ox,_,a,b,_⟩:=I; ⟨ox,a,b⟩
theorem extD_ok {P:Program} {w:World} {H:Hp} {h:Heap} {a C:Addr} {dv:Option Addr} (I:IsXD a C dv h):ObjOk P w H h a (.ext (IsXD a C dv)):=
  ⟨I,(let ⟨o,_,e,_⟩:=I; ⟨o,e⟩),fun h1 h2 ⟨o,vs,e,c⟩ k=>⟨o,vs,k o e,c⟩⟩
section
variable {prog:Program} {w:World} {A:Around} {E:Value->Shared->Prop} {h:Heap} {g:Array GenState} {d:Drawn} {t:Nat} {os:OsState} {K:Frag} {x C dx:Addr} {name:Str} {v:Value} {m:Str->Option Value}
end
section
variable {X:Cx}
end
section
variable {X:Cx} {pins:List (Addr × Obj)} {σ:St} {H H':Hp} {s s':Shared} {a C:Addr}
theorem handleD {cn n:Str} {i:Nat} {CC:Addr} {a0:Value} {B:Heap} {dv:Option Addr} {np hpos:Pos} {b₀:Stmt} {suite:List Stmt} {ts:TS} {D:Ends} (hN:X.N.Nodup) (hi:X.N[i]?=some n) (hk:X.env.scope.names.lookup n=some .local) (hex:∀ b,b∉X.ex)
    (hst:X.stack=X.env :: X.outer) (hfr:X.env.frame=some X.env.locals) (hg:Gl X cn) (hm:X.mg cn=some (.ref CC)) (hx:exmOne X.K (.ref C) (.ref CC)=some true) (I:Inv X pins σ H s) (F:Fly X.prog X.w X.stack H H' s s' a (.ref C) a0 B) (dd:∃ o',s'.heap.get? a=some o'/\o'.dict=dv/\Xd o'=some .none)
    (hsuite:PSs (K6 X a) (b₀ :: suite) ts) (q:ts { nx:=fun σ2 H2=>D.nx (σ2.set i none) H2,rt:=fun _ _=>False } (σ.set i (some (.ref a))) (upd H' a (.ext (IsXD a C dv)))) (hdb:(cn == ("__debug__" : Str))=false:=by decide) :
    wpAny (model X.prog X.w) X.A (noteFrame (.ref a) X.env) (fun _ s₂=>wpAny (model X.prog X.w) X.A (setFlight (.ref a) none) (fun _ s₃=>wpAny (model X.prog X.w) X.A (handleBy (.ref a) X.env [.ExceptHandler (some (.Name cn np)) (some n) (b₀ :: suite) hpos]) (SP X pins D) X.xe s₃) X.xe s₂) X.xe s':=by
  have hcls:(X.env.scope.kind == .class || (X.env.scope.kind == .module && X.env.locals != X.env.globals))=false:=by rw [I.ok.kind]; rfl
  have fl0:=F.fl
  rw [hst] at fl0
  refine look_dict (by rw [<- hst]; exact I.ok.frames) hfr fl0 dd fun h4 held4 d4 sm4=>?_
  refine yc (s:={ s' with heap:=h4 }) held4.1 held4.2.1 held4.2.2.1 held4.2.2.2 d4 fun h5 fl5 d5 sm5=>?_
  obtain ⟨n1,n2⟩:=F.new
  have I5:Inv X pins σ H' { s' with heap:=h5 }:=F.inv I fl5.1 (sm4.trans sm5)
  obtain ⟨ob,hob,hobc⟩:=fl5.there
  have LT:Looks (model X.prog X.w) h5 (typeOf (.ref a)) (.ref C):=IsX.type ⟨ob,hob,hobc⟩
  refine wpAny_handleBy_cons (codeAny_handlers_test (jn (X:=K6 X a) (I5.suite a) hg hm ?_ hdb)) (by intro z; cases z)
  refine (exm_one (h:=h5) I5.kIn LT hx).at ?_
  refine codeAny_handlers_suite_as ?_
  refine yc (s:={ s' with heap:=h5 }) fl5.1 fl5.2.1 fl5.2.2.1 fl5.2.2.2.at d5 fun h6 fl6 d6 sm6=>?_
  have I6:Inv X pins σ H' { s' with heap:=h6 }:=F.inv I fl6.1 ((sm4.trans sm5).trans sm6)
  obtain ⟨ob6,vs6,hob6,hobc6,hod6,_⟩:=fl6.first
  obtain ⟨o',ho',hd',hf'⟩:=d6
  rw [hob6] at ho'
  cases ho'
  have I7:Inv X pins σ (upd H' a (.ext (IsXD a C dv))) { s' with heap:=h6 }:=Inv.track I hex n1 I6 n2 (extD_ok ⟨ob6,vs6,hob6,hobc6,hd',hod6,by unfold Xd at hf'; rw [hod6] at hf'; exact hf'⟩)
  refine Q04 (X:=K6 X a) (v:=.ref a) (I7.suite a) hN hi (.inl hk) rfl (fun s8 I8=>?_) (.inr hk)
  refine wpAny_mono (hsuite pins s8 _ _ _ I8 q) (fun f s9 h9=>?_) fun _ _ z=>z.elim
  cases f with
  | next=>
    obtain ⟨σ9,H9,I9,q9⟩:=h9
    have I9':=I9.unsuite I.ok
    obtain ⟨m,hn,hl⟩:=id I9'.loc
    exact wpAny_nameGoes_keeps hk hn hcls fun h10 v hn' hs'=>⟨_,_,I9'.forget hN hi hl hn' hs',q9⟩
  | brk=>obtain ⟨_,_,_,z⟩:=h9; exact z.elim
  | cont=>obtain ⟨_,_,_,z⟩:=h9; exact z.elim
  | ret u=>obtain ⟨_,_,_,_,_,z⟩:=h9; exact z.elim
end
end L2
namespace L2
open PySem PySem.Spec PyProof.Rows
section
variable {X:Cx}
theorem call_xG {CX:CXT} {f:Addr} {fd:FuncData} {k:Nat} {ps:List Str} {sp:Sp} {g:Str} {p cpos:Pos} {e:Expr} {es:List Expr} {ta:TA} {pins:List (Addr × Obj)} {σ:St} {H:Hp} {s:Shared} {E1:Value->Shared->Prop} {Qv:VK} {Ex:XK}
    (F:FnOk X.prog X.w X.K X.mg X.base CX k f fd ps sp) (hr:Room k X.A) (hm:X.mg g=some (.ref f)) (hkp:PySem.W.keepIn X.K (.ref f)=true) (hb:Binds X.K fd ps []) (ha:PA X.nox (e :: es) ta) (hg:Gl X g)
    (I:Inv X pins σ H s) (h:ta σ H fun vs H1=>sp vs H1 Qv Ex) (hE:∀ H1 s1 v s',Inv X pins σ H1 s1->CX X.stack H1 s1 Ex v s'->E1 v s')
    (hdb:(g == ("__debug__" : Str))=false) (he:starEach (e :: es) X.env=(false,eval e X.env) :: starEach es X.env) (hpl:(backTo cpos (starEach es X.env)).any (·.1)=false) :
    wpAny (model X.prog X.w) X.A (eval (.Call (.Name g p) (e :: es) [] cpos) X.env) (EP X pins σ Qv) E1 s:=by
  refine wpAny_Call_Name_kw (jn I hg hm ?_ hdb)
  refine PySem.W.callWith_K (h₀:=X.base) I.ok.mod.kin hkp (wpAny_mono (ha cpos pins s σ H _ (I.wish _) h) (fun us s1 ⟨vs,H1,I1,r,q⟩=>⟨I1.unwish.kIn,?_⟩) fun _ _ z=>z.elim) he hpl
  have I1':=I1.unwish
  have hl:us.length=ps.length:=by rw [<- r.length]; exact F.len _ _ _ _ q
  have hb':=hb s1 us I1'.kIn (by rw [F6]; exact hl)
  rw [F6] at hb'
  refine wpAny_call (codeAny_mono (F.run X.A X.stack s1 H1 ⟨us,[]⟩ us vs Qv Ex hr I1'.env0 hb' r q) fun rr s' hq=>?_)
  cases rr with
  | error v=>exact hE H1 s1 v s' I1' hq
  | ok fl=>
    cases fl with
    | ret u=>exact I1'.after hq
    | next=>exact False.elim hq
    | brk=>exact False.elim hq
    | cont=>exact False.elim hq
end
section
variable {X:Cx}
theorem Jr (K:PySem.W.Frag) (hK:X.K=K:=by rfl):V8 X (.builtin "isinstance") (fun xs H Q=>∃ (a C:Addr) (dv:Option Addr) (c:V) (cv:Value) (b:Bool),xs=[.ref a,c]/\clsV c=some cv/\H a=some (.ext (IsXD a C dv))/\XCls K C/\PySem.W.kitOne K (.ref C) cv=some b/\Q (.bl b) H):=by
  subst hK
  intro pins s σ H xs us Q I r h
  obtain ⟨a,C,dv,c,cv,b,rfl,hc,ha,F,e,q⟩:=h
  obtain ⟨u,w',rfl,r1,r2⟩:=vals2 r
  cases r1
  rw [clsV_rel hc r2]
  exact PySem.W.kia_one (kitx_exc F) I.kIn (I.hok a _ ha).1.x e (fun z=>nomatch z) fun tk=>⟨.bl b,H,I.tok tk,rfl,q⟩
end
end L2
namespace L2
open PySem PySem.Spec PyProof.Rows
section
variable {X:Cx}
end
end L2
namespace L2
open PySem PySem.Spec PyProof.Rows PySem.W PySem.Builtin.Getset_descriptor
section
variable {X:Cx} {pins:List (Addr × Obj)} {σ:St} {H H':Hp} {s s':Shared} {a C:Addr}
end
section
variable {X:Cx}
end
end L2
namespace L2
open PySem PySem.Spec PyProof.Rows PySem.SeqAt
section
variable {prog:Program} {w:World} {A:Around} {E:Value->Shared->Prop} {s:Shared}
end
section
variable {X:Cx}
theorem countB {bs:List Bool} {its:List Value} (r:Vals (bs.map V.bl) its):its.countP (isBoolOf true)=bs.countP id:=by
  induction bs generalizing its with
  | nil=>cases r; rfl
  | cons b bs ih=>
    cases r with
    | cons a r=>
      cases a
      rw [List.countP_cons,List.countP_cons,ih r]
      cases b <;> rfl
theorem eqB {bs:List Bool} {its:List Value} (r:Vals (bs.map V.bl) its):∀ y,y∈its->∀ (A:Around) (s:Shared),EqAt A s y (.bool true) (isBoolOf true y):=by
  induction bs generalizing its with
  | nil=>cases r; intro y hy; exact absurd hy (by simp)
  | cons b bs ih=>
    cases r with
    | cons a r=>
      cases a
      intro y hy A s
      rcases D6.mp hy with e4 | hy
      · rw [e4]; exact EqAt.bool_bool b true
      · exact ih r y hy A s
def rCountB:V->List V->Hp->VK->Prop:=fun x vs H Q=>∃ (l:Addr) (bs:List Bool),x=.ref l/\vs=[.bl true]/\H l=some (.lst (bs.map V.bl))/\Q (.int (bs.countP id:Nat)) H
theorem mt_countB:MtR X "list.count" rCountB:=by
  intro pins s σ H x vs v us Q I rx rv h
  obtain ⟨l,bs,rfl,rfl,hH,q⟩:=h
  cases rx
  obtain ⟨u,rfl,ru⟩:=rv.one
  obtain rfl:u=Value.bool true:=ru
  obtain ⟨z,its,n,r,hl,e⟩:=I.lstM hH
  refine call_meets PySem.F.slot_list_count ⟨_,e,rfl⟩ PySem.F.entry_list_count (PySem.F.args_list_count_2 _ _) (list_countAt l its.toArray n none #[] (.bool true) (isBoolOf true)) ⟨e,fun y hy=>eqB r y (by simpa using hy) _ _,?_⟩
  rw [show its.toArray.toList=its from rfl,countB r]
  exact ⟨.int _,H,I.tok _,⟨_,rfl⟩,q⟩
def rIndexB:V->List V->Hp->VK->Prop:=fun x vs H Q=>∃ (l:Addr) (bs:List Bool) (j:Nat),x=.ref l/\vs=[.bl true]/\H l=some (.lst (bs.map V.bl))/\bs.length<=1000/\bs[j]?=some true/\(∀ m,m < j->bs[m]?=some false)/\Q (.int (j:Nat)) H
theorem mt_indexB:MtR X "list.index" rIndexB:=by
  intro pins s σ H x vs v us Q I rx rv h
  obtain ⟨l,bs,j,rfl,rfl,hH,hz,hj,hno,q⟩:=h
  cases rx
  obtain ⟨u,rfl,ru⟩:=rv.one
  obtain rfl:u=Value.bool true:=ru
  obtain ⟨z,its,n,r,hl,e⟩:=I.lstM hH
  rw [O5] at hl
  have lj:j < bs.length:=(O0.mp hj).1
  have at':∀ m (hm:m < its.toArray.size) b,bs[m]?=some b->its.toArray[m]=Value.bool b:=fun m hm b hb=>by
    obtain ⟨u,hu,ru⟩:=r.get (show (bs.map V.bl)[m]?=some (V.bl b) by rw [E5,hb]; rfl)
    obtain rfl:u=Value.bool b:=ru
    have:its.toArray[m]?=some (Value.bool b):=by simpa using hu
    exact (Array.getElem?_eq_some_iff.mp this).2
  refine call_meets PySem.F.slot_list_index ⟨_,e,rfl⟩ PySem.F.entry_list_index (PySem.F.args_list_index_2 _ _)
    (list_indexAt l its.toArray n none #[] (.bool true) (isBoolOf true) j (by rw [O4,<- hl]; exact lj) (by omega) ?_ ?_) ⟨e,fun y hy=>eqB r y (by simpa using hy) _ _,⟨.int _,H,I.tok _,⟨_,rfl⟩,q⟩⟩
  · rw [at' j _ true hj]; rfl
  · intro m hm hlt
    rw [at' m hm false (hno m hlt)]; rfl
def tTryDa (sp:Sp) (ta:TA) (i:Nat) (ok:Value->Addr->Prop) (ts:Addr->TS) (set:V->St->St):TS:=fun D σ H=>ta σ H fun vs H1=>sp vs H1 (fun v H2=>D.nx (set v σ) H2)
  (fun c dv H2=>∃ C,c=.ref C/\ok c C/\∀ a,H2 a=none->ts a { nx:=fun σ3 H3=>D.nx (σ3.set i none) H3,rt:=fun _ _=>False } (σ.set i (some (.ref a))) (upd H2 a (.ext (IsXD a C dv))))
theorem ps_tryEDa {f:Addr} {fd:FuncData} {k:Nat} {ps:List Str} {sp:Sp} {g cn n:Str} {i:Nat} {CC:Addr} {p cpos epos np hpos pos:Pos} {e:Expr} {es:List Expr} {ta:TA} {b₀:Stmt} {suite:List Stmt} {ts:Addr->TS}
    (F:FnOk X.prog X.w X.K X.mg X.base (CXD X.prog X.w) k f fd ps sp) (hr:Room k X.A) (hm:X.mg g=some (.ref f)) (hkp:PySem.W.keepIn X.K (.ref f)=true) (hb:Binds X.K fd ps []) (ha:PA X.nox (e :: es) ta)
    (hN:X.N.Nodup) (hi:X.N[i]?=some n) (hk:X.env.scope.names.lookup n=some .local) (hsuite:∀ a,PSs (K6 X a) (b₀ :: suite) (ts a)) (hcm:X.mg cn=some (.ref CC))
    (hg:Gl X g:=by rfl) (hgc:Gl X cn:=by rfl) (hex:∀ b,b∉X.ex:=by intro b z; exact absurd (show b∈([]:List Addr) from z) (by simp)) (hst:X.stack=X.env :: X.outer:=by rfl) (hfr:X.env.frame=some X.env.locals:=by rfl)
    (hdb:(g == ("__debug__" : Str))=false:=by decide) (hdbc:(cn == ("__debug__" : Str))=false:=by decide) (he:starEach (e :: es) X.env=(false,eval e X.env) :: starEach es X.env:=by rfl) (hpl:(backTo cpos (starEach es X.env)).any (·.1)=false:=by rfl)
    (hsw:swapsWith (.Call (.Name g p) (e :: es) [] cpos) none epos.line X.env=pure false:=by rfl) :
    PS X (.Try [.Expr (.Call (.Name g p) (e :: es) [] cpos) epos] [.ExceptHandler (some (.Name cn np)) (some n) (b₀ :: suite) hpos] [] [] pos) (tTryDa sp ta i (fun c _=>PySem.W.exmOne X.K c (.ref CC)=some true) ts (fun _ σ=>σ)):=by
  intro pins s σ H D I h
  refine wpAny_Try_except (wpAny_execs_cons (wpAny_Expr_any (thn (call_xG F hr hm hkp hb ha hg I h ?_ hdb he hpl) fun v s1 ⟨x,H1,I1,r1,q1⟩=>wpAny_execs_nil (wpAny_execs_nil ⟨σ,H1,I1,q1⟩)) I.quiet hsw))
  intro H1 s1 v s' I1 hx
  obtain ⟨a,cls,a0,dv,H',B,rfl,Fl,dd,C,rfl,hok,q⟩:=hx
  exact handleD hN hi hk hex hst hfr hgc hcm hok I1 Fl dd (hsuite a) (q a Fl.new.2) hdbc
end
end L2
namespace L2
open PySem PySem.Spec PyProof.Rows PySem.SeqAt
section
variable {X:Cx}
end
end L2
namespace L2
open PySem PySem.Spec PyProof.Rows
section
variable {X:Cx}
def rCatT0 (K:PySem.W.Frag):R2:=fun x y H Q=>∃ a b ys,x=.ref a/\y=.ref b/\SqT K H a []/\SqT K H b ys/\Q (.ref b) H
theorem op_catT0:OpR X (binaryOp .Add) (rCatT0 X.K):=by
  intro pins s σ H x y v u Q I rx ry h
  obtain ⟨a,b,ys,rfl,rfl,ha,hb,q⟩:=h
  cases rx
  cases ry
  obtain ⟨its,r1,p1,_⟩:=I.tuple ha
  obtain ⟨its2,r2,p2,_⟩:=I.tuple hb
  have e1:its=[]:=r1.nil_iff.mpr rfl
  subst e1
  obtain ⟨⟨cls,dd,data,sl⟩,ho,hc,n,hd⟩:=id p1
  obtain ⟨⟨cls2,dd2,data2,sl2⟩,ho2,hc2,n2,hd2⟩:=id p2
  simp only at hc hd hc2 hd2
  subst hc hd hc2 hd2
  exact concat_meets ⟨_,ho,rfl⟩ ⟨_,ho2,rfl⟩ noFill_tuple_add seq_tuple_add PySem.F.slot_tuple_add PySem.F.entry_tuple_add (PySem.F.args_tuple_add_2 _ _)
    (tuple_addW0 a b ([]:List Value).toArray its2.toArray n n2 dd dd2 sl sl2 (by simp)) ⟨ho,ho2,⟨.ref b,H,I,rfl,q⟩⟩
abbrev rCat2 (K:PySem.W.Frag):R2:=fun x y H Q=>rCatT K x y H Q\/rCatT0 K x y H Q
theorem op_cat2:OpR X (binaryOp .Add) (rCat2 X.K):=op_catT.or op_catT0
end
end L2
namespace L2
open PySem PySem.Spec PyProof.Rows
def PTs (X:Cx) (ifs:List Expr) (t:TT):Prop:=
  ∀ (pins:List (Addr × Obj)) (s:Shared) (σ:St) (H:Hp) (Q:Bool->Hp->Prop),Inv X pins σ H s->t σ H Q ->
    wpAny (model X.prog X.w) X.A (forIn ifs true fun c r=>if r=true then do let ok <- isTrue c X.env (eval c X.env); pure (ForInStep.yield ok) else pure (ForInStep.yield r)) (TP X pins σ Q) X.xe s
def tTrue:TT:=fun _ H Q=>Q true H
theorem pts_nil {X:Cx}:PTs X [] tTrue:=fun _ _ _ H _ I h=>wpAny_tests_nil ⟨H,I,h⟩
theorem pts_one {X:Cx} {c:Expr} {t:TT} (h:PT X c t):PTs X [c] t:=fun pins s σ H Q I q=>wpAny_tests_one (h pins s σ H Q I q)
def compBodyT (J:It) (cap:List (Option Nat)) (g:TG) (tt:TT) (te:TE) (σ:St) (H1:Hp) (Q:VK):Prop:=∀ acc,H1 acc=none ->
  ∃ W:Nat->Nat->List V->St->Hp->Prop,(∃ m,W 0 m [] (jq cap σ) (upd H1 acc (.lst [])))/\∀ i m ys σ' H',W i m ys σ' H'->H' acc=some (.lst ys) /\
    ((J.stop i H'/\Q (.ref acc) H')\/(J.go i H'/\ys.length < sizeLine/\∀ x H2,J.yld i H' x H2->g x σ' H2 fun σ3 H3=>tt σ3 H3 fun b H4=>
      if b=true then te σ3 H4 fun y H5=>H5 acc=some (.lst ys)/\∃ m',m' < m/\W (i + 1) m' (ys ++ [y]) σ3 (upd H5 acc (.lst (ys ++ [y])))
      else ∃ m',m' < m/\W (i + 1) m' ys σ3 H4))
def tCompT (cap:List (Option Nat)) (wi:TI) (g:TG) (tt:TT) (te:TE):TE:=fun σ H Q=>wi σ H fun J H1=>compBodyT J cap g tt te σ H1 Q
section
variable {prog:Program} {w:World} {A:Around} {R:Result->Shared->Prop} {s:Shared}
theorem Q24 {elt target iter:Expr} {ifs:List Expr} {scope:Scope} {pos:Pos} {it acc:Value} {env:Env} (I:Nat->Shared->Prop)
    (turn:∀ n s,I n s->wpAny (model prog w) A (pyNext it) (fun r s₁=>match r with
      | none=>R (.ok .next) s₁
      | some v=>wpAny (model prog w) A (letOwnedTupleGo target it v) (fun _ s₁'=>wpAny (model prog w) A (assign target env v) (fun _ s₂=>
          wpAny (model prog w) A (forIn ifs true fun c r=>if r=true then do let ok <- isTrue c env (eval c env); pure (ForInStep.yield ok) else pure (ForInStep.yield r)) (fun ok s₃=>
            if ok=true then wpAny (model prog w) A (eval elt env) (fun x s₄=>
              wpAny (model prog w) A (call (.builtin "list.append") [acc,x]) (fun _ s₅=>∃ m,m < n/\I m s₅) (fun _ _=>False) s₄) (fun _ _=>False) s₃
            else ∃ m,m < n/\I m s₃) (fun _ _=>False) s₂)
          (fun _ _=>False) s₁') (fun _ _=>False) s₁) (fun _ _=>False) s)
    (n:Nat) (h:I n s):codeAny (model prog w) A (.compLoop (.ListComp elt [⟨target,iter,ifs,0⟩] scope pos) 0 it acc env) R s:=by
  refine codeAny_loop rfl I (fun n s hI=>?_) n h
  show wpAny _ A ((compTurn (.ListComp elt [⟨target,iter,ifs,0⟩] scope pos) 0 it acc env).onRaise (fun x=>do noteFrame x env; theTreesLotGoes x)) _ _ s
  refine wpAny_noted ?_
  rw [compTurn_list]
  refine wpAny_bind (wpAny_standAt (wpAny_bind (wpAny_mono (turn n s hI) (fun r s₁ h₁=>?_) fun _ _ h'=>h'.elim)))
  cases r with
  | none=>exact wpAny_pure h₁
  | some v=>
    refine wpAny_bind (wpAny_mono h₁ (fun _ s₁' h₁'=>?_) fun _ _ h'=>h'.elim)
    refine wpAny_bind (wpAny_mono h₁' (fun _ s₂ h₂=>wpAny_bind (wpAny_mono h₂ (fun ok s₃ h₃=>?_) fun _ _ h'=>h'.elim)) fun _ _ h'=>h'.elim)
    cases ok with
    | true=>
      rw [if_pos rfl] at h₃
      exact wpAny_bind (wpAny_bind (wpAny_mono h₃ (fun x s₄ h₄=>wpAny_bind (wpAny_mono h₄ (fun _ s₅ h₅=>wpAny_pure (wpAny_pure ⟨rfl,h₅⟩)) fun _ _ h'=>h'.elim)) fun _ _ h'=>h'.elim))
    | false=>
      rw [if_neg O9] at h₃
      exact wpAny_bind (wpAny_pure (wpAny_pure ⟨rfl,h₃⟩))
end
section
variable {X:Cx}
theorem comp_coreT {elt tg iter:Expr} {ifs:List Expr} {tt:TT} {pos:Pos} {N N':List Str} {sc scE:Scope} {cap:List (Option Nat)} {wi:TI} {g:TG} {te:TE} {use:Option (Value->Sem Unit)} {QQ:Value->Shared->Prop} (hcalm:X.calm=true) (hi:PI X tg iter wi)
    (hg:∀ cl C s0 H0 ex,PG (Va X N' sc cl C s0 H0 ex) tg g) (he:∀ cl C s0 H0 ex,PE (Va X N' sc cl C s0 H0 ex) elt te) (htt:∀ cl C s0 H0 ex,PTs (Va X N' sc cl C s0 H0 ex) ifs tt)
    (hN:X.N=N) (hE:X.env.scope=scE) (hc:compOkC N N' sc scE cap=true) (hs:∀ x,foldedSetIterable iter X.env x=pure x)
    {pins:List (Addr × Obj)} {s:Shared} {σ:St} {H:Hp} {Q:VK} (I:Inv X pins σ H s) (h:tCompT cap wi g tt te σ H Q)
    (fin:∀ acc C H' s' m,Inv X pins σ H' s'->s'.heap.Ns C m->Q1q X pins H' C->Q (.ref acc) H'->compPost (model X.prog X.w) X.A X.xe use QQ (.ref acc) C (.ok .next) s') {pos':Pos} :
    wpAny (model X.prog X.w) X.A (comprehension (.ListComp elt [⟨tg,iter,ifs,0⟩] sc pos) sc X.env pos' (newList []) false (eval iter X.env) use) QQ X.xe s:=by
  have ck:=compOkC.of hc
  obtain ⟨cl,hcl,c1,c2⟩:=closure_of (scope:=sc) (env:=X.env) fun x hx hf=>I.ok.has x.1 (by
    have:=ck.fre x hx hf
    rw [<- hE] at this
    exact this)
  refine wpAny_comprehension_free (use:=use) rfl hs hcl ck.kind ck.loc (thn (hi pins s σ H _ I h) fun v s1 h1=>thn h1 fun itv s2 h2=>?_)
  obtain ⟨it,fp,tn,J,H2,e,I2,T,st2,f2,hw⟩:=h2
  subst e
  have fsz:∀ b∈fp,b < s2.heap.objs.size:=fun b hb=>by
    obtain ⟨o,e,_⟩:=T.obj _ _ st2 b hb
    exact O7 e
  obtain ⟨W,⟨m0,w0⟩,turn⟩:=hw s2.heap.objs.size I2.fresh
  refine wpAny_newObj_type (Q1r ?_)
  dsimp only
  have I3:Inv X pins σ (upd H2 s2.heap.objs.size (.lst [])) { s2 with heap:=s2.heap.push { cls:=.type "list",data:=.seq ([]:List Value).toArray } }:=
    I2.lnew (its:=[]) (ys:=[]) (t':=s2.toks) .nil (Nat.zero_le _)
  generalize hs3:({ s2 with heap:=s2.heap.push { cls:=.type "list",data:=.seq ([]:List Value).toArray } }:Shared)=s3 at I3
  have hh3:s3.heap=s2.heap.push { cls:=.type "list",data:=.seq ([]:List Value).toArray }:=by rw [<- hs3]
  have hsz:s3.heap.objs.size=s2.heap.objs.size + 1:=by rw [hh3,F8]
  have f3:∀ b∈fp,Q1q X pins (upd H2 s2.heap.objs.size (.lst [])) b:=fun b hb=>by
    obtain ⟨g0,g1⟩:=f2 b hb
    exact ⟨by rw [Q7 (D7 (fsz b hb))]; exact g0,g1⟩
  have k3:∀ b o,s2.heap.get? b=some o->s3.heap.get? b=some o:=fun b o e=>by rw [hh3]; exact O1 _ e
  obtain ⟨cl',hcl'⟩:∃ cl',cellsFrom (s3.heap.objs.size + 1) sc.names cl=cl':=⟨_,rfl⟩
  obtain ⟨h₁,hh₁⟩:∃ h₁,pushCells (s3.heap.push { cls:=.type "dict",data:=.dict #[] }) sc.names=h₁:=⟨_,rfl⟩
  have k1:∀ b o,s3.heap.get? b=some o->h₁.get? b=some o:=fun b o e=>by rw [<- hh₁]; exact pushCells_keeps _ _ b o (O1 _ e)
  have c1':∀ x c,cl'.lookup x=some c->cl.lookup x=some c\/s3.heap.objs.size + 1<=c:=fun x c e=>by
    rw [<- hcl'] at e
    have:=Wm (sc.names) (s3.heap.push { cls:=.type "dict",data:=.dict #[] }) cl x c (by rw [F8]; exact e)
    rcases this with z | ⟨_,z,_⟩
    · exact .inl z
    · rw [F8] at z; exact .inr z
  have I4:Inv (Va X N' sc cl' s3.heap.objs.size s3 (upd H2 s2.heap.objs.size (.lst [])) fp) [] (jq cap σ) (upd H2 s2.heap.objs.size (.lst [])) { s3 with heap:=h₁ }:=by
    rw [<- hcl',<- hh₁]
    exact blk_invC I3 hN hE ck c1 c2 f3 (fun b hb=>D2 (fsz b hb) (by rw [hsz]; exact Nat.le_succ _))
  have st4:tn 0 h₁:=T.keep _ _ _ st2 fun b hb o e=>k1 b o (k3 b o e)
  generalize hX':Va X N' sc cl' s3.heap.objs.size s3 (upd H2 s2.heap.objs.size (.lst [])) fp=X' at I4
  have hxe:X'.xe=fun _ _=>False:=by rw [<- hX']; rfl
  have hprog:X'.prog=X.prog:=by rw [<- hX']; rfl
  have hww:X'.w=X.w:=by rw [<- hX']; rfl
  have hKK:X'.K=X.K:=by rw [<- hX']; rfl
  have hAA:X'.A=X.A:=by rw [<- hX']; rfl
  have hcc:X'.calm=true:=by rw [<- hX']; exact hcalm
  have henv:X'.env=compEnvC sc cl' s3.heap.objs.size X.env:=by rw [<- hX']; rfl
  have hloc:X'.env.locals=s3.heap.objs.size:=by rw [henv]; rfl
  have hg':PG X' tg g:=by rw [<- hX']; exact hg _ _ _ _ _
  have he':PE X' elt te:=by rw [<- hX']; exact he _ _ _ _ _
  have htt':PTs X' ifs tt:=by rw [<- hX']; exact htt _ _ _ _ _
  have stat:∀ {H':Hp},(∀ b∈fp,H' b=none)->∀ b∈fp,Q1q X' [] H' b:=fun {H'} hn b hb=>by
    obtain ⟨_,g1,g2,g3,g4,g5⟩:=f3 b hb
    refine ⟨hn b hb,by rw [hloc,hsz]; exact D7 (Nat.lt_succ_of_lt (fsz b hb)),?_,?_,?_,fun p hp=>?_⟩
    · rw [<- hX']
      intro z
      rcases D6.mp (I3.stkSub b z) with e | z
      · exact g1 e
      · exact g2 z
    · left
      rw [<- hX']
      exact hb
    · intro x c e
      rw [henv] at e
      rcases c1' x c e with z | z
      · exact g4 x c (c1 x c z)
      · exact fun q=>absurd (D2 (fsz b hb) (E2 (E2 (Nat.le_succ _) (hsz ▸ Nat.le_succ _)) (q ▸ z))) (Nat.lt_irrefl _)
    · rw [<- hX'] at hp
      cases hp
  have fin':∀ {σ':St} {H':Hp} {s':Shared},Inv X' [] σ' H' s'->Q (.ref s2.heap.objs.size) H'->compPost (model X.prog X.w) X.A X.xe use QQ (.ref s2.heap.objs.size) s3.heap.objs.size (.ok .next) s':=fun {σ' H' s'} J q=>by
    obtain ⟨mm,hmm,_⟩:=J.loc
    rw [hloc] at hmm
    have hfree:H' s3.heap.objs.size=none:=by have:=J.free; rw [hloc] at this; exact this
    have hok:=J.hok
    rw [hprog,hww] at hok
    have u1:Un (frs X.stack) fp (upd H2 s2.heap.objs.size (.lst [])) H' s3.heap s'.heap:=by
      have:=J.base
      rw [<- hX'] at this
      exact this
    have hos:s'.os=s3.os:=by have:=J.os; rw [<- hX'] at this; exact this
    refine fin _ _ H' s' mm (I3.call' (s':=s') hos u1 hok J.bare fun b hb=>?_) hmm (I3.fpOk (O6 _) hfree) q
    obtain ⟨_,g1,g2,g3,g4,g5⟩:=f3 b hb
    exact ⟨g3,g1,g4,g5⟩
  have loop:codeAny (model X.prog X.w) X.A (.compLoop (.ListComp elt [⟨tg,iter,ifs,0⟩] sc pos) 0 (.ref it) (.ref s2.heap.objs.size) X'.env)
      (compPost (model X.prog X.w) X.A X.xe use QQ (.ref s2.heap.objs.size) s3.heap.objs.size) { s3 with heap:=h₁ }:=by
    refine Q24 (fun n s'=>∃ i ys σ' H',Inv X' [] σ' H' s'/\tn i s'.heap/\(∀ b∈fp,H' b=none)/\W i n ys σ' H') ?_ m0 ⟨0,[],_,_,I4,st4,fun b hb=>(f3 b hb).1,w0⟩
    rintro n s5 ⟨i,ys,σ5,H5,I5,st5,fr5,w5⟩
    obtain ⟨hacc,q⟩:=turn i n ys σ5 H5 w5
    rcases q with ⟨stop,q⟩ | ⟨go,hlen,step⟩
    · refine thn (hAA ▸ T.done X' hprog hww hKK hcc i [] s5 σ5 H5 _ I5 (stat fr5) st5 stop) fun r s6 ⟨hr,I6⟩=>?_
      subst hr
      exact fin' I6 q
    · refine thn (hAA ▸ T.item X' hprog hww hKK hcc i [] s5 σ5 H5 _ I5 (stat fr5) st5 go) fun r s6 ⟨u,hr,h6⟩=>?_
      subst hr
      refine thn h6 fun _ s7 ⟨x,H7,I7,r7,y7,st7,fr7⟩=>?_
      have I7':=I7.pinned (stat fr7) (T.obj _ _ st7)
      have g7:=hg' _ s7 σ5 H7 x u _ I7' r7 (step x H7 y7)
      rw [hprog,hww,hAA,hxe] at g7
      refine thn g7 fun _ s8 ⟨σ8,H8,I8,q8⟩=>?_
      have t8:=htt' _ s8 σ8 H8 _ I8 q8
      rw [hprog,hww,hAA,hxe] at t8
      refine thn t8 fun okb s8t ⟨H8t,I8t,q8t⟩=>?_
      cases okb with
      | false=>
        rw [if_neg O9] at q8t ⊢
        obtain ⟨m',hm',w9⟩:=q8t
        refine ⟨m',hm',i + 1,_,σ8,_,I8t.unpinned,T.keep _ _ _ st7 fun b hb o eo=>(I8t.pin (b,o) (E6 _ (E6 _ (V0 hb eo)))).1,fun b hb=>?_,w9⟩
        obtain ⟨o,eo,d⟩:=T.obj _ _ st7 b hb
        exact (I8t.pin (b,o) (E6 _ (E6 _ (V0 hb eo)))).2.1
      | true=>
      rw [if_pos rfl] at q8t ⊢
      have g8:=he' _ s8t σ8 H8t _ I8t q8t
      rw [hprog,hww,hAA,hxe] at g8
      refine thn g8 fun y s9 ⟨yv,H9,I9,r9,a9,m',hm',w9⟩=>?_
      obtain ⟨z,its,nn,rr,hl,e⟩:=I9.lstM a9
      refine call_meets F.slot_list_append ⟨_,e,rfl⟩ F.entry_list_append (F.args_list_append_2 _ _) (PySem.list_append _ its.toArray nn y (by rw [O4]; omega)) ⟨e,?_⟩
      have I10:Inv X' ([] ++ Q0m fp s7.heap) σ8 (upd H9 s2.heap.objs.size (.lst (ys ++ [yv]))) { s9 with heap:=s9.heap.update s2.heap.objs.size (Obj.mapSeq fun a=>a.push y) }:=
        I9.lset (t':=s9.toks) (its':=its ++ [y]) a9 e (by simp) (rr.append (.cons r9 .nil)) (by rw [D5,List.length_singleton]; omega)
      refine ⟨m',hm',i + 1,_,σ8,_,I10.unpinned,T.keep _ _ _ st7 fun b hb o eo=>(I10.pin (b,o) (E6 _ (E6 _ (V0 hb eo)))).1,fun b hb=>?_,w9⟩
      obtain ⟨o,eo,d⟩:=T.obj _ _ st7 b hb
      exact (I10.pin (b,o) (E6 _ (E6 _ (V0 hb eo)))).2.1
  rw [henv] at loop
  have goal:=codeAny_compStart_list (rest:=[]) (ifs:=ifs) loop (T.self X.A 0 _ _ _ st4 loop)
  subst hs3
  rw [<- hcl',<- hh₁] at goal
  exact goal
theorem pe_compT {elt tg iter:Expr} {ifs:List Expr} {tt:TT} {pos:Pos} {N N':List Str} {sc scE:Scope} {cap:List (Option Nat)} {wi:TI} {g:TG} {te:TE} (hcalm:X.calm=true) (hi:PI X tg iter wi)
    (hg:∀ cl C s0 H0 ex,PG (Va X N' sc cl C s0 H0 ex) tg g) (he:∀ cl C s0 H0 ex,PE (Va X N' sc cl C s0 H0 ex) elt te) (htt:∀ cl C s0 H0 ex,PTs (Va X N' sc cl C s0 H0 ex) ifs tt)
    (hN:X.N=N:=by rfl) (hE:X.env.scope=scE:=by rfl) (hc:compOkC N N' sc scE cap=true:=by decide +kernel) (hs:∀ x,foldedSetIterable iter X.env x=pure x:=by intro _; rfl) :
    PE X (.ListComp elt [⟨tg,iter,ifs,0⟩] sc pos) (tCompT cap wi g tt te):=by
  intro pins s σ H Q I h
  rw [eval_ListComp]
  refine comp_coreT (use:=none) hcalm hi hg he htt hN hE hc hs I h fun acc C H' s' m I' hm hf q=>⟨m,hm,fun h' hs'=>?_⟩
  obtain ⟨f0,f1,f2,f3,f4,f5⟩:=hf
  exact ⟨.ref acc,H',I'.turned (t':=s'.toks) (fun b o hb e=>(hs'.2 b hb).trans e) f0 f1 f3 f4 f5,rfl,q⟩
end
end L2
namespace L2
open PySem PySem.Spec PyProof.Rows
section
variable {X:Cx} {e e3:Expr} {te t3:TE} {pos p2:Pos}
end
end L2
namespace L2
open PySem PySem.Spec PyProof.Rows
theorem vals_range {its:List Value} {n:Nat} (hl:its.length=n) (h:∀ (j:Nat) (v:Value),its[j]?=some v->∃ t,v=Value.int (j:Int) t):Vals ((List.range n).map fun (k:Nat)=>V.int (k:Int)) its:=by
  induction n generalizing its with
  | zero=>
    have:its=[]:=List.eq_nil_of_length_eq_zero hl
    subst this
    exact .nil
  | succ n ih=>
    rcases List.eq_nil_or_concat its with rfl | ⟨pre,v,rfl⟩
    · simp at hl
    · rw [List.concat_eq_append] at hl h ⊢
      have hp:pre.length=n:=by simp at hl; exact hl
      rw [List.range_succ,F7]
      refine (ih hp fun j u hu=>h j u ?_).append ?_
      · rw [O3 (O0.mp hu).1]; exact hu
      · obtain ⟨t,rfl⟩:=h n v (by rw [O8 (by omega),hp]; simp)
        exact .cons ⟨t,rfl⟩ .nil
section
variable {X:Cx} {a:Expr} {ta:TA} {p p' pos pos':Pos}
end
end L2
namespace L2
open PySem PySem.Spec PyProof.Rows
section
variable {X:Cx}
end
end L2
namespace L2
open PySem PySem.Spec PyProof.Rows
section
variable {κ:Type} [DecidableEq κ]
def Uv (kvs:List (κ × V)) (k:κ):Option V:=(kvs.find? fun kv=>decide (kv.1=k)).map (·.2)
def Uk (kvs:List (κ × V)) (k:κ) (v:V):List (κ × V):=
  if (kvs.any fun kv=>decide (kv.1=k))=true then kvs.map (fun kv=>if kv.1=k then (kv.1,v) else kv) else kvs ++ [(k,v)]
theorem xu {p:κ × V} {r:List (κ × V)} {k:κ} (e:p.1=k):Uv (p :: r) k=some p.2:=by simp [Uv,F3,e]
theorem xw {p:κ × V} {r:List (κ × V)} {k:κ} (e:¬ p.1=k):Uv (p :: r) k=Uv r k:=by simp [Uv,F3,e]
theorem valV_any (k:κ):∀ kvs:List (κ × V),(kvs.any fun kv=>decide (kv.1=k))=(Uv kvs k).isSome
  | []=>rfl
  | p :: r=>by
    rw [List.any_cons]
    by_cases e:p.1=k
    · simp only [xu e,decide_eq_true e,Bool.true_or,Option.isSome_some]
    · rw [xw e,decide_eq_false e,Bool.false_or]; exact valV_any k r
theorem Xy (kvs:List (κ × V)) (k:κ) (v:V):(Uk kvs k v).length<=kvs.length + 1:=by
  unfold Uk
  split
  · rw [O5]; omega
  · rw [D5,F1,List.length_nil]; omega
theorem RelO.isSome_eq {o:Option V} {u:Option Value} (r:RelO o u):o.isSome=u.isSome:=by
  cases o with
  | none=>cases u with
    | none=>rfl
    | some _=>exact (show False from r).elim
  | some _=>cases u with
    | none=>exact (show False from r).elim
    | some _=>rfl
theorem KV.val {kvs:List (κ × V)} {vs:List (κ × Value)} (r:KV kvs vs) (k:κ):RelO (Uv kvs k) (valueAt vs k):=by
  unfold KV at r
  induction r with
  | nil=>exact True.intro
  | @cons p q ps qs h t ih=>
    obtain ⟨h1,h2⟩:=h
    by_cases e:p.1=k
    · have e':q.1=k:=h1.symm.trans e
      have b:valueAt (q :: qs) k=some q.2:=by simp [valueAt,F3,e']
      rw [xu e,b]; exact h2
    · have e':¬ q.1=k:=fun z=>e (h1.trans z)
      have b:valueAt (q :: qs) k=valueAt qs k:=by simp [valueAt,F3,e']
      rw [xw e,b]; exact ih
theorem KV.any {kvs:List (κ × V)} {vs:List (κ × Value)} (r:KV kvs vs) (k:κ):(kvs.any fun kv=>decide (kv.1=k))=vs.any fun kv=>decide (kv.1=k):=by
  unfold KV at r
  induction r with
  | nil=>rfl
  | cons h t ih=>rw [List.any_cons,List.any_cons,ih,h.1]
theorem KV.repl {kvs:List (κ × V)} {vs:List (κ × Value)} (r:KV kvs vs) (k:κ) {y:V} {u:Value} (ry:RelV y u) :
    KV (kvs.map fun kv=>if kv.1=k then (kv.1,y) else kv) (vs.map fun kv=>if kv.1=k then (kv.1,u) else kv):=by
  unfold KV at r ⊢
  induction r with
  | nil=>exact .nil
  | @cons p q ps qs h t ih=>
    rw [D0,D0]
    refine .cons ?_ ih
    obtain ⟨h1,h2⟩:=h
    by_cases e:p.1=k
    · rw [if_pos e,if_pos (h1.symm.trans e)]; exact ⟨h1,ry⟩
    · rw [if_neg e,if_neg (fun z=>e (h1.trans z))]; exact ⟨h1,h2⟩
theorem KV.put {kvs:List (κ × V)} {vs:List (κ × Value)} (r:KV kvs vs) (k:κ) {y:V} {u:Value} (ry:RelV y u):KV (Uk kvs k y) (stored vs k u):=by
  unfold Uk stored
  rw [r.any k]
  by_cases e:(vs.any fun kv=>decide (kv.1=k))=true
  · rw [if_pos e,if_pos e]; exact r.repl k ry
  · rw [if_neg e,if_neg e]; exact Paired.snoc r ⟨rfl,ry⟩
theorem KV.length {kvs:List (κ × V)} {vs:List (κ × Value)} (r:KV kvs vs):kvs.length=vs.length:=Paired.length r
end
theorem Q1a {P:Program} {w:World} {k:Key} {u:Value} (r:RelV (kV k) u):(Z0 P w).is k u=true:=by
  cases k with
  | inl i=>obtain ⟨t,e⟩:=(show ∃ t,u=Value.int i t from r); subst e; exact mixKind_int P w i t
  | inr x=>obtain ⟨t,e⟩:=(show ∃ t,u=Value.str x t from r); subst e; exact mixKind_str P w x t
theorem items_are {P:Program} {w:World}:∀ {ks:List Key} {us:List Value},Vals (ks.map kV) us->ItemsAre (Z0 P w) ks us
  | [],_,r=>by rw [List.map_nil] at r; cases r; exact .nil
  | k :: ks,_,r=>by
    rw [D0] at r
    cases r with
    | cons h t=>exact .cons (Q1a h) (items_are t)
abbrev KT (H:Hp):List (List Key × V)->List (List Key × Addr × Value)->Prop:=Paired fun p q=>p.1=q.1/\H q.2.1=some (.tup (p.1.map kV))/\RelV p.2 q.2.2
theorem KT.val {H:Hp} {kvs:List (List Key × V)} {xs:List (List Key × Addr × Value)} (r:KT H kvs xs) (k:List Key):RelO (Uv kvs k) ((atKey xs k).map (·.2)):=by
  induction r with
  | nil=>exact True.intro
  | @cons p q ps qs h t ih=>
    obtain ⟨h1,_,h2⟩:=h
    by_cases e:p.1=k
    · have e':q.1=k:=h1.symm.trans e
      have b:atKey (q :: qs) k=some q.2:=by simp [atKey,F3,e']
      rw [xu e,b]; exact h2
    · have e':¬ q.1=k:=fun z=>e (h1.trans z)
      have b:atKey (q :: qs) k=atKey qs k:=by simp [atKey,F3,e']
      rw [xw e,b]; exact ih
theorem KT.repl {H:Hp} {kvs:List (List Key × V)} {xs:List (List Key × Addr × Value)} (r:KT H kvs xs) (k:List Key) {y:V} {u:Value} (ry:RelV y u) :
    KT H (kvs.map fun kv=>if kv.1=k then (kv.1,y) else kv) (xs.map (putAt k u)):=by
  induction r with
  | nil=>exact .nil
  | @cons p q ps qs h t ih=>
    rw [D0,D0]
    refine .cons ?_ ih
    obtain ⟨h1,h2,h3⟩:=h
    unfold putAt
    by_cases e:p.1=k
    · rw [if_pos e,if_pos (h1.symm.trans e)]; exact ⟨h1,h2,ry⟩
    · rw [if_neg e,if_neg (fun z=>e (h1.trans z))]; exact ⟨h1,h2,h3⟩
theorem KT.put {H:Hp} {kvs:List (List Key × V)} {xs:List (List Key × Addr × Value)} (r:KT H kvs xs) (k:List Key) {b:Addr} {y:V} {u:Value} (hb:H b=some (.tup (k.map kV))) (ry:RelV y u) :
    KT H (Uk kvs k y) (storedH xs k b u):=by
  have e:(kvs.any fun kv=>decide (kv.1=k))=(atKey xs k).isSome:=by
    rw [valV_any,(r.val k).isSome_eq,Option.isSome_map]
  unfold Uk storedH
  rw [e]
  by_cases q:(atKey xs k).isSome=true
  · rw [if_pos q,if_pos q]; exact r.repl k ry
  · rw [if_neg q,if_neg q]; exact Paired.snoc r ⟨rfl,hb,ry⟩
theorem KT.keeps {H H':Hp} {kvs:List (List Key × V)} {xs:List (List Key × Addr × Value)} (r:KT H kvs xs) (ht:∀ b ys,H b=some (.tup ys)->H' b=some (.tup ys)):KT H' kvs xs:=
  Paired.mapP r fun _ _ z=>⟨z.1,ht _ _ z.2.1,z.2.2⟩
section
variable {P:Program} {w:World} {H:Hp} {h:Heap} {a:Addr}
theorem rd_of {u:HO} (ok:HOk P w H h) (e:Rd H a u):ObjOk P w H h a u:=e.ok ok
theorem Q1g {kvs:List (Key × V)} (ok:HOk P w H h) (e:Rd H a (.dK kvs)):kvs.length<=sizeLine/\(a == sysModules)=false/\∃ vs,KV kvs vs/\h.DictOf (Z0 P w) a vs:=
  show ObjOk P w H h a (.dK kvs) from rd_of ok e
theorem dk_of {kvs:List (Key × V)} (ok:HOk P w H h) (e:H a=some (.dK kvs)):kvs.length<=sizeLine/\(a == sysModules)=false/\∃ vs,KV kvs vs/\h.DictOf (Z0 P w) a vs:=Q1g ok (.inl e)
theorem Q19 {ks:List Key} (ok:HOk P w H h) (e:H a=some (.tup (ks.map kV))):(tupleKind (Z0 P w)).is h ks a:=by
  obtain ⟨_,its,r,o,h1,h2,n,h3⟩:=(show ObjOk P w H h a (.tup (ks.map kV)) from ok a _ e)
  exact ⟨o,its.toArray,n,h1,h2,h3,by simpa using items_are r⟩
theorem dt_rd {kvs:List (List Key × V)} (ok:HOk P w H h) (e:Rd H a (.dT kvs)):kvs.length<=sizeLine/\(a == sysModules)=false /\
    ∃ xs,KT H kvs xs/\h.DictOfH (tupleKind (Z0 P w)) a xs:=by
  obtain ⟨z,y,xs,r,o,es,ep,h1,h2,h3,h4,h5⟩:=(show ObjOk P w H h a (.dT kvs) from rd_of ok e)
  refine ⟨z,y,xs,r,o,es,ep,h1,h2,h3,h4,fun x hx=>?_,h5⟩
  have all:∀ {l:List (List Key × V)} {m:List (List Key × Addr × Value)},KT H l m->∀ x∈m,(tupleKind (Z0 P w)).is h x.1 x.2.1:=by
    intro l m q
    induction q with
    | nil=>intro x hx; exact nomatch hx
    | @cons p q ps qs hq t ih=>
      intro x hx
      rcases D6.mp hx with e | hx
      · subst e
        exact Q19 ok (by rw [<- hq.1]; exact hq.2.1)
      · exact ih x hx
  exact all r x hx
theorem dt_of {kvs:List (List Key × V)} (ok:HOk P w H h) (e:H a=some (.dT kvs)):kvs.length<=sizeLine/\(a == sysModules)=false /\
    ∃ xs,KT H kvs xs/\h.DictOfH (tupleKind (Z0 P w)) a xs:=dt_rd ok (.inl e)
end
def DGet (H:Hp) (a:Addr) (y:V) (r:Option V):Prop:=
  (∃ kvs k,Rd H a (.dK kvs)/\y=kV k/\r=Uv kvs k)\/∃ kvs k b,Rd H a (.dT kvs)/\y=.ref b/\H b=some (.tup (k.map kV))/\r=Uv kvs k
def DPut (H:Hp) (a:Addr) (y v:V) (H':Hp):Prop:=
  (∃ kvs k,H a=some (.dK kvs)/\y=kV k/\kvs.length < sizeLine/\H'=upd H a (.dK (Uk kvs k v))) \/
  ∃ kvs k b,H a=some (.dT kvs)/\y=.ref b/\H b=some (.tup (k.map kV))/\kvs.length < sizeLine/\H'=upd H a (.dT (Uk kvs k v))
theorem DPut.k {H:Hp} {a:Addr} {kvs:List (Key × V)} {k:Key} {v:V} (e:H a=some (.dK kvs)) (hl:kvs.length < sizeLine):DPut H a (kV k) v (upd H a (.dK (Uk kvs k v))):=.inl ⟨kvs,k,e,rfl,hl,rfl⟩
section
variable {X:Cx} {pins:List (Addr × Obj)} {σ:St} {H:Hp} {s:Shared} {a:Addr} {y v:V} {u r:Value} {o:Option V} {A:Around} {E:Value->Shared->Prop}
theorem Inv.big (I:Inv X pins σ H s):sysModules < s.heap.objs.size:=by
  have h:mainGlobals < s.heap.objs.size:=(I.mod.glob.keeps I.bk).lt
  exact Nat.lt_trans (by decide) h
theorem d_getItem {Q:Value->Shared->Prop} (hu:A.units + 1 < cLine) (I:Inv X pins σ H s) (g:DGet H a y (some v)) (ry:RelV y u) (h:∀ w' s',Inv X pins σ H s'->RelV v w'->Q w' s') :
    wpAny (model X.prog X.w) A (getItem (.ref a) u) Q E s:=by
  rcases g with ⟨kvs,k,e,ey,l⟩ | ⟨kvs,k,b,e,ey,eb,l⟩
  · subst ey
    obtain ⟨z,hd,vs,rel,dd⟩:=Q1g I.hok e
    obtain ⟨w',hw,rw'⟩:=RelO.some_of (v:=v) (o:=valueAt vs k) (by rw [l]; exact rel.val k)
    exact wpAny_getItem_of (Q1a ry) dd.mapOf hw (h w' _ (I.tok _) rw')
  · subst ey
    cases (show u=Value.ref b from ry)
    obtain ⟨z,hd,xs,rel,dd⟩:=dt_rd I.hok e
    obtain ⟨w',hw,rw'⟩:=RelO.some_of (v:=v) (o:=(atKey xs k).map (·.2)) (by rw [l]; exact rel.val k)
    obtain ⟨p,hp,hp2⟩:=Option.map_eq_some_iff.mp hw
    refine wpAny_getItem_heap (tupleKind_room_in1 hu) (Q19 I.hok eb) dd hp ?_
    rw [hp2]
    exact h w' _ (I.tok _) rw'
theorem d_in {Q:Value->Shared->Prop} (hu:A.units + 1 < cLine) (I:Inv X pins σ H s) (g:DGet H a y o) (ry:RelV y u) (h:∀ s',Inv X pins σ H s'->Q (.bool o.isSome) s') :
    wpAny (model X.prog X.w) A (compareOp .In u (.ref a)) Q E s:=by
  rcases g with ⟨kvs,k,e,ey,l⟩ | ⟨kvs,k,b,e,ey,eb,l⟩
  · subst ey
    obtain ⟨z,hd,vs,rel,dd⟩:=Q1g I.hok e
    refine wpAny_in_of (Q1a ry) hd dd.mapOf ?_
    rw [<- (rel.val k).isSome_eq,<- l]
    exact h _ (I.tok _)
  · subst ey
    cases (show u=Value.ref b from ry)
    obtain ⟨z,hd,xs,rel,dd⟩:=dt_rd I.hok e
    refine wpAny_in_heap (tupleKind_room_in1 hu) (Q19 I.hok eb) hd dd ?_
    have q:=(rel.val k).isSome_eq
    rw [Option.isSome_map] at q
    rw [<- q,<- l]
    exact h _ (I.tok _)
theorem d_notIn {Q:Value->Shared->Prop} (hu:A.units + 1 < cLine) (I:Inv X pins σ H s) (g:DGet H a y o) (ry:RelV y u) (h:∀ s',Inv X pins σ H s'->Q (.bool (!o.isSome)) s') :
    wpAny (model X.prog X.w) A (compareOp .NotIn u (.ref a)) Q E s:=by
  rcases g with ⟨kvs,k,e,ey,l⟩ | ⟨kvs,k,b,e,ey,eb,l⟩
  · subst ey
    obtain ⟨z,hd,vs,rel,dd⟩:=Q1g I.hok e
    refine wpAny_notIn_of (Q1a ry) hd dd.mapOf ?_
    rw [<- (rel.val k).isSome_eq,<- l]
    exact h _ (I.tok _)
  · subst ey
    cases (show u=Value.ref b from ry)
    obtain ⟨z,hd,xs,rel,dd⟩:=dt_rd I.hok e
    refine wpAny_notIn_heap (tupleKind_room_in1 hu) (Q19 I.hok eb) hd dd ?_
    have q:=(rel.val k).isSome_eq
    rw [Option.isSome_map] at q
    rw [<- q,<- l]
    exact h _ (I.tok _)
theorem d_write {h':Heap} {t':Nat} {ob:HO} (I:Inv X pins σ H s) (mu:Mut (H a)) (hs:Heap.SameBut a s.heap h') (he:∃ q,h'.get? a=some q) (new:ObjOk X.prog X.w (upd H a ob) h' a ob) :
    Inv X pins σ (upd H a ob) { s with heap:=h',toks:=t' }:=
  I.write (x:=a) (e:=a) mu (.inl rfl) (fun b q hb z=>(hs.2 b hb).trans z) he new
theorem dk_new {P:Program} {w:World} {H':Hp} {h':Heap} {kvs:List (Key × V)} {vs:List (Key × Value)} (z:kvs.length<=sizeLine) (hd:(a == sysModules)=false) (rel:KV kvs vs) (dd:h'.DictOf (Z0 P w) a vs) :
    ObjOk P w H' h' a (.dK kvs):=⟨z,hd,vs,rel,dd⟩
theorem d_setItem {H':Hp} {Q:Unit->Shared->Prop} (hu:A.units + 1 < cLine) (I:Inv X pins σ H s) (g:DPut H a y v H') (ry:RelV y u) (rv:RelV v r) (h:∀ s',Inv X pins σ H' s'->Q () s') :
    wpAny (model X.prog X.w) A (setItem (.ref a) u r) Q E s:=by
  rcases g with ⟨kvs,k,e,ey,l,eH⟩ | ⟨kvs,k,b,e,ey,eb,l,eH⟩
  · subst ey eH
    obtain ⟨z,hd,vs,rel,dd⟩:=dk_of I.hok e
    have hz:vs.length<=sizeLine:=by rw [<- rel.length]; exact z
    have hl:(Uk kvs k v).length<=sizeLine:=by have:=Xy kvs k v; omega
    refine wpAny_setItem_pairs (hsz:=hz) (Q1a ry) dd fun h' dd' hs=>h _ ?_
    have he:∃ q,h'.get? a=some q:=let ⟨q,_,_,hq,_⟩:=dd'; ⟨q,hq⟩
    exact d_write I (by rw [e]; exact True.intro) hs he (dk_new hl hd (rel.put k rv) dd')
  · subst ey eH
    cases (show u=Value.ref b from ry)
    obtain ⟨z,hd,xs,rel,dd⟩:=dt_of I.hok e
    have hz:xs.length<=sizeLine:=by rw [<- Paired.length rel]; exact z
    have hl:(Uk kvs k v).length<=sizeLine:=by have:=Xy kvs k v; omega
    refine wpAny_setItem_heap (hsz:=hz) (tupleKind_room_in1 hu) (Q19 I.hok eb) dd fun h' dd' hs=>h _ ?_
    obtain ⟨q,es,ep,hq,h2,h3,h4,_,h5⟩:=dd'
    refine d_write I (by rw [e]; exact True.intro) hs ⟨q,hq⟩ ⟨hl,hd,_,(rel.put k eb rv).keeps fun c ys ec=>?_,q,es,ep,hq,h2,h3,h4,h5⟩
    rw [Q7 (ne_of ec e (fun z=>nomatch z))]
    exact ec
end
section
variable {X:Cx} {pins:List (Addr × Obj)} {σ:St} {H:Hp} {s:Shared} {a:Addr} {kvs:List (Key × V)} {k:Key} {u:Value} {A:Around} {E:Value->Shared->Prop}
end
def NoSl (i:Expr):Prop:=∀ ov iv,subscripted i false ov iv=operate [ov,iv] (getItem ov iv)
theorem subD_of {prog:Program} {w:World} {A:Around} {E:Value->Shared->Prop} {s:Shared} {env:Env} {value slice:Expr} {pos:Pos} {T id:String} {Q:Value->Shared->Prop}
    (hl:typeLookup (.type T) "__getitem__" = pure (some (.builtin id))) (hs:NoSl slice)
    (h:wpAny (model prog w) A (eval value env) (fun o s₁=>wpAny (model prog w) A (eval slice env) (fun i s₂=>s₂.TypeIs o T/\wpAny (model prog w) A (getItem o i) Q E s₂) E s₁) E s) :
    wpAny (model prog w) A (eval (.Subscript value slice pos) env) Q E s:=by
  refine Subscript_ (wpAny_mono h (fun o s₁ h₁=>wpAny_mono h₁ (fun i s₂ h₂=>?_) fun _ _ x=>x) fun _ _ x=>x)
  obtain ⟨hT,h₂⟩:=h₂
  unfold subscriptTail
  refine wpAny_bind ?_
  rw [getitemInPython_of_ne hT.not_modules]
  refine wpAny_bind (wpAny_specialOf hT hl ?_)
  have fin:wpAny (model prog w) A (subscripted slice false o i) (fun r s₃=>wpAny (model prog w) A (letTemporaryGo value o r >>= fun _=>pure r) Q E s₃) E s₂:=by
    rw [hs o i]
    exact wpAny_operating (wpAny_mono h₂ (fun r s₃ h₃=>wpAny_bind (wpAny_letTemporaryGo (wpAny_pure h₃))) fun _ _ x=>x)
  first
    | exact wpAny_pure (wpAny_bind fin)
    | exact wpAny_bind (wpAny_pure (wpAny_bind fin))
    | exact wpAny_bind fin
theorem dict_typeIs {X:Cx} {pins:List (Addr × Obj)} {σ:St} {H:Hp} {s:Shared} {a:Addr} {y:V} {o:Option V} (I:Inv X pins σ H s) (g:DGet H a y o):s.TypeIs (.ref a) "dict" := by
  rcases g with ⟨kvs,k,e,_,_⟩ | ⟨kvs,k,b,e,_,_,_⟩
  · obtain ⟨_,_,vs,_,dd⟩:=Q1g I.hok e
    exact dd.typeIs
  · obtain ⟨_,_,xs,_,dd⟩:=dt_rd I.hok e
    exact dd.typeIs
def tDGet (td ty:TE):TE:=fun σ H Q=>td σ H fun x H1=>ty σ H1 fun y H2=>∃ a v,x=.ref a/\DGet H2 a y (some v)/\Q v H2
def sDPut (td ty tv:TE):TS:=fun D σ H=>tv σ H fun v H1=>td σ H1 fun x H2=>ty σ H2 fun y H3=>∃ a H4,x=.ref a/\DPut H3 a y v H4/\D.nx σ H4
section
variable {X:Cx} {o i e value:Expr} {pos pos' tpos:Pos} {td ty tv:TE}
theorem pe_dget (hu:X.A.units + 1 < cLine) (ho:PE X o td) (hi:PE X i ty) (hs:NoSl i):PE X (.Subscript o i pos) (tDGet td ty):=by
  intro pins s σ H Q I h
  refine subD_of PySem.F.slot_dict_getitem.lookup hs (thn (ho pins s σ H _ I h) fun u s1 ⟨x,H1,I1,rx,q1⟩=>thn (hi pins s1 σ H1 _ I1 q1) fun iv s2 ⟨y,H2,I2,ry,a,v,ex,g,q2⟩=>?_)
  subst ex
  obtain rfl:u=Value.ref a:=rx
  exact ⟨dict_typeIs I2 g,d_getItem hu I2 g ry fun w' s3 I3 rw'=>⟨v,H2,I3,rw',q2⟩⟩
theorem ps_dput (hu:X.A.units + 1 < cLine) (ho:PE X o td) (hi:PE X i ty) (hv:PE X value tv) (hs:swapsWith value (some (.Subscript o i pos')) pos.line X.env=pure false) :
    PS X (.Assign [.Subscript o i pos'] value pos) (sDPut td ty tv):=by
  intro pins s σ H D I h
  refine wpAny_Assign_Subscript (thn (hv pins s σ H _ I h) fun r s1 ⟨v,H1,I1,rv,q1⟩=>thn (ho pins s1 σ H1 _ I1 q1) fun u s2 ⟨x,H2,I2,rx,q2⟩=>thn (hi pins s2 σ H2 _ I2 q2) fun iv s3 ⟨y,H3,I3,ry,a,H4,ex,g,q3⟩=>?_) hs
  subst ex
  obtain rfl:u=Value.ref a:=rx
  exact d_setItem hu I3 g ry rv fun s4 I4=>⟨σ,H4,I4,q3⟩
end
theorem dk_empty {P:Program} {w:World} {H:Hp} (h:Heap) (hb:sysModules < h.objs.size):ObjOk P w H (h.push { cls:=.type "dict",data:=.dict #[] }) h.objs.size (.dK []):=
  ⟨Nat.zero_le _,beq_eq_false_iff_ne.mpr (Ne.symm (D7 hb)),[],.nil,Heap.DictOf.new h⟩
def tDNewK:TE:=fun _ H Q=>∀ p,H p=none->Q (.ref p) (upd H p (.dK []))
section
variable {X:Cx} {pos:Pos}
theorem pe_dnewK:PE X (.Dict [] [] pos) tDNewK:=fun pins s σ H Q I h=>
  wpAny_Dict_empty ⟨.ref s.heap.objs.size,_,I.laid (a:=s.heap.objs.size) (o:=.dK []) (t':=s.toks) (fun _ _ q=>O1 _ q) (O6 _) (dk_empty s.heap I.big),rfl,h _ (I.hok.fresh (O6 _))⟩
end
def tPairs:List (TE × TE)->St->Hp->(List (V × V)->Hp->Prop)->Prop
  | [],_,H,Q=>Q [] H
  | (tk,tv) :: r,σ,H,Q=>tk σ H fun x H1=>tv σ H1 fun y H2=>tPairs r σ H2 fun ps H3=>Q ((x,y) :: ps) H3
abbrev VV:List (V × V)->List (Value × Value)->Prop:=Paired fun p q=>RelV p.1 q.1/\RelV p.2 q.2
def PPs (X:Cx) (pos:Pos) (keys:List (Option Expr)) (values:List Expr) (trs:List (TE × TE)):Prop:=
  ∀ (pins:List (Addr × Obj)) (s:Shared) (σ:St) (H:Hp) (Q:List (V × V)->Hp->Prop),Inv X pins σ H s->tPairs trs σ H Q ->
    wpAny (model X.prog X.w) X.A (evalPairs (pairTrees keys values X.env pos)) (fun vs s'=>∃ ps H',Inv X pins σ H' s'/\VV ps vs/\Q ps H') X.xe s
theorem pps_nil {X:Cx} {pos:Pos}:PPs X pos [] [] []:=fun pins s σ H Q I h=>pairTrees_nil_walk ⟨[],H,I,.nil,h⟩
theorem pps_cons {X:Cx} {pos:Pos} {k v:Expr} {ks:List (Option Expr)} {vs:List Expr} {tk tv:TE} {trs:List (TE × TE)} (hk:PE X k tk) (hv:PE X v tv) (hr:PPs X pos ks vs trs) :
    PPs X pos (some k :: ks) (v :: vs) ((tk,tv) :: trs):=fun pins s σ H Q I h=>
  pairTrees_cons_walk (thn (hk pins s σ H _ I h) fun u s1 ⟨x,H1,I1,rx,q1⟩=>thn (hv pins s1 σ H1 _ I1 q1) fun w2 s2 ⟨y,H2,I2,ry,q2⟩=>
    thn (hr pins s2 σ H2 _ I2 q2) fun ws s3 ⟨ps,H3,I3,rel,q3⟩=>⟨(x,y) :: ps,H3,I3,.cons ⟨rx,ry⟩ rel,q3⟩)
def Wz (kvs more:List (Key × V)):List (Key × V):=more.foldl (fun acc kv=>Uk acc kv.1 kv.2) kvs
theorem KV.merge:∀ {more:List (Key × V)} {rs:List (Key × Value)} {kvs:List (Key × V)} {vs:List (Key × Value)},KV more rs->KV kvs vs->KV (Wz kvs more) (merged vs rs):=by
  intro more rs kvs vs r
  unfold KV at r
  induction r generalizing kvs vs with
  | nil=>intro q; exact q
  | @cons p q ps qs h t ih=>
    intro r0
    have e:KV (Uk kvs p.1 p.2) (stored vs q.1 q.2):=by
      have:=r0.put p.1 h.2
      rw [<- h.1]; exact this
    exact ih e
theorem Kw:∀ (more kvs:List (Key × V)),(Wz kvs more).length<=kvs.length + more.length
  | [],kvs=>by show kvs.length<=kvs.length + 0; omega
  | p :: r,kvs=>by
    have h1:=Kw r (Uk kvs p.1 p.2)
    have h2:=Xy kvs p.1 p.2
    show (Wz (Uk kvs p.1 p.2) r).length<=_
    rw [F1]; omega
theorem Q1j {P:Program} {w:World}:∀ {kvs:List (Key × V)} {ws:List (Value × Value)},VV (kvs.map fun kv=>(kV kv.1,kv.2)) ws->∃ rs,Carries (Z0 P w) ws rs/\KV kvs rs
  | [],_,r=>by rw [List.map_nil] at r; cases r; exact ⟨[],True.intro,.nil⟩
  | p :: kvs,_,r=>by
    rw [D0] at r
    cases r with
    | @cons a b as bs h t=>
      obtain ⟨rs,c,q⟩:=Q1j (P:=P) (w:=w) t
      obtain ⟨b1,b2⟩:=b
      exact ⟨(p.1,b2) :: rs,⟨Q1a h.1,rfl,c⟩,.cons ⟨rfl,h.2⟩ q⟩
def tDisp (trs:List (TE × TE)):TE:=fun σ H Q=>∀ p,H p=none->tPairs trs σ (upd H p (.dK [])) fun ps H2=>H2 p=some (.dK [])/\∃ kvs:List (Key × V),ps=kvs.map (fun kv=>(kV kv.1,kv.2))/\kvs.length<=15/\Q (.ref p) (upd H2 p (.dK (Wz [] kvs)))
theorem pe_disp {X:Cx} {pos:Pos} {keys:List (Option Expr)} {values:List Expr} {trs:List (TE × TE)} (h:PPs X pos keys values trs) (hall:keys.all (·.isSome)=true) (hl:keys.length=values.length) (h0:keys≠[])
    (h15:keys.length<=15):PE X (.Dict keys values pos) (tDisp trs):=by
  intro pins s σ H Q I q
  have hn:=I.hok.fresh (O6 s.heap.objs.size)
  have I1:=I.laid (a:=s.heap.objs.size) (o:=.dK []) (h':=s.heap.push { cls:=.type "dict",data:=.dict #[] }) (t':=s.toks) (fun _ _ q=>O1 _ q) (O6 _) (dk_empty s.heap I.big)
  refine wpAny_Dict_walk (knd:=Z0 X.prog X.w) hall hl h0 h15 (thn (h pins _ σ _ _ I1 (q _ hn)) fun ws s2 ⟨ps,H2,I2,rel,e,kvs,ep,lk,q2⟩=>?_)
  subst ep
  obtain ⟨rs,c,rk⟩:=Q1j (P:=X.prog) (w:=X.w) rel
  obtain ⟨z,hd,vs0,r0,dd⟩:=dk_of I2.hok e
  cases r0
  refine ⟨rs,c,dd,fun h' dd' hs=>⟨.ref s.heap.objs.size,_,?_,rfl,q2⟩⟩
  have hz:(Wz [] kvs).length<=sizeLine:=by
    have h1:=Kw kvs []
    rw [List.length_nil] at h1
    rw [sizeLine_eq]; omega
  have he:∃ q,h'.get? s.heap.objs.size=some q:=let ⟨q,_,_,hq,_⟩:=dd'; ⟨q,hq⟩
  exact d_write I2 (by rw [e]; exact True.intro) hs he (dk_new hz hd (rk.merge .nil) dd')
structure M1 (X:Cx) (o:Expr) (m:Str) (apos:Pos) (e:Expr) (cpos:Pos):Prop where
  base:attributeBase o m X.env (eval o X.env)=eval o X.env
  few:((backTo cpos (starEach [e] X.env)).all (fun x=>!x.1) && (backToKw cpos (keywordEach [] X.env)).all (fun x=>x.1.isSome)
    && decide (([e]:List Expr).length + ([]:List Keyword).length + (if ([]:List Keyword).isEmpty then 0 else 1) < 30))=true
  line:(apos.endLine == cpos.line)=true
  trees:backTo cpos (starEach [e] X.env)=[(false,eval e X.env)]
structure M2 (X:Cx) (o:Expr) (m:Str) (apos:Pos) (e f:Expr) (cpos:Pos):Prop where
  base:attributeBase o m X.env (eval o X.env)=eval o X.env
  few:((backTo cpos (starEach [e,f] X.env)).all (fun x=>!x.1) && (backToKw cpos (keywordEach [] X.env)).all (fun x=>x.1.isSome)
    && decide (([e,f]:List Expr).length + ([]:List Keyword).length + (if ([]:List Keyword).isEmpty then 0 else 1) < 30))=true
  line:(apos.endLine == cpos.line)=true
  trees:backTo cpos (starEach [e,f] X.env)=[(false,eval e X.env),(false,eval f X.env)]
section
variable {X:Cx} {pins:List (Addr × Obj)} {σ:St} {H:Hp} {s:Shared} {a:Addr} {y d:V} {u r:Value} {o:Option V} {A:Around} {E:Value->Shared->Prop}
end
section
variable {X:Cx} {o e f:Expr} {apos cpos:Pos} {td ty tx:TE}
end
section
variable {X:Cx} {pins:List (Addr × Obj)} {σ:St} {H:Hp} {s:Shared} {a:Addr} {kvs:List (Key × V)} {A:Around} {E:Value->Shared->Prop}
end
section
variable {X:Cx} {pins:List (Addr × Obj)} {σ:St} {H:Hp} {s:Shared} {a:Addr} {y:V} {u:Value} {A:Around} {E:Value->Shared->Prop}
end
section
variable {X:Cx}
end
end L2
namespace L2
open PySem PySem.Spec PyProof.Rows
open AutoSeq1 (wpAny_loadPart')
section
variable {prog:Program} {w:World} {A:Around} {E:Value->Shared->Prop} {s:Shared}
theorem qq {R:Result->Shared->Prop} {r:Addr} {a b c:Int} {t u v:Tok} {n:Nat} (hh:A.handled=none) (hr:IsRange s.heap r a b c t u v) (hsmall:Builtin.Range.small a b c=true)
    (hn:Builtin.Range.rangeSize a b c=n) (hlen:n<=2 ^ 24)
    (hR:∀ h' tk acc' c',(∀ b o,s.heap.get? b=some o->h'.get? b=some o)->h'.get? s.heap.objs.size=some { cls:=.type "list",dict:=none,data:=.seq acc' c',slots:=#[] }->ItemsOf (fun i v=>∃ t,v=.int (a + i * c) t) acc' n->R (.ok (.ret (.ref s.heap.objs.size))) { s with heap:=h',toks:=tk }) :
    codeAny (model prog w) A (.builtin "proto.collect" ⟨[.ref r],[]⟩) R s:=by
  refine codeAny_builtin F.entry_proto_collect ?_
  rw [Around.under_plainId F.plain_proto_collect _]
  show wpAny _ A.in1 (newList [] >>= fun l=>again (.builtin "list.__iadd__" ⟨[l,.ref r],[]⟩)) _ _ s
  refine wpAny_bind (wpAny_newObj_type ?_)
  refine wpAny_pure ⟨plainId_quiet F.plain_list_iadd _,codeAny_builtin F.entry_list_iadd ?_⟩
  rw [Around.under_plainId F.plain_list_iadd _]
  have hS:(s.heap.push { cls:=.type "list",data:=.seq ([]:List Value).toArray }).get? s.heap.objs.size=some { cls:=.type "list",data:=.seq ([]:List Value).toArray }:=D3 _ rfl
  exact wpAny_extend_range (A:=A) (R:=R) (s:={ s with heap:=s.heap.push { cls:=.type "list",data:=.seq ([]:List Value).toArray } }) (c₀:=0) hh (O1 _ hr) hsmall hn hlen s.heap.objs.size (.ref s.heap.objs.size) (hS:=hS) fun h' tk acc' c' hk hS' hacc=>hR h' tk acc' c' (fun b o e=>hk b o (D7 (O7 e)) (O1 _ e)) hS' hacc
theorem Q25 {Q:List Value->Shared->Prop} {r:Addr} {a b c:Int} {t u v:Tok} {n:Nat} (hh:A.handled=none) (hr:IsRange s.heap r a b c t u v) (hsmall:Builtin.Range.small a b c=true)
    (hn:Builtin.Range.rangeSize a b c=n) (hlen:n<=2 ^ 24)
    (hQ:∀ (s':Shared) (acc:Array Value),(∀ b o,s.heap.get? b=some o->s'.heap.get? b=some o)->s'.gens=s.gens->s'.drawn=s.drawn->s'.os=s.os->ItemsOf (fun i v=>∃ t,v=.int (a + i * c) t) acc n->Q acc.toList s') :
    wpAny (model prog w) A (collect (.ref r)) Q E s:=by
  unfold collect
  refine wpAny_bind (wpAny_runValue (qq hh hr hsmall hn hlen fun h' tk acc' c' hk hS' hacc=>?_))
  show wpAny _ A (load s.heap.objs.size >>= _) _ _ _
  refine wpAny_bind (wpAny_load hS' ?_)
  exact wpAny_pure (hQ _ acc' hk rfl rfl rfl hacc)
end
theorem jg {r:Addr} {a b c:Int} {t u v:Tok} {n:Nat} (hsmall:Builtin.Range.small a b c=true) (hn:Builtin.Range.rangeSize a b c=n) (hlen:n<=2 ^ 24) :
    Meets (Builtin.«tuple.__new__» ⟨[.type "tuple",.ref r],[]⟩)
      (fun A R s=>A.handled=none/\IsRange s.heap r a b c t u v/\∀ (s':Shared) (acc:Array Value),(∀ b o,s.heap.get? b=some o->s'.heap.get? b=some o)->s'.gens=s.gens->s'.drawn=s.drawn->s'.os=s.os->ItemsOf (fun i v=>∃ t,v=.int (a + i * c) t) acc n ->
        R (.ok (.ret (.ref s'.heap.objs.size))) { s' with heap:=s'.heap.push { cls:=.type "tuple",data:=.seq acc } }):=
  .of_wp fun prog w A R s h=>by
    obtain ⟨hh,hr,h⟩:=h
    have hsub:=sub_tuple_self
    have hinit:=init_tuple_lookup
    have hmh:=madeHere_tuple
    have hT:s.TypeIs (.ref r) "range" := ⟨_,hr,rfl⟩
    have hh1:A.in1.handled=none:=hh
    wp_walk using wpAny_typeOf hT,Q25 hh1 hr hsmall hn hlen
    intro s' acc hk hg hd hos hacc
    show wpAny _ _ (Builtin.Tuple.tupleExact acc.toList.toArray >>= fun v=>ret v) _ _ _
    unfold Builtin.Tuple.tupleExact
    have hsz:acc.toList.toArray.size<=sizeLine:=by simp only [Array.toArray_toList]; rw [hacc.1,sizeLine_eq]; omega
    refine wpAny_bind (wpAny_newObj_type ?_ hsz)
    refine wpAny_pure ⟨_,rfl,?_⟩
    have e:acc.toList.toArray=acc:=by simp
    rw [e]
    exact h s' acc hk hg hd hos hacc
section
variable {prog:Program} {w:World} {A:Around} {E:Value->Shared->Prop} {s:Shared}
theorem zu {Q:Value->Shared->Prop} {r:Addr} {a b c:Int} {t u v:Tok} {n:Nat} (hh:A.handled=none) (hr:IsRange s.heap r a b c t u v) (hsmall:Builtin.Range.small a b c=true) (hn:Builtin.Range.rangeSize a b c=n) (hlen:n<=2 ^ 24)
    (h:∀ (h':Heap) (tk:Nat) (acc:Array Value),(∀ b o,s.heap.get? b=some o->h'.get? b=some o)->ItemsOf (fun i v=>∃ t,v=.int (a + i * c) t) acc n->Q (.ref h'.objs.size) { s with heap:=h'.push { cls:=.type "tuple",data:=.seq acc },toks:=tk }) :
    wpAny (model prog w) A (call (.type "tuple") [.ref r]) Q E s:=by
  refine callType_new F.called_tuple (by decide) (F.typeCall_tuple_1 _) (F.newCall_tuple_1 _) (fun obj=>F.args_object_init_2 obj _) F.entry_tuple_new
    (jg (t:=t) (u:=u) (v:=v) hsmall hn hlen) ⟨hh,hr,fun s' acc hk hg hd hos hacc=>⟨⟨_,D3 _ rfl,rfl⟩,?_⟩⟩
  obtain ⟨h',g',d',tk',os'⟩:=s'
  have e1:g'=s.gens:=hg
  have e2:d'=s.drawn:=hd
  have e3:os'=s.os:=hos
  subst e1 e2 e3
  exact h h' tk' acc hk hacc
end
def tTR (ta:TA):TE:=fun σ H Q=>ta σ H fun vs H1=>∃ n:Nat,vs=[.int (n:Int)]/\n<=1000000/\∀ p,H1 p=none->Q (.ref p) (upd H1 p (.tup ((List.range n).map fun (k:Nat)=>V.int (k:Int))))
section
variable {X:Cx} {a:Expr} {ta:TA} {p p' pos pos':Pos}
theorem pe_tupRange (hc:X.calm=true) (hg:Gl X "tuple") (hm:X.mg "tuple" = none) (hg':Gl X "range") (hm':X.mg "range" = none) (hb:bootBuiltins "tuple" = some (.type "tuple")) (ha:PA X [a] ta) (hs:starEach [a] X.env=[(false,eval a X.env)]:=by rfl)
    (hs2:starEach [.Call (.Name "range" p') [a] [] pos'] X.env=[(false,eval (.Call (.Name "range" p') [a] [] pos') X.env)]:=by rfl) :
    PE X (.Call (.Name "tuple" p) [.Call (.Name "range" p') [a] [] pos'] [] pos) (tTR ta):=by
  intro pins s σ H Q I h
  refine wpAny_Call_Name_kw (Xz I hg hm hb ?_ (by decide) (by decide))
  refine PyProof.Rows.callWith_type1 ?_ hs2 rfl
  rw [hs2]
  refine Calls.spliced_cons ?_
  refine Call_ (Xz I hg' hm' boot_range (PyProof.Rows.callWith_type1 (thn (ha pos' pins s σ H _ I h) fun us s1 ⟨vs,H1,I1,r1,q1⟩=>?_) hs rfl))
  obtain ⟨n,rfl,hn,q⟩:=q1
  cases r1 with
  | cons r rr=>
    cases rr
    obtain ⟨t,rfl⟩:=r
    refine call_range_1 ?_
    refine Calls.spliced_nil ?_
    have I2:Inv X pins σ H1 { s1 with heap:=s1.heap.push { cls:=.type "range",data:=.fields #[.int 0 s1.toks,.int (n:Int) t,.int 1 (s1.toks + 1)] },toks:=s1.toks + 1 + 1 }:=I1.kept (t':=s1.toks + 1 + 1) fun b ob q=>O1 _ q
    refine zu (n:=n) (I1.ok.hd hc) (IsRange.new ..) ?_ ?_ (by omega) fun h' tk acc' hk hacc=>?_
    · have hr:Builtin.Range.rangeSize 0 (n:Int) 1=n:=by
        unfold Builtin.Range.rangeSize
        rw [if_pos (by omega)]
        split <;> omega
      have hf:∀ m:Nat,m<=1000000->Builtin.Range.rangeFitsLong (m:Int)=true:=fun m hm=>by
        unfold Builtin.Range.rangeFitsLong
        simp
        omega
      unfold Builtin.Range.small
      simp [hr,hf n hn,show Builtin.Range.rangeFitsLong 0=true from hf 0 (by omega),show Builtin.Range.rangeFitsLong 1=true from hf 1 (by omega)]
    · unfold Builtin.Range.rangeSize
      rw [if_pos (by omega)]
      split <;> omega
    · have hv:Vals ((List.range n).map fun (k:Nat)=>V.int (k:Int)) acc'.toList:=vals_range (by rw [Array.length_toList]; exact hacc.1) fun j v hj=>by
        obtain ⟨t,rfl⟩:=hacc.2 j v (by simpa using hj)
        exact ⟨t,by simp⟩
      have I3:=I2.kept (t':=tk) (h':=h') hk
      refine ⟨.ref _,_,I3.laid (t':=tk) (o:=.tup ((List.range n).map fun (k:Nat)=>V.int (k:Int))) (fun b o e=>O1 _ e) (O6 _) ?_,rfl,q _ (I3.hok.fresh (O6 _))⟩
      exact ⟨by rw [O5,G6]; exact E2 hn (by decide),acc'.toList,hv,by
        have e:acc'.toList.toArray=acc':=by simp
        rw [e]
        exact IsTup.new _ _⟩
end
end L2
namespace L2
open PySem PySem.Spec PyProof.Rows
section
variable {prog:Program} {w:World} {A:Around} {E:Value->Shared->Prop} {s:Shared}
end
section
variable {X:Cx} {e e3:Expr} {te t3:TE} {pos p2:Pos}
end
end L2
namespace L2
open PySem PySem.Spec PyProof.Rows
theorem noKeys_list:typeLookup (.type "list") "keys" = pure none:=am_miss_of_fast (by decide +kernel)
theorem Q23 {prog:Program} {w:World} {A:Around} {E:Value->Shared->Prop} {s:Shared} {a:Addr} {xs:Array Value} {k:Nat} {sl:Array (Option Value)} {Q:Option Value->Shared->Prop}
    (hx:s.heap.get? a=some { cls:=.type "list",dict:=none,data:=.seq xs k,slots:=sl }) (hA:A.handled=none)
    (h:∀ h' tk,(∀ b o,s.heap.get? b=some o->h'.get? b=some o)->Q none { s with heap:=h',toks:=tk }) :
    wpAny (model prog w) A (getAttr? (.ref a) "keys") Q E s:=by
  obtain ⟨hp,g,d,tk,os⟩:=s
  have hT:∀ tk',(⟨hp,g,d,tk',os⟩:Shared).TypeIs (.ref a) "list" := fun _=>⟨_,hx,rfl⟩
  have f1:=sub_AttributeError
  have f3:=F.slot_list_getattribute.lookup
  have f4:=F.slot_list_getattribute.bind (.ref a)
  have f5:=am_list_getattr_none
  have hname:(["__module__", "__name__", "__qualname__", "__doc__", "__annotations__"]:List Str).contains "keys" = false:=by decide +kernel
  unfold getAttr? getAttrBy? getAttrBy
  repeat (any_goals (first | assumption | exact hT _ | ((with_reducible show wpAny _ _ (call (Value.builtin "list.__getattribute__") _ _) _ _ _); refine call_meets F.slot_list_getattribute (hT _) am_entry_list_getattribute (F.args_list_getattribute_2 _ _) (meets_getattribute_miss_list a xs k sl "keys" _ noKeys_list hname) ⟨hx,hA,fun h' tk' e hx'=>?_⟩) | wp_step))
  obtain ⟨t',u',he⟩:=hx'.there
  show wpAny _ _ (getattributeRaised _ _ _ _ _ _ _) _ _ _
  unfold getattributeRaised
  repeat (any_goals (first | assumption | wp_step))
  exact h _ _ hx'.of.keeps
theorem X8:entryFor table "dict.update.loop" = some Builtin.«dict.update.loop»:=entryFor_of_tree (by kernel_rfl)
theorem Yy:plainId "dict.update.loop" = true:=by decide +kernel
def PairAt {prog:Program} {w:World} {K:Type} [DecidableEq K] (knd:KeyKind prog w K) (h:Heap) (v:Value) (p:K × Value):Prop:=
  ∃ a key,v=.ref a/\knd.is p.1 key=true/\IsTup h a #[key,p.2]
def Ym {K:Type} [DecidableEq K] (kvs:List (K × Value)):List (K × Value):=kvs.foldl (fun acc p=>stored acc p.1 p.2) []
theorem Q03 {K:Type} [DecidableEq K] (kvs:List (K × Value)) (p:K × Value):Ym (kvs ++ [p])=stored (Ym kvs) p.1 p.2:=by unfold Ym; rw [List.foldl_append]; rfl
theorem stored_len {K:Type} [DecidableEq K] (kvs:List (K × Value)) (k:K) (v:Value):(stored kvs k v).length<=kvs.length + 1:=by
  unfold stored; split <;> simp
theorem Ku {K:Type} [DecidableEq K] (kvs:List (K × Value)):∀ acc:List (K × Value),(kvs.foldl (fun acc p=>stored acc p.1 p.2) acc).length<=acc.length + kvs.length:=by
  induction kvs with
  | nil=>intro acc; simp
  | cons p r ih=>
    intro acc
    rw [List.foldl_cons,F1]
    have:=ih (stored acc p.1 p.2)
    have:=stored_len acc p.1 p.2
    omega
section
variable {prog:Program} {w:World} {K:Type} [DecidableEq K] {knd:KeyKind prog w K} {A:Around} {R:Result->Shared->Prop}
theorem dict_loop {I l D:Addr} {items:Array Value} {kvs:List (K × Value)} {h0:Heap} {B:Nat} (hh:A.handled=none) (hIl:l≠I) (hDI:D≠I) (hDl:D≠l) (hB:∀ b o,h0.get? b=some o->b≠I/\b≠D)
    (hn:items.size=kvs.length) (hp:∀ (i:Nat) (v:Value) (p:K × Value),items[i]?=some v->kvs[i]?=some p->PairAt knd h0 v p) (hsz:kvs.length<=sizeLine) :
    ∀ (k i:Nat) (s:Shared),items.size - i=k->i<=items.size->(s.heap.IsListIter I l i/\s.heap.IsList l items)->(∀ b o,h0.get? b=some o->s.heap.get? b=some o)->s.heap.DictOf knd D (Ym (kvs.take i)) ->
      (∀ h' tk,h'.DictOf knd D (Ym kvs)->(∀ b o,h0.get? b=some o->h'.get? b=some o)->R (.ok (.ret .none)) { s with heap:=h',toks:=tk }) ->
      codeAny (model prog w) A (.builtin "dict.update.loop" ⟨[.ref D,.ref I,rawInt i,.none],[]⟩) R s:=by
  have W:=Walks.list (prog:=prog) (w:=w) (A:=A.in1) (by simpa using hh) I l hIl items
  intro k
  induction k with
  | zero=>
    intro i s hk hi hst hkeep hD hR
    have hin:i=items.size:=by omega
    subst hin
    refine codeAny_builtin X8 ?_
    rw [Around.under_plainId Yy _]
    show wpAny _ A.in1 (pyNext (.ref I) >>= _) _ _ s
    refine wpAny_bind (W.done s _ _ hst fun h' tk hm=>?_)
    show wpAny _ A.in1 (Builtin.Dict.addKeywords D [] >>= fun _=>ret Value.none) _ _ _
    refine wpAny_bind (wpAny_pure (wpAny_pure (hR h' tk ?_ fun b o e=>hm b o (fun z=>(hB b o e).1 (by simpa using z)) (hkeep b o e))))
    rw [hn,List.take_length] at hD
    obtain ⟨o,es,ep,ho,r⟩:=hD
    exact ⟨o,es,ep,hm D o (fun z=>hDI (by simpa using z)) ho,r⟩
  | succ k ih=>
    intro i s hk hi hst hkeep hD hR
    have hlt:i < items.size:=by omega
    refine codeAny_builtin X8 ?_
    rw [Around.under_plainId Yy _]
    show wpAny _ A.in1 (pyNext (.ref I) >>= _) _ _ s
    refine wpAny_bind (W.item i s _ _ hlt hst fun v h' tk hP hst' hm=>?_)
    have hik:i < kvs.length:=by omega
    obtain ⟨a,key,rfl,hkey,ht⟩:=hp i v kvs[i] hP (O2 hik)
    have hkeep':∀ b o,h0.get? b=some o->h'.get? b=some o:=fun b o e=>hm b o (fun z=>(hB b o e).1 (by simpa using z)) (hkeep b o e)
    have hD':h'.DictOf knd D (Ym (kvs.take i)):=by
      obtain ⟨o,es,ep,ho,r⟩:=hD
      exact ⟨o,es,ep,hm D o (fun z=>hDI (by simpa using z)) ho,r⟩
    show wpAny _ A.in1 (holding [Value.ref a] _ >>= _) _ _ _
    refine wpAny_bind (wpAny_holding ?_)
    obtain ⟨ot,hot,hct,nt,hdt⟩:=ht
    have hot':=hkeep' a ot hot
    have hTt:Shared.TypeIs { s with heap:=h',toks:=tk } (.ref a) "tuple" := ⟨ot,hot',hct⟩
    refine wpAny_bind (wpAny_tryCatch ?_)
    unfold Builtin.Dict.pairItems
    refine wpAny_bind (wpAny_typeOf hTt ?_)
    rw [if_pos (by decide)]
    refine wpAny_bind (wpAny_seqItems hot' hdt ?_)
    refine wpAny_pure ?_
    show wpAny _ A.in1 (holding [key,(kvs[i]).2] (dictSet D key (kvs[i]).2)) _ _ _
    refine wpAny_holding (wpAny_dictSet_pairs (knd:=knd) (k:=(kvs[i]).1) hkey hD' (fun h'' hd'' hs''=>?_) ?_)
    · have hk2:∀ b o,h0.get? b=some o->h''.get? b=some o:=fun b o e=>(hs''.2 b (hB b o e).2).trans (hkeep' b o e)
      have hst2:h''.IsListIter I l (i + 1)/\h''.IsList l items:=⟨hst'.1.at fun o e=>(hs''.2 I (Ne.symm hDI)).trans e,hst'.2.at fun o e=>(hs''.2 l (Ne.symm hDl)).trans e⟩
      have e1:kvs.take (i + 1)=kvs.take i ++ [kvs[i]]:=by rw [List.take_succ,O2 hik]; rfl
      have hd2:h''.DictOf knd D (Ym (kvs.take (i + 1))):=by rw [e1,Q03]; exact hd''
      exact wpAny_pure ⟨plainId_quiet Yy _,ih (i + 1) _ (by omega) hlt hst2 hk2 hd2 fun h3 t3 d3 k3=>hR h3 t3 d3 k3⟩
    · have:=Ku (kvs.take i) []
      have h2:(kvs.take i).length<=kvs.length:=by rw [List.length_take]; omega
      simp only [List.length_nil,Nat.zero_add] at this
      exact E2 this (E2 h2 hsz)
theorem yr {s:Shared} {E:Value->Shared->Prop} {l:Addr} {items:Array Value} {m:Nat} {sl:Array (Option Value)} {kvs:List (K × Value)} {Q:Value->Shared->Prop} (hh:A.handled=none)
    (hl:s.heap.get? l=some { cls:=.type "list",dict:=none,data:=.seq items m,slots:=sl })
    (hn:items.size=kvs.length) (hp:∀ (i:Nat) (v:Value) (p:K × Value),items[i]?=some v->kvs[i]?=some p->PairAt knd s.heap v p) (hsz:kvs.length<=sizeLine)
    (h:∀ h' tk,h'.DictOf knd s.heap.objs.size (Ym kvs)->(∀ b o,s.heap.get? b=some o->h'.get? b=some o)->Q (.ref s.heap.objs.size) { s with heap:=h',toks:=tk }) :
    wpAny (model prog w) A (call (.type "dict") [.ref l]) Q E s:=by
  refine callType_codes (Q₁:=fun obj s₁=>obj=.ref s.heap.objs.size/\s₁={ s with heap:=s.heap.push { cls:=.type "dict",data:=.dict #[] } }) F.kt_called_dict (F.kt_typeCall_dict_1 _) F.entry_dict_init (kt_code_dict_new _ ⟨rfl,rfl⟩) ?_
  rintro obj s₁ ⟨rfl,rfl⟩
  have hnew:(s.heap.push { cls:=.type "dict",data:=.dict #[] }).DictOf knd s.heap.objs.size []:=Heap.DictOf.new s.heap
  refine ⟨hnew.typeIs,F.args_dict_init_2 _ _,?_⟩
  have hl1:(s.heap.push { cls:=.type "dict",data:=.dict #[] }).get? l=some { cls:=.type "list",dict:=none,data:=.seq items m,slots:=sl }:=O1 _ hl
  unfold Builtin.«dict.__init__»
  refine wpAny_bind ?_
  unfold Builtin.Dict.selfAndRest
  refine wpAny_bind (wpAny_notOrdered_dict hnew.typeIs ?_)
  show wpAny _ _ (pure (s.heap.objs.size,[Value.ref l])) _ _ _
  refine wpAny_pure ?_
  show wpAny _ _ (Builtin.Dict.updateFrom "dict.__init__" s.heap.objs.size (.ref l) [] .none) _ _ _
  unfold Builtin.Dict.updateFrom
  refine wpAny_bind (wpAny_typeOf (T := "list") ⟨_,hl1,rfl⟩ ?_)
  rw [if_pos (by decide)]
  refine wpAny_bind (Q23 hl1 (by simpa using hh) fun h2 tk2 keep2=>?_)
  rw [if_pos (by rfl)]
  have hl2:h2.get? l=some { cls:=.type "list",dict:=none,data:=.seq items m,slots:=sl }:=keep2 _ _ hl1
  have hL2:h2.IsList l items:=⟨_,hl2,rfl,m,rfl⟩
  have k0:∀ b o,s.heap.get? b=some o->h2.get? b=some o:=fun b o e=>keep2 b o (O1 _ e)
  have hD2:h2.DictOf knd s.heap.objs.size []:=by
    obtain ⟨o,es,ep,ho,r⟩:=hnew
    exact ⟨o,es,ep,keep2 _ _ ho,r⟩
  have hDlt:s.heap.objs.size < h2.objs.size:=by
    obtain ⟨o,es,ep,ho,r⟩:=hD2
    exact O7 ho
  refine wpAny_bind (wpAny_bind (m:=rule _) (wpAny_rule (wpAny_pure (wpAny_bind (wpAny_pyIter_list hL2 ?_)))))
  refine wpAny_pure ⟨plainId_quiet Yy _,?_⟩
  refine dict_loop (A:=A.in1) (I:=h2.objs.size) (l:=l) (kvs:=kvs) (h0:=s.heap) (B:=0) (knd:=knd) (by simpa using hh) (D7 (O7 hl2)) (D7 hDlt) (Nat.ne_of_gt (O7 hl))
    (fun b o e=>⟨D7 (O7 (k0 b o e)),D7 (O7 e)⟩) hn hp hsz (items.size - 0) 0 _ rfl (Nat.zero_le _) ⟨⟨_,D3 _ rfl,rfl,rfl⟩,hL2.push _⟩ (fun b o e=>O1 _ (k0 b o e)) (hD2.push _) fun h' tk d k=>?_
  exact ⟨rfl,h h' tk d k⟩
end
theorem pairs_of {P:Program} {w:World} {H:Hp} {h:Heap} (ok:HOk P w H h):∀ {kvs:List (Key × V)} {vs:List V} {its:List Value},Paired (fun (v:V) (kv:Key × V)=>∃ a,v=.ref a/\H a=some (.tup [kV kv.1,kv.2])) vs kvs->Vals vs its ->
    ∃ rs:List (Key × Value),KV kvs rs/\its.length=rs.length/\∀ (i:Nat) (u:Value) (r:Key × Value),its[i]?=some u->rs[i]?=some r->PairAt (Z0 P w) h u r
  | [],_,_,.nil,.nil=>⟨[],.nil,rfl,fun i u r e=>by simp at e⟩
  | kv :: kvs,v :: vs,u :: us,.cons ⟨a,ea,ha⟩ t,.cons ru tu=>by
    obtain ⟨rs,h1,h2,h3⟩:=pairs_of ok t tu
    subst ea
    cases ru
    obtain ⟨_,jts,rj,tp⟩:=ok a _ ha
    cases rj with
    | cons r1 rj=>
      cases rj with
      | cons r2 rj=>
        cases rj
        rename_i key val
        refine ⟨(kv.1,val) :: rs,.cons ⟨rfl,r2⟩ h1,by simp [h2],fun i u r e1 e2=>?_⟩
        cases i with
        | zero=>
          simp only [List.getElem?_cons_zero,Option.some.injEq] at e1 e2
          subst e1; subst e2
          exact ⟨a,key,rfl,Q1a r1,tp⟩
        | succ i=>
          simp only [List.getElem?_cons_succ] at e1 e2
          exact h3 i u r e1 e2
theorem call_dictP {X:Cx} (hc:X.calm=true):V8 X (.type "dict") (fun xs H Q=>∃ p vs,∃ kvs:List (Key × V),xs=[.ref p]/\SqL X.K H p vs/\Paired (fun (v:V) (kv:Key × V)=>∃ a,v=.ref a/\H a=some (.tup [kV kv.1,kv.2])) vs kvs /\
    ∀ d,H d=none->Q (.ref d) (upd H d (.dK (Wz [] kvs)))):=by
  intro pins s σ H xs us Q I r h
  obtain ⟨p,vs,kvs,rfl,hq,hp,q⟩:=h
  obtain ⟨u,rfl,rx⟩:=Ks r
  cases rx
  obtain ⟨its,r',pl,hz⟩:=I.list hq
  obtain ⟨rs,h1,h2,h3⟩:=pairs_of I.hok hp r'
  obtain ⟨⟨oc,od,oda,osl⟩,n,e,hcls,hdict,hdata⟩:=pl
  simp only at hcls hdict hdata
  subst hcls hdict hdata
  have hlen:rs.length<=sizeLine:=by rw [<- h2,<- r'.length]; exact hz
  refine yr (knd:=Z0 X.prog X.w) (kvs:=rs) (I.ok.hd hc) e (by rw [O4,h2]) (fun i v p e1 e2=>h3 i v p (by simpa using e1) e2) hlen fun h' tk hd hk=>?_
  have hkv:KV (Wz [] kvs) (Ym rs):=KV.merge h1 .nil
  have hl2:(Wz [] kvs).length<=sizeLine:=by
    rw [hkv.length]
    have:=Ku rs []
    simp only [List.length_nil,Nat.zero_add] at this
    exact E2 this hlen
  exact ⟨.ref s.heap.objs.size,_,I.laid (t':=tk) (o:=.dK (Wz [] kvs)) hk (O6 _) (dk_new hl2 (beq_eq_false_iff_ne.mpr (Ne.symm (D7 I.big))) hkv hd),rfl,q _ (I.hok.fresh (O6 _))⟩
end L2
namespace L2
open PySem PySem.Spec PyProof.Rows
def Itd (a:Addr) (o:Obj) (kvs:List (Key × V)):It:=
  ⟨fun i H=>H a=some (.frz o (.dK kvs))/\i < kvs.length,fun i H x H'=>H'=H/\∃ kv,kvs[i]?=some kv/\x=kV kv.1,fun i H=>H a=some (.frz o (.dK kvs))/\kvs.length<=i⟩
theorem is_kV {P:Program} {w:World} {k:Key} {u:Value} (h:(Z0 P w).is k u=true):RelV (kV k) u:=by
  rcases Za h with ⟨i,t,rfl,rfl⟩ | ⟨x,t,rfl,rfl⟩
  · exact ⟨t,rfl⟩
  · exact ⟨t,rfl⟩
theorem X6 {P:Program} {w:World} {H:Hp} {h:Heap} {a:Addr} {o:Obj} {kvs:List (Key × V)} {es:Array DictEntry} {ep:Nat} (ok:HOk P w H h) (e:H a=some (.frz o (.dK kvs))) (hd:o.data=.dict es ep) :
    (a == sysModules)=false/\∃ vs,KV kvs vs/\h.DictAt (Z0 P w) a vs ep:=by
  obtain ⟨ho,_,hs,vs,r,o',es',ep',ho',h1,h2,h3⟩:=ok a _ e
  rw [ho] at ho'
  cases ho'
  rw [hd] at h2
  cases h2
  exact ⟨hs,vs,r,o,es,ho,h1,hd,h3⟩
theorem KV.get:∀ {kvs:List (Key × V)} {vs:List (Key × Value)} {i:Nat} {kv:Key × V},KV kvs vs->kvs[i]?=some kv->∃ u,vs[i]?=some (kv.1,u)/\RelV kv.2 u
  | _,_,_,_,.nil,e=>by simp at e
  | kv :: _,q :: _,0,kv',.cons ⟨h1,h2⟩ t,e=>by
    simp at e; subst e
    exact ⟨q.2,by simp [h1],h2⟩
  | _ :: _,_ :: _,i + 1,kv',.cons h t,e=>by
    obtain ⟨u,h1,h2⟩:=KV.get (i:=i) t (by simpa using e)
    exact ⟨u,by simpa using h1,h2⟩
theorem turn_dict {P:Program} {w:World} {K:PySem.W.Frag} {tg:Expr} (a it:Addr) (o:Obj) (kvs:List (Key × V)) {es:Array DictEntry} {ep:Nat} (hd:o.data=.dict es ep) :
    Turn P w K tg (Itd a o kvs) [it] it (fun i h=>h.IsKeyIter it a i kvs.length ep) where
  mem:=by simp
  obj:=fun i h st b hb=>by
    have e:b=it:=by simpa using hb
    subst e
    obtain ⟨o,e,c,d⟩:=st
    exact ⟨o,e,fun v z=>by rw [d] at z; cases z⟩
  keep:=fun i h h' st k=>by
    obtain ⟨o,e,r⟩:=st
    exact ⟨o,k it (by simp) o e,r⟩
  item:=by
    intro X hP hw hK hc i pins s σ H E I hf st hg
    subst hP hw hK
    obtain ⟨hx,hl⟩:=hg
    obtain ⟨hs,vs,rv,da⟩:=X6 I.hok hx hd
    obtain ⟨u,hu,ru⟩:=rv.get (O2 hl)
    obtain ⟨f0,f1,f2,f3,f4,f5⟩:=hf it (by simp)
    have hlen:=rv.length
    rw [hlen] at st
    refine wpAny_pyNext_dict_item st da hu fun key h' hk st' sb=>?_
    rw [<- hlen] at st'
    have I1:Inv X pins σ H { s with heap:=h' }:=I.turned (t':=s.toks) (fun b o hb e=>(sb.2 b hb).trans e) f0 f1 f3 f4 f5
    obtain ⟨o,e,c,d⟩:=id st'
    exact ⟨key,rfl,go_of (s:={ s with heap:=h' }) e c d (by decide) ⟨kV kvs[i].1,H,I1,is_kV hk,⟨rfl,kvs[i],O2 hl,rfl⟩,st',fun b hb=>(hf b hb).1⟩⟩
  done:=by
    intro X hP hw hK hc i pins s σ H E I hf st hg
    subst hP hw hK
    obtain ⟨hx,hl⟩:=hg
    obtain ⟨hs,vs,rv,da⟩:=X6 I.hok hx hd
    obtain ⟨f0,f1,f2,f3,f4,f5⟩:=hf it (by simp)
    have hlen:=rv.length
    rw [hlen] at st
    exact wpAny_pyNext_dict_end (I.ok.hd hc) st da (by simp; omega) fun h' eb=>⟨rfl,I.turned (t':=s.toks) (fun b o hb e=>eb b o hb e) f0 f1 f3 f4 f5⟩
  self:=fun _ _ _ _ _ st h=>wpAny_pyIter_keyiter st h
section
variable {X:Cx} {pins:List (Addr × Obj)} {σ:St} {H:Hp} {s:Shared} {a:Addr} {tg:Expr}
def NoFrz (X:Cx) (a:Addr):Prop:=∀ o u,X.H₀ a≠some (.frz o u)
theorem Inv.noFrz (I:Inv X pins σ H s) {kvs:List (Key × V)} (e:H a=some (.dK kvs)):NoFrz X a:=fun o u q=>by
  have:=I.base.frzs a o u q
  rw [e] at this; cases this
theorem Inv.thaw {o:Obj} {kvs:List (Key × V)} (I:Inv X pins σ H s) (e:H a=some (.frz o (.dK kvs))) (n:NoFrz X a):Inv X pins σ (upd H a (.dK kvs)) s:=by
  have nn:∀ b,H b=none->b≠a:=fun b h z=>by rw [z,e] at h; cases h
  refine ⟨I.ok,I.os,I.bare,⟨I.base.keep,I.base.slot,fun b o q h hx=>?_,I.base.there,fun b xs q=>?_,fun b o u q=>?_,fun b ps q=>?_⟩,I.loc,I.cell,?_,fun x c q=>?_,fun p hp=>?_,fun b ob q=>?_,I.len⟩
  · have:=I.base.free b o q h hx
    rw [Q7 (nn b this)]; exact this
  · have:=I.base.tups b xs q
    rw [Q7 (fun z=>by rw [z,e] at this; cases this)]; exact this
  · have:=I.base.frzs b o u q
    by_cases z:b=a
    · subst z; exact absurd q (n o u)
    · rw [Q7 z]; exact this
  · obtain ⟨more,this⟩:=I.base.tbls b ps q
    exact ⟨more,by rw [Q7 (fun z=>by rw [z,e] at this; cases this)]; exact this⟩
  · rw [Q7 (nn _ I.free)]; exact I.free
  · rw [Q7 (nn _ (I.freeC x c q))]; exact I.freeC x c q
  · obtain ⟨h1,h2,h3⟩:=I.pin p hp
    exact ⟨h1,by rw [Q7 (nn _ h2)]; exact h2,h3⟩
  · have stay:∀ {ob:HO},ObjOk X.prog X.w H s.heap b ob->ObjOk X.prog X.w (upd H a (.dK kvs)) s.heap b ob:=fun h=>h.stay (fun _ _ _ q=>q) (fun c q=>by
      rw [Q7 (fun z=>by rw [z,e] at q; cases q)]; exact q) fun c xs q=>by
      rw [Q7 (fun z=>by rw [z,e] at q; cases q)]; exact q
    by_cases z:b=a
    · subst z
      rw [Qb] at q
      cases q
      exact stay (I.hok b _ e).2
    · rw [Q7 z] at q
      exact stay (I.hok b _ q)
def iKeys (X:Cx) (tl:TE):TI:=fun σ H R=>tl σ H fun x H1=>∃ a kvs,x=.ref a/\H1 a=some (.dK kvs)/\∀ o,NoFrz X a->R (Itd a o kvs) (upd H1 a (.frz o (.dK kvs)))
theorem pi_keys {l:Expr} {tl:TE} (hl:PE X l tl):PI X tg l (iKeys X tl):=by
  intro pins s σ H R I h
  refine thn (hl pins s σ H _ I h) fun v s1 ⟨x,H1,I1,r1,q1⟩=>?_
  obtain ⟨a,kvs,rfl,ea,q⟩:=q1
  cases r1
  obtain ⟨z,hs,vs,rv,da⟩:=dk_of I1.hok ea
  obtain ⟨ep,da1⟩:=da.dictAt
  obtain ⟨o,es,ho,h1,h2,h3⟩:=id da1
  refine wpAny_pyIter_dict hs da1 ?_
  have hne:s1.heap.objs.size≠a:=Nat.ne_of_gt (O7 ho)
  have hn1:H1 s1.heap.objs.size=none:=I1.hok.fresh (O6 _)
  have keep:∀ b u,s1.heap.get? b=some u->(s1.heap.push { cls:=.type "dict_keyiterator",data:=.fields #[.ref a,.int 0 0,.int vs.length 0,.int ep 0] }).get? b=some u:=fun b u e=>O1 _ e
  have nt:∀ c xs,H1 c=some (.tup xs)->c≠a:=fun c xs q z=>by rw [z,ea] at q; cases q
  refine ⟨s1.heap.objs.size,[s1.heap.objs.size],_,_,upd H1 a (.frz o (.dK kvs)),rfl,I1.write (t':=s1.toks) (x:=a) (e:=a) (by rw [ea]; trivial) (.inl rfl) (fun b u _ e=>keep b u e) ⟨o,keep a o ho⟩ ⟨keep a o ho,z,hs,vs,rv,da.push _⟩,
    turn_dict a _ o kvs h2,⟨_,D3 _ rfl,rfl,by rw [rv.length]; rfl⟩,fun b hb=>?_,q o (I1.noFrz ea)⟩
  have e:b=s1.heap.objs.size:=by simpa using hb
  subst e
  exact I1.fpOk (O6 _) (by rw [Q7 hne]; exact hn1)
end
end L2
namespace L2
open PySem PySem.Spec PyProof.Rows PySem.W
def evT {α:Type} (c:Nat->Nat->Bool):KasT α->α
  | .ret a=>a
  | .ask i j k=>evT c (k (c i j))
theorem Us {α β:Type} (c:Nat->Nat->Bool) (f:α->KasT β):∀ t:KasT α,evT c (t.bind f)=evT c (f (evT c t))
  | .ret _=>rfl
  | .ask i j k=>Us c f (k (c i j))
section
variable (r:Nat->Nat)
def rk (p:Array Nat) (i:Nat):Nat:=r (p.getD i 0)
def cR:Nat->Nat->Bool:=fun i j=>decide (r i < r j)
variable {r}
theorem rk_of {p q:Array Nat} {i j:Nat} (h:p[i]?=q[j]?):rk r p i=rk r q j:=by
  unfold rk
  rw [Array.getD_eq_getD_getElem?,Array.getD_eq_getD_getElem?,h]
theorem rk_rev {p:Array Nat} {i j:Nat} (hj:j<=p.size) (k:Nat):rk r (kas_rev p i j) k=if i<=k/\k < j then rk r p (i + j - 1 - k) else rk r p k:=by
  have h:=getElem?_mirror_all (xs:=p) (i:=i) hj k
  by_cases q:i<=k/\k < j
  · rw [if_pos q] at h ⊢; exact rk_of h
  · rw [if_neg q] at h ⊢; exact rk_of h
theorem rk_bub {p:Array Nat} {src d:Nat} (hs:src < p.size) (hd:d<=src) (k:Nat):rk r (bubble p src d) k=if k=src - d then rk r p src else if src - d < k/\k<=src then rk r p (k - 1) else rk r p k:=by
  have h:=getElem?_bubble hs d hd k
  by_cases q:k=src - d
  · rw [if_pos q] at h ⊢; exact rk_of h
  · rw [if_neg q] at h ⊢
    by_cases q2:src - d < k/\k<=src
    · rw [if_pos q2] at h ⊢; exact rk_of h
    · rw [if_neg q2] at h ⊢; exact rk_of h
theorem j8 {p:Array Nat} (i j:Nat):(kas_rev p i j).size=p.size:=mirror_size _ _ _ _
theorem We {p:Array Nat} (i j:Nat):(kas_rev p i j).Perm p:=mirror_perm _ _ _ _
theorem asc_ev (p:Array Nat):∀ f n,1<=n->n<=evT (cR r) (kas_asc p f n)/\evT (cR r) (kas_asc p f n)<=n + f/\(∀ i,n<=i->i < evT (cR r) (kas_asc p f n)->rk r p (i - 1)<=rk r p i)/\(evT (cR r) (kas_asc p f n) < n + f->rk r p (evT (cR r) (kas_asc p f n)) < rk r p (evT (cR r) (kas_asc p f n) - 1))
  | 0,n,_=>⟨O6 _,O6 _,fun i h1 h2=>absurd h2 (by show ¬ i < n; omega),fun h=>absurd h (by show ¬ n < n + 0; omega)⟩
  | f + 1,n,hn=>by
    have e:evT (cR r) (kas_asc p (f + 1) n)=if rk r p n < rk r p (n - 1) then n else evT (cR r) (kas_asc p f (n + 1)):=by
      show evT (cR r) (if decide (rk r p n < rk r p (n - 1))=true then KasT.ret n else kas_asc p f (n + 1))=_
      by_cases q:rk r p n < rk r p (n - 1)
      · rw [if_pos (by simpa using q),if_pos q]; rfl
      · rw [if_neg (by simpa using q),if_neg q]
    rw [e]
    by_cases q:rk r p n < rk r p (n - 1)
    · rw [if_pos q]
      exact ⟨O6 _,by omega,fun i h1 h2=>by omega,fun _=>q⟩
    · rw [if_neg q]
      obtain ⟨h1,h2,h3,h4⟩:=asc_ev p f (n + 1) (by omega)
      refine ⟨by omega,by omega,fun i g1 g2=>?_,fun g=>h4 (by omega)⟩
      by_cases z:i=n
      · subst z; omega
      · exact h3 i (by omega) g2
theorem Q0f {p:Array Nat} {i j:Nat} (hj:j<=p.size) (h:∀ k,i<=k->k < j->rk r p k=rk r p (j - 1)) (k:Nat):rk r (kas_rev p i j) k=rk r p k:=by
  rw [rk_rev hj]
  by_cases q:i<=k/\k < j
  · rw [if_pos q,h (i + j - 1 - k) (by omega) (by omega),h k q.1 q.2]
  · rw [if_neg q]
structure Dsc (r:Nat->Nat) (p:Array Nat) (n q:Nat):Prop where
  n1:1<=n
  sz:n<=p.size
  qn:q + 1<=n
  de:∀ i,1<=i->i < n->rk r p i<=rk r p (i - 1)
  eq:∀ i,n - (q + 1)<=i->i < n->rk r p i=rk r p (n - 1)
theorem xk:∀ f (p:Array Nat) n q,Dsc r p n q->n + f<=p.size->Dsc r (evT (cR r) (kas_desc f p n q)).1 (evT (cR r) (kas_desc f p n q)).2.1 (evT (cR r) (kas_desc f p n q)).2.2/\(evT (cR r) (kas_desc f p n q)).1.Perm p/\n<=(evT (cR r) (kas_desc f p n q)).2.1/\(evT (cR r) (kas_desc f p n q)).2.1<=n + f
  | 0,p,n,q,h,_=>⟨h,Array.Perm.refl _,O6 _,O6 _⟩
  | f + 1,p,n,q,h,hs=>by
    have e:evT (cR r) (kas_desc (f + 1) p n q)=if rk r p n < rk r p (n - 1) then (if q > 0 then evT (cR r) (kas_desc f (kas_rev p (n - (q + 1)) n) (n + 1) 0) else evT (cR r) (kas_desc f p (n + 1) 0)) else if rk r p (n - 1) < rk r p n then (p,n,q) else evT (cR r) (kas_desc f p (n + 1) (q + 1)):=by
      show evT (cR r) (if decide (rk r p n < rk r p (n - 1))=true then (if q > 0 then kas_desc f (kas_rev p (n - (q + 1)) n) (n + 1) 0 else kas_desc f p (n + 1) 0) else KasT.ask (p.getD (n - 1) 0) (p.getD n 0) fun d=>if d=true then .ret (p,n,q) else kas_desc f p (n + 1) (q + 1))=_
      by_cases z:rk r p n < rk r p (n - 1)
      · rw [if_pos (by simpa using z),if_pos z]
        split <;> rfl
      · rw [if_neg (by simpa using z),if_neg z]
        show evT (cR r) (if decide (rk r p (n - 1) < rk r p n)=true then KasT.ret (p,n,q) else kas_desc f p (n + 1) (q + 1))=_
        by_cases z2:rk r p (n - 1) < rk r p n
        · rw [if_pos (by simpa using z2),if_pos z2]; rfl
        · rw [if_neg (by simpa using z2),if_neg z2]
    rw [e]
    by_cases z:rk r p n < rk r p (n - 1)
    · rw [if_pos z]
      by_cases hq:q > 0
      · rw [if_pos hq]
        have he:=Q0f (r:=r) (p:=p) (i:=n - (q + 1)) (j:=n) h.sz h.eq
        obtain ⟨h1,h2,h3,h4⟩:=xk f (kas_rev p (n - (q + 1)) n) (n + 1) 0 ⟨by omega,by rw [j8]; omega,by omega,fun i g1 g2=>by
          rw [he,he]
          by_cases y:i=n
          · subst y; omega
          · exact h.de i g1 (by omega),fun i g1 g2=>by
          have:i=n:=by omega
          subst this; rfl⟩ (by rw [j8]; omega)
        exact ⟨h1,h2.trans (We _ _),by omega,by omega⟩
      · rw [if_neg hq]
        obtain ⟨h1,h2,h3,h4⟩:=xk f p (n + 1) 0 ⟨by omega,by omega,by omega,fun i g1 g2=>by
          by_cases y:i=n
          · subst y; omega
          · exact h.de i g1 (by omega),fun i g1 g2=>by
          have:i=n:=by omega
          subst this; rfl⟩ (by omega)
        exact ⟨h1,h2,by omega,by omega⟩
    · rw [if_neg z]
      by_cases z2:rk r p (n - 1) < rk r p n
      · rw [if_pos z2]
        exact ⟨h,Array.Perm.refl _,O6 _,by show n<=n + (f + 1); omega⟩
      · rw [if_neg z2]
        have hn:=h.n1
        have hqn:=h.qn
        obtain ⟨h1,h2,h3,h4⟩:=xk f p (n + 1) (q + 1) ⟨by omega,by omega,by omega,fun i g1 g2=>by
          by_cases y:i=n
          · subst y; omega
          · exact h.de i g1 (by omega),fun i g1 g2=>by
          show rk r p i=rk r p n
          by_cases y:i=n
          · rw [y]
          · rw [h.eq i (by omega) (by omega)]; omega⟩ (by omega)
        exact ⟨h1,h2,by omega,by omega⟩
def Srt (r:Nat->Nat) (p:Array Nat) (m:Nat):Prop:=∀ i,1<=i->i < m->rk r p (i - 1)<=rk r p i
theorem tail_ev {p:Array Nat} {n nrem:Nat} (hn:1<=n) (hnr:n<=nrem) (hs:nrem<=p.size) (hd:∀ i,1<=i->i < n->rk r p i<=rk r p (i - 1)) :
    1<=(evT (cR r) (kas_tail3 n nrem p)).1/\(evT (cR r) (kas_tail3 n nrem p)).1<=nrem/\Srt r (evT (cR r) (kas_tail3 n nrem p)).2 (evT (cR r) (kas_tail3 n nrem p)).1/\(evT (cR r) (kas_tail3 n nrem p)).2.Perm p:=by
  obtain ⟨h1,h2,h3,_⟩:=asc_ev (r:=r) (kas_rev p 0 n) (nrem - n) n hn
  unfold kas_tail3
  rw [Us]
  show 1<=evT (cR r) (kas_asc (kas_rev p 0 n) (nrem - n) n)/\_/\Srt r (kas_rev p 0 n) _/\(kas_rev p 0 n).Perm p
  refine ⟨by omega,by show evT (cR r) (kas_asc (kas_rev p 0 n) (nrem - n) n)<=nrem; omega,fun i g1 g2=>?_,We _ _⟩
  by_cases z:i < n
  · rw [rk_rev (by omega),rk_rev (by omega),if_pos (by omega),if_pos (by omega)]
    have:=hd (0 + n - 1 - (i - 1)) (by omega) (by omega)
    rw [show 0 + n - 1 - (i - 1) - 1=0 + n - 1 - i by omega] at this
    exact this
  · exact h3 i (by omega) g2
theorem ye {p:Array Nat} {n nrem:Nat} (hn:1<=n) (hnr:n < nrem) (hs:nrem<=p.size) (heq:∀ i,i < n->rk r p i=rk r p (n - 1)) (hlt:rk r p n < rk r p (n - 1)) :
    1<=(evT (cR r) (kas_descPart n nrem p)).1/\(evT (cR r) (kas_descPart n nrem p)).1<=nrem/\Srt r (evT (cR r) (kas_descPart n nrem p)).2 (evT (cR r) (kas_descPart n nrem p)).1/\(evT (cR r) (kas_descPart n nrem p)).2.Perm p:=by
  obtain ⟨D,P,h3,h4⟩:=xk (r:=r) (nrem - (n + 1)) p (n + 1) 0 ⟨by omega,by omega,by omega,fun i g1 g2=>by
    by_cases y:i=n
    · subst y; omega
    · rw [heq i (by omega),heq (i - 1) (by omega)]; exact O6 _,fun i g1 g2=>by
    have:i=n:=by omega
    subst this; rfl⟩ (by omega)
  unfold kas_descPart
  rw [Us]
  generalize evT (cR r) (kas_desc (nrem - (n + 1)) p (n + 1) 0)=x at *
  obtain ⟨p1,m,q⟩:=x
  have sz:p1.size=p.size:=P.size_eq
  simp only at D P h3 h4
  dsimp only
  by_cases z:q > 0
  · rw [if_pos z]
    have he:=Q0f (r:=r) (p:=p1) (i:=m - (q + 1)) (j:=m) D.sz D.eq
    obtain ⟨a,b,c,d⟩:=tail_ev (r:=r) (p:=kas_rev p1 (m - (q + 1)) m) (n:=m) (nrem:=nrem) D.n1 (by omega) (by rw [j8]; omega) (fun i g1 g2=>by rw [he,he]; exact D.de i g1 g2)
    exact ⟨a,b,c,(d.trans (We _ _)).trans P⟩
  · rw [if_neg z]
    obtain ⟨a,b,c,d⟩:=tail_ev (r:=r) (p:=p1) (n:=m) (nrem:=nrem) D.n1 (by omega) (by omega) D.de
    exact ⟨a,b,c,d.trans P⟩
theorem Srt.le {p:Array Nat} {m:Nat} (h:Srt r p m):∀ {i j:Nat},i<=j->j < m->rk r p i<=rk r p j:=by
  intro i j hij
  induction j with
  | zero => intro _; have : i = 0 := by omega
            subst this; exact O6 _
  | succ j ih=>
    intro hj
    by_cases z:i=j + 1
    · subst z; exact O6 _
    · have h1:=ih (by omega) (by omega)
      have h2:=h (j + 1) (by omega) hj
      rw [Nat.add_sub_cancel] at h2
      exact E2 h1 h2
theorem count_ev {p:Array Nat} {n:Nat} (hn:1<=n) (hs:n<=p.size) :
    1<=(evT (cR r) (kas_count n p)).1/\(evT (cR r) (kas_count n p)).1<=n/\Srt r (evT (cR r) (kas_count n p)).2 (evT (cR r) (kas_count n p)).1/\(evT (cR r) (kas_count n p)).2.Perm p:=by
  obtain ⟨h1,h2,h3,h4⟩:=asc_ev (r:=r) p (n - 1) 1 (O6 _)
  unfold kas_count
  rw [Us]
  generalize evT (cR r) (kas_asc p (n - 1) 1)=m at *
  have S:Srt r p m:=fun i g1 g2=>h3 i g1 g2
  by_cases z:m=n
  · subst z
    rw [if_pos (by simp)]
    exact ⟨h1,O6 _,S,Array.Perm.refl _⟩
  · rw [if_neg (by simpa using z)]
    have hlt:=h4 (by omega)
    by_cases z2:m > 1
    · rw [if_pos z2]
      show 1<=(evT (cR r) (if decide (rk r p 0 < rk r p (m - 1))=true then KasT.ret (m,p) else kas_descPart m n (kas_rev p 0 m))).1/\(evT (cR r) (if decide (rk r p 0 < rk r p (m - 1))=true then KasT.ret (m,p) else kas_descPart m n (kas_rev p 0 m))).1<=n/\Srt r (evT (cR r) (if decide (rk r p 0 < rk r p (m - 1))=true then KasT.ret (m,p) else kas_descPart m n (kas_rev p 0 m))).2 (evT (cR r) (if decide (rk r p 0 < rk r p (m - 1))=true then KasT.ret (m,p) else kas_descPart m n (kas_rev p 0 m))).1/\(evT (cR r) (if decide (rk r p 0 < rk r p (m - 1))=true then KasT.ret (m,p) else kas_descPart m n (kas_rev p 0 m))).2.Perm p
      by_cases z3:rk r p 0 < rk r p (m - 1)
      · rw [if_pos (by simpa using z3)]
        exact ⟨h1,by show m<=n; omega,S,Array.Perm.refl _⟩
      · rw [if_neg (by simpa using z3)]
        have eq:∀ i,i < m->rk r p i=rk r p (m - 1):=fun i hi=>by
          have a:=S.le (i:=0) (j:=i) (by omega) hi
          have b:=S.le (i:=i) (j:=m - 1) (by omega) (by omega)
          omega
        have he:=Q0f (r:=r) (p:=p) (i:=0) (j:=m) (by omega) (fun k _ hk=>eq k hk)
        obtain ⟨a,b,c,d⟩:=ye (r:=r) (p:=kas_rev p 0 m) (n:=m) (nrem:=n) h1 (by omega) (by rw [j8]; exact hs) (fun i hi=>by rw [he,he]; exact eq i hi) (by rw [he,he]; exact hlt)
        exact ⟨a,b,c,d.trans (We _ _)⟩
    · rw [if_neg z2]
      have:m=1:=by omega
      subst this
      exact ye (r:=r) (O6 _) (by omega) hs (fun i hi=>by rw [show i=0 by omega]) hlt
theorem Q0k {p:Array Nat} {k:Nat} (S:Srt r p k):∀ f l q,l<=q->q<=k->q - l<=f->(∀ i,i < l->rk r p i<=rk r p k)->(∀ i,q<=i->i < k->rk r p k < rk r p i) ->
    evT (cR r) (kas_place p k f l q)<=k/\(∀ i,i < evT (cR r) (kas_place p k f l q)->rk r p i<=rk r p k)/\(∀ i,evT (cR r) (kas_place p k f l q)<=i->i < k->rk r p k < rk r p i)
  | 0,l,q,h1,h2,h3,h4,h5=>by
    have:l=q:=by omega
    subst this
    exact ⟨h2,h4,h5⟩
  | f + 1,l,q,h1,h2,h3,h4,h5=>by
    by_cases z:l>=q
    · have:l=q:=by omega
      subst this
      have e:evT (cR r) (kas_place p k (f + 1) l l)=l:=by rw [kas_place,if_pos (O6 _)]; rfl
      rw [e]
      exact ⟨h2,h4,h5⟩
    · have e:evT (cR r) (kas_place p k (f + 1) l q)=if rk r p k < rk r p ((l + q) / 2) then evT (cR r) (kas_place p k f l ((l + q) / 2)) else evT (cR r) (kas_place p k f ((l + q) / 2 + 1) q):=by
        rw [kas_place,if_neg z]
        show evT (cR r) (if decide (rk r p k < rk r p ((l + q) / 2))=true then kas_place p k f l ((l + q) / 2) else kas_place p k f ((l + q) / 2 + 1) q)=_
        by_cases y:rk r p k < rk r p ((l + q) / 2)
        · rw [if_pos (by simpa using y),if_pos y]
        · rw [if_neg (by simpa using y),if_neg y]
      rw [e]
      have m1:l<=(l + q) / 2:=by omega
      have m2:(l + q) / 2 < q:=by omega
      generalize (l + q) / 2=mm at *
      by_cases y:rk r p k < rk r p mm
      · rw [if_pos y]
        exact Q0k S f l mm m1 (by omega) (by omega) h4 fun i g1 g2=>D2 y (S.le g1 g2)
      · rw [if_neg y]
        exact Q0k S f (mm + 1) q (by omega) h2 (by omega) (fun i g=>E2 (S.le (show i<=mm by omega) (by omega)) (by omega)) h5
theorem bin_ev:∀ f (p:Array Nat) k,1<=k->k + f<=p.size->Srt r p k->Srt r (evT (cR r) (kas_bin f p k)) (k + f)/\(evT (cR r) (kas_bin f p k)).Perm p
  | 0,p,k,_,_,S=>⟨S,Array.Perm.refl _⟩
  | f + 1,p,k,hk,hs,S=>by
    obtain ⟨h1,h2,h3⟩:=Q0k S k 0 k (Nat.zero_le _) (O6 _) (by omega) (fun i g=>by omega) (fun i g1 g2=>by omega)
    have e:evT (cR r) (kas_bin (f + 1) p k)=evT (cR r) (kas_bin f (bubble p k (k - evT (cR r) (kas_place p k k 0 k))) (k + 1)):=by rw [kas_bin,Us]
    rw [e]
    generalize evT (cR r) (kas_place p k k 0 k)=l at *
    have S2:Srt r (bubble p k (k - l)) (k + 1):=fun i g1 g2=>by
      rw [rk_bub (by omega) (by omega),rk_bub (by omega) (by omega),show k - (k - l)=l by omega]
      by_cases a:i=l
      · subst a
        rw [if_neg (by omega),if_neg (by omega),if_pos rfl]
        exact h2 (i - 1) (by omega)
      · by_cases b:i - 1=l
        · rw [if_pos b,if_neg a,if_pos (by omega),b]
          exact Nat.le_of_lt (h3 l (O6 _) (by omega))
        · rw [if_neg b,if_neg a]
          by_cases c:l < i
          · rw [if_pos (by omega),if_pos (by omega)]
            exact S (i - 1) (by omega) (by omega)
          · rw [if_neg (by omega),if_neg (by omega)]
            exact S i g1 (by omega)
    obtain ⟨a,b⟩:=bin_ev f (bubble p k (k - l)) (k + 1) (by omega) (by rw [bubble_size]; omega) S2
    exact ⟨by rw [show k + (f + 1)=k + 1 + f by omega]; exact a,b.trans (bubble_perm _ _ _)⟩
theorem sort_ev {n:Nat} (hn:1<=n):Srt r (evT (cR r) (kas_sort n)) n/\(evT (cR r) (kas_sort n)).Perm (List.toArray (List.range n)):=by
  obtain ⟨h1,h2,h3,h4⟩:=count_ev (r:=r) (p:=List.toArray (List.range n)) (n:=n) hn (by simp)
  unfold kas_sort
  rw [Us]
  generalize evT (cR r) (kas_count n (List.toArray (List.range n)))=x at *
  obtain ⟨m,p⟩:=x
  have sz:p.size=n:=by have:=h4.size_eq; simpa using this
  simp only at h1 h2 h3 h4
  dsimp only
  by_cases z:m < n
  · rw [if_pos z,show max m 1=m by omega]
    obtain ⟨a,b⟩:=bin_ev (r:=r) (n - m) p m h1 (by omega) h3
    rw [show m + (n - m)=n by omega] at a
    exact ⟨a,b.trans h4⟩
  · rw [if_neg z]
    have:m=n:=by omega
    subst this
    exact ⟨h3,h4⟩
end
def Asks {α:Type} (n:Nat):KasT α->(α->Prop)->Prop
  | .ret a,P=>P a
  | .ask i j k,P=>i < n/\j < n/\∀ b,Asks n (k b) P
theorem Asks.bind {α β:Type} {n:Nat} {P:α->Prop} {Q:β->Prop} {f:α->KasT β} (hf:∀ a,P a->Asks n (f a) Q):∀ {t:KasT α},Asks n t P->Asks n (t.bind f) Q
  | .ret a,h=>hf a h
  | .ask i j k,h=>⟨h.1,h.2.1,fun b=>Asks.bind hf (h.2.2 b)⟩
def AL (n:Nat) (p:Array Nat):Prop:=0 < n/\∀ x∈p.toList,x < n
theorem AL.get {n:Nat} {p:Array Nat} (h:AL n p) (i:Nat):p.getD i 0 < n:=by
  rw [Array.getD_eq_getD_getElem?]
  by_cases z:i < p.size
  · rw [Array.getElem?_eq_getElem z]
    exact h.2 _ (by simp)
  · rw [Array.getElem?_eq_none (by omega)]; exact h.1
theorem AL.perm {n:Nat} {p q:Array Nat} (h:AL n p) (e:q.Perm p):AL n q:=⟨h.1,fun x hx=>h.2 x ((Array.perm_iff_toList_perm.mp e).mem_iff.mp hx)⟩
theorem Wn {α:Type} {n:Nat} {P:α->Prop} {c:Prop} [Decidable c] {t u:KasT α} (h1:Asks n t P) (h2:Asks n u P):Asks n (if c then t else u) P:=by
  split
  · exact h1
  · exact h2
theorem Q1m {n:Nat} {p:Array Nat} (h:AL n p):∀ f m,Asks n (kas_asc p f m) (fun _=>True)
  | 0,m=>trivial
  | f + 1,m=>⟨h.get _,h.get _,fun b=>Wn trivial (Q1m h f (m + 1))⟩
theorem Kn {n:Nat}:∀ f (p:Array Nat) m q,AL n p->Asks n (kas_desc f p m q) (fun x=>AL n x.1)
  | 0,p,m,q,h=>h
  | f + 1,p,m,q,h=>⟨h.get _,h.get _,fun b=>Wn (Wn (Kn f _ _ _ (h.perm (We _ _))) (Kn f _ _ _ h)) ⟨h.get _,h.get _,fun d=>Wn h (Kn f _ _ _ h)⟩⟩
theorem asks_tail {n:Nat} {p:Array Nat} (h:AL n p) (m k:Nat):Asks n (kas_tail3 m k p) (fun x=>AL n x.2):=by
  unfold kas_tail3
  refine Asks.bind (P:=fun _=>True) (fun a _=>?_) (Q1m (h.perm (We _ _)) _ _)
  exact h.perm (We _ _)
theorem qb {n:Nat} {p:Array Nat} (h:AL n p) (m k:Nat):Asks n (kas_descPart m k p) (fun x=>AL n x.2):=
  Asks.bind (fun x hx=>Wn (asks_tail (AL.perm hx (We _ _)) _ _) (asks_tail hx _ _)) (Kn _ _ _ _ h)
theorem asks_count {n:Nat} {p:Array Nat} (h:AL n p) (k:Nat):Asks n (kas_count k p) (fun x=>AL n x.2):=by
  unfold kas_count
  refine Asks.bind (P:=fun _=>True) (fun m _=>?_) (Q1m h _ _)
  refine Wn (show AL n p from h) (Wn ?_ (qb h _ _))
  exact ⟨h.get _,h.get _,fun c=>Wn (show AL n p from h) (qb (h.perm (We _ _)) _ _)⟩
theorem qr {n:Nat} {p:Array Nat} (h:AL n p) (k:Nat):∀ f l q,Asks n (kas_place p k f l q) (fun _=>True)
  | 0,_,_=>trivial
  | f + 1,l,q=>by
    rw [kas_place]
    exact Wn trivial ⟨h.get _,h.get _,fun c=>Wn (qr h k f _ _) (qr h k f _ _)⟩
theorem asks_bin {n:Nat}:∀ f (p:Array Nat) k,AL n p->Asks n (kas_bin f p k) (fun _=>True)
  | 0,_,_,_=>trivial
  | f + 1,p,k,h=>by
    rw [kas_bin]
    exact Asks.bind (fun l _=>asks_bin f _ _ (h.perm (bubble_perm _ _ _))) (qr h k _ _ _)
theorem asks_sort {n:Nat} (hn:1<=n):Asks n (kas_sort n) (fun _=>True):=by
  have h:AL n (List.toArray (List.range n)):=⟨hn,fun x hx=>by simpa using hx⟩
  unfold kas_sort
  refine Asks.bind (P:=fun x=>AL n x.2) (fun x hx=>?_) (asks_count h n)
  exact Wn (asks_bin _ _ _ hx) (show True from trivial)
theorem kasWp_ev {α:Type} {cmp:Nat->Nat->(Bool->Shared->Prop)->Shared->Prop} {c:Nat->Nat->Bool} {n:Nat} {s:Shared} (h:∀ i j (C:Bool->Shared->Prop),i < n->j < n->C (c i j) s->cmp i j C s) :
    ∀ (t:KasT α) (P:α->Prop) (Q:α->Shared->Prop),Asks n t P->Q (evT c t) s->t.kasWp cmp Q s
  | .ret a,_,_,_,q=>q
  | .ask i j k,P,Q,a,q=>h i j _ a.1 a.2.1 (kasWp_ev h (k (c i j)) P Q (a.2.2 _) q)
end L2
namespace L2
open PySem PySem.Spec PyProof.Rows PySem.W
section
variable {prog:Program} {w:World} {A:Around} {E:Value->Shared->Prop} {s:Shared}
inductive TupsAre (h:Heap):List Value->List (List Int)->Prop
  | nil:TupsAre h [] []
  | cons {a:Addr} {o:Obj} {xs:Array Value} {n:Nat} {x:Int} {ns:List Int} {vs:List Value} {nss:List (List Int)} (ho:h.get? a=some o) (hc:o.cls=.type "tuple") (hd:o.data=.seq xs n) (hi:IntsAre xs.toList (x :: ns)) (r:TupsAre h vs nss):TupsAre h (.ref a :: vs) ((x :: ns) :: nss)
theorem TupsAre.keep {h h':Heap} (k:∀ b o,h.get? b=some o->h'.get? b=some o):∀ {vs:List Value} {nss:List (List Int)},TupsAre h vs nss->TupsAre h' vs nss
  | _,_,.nil=>.nil
  | _,_,.cons ho hc hd hi r=>.cons (k _ _ ho) hc hd hi (r.keep k)
theorem TupsAre.keepT {h h':Heap} (k:∀ b o,o.cls=.type "tuple" -> h.get? b=some o->h'.get? b=some o):∀ {vs:List Value} {nss:List (List Int)},TupsAre h vs nss->TupsAre h' vs nss
  | _,_,.nil=>.nil
  | _,_,.cons ho hc hd hi r=>.cons (k _ _ hc ho) hc hd hi (r.keepT k)
theorem TupsAre.length {h:Heap}:∀ {vs:List Value} {nss:List (List Int)},TupsAre h vs nss->vs.length=nss.length
  | _,_,.nil=>rfl
  | _,_,.cons _ _ _ _ r=>by rw [F1,F1,r.length]
theorem TupsAre.at {h:Heap}:∀ {vs:List Value} {nss:List (List Int)},TupsAre h vs nss->∀ i,i < vs.length->∃ a o xs n,vs.getD i Value.none=.ref a/\h.get? a=some o/\o.data=.seq xs n/\IntsAre xs.toList (nss.getD i [])
  | _,_,.nil,i,hi=>by simp at hi
  | _,_,.cons ho hc hd hi r,0,_=>⟨_,_,_,_,rfl,ho,hd,hi⟩
  | _,_,.cons ho hc hd hi r,i + 1,hl=>by
    obtain ⟨a,o,xs,n,h1,h2,h3,h4⟩:=r.at i (by simpa using hl)
    exact ⟨a,o,xs,n,by simpa using h1,h2,h3,by simpa using h4⟩
theorem TupsAre.firsts {M:Model} {h:Heap}:∀ {vs:List Value} {nss:List (List Int)},TupsAre h vs nss->∃ fs,KatTups h vs fs/\fs.length=vs.length/\∀ v∈fs,Looks M h (typeOf v) (.type "int")
  | _,_,.nil=>⟨[],.nil,rfl,fun v hv=>by cases hv⟩
  | _,_,.cons (xs:=xs) (x:=x0) ho hc hd hi r=>by
    obtain ⟨fs,h1,h2,h3⟩:=r.firsts (M:=M)
    have hi':=hi
    generalize hl:xs.toList=l at hi'
    cases hi' with
    | cons _ t hr=>
      refine ⟨.int x0 t :: fs,.cons ho hc hd ?_ h1,by simp [h2],fun v hv=>?_⟩
      · rw [<- Array.getElem?_toList,hl]; rfl
      · rcases D6.mp hv with rfl | hv
        · exact Looks.of_pure rfl
        · exact h3 v hv
def Wq:List Int->List Int->Bool
  | [],[]=>false
  | [],_ :: _=>true
  | _ :: _,[]=>false
  | a :: as,b :: bs=>if a=b then Wq as bs else decide (a < b)
theorem lex_run (b:Bool) {Q:Bool->Shared->Prop}:∀ {xs ys:List Value} {ns ms:List Int} (d:Bool) (i:Nat),IntsAre xs ns->IntsAre ys ms->d=decide (xs.length < ys.length)->Q (Wq ns ms) s->KatLex prog w A b d Q (xs.zip ys) i s
  | _,_,_,_,d,i,.nil,.nil,hd,q=>by
    have:d=false:=by rw [hd]; simp
    subst this
    exact q
  | _,_,_,_,d,i,.nil,.cons _ _ _,hd,q=>by
    have:d=true:=by rw [hd]; simp
    subst this
    exact q
  | _,_,_,_,d,i,.cons _ _ _,.nil,hd,q=>by
    have:d=false:=by rw [hd]; simp
    subst this
    exact q
  | _,_,_,_,d,i,.cons x t hr,.cons y u hq,hd,q=>by
    rw [List.zip_cons_cons]
    refine kat_cons (wpAny_eqBool_int ?_)
    by_cases z:x=y
    · subst z
      rw [beq_self_eq_true]
      refine kat_yes (lex_run b d (i + 1) hr hq (by rw [hd]; simp) ?_)
      rw [Wq,if_pos rfl] at q
      exact q
    · rw [beq_eq_false_iff_ne.mpr z]
      refine kat_no ?_
      rw [Wq,if_neg z] at q
      cases b && i == 0 with
      | true=>exact oneLt_int q
      | false=>exact kat_one _ _ (lt_int q)
def Vs (nss:List (List Int)) (i:Nat):Nat:=(nss.filter fun ms=>Wq ms (nss.getD i [])).length
theorem jj:∀ a:List Int,Wq a a=false
  | []=>rfl
  | a :: as=>by rw [Wq,if_pos rfl]; exact jj as
theorem X2:∀ {a b c:List Int},Wq a b=true->Wq b c=true->Wq a c=true
  | [],[],_,h,_=>by cases h
  | [],_ :: _,[],_,h=>by cases h
  | [],_ :: _,_ :: _,_,_=>rfl
  | _ :: _,[],_,h,_=>by cases h
  | _ :: _,_ :: _,[],_,h=>by cases h
  | a :: as,b :: bs,c :: cs,h1,h2=>by
    rw [Wq] at h1 h2 ⊢
    by_cases z1:a=b
    · subst z1
      rw [if_pos rfl] at h1
      by_cases z2:a=c
      · subst z2
        rw [if_pos rfl] at h2 ⊢
        exact X2 h1 h2
      · rw [if_neg z2] at h2 ⊢; exact h2
    · rw [if_neg z1] at h1
      have h1':a < b:=by simpa using h1
      by_cases z2:b=c
      · subst z2
        rw [if_neg z1]; exact h1
      · rw [if_neg z2] at h2
        have h2':b < c:=by simpa using h2
        rw [if_neg (by omega)]
        simp; omega
theorem ji:∀ {a b:List Int},Wq a b=false->Wq b a=false->a=b
  | [],[],_,_=>rfl
  | [],_ :: _,h,_=>by cases h
  | _ :: _,[],_,h=>by cases h
  | a :: as,b :: bs,h1,h2=>by
    rw [Wq] at h1 h2
    by_cases z:a=b
    · subst z
      rw [if_pos rfl] at h1 h2
      rw [ji h1 h2]
    · rw [if_neg z] at h1
      rw [if_neg (fun e=>z e.symm)] at h2
      have h1':¬ a < b:=by simpa using h1
      have h2':¬ b < a:=by simpa using h2
      exact absurd (show a=b by omega) z
theorem Kz {α:Type} {p q:α->Bool}:∀ {l:List α},(∀ x∈l,p x=true->q x=true)->(∃ x∈l,p x=false/\q x=true)->(l.filter p).length < (l.filter q).length
  | [],_,h=>by obtain ⟨_,h,_⟩:=h; cases h
  | x :: l,h,hx=>by
    have hle:(l.filter p).length<=(l.filter q).length:=by
      clear hx
      induction l with
      | nil=>exact O6 _
      | cons y l ih=>
        have ih:=ih fun z hz=>h z (by rcases D6.mp hz with rfl | hz <;> simp [*])
        have hy:=h y (by simp)
        rw [List.filter_cons,List.filter_cons]
        by_cases a:p y=true
        · rw [if_pos a,if_pos (hy a)]; simp; exact ih
        · rw [if_neg a]
          split
          · simp; omega
          · exact ih
    rw [List.filter_cons,List.filter_cons]
    obtain ⟨y,hy,h1,h2⟩:=hx
    rcases D6.mp hy with rfl | hy
    · rw [h1,h2]; simp; omega
    · have ih:=Kz (fun z hz=>h z (D4 _ hz)) ⟨y,hy,h1,h2⟩
      by_cases a:p x=true
      · rw [if_pos a,if_pos (h x (by simp) a)]; simp; exact ih
      · rw [if_neg a]
        split
        · simp; omega
        · exact ih
theorem rank_lt {nss:List (List Int)} {i j:Nat} (hi:i < nss.length) (hj:j < nss.length):cR (Vs nss) i j=Wq (nss.getD i []) (nss.getD j []):=by
  have mem:∀ k,k < nss.length->nss.getD k []∈nss:=fun k hk=>by
    rw [E9,O2 hk]; exact List.getElem_mem hk
  unfold cR
  have key:∀ {i j:Nat},i < nss.length->j < nss.length->Wq (nss.getD i []) (nss.getD j [])=true->Vs nss i < Vs nss j:=fun {i j} hi hj h=>
    Kz (fun x _ hx=>X2 hx h) ⟨nss.getD i [],mem i hi,jj _,h⟩
  cases z:Wq (nss.getD i []) (nss.getD j []) with
  | true=>exact decide_eq_true (key hi hj z)
  | false=>
    refine decide_eq_false ?_
    cases z2:Wq (nss.getD j []) (nss.getD i []) with
    | true=>have:=key hj hi z2; omega
    | false=>
      have e:=ji z z2
      unfold Vs
      rw [e]
      exact Nat.lt_irrefl _
theorem sort_tups {a:Addr} {vs:List Value} {nss:List (List Int)} {n:Nat} {P:PySem.Fin->Shared->Prop} (ho:s.heap.get? a=some (seqObj "list" vs.toArray n)) (hT:TupsAre s.heap vs nss) (h64:vs.length < 64)
    (h:∀ (p:List Nat) (h':Heap) (k:Nat),p.Perm (List.range vs.length)->(∀ i,1<=i->i < vs.length->Wq (nss.getD (p.getD i 0) []) (nss.getD (p.getD (i - 1) 0) [])=false)->h'.get? a=some (seqObj "list" (List.toArray (p.map fun i=>vs.getD i Value.none)) k)->(∀ b o,b≠a->s.heap.get? b=some o->h'.get? b=some o)->P (.done (.ret .none)) { s with heap:=h' }) :
    wpAny (model prog w) A (Builtin.«list.sort» ⟨[.ref a],[]⟩) P E s:=by
  have ha:a < s.heap.objs.size:=O7 ho
  obtain ⟨e1,ho1⟩:∃ e1,(s.heap.update a (Obj.mapSeq fun _=>(#[]:Array Value))).get? a=some (seqObj "list" #[] e1):=⟨_,get?_update_seq ho fun _=>#[]⟩
  have keep3:∀ b o,b≠a->s.heap.get? b=some o->(((s.heap.update a (Obj.mapSeq fun _=>(#[]:Array Value))).push (seqObj "tuple" vs.toArray 0)).push (seqObj "list" #[] 0)).get? b=some o:=fun b o hb e=>
    O1 _ (O1 _ (by rw [Heap.get?_update_ne _ _ _ _ hb]; exact e))
  have ho3:(((s.heap.update a (Obj.mapSeq fun _=>(#[]:Array Value))).push (seqObj "tuple" vs.toArray 0)).push (seqObj "list" #[] 0)).get? a=some (seqObj "list" #[] e1):=O1 _ (O1 _ ho1)
  rw [list_sort_plain]
  refine wpAny_bind (listItems_at ho rfl ?_)
  refine wpAny_bind (listUpdate_at ho rfl ?_ (by rw [O4,sizeLine_eq]; omega) (Nat.zero_le _))
  refine wpAny_bind (seqEpoch_at ho1 rfl ?_)
  refine wpAny_bind (wpAny_newTuple ?_ (by show vs.length<=_; rw [sizeLine_eq]; omega))
  refine wpAny_bind (wpAny_newList ?_ (Nat.zero_le _))
  refine wpAny_holding ?_
  show wpAny (model prog w) A _ P E { s with heap:=((s.heap.update a (Obj.mapSeq fun _=>(#[]:Array Value))).push (seqObj "tuple" vs.toArray 0)).push (seqObj "list" #[] 0) }
  dsimp only
  generalize hH:((s.heap.update a (Obj.mapSeq fun _=>(#[]:Array Value))).push (seqObj "tuple" vs.toArray 0)).push (seqObj "list" #[] 0)=H3 at *
  have fin:∀ (st:SortSt) (p:List Nat),p.Perm (List.range vs.length)->(arrOf st).map (·.2)=List.toArray (p.map fun i=>vs.getD i Value.none)->failedOf st=none->(∀ i,1<=i->i < vs.length->Wq (nss.getD (p.getD i 0) []) (nss.getD (p.getD (i - 1) 0) [])=false) ->
      wpAny (model prog w) A (do
        let sorted:=(arrOf st).map (·.2)
        let touched:=(<- seqEpoch a) != e1
        Builtin.List.listUpdate (.ref a) fun _=>sorted
        if let some e:=failedOf st then rule "list.sort.comparison-raised"; throw e
        if touched then rule "list.sort.modified"; raiseError "ValueError" "list modified during sort"
        ret .none) P E { s with heap:=H3 }:=fun st p hp ha2 hf hs=>by
    dsimp only
    have hl:(List.toArray (p.map fun i=>vs.getD i Value.none)).size=vs.length:=by rw [O4,O5,hp.length_eq,G6]
    obtain ⟨c2,hc2⟩:∃ c2,(H3.update a (Obj.mapSeq fun _=>List.toArray (p.map fun i=>vs.getD i Value.none))).get? a=some (seqObj "list" (List.toArray (p.map fun i=>vs.getD i Value.none)) c2):=⟨_,get?_update_seq ho3 fun _=>List.toArray (p.map fun i=>vs.getD i Value.none)⟩
    rw [ha2,hf]
    refine wpAny_bind (seqEpoch_at ho3 rfl ?_)
    refine wpAny_bind (listUpdate_at ho3 rfl ?_ (Nat.zero_le _) (E2 (Nat.le_of_eq hl) (by rw [sizeLine_eq]; omega)))
    simp only [bne_self_eq_false,Bool.false_eq_true,if_false]
    exact wpAny_pure (h p _ c2 hp hs hc2 fun b o hb e=>by rw [Heap.get?_update_ne _ _ _ _ hb]; exact keep3 b o hb e)
  by_cases h2:vs.toArray.size < 2
  · rw [if_pos h2,if_pos h2]
    refine wpAny_bind (wpAny_pure ?_)
    rw [StateT.run_pure]
    refine wpAny_bind (wpAny_pure ?_)
    refine fin (SortSt.mk' general' (vs.toArray.zip vs.toArray) #[] 7 none) (List.range vs.length) (List.Perm.refl _) ?_ rfl (fun i g1 g2=>?_)
    · show (vs.toArray.zip vs.toArray).map (·.2)=_
      apply Array.toList_inj.mp
      apply List.ext_getElem?
      intro i
      by_cases z:i < vs.length
      · simp [z]
      · simp [z]
    · rw [O4] at h2; omega
  · rw [if_neg h2,if_neg h2]
    rw [O4] at h2
    have hT3:TupsAre H3 vs nss:=hT.keepT fun b o hc e=>keep3 b o (fun z=>by
      rw [z,ho] at e
      have e:=Option.some.inj e
      rw [<- e] at hc
      exact absurd (show Value.type "list" = .type "tuple" from hc) (by decide)) e
    obtain ⟨fs,k1,k2,k3⟩:=hT3.firsts (M:=model prog w)
    refine wpAny_bind (kat_kind (s:={ s with heap:=H3 }) (T:=.type "int") k1 (by omega) k3 (by decide) ?_)
    have hask:∀ i j (C:Bool->Shared->Prop),i < vs.length->j < vs.length->C (cR (Vs nss) i j) { s with heap:=H3 }->kas_ask prog w A (tuples' (Value.type "int" != Value.type "tuple")) vs i j C { s with heap:=H3 }:=fun i j C hi hj q=>by
      obtain ⟨ai,oi,xi,ni,e1,e2,e3,e4⟩:=hT3.at i hi
      obtain ⟨aj,oj,xj,nj,f1,f2,f3,f4⟩:=hT3.at j hj
      rw [rank_lt (by rw [<- hT.length]; exact hi) (by rw [<- hT.length]; exact hj)] at q
      unfold kas_ask
      rw [e1,f1]
      exact kat_lt e2 e3 f2 f3 (lex_run _ _ 0 e4 f4 (by simp) q)
    have hev:=sort_ev (r:=Vs nss) (n:=vs.length) (by omega)
    refine wpAny_bind (wpAny_mono (kat_run (vs:=vs) (ks:=vs) (Q:=fun st' s'=>s'={ s with heap:=H3 }/\arrOf st'=(evT (cR (Vs nss)) (kas_sort vs.length)).map (kas_item (vs.toArray.zip vs.toArray))/\failedOf st'=none)
      (G:=fun p s'=>s'={ s with heap:=H3 }/\p=evT (cR (Vs nss)) (kas_sort vs.length)) rfl (by omega) h64 (fun p' st' s' a1 a2 a3 a4=>⟨a4.1,by rw [<- a4.2]; exact a2,a3⟩) (kasWp_ev hask _ (fun _=>True) _ (asks_sort (by omega)) ⟨rfl,rfl⟩)) ?_ fun _ _ e=>e)
    rintro ⟨⟨⟩,st'⟩ s' ⟨rfl,har,hf⟩
    have hpl:(evT (cR (Vs nss)) (kas_sort vs.length)).toList.Perm (List.range vs.length):=by
      have:=Array.perm_iff_toList_perm.mp hev.2
      simpa using this
    refine fin st' _ hpl (kat_snds rfl har) hf fun i g1 g2=>?_
    have hr:=hev.1 i g1 g2
    have hin:∀ k,(evT (cR (Vs nss)) (kas_sort vs.length)).toList.getD k 0 < vs.length:=fun k=>by
      have hal:AL vs.length (evT (cR (Vs nss)) (kas_sort vs.length)):=AL.perm (p:=List.toArray (List.range vs.length)) ⟨by omega,fun x hx=>by simpa using hx⟩ hev.2
      have:=hal.get k
      rw [Array.getD_eq_getD_getElem?,<- Array.getElem?_toList] at this
      rw [E9]; exact this
    have hg:∀ k,(evT (cR (Vs nss)) (kas_sort vs.length)).getD k 0=(evT (cR (Vs nss)) (kas_sort vs.length)).toList.getD k 0:=fun k=>by
      rw [Array.getD_eq_getD_getElem?,<- Array.getElem?_toList,E9]
    unfold rk at hr
    rw [hg,hg] at hr
    have:=rank_lt (nss:=nss) (i:=(evT (cR (Vs nss)) (kas_sort vs.length)).toList.getD i 0) (j:=(evT (cR (Vs nss)) (kas_sort vs.length)).toList.getD (i - 1) 0) (by rw [<- hT.length]; exact hin _) (by rw [<- hT.length]; exact hin _)
    rw [<- this]
    exact decide_eq_false (Nat.not_lt.mpr hr)
theorem sorted_tups {l:Addr} {vs:List Value} {nss:List (List Int)} {Q:Value->Shared->Prop} (hl:s.heap.IsList l vs.toArray) (hT:TupsAre s.heap vs nss) (h64:vs.length < 64)
    (h:∀ (p:List Nat) (h':Heap) (D k:Nat),p.Perm (List.range vs.length)->(∀ i,1<=i->i < vs.length->Wq (nss.getD (p.getD i 0) []) (nss.getD (p.getD (i - 1) 0) [])=false)->s.heap.objs.size<=D->h'.get? D=some (seqObj "list" (List.toArray (p.map fun i=>vs.getD i Value.none)) k)->(∀ b o,s.heap.get? b=some o->h'.get? b=some o)->Q (.ref D) { s with heap:=h' }) :
    wpAny (model prog w) A (call (.builtin "sorted") [.ref l]) Q E s:=by
  refine Calls.call_function_entry kind_sorted plain_sorted entry_sorted (args_sorted1 _) ?_
  unfold Builtin.«sorted»
  refine wpAny_bind (m:=checkCount "sorted" 1 1 _) (wpAny_pure ?_)
  refine wpAny_bind (collect_list hl ?_ (by rw [sizeLine_eq]; omega))
  refine wpAny_bind (wpAny_newList ?_ (by rw [sizeLine_eq]; omega))
  have hsz:((s.heap.push (seqObj "list" #[] 0)).update s.heap.objs.size (Obj.mapSeq (· ++ vs.toArray))).objs.size=s.heap.objs.size + 1:=by
    rw [Heap.size_update,size_push']
  have hoL:(((s.heap.push (seqObj "list" #[] 0)).update s.heap.objs.size (Obj.mapSeq (· ++ vs.toArray))).push (seqObj "list" vs.toArray 0)).get? (s.heap.objs.size + 1)=some (seqObj "list" vs.toArray 0):=by
    rw [<- hsz]; exact D3 _ rfl
  have keep:∀ b o,s.heap.get? b=some o->(((s.heap.push (seqObj "list" #[] 0)).update s.heap.objs.size (Obj.mapSeq (· ++ vs.toArray))).push (seqObj "list" vs.toArray 0)).get? b=some o:=fun b o q=>by
    have hlt:b < s.heap.objs.size:=O7 q
    rw [Heap.get?_push_ne _ _ _ (by rw [hsz]; exact D7 (Nat.lt_succ_of_lt hlt)),Heap.get?_update_ne _ _ _ _ (D7 hlt),Heap.get?_push_ne _ _ _ (D7 hlt)]
    exact q
  show wpAny _ _ _ _ _ { s with heap:=((s.heap.push (seqObj "list" #[] 0)).update s.heap.objs.size (Obj.mapSeq (· ++ vs.toArray))).push (seqObj "list" vs.toArray 0) }
  rw [hsz]
  refine wpAny_bind (wpAny_holding (wpAny_call_entry slot_list_sort ⟨_,hoL,rfl⟩ entry_list_sort ?body (args_list_sort _)))
  case body=>
    refine sort_tups (s:={ s with heap:=((s.heap.push (seqObj "list" #[] 0)).update s.heap.objs.size (Obj.mapSeq (· ++ vs.toArray))).push (seqObj "list" vs.toArray 0) }) hoL (hT.keep keep) h64 fun p h' k a1 a2 a3 a4=>?_
    exact ⟨_,rfl,wpAny_pure ⟨_,rfl,h p h' _ k a1 a2 (Nat.le_succ _) a3 fun b o e=>a4 b o (D7 (Nat.lt_succ_of_lt (O7 e))) (keep b o e)⟩⟩
end
end L2
namespace L2
open PySem PySem.Spec PyProof.Rows
def insL (a:List Int):List (List Int)->List (List Int)
  | []=>[a]
  | b :: r=>if Wq b a=true then b :: insL a r else a :: b :: r
def Xf:List (List Int)->List (List Int)
  | []=>[]
  | a :: r=>insL a (Xf r)
def leL (a b:List Int):Prop:=Wq b a=false
theorem leL_iff (a b:List Int):leL a b <-> a=b\/Wq a b=true:=by
  unfold leL
  constructor
  · intro h
    cases z:Wq a b with
    | true=>exact .inr rfl
    | false=>exact .inl (ji z h)
  · rintro (rfl | h)
    · exact jj a
    · cases z:Wq b a with
      | false=>rfl
      | true=>have:=X2 h z; rw [jj] at this; cases this
theorem leL_trans {a b c:List Int} (h1:leL a b) (h2:leL b c):leL a c:=by
  rw [leL_iff] at *
  rcases h1 with rfl | h1
  · exact h2
  · rcases h2 with rfl | h2
    · exact .inr h1
    · exact .inr (X2 h1 h2)
theorem leL_anti {a b:List Int} (h1:leL a b) (h2:leL b a):a=b:=ji h2 h1
theorem zp (a:List Int):∀ l,(insL a l).Perm (a :: l)
  | []=>List.Perm.refl _
  | b :: r=>by
    rw [insL]
    split
    · exact ((zp a r).cons b).trans (List.Perm.swap a b r)
    · exact List.Perm.refl _
theorem Q05:∀ l,(Xf l).Perm l
  | []=>List.Perm.refl _
  | a :: r=>(zp a (Xf r)).trans ((Q05 r).cons a)
theorem yb {a:List Int}:∀ {l:List (List Int)},l.Pairwise leL->(insL a l).Pairwise leL
  | [],_=>by rw [insL]; exact List.pairwise_singleton _ _
  | b :: r,h=>by
    obtain ⟨h1,h2⟩:=List.pairwise_cons.mp h
    rw [insL]
    split
    · rename_i q
      refine List.pairwise_cons.mpr ⟨fun x hx=>?_,yb h2⟩
      rcases D6.mp ((zp a r).mem_iff.mp hx) with rfl | hx
      · exact (leL_iff b x).mpr (.inr q)
      · exact h1 x hx
    · rename_i q
      have q':leL a b:=by unfold leL; simpa using q
      refine List.pairwise_cons.mpr ⟨fun x hx=>?_,h⟩
      rcases D6.mp hx with rfl | hx
      · exact q'
      · exact leL_trans q' (h1 x hx)
theorem qx:∀ l,(Xf l).Pairwise leL
  | []=>List.Pairwise.nil
  | a :: r=>yb (qx r)
theorem Q2b:∀ {a b:List (List Int)},a.Perm b->a.Pairwise leL->b.Pairwise leL->a=b
  | [],b,h,_,_=>(List.nil_perm.mp h).symm
  | x :: a,[],h,_,_=>absurd (List.perm_nil.mp h) (by simp)
  | x :: a,y :: b,h,ha,hb=>by
    obtain ⟨a1,a2⟩:=List.pairwise_cons.mp ha
    obtain ⟨b1,b2⟩:=List.pairwise_cons.mp hb
    have e:x=y:=by
      rcases D6.mp (h.mem_iff.mp (E4 (a:=x) (l:=a))) with e | hx
      · exact e
      · rcases D6.mp (h.mem_iff.mpr (E4 (a:=y) (l:=b))) with e | hy
        · exact e.symm
        · exact leL_anti (a1 y hy) (b1 x hx)
    subst e
    rw [Q2b (List.Perm.cons_inv h) a2 b2]
theorem Q1w {l:List (List Int)} (h:∀ i,1<=i->i < l.length->Wq (l.getD i []) (l.getD (i - 1) [])=false):l.Pairwise leL:=by
  rw [List.pairwise_iff_getElem]
  have g:∀ k (hk:k < l.length),l.getD k []=l[k]:=fun k hk=>by rw [E9,O2 hk]; rfl
  have key:∀ d i (hi:i + d < l.length),leL (l.getD i []) (l.getD (i + d) []):=by
    intro d
    induction d with
    | zero=>intro i hi; exact (leL_iff _ _).mpr (.inl rfl)
    | succ d ih=>
      intro i hi
      have h1:=ih i (by omega)
      have h2:=h (i + d + 1) (by omega) (by omega)
      rw [Nat.add_sub_cancel] at h2
      exact leL_trans h1 h2
  intro i j hi hj hij
  have:=key (j - i) i (by omega)
  rw [show i + (j - i)=j by omega,g i hi,g j hj] at this
  exact this
theorem sort_perm {nss:List (List Int)} {p:List Nat} (hp:p.Perm (List.range nss.length)) (h:∀ i,1<=i->i < nss.length->Wq (nss.getD (p.getD i 0) []) (nss.getD (p.getD (i - 1) 0) [])=false):p.map (fun i=>nss.getD i [])=Xf nss:=by
  have hl:p.length=nss.length:=by rw [hp.length_eq,G6]
  have e1:(List.range nss.length).map (fun i=>nss.getD i [])=nss:=by
    apply List.ext_getElem?
    intro i
    by_cases z:i < nss.length
    · simp [z]
    · simp [z]
  have pm:(p.map fun i=>nss.getD i []).Perm nss:=by
    have:=hp.map (fun i=>nss.getD i [])
    rwa [e1] at this
  have gd:∀ k,k < p.length->(p.map fun i=>nss.getD i []).getD k []=nss.getD (p.getD k 0) []:=fun k hk=>by
    rw [E9,E5,O2 hk,E9 (l:=p),O2 hk]
    rfl
  refine Q2b (pm.trans (Q05 nss).symm) (Q1w fun i g1 g2=>?_) (qx nss)
  rw [O5] at g2
  rw [gd i g2,gd (i - 1) (by omega)]
  exact h i g1 (by omega)
theorem tups_of {P:Program} {w:World} {H:Hp} {h:Heap} (ok:HOk P w H h):∀ {nss:List (List Int)} {vs:List V} {its:List Value},Paired (fun (v:V) (ns:List Int)=>ns≠[]/\∃ a,v=.ref a/\H a=some (.tup (ns.map V.int))) vs nss->Vals vs its->TupsAre h its nss
  | [],_,_,.nil,.nil=>.nil
  | [] :: _,v :: vs,u :: us,.cons ⟨z,_⟩ t,.cons ru tu=>absurd rfl z
  | (x :: ns) :: nss,v :: vs,u :: us,.cons ⟨_,a,ea,ha⟩ t,.cons ru tu=>by
    have r:=tups_of ok t tu
    subst ea
    cases ru
    obtain ⟨_,jts,rj,o,ho,hc,n,hd⟩:=ok a _ ha
    exact .cons ho hc hd (by simpa using qp rj) r
theorem call_sortedT {X:Cx}:V8 X (.builtin "sorted") (fun xs H Q=>∃ p vs,∃ nss:List (List Int),xs=[.ref p]/\SqL X.K H p vs/\vs.length < 64/\Paired (fun (v:V) (ns:List Int)=>ns≠[]/\∃ a,v=.ref a/\H a=some (.tup (ns.map V.int))) vs nss /\
    ∀ d (pp:List Nat),H d=none->pp.Perm (List.range vs.length)->pp.map (fun i=>nss.getD i [])=Xf nss->Q (.ref d) (upd H d (.lst (pp.map fun i=>vs.getD i .non)))):=by
  intro pins s σ H xs us Q I r h
  obtain ⟨p,vs,nss,rfl,hq,h64,hp,q⟩:=h
  obtain ⟨u,rfl,rx⟩:=Ks r
  cases rx
  obtain ⟨its,r',pl,hz⟩:=I.list hq
  have hlen:=r'.length
  have T:=tups_of I.hok hp r'
  refine sorted_tups pl.isList T (by omega) fun pp h' D k a1 a2 a3 a4 a5=>?_
  have hln:its.length=nss.length:=T.length
  have e:=sort_perm (nss:=nss) (p:=pp) (by rw [<- hln]; exact a1) (fun i g1 g2=>a2 i g1 (by omega))
  have hpl:pp.length=its.length:=by rw [a1.length_eq,G6]
  have hv:Vals (pp.map fun i=>vs.getD i .non) (pp.map fun i=>its.getD i Value.none):=by
    have key:∀ l:List Nat,(∀ x∈l,x < vs.length)->Vals (l.map fun i=>vs.getD i .non) (l.map fun i=>its.getD i Value.none):=by
      intro l
      induction l with
      | nil=>intro _; exact .nil
      | cons x l ih=>
        intro hl
        have hx:=hl x (by simp)
        obtain ⟨u,hu,ru⟩:=r'.get (O2 hx)
        refine .cons ?_ (ih fun y hy=>hl y (D4 _ hy))
        show RelV (vs.getD x V.non) (its.getD x Value.none)
        rw [E9,O2 hx,E9,hu]
        exact ru
    exact key pp fun x hx=>by have:=a1.mem_iff.mp hx; rw [hlen]; simpa using this
  exact ⟨.ref D,_,I.laid (t':=s.toks) (o:=.lst (pp.map fun i=>vs.getD i .non)) a5 a3 ⟨by rw [O5]; omega,_,k,hv,a4⟩,rfl,q D pp (I.hok.fresh a3) (by rw [hlen]; exact a1) e⟩
end L2
namespace L2
open PySem PySem.Spec PyProof.Rows PySem.W
section
variable {prog:Program} {w:World} {A:Around} {E:Value->Shared->Prop} {s:Shared}
end
end L2
namespace L2
open PySem PySem.Spec PyProof.Rows
def Iti (a:Addr) (o:Obj) (kvs:List (Key × V)):It:=
  ⟨fun i H=>H a=some (.frz o (.dK kvs))/\i < kvs.length,fun i H x H'=>∃ p kv,H p=none/\x=.ref p/\kvs[i]?=some kv/\H'=upd H p (.tup [kV kv.1,kv.2]),fun i H=>H a=some (.frz o (.dK kvs))/\kvs.length<=i⟩
theorem Kq:entryFor table "dict_itemiterator.__iter__" = some Builtin.«dict_keyiterator.__iter__»:=
  entryFor_alias (id' := "dict_keyiterator.__iter__") (by kernel_rfl) rfl (by decide +kernel) (by kernel_rfl)
theorem turn_items {P:Program} {w:World} {K:PySem.W.Frag} {elts:List Expr} {k:Nat} {pos:Pos} (a it:Addr) (o:Obj) (kvs:List (Key × V)) {es:Array DictEntry} {ep:Nat} (hd:o.data=.dict es ep) :
    Turn P w K (.Tuple elts k pos) (Iti a o kvs) [it] it (fun i h=>∃ ok ov,IsItemIter h it a i kvs.length ep ok ov) where
  mem:=by simp
  obj:=fun i h st b hb=>by
    have e:b=it:=by simpa using hb
    subst e
    obtain ⟨ok,ov,he⟩:=st
    exact ⟨_,he,fun v q=>by cases q⟩
  keep:=fun i h h' st kk=>by
    obtain ⟨ok,ov,he⟩:=st
    exact ⟨ok,ov,kk it (by simp) _ he⟩
  item:=by
    intro X hP hw hK hc i pins s σ H E I hf st hg
    subst hP hw hK
    obtain ⟨hx,hl⟩:=hg
    obtain ⟨ok,ov,he⟩:=st
    obtain ⟨hs,vs,rv,da⟩:=X6 I.hok hx hd
    obtain ⟨u,hu,ru⟩:=rv.get (O2 hl)
    have hlen:=rv.length
    rw [hlen] at he
    refine wpAny_pyNext_items_item he da hu fun key h' hk ho hT hsz hkp=>⟨_,rfl,?_⟩
    refine wpAny_letOwnedTupleGo_items (s:={ s with heap:=h' }) ho fun h'' he' hs''=>?_
    have elt:it < s.heap.objs.size:=O7 he
    have hfr:H s.heap.objs.size=none:=I.fresh
    have I1:Inv X pins σ H { s with heap:=h'' }:=I.turnedL (t':=s.toks) (its:=[it]) (fun c o hc' q=>(hs''.2 c (fun z=>hc' (by simp [z]))).trans (hkp c o (fun z=>hc' (by simp [z])) q)) fun c hc'=>hf c hc'
    have tupAt:h''.get? s.heap.objs.size=some { cls:=.type "tuple",data:=.seq #[key,u] }:=(hs''.2 _ (Nat.ne_of_gt elt)).trans hT
    have I2:=I.tracks (xs:=[kV kvs[i].1,kvs[i].2]) (its:=[key,u]) I1 (O6 _) hfr (.cons (is_kV hk) (.cons ru .nil)) (by simp only [F1,List.length_nil]; rw [sizeLine_eq]; decide) ⟨_,tupAt,rfl,0,rfl⟩
    rw [<- hlen] at he'
    refine ⟨.ref s.heap.objs.size,_,I2,rfl,⟨s.heap.objs.size,kvs[i],hfr,rfl,O2 hl,rfl⟩,⟨_,_,he'⟩,fun c hc'=>?_⟩
    have:=(hf c hc').1
    have clt:c < s.heap.objs.size:=by simp at hc'; rw [hc']; exact elt
    rw [Q7 (D7 clt)]; exact this
  done:=by
    intro X hP hw hK hc i pins s σ H E I hf st hg
    subst hP hw hK
    obtain ⟨hx,hl⟩:=hg
    obtain ⟨ok,ov,he⟩:=st
    obtain ⟨hs,vs,rv,da⟩:=X6 I.hok hx hd
    obtain ⟨f0,f1,f2,f3,f4,f5⟩:=hf it (by simp)
    have hlen:=rv.length
    rw [hlen] at he
    exact wpAny_pyNext_items_end (I.ok.hd hc) he da (by simp; omega) fun h' eb=>⟨rfl,I.turned (t':=s.toks) (fun b o hb e=>eb b o hb e) f0 f1 f3 f4 f5⟩
  self:=fun A i s Q E st h=>by
    obtain ⟨ok,ov,he⟩:=st
    have hT:s.TypeIs (.ref it) "dict_itemiterator" := ⟨_,he,rfl⟩
    refine wpAny_pyIter_slot hT F.slot_dict_itemiterator_iter (wpAny_call_entry F.slot_dict_itemiterator_iter hT Kq ?_ (F.args_dict_itemiterator_iter_1 _))
    show wpAny _ _ (ret (.ref it)) _ _ s
    exact wpAny_pure ⟨_,rfl, "dict_itemiterator",_,hT,F.slot_dict_itemiterator_next.lookup,h⟩
section
variable {X:Cx}
def iItems (X:Cx) (tl:TE):TI:=fun σ H R=>tl σ H fun x H1=>∃ a kvs,x=.ref a/\H1 a=some (.dK kvs)/\∀ o,NoFrz X a->R (Iti a o kvs) (upd H1 a (.frz o (.dK kvs)))
theorem pi_items {l:Expr} {tl:TE} {elts:List Expr} {k:Nat} {tp apos pos:Pos} (hl:PE X l tl) (hbase:attributeBase l "items" X.env (eval l X.env)=eval l X.env) (hline:(apos.endLine == pos.line)=true) :
    PI X (.Tuple elts k tp) (.Call (.Attribute l "items" apos) [] [] pos) (iItems X tl):=by
  intro pins s σ H R I h
  refine wpAny_Call_method (T := "dict") (id := "dict.items") hbase rfl hline F.plainAttrs_dict F.slot_dict_items F.type_dict_items (thn (hl pins s σ H _ I h) fun v s1 ⟨x,H1,I1,r1,q1⟩=>?_)
  obtain ⟨a,kvs,rfl,ea,q⟩:=q1
  cases r1
  obtain ⟨z,hs,vs,rv,da⟩:=dk_of I1.hok ea
  refine ⟨da.typeIs,da.mapOf.noDict,?_⟩
  show wpAny _ _ (callWith pos (.builtin "dict.items") [.ref a] [] []) _ _ s1
  refine method_meetsIn F.slot_dict_items F.entry_dict_items rfl (PySem.evalArgs_none ⟨rfl,da.typeIs,F.args_dict_items_1 _,_,meets_dict_items (Z0 X.prog X.w) a hs,⟨vs,da⟩,?_⟩)
  obtain ⟨ep,da1⟩:=da.dictAt
  obtain ⟨o,es,ho,h1,h2,h3⟩:=id da1
  have hv:(s1.heap.push { cls:=.type "dict_items",data:=.fields #[.ref a] }).IsItemsView s1.heap.objs.size a:=⟨_,D3 _ rfl,rfl,rfl⟩
  have da2:=da1.push { cls:=.type "dict_items",data:=.fields #[.ref a] }
  refine wpAny_pyIter_items (s:={ s1 with heap:=s1.heap.push { cls:=.type "dict_items",data:=.fields #[.ref a] } }) hv da2 ?_
  have hsz:(s1.heap.push { cls:=.type "dict_items",data:=.fields #[.ref a] }).objs.size=s1.heap.objs.size + 1:=F8 _ _
  have hne:s1.heap.objs.size + 1≠a:=Nat.ne_of_gt (Nat.lt_succ_of_lt (O7 ho))
  have hn1:H1 (s1.heap.objs.size + 1)=none:=I1.hok.fresh (Nat.le_succ _)
  have keep:∀ b u,s1.heap.get? b=some u->((s1.heap.push { cls:=.type "dict_items",data:=.fields #[.ref a] }).push { cls:=.type "dict_itemiterator",data:=.fields #[.none,.bool false,.ref a,.int 0 0,.int vs.length 0,.int ep 0,.none,.none] }).get? b=some u:=fun b u e=>O1 _ (O1 _ e)
  refine ⟨s1.heap.objs.size + 1,[s1.heap.objs.size + 1],_,_,upd H1 a (.frz o (.dK kvs)),by rw [<- hsz],I1.write (t':=s1.toks) (x:=a) (e:=a) (by rw [ea]; trivial) (.inl rfl) (fun b u _ e=>keep b u e) ⟨o,keep a o ho⟩ ⟨keep a o ho,z,hs,vs,rv,(da.push _).push _⟩,
    turn_items a _ o kvs h2,⟨.none,.none,?_⟩,fun b hb=>?_,q o (I1.noFrz ea)⟩
  · show ((s1.heap.push { cls:=.type "dict_items",data:=.fields #[.ref a] }).push { cls:=.type "dict_itemiterator",data:=.fields #[.none,.bool false,.ref a,.int 0 0,.int vs.length 0,.int ep 0,.none,.none] }).get? (s1.heap.objs.size + 1)=_
    rw [<- hsz,rv.length]
    exact D3 _ rfl
  · have e:b=s1.heap.objs.size + 1:=by simpa using hb
    subst e
    exact I1.fpOk (Nat.le_succ _) (by rw [Q7 hne]; exact hn1)
end
end L2
namespace L2
open PySem PySem.Spec PyProof.Rows
section
variable {prog:Program} {w:World} {A:Around} {E:Value->Shared->Prop} {s:Shared}
end
end L2
namespace L2
open PySem PySem.Spec PyProof.Rows PySem.W
section
variable {prog:Program} {w:World} {A:Around} {E:Value->Shared->Prop} {s:Shared}
end
section
variable {X:Cx}
end
end L2
namespace L2
open PySem PySem.Spec PyProof.Rows
end L2
namespace L2
open PySem PySem.Spec PyProof.Rows
end L2
namespace L2
open PySem PySem.Spec PyProof.Rows
section
variable {prog:Program} {w:World} {K:Type} [DecidableEq K]
variable {knd:KeyKind prog w K} {L:Bool} {A:Around} {E:Value->Shared->Prop} {s:Shared} {a:Addr}
end
end L2
namespace L2
open PySem PySem.Spec PyProof.Rows
section
variable {prog:Program} {w:World} {A:Around} {E:Value->Shared->Prop} {s:Shared}
end
end L2
namespace L2
open PySem PySem.Spec PyProof.Rows
section
variable {prog:Program} {w:World} {A:Around} {E:Value->Shared->Prop} {s:Shared}
end
end L2
namespace L2
open PySem PySem.Spec PyProof.Rows
section
variable {prog:Program} {w:World} {K:Type} [DecidableEq K] {knd:KeyKind prog w K} {A:Around} {R:Result->Shared->Prop}
end
end L2
namespace L2
open PySem PySem.Spec PyProof.Rows
section
variable {prog:Program} {w:World} {A:Around} {E:Value->Shared->Prop} {s:Shared}
end
end L2
namespace L2
open PySem PySem.Spec PyProof.Rows
section
variable {prog:Program} {w:World} {A:Around} {E:Value->Shared->Prop} {s:Shared}
end
end L2
namespace L2
open PySem PySem.Spec PyProof.Rows
section
variable {prog:Program} {w:World} {A:Around} {E:Value->Shared->Prop} {s:Shared}
end
def insI (a:Int):List Int->List Int
  | []=>[a]
  | b :: r=>if a<=b then a :: b :: r else b :: insI a r
section
variable {X:Cx}
end
end L2
namespace L2
open PySem PySem.Spec PyProof.Rows SeqAt
section
variable {prog:Program} {w:World} {K:Type} [DecidableEq K] {knd:KeyKind prog w K} {A:Around} {E:Value->Shared->Prop} {s:Shared}
def Q22 (us:List (K × Value)) (e:K->Bool) (kv:K × Value):Bool:=match valueAt us kv.1 with
  | none=>false
  | some _=>e kv.1
theorem findIdx_val {us:List (K × Value)} {k:K}:(match us.findIdx? (fun kv=>decide (kv.1=k)) with | none=>none | some j=>(us[j]?).map (·.2))=valueAt us k:=by
  induction us with
  | nil=>rfl
  | cons a us ih=>
    by_cases z:a.1=k
    · simp [List.findIdx?_cons,valueAt,z]
    · have e:valueAt (a :: us) k=valueAt us k:=by simp [valueAt,z]
      rw [e,<- ih,List.findIdx?_cons]
      simp only [decide_eq_false z,Bool.false_eq_true,if_false]
      cases us.findIdx? (fun kv=>decide (kv.1=k)) with
      | none=>rfl
      | some j=>simp
theorem Xm {es:List DictEntry} {kvs:List (K × Value)} (h:Pairs knd es kvs) {i:Nat} (hi:i < es.length):∃ kv,kvs[i]?=some kv/\knd.is kv.1 es[i].key=true/\es[i].val=kv.2:=by
  induction h generalizing i with
  | nil=>simp at hi
  | cons h1 h2 _ ih=>
    cases i with
    | zero=>exact ⟨_,rfl,h1,h2⟩
    | succ i=>
      obtain ⟨kv,e1,e2,e3⟩:=ih (i:=i) (by simpa using hi)
      exact ⟨kv,by simpa using e1,by simpa using e2,by simpa using e3⟩
theorem Q0d {id:String} {a b:Addr} {vs us:List (K × Value)} {e:K->Bool} {Q:Bool->Shared->Prop} (ha:(a == sysModules)=false) (hb:(b == sysModules)=false) (da:s.heap.DictOf knd a vs) (db:s.heap.DictOf knd b us)
    (he:∀ k v u,(k,v)∈vs->valueAt us k=some u->EqAt A s v u (e k)) (h:Q (decide (vs.length=us.length) && vs.all (Q22 us e)) s):wpAny (model prog w) A (Builtin.Dict.samePairs id a b) Q E s:=by
  obtain ⟨oa,ea,pa,h1,_,h3,h4,h5,h6⟩:=da
  obtain ⟨ob,eb,pb,g1,_,g3,g4,g5,g6⟩:=db
  have la:ea.size=vs.length:=by rw [<- Array.length_toList]; exact h5.length
  have lb:eb.size=us.length:=by rw [<- Array.length_toList]; exact g5.length
  unfold Builtin.Dict.samePairs Builtin.Dict.showsAll
  rw [if_neg (by rw [ha]; exact O9),if_neg (by rw [hb]; exact O9)]
  refine wpAny_bind (wpAny_pure (wpAny_bind (wpAny_pure ?_)))
  refine wpAny_bind (wpAny_dictEntries h1 h3 ?_)
  refine wpAny_bind (wpAny_dictEntries g1 g3 ?_)
  by_cases hl:ea.size=eb.size
  · rw [if_neg (by simp [hl])]
    rw [decide_eq_true (by omega),Bool.true_and] at h
    refine wpAny_bind (wpAny_dictEpoch h1 h3 ?_)
    refine wpAny_bind ?_
    rw [Std.Legacy.Range.forIn_eq_forIn_range']
    simp only [Std.Legacy.Range.size,Nat.sub_zero,Nat.add_sub_cancel,Nat.div_one]
    refine wpAny_forIn_list _ (fun rest r s'=>∃ i,rest=List.range' i (ea.size - i)/\i<=ea.size/\r=(none,())/\s=s'/\(vs.take i).all (Q22 us e)=true) _ ?_ ?_ _ _ ⟨0,by simp,Nat.zero_le _,rfl,rfl,by simp⟩
    · rintro x rest _ s' ⟨i,hr,hi,rfl,rfl,hall⟩
      have hlt:i < ea.size:=by
        rcases Nat.lt_or_ge i ea.size with q | q
        · exact q
        · rw [Nat.sub_eq_zero_of_le q] at hr; simp at hr
      obtain ⟨rfl,hrest⟩:x=i/\rest=List.range' (i + 1) (ea.size - (i + 1)):=by
        rw [show ea.size - i=(ea.size - (i + 1)) + 1 by omega,List.range'_succ] at hr
        injection hr with q1 q2
        exact ⟨q1,q2⟩
      refine wpAny_bind (wpAny_dictEntries h1 h3 ?_)
      rw [Array.getElem?_eq_getElem hlt]
      obtain ⟨kv,k1,k2,k3⟩:=Xm h5 (i:=x) (by simpa using hlt)
      simp only [Array.getElem_toList] at k2 k3
      obtain ⟨k',hk',hh'⟩:=h4 ea[x] (Array.getElem_mem hlt)
      have ekk:kv.1=k':=knd.inj _ _ _ k2 hk'
      have hmem:kv∈vs:=D8 k1
      have htk:vs.take (x + 1)=vs.take x ++ [kv]:=by rw [List.take_succ,k1]; rfl
      dsimp only
      have hv:=findIdx_val (us:=us) (k:=kv.1)
      refine wpAny_bind (wpAny_holding (wpAny_bind ?_))
      rw [hh',<- ekk]
      refine wpAny_dictFind_of (knd:=knd) k2 g1 g3 g4 ?_
      have hfi:(eb.findIdx? fun e=>knd.is kv.1 e.key)=us.findIdx? fun p=>decide (p.1=kv.1):=by
        rw [<- g5.findIdx]; cases eb; simp
      rw [hfi]
      cases z:us.findIdx? (fun p=>decide (p.1=kv.1)) with
      | none=>
        rw [z] at hv
        refine wpAny_pure ?_
        have hs:Q22 us e kv=false:=by unfold Q22; rw [<- hv]
        rw [if_pos (show (!false)=true from rfl)]
        refine wpAny_pure (wpAny_pure ?_)
        have nh:vs.all (Q22 us e)=false:=by
          rw [List.all_eq_false]
          exact ⟨kv,hmem,by rw [hs]; exact O9⟩
        rw [nh] at h
        exact h
      | some j=>
        rw [z] at hv
        dsimp only at hv
        have hj:j < us.length:=(List.findIdx?_eq_some_iff_getElem.mp z).1
        have hj2:j < eb.size:=by omega
        rw [O2 hj] at hv
        refine wpAny_bind (wpAny_dictEntries g1 g3 ?_)
        rw [Array.getElem?_eq_getElem hj2]
        obtain ⟨q,q1,_,q3⟩:=Xm g5 (i:=j) (by simpa using hj2)
        simp only [Array.getElem_toList] at q3
        have eq2:us[j].2=eb[j].val:=by
          rw [q3]
          rw [O2 hj] at q1
          rw [Option.some.inj q1]
        have hv':valueAt us kv.1=some eb[j].val:=by rw [<- hv,<- eq2]; rfl
        refine wpAny_holding (he kv.1 ea[x].val eb[j].val (by rw [k3]; exact hmem) hv' prog w _ _ ?_)
        have hs:Q22 us e kv=e kv.1:=by unfold Q22; rw [hv']
        cases zk:e kv.1 with
        | false=>
          rw [zk] at hs
          rw [if_pos (show (!false)=true from rfl)]
          refine wpAny_pure (wpAny_pure ?_)
          have nh:vs.all (Q22 us e)=false:=by
            rw [List.all_eq_false]
            exact ⟨kv,hmem,by rw [hs]; exact O9⟩
          rw [nh] at h
          exact h
        | true=>
          rw [zk] at hs
          rw [if_neg (by simp)]
          refine wpAny_bind (wpAny_dictEpoch h1 h3 ?_)
          rw [if_neg (by simp)]
          exact wpAny_pure ⟨x + 1,hrest,hlt,rfl,rfl,by rw [htk,List.all_append,hall,List.all_cons,hs]; rfl⟩
    · rintro _ s' ⟨i,hr,hi,rfl,rfl,hall⟩
      have hin:i=ea.size:=by
        rcases Nat.lt_or_ge i ea.size with q | q
        · rw [show ea.size - i=(ea.size - (i + 1)) + 1 by omega,List.range'_succ] at hr; exact nomatch hr
        · exact Nat.le_antisymm hi q
      subst hin
      rw [la,List.take_length] at hall
      rw [hall] at h
      exact wpAny_pure h
  · rw [if_pos (by simpa using hl)]
    rw [decide_eq_false (by omega),Bool.false_and] at h
    exact wpAny_bind (wpAny_rule (wpAny_pure h))
end
section
variable {prog:Program} {w:World} {K:Type} [DecidableEq K] {knd:KeyKind prog w K} {A:Around} {E:Value->Shared->Prop} {s:Shared}
theorem dict_rc (op:Bool) {a b:Addr} {vs us:List (K × Value)} {e:K->Bool} {Q:Value->Shared->Prop} (ha:(a == sysModules)=false) (hb:(b == sysModules)=false) (da:s.heap.DictOf knd a vs) (db:s.heap.DictOf knd b us) (hu:A.units < cLine)
    (he:∀ k v u,(k,v)∈vs->valueAt us k=some u->EqAt A.in1 s v u (e k)) (h:Q (.bool ((decide (vs.length=us.length) && vs.all (Q22 us e)) == op)) s):wpAny (model prog w) A (compareOp (if op=true then .Eq else .NotEq) (.ref a) (.ref b)) Q E s:=by
  have ta:s.TypeIs (.ref a) "dict" := da.typeIs
  have tb:s.TypeIs (.ref b) "dict" := db.typeIs
  cases op with
  | true=>
    refine wpAny_richCompare_same_room (op:=.Eq) ta tb PySem.F.slot_dict_eq (wpAny_call_entry PySem.F.slot_dict_eq ta PySem.F.entry_dict_eq ?_ (PySem.F.args_dict_eq_2 _ _)) hu
    show wpAny _ _ (Builtin.Dict.dictSlotArgs "__eq__" ⟨[.ref a,.ref b],[]⟩ >>= _) _ _ _
    refine wpAny_bind ?_
    unfold Builtin.Dict.dictSlotArgs
    refine wpAny_bind (wpAny_notOrdered_dict ta ?_)
    show wpAny _ _ (pure (Value.ref a,Value.ref b)) _ _ _
    refine wpAny_pure ?_
    refine wpAny_bind (wpAny_isInstance (T := "dict") (b:=true) tb (by rw [isSubtype_type]; kernel_rfl) ?_)
    refine wpAny_ite_split (fun z=>absurd z (by decide)) (fun _=>?_)
    show wpAny _ _ (Builtin.Dict.samePairs _ a b >>= _) _ _ _
    refine wpAny_bind (Q0d ha hb da db he ?_)
    exact wpAny_pure ⟨_,rfl,(fun z=>nomatch z),h⟩
  | false=>
    refine wpAny_richCompare_same_room (op:=.NotEq) ta tb PySem.F.slot_dict_ne (wpAny_call_entry PySem.F.slot_dict_ne ta PySem.F.entry_dict_ne ?_ (PySem.F.args_dict_ne_2 _ _)) hu
    show wpAny _ _ (Builtin.Dict.dictSlotArgs "__ne__" ⟨[.ref a,.ref b],[]⟩ >>= _) _ _ _
    refine wpAny_bind ?_
    unfold Builtin.Dict.dictSlotArgs
    refine wpAny_bind (wpAny_notOrdered_dict ta ?_)
    show wpAny _ _ (pure (Value.ref a,Value.ref b)) _ _ _
    refine wpAny_pure ?_
    refine wpAny_bind (wpAny_isInstance (T := "dict") (b:=true) tb (by rw [isSubtype_type]; kernel_rfl) ?_)
    refine wpAny_ite_split (fun z=>absurd z (by decide)) (fun _=>?_)
    show wpAny _ _ (Builtin.Dict.samePairs _ a b >>= _) _ _ _
    refine wpAny_bind (Q0d ha hb da db he ?_)
    exact wpAny_pure ⟨_,rfl,(fun z=>nomatch z),h⟩
end
section
variable {X:Cx}
end
end L2
namespace L2
open PySem PySem.Spec PyProof.Rows SeqAt
section
variable {X:Cx}
end
end L2
namespace Sm
open PySem PySem.Spec L2
inductive PV where
  | non | bl (b:Bool) | int (i:Int) | str (x:Str) | tup (xs:List PV) | lst (xs:List PV) | fro (xs:List PV) | ref (i:Nat) | dic
inductive Cell where
  | lst (xs:List PV) | dic (kvs:List (Key × PV)) | dtp (kvs:List (List Key × PV)) | frd (kvs:List (Key × PV))
abbrev Q1:=List Cell
structure Exc where
  cls:Str
  fs:Option (Str × PV):=none
inductive Res (α:Type) where
  | ok (a:α) (st:Q1) | exc (x:Exc) (st:Q1) | stuck
abbrev Gam:=List (Option PV)
abbrev ME:=Gam->Q1->Res PV
structure Tk where
  tr:List Addr
  hid:List Addr
instance:Membership Addr Tk:=⟨fun t a=>a∈t.tr\/a∈t.hid⟩
def Tk.nil:Tk:=⟨[],[]⟩
theorem Tk.not_nil (a:Addr):a∉Tk.nil:=fun z=>by rcases z with z | z <;> cases z
def Tk.add (t:Tk) (p:Addr):Tk:=⟨t.tr ++ [p],t.hid⟩
def Tk.hide (t:Tk) (p:Addr):Tk:=⟨t.tr,p :: t.hid⟩
mutual
def Rep (H:Hp) (ρ:Tk):PV->V->Prop
  | .non,v=>v=.non
  | .bl b,v=>v=.bl b
  | .int i,v=>v=.int i
  | .str x,v=>v=.str x
  | .tup ps,v=>∃ a vs,v=.ref a/\H a=some (.tup vs)/\a∉ρ/\RepL H ρ ps vs
  | .lst ps,v=>∃ a vs,v=.ref a/\H a=some (.lst vs)/\a∉ρ/\RepL H ρ ps vs
  | .fro ps,v=>∃ a vs,v=.ref a/\Rd H a (.lst vs)/\a∉ρ/\RepL H ρ ps vs
  | .ref i,v=>∃ a,ρ.tr[i]?=some a/\v=.ref a
  | .dic,v=>∃ a,v=.ref a/\H a=some (.dK [])/\a∉ρ
def RepL (H:Hp) (ρ:Tk):List PV->List V->Prop
  | [],vs=>vs=[]
  | p :: ps,vs=>∃ v r,vs=v :: r/\Rep H ρ p v/\RepL H ρ ps r
end
structure Ext (H:Hp) (ρ:Tk) (H':Hp) (ρ':Tk):Prop where
  pre:ρ.tr <+: ρ'.tr
  hidM:∀ a,a∈ρ.hid->a∈ρ'.hid
  hidN:∀ a,a∈ρ'.hid->a∈ρ.hid\/H a=none
  keep:∀ a o,H a=some o->a∉ρ.tr->H' a=some o
  new:∀ a,a∈ρ'.tr->a∈ρ.tr\/H a=none
  old:∀ a o,H a=some o->∃ o',H' a=some o'
  frz:∀ a o u,H a=some (.frz o u)->H' a=some (.frz o u)
theorem Ext.refl (H:Hp) (ρ:Tk):Ext H ρ H ρ:=⟨List.prefix_refl _,fun _ h=>h,fun _ h=>.inl h,fun _ _ h _=>h,fun _ h=>.inl h,fun _ o h=>⟨o,h⟩,fun _ _ _ h=>h⟩
theorem Ext.trans {H H1 H2:Hp} {ρ ρ1 ρ2:Tk} (a:Ext H ρ H1 ρ1) (b:Ext H1 ρ1 H2 ρ2):Ext H ρ H2 ρ2 where
  pre:=a.pre.trans b.pre
  hidM:=fun x h=>b.hidM x (a.hidM x h)
  hidN:=fun x h=>by
    rcases b.hidN x h with z | z
    · exact a.hidN x z
    · right
      cases q:H x with
      | none=>rfl
      | some o=>
        obtain ⟨o',e⟩:=a.old x o q
        rw [e] at z; cases z
  keep:=fun x o h n=>b.keep x o (a.keep x o h n) fun z=>by
    rcases a.new x z with z | z
    · exact n z
    · rw [h] at z; cases z
  new:=fun x h=>by
    rcases b.new x h with z | z
    · exact a.new x z
    · right
      cases q:H x with
      | none=>rfl
      | some o=>
        obtain ⟨o',e⟩:=a.old x o q
        rw [e] at z; cases z
  old:=fun x o h=>by
    obtain ⟨o',e⟩:=a.old x o h
    exact b.old x o' e
  frz:=fun x o u h=>b.frz x o u (a.frz x o u h)
theorem Ext.add {H:Hp} {ρ:Tk} {p:Addr} {o:HO} (h:H p=none):Ext H ρ (upd H p o) ρ where
  pre:=List.prefix_refl _
  hidM:=fun _ h=>h
  hidN:=fun _ h=>.inl h
  keep:=fun a u e _=>by rw [Q7 (Q9 e h)]; exact e
  new:=fun a e=>.inl e
  old:=fun a u e=>⟨u,by rw [Q7 (Q9 e h)]; exact e⟩
  frz:=fun a o u e=>by rw [Q7 (Q9 e h)]; exact e
theorem Ext.addT {H:Hp} {ρ:Tk} {p:Addr} {o:HO} (h:H p=none):Ext H ρ (upd H p o) (ρ.add p) where
  pre:=List.prefix_append _ _
  hidM:=fun _ h=>h
  hidN:=fun _ h=>.inl h
  keep:=fun a u e _=>by rw [Q7 (Q9 e h)]; exact e
  new:=fun a e=>by
    rcases E7.mp e with z | z
    · exact .inl z
    · right
      have:a=p:=by simpa using z
      rw [this]; exact h
  old:=fun a u e=>⟨u,by rw [Q7 (Q9 e h)]; exact e⟩
  frz:=fun a o u e=>by rw [Q7 (Q9 e h)]; exact e
theorem Ext.same {H H':Hp} {ρ:Tk} (h:Same H H'):Ext H ρ H' ρ:=⟨List.prefix_refl _,fun _ h=>h,fun _ h=>.inl h,fun a o e _=>h a o e,fun _ e=>.inl e,fun a o e=>⟨o,h a o e⟩,fun a o u e=>h a _ e⟩
section
variable {H H':Hp} {ρ ρ':Tk}
theorem Ur {a:Addr} {o:HO} (x:Ext H ρ H' ρ') (h:H a=some o) (n:a∉ρ):a∉ρ':=fun z=>by
  rcases z with z | z
  · rcases x.new a z with z | z
    · exact n (.inl z)
    · rw [h] at z; cases z
  · rcases x.hidN a z with z | z
    · exact n (.inr z)
    · rw [h] at z; cases z
theorem Ext.kp {a:Addr} {o:HO} (x:Ext H ρ H' ρ') (h:H a=some o) (n:a∉ρ):H' a=some o:=x.keep a o h fun z=>n (.inl z)
mutual
theorem Rep.ext (x:Ext H ρ H' ρ'):∀ {p:PV} {v:V},Rep H ρ p v->Rep H' ρ' p v
  | .non,_,h=>h
  | .bl _,_,h=>h
  | .int _,_,h=>h
  | .str _,_,h=>h
  | .tup ps,v,h=>by
    obtain ⟨a,vs,e,s,n,r⟩:=h
    exact ⟨a,vs,e,x.kp s n,Ur x s n,RepL.ext x r⟩
  | .lst ps,v,h=>by
    obtain ⟨a,vs,e,s,n,r⟩:=h
    exact ⟨a,vs,e,x.kp s n,Ur x s n,RepL.ext x r⟩
  | .fro ps,v,h=>by
    obtain ⟨a,vs,e,s,n,r⟩:=h
    rcases s with s | ⟨o,s⟩
    · exact ⟨a,vs,e,.inl (x.kp s n),Ur x s n,RepL.ext x r⟩
    · exact ⟨a,vs,e,.inr ⟨o,x.kp s n⟩,Ur x s n,RepL.ext x r⟩
  | .ref i,v,h=>by
    obtain ⟨a,e,rfl⟩:=h
    obtain ⟨t,et⟩:=x.pre
    refine ⟨a,?_,rfl⟩
    rw [<- et,O3 (O0.mp e).1]
    exact e
  | .dic,v,h=>by
    obtain ⟨a,e,s,n⟩:=h
    exact ⟨a,e,x.kp s n,Ur x s n⟩
theorem RepL.ext (x:Ext H ρ H' ρ'):∀ {ps:List PV} {vs:List V},RepL H ρ ps vs->RepL H' ρ' ps vs
  | [],_,h=>h
  | p :: ps,vs,h=>by
    obtain ⟨v,r,e,h1,h2⟩:=h
    exact ⟨v,r,e,Rep.ext x h1,RepL.ext x h2⟩
end
mutual
theorem Rep.hide {a:Addr} {o:HO} (h:H a=none):∀ {p:PV} {v:V},Rep H ρ p v->Rep (upd H a o) (ρ.hide a) p v
  | .non,_,r=>r
  | .bl _,_,r=>r
  | .int _,_,r=>r
  | .str _,_,r=>r
  | .tup ps,v,⟨b,vs,e,s,n,r⟩=>⟨b,vs,e,by rw [Q7 (Q9 s h)]; exact s,fun z=>by
      rcases z with z | z
      · exact n (.inl z)
      · rcases D6.mp z with z | z
        · exact Q9 s h z
        · exact n (.inr z),RepL.hide h r⟩
  | .lst ps,v,⟨b,vs,e,s,n,r⟩=>⟨b,vs,e,by rw [Q7 (Q9 s h)]; exact s,fun z=>by
      rcases z with z | z
      · exact n (.inl z)
      · rcases D6.mp z with z | z
        · exact Q9 s h z
        · exact n (.inr z),RepL.hide h r⟩
  | .fro ps,v,⟨b,vs,e,s,n,r⟩=>by
      have ne:b≠a:=by
        rcases s with s | ⟨_,s⟩
        · exact Q9 s h
        · exact Q9 s h
      refine ⟨b,vs,e,?_,fun z=>?_,RepL.hide h r⟩
      · rcases s with s | ⟨u,s⟩
        · exact .inl (by rw [Q7 ne]; exact s)
        · exact .inr ⟨u,by rw [Q7 ne]; exact s⟩
      · rcases z with z | z
        · exact n (.inl z)
        · rcases D6.mp z with z | z
          · exact ne z
          · exact n (.inr z)
  | .ref i,v,r=>r
  | .dic,v,⟨b,e,s,n⟩=>⟨b,e,by rw [Q7 (Q9 s h)]; exact s,fun z=>by
      rcases z with z | z
      · exact n (.inl z)
      · rcases D6.mp z with z | z
        · exact Q9 s h z
        · exact n (.inr z)⟩
theorem RepL.hide {a:Addr} {o:HO} (h:H a=none):∀ {ps:List PV} {vs:List V},RepL H ρ ps vs->RepL (upd H a o) (ρ.hide a) ps vs
  | [],_,r=>r
  | p :: ps,_,⟨v,t,e,r1,r2⟩=>⟨v,t,e,Rep.hide h r1,RepL.hide h r2⟩
end
mutual
theorem Rep.rehide {a:Addr} {o:HO} (h:a∈ρ.hid):∀ {p:PV} {v:V},Rep H ρ p v->Rep (upd H a o) ρ p v
  | .non,_,r=>r
  | .bl _,_,r=>r
  | .int _,_,r=>r
  | .str _,_,r=>r
  | .tup ps,v,⟨b,vs,e,s,n,r⟩=>⟨b,vs,e,by rw [Q7 (show b≠a from fun z=>n (.inr (by rw [z]; exact h)))]; exact s,n,RepL.rehide h r⟩
  | .lst ps,v,⟨b,vs,e,s,n,r⟩=>⟨b,vs,e,by rw [Q7 (show b≠a from fun z=>n (.inr (by rw [z]; exact h)))]; exact s,n,RepL.rehide h r⟩
  | .fro ps,v,⟨b,vs,e,s,n,r⟩=>by
      have ne:b≠a:=fun z=>n (.inr (by rw [z]; exact h))
      refine ⟨b,vs,e,?_,n,RepL.rehide h r⟩
      rcases s with s | ⟨u,s⟩
      · exact .inl (by rw [Q7 ne]; exact s)
      · exact .inr ⟨u,by rw [Q7 ne]; exact s⟩
  | .ref i,v,r=>r
  | .dic,v,⟨b,e,s,n⟩=>⟨b,e,by rw [Q7 (show b≠a from fun z=>n (.inr (by rw [z]; exact h)))]; exact s,n⟩
theorem RepL.rehide {a:Addr} {o:HO} (h:a∈ρ.hid):∀ {ps:List PV} {vs:List V},RepL H ρ ps vs->RepL (upd H a o) ρ ps vs
  | [],_,r=>r
  | p :: ps,_,⟨v,t,e,r1,r2⟩=>⟨v,t,e,Rep.rehide h r1,RepL.rehide h r2⟩
end
mutual
theorem Rep.retr {a:Addr} {o:HO} (h:a∈ρ.tr):∀ {p:PV} {v:V},Rep H ρ p v->Rep (upd H a o) ρ p v
  | .non,_,r=>r
  | .bl _,_,r=>r
  | .int _,_,r=>r
  | .str _,_,r=>r
  | .tup ps,v,⟨b,vs,e,s,n,r⟩=>⟨b,vs,e,by rw [Q7 (show b≠a from fun z=>n (.inl (by rw [z]; exact h)))]; exact s,n,RepL.retr h r⟩
  | .lst ps,v,⟨b,vs,e,s,n,r⟩=>⟨b,vs,e,by rw [Q7 (show b≠a from fun z=>n (.inl (by rw [z]; exact h)))]; exact s,n,RepL.retr h r⟩
  | .fro ps,v,⟨b,vs,e,s,n,r⟩=>by
      have ne:b≠a:=fun z=>n (.inl (by rw [z]; exact h))
      refine ⟨b,vs,e,?_,n,RepL.retr h r⟩
      rcases s with s | ⟨u,s⟩
      · exact .inl (by rw [Q7 ne]; exact s)
      · exact .inr ⟨u,by rw [Q7 ne]; exact s⟩
  | .ref i,v,r=>r
  | .dic,v,⟨b,e,s,n⟩=>⟨b,e,by rw [Q7 (show b≠a from fun z=>n (.inl (by rw [z]; exact h)))]; exact s,n⟩
theorem RepL.retr {a:Addr} {o:HO} (h:a∈ρ.tr):∀ {ps:List PV} {vs:List V},RepL H ρ ps vs->RepL (upd H a o) ρ ps vs
  | [],_,r=>r
  | p :: ps,_,⟨v,t,e,r1,r2⟩=>⟨v,t,e,Rep.retr h r1,RepL.retr h r2⟩
end
mutual
theorem Rep.unhide {hs:List Addr} (hh:∀ a,a∈hs->a∈ρ.hid):∀ {p:PV} {v:V},Rep H ρ p v->Rep H ⟨ρ.tr,hs⟩ p v
  | .non,_,r=>r
  | .bl _,_,r=>r
  | .int _,_,r=>r
  | .str _,_,r=>r
  | .tup ps,v,⟨b,vs,e,s,n,r⟩=>⟨b,vs,e,s,fun z=>n (z.imp id (hh _)),RepL.unhide hh r⟩
  | .lst ps,v,⟨b,vs,e,s,n,r⟩=>⟨b,vs,e,s,fun z=>n (z.imp id (hh _)),RepL.unhide hh r⟩
  | .fro ps,v,⟨b,vs,e,s,n,r⟩=>⟨b,vs,e,s,fun z=>n (z.imp id (hh _)),RepL.unhide hh r⟩
  | .ref i,v,r=>r
  | .dic,v,⟨b,e,s,n⟩=>⟨b,e,s,fun z=>n (z.imp id (hh _))⟩
theorem RepL.unhide {hs:List Addr} (hh:∀ a,a∈hs->a∈ρ.hid):∀ {ps:List PV} {vs:List V},RepL H ρ ps vs->RepL H ⟨ρ.tr,hs⟩ ps vs
  | [],_,r=>r
  | p :: ps,_,⟨v,t,e,r1,r2⟩=>⟨v,t,e,Rep.unhide hh r1,RepL.unhide hh r2⟩
end
theorem RepL.length:∀ {ps:List PV} {vs:List V},RepL H ρ ps vs->ps.length=vs.length
  | [],_,h=>by cases h; rfl
  | p :: ps,_,⟨v,r,rfl,_,h2⟩=>by rw [F1,F1,RepL.length h2]
theorem RepL.get:∀ {ps:List PV} {vs:List V} {i:Nat} {p:PV},RepL H ρ ps vs->ps[i]?=some p->∃ v,vs[i]?=some v/\Rep H ρ p v
  | [],_,_,_,_,e=>by simp at e
  | p :: ps,_,0,q,⟨v,r,rfl,h1,h2⟩,e=>by simp at e; subst e; exact ⟨v,rfl,h1⟩
  | p :: ps,_,i + 1,q,⟨v,r,rfl,h1,h2⟩,e=>by
    obtain ⟨u,e1,e2⟩:=RepL.get (i:=i) h2 (by simpa using e)
    exact ⟨u,by simpa using e1,e2⟩
theorem RepL.cons {p:PV} {v:V} {ps:List PV} {vs:List V} (h:Rep H ρ p v) (r:RepL H ρ ps vs):RepL H ρ (p :: ps) (v :: vs):=⟨v,vs,rfl,h,r⟩
theorem RepL.nil:RepL H ρ [] []:=rfl
theorem RepL.append:∀ {ps qs:List PV} {vs us:List V},RepL H ρ ps vs->RepL H ρ qs us->RepL H ρ (ps ++ qs) (vs ++ us)
  | [],_,_,_,h,g=>by cases h; exact g
  | p :: ps,_,_,_,⟨v,r,rfl,h1,h2⟩,g=>⟨v,_,rfl,h1,RepL.append h2 g⟩
theorem RepL.take:∀ {ps:List PV} {vs:List V} (n:Nat),RepL H ρ ps vs->RepL H ρ (ps.take n) (vs.take n)
  | _,_,0,_=>rfl
  | [],_,n + 1,h=>by cases h; rfl
  | p :: ps,_,n + 1,⟨v,r,rfl,h1,h2⟩=>⟨v,_,rfl,h1,RepL.take n h2⟩
theorem RepL.drop:∀ {ps:List PV} {vs:List V} (n:Nat),RepL H ρ ps vs->RepL H ρ (ps.drop n) (vs.drop n)
  | _,_,0,h=>h
  | [],_,n + 1,h=>by cases h; rfl
  | p :: ps,_,n + 1,⟨v,r,rfl,h1,h2⟩=>RepL.drop n h2
theorem RepL.set {p:PV} {v:V} (h:Rep H ρ p v):∀ {ps:List PV} {vs:List V} (i:Nat),RepL H ρ ps vs->RepL H ρ (ps.set i p) (vs.set i v)
  | [],_,_,g=>by cases g; rfl
  | q :: ps,_,0,⟨u,r,rfl,h1,h2⟩=>⟨v,r,rfl,h,h2⟩
  | q :: ps,_,i + 1,⟨u,r,rfl,h1,h2⟩=>⟨u,_,rfl,h1,RepL.set h i h2⟩
theorem RepL.rep {ps:List PV} {vs:List V} (h:RepL H ρ ps vs):∀ n,RepL H ρ (List.replicate n ps).flatten (List.replicate n vs).flatten
  | 0=>rfl
  | n + 1=>by rw [List.replicate_succ,List.replicate_succ,List.flatten_cons,List.flatten_cons]; exact h.append (RepL.rep h n)
theorem RepL.toInts:∀ {ns:List Int} {vs:List V},RepL H ρ (ns.map .int) vs->vs=ns.map V.int
  | [],_,h=>h
  | n :: ns,_,⟨v,r,rfl,h1,h2⟩=>by
    have e:v=V.int n:=h1
    rw [RepL.toInts h2,e]; rfl
theorem RepL.toBls:∀ {ns:List Bool} {vs:List V},RepL H ρ (ns.map .bl) vs->vs=ns.map V.bl
  | [],_,h=>h
  | n :: ns,_,⟨v,r,rfl,h1,h2⟩=>by
    have e:v=V.bl n:=h1
    rw [RepL.toBls h2,e]; rfl
end
def RepD {κ:Type} (H:Hp) (ρ:Tk) (kvs:List (κ × PV)) (vs:List (κ × V)):Prop:=vs.map Prod.fst=kvs.map Prod.fst/\RepL H ρ (kvs.map Prod.snd) (vs.map Prod.snd)
theorem RepD.ext {κ:Type} {H H':Hp} {ρ ρ':Tk} {kvs:List (κ × PV)} {vs:List (κ × V)} (x:Ext H ρ H' ρ') (r:RepD H ρ kvs vs):RepD H' ρ' kvs vs:=⟨r.1,r.2.ext x⟩
theorem RepD.length {κ:Type} {H:Hp} {ρ:Tk} {kvs:List (κ × PV)} {vs:List (κ × V)} (r:RepD H ρ kvs vs):kvs.length=vs.length:=by
  have:=congrArg List.length r.1
  rw [O5,O5] at this
  exact this.symm
def CellR (H:Hp) (ρ:Tk) (a:Addr):Cell->Prop
  | .lst ps=>∃ vs,H a=some (.lst vs)/\RepL H ρ ps vs
  | .dic kvs=>∃ vs,H a=some (.dK vs)/\RepD H ρ kvs vs
  | .dtp kvs=>∃ vs,H a=some (.dT vs)/\RepD H ρ kvs vs
  | .frd kvs=>∃ vs,(∃ o,H a=some (.frz o (.dK vs)))/\RepD H ρ kvs vs
theorem CellR.dom {H:Hp} {ρ:Tk} {a:Addr}:∀ {c:Cell},CellR H ρ a c->∃ o,H a=some o
  | .lst _,⟨_,e,_⟩=>⟨_,e⟩
  | .dic _,⟨_,e,_⟩=>⟨_,e⟩
  | .dtp _,⟨_,e,_⟩=>⟨_,e⟩
  | .frd _,⟨_,⟨_,e⟩,_⟩=>⟨_,e⟩
theorem CellR.ext {H H':Hp} {ρ ρ':Tk} {a:Addr} (x:Ext H ρ H' ρ') (k:∀ o,H a=some o->H' a=some o):∀ {c:Cell},CellR H ρ a c->CellR H' ρ' a c
  | .lst _,⟨vs,e,r⟩=>⟨vs,k _ e,r.ext x⟩
  | .dic _,⟨vs,e,r⟩=>⟨vs,k _ e,r.ext x⟩
  | .dtp _,⟨vs,e,r⟩=>⟨vs,k _ e,r.ext x⟩
  | .frd _,⟨vs,⟨o,e⟩,r⟩=>⟨vs,⟨o,k _ e⟩,r.ext x⟩
structure Rel (H:Hp) (ρ:Tk) (st:Q1):Prop where
  len:ρ.tr.length=st.length
  nd:ρ.tr.Nodup
  hd:∀ a∈ρ.hid,∃ o,H a=some o/\∀ xs,o≠.tup xs
  ap:∀ a∈ρ.hid,a∉ρ.tr
  cell:∀ (i:Nat) (a:Addr) (c:Cell),ρ.tr[i]?=some a->st[i]?=some c->CellR H ρ a c
section
variable {H H':Hp} {ρ ρ':Tk} {st st':Q1}
theorem Rel.lst (R:Rel H ρ st) {i:Nat} {ps:List PV} (h:st[i]?=some (.lst ps)):∃ a vs,ρ.tr[i]?=some a/\H a=some (.lst vs)/\RepL H ρ ps vs:=by
  have hi:i < ρ.tr.length:=by rw [R.len]; exact (O0.mp h).1
  have e:ρ.tr[i]?=some ρ.tr[i]:=O2 hi
  obtain ⟨vs,e1,e2⟩:=R.cell i _ _ e h
  exact ⟨_,vs,e,e1,e2⟩
theorem Rel.dic (R:Rel H ρ st) {i:Nat} {kvs:List (Key × PV)} (h:st[i]?=some (.dic kvs)):∃ a vs,ρ.tr[i]?=some a/\H a=some (.dK vs)/\RepD H ρ kvs vs:=by
  have hi:i < ρ.tr.length:=by rw [R.len]; exact (O0.mp h).1
  have e:ρ.tr[i]?=some ρ.tr[i]:=O2 hi
  obtain ⟨vs,e1,e2⟩:=R.cell i _ _ e h
  exact ⟨_,vs,e,e1,e2⟩
theorem Rel.frd (R:Rel H ρ st) {i:Nat} {kvs:List (Key × PV)} (h:st[i]?=some (.frd kvs)):∃ a vs o,ρ.tr[i]?=some a/\H a=some (.frz o (.dK vs))/\RepD H ρ kvs vs:=by
  have hi:i < ρ.tr.length:=by rw [R.len]; exact (O0.mp h).1
  have e:ρ.tr[i]?=some ρ.tr[i]:=O2 hi
  obtain ⟨vs,⟨o,e1⟩,e2⟩:=R.cell i _ _ e h
  exact ⟨_,vs,o,e,e1,e2⟩
theorem Rel.dom (R:Rel H ρ st) {a:Addr} (h:a∈ρ.tr):∃ o,H a=some o:=by
  obtain ⟨i,hi,e⟩:=List.getElem_of_mem h
  have hs:i < st.length:=by rw [<- R.len]; exact hi
  have q:=R.cell i a st[i] (by rw [O2 hi,e]) (O2 hs)
  exact q.dom
theorem Rel.fresh (R:Rel H ρ st) {p:Addr} (h:H p=none):p∉ρ:=fun z=>by
  rcases z with z | z
  · obtain ⟨vs,q⟩:=R.dom z
    rw [h] at q; cases q
  · obtain ⟨o,q,_⟩:=R.hd p z
    rw [h] at q; cases q
theorem Rel.later (R:Rel H ρ st) (x:Ext H ρ H' ρ) (k:∀ a o,a∈ρ.tr->H a=some o->H' a=some o):Rel H' ρ st where
  len:=R.len
  nd:=R.nd
  hd:=fun a ha=>let ⟨o,e,n⟩:=R.hd a ha; ⟨o,x.keep a o e (R.ap a ha),n⟩
  ap:=R.ap
  cell:=fun i a c h1 h2=>by
    exact (R.cell i a c h1 h2).ext x fun o e=>k a o (D8 h1) e
end
theorem Rel.add {H:Hp} {ρ:Tk} {st:Q1} (R:Rel H ρ st) {p:Addr} {o:HO} (h:H p=none):Rel (upd H p o) ρ st:=
  R.later (Ext.add h) fun a u hm e=>by rw [Q7 (Q9 e h)]; exact e
theorem Rel.same {H H':Hp} {ρ:Tk} {st:Q1} (R:Rel H ρ st) (h:Same H H'):Rel H' ρ st:=R.later (Ext.same h) fun a u _ e=>h a u e
theorem Rel.addC {H:Hp} {ρ:Tk} {st:Q1} (R:Rel H ρ st) {p:Addr} {cl:Cell} {o:HO} (h:H p=none) (r:CellR (upd H p o) (ρ.add p) p cl):Rel (upd H p o) (ρ.add p) (st ++ [cl]) where
  len:=by show (ρ.tr ++ [p]).length=_; rw [D5,D5,R.len]; rfl
  nd:=List.nodup_append.mpr ⟨R.nd,by simp,fun a ha b hb e=>by
    have:b=p:=by simpa using hb
    subst this; subst e
    exact R.fresh h (.inl ha)⟩
  hd:=fun a ha=>let ⟨o,e,n⟩:=R.hd a ha; ⟨o,by rw [Q7 (Q9 e h)]; exact e,n⟩
  ap:=fun a ha z=>by
    rcases E7.mp z with z | z
    · exact R.ap a ha z
    · have:a=p:=by simpa using z
      subst this
      exact R.fresh h (.inr ha)
  cell:=fun i a c h1 h2=>by
    have h1:(ρ.tr ++ [p])[i]?=some a:=h1
    by_cases hi:i < st.length
    · rw [O3 (by rw [R.len]; exact hi)] at h1
      rw [O3 hi] at h2
      exact (R.cell i a c h1 h2).ext (Ext.addT h) fun u e=>by rw [Q7 (Q9 e h)]; exact e
    · rw [O8 (by rw [R.len]; omega)] at h1
      rw [O8 (by omega)] at h2
      have e0:i - st.length=0:=by
        rcases Nat.eq_zero_or_pos (i - st.length) with z | z
        · exact z
        · rw [List.getElem?_eq_none (by simp; omega)] at h2; cases h2
      rw [R.len,e0] at h1
      rw [e0] at h2
      simp at h1 h2
      subst h1; subst h2
      exact r
theorem nodup_inj {α:Type} {l:List α} (h:l.Nodup) {i j:Nat} (hi:i < l.length) (hj:j < l.length) (e:l[i]=l[j]):i=j:=by
  rcases Nat.lt_trichotomy i j with z | z | z
  · exact absurd e ((List.pairwise_iff_getElem.mp h) i j hi hj z)
  · exact z
  · exact absurd e.symm ((List.pairwise_iff_getElem.mp h) j i hj hi z)
theorem Ext.put {H:Hp} {ρ:Tk} {a:Addr} {o o':HO} (h:a∈ρ.tr) (e:H a=some o) (nf:∀ q u,o≠.frz q u:=by intro _ _ z; cases z):Ext H ρ (upd H a o') ρ where
  pre:=List.prefix_refl _
  hidM:=fun _ h=>h
  hidN:=fun _ h=>.inl h
  keep:=fun b u q n=>by rw [Q7 (show b≠a from fun z=>n (by rw [z]; exact h))]; exact q
  new:=fun b q=>.inl q
  old:=fun b u q=>by
    by_cases z:b=a
    · exact ⟨o',by rw [z]; exact Qb⟩
    · exact ⟨u,by rw [Q7 z]; exact q⟩
  frz:=fun b q u k=>by
    by_cases z:b=a
    · rw [z,e] at k; cases k; exact absurd rfl (nf _ _)
    · rw [Q7 z]; exact k
theorem Rel.putC {H:Hp} {ρ:Tk} {st:Q1} (R:Rel H ρ st) {i:Nat} {a:Addr} {cl:Cell} {o o':HO} (hi:ρ.tr[i]?=some a) (e:H a=some o) (r:CellR (upd H a o') ρ a cl):Rel (upd H a o') ρ (st.set i cl) where
  len:=by rw [G8]; exact R.len
  nd:=R.nd
  hd:=fun b hb=>let ⟨u,q,n⟩:=R.hd b hb; ⟨u,by rw [Q7 (show b≠a from fun z=>R.ap b hb (by rw [z]; exact D8 hi))]; exact q,n⟩
  ap:=R.ap
  cell:=fun j b c h1 h2=>by
    by_cases hj:i=j
    · subst hj
      rw [hi] at h1; cases h1
      rw [D9 (by rw [<- R.len]; exact (O0.mp hi).1)] at h2
      cases h2
      exact r
    · rw [E3 hj] at h2
      have q:=R.cell j b c h1 h2
      have hb:b≠a:=fun z=>by
        subst z
        have l1:=(O0.mp hi)
        have l2:=(O0.mp h1)
        exact hj (nodup_inj R.nd l1.1 l2.1 (l1.2.trans l2.2.symm))
      have hm:=D8 hi
      cases c with
      | lst ps=>
        obtain ⟨vs,e1,e2⟩:=q
        exact ⟨vs,by rw [Q7 hb]; exact e1,e2.retr hm⟩
      | dic ps=>
        obtain ⟨vs,e1,e2⟩:=q
        exact ⟨vs,by rw [Q7 hb]; exact e1,e2.1,e2.2.retr hm⟩
      | dtp ps=>
        obtain ⟨vs,e1,e2⟩:=q
        exact ⟨vs,by rw [Q7 hb]; exact e1,e2.1,e2.2.retr hm⟩
      | frd ps=>
        obtain ⟨vs,⟨oo,e1⟩,e2⟩:=q
        exact ⟨vs,⟨oo,by rw [Q7 hb]; exact e1⟩,e2.1,e2.2.retr hm⟩
theorem Rel.put {H:Hp} {ρ:Tk} {st:Q1} (R:Rel H ρ st) {i:Nat} {a:Addr} {ps:List PV} {vs:List V} {o:HO} (hi:ρ.tr[i]?=some a) (e:H a=some o) (r:RepL H ρ ps vs):Rel (upd H a (.lst vs)) ρ (st.set i (.lst ps)):=
  R.putC hi e ⟨vs,Qb,r.retr (D8 hi)⟩
theorem Rel.hide {H:Hp} {ρ:Tk} {st:Q1} (R:Rel H ρ st) {p:Addr} {o:HO} (h:H p=none) (nt:∀ xs,o≠.tup xs:=by intro _ z; cases z):Rel (upd H p o) (ρ.hide p) st:=by
  have x:Ext H ρ (upd H p o) ρ:=Ext.add h
  have R':=R.add (p:=p) (o:=o) h
  refine ⟨R'.len,R'.nd,fun a ha=>?_,fun a ha z=>?_,fun i a c h1 h2=>?_⟩
  · rcases D6.mp ha with rfl | ha
    · exact ⟨o,Qb,nt⟩
    · exact R'.hd a ha
  · rcases D6.mp ha with rfl | ha
    · exact R.fresh h (.inl z)
    · exact R.ap a ha z
  · have q:=R.cell i a c h1 h2
    cases c with
    | lst ps=>
      obtain ⟨vs,e1,e2⟩:=q
      exact ⟨vs,by rw [Q7 (Q9 e1 h)]; exact e1,e2.hide h⟩
    | dic ps=>
      obtain ⟨vs,e1,e2⟩:=q
      exact ⟨vs,by rw [Q7 (Q9 e1 h)]; exact e1,e2.1,e2.2.hide h⟩
    | dtp ps=>
      obtain ⟨vs,e1,e2⟩:=q
      exact ⟨vs,by rw [Q7 (Q9 e1 h)]; exact e1,e2.1,e2.2.hide h⟩
    | frd ps=>
      obtain ⟨vs,⟨oo,e1⟩,e2⟩:=q
      exact ⟨vs,⟨oo,by rw [Q7 (Q9 e1 h)]; exact e1⟩,e2.1,e2.2.hide h⟩
theorem Rel.rehide {H:Hp} {ρ:Tk} {st:Q1} (R:Rel H ρ st) {p:Addr} {o:HO} (h:p∈ρ.hid) (nt:∀ xs,o≠.tup xs:=by intro _ z; cases z):Rel (upd H p o) ρ st:=by
  refine ⟨R.len,R.nd,fun a ha=>?_,R.ap,fun i a c h1 h2=>?_⟩
  · by_cases e:a=p
    · exact ⟨o,by rw [e]; exact Qb,nt⟩
    · obtain ⟨u,q,n⟩:=R.hd a ha
      exact ⟨u,by rw [Q7 e]; exact q,n⟩
  · have q:=R.cell i a c h1 h2
    have ne:a≠p:=fun z=>R.ap p h (by rw [<- z]; exact D8 h1)
    cases c with
    | lst ps=>
      obtain ⟨vs,e1,e2⟩:=q
      exact ⟨vs,by rw [Q7 ne]; exact e1,e2.rehide h⟩
    | dic ps=>
      obtain ⟨vs,e1,e2⟩:=q
      exact ⟨vs,by rw [Q7 ne]; exact e1,e2.1,e2.2.rehide h⟩
    | dtp ps=>
      obtain ⟨vs,e1,e2⟩:=q
      exact ⟨vs,by rw [Q7 ne]; exact e1,e2.1,e2.2.rehide h⟩
    | frd ps=>
      obtain ⟨vs,⟨oo,e1⟩,e2⟩:=q
      exact ⟨vs,⟨oo,by rw [Q7 ne]; exact e1⟩,e2.1,e2.2.rehide h⟩
theorem Rel.unhide {H:Hp} {ρ:Tk} {st:Q1} {hs:List Addr} (hh:∀ a,a∈hs->a∈ρ.hid) (R:Rel H ρ st):Rel H ⟨ρ.tr,hs⟩ st:=by
  refine ⟨R.len,R.nd,fun a ha=>R.hd a (hh a ha),fun a ha=>R.ap a (hh a ha),fun i a c h1 h2=>?_⟩
  have q:=R.cell i a c h1 h2
  cases c with
  | lst ps=>
    obtain ⟨vs,e1,e2⟩:=q
    exact ⟨vs,e1,RepL.unhide hh e2⟩
  | dic ps=>
    obtain ⟨vs,e1,e2⟩:=q
    exact ⟨vs,e1,e2.1,RepL.unhide hh e2.2⟩
  | dtp ps=>
    obtain ⟨vs,e1,e2⟩:=q
    exact ⟨vs,e1,e2.1,RepL.unhide hh e2.2⟩
  | frd ps=>
    obtain ⟨vs,e1,e2⟩:=q
    exact ⟨vs,e1,e2.1,RepL.unhide hh e2.2⟩
theorem Ext.hide {H:Hp} {ρ:Tk} {p:Addr} {o:HO} (h:H p=none):Ext H ρ (upd H p o) (ρ.hide p) where
  pre:=List.prefix_refl _
  hidM:=fun _ h=>D4 _ h
  hidN:=fun a ha=>by
    rcases D6.mp ha with rfl | ha
    · exact .inr h
    · exact .inl ha
  keep:=fun a u e _=>by rw [Q7 (Q9 e h)]; exact e
  new:=fun a e=>.inl e
  old:=fun a u e=>⟨u,by rw [Q7 (Q9 e h)]; exact e⟩
  frz:=fun a o u e=>by rw [Q7 (Q9 e h)]; exact e
theorem Ext.put0 {H H1:Hp} {ρ ρ1:Tk} {p:Addr} {o:HO} (x:Ext H ρ H1 ρ1) (h:H p=none):Ext H ρ (upd H1 p o) ρ1 where
  pre:=x.pre
  hidM:=x.hidM
  hidN:=x.hidN
  keep:=fun a u e n=>by rw [Q7 (Q9 e h)]; exact x.keep a u e n
  new:=x.new
  old:=fun a u e=>by rw [Q7 (Q9 e h)]; exact x.old a u e
  frz:=fun a o u e=>by rw [Q7 (Q9 e h)]; exact x.frz a o u e
theorem Ext.unhide {H H1:Hp} {ρ ρ1:Tk} (x:Ext H ρ H1 ρ1):Ext H ρ H1 ⟨ρ1.tr,ρ.hid⟩ where
  pre:=x.pre
  hidM:=fun _ h=>h
  hidN:=fun _ h=>.inl h
  keep:=x.keep
  new:=x.new
  old:=x.old
  frz:=x.frz
def EnvR (H:Hp) (ρ:Tk) (Γ:Gam) (σ:St):Prop:=Γ.length=σ.length/\∀ (i:Nat) (p:PV),Γ[i]?=some (some p)->∃ v,σ[i]?=some (some v)/\Rep H ρ p v
theorem EnvR.ext {H H':Hp} {ρ ρ':Tk} {Γ:Gam} {σ:St} (x:Ext H ρ H' ρ') (h:EnvR H ρ Γ σ):EnvR H' ρ' Γ σ:=
  ⟨h.1,fun i p e=>let ⟨v,a,b⟩:=h.2 i p e; ⟨v,a,b.ext x⟩⟩
theorem EnvR.hide {H:Hp} {ρ:Tk} {Γ:Gam} {σ:St} {a:Addr} {o:HO} (n:H a=none) (h:EnvR H ρ Γ σ):EnvR (upd H a o) (ρ.hide a) Γ σ:=⟨h.1,fun i p e=>let ⟨v,a,b⟩:=h.2 i p e; ⟨v,a,b.hide n⟩⟩
theorem EnvR.rehide {H:Hp} {ρ:Tk} {Γ:Gam} {σ:St} {a:Addr} {o:HO} (n:a∈ρ.hid) (h:EnvR H ρ Γ σ):EnvR (upd H a o) ρ Γ σ:=⟨h.1,fun i p e=>let ⟨v,a,b⟩:=h.2 i p e; ⟨v,a,b.rehide n⟩⟩
theorem EnvR.retr {H:Hp} {ρ:Tk} {Γ:Gam} {σ:St} {a:Addr} {o:HO} (n:a∈ρ.tr) (h:EnvR H ρ Γ σ):EnvR (upd H a o) ρ Γ σ:=⟨h.1,fun i p e=>let ⟨v,a,b⟩:=h.2 i p e; ⟨v,a,b.retr n⟩⟩
theorem EnvR.set {H:Hp} {ρ:Tk} {Γ:Gam} {σ:St} {p:PV} {v:V} (h:EnvR H ρ Γ σ) (r:Rep H ρ p v) (i:Nat):EnvR H ρ (Γ.set i (some p)) (σ.set i (some v)):=by
  refine ⟨by rw [G8,G8]; exact h.1,fun j q e=>?_⟩
  rw [List.getElem?_set] at e
  rw [List.getElem?_set]
  by_cases hj:i=j
  · subst hj
    simp only [if_true] at e ⊢
    by_cases hl:i < Γ.length
    · rw [if_pos hl] at e; cases e
      rw [if_pos (by rw [<- h.1]; exact hl)]
      exact ⟨v,rfl,r⟩
    · rw [if_neg hl] at e; cases e
  · rw [if_neg hj] at e ⊢
    exact h.2 j q e
end Sm
namespace Sm
open PySem PySem.Spec L2
def Res.bind {α β:Type} (r:Res α) (f:α->Q1->Res β):Res β:=match r with
  | .ok a st=>f a st
  | .exc x st=>.exc x st
  | .stuck=>.stuck
def okO {α:Type} (st:Q1):Option α->Res α
  | some a=>.ok a st
  | none=>.stuck
section
variable (X:Cx)
def WE (e:Expr):TE:=fun σ H Q=>∀ (pins:List (Addr × Obj)) (s:Shared),Inv X pins σ H s->wpAny (model X.prog X.w) X.A (eval e X.env) (EP X pins σ Q) X.xe s
def WT (e:Expr):TT:=fun σ H Q=>∀ (pins:List (Addr × Obj)) (s:Shared),Inv X pins σ H s->wpAny (model X.prog X.w) X.A (isTrue e X.env (eval e X.env)) (TP X pins σ Q) X.xe s
def WW (e:Expr):TT:=fun σ H Q=>∀ (wh:Sem Value) (pins:List (Addr × Obj)) (s:Shared),Inv X pins σ H s->wpAny (model X.prog X.w) X.A (isTrue e X.env wh) (TP X pins σ Q) X.xe s
def WA (es:List Expr):TA:=fun σ H Q=>∀ (pos:Pos) (pins:List (Addr × Obj)) (s:Shared),Inv X pins σ H s->wpAny (model X.prog X.w) X.A (spliced (backTo pos (starEach es X.env))) (AP X pins σ Q) X.xe s
def WS (st:Stmt):TS:=fun D σ H=>∀ (pins:List (Addr × Obj)) (s:Shared),Inv X pins σ H s->wpAny (model X.prog X.w) X.A (exec st X.env) (SP X pins D) X.xe s
def WB (st:List Stmt):TS:=fun D σ H=>∀ (pins:List (Addr × Obj)) (s:Shared),Inv X pins σ H s->wpAny (model X.prog X.w) X.A (execs st X.env) (SP X pins D) X.xe s
def WI (tg iter : Expr) : TI := fun σ H R => ∀ (pins : List (Addr × Obj)) (s : Shared), Inv X pins σ H s ->
    wpAny (model X.prog X.w) X.A (eval iter X.env) (fun v s1=>wpAny (model X.prog X.w) X.A (pyIter v) (PIE X pins σ tg R) X.xe s1) X.xe s
def WO (f:Value->Value->Sem Value):R2:=fun x y H Q=>∀ (pins:List (Addr × Obj)) (s:Shared) (σ:St) (v u:Value),Inv X pins σ H s->RelV x v->RelV y u->wpAny (model X.prog X.w) X.A (f v u) (EP X pins σ Q) X.xe s
def WC (f:Value):List V->Hp->VK->Prop:=fun xs H Q=>∀ (pins:List (Addr × Obj)) (s:Shared) (σ:St) (us:List Value),Inv X pins σ H s->Vals xs us->wpAny (model X.prog X.w) X.A (call f us) (EP X pins σ Q) X.xe s
end
section
variable {X:Cx}
theorem Zf {e:Expr}:PE X e (WE X e):=fun pins s _ _ _ I h=>h pins s I
theorem pt_w {e:Expr}:PT X e (WT X e):=fun pins s _ _ _ I h=>h pins s I
theorem pw_w {e:Expr}:PW X e (WW X e):=fun wh pins s _ _ _ I h=>h wh pins s I
theorem Q0q {es:List Expr}:PA X es (WA X es):=fun pos pins s _ _ _ I h=>h pos pins s I
theorem ps_w {st:Stmt}:PS X st (WS X st):=fun pins s _ _ _ I h=>h pins s I
theorem Q0j {st:List Stmt}:PSs X st (WB X st):=fun pins s _ _ _ I h=>h pins s I
theorem pi_w {tg iter:Expr}:PI X tg iter (WI X tg iter):=fun pins s _ _ _ I h=>h pins s I
theorem op_w {f:Value->Value->Sem Value}:OpR X f (WO X f):=fun pins s σ _ _ _ v u _ I r1 r2 h=>h pins s σ v u I r1 r2
theorem call_w {f:Value}:V8 X f (WC X f):=fun pins s σ _ _ us _ I r h=>h pins s σ us I r
theorem WE.of {e:Expr} {t:TE} {σ:St} {H:Hp} {Q:VK} (h:PE X e t) (q:t σ H Q):WE X e σ H Q:=fun pins s I=>h pins s σ H Q I q
theorem WT.of {e:Expr} {t:TT} {σ:St} {H:Hp} {Q:Bool->Hp->Prop} (h:PT X e t) (q:t σ H Q):WT X e σ H Q:=fun pins s I=>h pins s σ H Q I q
theorem WW.of {e:Expr} {t:TT} {σ:St} {H:Hp} {Q:Bool->Hp->Prop} (h:PW X e t) (q:t σ H Q):WW X e σ H Q:=fun wh pins s I=>h wh pins s σ H Q I q
theorem WA.of {es:List Expr} {t:TA} {σ:St} {H:Hp} {Q:List V->Hp->Prop} (h:PA X es t) (q:t σ H Q):WA X es σ H Q:=fun pos pins s I=>h pos pins s σ H Q I q
theorem WS.of {st:Stmt} {t:TS} {σ:St} {H:Hp} {D:Ends} (h:PS X st t) (q:t D σ H):WS X st D σ H:=fun pins s I=>h pins s σ H D I q
theorem WB.of {st:List Stmt} {t:TS} {σ:St} {H:Hp} {D:Ends} (h:PSs X st t) (q:t D σ H):WB X st D σ H:=fun pins s I=>h pins s σ H D I q
theorem WI.of {tg iter:Expr} {t:TI} {σ:St} {H:Hp} {R:It->Hp->Prop} (h:PI X tg iter t) (q:t σ H R):WI X tg iter σ H R:=fun pins s I=>h pins s σ H R I q
theorem WO.of {f:Value->Value->Sem Value} {r:R2} {x y:V} {H:Hp} {Q:VK} (h:OpR X f r) (q:r x y H Q):WO X f x y H Q:=fun pins s σ v u I r1 r2=>h pins s σ H x y v u Q I r1 r2 q
theorem WC.of {f:Value} {r:List V->Hp->VK->Prop} {xs:List V} {H:Hp} {Q:VK} (h:V8 X f r) (q:r xs H Q):WC X f xs H Q:=fun pins s σ us I r1=>h pins s σ H xs us Q I r1 q
end
def XFs (H:Hp) (ρ:Tk):Option (Str × PV)->Option Addr->Prop
  | none,dv=>dv=none
  | some (n,p),dv=>∃ dx v,dv=some dx/\H dx=some (.xd [(n,v)])/\dx∉ρ/\Rep H ρ p v
def Acc {α:Type} (mg:Str->Option Value) (E:XK) (H:Hp) (ρ:Tk) (P:α->Q1->Hp->Tk->Prop):Res α->Prop
  | .ok a st=>∀ H' ρ',Ext H ρ H' ρ'->Rel H' ρ' st->P a st H' ρ'
  | .exc x st=>∀ C dv H' ρ',mg x.cls=some (.ref C)->Ext H ρ H' ρ'->Rel H' ρ' st->XFs H' ρ' x.fs dv->E (.ref C) dv H'
  | .stuck=>False
section
variable {α β:Type} {mg:Str->Option Value} {E:XK} {H H1:Hp} {ρ ρ1:Tk}
theorem Acc.mono {P P':α->Q1->Hp->Tk->Prop} {r:Res α} (h:Acc mg E H ρ P r) (x:Ext H ρ H1 ρ1) (k:∀ a st H' ρ',P a st H' ρ'->P' a st H' ρ'):Acc mg E H1 ρ1 P' r:=by
  cases r with
  | ok a st=>exact fun H' ρ' x' R'=>k _ _ _ _ (h H' ρ' (x.trans x') R')
  | exc e st=>exact fun C dv H' ρ' m x' R' f=>h C dv H' ρ' m (x.trans x') R' f
  | stuck=>exact h
theorem Acc.later {P:α->Q1->Hp->Tk->Prop} {r:Res α} (h:Acc mg E H ρ P r) (x:Ext H ρ H1 ρ1):Acc mg E H1 ρ1 P r:=h.mono x fun _ _ _ _ p=>p
theorem Acc.bind {P:β->Q1->Hp->Tk->Prop} {r:Res α} {f:α->Q1->Res β} (h:Acc mg E H ρ P (r.bind f)):Acc mg E H ρ (fun a st1 H1 ρ1=>Acc mg E H1 ρ1 P (f a st1)) r:=by
  cases r with
  | ok a st=>exact fun H' ρ' x' R'=>Acc.later (show Acc mg E H ρ P (f a st) from h) x'
  | exc e st=>exact h
  | stuck=>exact h
end
abbrev QV (Q:VK):PV->Q1->Hp->Tk->Prop:=fun p _ H' ρ'=>∀ v,Rep H' ρ' p v->Q v H'
abbrev QL (Q:List V->Hp->Prop):List PV->Q1->Hp->Tk->Prop:=fun ps _ H' ρ'=>∀ vs,RepL H' ρ' ps vs->Q vs H'
abbrev QB (Q:Bool->Hp->Prop):Bool->Q1->Hp->Tk->Prop:=fun b _ H' _=>Q b H'
structure SimE (X:Cx) (E:XK) (e:Expr) (m:ME):Prop where
  run:∀ (Γ:Gam) (σ:St) (H:Hp) (ρ:Tk) (st:Q1) (Q:VK),Rel H ρ st->EnvR H ρ Γ σ->Acc X.mg E H ρ (QV Q) (m Γ st)->WE X e σ H Q
structure SimT (X:Cx) (E:XK) (e:Expr) (m:Gam->Q1->Res Bool):Prop where
  run:∀ (Γ:Gam) (σ:St) (H:Hp) (ρ:Tk) (st:Q1) (Q:Bool->Hp->Prop),Rel H ρ st->EnvR H ρ Γ σ->Acc X.mg E H ρ (QB Q) (m Γ st)->WT X e σ H Q
structure SimW (X:Cx) (E:XK) (e:Expr) (m:Gam->Q1->Res Bool):Prop where
  run:∀ (Γ:Gam) (σ:St) (H:Hp) (ρ:Tk) (st:Q1) (Q:Bool->Hp->Prop),Rel H ρ st->EnvR H ρ Γ σ->Acc X.mg E H ρ (QB Q) (m Γ st)->WW X e σ H Q
structure SimA (X:Cx) (E:XK) (es:List Expr) (m:Gam->Q1->Res (List PV)):Prop where
  run:∀ (Γ:Gam) (σ:St) (H:Hp) (ρ:Tk) (st:Q1) (Q:List V->Hp->Prop),Rel H ρ st->EnvR H ρ Γ σ->Acc X.mg E H ρ (QL Q) (m Γ st)->WA X es σ H Q
abbrev OP:=Q1->PV->PV->Res PV
structure OpS (X:Cx) (E:XK) (f:Value->Value->Sem Value) (o:OP):Prop where
  run:∀ (H:Hp) (ρ:Tk) (st:Q1) (p q:PV) (x y:V) (Q:VK),Rel H ρ st->Rep H ρ p x->Rep H ρ q y->Acc X.mg E H ρ (QV Q) (o st p q)->WO X f x y H Q
abbrev CF:=Q1->List PV->Res PV
structure CallS (X:Cx) (E:XK) (f:Value) (o:CF):Prop where
  run:∀ (H:Hp) (ρ:Tk) (st:Q1) (ps:List PV) (xs:List V) (Q:VK),Rel H ρ st->RepL H ρ ps xs->Acc X.mg E H ρ (QV Q) (o st ps)->WC X f xs H Q
section
variable {X:Cx} {E:XK} {Γ:Gam} {σ:St} {H:Hp} {ρ:Tk} {st:Q1}
theorem SimE.use {e:Expr} {m:ME} (s:SimE X E e m) {P:PV->Q1->Hp->Tk->Prop} {Q:VK} (R:Rel H ρ st) (G:EnvR H ρ Γ σ) (h:Acc X.mg E H ρ P (m Γ st))
    (k:∀ p st1 H1 ρ1 v,Ext H ρ H1 ρ1->Rel H1 ρ1 st1->EnvR H1 ρ1 Γ σ->Rep H1 ρ1 p v->P p st1 H1 ρ1->Q v H1):WE X e σ H Q:=by
  refine s.run Γ σ H ρ st Q R G ?_
  cases r:m Γ st with
  | ok p st1=>rw [r] at h; exact fun H' ρ' x' R' v rv=>k p st1 H' ρ' v x' R' (G.ext x') rv (h H' ρ' x' R')
  | exc e st=>rw [r] at h; exact h
  | stuck=>rw [r] at h; exact h
theorem SimE.use' {e:Expr} {m:ME} (s:SimE X E e m) {P:PV->Q1->Hp->Tk->Prop} {Q:VK} (R:Rel H ρ st) (G:EnvR H ρ Γ σ) (h:Acc X.mg E H ρ P (m Γ st))
    (k:∀ p st1 H1 ρ1 v,m Γ st=.ok p st1->Ext H ρ H1 ρ1->Rel H1 ρ1 st1->EnvR H1 ρ1 Γ σ->Rep H1 ρ1 p v->P p st1 H1 ρ1->Q v H1):WE X e σ H Q:=by
  refine s.run Γ σ H ρ st Q R G ?_
  cases r:m Γ st with
  | ok p st1=>rw [r] at h; exact fun H' ρ' x' R' v rv=>k p st1 H' ρ' v r x' R' (G.ext x') rv (h H' ρ' x' R')
  | exc e st=>rw [r] at h; exact h
  | stuck=>rw [r] at h; exact h
theorem SimA.use' {es:List Expr} {m:Gam->Q1->Res (List PV)} (s:SimA X E es m) {P:List PV->Q1->Hp->Tk->Prop} {Q:List V->Hp->Prop} (R:Rel H ρ st) (G:EnvR H ρ Γ σ) (h:Acc X.mg E H ρ P (m Γ st))
    (k:∀ ps st1 H1 ρ1 vs,m Γ st=.ok ps st1->Ext H ρ H1 ρ1->Rel H1 ρ1 st1->EnvR H1 ρ1 Γ σ->RepL H1 ρ1 ps vs->P ps st1 H1 ρ1->Q vs H1):WA X es σ H Q:=by
  refine s.run Γ σ H ρ st Q R G ?_
  cases r:m Γ st with
  | ok p st1=>rw [r] at h; exact fun H' ρ' x' R' v rv=>k p st1 H' ρ' v r x' R' (G.ext x') rv (h H' ρ' x' R')
  | exc e st=>rw [r] at h; exact h
  | stuck=>rw [r] at h; exact h
theorem SimT.use {e:Expr} {m:Gam->Q1->Res Bool} (s:SimT X E e m) {P:Bool->Q1->Hp->Tk->Prop} {Q:Bool->Hp->Prop} (R:Rel H ρ st) (G:EnvR H ρ Γ σ) (h:Acc X.mg E H ρ P (m Γ st))
    (k:∀ p st1 H1 ρ1,Ext H ρ H1 ρ1->Rel H1 ρ1 st1->EnvR H1 ρ1 Γ σ->P p st1 H1 ρ1->Q p H1):WT X e σ H Q:=by
  refine s.run Γ σ H ρ st Q R G ?_
  cases r:m Γ st with
  | ok p st1=>rw [r] at h; exact fun H' ρ' x' R'=>k p st1 H' ρ' x' R' (G.ext x') (h H' ρ' x' R')
  | exc e st=>rw [r] at h; exact h
  | stuck=>rw [r] at h; exact h
theorem SimT.use' {e:Expr} {m:Gam->Q1->Res Bool} (s:SimT X E e m) {P:Bool->Q1->Hp->Tk->Prop} {Q:Bool->Hp->Prop} (R:Rel H ρ st) (G:EnvR H ρ Γ σ) (h:Acc X.mg E H ρ P (m Γ st))
    (k:∀ p st1 H1 ρ1,m Γ st=.ok p st1->Ext H ρ H1 ρ1->Rel H1 ρ1 st1->EnvR H1 ρ1 Γ σ->P p st1 H1 ρ1->Q p H1):WT X e σ H Q:=by
  refine s.run Γ σ H ρ st Q R G ?_
  cases r:m Γ st with
  | ok p st1=>rw [r] at h; exact fun H' ρ' x' R'=>k p st1 H' ρ' r x' R' (G.ext x') (h H' ρ' x' R')
  | exc e st=>rw [r] at h; exact h
  | stuck=>rw [r] at h; exact h
theorem SimW.use {e:Expr} {m:Gam->Q1->Res Bool} (s:SimW X E e m) {P:Bool->Q1->Hp->Tk->Prop} {Q:Bool->Hp->Prop} (R:Rel H ρ st) (G:EnvR H ρ Γ σ) (h:Acc X.mg E H ρ P (m Γ st))
    (k:∀ p st1 H1 ρ1,Ext H ρ H1 ρ1->Rel H1 ρ1 st1->EnvR H1 ρ1 Γ σ->P p st1 H1 ρ1->Q p H1):WW X e σ H Q:=by
  refine s.run Γ σ H ρ st Q R G ?_
  cases r:m Γ st with
  | ok p st1=>rw [r] at h; exact fun H' ρ' x' R'=>k p st1 H' ρ' x' R' (G.ext x') (h H' ρ' x' R')
  | exc e st=>rw [r] at h; exact h
  | stuck=>rw [r] at h; exact h
theorem SimA.use {es:List Expr} {m:Gam->Q1->Res (List PV)} (s:SimA X E es m) {P:List PV->Q1->Hp->Tk->Prop} {Q:List V->Hp->Prop} (R:Rel H ρ st) (G:EnvR H ρ Γ σ) (h:Acc X.mg E H ρ P (m Γ st))
    (k:∀ ps st1 H1 ρ1 vs,Ext H ρ H1 ρ1->Rel H1 ρ1 st1->EnvR H1 ρ1 Γ σ->RepL H1 ρ1 ps vs->P ps st1 H1 ρ1->Q vs H1):WA X es σ H Q:=by
  refine s.run Γ σ H ρ st Q R G ?_
  cases r:m Γ st with
  | ok p st1=>rw [r] at h; exact fun H' ρ' x' R' v rv=>k p st1 H' ρ' v x' R' (G.ext x') rv (h H' ρ' x' R')
  | exc e st=>rw [r] at h; exact h
  | stuck=>rw [r] at h; exact h
theorem OpS.use {f:Value->Value->Sem Value} {o:OP} (s:OpS X E f o) {P:PV->Q1->Hp->Tk->Prop} {Q:VK} {p q:PV} {x y:V} (R:Rel H ρ st) (rp:Rep H ρ p x) (rq:Rep H ρ q y) (h:Acc X.mg E H ρ P (o st p q))
    (k:∀ p st1 H1 ρ1 v,Ext H ρ H1 ρ1->Rel H1 ρ1 st1->Rep H1 ρ1 p v->P p st1 H1 ρ1->Q v H1):WO X f x y H Q:=by
  refine s.run H ρ st p q x y Q R rp rq ?_
  cases r:o st p q with
  | ok p st1=>rw [r] at h; exact fun H' ρ' x' R' v rv=>k p st1 H' ρ' v x' R' rv (h H' ρ' x' R')
  | exc e st=>rw [r] at h; exact h
  | stuck=>rw [r] at h; exact h
end
end Sm
namespace Sm
open PySem PySem.Spec L2 SeqAt
mutual
def peq:PV->PV->Bool
  | .non,.non=>true
  | .bl a,.bl b=>a == b
  | .bl a,.int b=>(if a then 1 else 0) == b
  | .int a,.bl b=>a == (if b then 1 else 0)
  | .int a,.int b=>a == b
  | .str a,.str b=>a == b
  | .tup xs,.tup ys=>U9 xs ys
  | .lst xs,.lst ys=>U9 xs ys
  | .lst xs,.fro ys=>U9 xs ys
  | .fro xs,.lst ys=>U9 xs ys
  | .fro xs,.fro ys=>U9 xs ys
  | _,_=>false
def U9:List PV->List PV->Bool
  | [],[]=>true
  | x :: xs,y :: ys=>peq x y && U9 xs ys
  | _,_=>false
end
def Ye:Nat->PV->Bool
  | _,.ref _=>false
  | _,.dic=>false
  | 0,.tup _=>false
  | 0,.lst _=>false
  | 0,.fro _=>false
  | n + 1,.tup xs=>xs.all (Ye n)
  | n + 1,.lst xs=>xs.all (Ye n)
  | n + 1,.fro xs=>xs.all (Ye n)
  | _,_=>true
theorem Q0n:∀ {xs ys:List PV},xs.length≠ys.length->U9 xs ys=false
  | [],[],h=>absurd rfl h
  | [],_ :: _,_=>by simp [U9]
  | _ :: _,[],_=>by simp [U9]
  | x :: xs,y :: ys,h=>by
    rw [U9,Q0n (xs:=xs) (ys:=ys) fun e=>h (by simp [e]),Bool.and_false]
theorem Q0p:∀ {xs ys:List PV},xs.length=ys.length->U9 xs ys=(List.range xs.length).all fun j=>peq (xs.getD j .non) (ys.getD j .non)
  | [],[],_=>by simp [U9]
  | [],_ :: _,h=>by simp at h
  | _ :: _,[],h=>by simp at h
  | x :: xs,y :: ys,h=>by
    rw [U9,Q0p (xs:=xs) (ys:=ys) (by simpa using h),F1,List.range_succ_eq_map,List.all_cons,List.all_map]
    rfl
section
variable {X:Cx} {pins:List (Addr × Obj)} {σ:St} {H:Hp} {s:Shared} {ρ:Tk}
mutual
theorem rep_same:∀ {p q:PV} {x:V} {n:Nat},Ye n p=true->Ye n q=true->Rep H ρ p x->Rep H ρ q x->peq p q=true
  | .non,q,x,n,_,gq,h1,h2=>by
    cases h1
    cases q <;> first | rfl | (cases n <;> cases gq; done) | (cases h2; done) | (obtain ⟨_,_,e,_⟩:=h2; cases e) | (obtain ⟨_,_,e⟩:=h2; cases e)
  | .bl b,q,x,n,_,gq,h1,h2=>by
    cases h1
    cases q <;> first | (cases n <;> cases gq; done) | (cases h2; simp [peq]; done) | (obtain ⟨_,_,e,_⟩:=h2; done) | (obtain ⟨_,_,e,_⟩:=h2; cases e; done) | (obtain ⟨_,_,e⟩:=h2; cases e)
  | .int b,q,x,n,_,gq,h1,h2=>by
    cases h1
    cases q <;> first | (cases n <;> cases gq; done) | (cases h2; simp [peq]; done) | (obtain ⟨_,_,e,_⟩:=h2; done) | (obtain ⟨_,_,e,_⟩:=h2; cases e; done) | (obtain ⟨_,_,e⟩:=h2; cases e)
  | .str b,q,x,n,_,gq,h1,h2=>by
    cases h1
    cases q <;> first | (cases n <;> cases gq; done) | (cases h2; simp [peq]; done) | (obtain ⟨_,_,e,_⟩:=h2; done) | (obtain ⟨_,_,e,_⟩:=h2; cases e; done) | (obtain ⟨_,_,e⟩:=h2; cases e)
  | .tup ps,q,x,0,gp,_,_,_=>by cases gp
  | .tup ps,q,x,n + 1,gp,gq,⟨a,vs,e,ha,_,r⟩,h2=>by
    subst e
    cases q with
    | tup qs=>
      obtain ⟨b,us,e,hb,_,r2⟩:=h2
      cases e
      rw [ha] at hb; cases hb
      rw [peq]
      exact Wx gp gq r r2
    | lst qs=>obtain ⟨b,us,e,hb,_⟩:=h2; cases e; rw [ha] at hb; cases hb
    | fro qs=>obtain ⟨b,us,e,hb,_⟩:=h2; cases e; rcases hb with hb | ⟨o,hb⟩ <;> (rw [ha] at hb; cases hb)
    | ref i=>cases gq
    | dic=>cases gq
    | _=>cases h2
  | .lst ps,q,x,0,gp,_,_,_=>by cases gp
  | .lst ps,q,x,n + 1,gp,gq,⟨a,vs,e,ha,_,r⟩,h2=>by
    subst e
    cases q with
    | lst qs=>
      obtain ⟨b,us,e,hb,_,r2⟩:=h2
      cases e
      rw [ha] at hb; cases hb
      rw [peq]
      exact Wx gp gq r r2
    | tup qs=>obtain ⟨b,us,e,hb,_⟩:=h2; cases e; rw [ha] at hb; cases hb
    | fro qs=>
      obtain ⟨b,us,e,hb,_,r2⟩:=h2
      cases e
      rcases hb with hb | ⟨o,hb⟩
      · rw [ha] at hb; cases hb
        rw [peq]
        exact Wx gp gq r r2
      · rw [ha] at hb; cases hb
    | ref i=>cases gq
    | dic=>cases gq
    | _=>cases h2
  | .fro ps,q,x,0,gp,_,_,_=>by cases gp
  | .fro ps,q,x,n + 1,gp,gq,⟨a,vs,e,ha,_,r⟩,h2=>by
    subst e
    cases q with
    | lst qs=>
      obtain ⟨b,us,e,hb,_,r2⟩:=h2
      cases e
      rcases ha with ha | ⟨o,ha⟩
      · rw [ha] at hb; cases hb
        rw [peq]
        exact Wx gp gq r r2
      · rw [ha] at hb; cases hb
    | tup qs=>obtain ⟨b,us,e,hb,_⟩:=h2; cases e; rcases ha with ha | ⟨o,ha⟩ <;> (rw [ha] at hb; cases hb)
    | fro qs=>
      obtain ⟨b,us,e,hb,_,r2⟩:=h2
      cases e
      have:vs=us:=by
        rcases ha with ha | ⟨o,ha⟩ <;> rcases hb with hb | ⟨o',hb⟩ <;> (rw [ha] at hb; cases hb) <;> rfl
      subst this
      rw [peq]
      exact Wx gp gq r r2
    | ref i=>cases gq
    | dic=>cases gq
    | _=>cases h2
  | .ref i,_,_,n,gp,_,_,_=>by cases n <;> cases gp
  | .dic,_,_,n,gp,_,_,_=>by cases n <;> cases gp
theorem Wx:∀ {ps qs:List PV} {vs:List V} {n:Nat},ps.all (Ye n)=true->qs.all (Ye n)=true->RepL H ρ ps vs->RepL H ρ qs vs->U9 ps qs=true
  | [],qs,vs,n,_,_,h1,h2=>by
    cases h1
    cases qs with
    | nil=>rfl
    | cons q qs=>obtain ⟨_,_,e,_⟩:=h2; cases e
  | p :: ps,qs,vs,n,g1,g2,⟨v,r,e,h1,h1'⟩,h2=>by
    subst e
    cases qs with
    | nil=>cases h2
    | cons q qs=>
      obtain ⟨_,_,e,h2,h2'⟩:=h2
      cases e
      rw [List.all_cons,Bool.and_eq_true] at g1 g2
      rw [U9,rep_same g1.1 g2.1 h1 h2,Wx g1.2 g2.2 h1' h2']; rfl
end
inductive Kd (H:Hp) (ρ:Tk) (s:Shared):PV->Value->Prop where
  | non:Kd H ρ s .non .none
  | bl (b):Kd H ρ s (.bl b) (.bool b)
  | int (i t):Kd H ρ s (.int i) (.int i t)
  | str (x t):Kd H ρ s (.str x) (.str x t)
  | tup (ps a) (vs:List V) (its:List Value):H a=some (.tup vs)->RepL H ρ ps vs->Vals vs its->s.heap.IsTuple a its.toArray->Kd H ρ s (.tup ps) (.ref a)
  | lst (p ps a) (vs:List V) (its:List Value):(p=.lst ps\/p=.fro ps)->RepL H ρ ps vs->Vals vs its->s.heap.IsList a its.toArray->Kd H ρ s p (.ref a)
theorem kd_of {p:PV} {x:V} {u:Value} {n:Nat} (I:Inv X pins σ H s) (g:Ye n p=true) (r:Rep H ρ p x) (ru:RelV x u):Kd H ρ s p u:=by
  cases p with
  | non=>cases r; cases ru; exact .non
  | bl b=>cases r; cases ru; exact .bl b
  | int i=>cases r; obtain ⟨t,rfl⟩:=ru; exact .int i t
  | str i=>cases r; obtain ⟨t,rfl⟩:=ru; exact .str i t
  | tup ps=>
    obtain ⟨a,vs,rfl,ha,_,rr⟩:=r
    cases ru
    obtain ⟨its,v1,p1,_⟩:=I.tuple (SqT.of (K:=X.K) ha)
    exact .tup ps a vs its ha rr v1 p1
  | lst ps=>
    obtain ⟨a,vs,rfl,ha,_,rr⟩:=r
    cases ru
    obtain ⟨its,v1,p1,_⟩:=I.list (SqL.of (K:=X.K) ha)
    exact .lst _ ps a vs its (.inl rfl) rr v1 p1.isList
  | fro ps=>
    obtain ⟨a,vs,rfl,ha,_,rr⟩:=r
    cases ru
    obtain ⟨its,v1,p1,_⟩:=I.list (show SqL X.K H a vs from .inl ha)
    exact .lst _ ps a vs its (.inr rfl) rr v1 p1.isList
  | ref i=>cases n <;> cases g
  | dic=>cases n <;> cases g
theorem xh {ps:List PV} {vs:List V} {its:List Value} (r:RepL H ρ ps vs) (v:Vals vs its) {j:Nat} (h:j < its.length):∃ x,Rep H ρ (ps.getD j .non) x/\RelV x its[j]:=by
  have l1:=r.length
  have l2:=v.length
  have hj:j < ps.length:=by omega
  obtain ⟨x,e1,e2⟩:=r.get (O2 hj)
  obtain ⟨u,e3,e4⟩:=v.get e1
  rw [O2 h] at e3; cases e3
  refine ⟨x,?_,e4⟩
  rw [List.getD,O2 hj]
  exact e2
theorem Ki {ps:List PV} {n:Nat} (g:ps.all (Ye n)=true) (j:Nat) (hj:j < ps.length):Ye n (ps.getD j .non)=true:=by
  rw [List.getD,O2 hj]
  exact (F9.mp g) _ (List.getElem_mem hj)
theorem peqL_range {ps qs:List PV}:((List.range (min ps.length qs.length)).all (fun j=>peq (ps.getD j .non) (qs.getD j .non)) && ps.length == qs.length)=U9 ps qs:=by
  by_cases e:ps.length=qs.length
  · rw [Q0p e,<- e,Nat.min_self,beq_self_eq_true,Bool.and_true]
  · rw [Q0n e,beq_eq_false_iff_ne.mpr e,Bool.and_false]
theorem eqAts:∀ (n:Nat) {A:Around} {p q:PV} {x y:V} {u v:Value},Inv X pins σ H s->Ye n p=true->Ye n q=true->A.units + n < cLine->Rep H ρ p x->RelV x u->Rep H ρ q y->RelV y v ->
    EqAt A s u v (peq p q)/\RcAt A s u v (peq p q)/\RcNeAt A s u v (!peq p q):=by
  intro n
  induction n with
  | zero=>
    intro A p q x y u v I gp gq hu rp ru rq rv
    have k1:=kd_of I gp rp ru
    have k2:=kd_of I gq rq rv
    have hu:A.units < cLine:=by omega
    cases k1 with
    | tup=>cases gp
    | lst p ps a vs its h=>rcases h with rfl | rfl <;> cases gp
    | non=>cases k2 with
      | tup=>cases gq
      | lst p ps a vs its h=>rcases h with rfl | rfl <;> cases gq
      | non=>exact ⟨EqAt.same _,RcAt.none_none,RcNeAt.none_none⟩
      | bl b=>exact ⟨EqAt.none_bool _,RcAt.none_bool _,RcNeAt.none_bool _⟩
      | int i t=>exact ⟨EqAt.none_int _ _,RcAt.none_int _ _,RcNeAt.none_int _ _⟩
      | str i t=>exact ⟨EqAt.none_str _ _,RcAt.none_str _ _,RcNeAt.none_str _ _⟩
    | bl a=>cases k2 with
      | tup=>cases gq
      | lst p ps a vs its h=>rcases h with rfl | rfl <;> cases gq
      | non=>exact ⟨EqAt.bool_none _,RcAt.bool_none _,RcNeAt.bool_none _⟩
      | bl b=>exact ⟨EqAt.bool_bool _ _,RcAt.bool_bool _ _,RcNeAt.bool_bool _ _⟩
      | int i t=>exact ⟨EqAt.bool_int _ _ _,RcAt.bool_int _ _ _,RcNeAt.bool_int _ _ _⟩
      | str i t=>exact ⟨EqAt.bool_str _ _ _,RcAt.bool_str _ _ _,RcNeAt.bool_str _ _ _⟩
    | int a at'=>cases k2 with
      | tup=>cases gq
      | lst p ps a vs its h=>rcases h with rfl | rfl <;> cases gq
      | non=>exact ⟨EqAt.int_none _ _,RcAt.int_none _ _,RcNeAt.int_none _ _⟩
      | bl b=>exact ⟨EqAt.int_bool _ _ _,RcAt.int_bool _ _ _,RcNeAt.int_bool _ _ _⟩
      | int i t=>exact ⟨EqAt.int_int _ _ _ _,RcAt.int_int _ _ _ _,RcNeAt.int_int _ _ _ _⟩
      | str i t=>exact ⟨EqAt.int_str _ _ _ _,RcAt.int_str _ _ _ _,RcNeAt.int_str _ _ _ _⟩
    | str a at'=>cases k2 with
      | tup=>cases gq
      | lst p ps a vs its h=>rcases h with rfl | rfl <;> cases gq
      | non=>exact ⟨EqAt.str_none _ _,RcAt.str_none _ _,RcNeAt.str_none _ _⟩
      | bl b=>exact ⟨EqAt.str_bool _ _ _,RcAt.str_bool _ _ _,RcNeAt.str_bool _ _ _⟩
      | int i t=>exact ⟨EqAt.str_int _ _ _ _,RcAt.str_int _ _ _ _,RcNeAt.str_int _ _ _ _⟩
      | str i t=>exact ⟨EqAt.str_str _ _ _ _,RcAt.str_str _ _ _ _,RcNeAt.str_str _ _ _ _⟩
  | succ n ih=>
    intro A p q x y u v I gp gq hu rp ru rq rv
    have k1:=kd_of I gp rp ru
    have k2:=kd_of I gq rq rv
    have hu0:A.units < cLine:=by omega
    have hin:A.in1.units + n < cLine:=by show A.units + 1 + n < cLine; omega
    cases k1 with
    | non=>cases k2 with
      | non=>exact ⟨EqAt.same _,RcAt.none_none,RcNeAt.none_none⟩
      | bl b=>exact ⟨EqAt.none_bool _,RcAt.none_bool _,RcNeAt.none_bool _⟩
      | int i t=>exact ⟨EqAt.none_int _ _,RcAt.none_int _ _,RcNeAt.none_int _ _⟩
      | str i t=>exact ⟨EqAt.none_str _ _,RcAt.none_str _ _,RcNeAt.none_str _ _⟩
      | tup ps a vs its ha r v1 p1=>exact ⟨EqAt.none_tuple p1 hu0,RcAt.none_tuple p1 hu0,RcNeAt.none_tuple p1 hu0⟩
      | lst p ps a vs its h r v1 p1=>rcases h with rfl | rfl <;> exact ⟨EqAt.none_list p1 hu0,RcAt.none_list p1 hu0,RcNeAt.none_list p1 hu0⟩
    | bl a=>cases k2 with
      | non=>exact ⟨EqAt.bool_none _,RcAt.bool_none _,RcNeAt.bool_none _⟩
      | bl b=>exact ⟨EqAt.bool_bool _ _,RcAt.bool_bool _ _,RcNeAt.bool_bool _ _⟩
      | int i t=>exact ⟨EqAt.bool_int _ _ _,RcAt.bool_int _ _ _,RcNeAt.bool_int _ _ _⟩
      | str i t=>exact ⟨EqAt.bool_str _ _ _,RcAt.bool_str _ _ _,RcNeAt.bool_str _ _ _⟩
      | tup ps a vs its ha r v1 p1=>exact ⟨EqAt.bool_tuple _ p1 hu0,RcAt.bool_tuple _ p1 hu0,RcNeAt.bool_tuple _ p1 hu0⟩
      | lst p ps a vs its h r v1 p1=>rcases h with rfl | rfl <;> exact ⟨EqAt.bool_list _ p1 hu0,RcAt.bool_list _ p1 hu0,RcNeAt.bool_list _ p1 hu0⟩
    | int a at'=>cases k2 with
      | non=>exact ⟨EqAt.int_none _ _,RcAt.int_none _ _,RcNeAt.int_none _ _⟩
      | bl b=>exact ⟨EqAt.int_bool _ _ _,RcAt.int_bool _ _ _,RcNeAt.int_bool _ _ _⟩
      | int i t=>exact ⟨EqAt.int_int _ _ _ _,RcAt.int_int _ _ _ _,RcNeAt.int_int _ _ _ _⟩
      | str i t=>exact ⟨EqAt.int_str _ _ _ _,RcAt.int_str _ _ _ _,RcNeAt.int_str _ _ _ _⟩
      | tup ps a vs its ha r v1 p1=>exact ⟨EqAt.int_tuple _ _ p1 hu0,RcAt.int_tuple _ _ p1 hu0,RcNeAt.int_tuple _ _ p1 hu0⟩
      | lst p ps a vs its h r v1 p1=>rcases h with rfl | rfl <;> exact ⟨EqAt.int_list _ _ p1 hu0,RcAt.int_list _ _ p1 hu0,RcNeAt.int_list _ _ p1 hu0⟩
    | str a at'=>cases k2 with
      | non=>exact ⟨EqAt.str_none _ _,RcAt.str_none _ _,RcNeAt.str_none _ _⟩
      | bl b=>exact ⟨EqAt.str_bool _ _ _,RcAt.str_bool _ _ _,RcNeAt.str_bool _ _ _⟩
      | int i t=>exact ⟨EqAt.str_int _ _ _ _,RcAt.str_int _ _ _ _,RcNeAt.str_int _ _ _ _⟩
      | str i t=>exact ⟨EqAt.str_str _ _ _ _,RcAt.str_str _ _ _ _,RcNeAt.str_str _ _ _ _⟩
      | tup ps a vs its ha r v1 p1=>exact ⟨EqAt.str_tuple _ _ p1 hu0,RcAt.str_tuple _ _ p1 hu0,RcNeAt.str_tuple _ _ p1 hu0⟩
      | lst p ps a vs its h r v1 p1=>rcases h with rfl | rfl <;> exact ⟨EqAt.str_list _ _ p1 hu0,RcAt.str_list _ _ p1 hu0,RcNeAt.str_list _ _ p1 hu0⟩
    | tup ps a vs its ha r v1 p1=>cases k2 with
      | non=>exact ⟨EqAt.tuple_none p1 hu0,RcAt.tuple_none p1 hu0,RcNeAt.tuple_none p1 hu0⟩
      | bl b=>exact ⟨EqAt.tuple_bool _ p1 hu0,RcAt.tuple_bool _ p1 hu0,RcNeAt.tuple_bool _ p1 hu0⟩
      | int i t=>exact ⟨EqAt.tuple_int _ _ p1 hu0,RcAt.tuple_int _ _ p1 hu0,RcNeAt.tuple_int _ _ p1 hu0⟩
      | str i t=>exact ⟨EqAt.tuple_str _ _ p1 hu0,RcAt.tuple_str _ _ p1 hu0,RcNeAt.tuple_str _ _ p1 hu0⟩
      | tup qs b us its2 hb r2 v2 p2=>
        have l1:its.toArray.size=ps.length:=by rw [O4,<- v1.length,r.length]
        have l2:its2.toArray.size=qs.length:=by rw [O4,<- v2.length,r2.length]
        have he:∀ j (h1:j < its.toArray.size) (h2:j < its2.toArray.size),EqAt A.in1 s its.toArray[j] its2.toArray[j] (peq (ps.getD j .non) (qs.getD j .non)):=fun j h1 h2=>by
          obtain ⟨x1,a1,b1⟩:=xh r v1 (j:=j) (by simpa using h1)
          obtain ⟨x2,a2,b2⟩:=xh r2 v2 (j:=j) (by simpa using h2)
          exact (ih I (Ki gp j (by omega)) (Ki gq j (by omega)) hin a1 b1 a2 b2).1
        have rc:=RcAt.tuples p1 p2 hu0 he
        have rn:=RcNeAt.tuples p1 p2 hu0 he
        rw [l1,l2,peqL_range] at rc rn
        refine ⟨?_,rc,rn⟩
        by_cases e:a=b
        · subst e
          have:U9 ps qs=true:=by
            rw [ha] at hb; cases hb
            exact Wx gp gq r r2
          show EqAt A s _ _ (U9 ps qs)
          rw [this]
          exact EqAt.same _
        · exact EqAt.of_refs e rc
      | lst q qs b us its2 h r2 v2 p2=>rcases h with rfl | rfl <;> exact ⟨EqAt.tuple_list p1 p2 hu0,RcAt.tuple_list p1 p2 hu0,RcNeAt.tuple_list p1 p2 hu0⟩
    | lst p ps a vs its h r v1 p1=>cases k2 with
      | non=>rcases h with rfl | rfl <;> exact ⟨EqAt.list_none p1 hu0,RcAt.list_none p1 hu0,RcNeAt.list_none p1 hu0⟩
      | bl b=>rcases h with rfl | rfl <;> exact ⟨EqAt.list_bool _ p1 hu0,RcAt.list_bool _ p1 hu0,RcNeAt.list_bool _ p1 hu0⟩
      | int i t=>rcases h with rfl | rfl <;> exact ⟨EqAt.list_int _ _ p1 hu0,RcAt.list_int _ _ p1 hu0,RcNeAt.list_int _ _ p1 hu0⟩
      | str i t=>rcases h with rfl | rfl <;> exact ⟨EqAt.list_str _ _ p1 hu0,RcAt.list_str _ _ p1 hu0,RcNeAt.list_str _ _ p1 hu0⟩
      | tup qs b us its2 hb r2 v2 p2=>rcases h with rfl | rfl <;> exact ⟨EqAt.list_tuple p1 p2 hu0,RcAt.list_tuple p1 p2 hu0,RcNeAt.list_tuple p1 p2 hu0⟩
      | lst q qs b us its2 h2 r2 v2 p2=>
        have l1:its.toArray.size=ps.length:=by rw [O4,<- v1.length,r.length]
        have l2:its2.toArray.size=qs.length:=by rw [O4,<- v2.length,r2.length]
        have gp':ps.all (Ye n)=true:=by rcases h with rfl | rfl <;> exact gp
        have gq':qs.all (Ye n)=true:=by rcases h2 with rfl | rfl <;> exact gq
        have ep:peq p q=U9 ps qs:=by rcases h with rfl | rfl <;> rcases h2 with rfl | rfl <;> rfl
        have he:∀ j (h1:j < its.toArray.size) (h2:j < its2.toArray.size),EqAt A.in1 s its.toArray[j] its2.toArray[j] (peq (ps.getD j .non) (qs.getD j .non)):=fun j h1 h2=>by
          obtain ⟨x1,a1,b1⟩:=xh r v1 (j:=j) (by simpa using h1)
          obtain ⟨x2,a2,b2⟩:=xh r2 v2 (j:=j) (by simpa using h2)
          exact (ih I (Ki gp' j (by omega)) (Ki gq' j (by omega)) hin a1 b1 a2 b2).1
        rw [ep]
        have rcn:RcAt A s (.ref a) (.ref b) (U9 ps qs)/\RcNeAt A s (.ref a) (.ref b) (!U9 ps qs):=by
          by_cases e:ps.length=qs.length
          · have rc:=RcAt.lists p1 p2 (by rw [l1,l2,e]) hu0 he
            have rn:=RcNeAt.lists p1 p2 (by rw [l1,l2,e]) hu0 he
            rw [l1,<- Q0p e] at rc rn
            exact ⟨rc,rn⟩
          · have e':(its.toArray.size != its2.toArray.size)=true:=by rw [l1,l2]; simpa using e
            rw [Q0n e]
            exact ⟨RcAt.lists_lengths p1 p2 e' hu0,RcNeAt.lists_lengths p1 p2 e' hu0⟩
        refine ⟨?_,rcn.1,rcn.2⟩
        by_cases e:a=b
        · subst e
          have eq1:peq p q=true:=by
            have rp':=rp
            have rq':=rq
            have xa:x=.ref a:=by
              rcases h with rfl | rfl <;> (obtain ⟨b',_,rfl,_⟩:=rp; cases ru; rfl)
            have ya:y=.ref a:=by
              rcases h2 with rfl | rfl <;> (obtain ⟨b',_,rfl,_⟩:=rq; cases rv; rfl)
            subst xa; subst ya
            exact rep_same gp gq rp rq
          rw [<- ep,eq1]
          exact EqAt.same _
        · exact EqAt.of_refs e rcn.1
end
end Sm
namespace Sm
open PySem PySem.Spec L2
def lim:Nat:=1000000
theorem lim_le:lim<=sizeLine:=by decide
theorem W2 {n:Nat} (h:n<=lim):n<=sizeLine:=E2 h lim_le
def V3 (st:Q1):PV->Option (List PV)
  | .lst xs=>some xs
  | .ref i=>match st[i]? with
    | some (.lst xs)=>some xs
    | _=>none
  | _=>none
def Wi (st:Q1):PV->Option (List PV)
  | .fro xs=>some xs
  | p=>V3 st p
def Wc (st:Q1):PV->Option (List PV)
  | .tup xs=>some xs
  | p=>Wi st p
def der (st:Q1):PV->PV
  | .ref i=>match st[i]? with
    | some (.lst xs)=>.lst xs
    | _=>.ref i
  | p=>p
section
variable {H:Hp} {ρ:Tk} {st:Q1} {p:PV} {v:V} {xs:List PV}
theorem Q14 (R:Rel H ρ st) (r:Rep H ρ p v) (e:V3 st p=some xs):∃ a vs,v=.ref a/\H a=some (.lst vs)/\RepL H ρ xs vs:=by
  cases p with
  | lst ys=>
    obtain ⟨a,vs,e1,e2,_,e3⟩:=r
    cases e
    exact ⟨a,vs,e1,e2,e3⟩
  | ref i=>
    obtain ⟨a,e1,e2⟩:=r
    simp only [V3] at e
    split at e
    · rename_i ys hs
      cases e
      obtain ⟨b,vs,f1,f2,f3⟩:=R.lst hs
      rw [e1] at f1; cases f1
      exact ⟨a,vs,e2,f2,f3⟩
    · cases e
  | _=>cases e
theorem Kg (R:Rel H ρ st) (r:Rep H ρ p v) (e:Wi st p=some xs):∃ a vs,v=.ref a/\Rd H a (.lst vs)/\RepL H ρ xs vs:=by
  cases p with
  | fro ys=>
    obtain ⟨a,vs,e1,e2,_,e3⟩:=r
    cases e
    exact ⟨a,vs,e1,e2,e3⟩
  | _=>
    obtain ⟨a,vs,e1,e2,e3⟩:=Q14 R r e
    exact ⟨a,vs,e1,.inl e2,e3⟩
theorem qc {K:PySem.W.Frag} (R:Rel H ρ st) (r:Rep H ρ p v) (e:Wc st p=some xs):∃ (t:Bool) (a:Addr) (vs:List V),v=.ref a/\SqK K t H a vs/\RepL H ρ xs vs:=by
  cases p with
  | tup ys=>
    obtain ⟨a,vs,e1,e2,_,e3⟩:=r
    cases e
    exact ⟨true,a,vs,e1,show SqT K H a vs from SqT.of e2,e3⟩
  | _=>
    obtain ⟨a,vs,e1,e2,e3⟩:=Kg R r e
    exact ⟨false,a,vs,e1,show SqL K H a vs from .inl e2,e3⟩
theorem sqK_or {K:PySem.W.Frag} {t:Bool} {a:Addr} {vs:List V} (h:SqK K t H a vs):SqL K H a vs\/SqT K H a vs:=by
  cases t with
  | true=>exact .inr h
  | false=>exact .inl h
mutual
theorem rep_nil:∀ {n:Nat} {q:PV} {u:V},Ye n q=true->Rep H ρ q u->Rep H Tk.nil q u
  | _,.non,_,_,r=>r
  | _,.bl _,_,_,r=>r
  | _,.int _,_,_,r=>r
  | _,.str _,_,_,r=>r
  | 0,.tup _,_,g,_=>by cases g
  | 0,.lst _,_,g,_=>by cases g
  | 0,.fro _,_,g,_=>by cases g
  | n + 1,.tup _,_,g,⟨a,vs,e,h,_,r⟩=>⟨a,vs,e,h,Tk.not_nil _,Vr g r⟩
  | n + 1,.lst _,_,g,⟨a,vs,e,h,_,r⟩=>⟨a,vs,e,h,Tk.not_nil _,Vr g r⟩
  | n + 1,.fro _,_,g,⟨a,vs,e,h,_,r⟩=>⟨a,vs,e,h,Tk.not_nil _,Vr g r⟩
  | 0,.ref _,_,g,_=>by cases g
  | _ + 1,.ref _,_,g,_=>by cases g
  | 0,.dic,_,g,_=>by cases g
  | _ + 1,.dic,_,g,_=>by cases g
theorem Vr:∀ {n:Nat} {qs:List PV} {us:List V},qs.all (Ye n)=true->RepL H ρ qs us->RepL H Tk.nil qs us
  | _,[],_,_,r=>r
  | n,q :: qs,_,g,⟨v,r,e,h1,h2⟩=>by
    rw [List.all_cons,Bool.and_eq_true] at g
    exact ⟨v,r,e,rep_nil g.1 h1,Vr g.2 h2⟩
end
theorem Kk (R:Rel H ρ st) {n:Nat} (g:Ye n (der st p)=true) (r:Rep H ρ p v):Rep H Tk.nil (der st p) v:=by
  cases p with
  | ref i=>
    obtain ⟨a,e1,e2⟩:=r
    simp only [der] at g ⊢
    split at g
    · rename_i ys hs
      obtain ⟨b,vs,f1,f2,f3⟩:=R.lst hs
      rw [e1] at f1; cases f1
      cases n with
      | zero=>cases g
      | succ n=>exact ⟨a,vs,e2,f2,Tk.not_nil _,Vr g f3⟩
    · cases n <;> cases g
  | _=>exact rep_nil g r
theorem Kb {mg:Str->Option Value} {E:XK} {Q:VK} {ps:List PV} {vs:List V} (R:Rel H ρ st) (h:Acc mg E H ρ (QV Q) (.ok (.tup ps) st)) (r:RepL H ρ ps vs):∀ p,H p=none->Q (.ref p) (upd H p (.tup vs)):=
  fun p hp=>h _ ρ (Ext.add hp) (R.add hp) _ ⟨p,vs,rfl,Qb,R.fresh hp,r.ext (Ext.add hp)⟩
theorem Kc {mg:Str->Option Value} {E:XK} {Q:VK} {ps:List PV} {vs:List V} (R:Rel H ρ st) (h:Acc mg E H ρ (QV Q) (.ok (.lst ps) st)) (r:RepL H ρ ps vs):∀ p,H p=none->Q (.ref p) (upd H p (.lst vs)):=
  fun p hp=>h _ ρ (Ext.add hp) (R.add hp) _ ⟨p,vs,rfl,Qb,R.fresh hp,r.ext (Ext.add hp)⟩
theorem now {mg:Str->Option Value} {E:XK} {Q:VK} {p:PV} (R:Rel H ρ st) (h:Acc mg E H ρ (QV Q) (.ok p st)) (r:Rep H ρ p v):Q v H:=h H ρ (Ext.refl _ _) R v r
end
section
variable {X:Cx} {E:XK} {pos:Pos}
def Q4 (i:Nat):ME:=fun Γ st=>match Γ[i]? with
  | some (some p)=>.ok p st
  | _=>.stuck
def mC (p:PV):ME:=fun _ st=>.ok p st
theorem Q0 (i:Nat) {x:Str} (hN:X.N[i]?=some x:=by rfl) (hv:Vis X.env.scope x:=by first | exact Or.inl rfl | exact Or.inr (Or.inl rfl) | exact Or.inr (Or.inr rfl)) (hd:(x == ("__debug__" : Str))=false:=by decide)
    (hcd:(x == ("__classdict__" : Str))=false:=by decide):SimE X E (.Name x pos) (Q4 i):=⟨fun Γ σ H ρ st Q R G h=>WE.of (pe_var hN hv hd hcd) (by
  unfold Q4 at h
  split at h
  · rename_i p e
    obtain ⟨v,e1,r⟩:=G.2 i p e
    exact ⟨v,e1,now R h r⟩
  · exact h.elim)⟩
theorem Q8 {i:Int} {j:Nat}:SimE X E (.Constant (.int i) j pos) (mC (.int i)):=⟨fun Γ σ H ρ st Q R G h=>WE.of pe_int (now R h rfl)⟩
theorem Ui {b:Bool} {j:Nat}:SimE X E (.Constant (.bool b) j pos) (mC (.bl b)):=⟨fun Γ σ H ρ st Q R G h=>WE.of pe_bl (now R h rfl)⟩
theorem Ws {j:Nat}:SimE X E (.Constant .none j pos) (mC .non):=⟨fun Γ σ H ρ st Q R G h=>WE.of pe_non (now R h rfl)⟩
theorem Uy {x:Str} {j:Nat}:SimE X E (.Constant (.str x) j pos) (mC (.str x)):=⟨fun Γ σ H ρ st Q R G h=>WE.of pe_str (now R h rfl)⟩
theorem se_gint {x:Str} {i:Int} {t:Tok} (hg:Gl X x) (hm:X.mg x=some (.int i t)) (hd:(x == ("__debug__" : Str))=false:=by decide):SimE X E (.Name x pos) (mC (.int i)):=
  ⟨fun Γ σ H ρ st Q R G h=>WE.of (Y0 hg hm (v:=.int i) ⟨t,rfl⟩ hd) (now R h rfl)⟩
variable {a b c:Expr} {ma mb mc:ME}
def mOp (o:OP) (ma mb:ME):ME:=fun Γ st=>(ma Γ st).bind fun x st1=>(mb Γ st1).bind fun y st2=>o st2 x y
theorem bin_run {f:Value->Value->Sem Value} {o:OP} {Γ:Gam} {σ:St} {H:Hp} {ρ:Tk} {st:Q1} {P:PV->Q1->Hp->Tk->Prop} {Q:VK} (ho:OpS X E f o) (ha:SimE X E a ma) (hb:SimE X E b mb) (R:Rel H ρ st) (G:EnvR H ρ Γ σ) (h:Acc X.mg E H ρ P (mOp o ma mb Γ st))
    (k:∀ p st1 H1 ρ1 v,Ext H ρ H1 ρ1->Rel H1 ρ1 st1->Rep H1 ρ1 p v->P p st1 H1 ρ1->Q v H1):tOp (WO X f) (WE X a) (WE X b) σ H Q:=by
  refine ha.use R G h.bind fun p st1 H1 ρ1 v x1 R1 G1 r1 h1=>?_
  refine hb.use R1 G1 h1.bind fun q st2 H2 ρ2 u x2 R2 G2 r2 h2=>?_
  exact ho.use R2 (r1.ext x2) r2 h2 fun w st3 H3 ρ3 z x3 R3 r3 p3=>k w st3 H3 ρ3 z (x1.trans (x2.trans x3)) R3 r3 p3
theorem J6 {op:Operator} {o:OP} (ho:OpS X E (binaryOp op) o) (ha:SimE X E a ma) (hb:SimE X E b mb):SimE X E (.BinOp a op b pos) (mOp o ma mb):=
  ⟨fun Γ σ H ρ st Q R G h=>WE.of (pe_op op_w Zf Zf) (bin_run ho ha hb R G h fun _ _ _ _ v _ _ r q=>q v r)⟩
theorem U8 {op:CmpOp} {o:OP} (ho:OpS X E (compareOp op) o) (ha:SimE X E a ma) (hb:SimE X E b mb) (hm:behindInMarks op b=false:=by first | exact nomark _ | rfl):SimE X E (.Compare a [op] [b] pos) (mOp o ma mb):=
  ⟨fun Γ σ H ρ st Q R G h=>WE.of (pe_cmpR op_w Zf Zf hm) (bin_run ho ha hb R G h fun _ _ _ _ v _ _ r q=>q v r)⟩
def asB (p:PV) (st:Q1):Res Bool:=match p with
  | .bl k=>.ok k st
  | _=>.stuck
def toB (m:ME):Gam->Q1->Res Bool:=fun Γ st=>(m Γ st).bind asB
theorem acc_b {mg:Str->Option Value} {H:Hp} {ρ:Tk} {st:Q1} {p:PV} {v:V} {P:Bool->Q1->Hp->Tk->Prop} (R:Rel H ρ st) (r:Rep H ρ p v) (h:Acc mg E H ρ P (asB p st)):∃ k,v=.bl k/\P k st H ρ:=by
  cases p with
  | bl k=>exact ⟨k,r,h H ρ (Ext.refl _ _) R⟩
  | _=>exact h.elim
theorem Jd {op:CmpOp} {o:OP} (ho:OpS X E (compareOp op) o) (ha:SimE X E a ma) (hb:SimE X E b mb) (hm:behindInMarks op b=false:=by first | exact nomark _ | rfl):SimT X E (.Compare a [op] [b] pos) (toB (mOp o ma mb)):=
  ⟨fun Γ σ H ρ st Q R G h=>WT.of (pt_cmpR op_w Zf Zf hm) (bin_run ho ha hb R G h.bind fun _ st1 _ _ v _ R1 r q=>by
    obtain ⟨k,e,z⟩:=acc_b R1 r q
    exact ⟨k,e,z⟩)⟩
theorem Uw {e:Expr} {m:ME} (h:SimE X E e m) (he:∀ whole,isTrue e X.env whole=(do let v <- whole; standAt e.pos; holding [v] (truthy v)):=by intro _; rfl):SimT X E e (toB m):=
  ⟨fun Γ σ H ρ st Q R G hq=>WT.of (pt_val Zf he) (h.use R G hq.bind fun p st1 H1 ρ1 v x1 R1 G1 r1 h1=>by
    obtain ⟨k,e,z⟩:=acc_b R1 r1 h1
    exact ⟨k,e,z⟩)⟩
def Xx (o o':OP) (ma mb mc:ME):ME:=fun Γ st=>(ma Γ st).bind fun x st1=>(mb Γ st1).bind fun y st2=>(o st2 x y).bind fun k st3=>match k with
  | .bl true=>(mc Γ st3).bind fun z st4=>o' st4 y z
  | .bl false=>.ok (.bl false) st3
  | _=>.stuck
theorem chain_run {op op':CmpOp} {o o':OP} {Γ:Gam} {σ:St} {H:Hp} {ρ:Tk} {st:Q1} {P:PV->Q1->Hp->Tk->Prop} {Q:VK} (ho:OpS X E (compareOp op) o) (ho':OpS X E (compareOp op') o') (ha:SimE X E a ma) (hb:SimE X E b mb) (hc:SimE X E c mc) (R:Rel H ρ st) (G:EnvR H ρ Γ σ) (h:Acc X.mg E H ρ P (Xx o o' ma mb mc Γ st))
    (k:∀ p st1 H1 ρ1 v,Ext H ρ H1 ρ1->Rel H1 ρ1 st1->Rep H1 ρ1 p v->P p st1 H1 ρ1->Q v H1):tChain (WO X (compareOp op)) (WO X (compareOp op')) (WE X a) (WE X b) (WE X c) σ H Q:=by
  refine ha.use R G h.bind fun p st1 H1 ρ1 v x1 R1 G1 r1 h1=>?_
  refine hb.use R1 G1 h1.bind fun q st2 H2 ρ2 u x2 R2 G2 r2 h2=>?_
  refine ho.use R2 (r1.ext x2) r2 h2.bind fun w st3 H3 ρ3 z x3 R3 r3 h3=>?_
  cases w with
  | bl b=>
    refine ⟨b,r3,?_⟩
    cases b with
    | true=>
      rw [if_pos rfl]
      refine hc.use R3 (G2.ext x3) h3.bind fun y st4 H4 ρ4 yv x4 R4 G4 r4 h4=>?_
      exact ho'.use R4 (r2.ext (x3.trans x4)) r4 h4 fun w st5 H5 ρ5 z x5 R5 r5 p5=>k w st5 H5 ρ5 z (x1.trans (x2.trans (x3.trans (x4.trans x5)))) R5 r5 p5
    | false=>
      rw [if_neg O9]
      exact k (.bl false) _ H3 ρ3 _ (x1.trans (x2.trans x3)) R3 rfl (h3 H3 ρ3 (Ext.refl _ _) R3)
  | _=>exact h3.elim
theorem se_chain {op op':CmpOp} {o o':OP} (ho:OpS X E (compareOp op) o) (ho':OpS X E (compareOp op') o') (ha:SimE X E a ma) (hb:SimE X E b mb) (hc:SimE X E c mc) (hm:lastMarks [op,op'] [b,c]=false:=by with_unfolding_all rfl):SimE X E (.Compare a [op,op'] [b,c] pos) (Xx o o' ma mb mc):=
  ⟨fun Γ σ H ρ st Q R G h=>WE.of (pe_chain op_w op_w Zf Zf Zf hm) (chain_run ho ho' ha hb hc R G h fun _ _ _ _ v _ _ r q=>q v r)⟩
theorem st_chain {op op':CmpOp} {o o':OP} (ho:OpS X E (compareOp op) o) (ho':OpS X E (compareOp op') o') (ha:SimE X E a ma) (hb:SimE X E b mb) (hc:SimE X E c mc) (hm:lastMarks [op,op'] [b,c]=false:=by with_unfolding_all rfl):SimT X E (.Compare a [op,op'] [b,c] pos) (toB (Xx o o' ma mb mc)):=
  ⟨fun Γ σ H ρ st Q R G h=>WT.of (pt_chain op_w op_w Zf Zf Zf hm) (chain_run ho ho' ha hb hc R G h.bind fun _ st1 _ _ v _ R1 r q=>by
    obtain ⟨k,e,z⟩:=acc_b R1 r q
    exact ⟨k,e,z⟩)⟩
variable {rest:List Expr}
def Q13 (ma mb:ME):ME:=fun Γ st=>(ma Γ st).bind fun x st1=>match x with
  | .bl true=>mb Γ st1
  | .bl false=>.ok (.bl false) st1
  | _=>.stuck
def mNot (ma:ME):ME:=fun Γ st=>(ma Γ st).bind fun x st1=>match x with
  | .bl k=>.ok (.bl (!k)) st1
  | _=>.stuck
theorem Xg {op:BoolOp} (ha:SimE X E a ma):SimE X E (.BoolOp op [a] pos) ma:=⟨fun Γ σ H ρ st Q R G h=>WE.of (pe_one Zf) (ha.use R G h fun _ _ _ _ v _ _ _ r q=>q v r)⟩
theorem Xh (ha:SimE X E a ma) (hb:SimE X E (.BoolOp .And (b :: rest) pos) mb):SimE X E (.BoolOp .And (a :: b :: rest) pos) (Q13 ma mb):=
  ⟨fun Γ σ H ρ st Q R G h=>WE.of (pe_and Zf Zf) (ha.use R G h.bind fun p st1 H1 ρ1 v x1 R1 G1 r1 h1=>by
    cases p with
    | bl k=>
      refine ⟨k,r1,?_⟩
      cases k with
      | true=>rw [if_pos rfl]; exact hb.use R1 G1 h1 fun _ _ _ _ v _ _ _ r q=>q v r
      | false=>rw [if_neg O9]; exact now R1 h1 rfl
    | _=>exact h1.elim)⟩
theorem se_not (ha:SimE X E a ma):SimE X E (.UnaryOp .Not a pos) (mNot ma):=
  ⟨fun Γ σ H ρ st Q R G h=>WE.of (pe_not Zf) (ha.use R G h.bind fun p st1 H1 ρ1 v x1 R1 G1 r1 h1=>by
    cases p with
    | bl k=>exact ⟨k,r1,now R1 h1 rfl⟩
    | _=>exact h1.elim)⟩
def mNeg (ma:ME):ME:=fun Γ st=>(ma Γ st).bind fun x st1=>match x with
  | .int k=>.ok (.int (-k)) st1
  | _=>.stuck
theorem se_neg (ha:SimE X E a ma):SimE X E (.UnaryOp .USub a pos) (mNeg ma):=
  ⟨fun Γ σ H ρ st Q R G h=>WE.of (pe_un un_neg Zf) (ha.use R G h.bind fun p st1 H1 ρ1 v x1 R1 G1 r1 h1=>by
    cases p with
    | int k=>exact ⟨k,r1,now R1 h1 rfl⟩
    | _=>exact h1.elim)⟩
abbrev MT:=Gam->Q1->Res Bool
variable {ta tb:MT}
def Q02 (ta tb:MT):MT:=fun Γ st=>(ta Γ st).bind fun k st1=>if k=true then tb Γ st1 else .ok false st1
def tOrM (ta tb:MT):MT:=fun Γ st=>(ta Γ st).bind fun k st1=>if k=true then .ok true st1 else tb Γ st1
def Xe (ta:MT):MT:=fun Γ st=>(ta Γ st).bind fun k st1=>.ok (!k) st1
theorem SimW.t {e:Expr} (h:SimW X E e ta):SimT X E e ta:=⟨fun Γ σ H ρ st Q R G q pins s I=>h.run Γ σ H ρ st Q R G q _ pins s I⟩
theorem sw_and1 (ha:SimT X E a ta):SimW X E (.BoolOp .And [a] pos) ta:=⟨fun Γ σ H ρ st Q R G h=>WW.of (pw_and1 pt_w) (ha.use R G h fun _ _ _ _ _ _ _ q=>q)⟩
theorem sw_or1 (ha:SimT X E a ta):SimW X E (.BoolOp .Or [a] pos) ta:=⟨fun Γ σ H ρ st Q R G h=>WW.of (pw_or1 pt_w) (ha.use R G h fun _ _ _ _ _ _ _ q=>q)⟩
theorem sw_and (ha:SimT X E a ta) (hb:SimW X E (.BoolOp .And (b :: rest) pos) tb):SimW X E (.BoolOp .And (a :: b :: rest) pos) (Q02 ta tb):=
  ⟨fun Γ σ H ρ st Q R G h=>WW.of (pw_and pt_w pw_w) (ha.use R G h.bind fun k st1 H1 ρ1 x1 R1 G1 h1=>by
    cases k with
    | true=>rw [if_pos rfl] at h1 ⊢; exact hb.use R1 G1 h1 fun _ _ _ _ _ _ _ q=>q
    | false=>rw [if_neg O9] at h1 ⊢; exact h1 H1 ρ1 (Ext.refl _ _) R1)⟩
theorem sw_or (ha:SimT X E a ta) (hb:SimW X E (.BoolOp .Or (b :: rest) pos) tb):SimW X E (.BoolOp .Or (a :: b :: rest) pos) (tOrM ta tb):=
  ⟨fun Γ σ H ρ st Q R G h=>WW.of (pw_or pt_w pw_w) (ha.use R G h.bind fun k st1 H1 ρ1 x1 R1 G1 h1=>by
    cases k with
    | true=>rw [if_pos rfl] at h1 ⊢; exact h1 H1 ρ1 (Ext.refl _ _) R1
    | false=>rw [if_neg O9] at h1 ⊢; exact hb.use R1 G1 h1 fun _ _ _ _ _ _ _ q=>q)⟩
theorem Ux (ha:SimT X E a ta):SimT X E (.UnaryOp .Not a pos) (Xe ta):=
  ⟨fun Γ σ H ρ st Q R G h=>WT.of (pt_not pt_w) (ha.use R G h.bind fun k st1 H1 ρ1 x1 R1 G1 h1=>h1 H1 ρ1 (Ext.refl _ _) R1)⟩
def mIf (tc:MT) (ma mb:ME):ME:=fun Γ st=>(tc Γ st).bind fun k st1=>if k=true then ma Γ st1 else mb Γ st1
theorem se_if (hc:SimT X E c ta) (ha:SimE X E a ma) (hb:SimE X E b mb):SimE X E (.IfExp c a b pos) (mIf ta ma mb):=
  ⟨fun Γ σ H ρ st Q R G h=>WE.of (pe_ifExp pt_w Zf Zf) (hc.use R G h.bind fun k st1 H1 ρ1 x1 R1 G1 h1=>by
    cases k with
    | true=>rw [if_pos rfl] at h1 ⊢; exact ha.use R1 G1 h1 fun _ _ _ _ v _ _ _ r q=>q v r
    | false=>rw [if_neg O9] at h1 ⊢; exact hb.use R1 G1 h1 fun _ _ _ _ v _ _ _ r q=>q v r)⟩
variable {e:Expr} {es:List Expr} {m:ME} {mr:Gam->Q1->Res (List PV)}
def Qc:Gam->Q1->Res (List PV):=fun _ st=>.ok [] st
def Q3 (m:ME) (mr:Gam->Q1->Res (List PV)):Gam->Q1->Res (List PV):=fun Γ st=>(m Γ st).bind fun p st1=>(mr Γ st1).bind fun ps st2=>.ok (p :: ps) st2
theorem Q5:SimA X E [] Qc:=⟨fun Γ σ H ρ st Q R G h=>WA.of Ju (h H ρ (Ext.refl _ _) R [] rfl)⟩
theorem Q2 (ha:SimE X E e m) (hr:SimA X E es mr) (hs:starEach (e :: es) X.env=(false,eval e X.env) :: starEach es X.env:=by rfl):SimA X E (e :: es) (Q3 m mr):=
  ⟨fun Γ σ H ρ st Q R G h=>WA.of (Qm Zf Q0q hs) (ha.use R G h.bind fun p st1 H1 ρ1 v x1 R1 G1 r1 h1=>hr.use R1 G1 h1.bind fun ps st2 H2 ρ2 vs x2 R2 G2 r2 h2=>
    h2 H2 ρ2 (Ext.refl _ _) R2 (v :: vs) ⟨v,vs,rfl,r1.ext x2,r2⟩)⟩
def Wp (mr:Gam->Q1->Res (List PV)):ME:=fun Γ st=>(mr Γ st).bind fun ps st1=>if ps.length<=lim then .ok (.tup ps) st1 else .stuck
def U4 (mr:Gam->Q1->Res (List PV)):ME:=fun Γ st=>(mr Γ st).bind fun ps st1=>if ps.length<=lim then .ok (.lst ps) st1 else .stuck
theorem Yg {k:Nat} (h:SimA X E es mr):SimE X E (.Tuple es k pos) (Wp mr):=
  ⟨fun Γ σ H ρ st Q R G hq=>WE.of (pe_tup Q0q) (h.use R G hq.bind fun ps st1 H1 ρ1 vs x1 R1 G1 r1 h1=>by
    by_cases hl:ps.length<=lim
    · rw [if_pos hl] at h1
      exact ⟨by rw [<- r1.length]; exact W2 hl,Kb R1 h1 r1⟩
    · rw [if_neg hl] at h1; exact h1.elim)⟩
theorem Vq (h:SimA X E es mr):SimE X E (.List es pos) (U4 mr):=
  ⟨fun Γ σ H ρ st Q R G hq=>WE.of (pe_lst Q0q) (h.use R G hq.bind fun ps st1 H1 ρ1 vs x1 R1 G1 r1 h1=>by
    by_cases hl:ps.length<=lim
    · rw [if_pos hl] at h1
      exact ⟨by rw [<- r1.length]; exact W2 hl,Kc R1 h1 r1⟩
    · rw [if_neg hl] at h1; exact h1.elim)⟩
end
end Sm
namespace HT
open PySem PySem.Spec PyProof.Rows
section
variable {prog:Program} {w:World} {A:Around} {E:Value->Shared->Prop} {s:Shared}
theorem getItem_tuple_whole {t sl:Addr} {items:Array Value} {vl vu:Value} {lo hi:Option Int} {Q:Value->Shared->Prop} (ht:IsTup s.heap t items) (hs:s.heap.IsSliceOf sl vl vu .none) (pl:IsPart vl lo) (pu:IsPart vu hi)
    (hw:sIx items.size 0 lo=0/\sIx items.size items.size hi=items.size)
    (h:Q (.ref t) s):wpAny (model prog w) A (getItem (.ref t) (.ref sl)) Q E s:=by
  obtain ⟨os,hos,hcs,hds⟩:=id hs
  have hTs:s.TypeIs (.ref sl) "slice" := ⟨os,hos,hcs⟩
  unfold getItem
  try with_reducible refine wpAny_holding ?_
  first | refine wpAny_bind (wpAny_pure ?_) | skip
  refine wpAny_bind (wpAny_sequenceKey ht.typeIs (by decide) ?_)
  refine wpAny_bind (wpAny_callSpecial?_slot (name:=Str.ofString "__getitem__") ht.typeIs PyProof.Rows.slot_tuple_getitem
    (wpAny_call_entry PyProof.Rows.slot_tuple_getitem ht.typeIs entry_tuple_getitem ?_ (args_tuple_getitem _ _)))
  show wpAny _ _ (Builtin.Tuple.tupleItemsOf (.ref t) >>= _) _ _ s
  refine wpAny_bind (tupleItemsOf_ ht ?_)
  refine wpAny_bind (wpAny_typeOf hTs ?_)
  rw [if_pos (by decide)]
  refine wpAny_bind (Uh hs pl pu ?_)
  have hyes:(((sIx items.size 0 lo:Nat):Int) == 0 && (1:Int) == 1 && (sIx items.size items.size hi - sIx items.size 0 lo) == items.size)=true:=by
    rw [hw.1,hw.2]; simp
  show wpAny _ _ (if (((sIx items.size 0 lo:Nat):Int) == 0 && (1:Int) == 1 && (sIx items.size items.size hi - sIx items.size 0 lo) == items.size)=true then _ else _) _ _ s
  rw [if_pos hyes]
  refine wpAny_bind (wpAny_bind (wpAny_typeOf ht.typeIs (wpAny_pure ?_)))
  rw [if_pos (by rfl)]
  exact wpAny_bind (wpAny_rule (wpAny_pure ⟨_,rfl,wpAny_pure h⟩))
end
end HT
namespace L2
open PySem PySem.Spec PyProof.Rows
def rSlW (K:PySem.W.Frag):V->Option Int->Option Int->Hp->VK->Prop:=fun x lo hi H Q=>∃ a xs,x=.ref a/\SqT K H a xs /\
  (HT.sIx xs.length 0 lo=0/\HT.sIx xs.length xs.length hi=xs.length)/\Q (.ref a) H
theorem sl_whole {X:Cx}:SlR X (rSlW X.K):=by
  intro pins s σ H x v vl vu lo hi sl Q I rx hs pl pu h
  obtain ⟨a,xs,rfl,hx,hw,q⟩:=h
  cases rx
  obtain ⟨its,r,ht,hz⟩:=I.tuple hx
  have hlen:its.toArray.size=xs.length:=by rw [O4]; exact r.length.symm
  refine ⟨"tuple",_,PyProof.Rows.slot_tuple_getitem.lookup,ht.typeIs,?_⟩
  exact HT.getItem_tuple_whole ht hs pl pu (by rw [hlen]; exact hw) ⟨.ref a,H,I,rfl,q⟩
end L2
namespace Sm
open PySem PySem.Spec L2
section
variable {X:Cx} {E:XK} {pos:Pos}
def oI (g:Int->Int->PV):OP:=fun st p q=>match p,q with
  | .int a,.int b=>.ok (g a b) st
  | _,_=>.stuck
def Zg:OP:=fun st p q=>match p,q with
  | .int a,.int b=>.ok (.int (a + b)) st
  | .str a,.str b=>if a.length + b.length<=lim then .ok (.str (a ++ b)) st else .stuck
  | .tup xs,.tup ys=>if xs.length + ys.length<=lim then .ok (.tup (xs ++ ys)) st else .stuck
  | p,q=>match V3 st p,V3 st q with
    | some xs,some ys=>if xs.length + ys.length<=lim then .ok (.lst (xs ++ ys)) st else .stuck
    | _,_=>.stuck
theorem Jv:OpS X E (binaryOp .Add) Zg:=⟨fun H ρ st p q x y Q R rp rq h=>by
  unfold Zg at h
  split at h
  · cases rp; cases rq
    exact WO.of op_add ⟨_,_,rfl,rfl,now R h rfl⟩
  · cases rp; cases rq
    split at h
    · rename_i hl
      exact WO.of op_add_str ⟨_,_,rfl,rfl,W2 hl,now R h rfl⟩
    · exact h.elim
  · split at h
    · rename_i xs ys hl
      obtain ⟨a,vs,rfl,ha,na,ra⟩:=rp
      obtain ⟨b,us,rfl,hb,nb,rb⟩:=rq
      refine WO.of op_cat2 ?_
      by_cases e:xs=[]
      · subst e
        cases ra
        exact .inr ⟨a,b,us,rfl,rfl,SqT.of ha,SqT.of hb,now R h ⟨b,us,rfl,hb,nb,rb⟩⟩
      · refine .inl ⟨a,b,vs,us,rfl,rfl,SqT.of ha,SqT.of hb,fun z=>e ?_,by rw [<- ra.length,<- rb.length]; exact W2 hl,fun z=>?_,fun z=>Kb R h (ra.append rb)⟩
        · subst z
          cases xs with
          | nil=>rfl
          | cons _ _=>have:=ra.length; simp at this
        · subst z
          have:ys=[]:=by
            cases ys with
            | nil=>rfl
            | cons _ _=>have:=rb.length; simp at this
          subst this
          rw [F6] at h
          exact now R h ⟨a,vs,rfl,ha,na,ra⟩
    · exact h.elim
  · split at h
    · rename_i xs ys e1 e2
      split at h
      · rename_i hl
        obtain ⟨a,vs,rfl,ha,ra⟩:=Q14 R rp e1
        obtain ⟨b,us,rfl,hb,rb⟩:=Q14 R rq e2
        exact WO.of zc ⟨a,b,vs,us,rfl,rfl,ha,hb,by rw [<- ra.length,<- rb.length]; exact W2 hl,Kc R h (ra.append rb)⟩
      · exact h.elim
    · exact h.elim⟩
theorem os_sub:OpS X E (binaryOp .Sub) (oI fun a b=>.int (a - b)):=⟨fun H ρ st p q x y Q R rp rq h=>by
  unfold oI at h
  split at h
  · cases rp; cases rq
    exact WO.of op_sub ⟨_,_,rfl,rfl,now R h rfl⟩
  · exact h.elim⟩
def Um:OP:=fun st p q=>match p,q with
  | .int a,.int b=>if (-(2 ^ 64) < a/\a < 2 ^ 64)\/(-(2 ^ 64) < b/\b < 2 ^ 64) then .ok (.int (a * b)) st else .stuck
  | .tup xs,.int b=>if xs≠[]/\1<=b/\xs.length * b.toNat<=4096 then .ok (.tup (List.replicate b.toNat xs).flatten) st else .stuck
  | p,.int b=>match V3 st p with
    | some xs=>if -(2 ^ 63)<=b/\b < 2 ^ 63/\xs.length * b.toNat<=lim then .ok (.lst (List.replicate b.toNat xs).flatten) st else .stuck
    | none=>.stuck
  | _,_=>.stuck
theorem Ua:OpS X E (binaryOp .Mult) Um:=⟨fun H ρ st p q x y Q R rp rq h=>by
  unfold Um at h
  split at h
  · cases rp; cases rq
    split at h
    · rename_i hc
      exact WO.of op_mul ⟨_,_,rfl,rfl,hc,now R h rfl⟩
    · exact h.elim
  · cases rq
    split at h
    · rename_i xs b hc
      obtain ⟨a,vs,rfl,ha,na,ra⟩:=rp
      refine WO.of op_repT ⟨a,b,vs,rfl,rfl,SqT.of ha,fun z=>hc.1 ?_,hc.2.1,by rw [<- ra.length]; exact hc.2.2,fun z=>?_,fun z=>Kb R h (ra.rep _)⟩
      · subst z
        cases xs with
        | nil=>rfl
        | cons _ _=>have:=ra.length; simp at this
      · subst z
        have e1:(List.replicate (Int.toNat 1) xs).flatten=xs:=by simp
        rw [e1] at h
        exact now R h ⟨a,vs,rfl,ha,na,ra⟩
    · exact h.elim
  · cases rq
    split at h
    · rename_i xs e1
      split at h
      · rename_i hc
        obtain ⟨a,vs,rfl,ha,ra⟩:=Q14 R rp e1
        exact WO.of op_rep ⟨a,_,vs,rfl,rfl,ha,hc.1,hc.2.1,by rw [<- ra.length]; exact W2 hc.2.2,Kc R h (ra.rep _)⟩
      · exact h.elim
    · exact h.elim
  · exact h.elim⟩
def je:OP:=fun st p q=>match p,q with
  | .int a,.int b=>if 0 < b then .ok (.int (a % b)) st else .stuck
  | _,_=>.stuck
theorem qe:OpS X E (binaryOp .Mod) je:=⟨fun H ρ st p q x y Q R rp rq h=>by
  unfold je at h
  split at h
  · cases rp; cases rq
    split at h
    · rename_i hc
      exact WO.of op_mod ⟨_,_,rfl,rfl,hc,now R h rfl⟩
    · exact h.elim
  · exact h.elim⟩
def oPow:OP:=fun st p q=>match p,q with
  | .int a,.int b=>if 0<=b/\b<=1000000/\a.natAbs < 2 ^ 64 then .ok (.int (a ^ b.toNat)) st else .stuck
  | _,_=>.stuck
theorem os_pow:OpS X E (binaryOp .Pow) oPow:=⟨fun H ρ st p q x y Q R rp rq h=>by
  unfold oPow at h
  split at h
  · cases rp; cases rq
    split at h
    · rename_i hc
      exact WO.of op_pow ⟨_,_,rfl,rfl,hc,now R h rfl⟩
    · exact h.elim
  · exact h.elim⟩
theorem oI_cmp {op:CmpOp} {g:Int->Int->Bool} (ho:OpR X (compareOp op) (rI0 fun i j=>.bl (g i j))):OpS X E (compareOp op) (oI fun a b=>.bl (g a b)):=⟨fun H ρ st p q x y Q R rp rq h=>by
  unfold oI at h
  split at h
  · cases rp; cases rq
    exact WO.of ho ⟨_,_,rfl,rfl,now R h rfl⟩
  · exact h.elim⟩
theorem Q0s:OpS X E (compareOp .LtE) (oI fun a b=>.bl (decide (a<=b))):=oI_cmp op_le
theorem os_gt:OpS X E (compareOp .Gt) (oI fun a b=>.bl (decide (b < a))):=oI_cmp op_gt
theorem os_ge:OpS X E (compareOp .GtE) (oI fun a b=>.bl (decide (b<=a))):=oI_cmp op_ge
def Ub:List PV->Option (List Int)
  | []=>some []
  | .int i :: ps=>(Ub ps).map (i :: ·)
  | _ :: _=>none
def yg:List PV->Option (List Bool)
  | []=>some []
  | .bl i :: ps=>(yg ps).map (i :: ·)
  | _ :: _=>none
theorem ints_map (ns:List Int):Ub (ns.map .int)=some ns:=by
  induction ns with
  | nil=>rfl
  | cons n ns ih=>rw [D0,Ub,ih]; rfl
theorem bls_map (ns:List Bool):yg (ns.map .bl)=some ns:=by
  induction ns with
  | nil=>rfl
  | cons n ns ih=>rw [D0,yg,ih]; rfl
theorem xg:∀ {ps:List PV} {ns:List Int},Ub ps=some ns->ps=ns.map .int
  | [],ns,h=>by cases h; rfl
  | .int i :: ps,ns,h=>by
    rw [Ub] at h
    cases e:Ub ps with
    | none=>rw [e] at h; cases h
    | some ms=>rw [e] at h; cases h; rw [xg e]; rfl
  | .non :: _,_,h | .bl _ :: _,_,h | .str _ :: _,_,h | .tup _ :: _,_,h | .lst _ :: _,_,h | .fro _ :: _,_,h | .ref _ :: _,_,h | .dic :: _,_,h=>by cases h
theorem bls_eq:∀ {ps:List PV} {ns:List Bool},yg ps=some ns->ps=ns.map .bl
  | [],ns,h=>by cases h; rfl
  | .bl i :: ps,ns,h=>by
    rw [yg] at h
    cases e:yg ps with
    | none=>rw [e] at h; cases h
    | some ms=>rw [e] at h; cases h; rw [bls_eq e]; rfl
  | .non :: _,_,h | .int _ :: _,_,h | .str _ :: _,_,h | .tup _ :: _,_,h | .lst _ :: _,_,h | .fro _ :: _,_,h | .ref _ :: _,_,h | .dic :: _,_,h=>by cases h
def oLt:OP:=fun st p q=>match p,q with
  | .int a,.int b=>.ok (.bl (decide (a < b))) st
  | .tup xs,.tup ys=>match Ub xs,Ub ys with
    | some ns,some ms=>.ok (.bl (HT.lexLt ns ms)) st
    | _,_=>.stuck
  | _,_=>.stuck
theorem Q0r (hu:X.A.units + 64 < cLine):OpS X E (compareOp .Lt) oLt:=⟨fun H ρ st p q x y Q R rp rq h=>by
  unfold oLt at h
  split at h
  · cases rp; cases rq
    exact WO.of op_lt ⟨_,_,rfl,rfl,now R h rfl⟩
  · split at h
    · rename_i ns ms e1 e2
      obtain ⟨a,vs,rfl,ha,na,ra⟩:=rp
      obtain ⟨b,us,rfl,hb,nb,rb⟩:=rq
      rw [xg e1] at ra
      rw [xg e2] at rb
      rw [ra.toInts] at ha
      rw [rb.toInts] at hb
      exact WO.of (op_ltT (by omega)) ⟨a,b,ns,ms,rfl,rfl,SqT.of ha,SqT.of hb,now R h rfl⟩
    · exact h.elim
  · exact h.elim⟩
def dep:Nat:=12
def oEq:OP:=fun st p q=>if Ye dep (der st p)=true/\Ye dep (der st q)=true then .ok (.bl (peq (der st p) (der st q))) st else .stuck
def oNe:OP:=fun st p q=>if Ye dep (der st p)=true/\Ye dep (der st q)=true then .ok (.bl (!peq (der st p) (der st q))) st else .stuck
theorem os_eq (hu:X.A.units + 64 < cLine):OpS X E (compareOp .Eq) oEq:=⟨fun H ρ st p q x y Q R rp rq h=>by
  unfold oEq at h
  split at h
  · rename_i g
    intro pins s σ v u I rv ru
    exact (eqAts dep I g.1 g.2 (by unfold dep; omega) (Kk R g.1 rp) rv (Kk R g.2 rq) ru).2.1 _ _ _ _ ⟨.bl _,H,I,rfl,now R h rfl⟩
  · exact h.elim⟩
theorem y8 (hu:X.A.units + 64 < cLine):OpS X E (compareOp .NotEq) oNe:=⟨fun H ρ st p q x y Q R rp rq h=>by
  unfold oNe at h
  split at h
  · rename_i g
    intro pins s σ v u I rv ru
    exact (eqAts dep I g.1 g.2 (by unfold dep; omega) (Kk R g.1 rp) rv (Kk R g.2 rq) ru).2.2 _ _ _ _ ⟨.bl _,H,I,rfl,now R h rfl⟩
  · exact h.elim⟩
def Kx:PV->Bool
  | .non=>true
  | _=>false
theorem isNon_rep {H:Hp} {ρ:Tk} {p:PV} {x:V} (r:Rep H ρ p x):decide (x=.non)=Kx p:=by
  cases p with
  | non=>cases r; rfl
  | bl _=>cases r; rfl
  | int _=>cases r; rfl
  | str _=>cases r; rfl
  | tup _=>obtain ⟨_,_,rfl,_⟩:=r; rfl
  | lst _=>obtain ⟨_,_,rfl,_⟩:=r; rfl
  | fro _=>obtain ⟨_,_,rfl,_⟩:=r; rfl
  | ref _=>obtain ⟨_,_,rfl⟩:=r; rfl
  | dic=>obtain ⟨_,rfl,_⟩:=r; rfl
def oIs:OP:=fun st p q=>match q with
  | .non=>.ok (.bl (Kx p)) st
  | .bl c=>match p with
    | .bl b=>.ok (.bl (b == c)) st
    | _=>.stuck
  | _=>.stuck
def qf:OP:=fun st p q=>match q with
  | .non=>.ok (.bl (!Kx p)) st
  | .bl c=>match p with
    | .bl b=>.ok (.bl (b != c)) st
    | _=>.stuck
  | _=>.stuck
theorem os_is:OpS X E (compareOp .Is) oIs:=⟨fun H ρ st p q x y Q R rp rq h=>by
  unfold oIs at h
  split at h
  · cases rq
    refine WO.of op_isN ⟨rfl,?_⟩
    rw [isNon_rep rp]
    exact now R h rfl
  · split at h
    · cases rp; cases rq
      exact WO.of op_is_bl ⟨_,_,rfl,rfl,now R h rfl⟩
    · exact h.elim
  · exact h.elim⟩
theorem Q0t:OpS X E (compareOp .IsNot) qf:=⟨fun H ρ st p q x y Q R rp rq h=>by
  unfold qf at h
  split at h
  · cases rq
    refine WO.of op_notN ⟨rfl,?_⟩
    rw [isNon_rep rp]
    exact now R h rfl
  · split at h
    · cases rp; cases rq
      exact WO.of op_isnot_bl ⟨_,_,rfl,rfl,now R h rfl⟩
    · exact h.elim
  · exact h.elim⟩
def oIn (neg:Bool):OP:=fun st p q=>match Wc st q with
  | some xs=>if Ye dep (der st p)=true/\xs.all (Ye dep)=true then .ok (.bl ((xs.any fun y=>peq y (der st p)) != neg)) st else .stuck
  | none=>.stuck
open Classical in
theorem in_items {pins:List (Addr × Obj)} {σ:St} {H:Hp} {ρ:Tk} {s:Shared} {A:Around} {st:Q1} {p:PV} {xs:List PV} {x:V} {v:Value} {vs:List V} {its:List Value} (I:Inv X pins σ H s) (hu:A.units + dep < cLine) (R:Rel H ρ st)
    (gp:Ye dep (der st p)=true) (gx:xs.all (Ye dep)=true) (rp:Rep H ρ p x) (rv:RelV x v) (ra:RepL H ρ xs vs) (vi:Vals vs its):∃ e:Value->Bool,(∀ u,u∈its.toArray->SeqAt.EqAt A s u v (e u))/\its.toArray.any e=xs.any fun y=>peq y (der st p):=by
  have key:∀ u∈its,∃ q∈xs,∃ y,Rep H Tk.nil q y/\RelV y u:=fun u hu=>by
    obtain ⟨j,hj,rfl⟩:=List.getElem_of_mem hu
    have l1:=vi.length
    have l2:=ra.length
    obtain ⟨y,e1,e2⟩:=(Vr gx ra).get (O2 (show j < xs.length by omega))
    obtain ⟨w,e3,e4⟩:=vi.get e1
    rw [O2 hj] at e3; cases e3
    exact ⟨_,List.getElem_mem _,y,e2,e4⟩
  refine ⟨fun u=>decide (∃ q∈xs,∃ y,Rep H Tk.nil q y/\RelV y u/\peq q (der st p)=true),fun u hm=>?_,?_⟩
  · have hm':u∈its:=by simpa using hm
    by_cases z:∃ q∈xs,∃ y,Rep H Tk.nil q y/\RelV y u/\peq q (der st p)=true
    · show SeqAt.EqAt A s u v (decide _)
      rw [decide_eq_true z]
      obtain ⟨q,hq,y,r1,r2,e⟩:=z
      have:=(eqAts dep I ((F9.mp gx) q hq) gp hu r1 r2 (Kk R gp rp) rv).1
      rw [e] at this
      exact this
    · show SeqAt.EqAt A s u v (decide _)
      rw [decide_eq_false z]
      obtain ⟨q,hq,y,r1,r2⟩:=key u hm'
      have:=(eqAts dep I ((F9.mp gx) q hq) gp hu r1 r2 (Kk R gp rp) rv).1
      cases e:peq q (der st p) with
      | true=>exact absurd ⟨q,hq,y,r1,r2,e⟩ z
      | false=>rw [e] at this; exact this
  · rw [Bool.eq_iff_iff,Array.any_eq_true,List.any_eq_true]
    constructor
    · rintro ⟨j,hj,e⟩
      obtain ⟨q,hq,y,r1,r2,e⟩:=of_decide_eq_true e
      exact ⟨q,hq,e⟩
    · rintro ⟨q,hq,e⟩
      obtain ⟨j,hj,rfl⟩:=List.getElem_of_mem hq
      have l1:=vi.length
      have l2:=ra.length
      have hj':j < its.length:=by omega
      obtain ⟨y,e1,e2⟩:=(Vr gx ra).get (O2 hj)
      obtain ⟨w,e3,e4⟩:=vi.get e1
      refine ⟨j,by simpa using hj',decide_eq_true ⟨_,hq,y,e2,?_,e⟩⟩
      rw [O2 hj'] at e3; cases e3
      simpa using e4
theorem os_notin (hu:X.A.units + 64 < cLine):OpS X E (compareOp .NotIn) (oIn true):=⟨fun H ρ st p q x y Q R rp rq h=>by
  unfold oIn at h
  split at h
  · rename_i xs es
    split at h
    · rename_i g
      obtain ⟨t,a,vs,rfl,hq,ra⟩:=qc (K:=X.K) R rq es
      intro pins s σ v u I rv ru
      cases ru
      rw [Bool.bne_true] at h
      cases t with
      | true=>
        obtain ⟨its,r,pl,hz⟩:=I.tuple hq
        obtain ⟨e,he,ea⟩:=in_items (A:=X.A.in1) I (by show X.A.units + 1 + dep < cLine; unfold dep; omega) R g.1 g.2 rp rv ra r
        refine SeqAt.notIn_tupleAt e pl he ⟨.bl _,H,I,rfl,?_⟩
        rw [ea]
        exact now R h rfl
      | false=>
        obtain ⟨its,r,pl,hz⟩:=I.list hq
        obtain ⟨e,he,ea⟩:=in_items (A:=X.A.in1) I (by show X.A.units + 1 + dep < cLine; unfold dep; omega) R g.1 g.2 rp rv ra r
        refine SeqAt.notIn_listAt e pl.isList he ⟨.bl _,H,I,rfl,?_⟩
        rw [ea]
        exact now R h rfl
    · exact h.elim
  · exact h.elim⟩
end
end Sm
namespace Sm
open PySem PySem.Spec L2
section
variable {H:Hp} {ρ:Tk}
theorem RepL.atI {ps:List PV} {vs:List V} {i:Int} {p:PV} (r:RepL H ρ ps vs) (e:atI ps i=some p):∃ v,L2.atI vs i=some v/\Rep H ρ p v:=by
  unfold L2.atI at e ⊢
  rw [<- r.length]
  cases q:ixN ps.length i with
  | none=>rw [q] at e; cases e
  | some j=>
    rw [q] at e
    exact r.get e
def cut {α:Type} (xs:List α) (lo hi:Option Int):List α:=(xs.drop (HT.sIx xs.length 0 lo)).take (HT.sIx xs.length xs.length hi - HT.sIx xs.length 0 lo)
theorem RepL.cut {ps:List PV} {vs:List V} (r:RepL H ρ ps vs) (lo hi:Option Int):RepL H ρ (Sm.cut ps lo hi) (cutV vs lo hi):=by
  unfold Sm.cut cutV
  rw [<- r.length]
  exact (r.drop _).take _
end
section
variable {X:Cx} {E:XK} {pos:Pos} {a b:Expr} {ma mb:ME}
def oIx:OP:=fun st p q=>match Wc st p,q with
  | some xs,.int i=>okO st (atI xs i)
  | _,_=>.stuck
theorem Z9 (ha:SimE X E a ma) (hb:SimE X E b mb) (hs:PlainIx b:=by exact fun _ _=>rfl):SimE X E (.Subscript a b pos) (mOp oIx ma mb):=
  ⟨fun Γ σ H ρ st Q R G h=>WE.of (pe_ix ix_seq Zf Zf hs) (ha.use R G h.bind fun p st1 H1 ρ1 v x1 R1 G1 r1 h1=>hb.use R1 G1 h1.bind fun q st2 H2 ρ2 u x2 R2 G2 r2 h2=>by
    unfold oIx at h2
    split at h2
    · rename_i xs i e
      cases r2
      cases ea:atI xs i with
      | none=>rw [ea] at h2; exact h2.elim
      | some w=>
        rw [ea] at h2
        obtain ⟨t,b,vs,rfl,hq,ra⟩:=qc (K:=X.K) R2 (r1.ext x2) e
        obtain ⟨z,ez,rz⟩:=ra.atI ea
        cases t with
        | true=>exact .inr (.inl ⟨b,vs,i,z,rfl,rfl,hq,ez,now R2 h2 rz⟩)
        | false=>exact .inl ⟨b,vs,i,z,rfl,rfl,hq,ez,now R2 h2 rz⟩
    · exact h2.elim)⟩
structure SimO (X:Cx) (E:XK) (o:Option Expr) (m:Gam->Q1->Res (Option Int)):Prop where
  run:∀ (Γ:Gam) (σ:St) (H:Hp) (ρ:Tk) (st:Q1) (P:Option Int->Q1->Hp->Tk->Prop) (Q:Option Int->Hp->Prop),Rel H ρ st->EnvR H ρ Γ σ->Acc X.mg E H ρ P (m Γ st) ->
    (∀ i st1 H1 ρ1,Ext H ρ H1 ρ1->Rel H1 ρ1 st1->EnvR H1 ρ1 Γ σ->P i st1 H1 ρ1->Q i H1)->∃ t,PO X o t/\t σ H Q
def xf:Gam->Q1->Res (Option Int):=fun _ st=>.ok none st
def mPart (m:ME):Gam->Q1->Res (Option Int):=fun Γ st=>(m Γ st).bind fun p st1=>match p with
  | .int i=>.ok (some i) st1
  | _=>.stuck
theorem so_none:SimO X E none xf:=⟨fun Γ σ H ρ st P Q R G h k=>⟨_,po_none,k none st H ρ (Ext.refl _ _) R G (h H ρ (Ext.refl _ _) R)⟩⟩
theorem yw (ha:SimE X E a ma):SimO X E (some a) (mPart ma):=⟨fun Γ σ H ρ st P Q R G h k=>⟨_,po_some Zf,ha.use R G h.bind fun p st1 H1 ρ1 v x1 R1 G1 r1 h1=>by
  cases p with
  | int i=>exact ⟨i,r1,k (some i) st1 H1 ρ1 x1 R1 G1 (h1 H1 ρ1 (Ext.refl _ _) R1)⟩
  | _=>exact h1.elim⟩⟩
def oSl (st:Q1) (p:PV) (lo hi:Option Int):Res PV:=match p with
  | .tup xs=>.ok (.tup (cut xs lo hi)) st
  | p=>match Wi st p with
    | some xs=>.ok (.lst (cut xs lo hi)) st
    | none=>.stuck
def mSl (ma:ME) (ml mh:Gam->Q1->Res (Option Int)):ME:=fun Γ st=>(ma Γ st).bind fun p st1=>(ml Γ st1).bind fun lo st2=>(mh Γ st2).bind fun hi st3=>oSl st3 p lo hi
def TO.w (X:Cx) (o:Option Expr):TO:=fun σ H Q=>∃ t,PO X o t/\t σ H Q
theorem po_w {o:Option Expr}:PO X o (TO.w X o):=fun pins s σ H Q I ⟨t,h,q⟩=>h pins s σ H Q I q
theorem Q08 {lo hi:Option Expr} {ml mh:Gam->Q1->Res (Option Int)} {p2:Pos} (ha:SimE X E a ma) (hl:SimO X E lo ml) (hh:SimO X E hi mh):SimE X E (.Subscript a (.Slice lo hi none p2) pos) (mSl ma ml mh):=
  ⟨fun Γ σ H ρ st Q R G h=>WE.of (pe_slice (sl_tup.or (sl_whole.or sl_list)) Zf po_w po_w) (ha.use R G h.bind fun p st1 H1 ρ1 v x1 R1 G1 r1 h1=>by
    refine hl.run Γ σ H1 ρ1 st1 _ _ R1 G1 h1.bind fun l st2 H2 ρ2 x2 R2 G2 h2=>?_
    refine hh.run Γ σ H2 ρ2 st2 _ _ R2 G2 h2.bind fun u st3 H3 ρ3 x3 R3 G3 h3=>?_
    have r3:=r1.ext (x2.trans x3)
    unfold oSl at h3
    split at h3
    · rename_i xs
      obtain ⟨a,vs,rfl,ha,na,ra⟩:=r3
      by_cases hw:HT.sIx vs.length 0 l=0/\HT.sIx vs.length vs.length u=vs.length
      · refine .inr (.inl ⟨a,vs,rfl,SqT.of ha,hw,?_⟩)
        have e:cut xs l u=xs:=by
          unfold cut
          rw [ra.length,hw.1,hw.2,List.drop_zero,Nat.sub_zero,<- ra.length,List.take_length]
        rw [e] at h3
        exact now R3 h3 ⟨a,vs,rfl,ha,na,ra⟩
      · exact .inl ⟨a,vs,rfl,SqT.of ha,hw,Kb R3 h3 (ra.cut l u)⟩
    · split at h3
      · rename_i xs e
        obtain ⟨a,vs,rfl,ha,ra⟩:=Kg R3 r3 e
        exact .inr (.inr ⟨a,vs,rfl,.inl ha,Kc R3 h3 (ra.cut l u)⟩)
      · exact h3.elim)⟩
variable {es:List Expr} {e:Expr} {mr:Gam->Q1->Res (List PV)}
def Jh (o:CF) (mr:Gam->Q1->Res (List PV)):ME:=fun Γ st=>(mr Γ st).bind fun ps st1=>o st1 ps
theorem CallS.use {f:Value} {o:CF} (s:CallS X E f o) {P:PV->Q1->Hp->Tk->Prop} {Q:VK} {H:Hp} {ρ:Tk} {st:Q1} {ps:List PV} {xs:List V} (R:Rel H ρ st) (rp:RepL H ρ ps xs) (h:Acc X.mg E H ρ P (o st ps))
    (k:∀ p st1 H1 ρ1 v,Ext H ρ H1 ρ1->Rel H1 ρ1 st1->Rep H1 ρ1 p v->P p st1 H1 ρ1->Q v H1):WC X f xs H Q:=by
  refine s.run H ρ st ps xs Q R rp ?_
  cases r:o st ps with
  | ok p st1=>rw [r] at h; exact fun H' ρ' x' R' v rv=>k p st1 H' ρ' v x' R' rv (h H' ρ' x' R')
  | exc e st=>rw [r] at h; exact h
  | stuck=>rw [r] at h; exact h
theorem J7 {id:String} {x:Str} {p:Pos} {o:CF} (hc:CallS X E (.builtin id) o) (hg:Gl X x) (hm:X.mg x=none) (hv:bootBuiltins x=some (.builtin id)) (ha:SimA X E (e :: es) mr) (hn:x≠"__name__" := by decide) (hdb:(x == ("__debug__" : Str))=false:=by decide)
    (he:starEach (e :: es) X.env=(false,eval e X.env) :: starEach es X.env:=by rfl) (hpl:(backTo pos (starEach es X.env)).any (·.1)=false:=by rfl):SimE X E (.Call (.Name x p) (e :: es) [] pos) (Jh o mr):=
  ⟨fun Γ σ H ρ st Q R G h=>WE.of (Jt call_w hg hm hv Q0q hn hdb he hpl) (ha.use R G h.bind fun ps st1 H1 ρ1 vs x1 R1 G1 r1 h1=>hc.use R1 r1 h1 fun _ _ _ _ v _ _ r q=>q v r)⟩
theorem qz {T:String} {x:Str} {p:Pos} {o:CF} (hc:CallS X E (.type T) o) (hg:Gl X x) (hm:X.mg x=none) (hv:bootBuiltins x=some (.type T)) (ha:SimA X E (e :: es) mr) (hn:x≠"__name__" := by decide) (hdb:(x == ("__debug__" : Str))=false:=by decide)
    (he:starEach (e :: es) X.env=(false,eval e X.env) :: starEach es X.env:=by rfl) (hpl:(backTo pos (starEach es X.env)).any (·.1)=false:=by rfl):SimE X E (.Call (.Name x p) (e :: es) [] pos) (Jh o mr):=
  ⟨fun Γ σ H ρ st Q R G h=>WE.of (Q2i call_w hg hm hv Q0q hn hdb he hpl) (ha.use R G h.bind fun ps st1 H1 ρ1 vs x1 R1 G1 r1 h1=>hc.use R1 r1 h1 fun _ _ _ _ v _ _ r q=>q v r)⟩
theorem Zw {H:Hp} {ρ:Tk} {p:PV} {xs:List V} (r:RepL H ρ [p] xs):∃ v,xs=[v]/\Rep H ρ p v:=by
  obtain ⟨v,t,rfl,h1,h2⟩:=r
  cases h2
  exact ⟨v,rfl,h1⟩
theorem j9 {H:Hp} {ρ:Tk} {p q:PV} {xs:List V} (r:RepL H ρ [p,q] xs):∃ v u,xs=[v,u]/\Rep H ρ p v/\Rep H ρ q u:=by
  obtain ⟨v,t,rfl,h1,h2⟩:=r
  obtain ⟨u,rfl,h3⟩:=Zw h2
  exact ⟨v,u,rfl,h1,h3⟩
def Yk:CF:=fun st ps=>match ps with
  | [p]=>match Wc st p with
    | some xs=>.ok (.int xs.length) st
    | none=>match p with
      | .str x=>if x.length<=lim then .ok (.int x.length) st else .stuck
      | _=>.stuck
  | _=>.stuck
theorem Yu:CallS X E (.builtin "len") Yk:=⟨fun H ρ st ps xs Q R rp h=>by
  unfold Yk at h
  split at h
  · rename_i p
    obtain ⟨v,rfl,r⟩:=Zw rp
    split at h
    · rename_i ys e
      obtain ⟨t,a,vs,rfl,hq,ra⟩:=qc (K:=X.K) R r e
      rw [ra.length] at h
      exact WC.of call_len_seq ⟨a,vs,rfl,sqK_or hq,now R h rfl⟩
    · split at h
      · cases r
        split at h
        · rename_i hl
          exact WC.of call_len_str ⟨_,rfl,W2 hl,now R h rfl⟩
        · exact h.elim
      · exact h.elim
  · exact h.elim⟩
def X9 (g:List Int->Option PV):CF:=fun st ps=>match ps with
  | [p]=>match (Wc st p).bind Ub with
    | some ns=>okO st (g ns)
    | none=>.stuck
  | _=>.stuck
def Kr (g:List Bool->PV):CF:=fun st ps=>match ps with
  | [p]=>match (Wc st p).bind yg with
    | some ns=>.ok (g ns) st
    | none=>.stuck
  | _=>.stuck
theorem ints_at' {K:PySem.W.Frag} {H:Hp} {ρ:Tk} {st:Q1} {p:PV} {v:V} {ns:List Int} (R:Rel H ρ st) (r:Rep H ρ p v) (e:(Wc st p).bind Ub=some ns):∃ (t:Bool) (a:Addr),v=.ref a/\SqK K t H a (ns.map V.int):=by
  cases q:Wc st p with
  | none=>rw [q] at e; cases e
  | some xs=>
    rw [q] at e
    obtain ⟨t,a,vs,rfl,hq,ra⟩:=qc (K:=K) R r q
    rw [xg e] at ra
    rw [ra.toInts] at hq
    exact ⟨t,a,rfl,hq⟩
theorem bls_at' {K:PySem.W.Frag} {H:Hp} {ρ:Tk} {st:Q1} {p:PV} {v:V} {ns:List Bool} (R:Rel H ρ st) (r:Rep H ρ p v) (e:(Wc st p).bind yg=some ns):∃ (t:Bool) (a:Addr),v=.ref a/\SqK K t H a (ns.map V.bl):=by
  cases q:Wc st p with
  | none=>rw [q] at e; cases e
  | some xs=>
    rw [q] at e
    obtain ⟨t,a,vs,rfl,hq,ra⟩:=qc (K:=K) R r q
    rw [bls_eq e] at ra
    rw [ra.toBls] at hq
    exact ⟨t,a,rfl,hq⟩
theorem cs_sum (hc:X.calm=true):CallS X E (.builtin "sum") (X9 fun ns=>some (.int ns.sum)):=⟨fun H ρ st ps xs Q R rp h=>by
  unfold X9 at h
  split at h
  · obtain ⟨v,rfl,r⟩:=Zw rp
    split at h
    · rename_i ns e
      obtain ⟨t,a,rfl,hq⟩:=ints_at' (K:=X.K) R r e
      exact WC.of (call_sum t hc) ⟨a,ns,rfl,hq,now R h rfl⟩
    · exact h.elim
  · exact h.elim⟩
theorem Q1i (hc:X.calm=true):CallS X E (.builtin "all") (Kr fun ns=>.bl (ns.all id)):=⟨fun H ρ st ps xs Q R rp h=>by
  unfold Kr at h
  split at h
  · obtain ⟨v,rfl,r⟩:=Zw rp
    split at h
    · rename_i ns e
      obtain ⟨t,a,rfl,hq⟩:=bls_at' (K:=X.K) R r e
      exact WC.of (call_all t hc) ⟨a,ns,rfl,hq,now R h rfl⟩
    · exact h.elim
  · exact h.elim⟩
theorem cs_any (hc:X.calm=true):CallS X E (.builtin "any") (Kr fun ns=>.bl (ns.any id)):=⟨fun H ρ st ps xs Q R rp h=>by
  unfold Kr at h
  split at h
  · obtain ⟨v,rfl,r⟩:=Zw rp
    split at h
    · rename_i ns e
      obtain ⟨t,a,rfl,hq⟩:=bls_at' (K:=X.K) R r e
      exact WC.of (call_any t hc) ⟨a,ns,rfl,hq,now R h rfl⟩
    · exact h.elim
  · exact h.elim⟩
def maxI:List Int->Option Int
  | []=>none
  | n :: ns=>some (ns.foldl (fun a b=>if b > a then b else a) n)
def minI:List Int->Option Int
  | []=>none
  | n :: ns=>some (ns.foldl (fun a b=>if b < a then b else a) n)
theorem foldl_min:∀ (ns:List Int) (n:Int),(ns.foldl (fun a b=>if b < a then b else a) n=n\/ns.foldl (fun a b=>if b < a then b else a) n∈ns)/\ns.foldl (fun a b=>if b < a then b else a) n<=n/\∀ k∈ns,ns.foldl (fun a b=>if b < a then b else a) n<=k
  | [],n=>⟨.inl rfl,Int.le_refl _,fun k h=>by cases h⟩
  | m :: ns,n=>by
    obtain ⟨h1,h2,h3⟩:=foldl_min ns (if m < n then m else n)
    rw [List.foldl_cons]
    refine ⟨?_,?_,fun k hk=>?_⟩
    · rcases h1 with e | e
      · by_cases hm:m < n
        · rw [if_pos hm] at e ⊢; exact .inr (by rw [e]; exact E4)
        · rw [if_neg hm] at e ⊢; exact .inl e
      · exact .inr (D4 _ e)
    · by_cases hm:m < n
      · rw [if_pos hm] at h2 ⊢; omega
      · rw [if_neg hm] at h2 ⊢; exact h2
    · rcases D6.mp hk with rfl | hk
      · by_cases hm:k < n
        · rw [if_pos hm] at h2 ⊢; exact h2
        · rw [if_neg hm] at h2 ⊢; omega
      · exact h3 k hk
def cMax:CF:=fun st ps=>match ps with
  | [.int a,.int b]=>.ok (.int (if b > a then b else a)) st
  | ps=>X9 (fun ns=>(maxI ns).map .int) st ps
def cMin:CF:=fun st ps=>match ps with
  | [.int a,.int b]=>.ok (.int (if b < a then b else a)) st
  | ps=>X9 (fun ns=>(minI ns).map .int) st ps
theorem cs_min (hc:X.calm=true):CallS X E (.builtin "min") cMin:=⟨fun H ρ st ps xs Q R rp h=>by
  unfold cMin at h
  split at h
  · obtain ⟨v,u,rfl,r1,r2⟩:=j9 rp
    cases r1; cases r2
    exact WC.of (call_min2 hc) ⟨_,_,rfl,now R h rfl⟩
  · unfold X9 at h
    split at h
    · obtain ⟨v,rfl,r⟩:=Zw rp
      split at h
      · rename_i ns e
        cases ns with
        | nil=>exact h.elim
        | cons n ns=>
          obtain ⟨t,a,rfl,hq⟩:=ints_at' (K:=X.K) R r e
          refine WC.of (call_minL t hc) ⟨a,_,rfl,hq,by simp,fun m hm hk=>?_⟩
          have em:m=ns.foldl (fun a b=>if b < a then b else a) n:=by
            obtain ⟨h1,h2,h3⟩:=foldl_min ns n
            have g1:m<=ns.foldl (fun a b=>if b < a then b else a) n:=by
              rcases h1 with e | e
              · rw [e]; exact hk _ E4
              · exact hk _ (D4 _ e)
            have g2:ns.foldl (fun a b=>if b < a then b else a) n<=m:=by
              rcases D6.mp hm with rfl | hm
              · exact h2
              · exact h3 m hm
            omega
          subst em
          exact now R h rfl
      · exact h.elim
    · exact h.elim⟩
def jt:CF:=fun st ps=>match ps with
  | [p]=>match Wc st p with
    | some xs=>.ok (.lst xs) st
    | none=>.stuck
  | _=>.stuck
def Ug:CF:=fun st ps=>match ps with
  | [p]=>match Wc st p with
    | some xs=>.ok (.tup xs) st
    | none=>.stuck
  | _=>.stuck
theorem cs_list:CallS X E (.type "list") jt:=⟨fun H ρ st ps xs Q R rp h=>by
  unfold jt at h
  split at h
  · obtain ⟨v,rfl,r⟩:=Zw rp
    split at h
    · rename_i ys e
      obtain ⟨t,a,vs,rfl,hq,ra⟩:=qc (K:=X.K) R r e
      exact WC.of jr ⟨a,vs,rfl,sqK_or hq,Kc R h ra⟩
    · exact h.elim
  · exact h.elim⟩
theorem cs_tuple:CallS X E (.type "tuple") Ug:=⟨fun H ρ st ps xs Q R rp h=>by
  unfold Ug at h
  split at h
  · rename_i p
    obtain ⟨v,rfl,r⟩:=Zw rp
    split at h
    · rename_i ys e
      cases p with
      | tup zs=>
        cases e
        obtain ⟨a,vs,rfl,ha,na,ra⟩:=r
        exact WC.of qa ⟨a,vs,rfl,.inr ⟨SqT.of ha,now R h ⟨a,vs,rfl,ha,na,ra⟩⟩⟩
      | _=>
        obtain ⟨a,vs,rfl,ha,ra⟩:=Kg R r e
        exact WC.of qa ⟨a,vs,rfl,.inl ⟨.inl ha,Kb R h ra⟩⟩
    · exact h.elim
  · exact h.elim⟩
def cAbs:CF:=fun st ps=>match ps with
  | [.int a]=>.ok (.int (if a < 0 then -a else a)) st
  | _=>.stuck
def tyN:PV->String
  | .non => "NoneType"
  | .bl _ => "bool"
  | .int _ => "int"
  | .str _ => "str"
  | .tup _ => "tuple"
  | .lst _ => "list"
  | .fro _ => "list"
  | .ref _ => "list"
  | .dic => "dict"
def dpv (st:Q1):PV->PV
  | .ref i=>match st[i]? with
    | some (.dic _)=>.dic
    | some (.dtp _)=>.dic
    | _=>.ref i
  | p=>p
def isI (T:String) (p:PV):Bool:=tyN p == T || (T == "int" && tyN p == "bool")
def K1 (st:Q1):PV->Bool
  | .ref i=>match st[i]? with
    | some (.frd _)=>true
    | _=>false
  | _=>false
theorem ty_of {K:PySem.W.Frag} {H:Hp} {ρ:Tk} {st:Q1} {p:PV} {v:V} (nf:K1 st p=false) (R:Rel H ρ st) (r:Rep H ρ p v):TyOf K H v (.type (tyN (dpv st p))):=by
  cases p with
  | non=>cases r; exact .non
  | bl b=>cases r; exact .bl b
  | int i=>cases r; exact .int i
  | str x=>cases r; exact .str x
  | tup ps=>obtain ⟨a,vs,rfl,h,_⟩:=r; exact .tup h
  | lst ps=>obtain ⟨a,vs,rfl,h,_⟩:=r; exact .lst h
  | fro ps=>
    obtain ⟨a,vs,rfl,h,_⟩:=r
    rcases h with h | ⟨o,h⟩
    · exact .lst h
    · exact .frz h
  | ref i=>
    obtain ⟨a,e,rfl⟩:=r
    have hl:i < st.length:=by rw [<- R.len]; exact (O0.mp e).1
    have hs:=O2 hl
    have q:=R.cell i a st[i] e hs
    cases hc:st[i] with
    | lst xs=>rw [hc] at q hs; simp only [dpv,hs]; obtain ⟨vs,h,_⟩:=q; exact .lst h
    | dic xs=>rw [hc] at q hs; simp only [dpv,hs]; obtain ⟨vs,h,_⟩:=q; exact .dK h
    | dtp xs=>rw [hc] at q hs; simp only [dpv,hs]; obtain ⟨vs,h,_⟩:=q; exact .dT h
    | frd xs=>rw [hc] at hs; simp only [K1,hs] at nf; cases nf
  | dic=>obtain ⟨a,rfl,h,_⟩:=r; exact .dK h
def Q18:List String:=["int", "bool", "str", "tuple", "list", "dict"]
theorem kit_ok (K:PySem.W.Frag) {T:String} (hT:T∈Q18) (p:PV):PySem.W.kitOne K (.type (tyN p)) (.type T)=some (isI T p):=by
  have hT:T = "int" \/ T = "bool" \/ T = "str" \/ T = "tuple" \/ T = "list" \/ T = "dict" := by simpa [Q18] using hT
  rcases hT with rfl | rfl | rfl | rfl | rfl | rfl <;> cases p <;> first | rfl | kernel_rfl
def mIsI (T:String) (m:ME):ME:=fun Γ st=>(m Γ st).bind fun p st1=>if K1 st1 p=true then .stuck else .ok (.bl (isI T (dpv st1 p))) st1
theorem Q09 {T:String} {tx:Str} {a:Expr} {ma:ME} {p tp:Pos} (hT:T∈Q18) (ha:SimE X E a ma) (hg:Gl X "isinstance") (hm:X.mg "isinstance" = none) (hgT:Gl X tx) (hmT:X.mg tx=none) (hvT:bootBuiltins tx=some (.type T))
    (hn:tx≠"__name__" := by decide) (hd:(tx == ("__debug__" : Str))=false:=by decide)
    (he:starEach [a,.Name tx tp] X.env=(false,eval a X.env) :: starEach [.Name tx tp] X.env:=by rfl) (he2:starEach [.Name tx tp] X.env=(false,eval (.Name tx tp) X.env) :: starEach [] X.env:=by rfl) (hpl:(backTo pos (starEach [.Name tx tp] X.env)).any (·.1)=false:=by rfl) :
    SimE X E (.Call (.Name "isinstance" p) [a,.Name tx tp] [] pos) (mIsI T ma):=
  ⟨fun Γ σ H ρ st Q R G h=>WE.of (Jt call_isinst hg hm Qn (Qm Zf (Qm (pe_bltn hgT hmT hvT (v:=.ty T) rfl hn hd) Ju he2) he) (by decide) (by decide) he hpl)
    (ha.use R G h.bind fun q st1 H1 ρ1 v x1 R1 G1 r1 h1=>by
      by_cases nf:K1 st1 q=true
      · rw [if_pos nf] at h1; exact h1.elim
      · rw [if_neg nf] at h1
        exact ⟨v,.ty T,.type T,_,_,rfl,rfl,ty_of (by simpa using nf) R1 r1,kit_ok X.K hT (dpv st1 q),now R1 h1 rfl⟩)⟩
end
end Sm
namespace Sm
open PySem PySem.Spec L2
abbrev GA:=PV->Gam->Option Gam
abbrev GAs:=List PV->Gam->Option Gam
structure SimG (X:Cx) (tg:Expr) (ga:GA):Prop where
  run:∀ (Γ Γ':Gam) (σ:St) (H:Hp) (ρ:Tk) (p:PV) (v:V) (Q:St->Hp->Prop),EnvR H ρ Γ σ->Rep H ρ p v->ga p Γ=some Γ'->(∀ σ',EnvR H ρ Γ' σ'->Q σ' H)->∃ t,PG X tg t/\t v σ H Q
structure SimGs (X:Cx) (tgs:List Expr) (n:Nat) (ga:GAs):Prop where
  run:∀ (Γ Γ':Gam) (σ:St) (H:Hp) (ρ:Tk) (ps:List PV) (vs:List V) (Q:St->Hp->Prop),EnvR H ρ Γ σ->RepL H ρ ps vs->ga ps Γ=some Γ'->(∀ σ',EnvR H ρ Γ' σ'->Q σ' H)->∃ t,PGs X tgs t/\t vs σ H Q
  len:∀ ps Γ Γ',ga ps Γ=some Γ'->ps.length=n
def Qg (i:Nat):GA:=fun p Γ=>some (Γ.set i (some p))
def Uq:GAs:=fun ps Γ=>match ps with
  | []=>some Γ
  | _=>none
def Jq (g:GA) (gs:GAs):GAs:=fun ps Γ=>match ps with
  | p :: r=>(g p Γ).bind (gs r)
  | []=>none
def Up (gs:GAs):GA:=fun p Γ=>match p with
  | .tup ps=>gs ps Γ
  | _=>none
section
variable {X:Cx} {pos:Pos}
theorem Qz {i:Nat} {x:Str} (hN:X.N.Nodup) (hi:X.N[i]?=some x:=by rfl) (hx:Loc X.env.scope x:=by first | exact Or.inl rfl | exact Or.inr rfl) (hf:X.fn x=true\/X.env.scope.names.lookup x=some .local:=by first | exact .inl rfl | exact .inr rfl):SimG X (.Name x pos) (Qg i):=
  ⟨fun Γ Γ' σ H ρ p v Q G r e k=>⟨_,pg_name hN hi hx hf,by cases e; exact k _ (G.set r i)⟩⟩
theorem K7:SimGs X [] 0 Uq:=⟨fun Γ Γ' σ H ρ ps vs Q G r e k=>⟨_,pgs_nil,by
  cases ps with
  | nil=>cases e; cases r; exact ⟨rfl,k σ G⟩
  | cons _ _=>cases e⟩,fun ps Γ Γ' e=>by
  cases ps with
  | nil=>rfl
  | cons _ _=>cases e⟩
def WGx (X:Cx) (tg:Expr):TG:=fun v σ H Q=>∃ t,PG X tg t/\t v σ H Q
theorem pg_x {tg:Expr}:PG X tg (WGx X tg):=fun pins s σ H v u Q I r ⟨t,h,q⟩=>h pins s σ H v u Q I r q
def WGsx (X:Cx) (tgs:List Expr):TGs:=fun v σ H Q=>∃ t,PGs X tgs t/\t v σ H Q
theorem pgs_x {tgs:List Expr}:PGs X tgs (WGsx X tgs):=fun pins s σ H v u Q I r ⟨t,h,q⟩=>h pins s σ H v u Q I r q
theorem Z3 {e:Expr} {es:List Expr} {g:GA} {gs:GAs} {n:Nat} (h1:SimG X e g) (h2:SimGs X es n gs) (hs:(assignEach (e :: es) X.env).map (·.2)=assign e X.env :: (assignEach es X.env).map (·.2):=by rfl):SimGs X (e :: es) (n + 1) (Jq g gs):=
  ⟨fun Γ Γ' σ H ρ ps vs Q G r eq k=>⟨_,pgs_cons pg_x pgs_x hs,by
    cases ps with
    | nil=>cases eq
    | cons p ps=>
      obtain ⟨v,t,rfl,r1,r2⟩:=r
      have eq:(g p Γ).bind (gs ps)=some Γ':=eq
      cases e1:g p Γ with
      | none=>rw [e1] at eq; cases eq
      | some Γ1=>
        rw [e1] at eq
        exact ⟨v,t,rfl,h1.run Γ Γ1 σ H ρ p v _ G r1 e1 fun σ1 G1=>h2.run Γ1 Γ' σ1 H ρ ps t _ G1 r2 eq k⟩⟩,fun ps Γ Γ' e=>by
    cases ps with
    | nil=>cases e
    | cons p ps=>
      have e:(g p Γ).bind (gs ps)=some Γ':=e
      cases e1:g p Γ with
      | none=>rw [e1] at e; cases e
      | some Γ1=>rw [e1] at e; rw [F1,h2.len ps Γ1 Γ' e]⟩
theorem z8 {es:List Expr} {k n:Nat} {gs:GAs} (hc:X.calm=true) (h:SimGs X es n gs) (hn:(assignEach es X.env).length=n:=by rfl) (hst:(assignEach es X.env).findIdx? (·.1)=none:=by rfl):SimG X (.Tuple es k pos) (Up gs):=
  ⟨fun Γ Γ' σ H ρ p v Q G r e q=>⟨_,pg_tup hc pgs_x hn hst,by
    cases p with
    | tup ps=>
      obtain ⟨a,vs,rfl,ha,na,ra⟩:=r
      exact ⟨a,vs,rfl,SqT.of ha,by rw [<- ra.length]; exact h.len ps Γ Γ' e,h.run Γ Γ' σ H ρ ps vs Q G ra e q⟩
    | _=>cases e⟩⟩
end
abbrev Wt:=List (Nat × Cell)
def wOk (w:Wt) (st:Q1):Prop:=∀ x∈w,st[x.1]?=some x.2
theorem qu (st:Q1):wOk [] st:=fun x h=>by cases h
structure Src (J:It) (items:List PV) (w:Wt) (H:Hp) (ρ:Tk):Prop where
  stop:∀ H2 ρ2 st2,Ext H ρ H2 ρ2->Rel H2 ρ2 st2->wOk w st2->J.stop items.length H2
  go:∀ H2 ρ2 st2,Ext H ρ H2 ρ2->Rel H2 ρ2 st2->wOk w st2->∀ i,i < items.length->J.go i H2
  yld:∀ H2 ρ2 st2,Ext H ρ H2 ρ2->Rel H2 ρ2 st2->wOk w st2->∀ i p,items[i]?=some p->∀ x H3,J.yld i H2 x H3->Same H2 H3/\Rep H3 ρ2 p x
abbrev MI:=Gam->Q1->Res (List PV × Wt)
structure SimI (X:Cx) (E:XK) (tg iter:Expr) (mi:MI):Prop where
  run:∀ (Γ:Gam) (σ:St) (H:Hp) (ρ:Tk) (st:Q1) (P:List PV × Wt->Q1->Hp->Tk->Prop) (R':It->Hp->Prop),Rel H ρ st->EnvR H ρ Γ σ->Acc X.mg E H ρ P (mi Γ st) ->
    (∀ iw st1 H1 ρ1 J,mi Γ st=.ok iw st1->Ext H ρ H1 ρ1->Rel H1 ρ1 st1->EnvR H1 ρ1 Γ σ->wOk iw.2 st1->iw.1.length<=sizeLine->Src J iw.1 iw.2 H1 ρ1->P iw st1 H1 ρ1->R' J H1)->WI X tg iter σ H R'
def Vp (st:Q1):PV->Option (List PV × Wt)
  | .tup xs=>some (xs,[])
  | .lst xs=>some (xs,[])
  | .fro xs=>some (xs,[])
  | .ref i=>match st[i]? with
    | some (.lst xs)=>some (xs,[(i,.lst xs)])
    | _=>none
  | _=>none
theorem src_at {K:PySem.W.Frag} {H:Hp} {ρ:Tk} {st:Q1} {p:PV} {v:V} {xs:List PV} {w:Wt} (R:Rel H ρ st) (r:Rep H ρ p v) (e:Vp st p=some (xs,w)) :
    wOk w st/\∃ (t:Bool) (a:Addr),v=.ref a/\(t=true->∃ ys,p=.tup ys)/\(t=false->∀ ys,p≠.tup ys)/\∀ H2 ρ2 st2,Ext H ρ H2 ρ2->Rel H2 ρ2 st2->wOk w st2->∃ vs,SqK K t H2 a vs/\RepL H2 ρ2 xs vs:=by
  cases p with
  | tup ys=>
    obtain ⟨a,vs,rfl,ha,na,ra⟩:=r
    cases e
    exact ⟨qu _,true,a,rfl,fun _=>⟨_,rfl⟩,(fun z=>by cases z),fun H2 ρ2 st2 x R2 _=>⟨vs,show SqT K H2 a vs from SqT.of (x.kp ha na),ra.ext x⟩⟩
  | lst ys=>
    obtain ⟨a,vs,rfl,ha,na,ra⟩:=r
    cases e
    exact ⟨qu _,false,a,rfl,(fun z=>by cases z),(fun _ _ z=>by cases z),fun H2 ρ2 st2 x R2 _=>⟨vs,show SqL K H2 a vs from SqL.of (x.kp ha na),ra.ext x⟩⟩
  | fro ys=>
    obtain ⟨a,vs,rfl,ha,na,ra⟩:=r
    cases e
    refine ⟨qu _,false,a,rfl,(fun z=>by cases z),(fun _ _ z=>by cases z),fun H2 ρ2 st2 x R2 _=>⟨vs,show SqL K H2 a vs from ?_,ra.ext x⟩⟩
    rcases ha with ha | ⟨o,ha⟩
    · exact .inl (.inl (x.kp ha na))
    · exact .inl (.inr ⟨o,x.kp ha na⟩)
  | ref i=>
    obtain ⟨a,ea,rfl⟩:=r
    simp only [Vp] at e
    split at e
    · rename_i ys hs
      cases e
      refine ⟨fun x hx=>?_,false,a,rfl,(fun z=>by cases z),(fun _ _ z=>by cases z),fun H2 ρ2 st2 x R2 ok=>?_⟩
      · have:x=(i,.lst xs):=by simpa using hx
        subst this; exact hs
      · have hs2:=ok (i,.lst xs) (by simp)
        obtain ⟨b,vs,f1,f2,f3⟩:=R2.lst hs2
        obtain ⟨t,et⟩:=x.pre
        rw [<- et,O3 (O0.mp ea).1,ea] at f1
        cases f1
        exact ⟨vs,show SqL K H2 a vs from SqL.of f2,f3⟩
    · cases e
  | _=>cases e
section
variable {X:Cx} {E:XK} {pos:Pos} {tg:Expr} {e:Expr} {m:ME}
def Xu (m:ME):MI:=fun Γ st=>(m Γ st).bind fun p st1=>match Vp st1 p with
  | some (xs,w)=>if xs.length<=lim then .ok (xs,w) st1 else .stuck
  | none=>.stuck
theorem RepL.i {H:Hp} {ρ:Tk} {ps:List PV} {vs:List V} {i:Nat} {p:PV} {x:V} (r:RepL H ρ ps vs) (h:ps[i]?=some p) (h':vs[i]?=some x):Rep H ρ p x:=by
  obtain ⟨v,e,q⟩:=r.get h
  rw [h'] at e; cases e
  exact q
theorem src_seq {K:PySem.W.Frag} {H:Hp} {ρ:Tk} {t:Bool} {a:Addr} {xs:List PV} {w:Wt} (h:∀ H2 ρ2 st2,Ext H ρ H2 ρ2->Rel H2 ρ2 st2->wOk w st2->∃ vs,SqK K t H2 a vs/\RepL H2 ρ2 xs vs):Src (if t=true then Itt K a else Itl K a) xs w H ρ:=by
  cases t with
  | true=>
    rw [if_pos rfl]
    refine ⟨fun H2 ρ2 st2 x R ok=>?_,fun H2 ρ2 st2 x R ok i hi=>?_,fun H2 ρ2 st2 x R ok i p hp y H3 hy=>?_⟩
    · obtain ⟨vs,s,r⟩:=h H2 ρ2 st2 x R ok
      exact ⟨vs,s,by rw [r.length]; exact O6 _⟩
    · obtain ⟨vs,s,r⟩:=h H2 ρ2 st2 x R ok
      have hi':i < vs.length:=by rw [<- r.length]; exact hi
      exact ⟨vs,vs[i],s,O2 hi'⟩
    · obtain ⟨vs,s,r⟩:=h H2 ρ2 st2 x R ok
      obtain ⟨rfl,hv⟩:=hy
      exact ⟨Same.refl _,r.i hp (hv vs s)⟩
  | false=>
    rw [if_neg O9]
    refine ⟨fun H2 ρ2 st2 x R ok=>?_,fun H2 ρ2 st2 x R ok i hi=>?_,fun H2 ρ2 st2 x R ok i p hp y H3 hy=>?_⟩
    · obtain ⟨vs,s,r⟩:=h H2 ρ2 st2 x R ok
      exact ⟨vs,s,by rw [r.length]; exact O6 _⟩
    · obtain ⟨vs,s,r⟩:=h H2 ρ2 st2 x R ok
      have hi':i < vs.length:=by rw [<- r.length]; exact hi
      exact ⟨vs,vs[i],s,O2 hi'⟩
    · obtain ⟨vs,s,r⟩:=h H2 ρ2 st2 x R ok
      obtain ⟨rfl,hv⟩:=hy
      exact ⟨Same.refl _,r.i hp (hv vs s)⟩
theorem mSeq_in {mg:Str->Option Value} {H:Hp} {ρ:Tk} {st:Q1} {p:PV} {P:List PV × Wt->Q1->Hp->Tk->Prop} (R:Rel H ρ st) (h:Acc mg E H ρ P (match Vp st p with | some (xs,w)=>if xs.length<=lim then .ok (xs,w) st else .stuck | none=>.stuck)) :
    ∃ xs w,Vp st p=some (xs,w)/\xs.length<=lim/\P (xs,w) st H ρ:=by
  split at h
  · rename_i xs w e
    split at h
    · rename_i hl
      exact ⟨xs,w,e,hl,h H ρ (Ext.refl _ _) R⟩
    · exact h.elim
  · exact h.elim
theorem Wr (ha:SimE X E e m):SimI X E tg e (Xu m):=⟨fun Γ σ H ρ st P R' R G h k=>by
  have hb:Acc X.mg E H ρ _ (m Γ st):=Acc.bind h
  by_cases ht:∃ ys st1,m Γ st=.ok (.tup ys) st1
  · obtain ⟨ys,st0,e0⟩:=ht
    refine WI.of (pi_tup Zf) (ha.use' R G hb fun p st1 H1 ρ1 v eq x1 R1 G1 r1 h1=>?_)
    obtain ⟨xs,w,e,hl,hP⟩:=mSeq_in R1 h1
    obtain ⟨ok,t,a,rfl,t1,t2,sq⟩:=src_at (K:=X.K) R1 r1 e
    have ep:p=.tup ys:=by rw [eq] at e0; injection e0
    cases t with
    | false=>exact absurd ep (t2 rfl ys)
    | true=>
      obtain ⟨vs,s,_⟩:=sq H1 ρ1 st1 (Ext.refl _ _) R1 ok
      exact ⟨a,rfl,⟨vs,s⟩,k (xs,w) st1 H1 ρ1 _ (by simp only [Xu,eq,Res.bind,e,if_pos hl]) x1 R1 G1 ok (W2 hl) (src_seq sq) hP⟩
  · refine WI.of (pi_list Zf) (ha.use' R G hb fun p st1 H1 ρ1 v eq x1 R1 G1 r1 h1=>?_)
    obtain ⟨xs,w,e,hl,hP⟩:=mSeq_in R1 h1
    obtain ⟨ok,t,a,rfl,t1,t2,sq⟩:=src_at (K:=X.K) R1 r1 e
    cases t with
    | true=>
      obtain ⟨ys,rfl⟩:=t1 rfl
      exact absurd ⟨ys,st1,eq⟩ ht
    | false=>
      obtain ⟨vs,s,_⟩:=sq H1 ρ1 st1 (Ext.refl _ _) R1 ok
      exact ⟨a,rfl,⟨vs,s⟩,k (xs,w) st1 H1 ρ1 _ (by simp only [Xu,eq,Res.bind,e,if_pos hl]) x1 R1 G1 ok (W2 hl) (src_seq sq) hP⟩⟩
def Ze (lo:Int) (n:Nat):List PV:=(List.range n).map fun (k:Nat)=>PV.int (lo + (k:Int))
theorem Q2a {H:Hp} {ρ:Tk} {lo:Int} {n:Nat}:Src (Itr lo n) (Ze lo n) [] H ρ:=by
  have hl:(Ze lo n).length=n:=by unfold Ze; rw [O5,G6]
  refine ⟨fun H2 ρ2 st2 x R ok=>?_,fun H2 ρ2 st2 x R ok i hi=>?_,fun H2 ρ2 st2 x R ok i p hp y H3 hy=>?_⟩
  · show n<=(Ze lo n).length
    omega
  · show i < n
    omega
  · obtain ⟨rfl,rfl⟩:=hy
    have hi:i < n:=by rw [<- hl]; exact (O0.mp hp).1
    unfold Ze at hp
    rw [E5,List.getElem?_range hi] at hp
    cases hp
    exact ⟨Same.refl _,rfl⟩
def Wh (mr:Gam->Q1->Res (List PV)):MI:=fun Γ st=>(mr Γ st).bind fun ps st1=>match ps with
  | [.int j]=>if -(lim:Int)<=j/\j<=lim then .ok (Ze 0 j.toNat,[]) st1 else .stuck
  | _=>.stuck
def xb (mr:Gam->Q1->Res (List PV)):MI:=fun Γ st=>(mr Γ st).bind fun ps st1=>match ps with
  | [.int i,.int j]=>if -(lim:Int)<=i/\i<=lim/\-(lim:Int)<=j/\j<=lim then .ok (Ze i (j - i).toNat,[]) st1 else .stuck
  | _=>.stuck
variable {a b:Expr} {mr:Gam->Q1->Res (List PV)} {p:Pos}
theorem Q0i (lo:Int) (n:Nat):(Ze lo n).length=n:=by unfold Ze; rw [O5,G6]
theorem W5 (hg:Gl X "range") (hm:X.mg "range" = none) (ha:SimA X E [a] mr) (hs:starEach [a] X.env=[(false,eval a X.env)]:=by rfl):SimI X E tg (.Call (.Name "range" p) [a] [] pos) (Wh mr):=⟨fun Γ σ H ρ st P R' R G h k=>by
  refine WI.of (pi_range1 hg hm Q0q hs) (ha.use' R G h.bind fun ps st1 H1 ρ1 vs eq x1 R1 G1 r1 h1=>?_)
  split at h1
  · rename_i j
    split at h1
    · rename_i hj
      obtain ⟨v,rfl,rv⟩:=Zw r1
      cases rv
      have hl:(lim:Int)=1000000:=rfl
      refine ⟨j,rfl,by omega,by omega,k (Ze 0 j.toNat,[]) st1 H1 ρ1 _ (by simp only [Wh,eq,Res.bind,if_pos hj]) x1 R1 G1 (qu _) ?_ Q2a (h1 H1 ρ1 (Ext.refl _ _) R1)⟩
      show (Ze 0 j.toNat).length<=sizeLine
      rw [Q0i]
      exact W2 (by omega)
    · exact h1.elim
  · exact h1.elim⟩
theorem si_range2 (hg:Gl X "range") (hm:X.mg "range" = none) (ha:SimA X E [a,b] mr) (hs:starEach [a,b] X.env=[(false,eval a X.env),(false,eval b X.env)]:=by rfl) (hs2:starEach [b] X.env=[(false,eval b X.env)]:=by rfl):SimI X E tg (.Call (.Name "range" p) [a,b] [] pos) (xb mr):=⟨fun Γ σ H ρ st P R' R G h k=>by
  refine WI.of (pi_range2 hg hm Q0q hs hs2) (ha.use' R G h.bind fun ps st1 H1 ρ1 vs eq x1 R1 G1 r1 h1=>?_)
  split at h1
  · rename_i i j
    split at h1
    · rename_i hj
      obtain ⟨v,u,rfl,rv,ru⟩:=j9 r1
      cases rv; cases ru
      have hl:(lim:Int)=1000000:=rfl
      refine ⟨i,j,rfl,⟨by omega,by omega,by omega,by omega⟩,k (Ze i (j - i).toNat,[]) st1 H1 ρ1 _ (by simp only [xb,eq,Res.bind,if_pos hj]) x1 R1 G1 (qu _) ?_ Q2a (h1 H1 ρ1 (Ext.refl _ _) R1)⟩
      show (Ze i (j - i).toNat).length<=sizeLine
      rw [Q0i]
      exact E2 (show (j - i).toNat<=2000000 by omega) (by decide)
    · exact h1.elim
  · exact h1.elim⟩
def yh:List PV->List PV->List PV
  | x :: xs,y :: ys=>.tup [x,y] :: yh xs ys
  | _,_=>[]
theorem zipT_eq (xs ys:List PV):yh xs ys=(xs.zip ys).map fun z=>.tup [z.1,z.2]:=by
  induction xs generalizing ys with
  | nil=>rfl
  | cons x xs ih=>
    cases ys with
    | nil=>rfl
    | cons y ys=>rw [yh,ih]; rfl
theorem xt (xs ys:List PV):(yh xs ys).length=min xs.length ys.length:=by rw [zipT_eq,O5,List.length_zip]
theorem zipT_get {xs ys:List PV} {i:Nat} {p:PV} (h:(yh xs ys)[i]?=some p):∃ x y,p=.tup [x,y]/\xs[i]?=some x/\ys[i]?=some y:=by
  rw [zipT_eq,E5] at h
  cases e:(xs.zip ys)[i]? with
  | none=>rw [e] at h; cases h
  | some z=>
    rw [e] at h; cases h
    rw [List.getElem?_zip_eq_some] at e
    exact ⟨z.1,z.2,rfl,e.1,e.2⟩
def mZip (mr:Gam->Q1->Res (List PV)):MI:=fun Γ st=>(mr Γ st).bind fun ps st1=>match ps with
  | [p,q]=>match Vp st1 p,Vp st1 q with
    | some (xs,w),some (ys,w')=>if xs.length<=lim then .ok (yh xs ys,w ++ w') st1 else .stuck
    | _,_=>.stuck
  | _=>.stuck
theorem K5 {w w':Wt} {st:Q1} (h:wOk (w ++ w') st):wOk w st/\wOk w' st:=⟨fun x hx=>h x (G7 _ hx),fun x hx=>h x (E6 _ hx)⟩
theorem src_zip {K:PySem.W.Frag} {H:Hp} {ρ:Tk} {t1 t2:Bool} {a b:Addr} {xs ys:List PV} {w w':Wt} (h:∀ H2 ρ2 st2,Ext H ρ H2 ρ2->Rel H2 ρ2 st2->wOk w st2->∃ vs,SqK K t1 H2 a vs/\RepL H2 ρ2 xs vs)
    (h':∀ H2 ρ2 st2,Ext H ρ H2 ρ2->Rel H2 ρ2 st2->wOk w' st2->∃ vs,SqK K t2 H2 b vs/\RepL H2 ρ2 ys vs):Src (Itz K t1 t2 a b) (yh xs ys) (w ++ w') H ρ:=by
  refine ⟨fun H2 ρ2 st2 x R ok=>?_,fun H2 ρ2 st2 x R ok i hi=>?_,fun H2 ρ2 st2 x R ok i p hp y H3 hy=>?_⟩
  · obtain ⟨vs,s,r⟩:=h H2 ρ2 st2 x R (K5 ok).1
    obtain ⟨us,s',r'⟩:=h' H2 ρ2 st2 x R (K5 ok).2
    refine ⟨vs,us,s,s',?_⟩
    rw [xt,<- r.length,<- r'.length]
    omega
  · obtain ⟨vs,s,r⟩:=h H2 ρ2 st2 x R (K5 ok).1
    obtain ⟨us,s',r'⟩:=h' H2 ρ2 st2 x R (K5 ok).2
    rw [xt,r.length,r'.length] at hi
    have h1:i < vs.length:=by omega
    have h2:i < us.length:=by omega
    exact ⟨vs,us,vs[i],us[i],s,s',O2 h1,O2 h2⟩
  · obtain ⟨vs,s,r⟩:=h H2 ρ2 st2 x R (K5 ok).1
    obtain ⟨us,s',r'⟩:=h' H2 ρ2 st2 x R (K5 ok).2
    obtain ⟨q,u,v,hn,rfl,rfl,hv⟩:=hy
    obtain ⟨e1,e2⟩:=hv vs us s s'
    obtain ⟨xp,yp,rfl,p1,p2⟩:=zipT_get hp
    have sm:Same H2 (upd H2 q (.tup [u,v])):=same_new hn
    exact ⟨sm,q,[u,v],rfl,Qb,R.fresh hn,RepL.cons ((r.i p1 e1).ext (Ext.same sm)) (RepL.cons ((r'.i p2 e2).ext (Ext.same sm)) RepL.nil)⟩
theorem si_zip {elts:List Expr} {kt:Nat} {tp:Pos} (hg:Gl X "zip") (hm:X.mg "zip" = none) (ha:SimA X E [a,b] mr) (hs:starEach [a,b] X.env=[(false,eval a X.env),(false,eval b X.env)]:=by rfl) (hs2:starEach [b] X.env=[(false,eval b X.env)]:=by rfl) :
    SimI X E (.Tuple elts kt tp) (.Call (.Name "zip" p) [a,b] [] pos) (mZip mr):=⟨fun Γ σ H ρ st P R' R G h k=>by
  have hb:Acc X.mg E H ρ _ (mr Γ st):=Acc.bind h
  have main:∀ t1 t2:Bool,(∀ p q st1,mr Γ st=.ok [p,q] st1->(t1=true <-> ∃ ys,p=.tup ys)/\(t2=true <-> ∃ ys,q=.tup ys))->WI X (.Tuple elts kt tp) (.Call (.Name "zip" p) [a,b] [] pos) σ H R':=fun t1 t2 ht=>by
    refine WI.of (pi_zip t1 t2 hg hm Q0q hs hs2) (ha.use' R G hb fun ps st1 H1 ρ1 vs eq x1 R1 G1 r1 h1=>?_)
    split at h1
    · rename_i p' q'
      split at h1
      · rename_i xs w ys w' e1 e2
        split at h1
        · rename_i hl
          obtain ⟨v,u,rfl,rv,ru⟩:=j9 r1
          obtain ⟨ok1,b1,a1,rfl,z1,z1',sq1⟩:=src_at (K:=X.K) R1 rv e1
          obtain ⟨ok2,b2,a2,rfl,z2,z2',sq2⟩:=src_at (K:=X.K) R1 ru e2
          obtain ⟨g1,g2⟩:=ht _ _ _ eq
          have eb1:b1=t1:=by
            cases b1 with
            | true=>exact (g1.mpr (z1 rfl)).symm
            | false=>
              cases t1 with
              | false=>rfl
              | true=>obtain ⟨ys,e⟩:=g1.mp rfl; exact absurd e (z1' rfl ys)
          have eb2:b2=t2:=by
            cases b2 with
            | true=>exact (g2.mpr (z2 rfl)).symm
            | false=>
              cases t2 with
              | false=>rfl
              | true=>obtain ⟨ys,e⟩:=g2.mp rfl; exact absurd e (z2' rfl ys)
          subst eb1; subst eb2
          obtain ⟨vs1,s1,_⟩:=sq1 H1 ρ1 st1 (Ext.refl _ _) R1 ok1
          obtain ⟨vs2,s2,_⟩:=sq2 H1 ρ1 st1 (Ext.refl _ _) R1 ok2
          refine ⟨a1,a2,vs1,vs2,rfl,s1,s2,k (yh xs ys,w ++ w') st1 H1 ρ1 _ (by simp only [mZip,eq,Res.bind,e1,e2,if_pos hl]) x1 R1 G1 (fun x hx=>?_) ?_ (src_zip sq1 sq2) (h1 H1 ρ1 (Ext.refl _ _) R1)⟩
          · rcases E7.mp hx with hx | hx
            · exact ok1 x hx
            · exact ok2 x hx
          · show (yh xs ys).length<=sizeLine
            rw [xt]
            exact W2 (E2 (Nat.min_le_left _ _) hl)
        · exact h1.elim
      · exact h1.elim
    · exact h1.elim
  have tt:∀ p:PV,∃ t:Bool,t=true <-> ∃ ys,p=.tup ys:=fun p=>by
    cases p with
    | tup ys=>exact ⟨true,fun _=>⟨ys,rfl⟩,fun _=>rfl⟩
    | _=>exact ⟨false,⟨fun z=>(by cases z),fun ⟨_,z⟩=>(by cases z)⟩⟩
  by_cases hz:∃ p q st1,mr Γ st=.ok [p,q] st1
  · obtain ⟨p0,q0,st0,e0⟩:=hz
    obtain ⟨t1,g1⟩:=tt p0
    obtain ⟨t2,g2⟩:=tt q0
    refine main t1 t2 fun p q st1 e=>?_
    rw [e0] at e; cases e
    exact ⟨g1,g2⟩
  · exact main true true fun p q st1 e=>absurd ⟨p,q,st1,e⟩ hz⟩
def enumT:Nat->List PV->List PV
  | _,[]=>[]
  | n,x :: xs=>.tup [.int n,x] :: enumT (n + 1) xs
end
end Sm
namespace Sm
open PySem PySem.Spec L2
abbrev ML:=Gam->Q1->Res (List PV)
structure SimN (X:Cx) (E:XK) (e:Expr) (m:ML):Prop where
  run:∀ (Γ:Gam) (σ:St) (H:Hp) (ρ:Tk) (st:Q1) (P:List PV->Q1->Hp->Tk->Prop) (Q:VK),Rel H ρ st->EnvR H ρ Γ σ->Acc X.mg E H ρ P (m Γ st) ->
    (∀ ps st1 H1 ρ1 a vs,m Γ st=.ok ps st1->Ext H ρ H1 ρ1->Rel H1 ρ1 st1->a∈ρ1.hid->H a=none->H1 a=some (.lst vs)->RepL H1 ρ1 ps vs->Q (.ref a) H1)->WE X e σ H Q
def qh (m:ML):ME:=fun Γ st=>(m Γ st).bind fun ps st1=>.ok (.lst ps) st1
def mTrk (m:ML):ME:=fun Γ st=>(m Γ st).bind fun ps st1=>.ok (.ref st1.length) (st1 ++ [.lst ps])
section
variable {H0 H:Hp} {ρ0 ρ:Tk} {st:Q1} {a:Addr} {ps:List PV} {vs:List V}
theorem out_val (R0:Rel H0 ρ0 st) (x:Ext H0 ρ0 H ρ) {st1:Q1} (R:Rel H ρ st1) (hm:a∈ρ.hid) (hn:H0 a=none) (ha:H a=some (.lst vs)) (r:RepL H ρ ps vs) :
    Ext H0 ρ0 H ⟨ρ.tr,ρ0.hid⟩/\Rel H ⟨ρ.tr,ρ0.hid⟩ st1/\Rep H ⟨ρ.tr,ρ0.hid⟩ (.lst ps) (.ref a):=
  ⟨x.unhide,R.unhide x.hidM,a,vs,rfl,ha,(fun z=>by
    rcases z with z | z
    · exact R.ap a hm z
    · obtain ⟨o,e,_⟩:=R0.hd a z
      rw [hn] at e; cases e),r.unhide x.hidM⟩
mutual
theorem Rep.trk {b:Addr} {hs:List Addr} (hb:b∈ρ.hid) (hh:∀ c,c∈hs->c∈ρ.hid):∀ {p:PV} {v:V},Rep H ρ p v->Rep H ⟨ρ.tr ++ [b],hs⟩ p v
  | .non,_,r=>r
  | .bl _,_,r=>r
  | .int _,_,r=>r
  | .str _,_,r=>r
  | .tup ps,v,⟨c,vs,e,s,n,r⟩=>⟨c,vs,e,s,fun z=>by
      rcases z with z | z
      · rcases E7.mp z with z | z
        · exact n (.inl z)
        · have:c=b:=by simpa using z
          subst this; exact n (.inr hb)
      · exact n (.inr (hh _ z)),RepL.trk hb hh r⟩
  | .lst ps,v,⟨c,vs,e,s,n,r⟩=>⟨c,vs,e,s,fun z=>by
      rcases z with z | z
      · rcases E7.mp z with z | z
        · exact n (.inl z)
        · have:c=b:=by simpa using z
          subst this; exact n (.inr hb)
      · exact n (.inr (hh _ z)),RepL.trk hb hh r⟩
  | .fro ps,v,⟨c,vs,e,s,n,r⟩=>⟨c,vs,e,s,fun z=>by
      rcases z with z | z
      · rcases E7.mp z with z | z
        · exact n (.inl z)
        · have:c=b:=by simpa using z
          subst this; exact n (.inr hb)
      · exact n (.inr (hh _ z)),RepL.trk hb hh r⟩
  | .ref i,v,⟨c,e,e2⟩=>⟨c,by show (ρ.tr ++ [b])[i]?=some c; rw [O3 (O0.mp e).1]; exact e,e2⟩
  | .dic,v,⟨c,e,s,n⟩=>⟨c,e,s,fun z=>by
      rcases z with z | z
      · rcases E7.mp z with z | z
        · exact n (.inl z)
        · have:c=b:=by simpa using z
          subst this; exact n (.inr hb)
      · exact n (.inr (hh _ z))⟩
theorem RepL.trk {b:Addr} {hs:List Addr} (hb:b∈ρ.hid) (hh:∀ c,c∈hs->c∈ρ.hid):∀ {ps:List PV} {vs:List V},RepL H ρ ps vs->RepL H ⟨ρ.tr ++ [b],hs⟩ ps vs
  | [],_,r=>r
  | p :: ps,_,⟨v,t,e,r1,r2⟩=>⟨v,t,e,Rep.trk hb hh r1,RepL.trk hb hh r2⟩
end
theorem out_trk (R0:Rel H0 ρ0 st) (x:Ext H0 ρ0 H ρ) {st1:Q1} (R:Rel H ρ st1) (hm:a∈ρ.hid) (hn:H0 a=none) (ha:H a=some (.lst vs)) (r:RepL H ρ ps vs) :
    Ext H0 ρ0 H ⟨ρ.tr ++ [a],ρ0.hid⟩/\Rel H ⟨ρ.tr ++ [a],ρ0.hid⟩ (st1 ++ [.lst ps])/\Rep H ⟨ρ.tr ++ [a],ρ0.hid⟩ (.ref st1.length) (.ref a):=by
  have na0:a∉ρ0.hid:=fun z=>by
    obtain ⟨o,e,_⟩:=R0.hd a z
    rw [hn] at e; cases e
  refine ⟨⟨x.pre.trans (List.prefix_append _ _),fun _ h=>h,fun _ h=>.inl h,x.keep,fun b hb=>?_,x.old,x.frz⟩,⟨?_,?_,fun b hb=>R.hd b (x.hidM b hb),fun b hb z=>?_,fun i b c h1 h2=>?_⟩,a,?_,rfl⟩
  · rcases E7.mp hb with z | z
    · exact x.new b z
    · have:b=a:=by simpa using z
      subst this; exact .inr hn
  · show (ρ.tr ++ [a]).length=_
    rw [D5,D5,R.len]; rfl
  · show (ρ.tr ++ [a]).Nodup
    refine List.nodup_append.mpr ⟨R.nd,by simp,fun b hb c hc e=>?_⟩
    have:c=a:=by simpa using hc
    subst this; subst e
    exact R.ap b hm hb
  · rcases E7.mp z with z | z
    · exact R.ap b (x.hidM b hb) z
    · have:b=a:=by simpa using z
      subst this; exact na0 hb
  · have h1:(ρ.tr ++ [a])[i]?=some b:=h1
    by_cases hi:i < st1.length
    · rw [O3 (by rw [R.len]; exact hi)] at h1
      rw [O3 hi] at h2
      have q:=R.cell i b c h1 h2
      cases c with
      | lst qs=>
        obtain ⟨us,e1,e2⟩:=q
        exact ⟨us,e1,e2.trk hm x.hidM⟩
      | dic qs=>
        obtain ⟨us,e1,e2⟩:=q
        exact ⟨us,e1,e2.1,e2.2.trk hm x.hidM⟩
      | dtp qs=>
        obtain ⟨us,e1,e2⟩:=q
        exact ⟨us,e1,e2.1,e2.2.trk hm x.hidM⟩
      | frd qs=>
        obtain ⟨us,e1,e2⟩:=q
        exact ⟨us,e1,e2.1,e2.2.trk hm x.hidM⟩
    · rw [O8 (by rw [R.len]; omega)] at h1
      rw [O8 (by omega)] at h2
      have e0:i - st1.length=0:=by
        rcases Nat.eq_zero_or_pos (i - st1.length) with z | z
        · exact z
        · rw [List.getElem?_eq_none (by simp; omega)] at h2; cases h2
      rw [R.len,e0] at h1
      rw [e0] at h2
      simp at h1 h2
      subst h1; subst h2
      exact ⟨vs,ha,r.trk hm x.hidM⟩
  · show (ρ.tr ++ [a])[st1.length]?=some a
    rw [<- R.len,O8 (O6 _),Nat.sub_self]; rfl
end
section
variable {X:Cx} {E:XK} {pos:Pos} {e:Expr} {m:ML}
theorem V9 (h:SimN X E e m):SimE X E e (qh m):=⟨fun Γ σ H ρ st Q R G hq=>h.run Γ σ H ρ st _ Q R G hq.bind fun ps st1 H1 ρ1 a vs eq x R1 hm hn ha r=>by
  obtain ⟨x2,R2,r2⟩:=out_val R x R1 hm hn ha r
  unfold qh at hq
  rw [eq] at hq
  exact hq _ _ x2 R2 _ r2⟩
theorem z9 (h:SimN X E e m):SimE X E e (mTrk m):=⟨fun Γ σ H ρ st Q R G hq=>h.run Γ σ H ρ st _ Q R G hq.bind fun ps st1 H1 ρ1 a vs eq x R1 hm hn ha r=>by
  obtain ⟨x2,R2,r2⟩:=out_trk R x R1 hm hn ha r
  unfold mTrk at hq
  rw [eq] at hq
  exact hq _ _ x2 R2 _ r2⟩
variable {es:List Expr} {mr:Gam->Q1->Res (List PV)} {a b:Expr} {ma mb:ME}
theorem new_at {H1:Hp} {ρ1:Tk} {st1:Q1} {H:Hp} {ρ:Tk} {Q:VK} {ps:List PV} {vs:List V} (x:Ext H ρ H1 ρ1) (R1:Rel H1 ρ1 st1) (r:RepL H1 ρ1 ps vs)
    (k:∀ H1 ρ1 a vs,Ext H ρ H1 ρ1->Rel H1 ρ1 st1->a∈ρ1.hid->H a=none->H1 a=some (.lst vs)->RepL H1 ρ1 ps vs->Q (.ref a) H1):∀ p,H1 p=none->Q (.ref p) (upd H1 p (.lst vs)):=fun p hp=>by
  refine k _ (ρ1.hide p) p vs (x.trans (Ext.hide hp)) (R1.hide hp) E4 ?_ Qb (r.hide hp)
  cases e:H p with
  | none=>rfl
  | some o=>
    obtain ⟨o',e'⟩:=x.old p o e
    rw [hp] at e'; cases e'
def y9 (mr:Gam->Q1->Res (List PV)):ML:=fun Γ st=>(mr Γ st).bind fun ps st1=>if ps.length<=lim then .ok ps st1 else .stuck
theorem Q06 (h:SimA X E es mr):SimN X E (.List es pos) (y9 mr):=
  ⟨fun Γ σ H ρ st P Q R G hq k=>WE.of (pe_lst Q0q) (h.use' R G hq.bind fun ps st1 H1 ρ1 vs eq x1 R1 G1 r1 h1=>by
    by_cases hl:ps.length<=lim
    · refine ⟨by rw [<- r1.length]; exact W2 hl,new_at x1 R1 r1 fun H2 ρ2 a us=>k ps st1 H2 ρ2 a us ?_⟩
      unfold y9
      rw [eq]
      exact if_pos hl
    · rw [if_neg hl] at h1; exact h1.elim)⟩
def mListN (ma:ME):ML:=fun Γ st=>(ma Γ st).bind fun p st1=>match Wc st1 p with
  | some xs=>.ok xs st1
  | none=>.stuck
theorem sn_list {p:Pos} (ha:SimE X E a ma) (hg:Gl X "list") (hm:X.mg "list" = none) (he:starEach [a] X.env=(false,eval a X.env) :: starEach [] X.env:=by rfl):SimN X E (.Call (.Name "list" p) [a] [] pos) (mListN ma):=
  ⟨fun Γ σ H ρ st P Q R G hq k=>WE.of (Q2i jr hg hm zx (Qm Zf Ju he) (by decide) (by decide) he rfl) (ha.use' R G hq.bind fun q st1 H1 ρ1 v eq x1 R1 G1 r1 h1=>by
    split at h1
    · rename_i xs e
      obtain ⟨t,b,vs,rfl,hq2,ra⟩:=qc (K:=X.K) R1 r1 e
      refine ⟨b,vs,rfl,sqK_or hq2,new_at x1 R1 ra fun H2 ρ2 a us=>k xs st1 H2 ρ2 a us ?_⟩
      unfold mListN
      rw [eq]
      show (match Wc st1 q with | some xs=>Res.ok xs st1 | none=>.stuck)=_
      rw [e]
    · exact h1.elim)⟩
end
end Sm
namespace Sm
open PySem PySem.Spec L2
def Zj (cap:List (Option Nat)) (Γ:Gam):Gam:=cap.map fun c=>c.bind fun j=>(Γ[j]?).join
theorem EnvR.cap {H:Hp} {ρ:Tk} {Γ:Gam} {σ:St} (h:EnvR H ρ Γ σ) (cap:List (Option Nat)):EnvR H ρ (Zj cap Γ) (jq cap σ):=by
  refine ⟨by unfold Zj jq; rw [O5,O5],fun i p e=>?_⟩
  unfold Zj at e
  unfold jq
  rw [E5] at e ⊢
  cases q:cap[i]? with
  | none=>rw [q] at e; cases e
  | some c=>
    rw [q] at e
    cases c with
    | none=>cases e
    | some j=>
      have e':(Γ[j]?).join=some p:=Option.some.inj e
      cases r:Γ[j]? with
      | none=>rw [r] at e'; cases e'
      | some o=>
        rw [r] at e'
        have:o=some p:=e'
        subst this
        obtain ⟨v,e1,e2⟩:=h.2 j p r
        exact ⟨v,by show some ((σ[j]?).join)=some (some v); rw [e1]; rfl,e2⟩
def FreeT (cap:List (Option Nat)) (ga:GA):Prop:=∀ Γ p Γ1,ga p (Zj cap Γ)=some Γ1->Γ1.length=(Zj cap Γ).length/\∀ (i:Nat) (q:PV),(Zj cap Γ)[i]?=some (some q)->Γ1[i]?=some (some q)
theorem capG_none {cap:List (Option Nat)} {i:Nat} (h:cap[i]?=some none) (Γ:Gam):(Zj cap Γ)[i]?=some none:=by
  unfold Zj
  rw [E5,h]; rfl
theorem Y8 {cap:List (Option Nat)} {i:Nat} (h:cap[i]?=some none:=by rfl):FreeT cap (Qg i):=fun Γ p Γ1 e=>by
  cases e
  refine ⟨G8 ..,fun j q hj=>?_⟩
  rw [E3 fun z=>?_]
  · exact hj
  · subst z; rw [capG_none h] at hj; cases hj
def FreeL (cap:List (Option Nat)) (ga:GAs):Prop:=∀ Γ ps Γ0 Γ1,(∀ (i:Nat) (q:PV),(Zj cap Γ)[i]?=some (some q)->Γ0[i]?=some (some q))->ga ps Γ0=some Γ1->Γ1.length=Γ0.length/\∀ (i:Nat) (q:PV),(Zj cap Γ)[i]?=some (some q)->Γ1[i]?=some (some q)
theorem free_nil {cap:List (Option Nat)}:FreeL cap Uq:=fun Γ ps Γ0 Γ1 h e=>by
  cases ps with
  | nil=>cases e; exact ⟨rfl,h⟩
  | cons _ _=>cases e
theorem Kj {cap:List (Option Nat)} {i:Nat} {gs:GAs} (hs:FreeL cap gs) (h:cap[i]?=some none:=by rfl):FreeL cap (Jq (Qg i) gs):=fun Γ ps Γ0 Γ1 h0 e=>by
  cases ps with
  | nil=>cases e
  | cons p ps=>
    obtain ⟨a,b⟩:=hs Γ ps (Γ0.set i (some p)) Γ1 (fun k r hk=>by
      rw [E3 fun z=>?_]
      · exact h0 k r hk
      · subst z; rw [capG_none h] at hk; cases hk) e
    exact ⟨by rw [a,G8],b⟩
theorem free_tup {cap:List (Option Nat)} {gs:GAs} (hs:FreeL cap gs):FreeT cap (Up gs):=fun Γ p Γ1 e=>by
  cases p with
  | tup ps=>exact hs Γ ps _ Γ1 (fun _ _ h=>h) e
  | _=>cases e
open Classical in
def Z2 (ga:GA) (mt:MT) (me:ME) (w:Wt) (Γ0:Gam):List PV->Q1->Res (List PV)
  | [],st=>if wOk w st then .ok [] st else .stuck
  | x :: xs,st=>if wOk w st then (match ga x Γ0 with
    | none=>.stuck
    | some Γ1=>(mt Γ1 st).bind fun b st1=>if b=true then (me Γ1 st1).bind fun y st2=>(Z2 ga mt me w Γ0 xs st2).bind fun ys st3=>.ok (y :: ys) st3 else Z2 ga mt me w Γ0 xs st1) else .stuck
def noX {α:Type}:Res α->Res α
  | .exc _ _=>.stuck
  | r=>r
def Yj (cap:List (Option Nat)) (ga:GA) (mi:MI) (mt:MT) (me:ME):ML:=fun Γ st=>(mi Γ st).bind fun iw st1=>noX (Z2 ga mt me iw.2 (Zj cap Γ) iw.1 st1)
structure SimTs (X:Cx) (ifs:List Expr) (m:MT):Prop where
  run:∀ (Γ:Gam) (σ:St) (H:Hp) (ρ:Tk) (st:Q1) (P:Bool->Q1->Hp->Tk->Prop) (Q:Bool->Hp->Prop),Rel H ρ st->EnvR H ρ Γ σ->Acc X.mg E0 H ρ P (m Γ st) ->
    (∀ b st1 H1 ρ1,m Γ st=.ok b st1->Ext H ρ H1 ρ1->Rel H1 ρ1 st1->EnvR H1 ρ1 Γ σ->Q b H1)->∃ t,PTs X ifs t/\t σ H Q
def Wg:MT:=fun _ st=>.ok true st
theorem Vc {X:Cx}:SimTs X [] Wg:=⟨fun Γ σ H ρ st P Q R G h k=>⟨_,pts_nil,k true st H ρ rfl (Ext.refl _ _) R G⟩⟩
theorem sts_one {X:Cx} {c:Expr} {m:MT} (hc:SimT X E0 c m):SimTs X [c] m:=⟨fun Γ σ H ρ st P Q R G h k=>⟨_,pts_one pt_w,hc.use' R G h fun b st1 H1 ρ1 e x1 R1 G1 p=>k b st1 H1 ρ1 e x1 R1 G1⟩⟩
theorem acc_noX {α:Type} {mg:Str->Option Value} {E E':XK} {H:Hp} {ρ:Tk} {P:α->Q1->Hp->Tk->Prop} {r:Res α} (h:Acc mg E H ρ P (noX r)):Acc mg E' H ρ P r:=by
  cases r with
  | ok a st=>exact h
  | exc x st=>exact h.elim
  | stuck=>exact h
theorem Res.assoc {α β γ:Type} (r:Res α) (f:α->Q1->Res β) (g:β->Q1->Res γ):(r.bind f).bind g=r.bind fun a st=>(f a st).bind g:=by cases r <;> rfl
theorem Acc.assoc {α β γ:Type} {mg:Str->Option Value} {E:XK} {H:Hp} {ρ:Tk} {P:γ->Q1->Hp->Tk->Prop} {r:Res α} {f:α->Q1->Res β} {g:β->Q1->Res γ} (h:Acc mg E H ρ P ((r.bind f).bind g)):Acc mg E H ρ P (r.bind fun a st=>(f a st).bind g):=by
  rw [<- Res.assoc]; exact h
theorem EnvR.le {H:Hp} {ρ:Tk} {Γ Γ':Gam} {σ:St} (h:EnvR H ρ Γ' σ) (hl:Γ.length=σ.length) (k:∀ (i:Nat) (q:PV),Γ[i]?=some (some q)->Γ'[i]?=some (some q)):EnvR H ρ Γ σ:=⟨hl,fun i p e=>h.2 i p (k i p e)⟩
section
variable {X:Cx} {E:XK} {pos:Pos} {tg iter elt:Expr} {ifs:List Expr} {N N':List Str} {sc scE:Scope} {cap:List (Option Nat)} {ga:GA} {mi:MI} {mt:MT} {me:ME}
def aE (X:Cx) (N':List Str) (sc:Scope) (e:Expr):TE:=fun σ H Q=>∀ cl C s0 H0 ex,WE (Va X N' sc cl C s0 H0 ex) e σ H Q
def aG (X:Cx) (N':List Str) (sc:Scope) (tg:Expr):TG:=fun v σ H Q=>∀ cl C s0 H0 ex,WGx (Va X N' sc cl C s0 H0 ex) tg v σ H Q
def aT (X:Cx) (N':List Str) (sc:Scope) (ifs:List Expr):TT:=fun σ H Q=>∀ cl C s0 H0 ex,∃ t,PTs (Va X N' sc cl C s0 H0 ex) ifs t/\t σ H Q
theorem comp_body {Γ:Gam} {σ:St} {H1:Hp} {ρ1:Tk} {st1:Q1} {J:It} {items:List PV} {w:Wt} {Q:VK} {P:List PV->Q1->Hp->Tk->Prop} (hg:∀ cl C s0 H0 ex,SimG (Va X N' sc cl C s0 H0 ex) tg ga) (he:∀ cl C s0 H0 ex,SimE (Va X N' sc cl C s0 H0 ex) E0 elt me) (ht:∀ cl C s0 H0 ex,SimTs (Va X N' sc cl C s0 H0 ex) ifs mt)
    (hf:FreeT cap ga) (R1:Rel H1 ρ1 st1) (G1:EnvR H1 ρ1 Γ σ) (src:Src J items w H1 ρ1) (hlen:items.length<=sizeLine) (h:Acc X.mg E0 H1 ρ1 P (Z2 ga mt me w (Zj cap Γ) items st1))
    (k:∀ ys st2 H2 ρ2 acc vs,Z2 ga mt me w (Zj cap Γ) items st1=.ok ys st2->Ext H1 ρ1 H2 ρ2->Rel H2 ρ2 st2->acc∈ρ2.hid->H1 acc=none->H2 acc=some (.lst vs)->RepL H2 ρ2 ys vs->Q (.ref acc) H2):compBodyT J cap (aG X N' sc tg) (aT X N' sc ifs) (aE X N' sc elt) σ H1 Q:=by
  intro acc hacc
  let W:Nat->Nat->List V->St->Hp->Prop:=fun i m vs σ' H'=>m=items.length - i/\i<=items.length/\vs.length<=i/\∃ ρ' st' ys,Ext H1 ρ1 H' ρ'/\acc∈ρ'.hid/\Rel H' ρ' st'/\EnvR H' ρ' (Zj cap Γ) σ'/\H' acc=some (.lst vs)/\RepL H' ρ' ys vs /\
    Z2 ga mt me w (Zj cap Γ) items st1=(Z2 ga mt me w (Zj cap Γ) (items.drop i) st').bind fun zs st3=>.ok (ys ++ zs) st3
  refine ⟨W,⟨_,rfl,Nat.zero_le _,O6 _,ρ1.hide acc,st1,[],Ext.hide hacc,E4,R1.hide hacc,(G1.cap cap).hide hacc,Qb,rfl,?_⟩,?_⟩
  · rw [List.drop_zero]
    cases r:Z2 ga mt me w (Zj cap Γ) items st1 with
    | ok zs st3=>rfl
    | exc x st3=>rfl
    | stuck=>rfl
  rintro i m vs σ' H' ⟨hm,hi,hvl,ρ',st',ys,x,hmem,R',G',ha,ry,hq⟩
  have hA:Acc X.mg E0 H1 ρ1 P ((Z2 ga mt me w (Zj cap Γ) (items.drop i) st').bind fun zs st3=>.ok (ys ++ zs) st3):=by rw [<- hq]; exact h
  refine ⟨ha,?_⟩
  by_cases hlt:i < items.length
  · right
    have hd:items.drop i=items[i] :: items.drop (i + 1):=List.drop_eq_getElem_cons hlt
    rw [hd,Z2] at hA hq
    by_cases hw:wOk w st'
    · rw [if_pos hw] at hA hq
      refine ⟨src.go H' _ st' x R' hw i hlt,by omega,fun y H2 hy=>?_⟩
      obtain ⟨sm,ry2⟩:=src.yld H' _ st' x R' hw i _ (O2 hlt) y H2 hy
      cases eg:ga items[i] (Zj cap Γ) with
      | none=>rw [eg] at hA; exact hA.elim
      | some Γ1=>
        rw [eg] at hA hq
        have x2:Ext H' ρ' H2 ρ':=Ext.same sm
        have R2:=R'.same sm
        intro cl C s0 H0 ex
        refine (hg cl C s0 H0 ex).run (Zj cap Γ) Γ1 σ' H2 ρ' _ y _ (G'.ext x2) ry2 eg fun σ3 G3=>?_
        intro cl C s0 H0 ex
        have hA2:=Acc.later hA (x.trans x2)
        refine (ht cl C s0 H0 ex).run Γ1 σ3 H2 ρ' st' _ _ R2 G3 (Acc.bind (Acc.assoc hA2)) fun b st4 H4 ρ4 e4 x4 R4 G4=>?_
        simp only [e4,Res.bind] at hA hq
        have G0:∀ {H'':Hp} {ρ'':Tk},EnvR H'' ρ'' Γ1 σ3->EnvR H'' ρ'' (Zj cap Γ) σ3:=fun {H'' ρ''} g=>g.le (by
          rw [<- G3.1]
          exact (hf Γ _ Γ1 eg).1.symm) (hf Γ _ Γ1 eg).2
        have x14:Ext H1 ρ1 H4 ρ4:=x.trans (x2.trans x4)
        have hm4:acc∈ρ4.hid:=x4.hidM acc hmem
        have na:acc∉ρ'.tr:=R'.ap acc hmem
        have ha4:H4 acc=some (.lst vs):=x4.keep acc _ (sm acc _ ha) na
        have ry4:RepL H4 ρ4 ys vs:=ry.ext (x2.trans x4)
        cases b with
        | false=>
          rw [if_neg O9] at hA hq ⊢
          exact ⟨_,show items.length - (i + 1) < m by omega,rfl,hlt,by omega,ρ4,st4,ys,x14,hm4,R4,G0 G4,ha4,ry4,hq⟩
        | true=>
          rw [if_pos rfl] at hA hq ⊢
          intro cl C s0 H0 ex
          have hA4:=Acc.later hA x14
          refine (he cl C s0 H0 ex).use' R4 G4 (Acc.bind (Acc.assoc hA4)) fun z st5 H5 ρ5 zv e5 x5 R5 G5 r5 h5=>?_
          simp only [e5,Res.bind] at hA hq
          have hm5:acc∈ρ5.hid:=x5.hidM acc hm4
          have ha5:H5 acc=some (.lst vs):=x5.keep acc _ ha4 (R4.ap acc hm4)
          have x15:Ext H1 ρ1 H5 ρ5:=x14.trans x5
          refine ⟨ha5,_,show items.length - (i + 1) < m by omega,rfl,hlt,by rw [D5]; simp; omega,ρ5,st5,ys ++ [z],x15.put0 hacc,hm5,R5.rehide hm5,(G0 G5).rehide hm5,Qb,((ry4.ext x5).append (RepL.cons r5 RepL.nil)).rehide hm5,?_⟩
          refine hq.trans ?_
          cases rr:Z2 ga mt me w (Zj cap Γ) (items.drop (i + 1)) st5 with
          | ok zs st6=>
            show Res.ok (ys ++ z :: zs) st6=Res.ok ((ys ++ [z]) ++ zs) st6
            rw [F4]; rfl
          | exc x6 st6=>rfl
          | stuck=>rfl
    · rw [if_neg hw] at hA; exact hA.elim
  · left
    have ei:i=items.length:=by omega
    subst ei
    rw [List.drop_length,Z2] at hA hq
    by_cases hw:wOk w st'
    · rw [if_pos hw] at hA hq
      refine ⟨src.stop H' _ st' x R' hw,?_⟩
      have hq:Z2 ga mt me w (Zj cap Γ) items st1=.ok (ys ++ []) st':=hq
      rw [F6] at hq
      exact k ys st' H' ρ' acc vs hq x R' hmem hacc ha ry
    · rw [if_neg hw] at hA; exact hA.elim
theorem comp_run {Γ:Gam} {σ:St} {H:Hp} {ρ:Tk} {st:Q1} {Q:VK} {P:List PV->Q1->Hp->Tk->Prop} (hi:SimI X E tg iter mi) (hg:∀ cl C s0 H0 ex,SimG (Va X N' sc cl C s0 H0 ex) tg ga) (he:∀ cl C s0 H0 ex,SimE (Va X N' sc cl C s0 H0 ex) E0 elt me) (ht:∀ cl C s0 H0 ex,SimTs (Va X N' sc cl C s0 H0 ex) ifs mt)
    (hf:FreeT cap ga) (R:Rel H ρ st) (G:EnvR H ρ Γ σ) (h:Acc X.mg E H ρ P (Yj cap ga mi mt me Γ st)) (k:∀ ps st2 H2 ρ2 a vs,Yj cap ga mi mt me Γ st=.ok ps st2->Ext H ρ H2 ρ2->Rel H2 ρ2 st2->a∈ρ2.hid->H a=none->H2 a=some (.lst vs)->RepL H2 ρ2 ps vs->Q (.ref a) H2):tCompT cap (WI X tg iter) (aG X N' sc tg) (aT X N' sc ifs) (aE X N' sc elt) σ H Q:=by
  refine hi.run Γ σ H ρ st _ _ R G h.bind fun iw st1 H1 ρ1 J eq x1 R1 G1 ok hl src h1=>?_
  refine comp_body hg he ht hf R1 G1 src hl (acc_noX (E':=E0) h1) fun ys st2 H2 ρ2 acc vs eq2 x2 R2 hm hn ha ry=>?_
  refine k ys st2 H2 ρ2 acc vs ?_ (x1.trans x2) R2 hm ?_ ha ry
  · unfold Yj
    rw [eq]
    show noX _=_
    rw [eq2]; rfl
  cases e:H acc with
  | none=>rfl
  | some o=>
    obtain ⟨o',e'⟩:=x1.old acc o e
    rw [hn] at e'; cases e'
theorem pg_a {N':List Str} {sc:Scope} {tg:Expr}:∀ cl C s0 H0 ex,PG (Va X N' sc cl C s0 H0 ex) tg (aG X N' sc tg):=fun cl C s0 H0 ex pins s σ H v u Q I r h=>pg_x pins s σ H v u Q I r (h cl C s0 H0 ex)
theorem pe_a {N':List Str} {sc:Scope} {e:Expr}:∀ cl C s0 H0 ex,PE (Va X N' sc cl C s0 H0 ex) e (aE X N' sc e):=fun cl C s0 H0 ex pins s σ H Q I h=>h cl C s0 H0 ex pins s I
theorem pts_a {N':List Str} {sc:Scope} {ifs:List Expr}:∀ cl C s0 H0 ex,PTs (Va X N' sc cl C s0 H0 ex) ifs (aT X N' sc ifs):=fun cl C s0 H0 ex pins s σ H Q I h=>by
  obtain ⟨t,a,b⟩:=h cl C s0 H0 ex
  exact a pins s σ H Q I b
theorem Yx (cap:List (Option Nat)) (N':List Str) (hcalm:X.calm=true) (hi:SimI X E tg iter mi) (hg:∀ cl C s0 H0 ex,SimG (Va X N' sc cl C s0 H0 ex) tg ga) (he:∀ cl C s0 H0 ex,SimE (Va X N' sc cl C s0 H0 ex) E0 elt me) (ht:∀ cl C s0 H0 ex,SimTs (Va X N' sc cl C s0 H0 ex) ifs mt)
    (hf:FreeT cap ga) (hN:X.N=N:=by rfl) (hE:X.env.scope=scE:=by rfl) (hc:compOkC N N' sc scE cap=true:=by kernel_rfl) (hs:∀ x,foldedSetIterable iter X.env x=pure x:=by intro _; rfl) :
    SimN X E (.ListComp elt [⟨tg,iter,ifs,0⟩] sc pos) (Yj cap ga mi mt me):=
  ⟨fun Γ σ H ρ st P Q R G h k=>WE.of (pe_compT hcalm pi_w pg_a pe_a pts_a hN hE hc hs) (comp_run hi hg he ht hf R G h k)⟩
end
end Sm
namespace Sm
open PySem PySem.Spec L2
inductive SR where
  | nx (Γ:Gam) (st:Q1) | rt (v:PV) (st:Q1) | bk (Γ:Gam) (st:Q1) | ct (Γ:Gam) (st:Q1) | exc (x:Exc) (st:Q1) | stuck
abbrev MS:=Gam->Q1->SR
def Res.sbind {α:Type} (r:Res α) (f:α->Q1->SR):SR:=match r with
  | .ok a st=>f a st
  | .exc x st=>.exc x st
  | .stuck=>.stuck
def AccS (mg:Str->Option Value) (E:XK) (D:Ends) (H:Hp) (ρ:Tk):SR->Prop
  | .nx Γ st=>∀ σ' H' ρ',Ext H ρ H' ρ'->Rel H' ρ' st->EnvR H' ρ' Γ σ'->D.nx σ' H'
  | .bk Γ st=>∀ σ' H' ρ',Ext H ρ H' ρ'->Rel H' ρ' st->EnvR H' ρ' Γ σ'->D.bk σ' H'
  | .ct Γ st=>∀ σ' H' ρ',Ext H ρ H' ρ'->Rel H' ρ' st->EnvR H' ρ' Γ σ'->D.ct σ' H'
  | .rt p st=>∀ v H' ρ',Ext H ρ H' ρ'->Rel H' ρ' st->Rep H' ρ' p v->D.rt v H'
  | .exc x st=>∀ C dv H' ρ',mg x.cls=some (.ref C)->Ext H ρ H' ρ'->Rel H' ρ' st->XFs H' ρ' x.fs dv->E (.ref C) dv H'
  | .stuck=>False
section
variable {α:Type} {mg:Str->Option Value} {E:XK} {D:Ends} {H H1:Hp} {ρ ρ1:Tk}
theorem AccS.later {r:SR} (h:AccS mg E D H ρ r) (x:Ext H ρ H1 ρ1):AccS mg E D H1 ρ1 r:=by
  cases r with
  | nx Γ st=>exact fun σ' H' ρ' x'=>h σ' H' ρ' (x.trans x')
  | bk Γ st=>exact fun σ' H' ρ' x'=>h σ' H' ρ' (x.trans x')
  | ct Γ st=>exact fun σ' H' ρ' x'=>h σ' H' ρ' (x.trans x')
  | rt p st=>exact fun v H' ρ' x'=>h v H' ρ' (x.trans x')
  | exc y st=>exact fun C dv H' ρ' m x'=>h C dv H' ρ' m (x.trans x')
  | stuck=>exact h
theorem AccS.bind {r:Res α} {f:α->Q1->SR} (h:AccS mg E D H ρ (r.sbind f)):Acc mg E H ρ (fun a st1 H1 ρ1=>AccS mg E D H1 ρ1 (f a st1)) r:=by
  cases r with
  | ok a st=>exact fun H' ρ' x' R'=>AccS.later (show AccS mg E D H ρ (f a st) from h) x'
  | exc e st=>exact h
  | stuck=>exact h
end
structure SimS (X:Cx) (E:XK) (s:Stmt) (m:MS):Prop where
  run:∀ (Γ:Gam) (σ:St) (H:Hp) (ρ:Tk) (st:Q1) (D:Ends),Rel H ρ st->EnvR H ρ Γ σ->AccS X.mg E D H ρ (m Γ st)->WS X s D σ H
structure SimB (X:Cx) (E:XK) (ss:List Stmt) (m:MS):Prop where
  run:∀ (Γ:Gam) (σ:St) (H:Hp) (ρ:Tk) (st:Q1) (D:Ends),Rel H ρ st->EnvR H ρ Γ σ->AccS X.mg E D H ρ (m Γ st)->WB X ss D σ H
section
variable {X:Cx} {E:XK} {pos:Pos} {e:Expr} {m:ME}
def Z5:MS:=fun Γ st=>.nx Γ st
def Qh (m1 m2:MS):MS:=fun Γ st=>match m1 Γ st with
  | .nx Γ1 st1=>m2 Γ1 st1
  | r=>r
theorem Jn:SimB X E [] Z5:=⟨fun Γ σ H ρ st D R G h=>WB.of pss_nil (h σ H ρ (Ext.refl _ _) R G)⟩
theorem Qa {s:Stmt} {rest:List Stmt} {m1 m2:MS} (h1:SimS X E s m1) (h2:SimB X E rest m2):SimB X E (s :: rest) (Qh m1 m2):=
  ⟨fun Γ σ H ρ st D R G h=>WB.of (Xk ps_w Q0j) (h1.run Γ σ H ρ st _ R G (by
    unfold Qh at h
    cases r:m1 Γ st with
    | nx Γ1 st1=>rw [r] at h; exact fun σ' H' ρ' x' R' G'=>h2.run Γ1 σ' H' ρ' st1 D R' G' (AccS.later h x')
    | bk Γ1 st1=>rw [r] at h; exact h
    | ct Γ1 st1=>rw [r] at h; exact h
    | rt p st1=>rw [r] at h; exact h
    | exc x st1=>rw [r] at h; exact h
    | stuck=>rw [r] at h; exact h))⟩
theorem Qe {s:Stmt} {m1:MS} (h1:SimS X E s m1):SimB X E [s] m1:=⟨fun Γ σ H ρ st D R G h=>WB.of (jb ps_w) (h1.run Γ σ H ρ st D R G h)⟩
def mBreak:MS:=fun Γ st=>.bk Γ st
theorem ss_break:SimS X E (.Break pos) mBreak:=⟨fun Γ σ H ρ st D R G h=>WS.of ps_break (h σ H ρ (Ext.refl _ _) R G)⟩
def Xw (m:ME):MS:=fun Γ st=>(m Γ st).sbind fun _ st1=>.nx Γ st1
theorem Vd (he:SimE X E e m) (hs:swapsWith e none pos.line X.env=pure false:=by rfl):SimS X E (.Expr e pos) (Xw m):=
  ⟨fun Γ σ H ρ st D R G h=>WS.of (ps_expr Zf hs) (he.use R G h.bind fun p st1 H1 ρ1 v x1 R1 G1 r1 h1=>h1 σ H1 ρ1 (Ext.refl _ _) R1 G1)⟩
def Z4 (m:ME):MS:=fun Γ st=>(m Γ st).sbind fun p st1=>.rt p st1
theorem Qu (he:SimE X E e m):SimS X E (.Return (some e) pos) (Z4 m):=
  ⟨fun Γ σ H ρ st D R G h=>WS.of (ps_ret Zf) (he.use R G h.bind fun p st1 H1 ρ1 v x1 R1 G1 r1 h1=>h1 v H1 ρ1 (Ext.refl _ _) R1 r1)⟩
def Jp (i:Nat) (m:ME):MS:=fun Γ st=>(m Γ st).sbind fun p st1=>.nx (Γ.set i (some p)) st1
theorem Jb (i:Nat) {x:Str} {pos':Pos} (hN:X.N.Nodup) (he:SimE X E e m) (hi:X.N[i]?=some x:=by rfl) (hx:Loc X.env.scope x:=by first | exact Or.inl rfl | exact Or.inr rfl) (hs:swapsWith e (some (.Name x pos')) pos.line X.env=pure false:=by rfl) (hf:X.fn x=true\/X.env.scope.names.lookup x=some .local:=by first | exact .inl rfl | exact .inr rfl) :
    SimS X E (.Assign [.Name x pos'] e pos) (Jp i m):=
  ⟨fun Γ σ H ρ st D R G h=>WS.of (ps_set hN hi hx Zf hs hf) (he.use R G h.bind fun p st1 H1 ρ1 v x1 R1 G1 r1 h1=>h1 _ H1 ρ1 (Ext.refl _ _) R1 (G1.set r1 i))⟩
section
variable {tg iter elt:Expr} {ifs:List Expr} {N N':List Str} {sc scE:Scope} {ga:GA} {mi:MI} {mt:MT} {me:ME}
end
def qy (st:Q1) (o i p:PV):Option Q1:=match o,i with
  | .ref k,.int j=>match st[k]? with
    | some (.lst xs)=>(ixN xs.length j).map fun n=>st.set k (.lst (xs.set n p))
    | _=>none
  | _,_=>none
def qi (mo mi m:ME):MS:=fun Γ st=>(m Γ st).sbind fun p st1=>(mo Γ st1).sbind fun o st2=>(mi Γ st2).sbind fun i st3=>match qy st3 o i p with
  | some st4=>.nx Γ st4
  | none=>.stuck
theorem set_run {H:Hp} {ρ:Tk} {st st':Q1} {o i p:PV} {x y z:V} (R:Rel H ρ st) (ro:Rep H ρ o x) (ri:Rep H ρ i y) (rp:Rep H ρ p z) (e:qy st o i p=some st') :
    ∃ a vs k j,x=.ref a/\y=.int k/\H a=some (.lst vs)/\ixN vs.length k=some j/\Ext H ρ (upd H a (.lst (vs.set j z))) ρ/\Rel (upd H a (.lst (vs.set j z))) ρ st':=by
  unfold qy at e
  split at e
  · rename_i k j
    split at e
    · rename_i xs hs
      cases ej:ixN xs.length j with
      | none=>rw [ej] at e; cases e
      | some n=>
        rw [ej] at e
        have e:st.set k (.lst (xs.set n p))=st':=Option.some.inj e
        subst e
        obtain ⟨a,ea,rfl⟩:=ro
        cases ri
        obtain ⟨b,vs,f1,f2,f3⟩:=R.lst hs
        rw [ea] at f1; cases f1
        exact ⟨a,vs,j,n,rfl,rfl,f2,by rw [<- f3.length]; exact ej,Ext.put (D8 ea) f2,R.put ea f2 (f3.set rp n)⟩
    · cases e
  · cases e
theorem ss_sub {o i:Expr} {mo mi:ME} {tpos:Pos} (he:SimE X E e m) (ho:SimE X E o mo) (hi:SimE X E i mi)
    (ha:∀ v,assign (.Subscript o i tpos) X.env v=(do
      let ov <- holding [v] (eval o X.env)
      let iv <- holding [v,ov] (eval i X.env)
      standAt tpos
      holding [v,ov,iv] (setItem ov iv v)
      release [v,ov,iv] []):=by intro _; rfl)
    (hs:swapsWithSole [.Subscript o i tpos] e pos.line X.env=pure false:=by rfl) (hw:swappedStores [.Subscript o i tpos] e X.env=pure none:=by rfl) (h1:(assignEach [.Subscript o i tpos] X.env).map (·.2)=[assign (.Subscript o i tpos) X.env]:=by rfl) :
    SimS X E (.Assign [.Subscript o i tpos] e pos) (qi mo mi m):=
  ⟨fun Γ σ H ρ st D R G h=>WS.of (ps_asg Zf (pg_sub Zf Zf set_list ha) hs hw h1) (he.use R G h.bind fun p st1 H1 ρ1 z x1 R1 G1 r1 h1=>ho.use R1 G1 h1.bind fun ov st2 H2 ρ2 x x2 R2 G2 r2 h2=>hi.use R2 G2 h2.bind fun iv st3 H3 ρ3 y x3 R3 G3 r3 h3=>by
    cases es:qy st3 ov iv p with
    | none=>rw [es] at h3; exact h3.elim
    | some st4=>
      rw [es] at h3
      obtain ⟨a,vs,k,j,rfl,rfl,f1,f2,x4,R4⟩:=set_run R3 (r2.ext x3) r3 (r1.ext (x2.trans x3)) es
      exact ⟨a,vs,k,j,rfl,rfl,f1,f2,h3 σ _ ρ3 x4 R4 (G3.ext x4)⟩)⟩
def Yc (mt:MT) (ma mb:MS):MS:=fun Γ st=>(mt Γ st).sbind fun b st1=>if b=true then ma Γ st1 else mb Γ st1
theorem Zq {c:Expr} {a b:List Stmt} {mt:MT} {ma mb:MS} (hc:SimT X E c mt) (ha:SimB X E a ma) (hb:SimB X E b mb):SimS X E (.If c a b pos) (Yc mt ma mb):=
  ⟨fun Γ σ H ρ st D R G h=>WS.of (ps_if pt_w Q0j Q0j) (hc.use R G h.bind fun k st1 H1 ρ1 x1 R1 G1 h1=>by
    cases k with
    | true=>rw [if_pos rfl] at h1 ⊢; exact ha.run Γ σ H1 ρ1 st1 D R1 G1 h1
    | false=>rw [if_neg O9] at h1 ⊢; exact hb.run Γ σ H1 ρ1 st1 D R1 G1 h1)⟩
open Classical in
def V6 (ga:GA) (body:MS) (w:Wt):List PV->Gam->Q1->SR
  | [],Γ,st=>if wOk w st then .nx Γ st else .stuck
  | x :: xs,Γ,st=>if wOk w st then (match ga x Γ with
    | none=>.stuck
    | some Γ1=>match body Γ1 st with
      | .nx Γ2 st2=>V6 ga body w xs Γ2 st2
      | .ct Γ2 st2=>V6 ga body w xs Γ2 st2
      | .bk Γ2 st2=>.nx Γ2 st2
      | .rt v st2=>.rt v st2
      | .exc x st2=>.exc x st2
      | .stuck=>.stuck) else .stuck
def Xv (ga:GA) (mi:MI) (body:MS):MS:=fun Γ st=>(mi Γ st).sbind fun iw st1=>V6 ga body iw.2 iw.1 Γ st1
theorem Wb {tg iter:Expr} {bd:List Stmt} {ga:GA} {mi:MI} {body:MS} (hp:PassesOwn (model X.prog X.w) X.A X.env X.xe) (hc:X.calm=true) (hi:SimI X E tg iter mi) (hg:SimG X tg ga) (hb:SimB X E bd body)
    (hs:∀ x,foldedSetIterable iter X.env x=pure x:=by intro _; rfl):SimS X E (.For tg iter bd [] pos) (Xv ga mi body):=
  ⟨fun Γ σ H ρ st D R G h=>WS.of (ps_for hp hc pi_w pg_x Q0j hs) (hi.run Γ σ H ρ st _ _ R G h.bind fun iw st1 H1 ρ1 J eq x1 R1 G1 ok hl src h1=>by
    let W:Nat->Nat->St->Hp->Prop:=fun i m σ' H'=>m=iw.1.length - i/\i<=iw.1.length/\∃ Γ' ρ' st',Ext H1 ρ1 H' ρ'/\Rel H' ρ' st'/\EnvR H' ρ' Γ' σ'/\AccS X.mg E D H' ρ' (V6 ga body iw.2 (iw.1.drop i) Γ' st')
    refine ⟨W,⟨_,rfl,Nat.zero_le _,Γ,ρ1,st1,Ext.refl _ _,R1,G1,by rw [List.drop_zero]; exact h1⟩,?_⟩
    rintro i m σ' H' ⟨hm,hi',Γ',ρ',st',x,R',G',hA⟩
    by_cases hlt:i < iw.1.length
    · right
      have hd:iw.1.drop i=iw.1[i] :: iw.1.drop (i + 1):=List.drop_eq_getElem_cons hlt
      rw [hd,V6] at hA
      by_cases hw:wOk iw.2 st'
      · rw [if_pos hw] at hA
        refine ⟨src.go H' ρ' st' x R' hw i hlt,fun σ2 H2=>W (i + 1) (iw.1.length - (i + 1)) σ2 H2,fun σ2 H2 z=>⟨_,by omega,z⟩,fun y H2 hy=>?_⟩
        obtain ⟨sm,ry⟩:=src.yld H' ρ' st' x R' hw i _ (O2 hlt) y H2 hy
        have x2:Ext H' ρ' H2 ρ':=Ext.same sm
        cases eg:ga iw.1[i] Γ' with
        | none=>rw [eg] at hA; exact hA.elim
        | some Γ1=>
          rw [eg] at hA
          refine hg.run Γ' Γ1 σ' H2 ρ' _ y _ (G'.ext x2) ry eg fun σ3 G3=>?_
          have hA2:=AccS.later hA x2
          simp only at hA2
          refine hb.run Γ1 σ3 H2 ρ' st' _ (R'.same sm) G3 ?_
          have again:∀ {Γ2:Gam} {st2:Q1},AccS X.mg E D H2 ρ' (V6 ga body iw.2 (iw.1.drop (i + 1)) Γ2 st2)->∀ σ' H'' ρ'',Ext H2 ρ' H'' ρ''->Rel H'' ρ'' st2->EnvR H'' ρ'' Γ2 σ'->W (i + 1) (iw.1.length - (i + 1)) σ' H'':=fun {Γ2 st2} a σ4 H4 ρ4 x4 R4 G4=>
            ⟨rfl,hlt,Γ2,ρ4,st2,x.trans (x2.trans x4),R4,G4,AccS.later a x4⟩
          cases rb:body Γ1 st' with
          | nx Γ2 st2=>rw [rb] at hA2; exact again hA2
          | ct Γ2 st2=>rw [rb] at hA2; exact again hA2
          | bk Γ2 st2=>rw [rb] at hA2; exact hA2
          | rt v st2=>rw [rb] at hA2; exact hA2
          | exc y st2=>rw [rb] at hA2; exact hA2
          | stuck=>rw [rb] at hA2; exact hA2.elim
      · rw [if_neg hw] at hA; exact hA.elim
    · left
      have ei:i=iw.1.length:=by omega
      subst ei
      rw [List.drop_length,V6] at hA
      by_cases hw:wOk iw.2 st'
      · rw [if_pos hw] at hA
        exact ⟨src.stop H' ρ' st' x R' hw,hA σ' H' ρ' (Ext.refl _ _) R' G'⟩
      · rw [if_neg hw] at hA; exact hA.elim)⟩
def Vn (mt:MT) (body:MS):Nat->Gam->Q1->SR
  | 0,_,_=>.stuck
  | n + 1, Γ, st => (mt Γ st).sbind fun b st1 => if b = true then (match body Γ st1 with
      | .nx Γ2 st2=>Vn mt body n Γ2 st2
      | .ct Γ2 st2=>Vn mt body n Γ2 st2
      | .bk Γ2 st2=>.nx Γ2 st2
      | .rt v st2=>.rt v st2
      | .exc x st2=>.exc x st2
      | .stuck=>.stuck) else .nx Γ st1
theorem ss_while (n:Nat) {c:Expr} {bd:List Stmt} {mt:MT} {body:MS} (hp:PassesOwn (model X.prog X.w) X.A X.env X.xe) (hc:SimT X E c mt) (hb:SimB X E bd body):SimS X E (.While c bd [] pos) (Vn mt body n):=
  ⟨fun Γ σ H ρ st D R G h=>WS.of (ps_while hp pt_w Q0j) (by
    let W:Nat->St->Hp->Prop:=fun m σ' H'=>∃ Γ' ρ' st',Rel H' ρ' st'/\EnvR H' ρ' Γ' σ'/\AccS X.mg E D H' ρ' (Vn mt body m Γ' st')
    refine ⟨W,⟨n,Γ,ρ,st,R,G,h⟩,?_⟩
    rintro m σ' H' ⟨Γ',ρ',st',R',G',hA⟩
    cases m with
    | zero=>exact hA.elim
    | succ m=>
      rw [Vn] at hA
      refine hc.use R' G' hA.bind fun b st1 H1 ρ1 x1 R1 G1 h1=>?_
      cases b with
      | false=>rw [if_neg O9] at h1 ⊢; exact h1 σ' H1 ρ1 (Ext.refl _ _) R1 G1
      | true=>
        rw [if_pos rfl] at h1 ⊢
        refine ⟨fun σ2 H2=>W m σ2 H2,fun σ2 H2 z=>⟨m,Nat.lt_succ_self _,z⟩,hb.run Γ' σ' H1 ρ1 st1 _ R1 G1 ?_⟩
        have again:∀ {Γ2:Gam} {st2:Q1},AccS X.mg E D H1 ρ1 (Vn mt body m Γ2 st2)->∀ σ' H'' ρ'',Ext H1 ρ1 H'' ρ''->Rel H'' ρ'' st2->EnvR H'' ρ'' Γ2 σ'->W m σ' H'':=fun {Γ2 st2} a σ4 H4 ρ4 x4 R4 G4=>⟨Γ2,ρ4,st2,R4,G4,AccS.later a x4⟩
        cases rb:body Γ' st1 with
        | nx Γ2 st2=>rw [rb] at h1; exact again h1
        | ct Γ2 st2=>rw [rb] at h1; exact again h1
        | bk Γ2 st2=>rw [rb] at h1; exact h1
        | rt v st2=>rw [rb] at h1; exact h1
        | exc y st2=>rw [rb] at h1; exact h1
        | stuck=>rw [rb] at h1; exact h1.elim)⟩
def mRaise (x:Str) (m:ME):MS:=fun Γ st=>(m Γ st).sbind fun _ st1=>.exc ⟨x,none⟩ st1
theorem ss_raise {x:Str} {C:Addr} {np cpos:Pos} (hcalm:X.calm=true) (RO:RaiseD X E) (hg:Gl X x) (hm:X.mg x=some (.ref C)) (q:PySem.W.excIn X.K C bmVE "ValueError.__new__" = true) (he:SimE X E e m)
    (hdb:(x == ("__debug__" : Str))=false:=by decide) (hst:starEach [e] X.env=[(false,eval e X.env)]:=by rfl):SimS X E (.Raise (some (.Call (.Name x np) [e] [] cpos)) none pos) (mRaise x m):=
  ⟨fun Γ σ H ρ st D R G h=>WS.of (ps_raiseD hcalm RO hg hm q (Qm Zf Ju (by rw [hst]; rfl)) hdb hst) (he.use R G h.bind fun p st1 H1 ρ1 v x1 R1 G1 r1 h1=>⟨E2 (show 1<=lim by decide) lim_le,h1 C none H1 ρ1 hm (Ext.refl _ _) R1 rfl⟩)⟩
end
end Sm
namespace Sm
open PySem PySem.Spec L2
def WM (X:Cx) (id:String):V->List V->Hp->VK->Prop:=fun x xs H Q=>∀ (pins:List (Addr × Obj)) (s:Shared) (σ:St) (v:Value) (us:List Value),Inv X pins σ H s->RelV x v->Vals xs us->wpAny (model X.prog X.w) X.A (call (.builtin id) (v :: us)) (EP X pins σ Q) X.xe s
theorem mt_w {X:Cx} {id:String}:MtR X id (WM X id):=fun pins s σ _ _ _ v us _ I r rs h=>h pins s σ v us I r rs
theorem WM.of {X:Cx} {id:String} {r:V->List V->Hp->VK->Prop} {x:V} {xs:List V} {H:Hp} {Q:VK} (h:MtR X id r) (q:r x xs H Q):WM X id x xs H Q:=fun pins s σ v us I r1 r2=>h pins s σ H x xs v us Q I r1 r2 q
abbrev MF:=Q1->PV->List PV->Res PV
structure MtS (X:Cx) (E:XK) (id:String) (o:MF):Prop where
  run:∀ (H:Hp) (ρ:Tk) (st:Q1) (p:PV) (ps:List PV) (x:V) (xs:List V) (Q:VK),Rel H ρ st->Rep H ρ p x->RepL H ρ ps xs->Acc X.mg E H ρ (QV Q) (o st p ps)->WM X id x xs H Q
section
variable {X:Cx} {E:XK} {o e:Expr} {es:List Expr} {mo:ME} {mr:Gam->Q1->Res (List PV)} {name:Str} {apos cpos:Pos} {T id:String} {f:MF}
def mBM (f:MF) (mo:ME) (mr:Gam->Q1->Res (List PV)):ME:=fun Γ st=>(mo Γ st).bind fun p st1=>match Wi st1 p with
  | some _=>(mr Γ st1).bind fun ps st2=>f st2 p ps
  | none=>.stuck
theorem se_bm (pa:PlainAttrs "list") (slot:Slot "list" name id) (hty:typeOf (.builtin id)=pure (.type "method_descriptor")) (hm:MtS X E id f) (ho:SimE X E o mo) (ha:SimA X E (e :: es) mr)
    (hbase:attributeBase o name X.env (eval o X.env)=eval o X.env:=by rfl)
    (hfew:((backTo cpos (starEach (e :: es) X.env)).all (fun x=>!x.1) && (backToKw cpos (keywordEach [] X.env)).all (fun x=>x.1.isSome)
      && decide ((e :: es).length + ([]:List Keyword).length + (if ([]:List Keyword).isEmpty then 0 else 1) < 30))=true:=by rfl)
    (hline:(apos.endLine == cpos.line)=true:=by rfl) (hs:starEach (e :: es) X.env=(false,eval e X.env) :: starEach es X.env:=by rfl) (hplain:(backTo cpos (starEach es X.env)).any (·.1)=false:=by rfl) :
    SimE X E (.Call (.Attribute o name apos) (e :: es) [] cpos) (mBM f mo mr):=
  ⟨fun Γ σ H ρ st Q R G h=>WE.of (pe_bm pa slot hty mt_w Zf Q0q hbase hfew hline hs hplain) (ho.use R G h.bind fun p st1 H1 ρ1 v x1 R1 G1 r1 h1=>by
    split at h1
    · rename_i ys el
      obtain ⟨a,vs,rfl,hr,_⟩:=Kg R1 r1 el
      exact ⟨.inl ⟨rfl,vs,.inl hr⟩,ha.use R1 G1 h1.bind fun ps st2 H2 ρ2 us x2 R2 G2 r2 h2=>hm.run H2 ρ2 st2 p ps _ us Q R2 (r1.ext x2) r2 h2⟩
    · exact h1.elim)⟩
def chg (st:Q1) (p:PV) (g:List PV->Option (PV × List PV)):Res PV:=match p with
  | .ref i=>match st[i]? with
    | some (.lst xs)=>match g xs with
      | some (r,ys)=>.ok r (st.set i (.lst ys))
      | none=>.stuck
    | _=>.stuck
  | _=>.stuck
theorem chg_run {mg:Str->Option Value} {H:Hp} {ρ:Tk} {st:Q1} {p:PV} {x:V} {g:List PV->Option (PV × List PV)} {Q:VK} (R:Rel H ρ st) (rp:Rep H ρ p x) (h:Acc mg E H ρ (QV Q) (chg st p g)) :
    ∃ a xs vs r ys,x=.ref a/\H a=some (.lst vs)/\RepL H ρ xs vs/\g xs=some (r,ys)/\∀ us v,RepL H ρ ys us->Rep H ρ r v->Q v (upd H a (.lst us)):=by
  unfold chg at h
  split at h
  · rename_i i
    split at h
    · rename_i xs hs
      split at h
      · rename_i r ys hg
        obtain ⟨a,ea,rfl⟩:=rp
        obtain ⟨b,vs,f1,f2,f3⟩:=R.lst hs
        rw [ea] at f1; cases f1
        refine ⟨a,xs,vs,r,ys,rfl,f2,f3,hg,fun us v ru rv=>?_⟩
        have x:=Ext.put (o':=.lst us) (D8 ea) f2
        exact h _ ρ x (R.put ea f2 ru) v (rv.ext x)
      · exact h.elim
    · exact h.elim
  · exact h.elim
def Vu:MF:=fun st p ps=>match ps with
  | [y]=>chg st p fun xs=>if xs.length < lim then some (.non,xs ++ [y]) else none
  | _=>.stuck
theorem ms_append:MtS X E "list.append" Vu:=⟨fun H ρ st p ps x xs Q R rp rs h=>by
  unfold Vu at h
  split at h
  · obtain ⟨v,rfl,r⟩:=Zw rs
    obtain ⟨a,ys,vs,r0,zs,rfl,f1,f2,f3,k⟩:=chg_run R rp h
    split at f3
    · rename_i hl
      cases f3
      exact WM.of mt_append ⟨a,vs,v,rfl,rfl,f1,by rw [<- f2.length]; exact D2 hl lim_le,k _ _ (f2.append (RepL.cons r RepL.nil)) rfl⟩
    · cases f3
  · exact h.elim⟩
def Vt:MF:=fun st p ps=>match ps with
  | [q]=>match V3 st q with
    | some ys=>chg st p fun xs=>if xs.length + ys.length<=lim then some (.non,xs ++ ys) else none
    | none=>.stuck
  | _=>.stuck
theorem ms_extend:MtS X E "list.extend" Vt:=⟨fun H ρ st p ps x xs Q R rp rs h=>by
  unfold Vt at h
  split at h
  · obtain ⟨v,rfl,r⟩:=Zw rs
    split at h
    · rename_i ws ew
      obtain ⟨b,us,rfl,hb,rb⟩:=Q14 R r ew
      obtain ⟨a,ys,vs,r0,zs,rfl,f1,f2,f3,k⟩:=chg_run R rp h
      split at f3
      · rename_i hl
        cases f3
        exact WM.of mt_extend ⟨a,b,vs,us,rfl,rfl,f1,hb,by rw [<- f2.length,<- rb.length]; exact W2 hl,k _ _ (f2.append rb) rfl⟩
      · cases f3
    · exact h.elim
  · exact h.elim⟩
theorem Q2e (ho:SimE X E o mo) (ha:SimA X E [e] mr) (hbase:attributeBase o "append" X.env (eval o X.env)=eval o X.env:=by rfl)
    (hfew:((backTo cpos (starEach [e] X.env)).all (fun x=>!x.1) && (backToKw cpos (keywordEach [] X.env)).all (fun x=>x.1.isSome) && decide ([e].length + ([]:List Keyword).length + (if ([]:List Keyword).isEmpty then 0 else 1) < 30))=true:=by rfl)
    (hline:(apos.endLine == cpos.line)=true:=by rfl) (hs:starEach [e] X.env=(false,eval e X.env) :: starEach [] X.env:=by rfl):SimE X E (.Call (.Attribute o "append" apos) [e] [] cpos) (mBM Vu mo mr):=
  se_bm PySem.F.plainAttrs_list PySem.F.slot_list_append PySem.F.type_list_append ms_append ho ha hbase hfew hline hs
theorem Q2d (ho:SimE X E o mo) (ha:SimA X E [e] mr) (hbase:attributeBase o "extend" X.env (eval o X.env)=eval o X.env:=by rfl)
    (hfew:((backTo cpos (starEach [e] X.env)).all (fun x=>!x.1) && (backToKw cpos (keywordEach [] X.env)).all (fun x=>x.1.isSome) && decide ([e].length + ([]:List Keyword).length + (if ([]:List Keyword).isEmpty then 0 else 1) < 30))=true:=by rfl)
    (hline:(apos.endLine == cpos.line)=true:=by rfl) (hs:starEach [e] X.env=(false,eval e X.env) :: starEach [] X.env:=by rfl):SimE X E (.Call (.Attribute o "extend" apos) [e] [] cpos) (mBM Vt mo mr):=
  se_bm PySem.F.plainAttrs_list PySem.F.slot_list_extend PySem.F.type_list_extend ms_extend ho ha hbase hfew hline hs
end
end Sm
namespace Sm
open PySem PySem.Spec L2
mutual
def fz (n:Nat) (st:Q1):Nat->PV->Option PV
  | 0,_=>none
  | _ + 1,.non=>some .non
  | _ + 1,.bl b=>some (.bl b)
  | _ + 1,.int i=>some (.int i)
  | _ + 1,.str x=>some (.str x)
  | k + 1,.tup xs=>(fzL n st k xs).map .tup
  | k + 1,.lst xs=>(fzL n st k xs).map .lst
  | k + 1,.fro xs=>(fzL n st k xs).map .fro
  | _ + 1,.dic=>some .dic
  | k + 1,.ref i=>if i < n then some (.ref i) else match st[i]? with
    | some (.lst xs)=>(fzL n st k xs).map .lst
    | _=>none
def fzL (n:Nat) (st:Q1):Nat->List PV->Option (List PV)
  | _,[]=>some []
  | k,x :: xs=>(fz n st k x).bind fun y=>(fzL n st k xs).map (y :: ·)
end
theorem fz_good {n:Nat} {st:Q1}:∀ {m k:Nat} {p:PV},Ye m p=true->m < k->fz n st k p=some p:=by
  intro m
  induction m with
  | zero=>
    intro k p g hk
    obtain ⟨k,rfl⟩:∃ j,k=j + 1:=⟨k - 1,by omega⟩
    cases p with
    | tup _=>cases g
    | lst _=>cases g
    | fro _=>cases g
    | ref _=>cases g
    | dic=>cases g
    | _=>rw [fz]
  | succ m ih=>
    intro k p g hk
    obtain ⟨k,rfl⟩:∃ j,k=j + 1:=⟨k - 1,by omega⟩
    have hL:∀ xs:List PV,xs.all (Ye m)=true->fzL n st k xs=some xs:=by
      intro xs
      induction xs with
      | nil=>intro _; rw [fzL]
      | cons x xs ihx=>
        intro g
        rw [List.all_cons,Bool.and_eq_true] at g
        rw [fzL,ih g.1 (by omega),ihx g.2]; rfl
    cases p with
    | tup xs=>rw [fz,hL xs g]; rfl
    | lst xs=>rw [fz,hL xs g]; rfl
    | fro xs=>rw [fz,hL xs g]; rfl
    | ref _=>cases g
    | dic=>cases g
    | _=>rw [fz]
section
variable {H:Hp} {ρ:Tk} {st:Q1} {tr0 rest hs:List Addr}
theorem fz_rep (R:Rel H ρ st) (ht:ρ.tr=tr0 ++ rest) (hh:∀ a,a∈hs->a∈ρ.hid):∀ (k:Nat) {p p':PV} {v:V},Rep H ρ p v->fz tr0.length st k p=some p'->Rep H ⟨tr0,hs⟩ p' v:=by
  have out:∀ a,a∉ρ->a∉(⟨tr0,hs⟩:Tk):=fun a n z=>by
    rcases z with z | z
    · exact n (.inl (by rw [ht]; exact G7 _ z))
    · exact n (.inr (hh a z))
  intro k
  induction k with
  | zero=>intro p p' v r e; rw [fz] at e; cases e
  | succ k ih=>
    have hL:∀ {ps ps':List PV} {vs:List V},RepL H ρ ps vs->fzL tr0.length st k ps=some ps'->RepL H ⟨tr0,hs⟩ ps' vs:=by
      intro ps
      induction ps with
      | nil=>intro ps' vs r e; rw [fzL] at e; cases e; exact r
      | cons x xs ihx=>
        intro ps' vs r e
        obtain ⟨v,t,rfl,r1,r2⟩:=r
        rw [fzL] at e
        cases e1:fz tr0.length st k x with
        | none=>rw [e1] at e; cases e
        | some y=>
          rw [e1] at e
          have e:(fzL tr0.length st k xs).map (y :: ·)=some ps':=e
          cases e2:fzL tr0.length st k xs with
          | none=>rw [e2] at e; cases e
          | some ys=>
            rw [e2] at e
            cases e
            exact ⟨v,t,rfl,ih r1 e1,ihx r2 e2⟩
    intro p p' v r e
    cases p with
    | non=>rw [fz] at e; cases e; exact r
    | bl b=>rw [fz] at e; cases e; exact r
    | int i=>rw [fz] at e; cases e; exact r
    | str x=>rw [fz] at e; cases e; exact r
    | tup xs=>
      rw [fz] at e
      obtain ⟨a,vs,e1,ha,na,ra⟩:=r
      cases e2:fzL tr0.length st k xs with
      | none=>rw [e2] at e; cases e
      | some ys=>rw [e2] at e; cases e; exact ⟨a,vs,e1,ha,out a na,hL ra e2⟩
    | lst xs=>
      rw [fz] at e
      obtain ⟨a,vs,e1,ha,na,ra⟩:=r
      cases e2:fzL tr0.length st k xs with
      | none=>rw [e2] at e; cases e
      | some ys=>rw [e2] at e; cases e; exact ⟨a,vs,e1,ha,out a na,hL ra e2⟩
    | fro xs=>
      rw [fz] at e
      obtain ⟨a,vs,e1,ha,na,ra⟩:=r
      cases e2:fzL tr0.length st k xs with
      | none=>rw [e2] at e; cases e
      | some ys=>rw [e2] at e; cases e; exact ⟨a,vs,e1,ha,out a na,hL ra e2⟩
    | dic=>
      rw [fz] at e
      cases e
      obtain ⟨a,e1,ha,na⟩:=r
      exact ⟨a,e1,ha,out a na⟩
    | ref i=>
      rw [fz] at e
      obtain ⟨a,ea,rfl⟩:=r
      by_cases hi:i < tr0.length
      · rw [if_pos hi] at e
        cases e
        rw [ht,O3 hi] at ea
        exact ⟨a,ea,rfl⟩
      · rw [if_neg hi] at e
        split at e
        · rename_i xs hs'
          obtain ⟨b,vs,f1,f2,f3⟩:=R.lst hs'
          rw [ea] at f1; cases f1
          cases e2:fzL tr0.length st k xs with
          | none=>rw [e2] at e; cases e
          | some ys=>
            rw [e2] at e; cases e
            refine ⟨a,vs,rfl,f2,fun z=>?_,hL f3 e2⟩
            rcases z with z | z
            · have z:a∈tr0:=z
              obtain ⟨j,hj,ej⟩:=List.getElem_of_mem z
              have g1:ρ.tr[j]?=some a:=by rw [ht,O3 hj,O2 hj,ej]
              have l1:=O0.mp g1
              have l2:=O0.mp ea
              have:=nodup_inj R.nd l1.1 l2.1 (l1.2.trans l2.2.symm)
              omega
            · exact R.ap a (hh a z) (D8 ea)
        · cases e
mutual
def bel (n:Nat):PV->Prop
  | .tup xs=>belL n xs
  | .lst xs=>belL n xs
  | .fro xs=>belL n xs
  | .ref i=>i < n
  | _=>True
def belL (n:Nat):List PV->Prop
  | []=>True
  | x :: xs=>bel n x/\belL n xs
end
mutual
theorem Rep.bel:∀ {p:PV} {v:V},Rep H ρ p v->bel ρ.tr.length p
  | .non,_,_=>by simp [Sm.bel]
  | .bl _,_,_=>by simp [Sm.bel]
  | .int _,_,_=>by simp [Sm.bel]
  | .str _,_,_=>by simp [Sm.bel]
  | .tup ps,_,⟨_,_,_,_,_,r⟩=>by rw [Sm.bel]; exact RepL.bel r
  | .lst ps,_,⟨_,_,_,_,_,r⟩=>by rw [Sm.bel]; exact RepL.bel r
  | .fro ps,_,⟨_,_,_,_,_,r⟩=>by rw [Sm.bel]; exact RepL.bel r
  | .ref i,_,⟨_,e,_⟩=>by rw [Sm.bel]; exact (O0.mp e).1
  | .dic,_,_=>by simp [Sm.bel]
theorem RepL.bel:∀ {ps:List PV} {vs:List V},RepL H ρ ps vs->belL ρ.tr.length ps
  | [],_,_=>by simp [belL]
  | p :: ps,_,⟨_,_,_,r1,r2⟩=>by rw [belL]; exact ⟨Rep.bel r1,RepL.bel r2⟩
end
mutual
theorem Rep.less (ht:ρ.tr=tr0 ++ rest) (hh:∀ a,a∈hs->a∈ρ.hid):∀ {p:PV} {v:V},Sm.bel tr0.length p->Rep H ρ p v->Rep H ⟨tr0,hs⟩ p v
  | .non,_,_,r=>r
  | .bl _,_,_,r=>r
  | .int _,_,_,r=>r
  | .str _,_,_,r=>r
  | .tup ps,_,b,⟨a,vs,e,ha,na,r⟩=>⟨a,vs,e,ha,fun z=>na (z.imp (fun z=>by rw [ht]; exact G7 _ z) (hh a)),RepL.less ht hh (by rw [Sm.bel] at b; exact b) r⟩
  | .lst ps,_,b,⟨a,vs,e,ha,na,r⟩=>⟨a,vs,e,ha,fun z=>na (z.imp (fun z=>by rw [ht]; exact G7 _ z) (hh a)),RepL.less ht hh (by rw [Sm.bel] at b; exact b) r⟩
  | .fro ps,_,b,⟨a,vs,e,ha,na,r⟩=>⟨a,vs,e,ha,fun z=>na (z.imp (fun z=>by rw [ht]; exact G7 _ z) (hh a)),RepL.less ht hh (by rw [Sm.bel] at b; exact b) r⟩
  | .ref i,_,b,⟨a,e,e2⟩=>⟨a,by rw [Sm.bel] at b; rw [ht,O3 b] at e; exact e,e2⟩
  | .dic,_,_,⟨a,e,ha,na⟩=>⟨a,e,ha,fun z=>na (z.imp (fun z=>by rw [ht]; exact G7 _ z) (hh a))⟩
theorem RepL.less (ht:ρ.tr=tr0 ++ rest) (hh:∀ a,a∈hs->a∈ρ.hid):∀ {ps:List PV} {vs:List V},belL tr0.length ps->RepL H ρ ps vs->RepL H ⟨tr0,hs⟩ ps vs
  | [],_,_,r=>r
  | p :: ps,_,b,⟨v,t,e,r1,r2⟩=>by
    rw [belL] at b
    exact ⟨v,t,e,Rep.less ht hh b.1 r1,RepL.less ht hh b.2 r2⟩
end
end
theorem rel_back {H H':Hp} {ρ ρ':Tk} {st st':Q1} (R:Rel H ρ st) (x:Ext H ρ H' ρ') (R':Rel H' ρ' st') (hp:st <+: st'):Ext H ρ H' ρ/\Rel H' ρ st:=by
  obtain ⟨rest,ht⟩:=x.pre
  obtain ⟨more,hm⟩:=hp
  refine ⟨⟨List.prefix_refl _,fun _ h=>h,fun _ h=>.inl h,x.keep,fun _ h=>.inl h,x.old,x.frz⟩,R.len,R.nd,fun a ha=>let ⟨o,e,n⟩:=R.hd a ha; ⟨o,x.keep a o e (R.ap a ha),n⟩,R.ap,fun i a c h1 h2=>?_⟩
  have hi:i < st.length:=(O0.mp h2).1
  have q:=R'.cell i a c (by rw [<- ht,O3 (O0.mp h1).1]; exact h1) (by rw [<- hm,O3 hi]; exact h2)
  have q0:=R.cell i a c h1 h2
  cases c with
  | lst ps=>
    obtain ⟨vs,e1,e2⟩:=q
    obtain ⟨us,_,f2⟩:=q0
    exact ⟨vs,e1,RepL.less (ρ:=ρ') (tr0:=ρ.tr) (hs:=ρ.hid) ht.symm x.hidM f2.bel e2⟩
  | dic ps=>
    obtain ⟨vs,e1,e2⟩:=q
    obtain ⟨us,_,f2⟩:=q0
    exact ⟨vs,e1,e2.1,RepL.less (ρ:=ρ') (tr0:=ρ.tr) (hs:=ρ.hid) ht.symm x.hidM f2.2.bel e2.2⟩
  | dtp ps=>
    obtain ⟨vs,e1,e2⟩:=q
    obtain ⟨us,_,f2⟩:=q0
    exact ⟨vs,e1,e2.1,RepL.less (ρ:=ρ') (tr0:=ρ.tr) (hs:=ρ.hid) ht.symm x.hidM f2.2.bel e2.2⟩
  | frd ps=>
    obtain ⟨vs,e1,e2⟩:=q
    obtain ⟨us,_,f2⟩:=q0
    exact ⟨vs,e1,e2.1,RepL.less (ρ:=ρ') (tr0:=ρ.tr) (hs:=ρ.hid) ht.symm x.hidM f2.2.bel e2.2⟩
abbrev FN:=List PV->Q1->Res PV
open Classical in
def fin (st:Q1) (v:PV) (st':Q1):Res PV:=if st <+: st' then okO st (fz st.length st' 16 v) else .ok v st'
open Classical in
def finX (st:Q1) (x:Exc) (st':Q1):Res PV:=if st <+: st' then (match x.fs with
  | none=>.exc x st
  | some (n,p)=>match fz st.length st' 16 p with
    | some q=>.exc ⟨x.cls,some (n,q)⟩ st
    | none=>.stuck) else .exc x st'
def Qs (body:MS) (nl:Nat):FN:=fun ps st=>match body (ps.map some ++ List.replicate (nl - ps.length) none) st with
  | .rt v st'=>fin st v st'
  | .nx _ st'=>fin st .non st'
  | .exc x st'=>finX st x st'
  | _=>.stuck
theorem fin_acc {mg:Str->Option Value} {E:XK} {H:Hp} {ρ:Tk} {st st':Q1} {Q:VK} {p:PV} (R:Rel H ρ st) (h:Acc mg E H ρ (QV Q) (fin st p st')):∀ v H' ρ',Ext H ρ H' ρ'->Rel H' ρ' st'->Rep H' ρ' p v->Q v H':=fun v H' ρ' x R' r=>by
  unfold fin at h
  by_cases hp:st <+: st'
  · rw [if_pos hp] at h
    cases e:fz st.length st' 16 p with
    | none=>rw [e] at h; exact h.elim
    | some q=>
      rw [e] at h
      obtain ⟨x2,R2⟩:=rel_back R x R' hp
      obtain ⟨rest,ht⟩:=x.pre
      rw [<- R.len] at e
      exact h H' ρ x2 R2 v (fz_rep (tr0:=ρ.tr) (hs:=ρ.hid) R' ht.symm x.hidM 16 r e)
  · rw [if_neg hp] at h
    exact h H' ρ' x R' v r
def spF (mg:Str->Option Value) (n:Nat) (F:FN):Sp:=fun vs H Q E=>vs.length=n/\∃ ρ st ps,Rel H ρ st/\RepL H ρ ps vs/\Acc mg E H ρ (QV Q) (F ps st)
theorem Q29 {H:Hp} {ρ:Tk} {N:List Str} {ps:List PV} {vs:List V} (r:RepL H ρ ps vs):EnvR H ρ (ps.map some ++ List.replicate (N.length - ps.length) none) (L2.start N vs):=by
  have hl:=r.length
  unfold L2.start
  refine ⟨by simp [hl],fun i p e=>?_⟩
  by_cases hi:i < ps.length
  · rw [O3 (by simpa using hi),E5] at e
    rw [O3 (by simp; omega),E5]
    cases q:ps[i]? with
    | none=>rw [q] at e; cases e
    | some p'=>
      rw [q] at e
      cases e
      obtain ⟨v,e1,e2⟩:=r.get q
      exact ⟨v,by rw [e1]; rfl,e2⟩
  · rw [O8 (by simpa using hi),List.getElem?_replicate] at e
    split at e <;> cases e
section
variable {P:Program} {w:World} {K:PySem.W.Frag} {mg:Str->Option Value} {base:Heap}
theorem fun_ok {x qual:Str} {st:Stmt} {f:Addr} {fd:FuncData} {N ps:List Str} {k:Nat} {m:MS} (F:Fun K x qual st f fd) (S:FnScope N ps (Q6 st))
    (hb:∀ (cdv:Value) (A:Around) (outer:List PySem.Env) (s:Shared) (H:Hp) (E:XK),Room k (A.deeper (PyProof.Rows.envOfC qual (Q6 st) s.heap.objs.size f cdv))->SimB (cxD P w K mg base N qual (Q6 st) f cdv A outer s H E) E (Qp st) m) :
    FnOk P w K mg base (CXD P w) (k + 1) f fd ps (spF mg ps.length (Qs m N.length)):=by
  refine Fun.okD F S (fun vs H Q E h=>h.1) fun cdv A outer s H vs Q E hr hsp=>⟨_,Q0j,?_⟩
  obtain ⟨hl,ρ,st0,pvs,R,rl,hA⟩:=hsp
  refine (hb cdv A outer s H E hr).run _ (L2.start N vs) H ρ st0 _ R (Q29 rl) ?_
  unfold Qs at hA
  cases rr:m (pvs.map some ++ List.replicate (N.length - pvs.length) none) st0 with
  | rt v st1=>rw [rr] at hA; exact fin_acc R hA
  | nx Γ st1=>rw [rr] at hA; exact fun σ' H' ρ' x' R' G'=>fin_acc R hA .non H' ρ' x' R' rfl
  | bk Γ st1=>rw [rr] at hA; exact hA.elim
  | ct Γ st1=>rw [rr] at hA; exact hA.elim
  | stuck=>rw [rr] at hA; exact hA.elim
  | exc y st1=>
    rw [rr] at hA
    have hA:Acc mg E H ρ (QV Q) (finX st0 y st1):=hA
    intro C dv H' ρ' hm x' R' hf
    unfold finX at hA
    by_cases hp:st0 <+: st1
    · rw [if_pos hp] at hA
      obtain ⟨x2,R2⟩:=rel_back R x' R' hp
      obtain ⟨cls,fs⟩:=y
      cases fs with
      | none=>exact hA C dv H' ρ hm x2 R2 hf
      | some np=>
        obtain ⟨nm,p⟩:=np
        simp only at hA
        cases e:fz st0.length st1 16 p with
        | none=>rw [e] at hA; exact hA.elim
        | some q=>
          rw [e] at hA
          obtain ⟨rest,ht⟩:=x'.pre
          rw [<- R.len] at e
          obtain ⟨dx,v,e1,e2,e3,e4⟩:=hf
          refine hA C dv H' ρ hm x2 R2 ⟨dx,v,e1,e2,fun z=>e3 (z.imp (fun z=>by rw [<- ht]; exact G7 _ z) (x'.hidM dx)),fz_rep (tr0:=ρ.tr) (hs:=ρ.hid) R' ht.symm x'.hidM 16 e4 e⟩
    · rw [if_neg hp] at hA
      exact hA C dv H' ρ' hm x' R' hf
end
theorem Z1 {P:Program} {w:World} {K:PySem.W.Frag} {mg:Str->Option Value} {base:Heap} {x qual:Str} {st:Stmt} {f:Addr} {fd:FuncData} {N ps:List Str} {k n nl:Nat} {m:MS} {FF:FN} (F:Fun K x qual st f fd) (S:FnScope N ps (Q6 st)) (hn:ps.length=n) (hnl:N.length=nl) (hF:FF=Qs m nl)
    (hb:∀ (cdv:Value) (A:Around) (outer:List PySem.Env) (s:Shared) (H:Hp) (E:XK),Room k (A.deeper (PyProof.Rows.envOfC qual (Q6 st) s.heap.objs.size f cdv))->SimB (cxD P w K mg base N qual (Q6 st) f cdv A outer s H E) E (Qp st) m) :
    FnOk P w K mg base (CXD P w) (k + 1) f fd ps (spF mg n FF):=by
  subst hn; subst hnl; subst hF
  exact fun_ok F S hb
structure DefS (P:Program) (w:World) (K:PySem.W.Frag) (mg:Str->Option Value) (base:Heap) (k:Nat) (x:Str) (n:Nat) (F:FN):Prop where
  ex:∃ (f:Addr) (fd:FuncData) (ps:List Str),FnOk P w K mg base (CXD P w) k f fd ps (spF mg n F)/\mg x=some (.ref f)/\PySem.W.keepIn K (.ref f)=true/\Binds K fd ps []/\ps.length=n
def Qj (n:Nat) (F:FN) (mr:Gam->Q1->Res (List PV)):ME:=fun Γ st=>(mr Γ st).bind fun ps st1=>if ps.length=n then F ps st1 else .stuck
section
variable {X:Cx} {E:XK} {k n:Nat} {x:Str} {F:FN} {p pos:Pos} {e:Expr} {es:List Expr} {mr:Gam->Q1->Res (List PV)}
theorem Qf (D:DefS X.prog X.w X.K X.mg X.base k x n F) (hr:Room k X.A) (hx:Q1p (CXD X.prog X.w) X E) (hg:Gl X x) (ha:SimA X E (e :: es) mr) (hdb:(x == ("__debug__" : Str))=false:=by decide)
    (he:starEach (e :: es) X.env=(false,eval e X.env) :: starEach es X.env:=by rfl) (hpl:(backTo pos (starEach es X.env)).any (·.1)=false:=by rfl):SimE X E (.Call (.Name x p) (e :: es) [] pos) (Qj n F mr):=by
  obtain ⟨f,fd,ps,hF,hm,hk,hb,hl⟩:=D.ex
  exact ⟨fun Γ σ H ρ st Q R G h=>WE.of (pe_call hF hr hg hm hk hb .nil hx Q0q hdb he hpl) (ha.use R G h.bind fun qs st1 H1 ρ1 vs x1 R1 G1 r1 h1=>by
    by_cases hq:qs.length=n
    · rw [if_pos hq] at h1
      show spF X.mg n F (vs ++ []) H1 Q E
      rw [F6]
      exact ⟨by rw [<- r1.length]; exact hq,ρ1,st1,qs,R1,r1,h1⟩
    · rw [if_neg hq] at h1; exact h1.elim)⟩
end
end Sm
namespace Sm
open PySem PySem.Spec L2
@[simp] theorem bind_ok {α β:Type} (a:α) (st:Q1) (f:α->Q1->Res β):(Res.ok a st).bind f=f a st:=rfl
@[simp] theorem bind_stuck {α β:Type} (f:α->Q1->Res β):(Res.stuck:Res α).bind f=.stuck:=rfl
@[simp] theorem bind_exc {α β:Type} (x:Exc) (st:Q1) (f:α->Q1->Res β):(Res.exc x st:Res α).bind f=.exc x st:=rfl
@[simp] theorem Q0c {α:Type} (a:α) (st:Q1) (f:α->Q1->SR):(Res.ok a st).sbind f=f a st:=rfl
@[simp] theorem sbind_stuck {α:Type} (f:α->Q1->SR):(Res.stuck:Res α).sbind f=.stuck:=rfl
@[simp] theorem sbind_exc {α:Type} (x:Exc) (st:Q1) (f:α->Q1->SR):(Res.exc x st:Res α).sbind f=.exc x st:=rfl
@[simp] theorem mVar_eq (i:Nat) (Γ:Gam) (st:Q1):Q4 i Γ st=(match Γ[i]? with | some (some p)=>.ok p st | _=>.stuck):=rfl
@[simp] theorem mC_eq (p:PV) (Γ:Gam) (st:Q1):mC p Γ st=.ok p st:=rfl
@[simp] theorem mOp_eq (o:OP) (a b:ME) (Γ:Gam) (st:Q1):mOp o a b Γ st=(a Γ st).bind fun x st1=>(b Γ st1).bind fun y st2=>o st2 x y:=rfl
@[simp] theorem asB_bl (b:Bool) (st:Q1):asB (.bl b) st=.ok b st:=rfl
@[simp] theorem toB_eq (m:ME) (Γ:Gam) (st:Q1):toB m Γ st=(m Γ st).bind asB:=rfl
def selB {α:Type} (x:PV) (A B:Res α):Res α:=match x with
  | .bl true=>A
  | .bl false=>B
  | _=>.stuck
@[simp] theorem selB_bl {α:Type} (b:Bool) (A B:Res α):selB (.bl b) A B=if b=true then A else B:=by cases b <;> rfl
@[simp] theorem mChain_eq (o o':OP) (a b c:ME) (Γ:Gam) (st:Q1):Xx o o' a b c Γ st=(a Γ st).bind fun x st1=>(b Γ st1).bind fun y st2=>(o st2 x y).bind fun k st3=>selB k ((c Γ st3).bind fun z st4=>o' st4 y z) (.ok (.bl false) st3):=by
  unfold Xx
  refine congrArg _ (funext fun x=>funext fun st1=>congrArg _ (funext fun y=>funext fun st2=>congrArg _ (funext fun k=>funext fun st3=>?_)))
  cases k with
  | bl b=>cases b <;> rfl
  | _=>rfl
@[simp] theorem mAnd_eq (a b:ME) (Γ:Gam) (st:Q1):Q13 a b Γ st=(a Γ st).bind fun x st1=>selB x (b Γ st1) (.ok (.bl false) st1):=by
  unfold Q13
  refine congrArg _ (funext fun x=>funext fun st1=>?_)
  cases x with
  | bl b=>cases b <;> rfl
  | _=>rfl
@[simp] theorem mNot_eq (a:ME) (Γ:Gam) (st:Q1):mNot a Γ st=(a Γ st).bind fun x st1=>(match x with | .bl k=>.ok (.bl (!k)) st1 | _=>.stuck):=rfl
@[simp] theorem mNeg_eq (a:ME) (Γ:Gam) (st:Q1):mNeg a Γ st=(a Γ st).bind fun x st1=>(match x with | .int k=>.ok (.int (-k)) st1 | _=>.stuck):=rfl
@[simp] theorem tAndM_eq (a b:MT) (Γ:Gam) (st:Q1):Q02 a b Γ st=(a Γ st).bind fun k st1=>if k=true then b Γ st1 else .ok false st1:=rfl
@[simp] theorem tOrM_eq (a b:MT) (Γ:Gam) (st:Q1):tOrM a b Γ st=(a Γ st).bind fun k st1=>if k=true then .ok true st1 else b Γ st1:=rfl
@[simp] theorem tNotM_eq (a:MT) (Γ:Gam) (st:Q1):Xe a Γ st=(a Γ st).bind fun k st1=>.ok (!k) st1:=rfl
@[simp] theorem mIf_eq (c:MT) (a b:ME) (Γ:Gam) (st:Q1):mIf c a b Γ st=(c Γ st).bind fun k st1=>if k=true then a Γ st1 else b Γ st1:=rfl
@[simp] theorem mNil_eq (Γ:Gam) (st:Q1):Qc Γ st=.ok [] st:=rfl
@[simp] theorem mCons_eq (m:ME) (mr:ML) (Γ:Gam) (st:Q1):Q3 m mr Γ st=(m Γ st).bind fun p st1=>(mr Γ st1).bind fun ps st2=>.ok (p :: ps) st2:=rfl
@[simp] theorem mTup_eq (mr:ML) (Γ:Gam) (st:Q1):Wp mr Γ st=(mr Γ st).bind fun ps st1=>if ps.length<=lim then .ok (.tup ps) st1 else .stuck:=rfl
@[simp] theorem mLst_eq (mr:ML) (Γ:Gam) (st:Q1):U4 mr Γ st=(mr Γ st).bind fun ps st1=>if ps.length<=lim then .ok (.lst ps) st1 else .stuck:=rfl
@[simp] theorem mLstN_eq (mr:ML) (Γ:Gam) (st:Q1):y9 mr Γ st=(mr Γ st).bind fun ps st1=>if ps.length<=lim then .ok ps st1 else .stuck:=rfl
@[simp] theorem mSl_eq (m:ME) (l h:Gam->Q1->Res (Option Int)) (Γ:Gam) (st:Q1):mSl m l h Γ st=(m Γ st).bind fun p st1=>(l Γ st1).bind fun lo st2=>(h Γ st2).bind fun hi st3=>oSl st3 p lo hi:=rfl
@[simp] theorem mNoPart_eq (Γ:Gam) (st:Q1):xf Γ st=.ok none st:=rfl
@[simp] theorem mPart_eq (m:ME) (Γ:Gam) (st:Q1):mPart m Γ st=(m Γ st).bind fun p st1=>(match p with | .int i=>.ok (some i) st1 | _=>.stuck):=rfl
@[simp] theorem mCall_eq (o:CF) (mr:ML) (Γ:Gam) (st:Q1):Jh o mr Γ st=(mr Γ st).bind fun ps st1=>o st1 ps:=rfl
@[simp] theorem mIsI_eq (T:String) (m:ME) (Γ:Gam) (st:Q1):mIsI T m Γ st=(m Γ st).bind fun p st1=>if K1 st1 p=true then .stuck else .ok (.bl (isI T (dpv st1 p))) st1:=rfl
@[simp] theorem frzd_non (st:Q1):K1 st .non=false:=rfl
@[simp] theorem frzd_bl (st:Q1) (b:Bool):K1 st (.bl b)=false:=rfl
@[simp] theorem frzd_int (st:Q1) (b:Int):K1 st (.int b)=false:=rfl
@[simp] theorem frzd_str (st:Q1) (b:Str):K1 st (.str b)=false:=rfl
@[simp] theorem frzd_tup (st:Q1) (b:List PV):K1 st (.tup b)=false:=rfl
@[simp] theorem frzd_lst (st:Q1) (b:List PV):K1 st (.lst b)=false:=rfl
@[simp] theorem frzd_fro (st:Q1) (b:List PV):K1 st (.fro b)=false:=rfl
@[simp] theorem frzd_dic (st:Q1):K1 st .dic=false:=rfl
@[simp] theorem frzd_ref (st:Q1) (i:Nat):K1 st (.ref i)=(match st[i]? with | some (.frd _)=>true | _=>false):=rfl
@[simp] theorem dpv_non (st:Q1):dpv st .non=.non:=rfl
@[simp] theorem dpv_bl (st:Q1) (b:Bool):dpv st (.bl b)=(.bl b):=rfl
@[simp] theorem dpv_int (st:Q1) (b:Int):dpv st (.int b)=(.int b):=rfl
@[simp] theorem dpv_str (st:Q1) (b:Str):dpv st (.str b)=(.str b):=rfl
@[simp] theorem dpv_tup (st:Q1) (b:List PV):dpv st (.tup b)=(.tup b):=rfl
@[simp] theorem dpv_lst (st:Q1) (b:List PV):dpv st (.lst b)=(.lst b):=rfl
@[simp] theorem dpv_fro (st:Q1) (b:List PV):dpv st (.fro b)=(.fro b):=rfl
@[simp] theorem dpv_dc (st:Q1):dpv st .dic=.dic:=rfl
@[simp] theorem dpv_r (st:Q1) (i:Nat):dpv st (.ref i)=(match st[i]? with | some (.dic _)=>.dic | some (.dtp _)=>.dic | _=>.ref i):=rfl
@[simp] theorem mVal_eq (m:ML) (Γ:Gam) (st:Q1):qh m Γ st=(m Γ st).bind fun ps st1=>.ok (.lst ps) st1:=rfl
@[simp] theorem mTrk_eq (m:ML) (Γ:Gam) (st:Q1):mTrk m Γ st=(m Γ st).bind fun ps st1=>.ok (.ref st1.length) (st1 ++ [.lst ps]):=rfl
@[simp] theorem mCompN_eq (cap:List (Option Nat)) (ga:GA) (mi:MI) (mt:MT) (me:ME) (Γ:Gam) (st:Q1):Yj cap ga mi mt me Γ st=(mi Γ st).bind fun iw st1=>noX (Z2 ga mt me iw.2 (Zj cap Γ) iw.1 st1):=rfl
@[simp] theorem mTrue_eq (Γ:Gam) (st:Q1):Wg Γ st=.ok true st:=rfl
@[simp] theorem mCallF_eq (n:Nat) (F:FN) (mr:ML) (Γ:Gam) (st:Q1):Qj n F mr Γ st=(mr Γ st).bind fun ps st1=>if ps.length=n then F ps st1 else .stuck:=rfl
@[simp] theorem mNext_eq (Γ:Gam) (st:Q1):Z5 Γ st=.nx Γ st:=rfl
@[simp] theorem Yv (a b:MS) (Γ:Gam) (st:Q1):Qh a b Γ st=(match a Γ st with | .nx Γ1 st1=>b Γ1 st1 | r=>r):=rfl
@[simp] theorem mExpr_eq (m:ME) (Γ:Gam) (st:Q1):Xw m Γ st=(m Γ st).sbind fun _ st1=>.nx Γ st1:=rfl
@[simp] theorem mRet_eq (m:ME) (Γ:Gam) (st:Q1):Z4 m Γ st=(m Γ st).sbind fun p st1=>.rt p st1:=rfl
@[simp] theorem Kf (i:Nat) (m:ME) (Γ:Gam) (st:Q1):Jp i m Γ st=(m Γ st).sbind fun p st1=>.nx (Γ.set i (some p)) st1:=rfl
@[simp] theorem mIfS_eq (c:MT) (a b:MS) (Γ:Gam) (st:Q1):Yc c a b Γ st=(c Γ st).sbind fun k st1=>if k=true then a Γ st1 else b Γ st1:=rfl
@[simp] theorem mFor_eq (ga:GA) (mi:MI) (b:MS) (Γ:Gam) (st:Q1):Xv ga mi b Γ st=(mi Γ st).sbind fun iw st1=>V6 ga b iw.2 iw.1 Γ st1:=rfl
@[simp] theorem mSeq_eq (m:ME) (Γ:Gam) (st:Q1):Xu m Γ st=(m Γ st).bind fun p st1=>(match Vp st1 p with | some (xs,w)=>if xs.length<=lim then .ok (xs,w) st1 else .stuck | none=>.stuck):=rfl
@[simp] theorem mRange1_eq (mr:ML) (Γ:Gam) (st:Q1):Wh mr Γ st=(mr Γ st).bind fun ps st1=>(match ps with | [.int j]=>if -(lim:Int)<=j/\j<=lim then .ok (Ze 0 j.toNat,[]) st1 else .stuck | _=>.stuck):=rfl
@[simp] theorem mRange2_eq (mr:ML) (Γ:Gam) (st:Q1):xb mr Γ st=(mr Γ st).bind fun ps st1=>(match ps with | [.int i,.int j]=>if -(lim:Int)<=i/\i<=lim/\-(lim:Int)<=j/\j<=lim then .ok (Ze i (j - i).toNat,[]) st1 else .stuck | _=>.stuck):=rfl
@[simp] theorem mZip_eq (mr:ML) (Γ:Gam) (st:Q1):mZip mr Γ st=(mr Γ st).bind fun ps st1=>(match ps with | [p,q]=>(match Vp st1 p,Vp st1 q with | some (xs,w),some (ys,w')=>if xs.length<=lim then .ok (yh xs ys,w ++ w') st1 else .stuck | _,_=>.stuck) | _=>.stuck):=rfl
@[simp] theorem mBM_eq (f:MF) (mo:ME) (mr:ML) (Γ:Gam) (st:Q1):mBM f mo mr Γ st=(mo Γ st).bind fun p st1=>(match Wi st1 p with | some _=>(mr Γ st1).bind fun ps st2=>f st2 p ps | none=>.stuck):=rfl
@[simp] theorem mSetIx_eq (mo mi m:ME) (Γ:Gam) (st:Q1):qi mo mi m Γ st=(m Γ st).sbind fun p st1=>(mo Γ st1).sbind fun o st2=>(mi Γ st2).sbind fun i st3=>(match qy st3 o i p with | some st4=>.nx Γ st4 | none=>.stuck):=rfl
@[simp] theorem mRaise_eq (x:Str) (m:ME) (Γ:Gam) (st:Q1):mRaise x m Γ st=(m Γ st).sbind fun _ st1=>.exc ⟨x,none⟩ st1:=rfl
@[simp] theorem gaName_eq (i:Nat) (p:PV) (Γ:Gam):Qg i p Γ=some (Γ.set i (some p)):=rfl
@[simp] theorem gaNil_eq (Γ:Gam):Uq [] Γ=some Γ:=rfl
@[simp] theorem gaCons_eq (g:GA) (gs:GAs) (p:PV) (r:List PV) (Γ:Gam):Jq g gs (p :: r) Γ=(g p Γ).bind (gs r):=rfl
@[simp] theorem gaTup_eq (gs:GAs) (ps:List PV) (Γ:Gam):Up gs (.tup ps) Γ=gs ps Γ:=rfl
@[simp] theorem noX_ok {α:Type} (a:α) (st:Q1):noX (Res.ok a st)=.ok a st:=rfl
@[simp] theorem noX_stuck {α:Type}:noX (Res.stuck:Res α)=.stuck:=rfl
@[simp] theorem okO_some {α:Type} (st:Q1) (a:α):okO st (some a)=.ok a st:=rfl
@[simp] theorem okO_none {α:Type} (st:Q1):okO st (none:Option α)=.stuck:=rfl
@[simp] theorem oI_eq (g:Int->Int->PV) (st:Q1) (a b:Int):oI g st (.int a) (.int b)=.ok (g a b) st:=rfl
@[simp] theorem oAdd_int (st:Q1) (a b:Int):Zg st (.int a) (.int b)=.ok (.int (a + b)) st:=rfl
@[simp] theorem oAdd_tup (st:Q1) (a b:List PV):Zg st (.tup a) (.tup b)=if a.length + b.length<=lim then .ok (.tup (a ++ b)) st else .stuck:=rfl
@[simp] theorem oMul_int (st:Q1) (a b:Int):Um st (.int a) (.int b)=if (-(2 ^ 64) < a/\a < 2 ^ 64)\/(-(2 ^ 64) < b/\b < 2 ^ 64) then .ok (.int (a * b)) st else .stuck:=rfl
@[simp] theorem oMul_tup (st:Q1) (xs:List PV) (b:Int):Um st (.tup xs) (.int b)=if xs≠[]/\1<=b/\xs.length * b.toNat<=4096 then .ok (.tup (List.replicate b.toNat xs).flatten) st else .stuck:=rfl
@[simp] theorem oMod_int (st:Q1) (a b:Int):je st (.int a) (.int b)=if 0 < b then .ok (.int (a % b)) st else .stuck:=rfl
@[simp] theorem oPow_int (st:Q1) (a b:Int):oPow st (.int a) (.int b)=if 0<=b/\b<=1000000/\a.natAbs < 2 ^ 64 then .ok (.int (a ^ b.toNat)) st else .stuck:=rfl
@[simp] theorem oLt_int (st:Q1) (a b:Int):oLt st (.int a) (.int b)=.ok (.bl (decide (a < b))) st:=rfl
@[simp] theorem oEq_int (st:Q1) (a b:Int):oEq st (.int a) (.int b)=.ok (.bl (a == b)) st:=rfl
@[simp] theorem oNe_int (st:Q1) (a b:Int):oNe st (.int a) (.int b)=.ok (.bl (!(a == b))) st:=rfl
@[simp] theorem oEq_bl (st:Q1) (a b:Bool):oEq st (.bl a) (.bl b)=.ok (.bl (a == b)) st:=rfl
@[simp] theorem oNe_bl (st:Q1) (a b:Bool):oNe st (.bl a) (.bl b)=.ok (.bl (!(a == b))) st:=rfl
@[simp] theorem oEq_str (st:Q1) (a b:Str):oEq st (.str a) (.str b)=.ok (.bl (a == b)) st:=rfl
@[simp] theorem oNe_str (st:Q1) (a b:Str):oNe st (.str a) (.str b)=.ok (.bl (!(a == b))) st:=rfl
@[simp] theorem oIs_non (st:Q1) (p:PV):oIs st p .non=.ok (.bl (Kx p)) st:=rfl
@[simp] theorem oIs_bl (st:Q1) (a b:Bool):oIs st (.bl a) (.bl b)=.ok (.bl (a == b)) st:=rfl
@[simp] theorem oIsNot_non (st:Q1) (p:PV):qf st p .non=.ok (.bl (!Kx p)) st:=rfl
@[simp] theorem oIsNot_bl (st:Q1) (a b:Bool):qf st (.bl a) (.bl b)=.ok (.bl (a != b)) st:=rfl
@[simp] theorem lstOf_lst (st:Q1) (xs:List PV):V3 st (.lst xs)=some xs:=rfl
@[simp] theorem listOf_lst (st:Q1) (xs:List PV):Wi st (.lst xs)=some xs:=rfl
@[simp] theorem listOf_fro (st:Q1) (xs:List PV):Wi st (.fro xs)=some xs:=rfl
@[simp] theorem Q2c (st:Q1) (xs:List PV):Wc st (.lst xs)=some xs:=rfl
@[simp] theorem seqOf_fro (st:Q1) (xs:List PV):Wc st (.fro xs)=some xs:=rfl
@[simp] theorem seqOf_tup (st:Q1) (xs:List PV):Wc st (.tup xs)=some xs:=rfl
@[simp] theorem srcOf_lst (st:Q1) (xs:List PV):Vp st (.lst xs)=some (xs,[]):=rfl
@[simp] theorem srcOf_fro (st:Q1) (xs:List PV):Vp st (.fro xs)=some (xs,[]):=rfl
@[simp] theorem srcOf_tup (st:Q1) (xs:List PV):Vp st (.tup xs)=some (xs,[]):=rfl
@[simp] theorem oIx_tup (st:Q1) (xs:List PV) (i:Int):oIx st (.tup xs) (.int i)=okO st (atI xs i):=rfl
@[simp] theorem oIx_lst (st:Q1) (xs:List PV) (i:Int):oIx st (.lst xs) (.int i)=okO st (atI xs i):=rfl
@[simp] theorem oIx_fro (st:Q1) (xs:List PV) (i:Int):oIx st (.fro xs) (.int i)=okO st (atI xs i):=rfl
@[simp] theorem oSl_tup (st:Q1) (xs:List PV) (l h:Option Int):oSl st (.tup xs) l h=.ok (.tup (cut xs l h)) st:=rfl
@[simp] theorem oSl_lst (st:Q1) (xs:List PV) (l h:Option Int):oSl st (.lst xs) l h=.ok (.lst (cut xs l h)) st:=rfl
@[simp] theorem oSl_fro (st:Q1) (xs:List PV) (l h:Option Int):oSl st (.fro xs) l h=.ok (.lst (cut xs l h)) st:=rfl
@[simp] theorem cLen_tup (st:Q1) (xs:List PV):Yk st [.tup xs]=.ok (.int xs.length) st:=rfl
@[simp] theorem cLen_lst (st:Q1) (xs:List PV):Yk st [.lst xs]=.ok (.int xs.length) st:=rfl
@[simp] theorem cLen_fro (st:Q1) (xs:List PV):Yk st [.fro xs]=.ok (.int xs.length) st:=rfl
@[simp] theorem cList_tup (st:Q1) (xs:List PV):jt st [.tup xs]=.ok (.lst xs) st:=rfl
@[simp] theorem cList_lst (st:Q1) (xs:List PV):jt st [.lst xs]=.ok (.lst xs) st:=rfl
@[simp] theorem cList_fro (st:Q1) (xs:List PV):jt st [.fro xs]=.ok (.lst xs) st:=rfl
@[simp] theorem cTuple_tup (st:Q1) (xs:List PV):Ug st [.tup xs]=.ok (.tup xs) st:=rfl
@[simp] theorem cTuple_lst (st:Q1) (xs:List PV):Ug st [.lst xs]=.ok (.tup xs) st:=rfl
@[simp] theorem cBls_lst (g:List Bool->PV) (st:Q1) (bs:List Bool):Kr g st [.lst (bs.map .bl)]=.ok (g bs) st:=by
  simp only [Kr,Q2c,Option.bind_some,bls_map]
@[simp] theorem cInts_lst (g:List Int->Option PV) (st:Q1) (ns:List Int):X9 g st [.lst (ns.map .int)]=okO st (g ns):=by
  simp only [X9,Q2c,Option.bind_some,ints_map]
@[simp] theorem cInts_tup (g:List Int->Option PV) (st:Q1) (ns:List Int):X9 g st [.tup (ns.map .int)]=okO st (g ns):=by
  simp only [X9,seqOf_tup,Option.bind_some,ints_map]
@[simp] theorem cMax_int (st:Q1) (a b:Int):cMax st [.int a,.int b]=.ok (.int (if b > a then b else a)) st:=rfl
@[simp] theorem cMin_int (st:Q1) (a b:Int):cMin st [.int a,.int b]=.ok (.int (if b < a then b else a)) st:=rfl
@[simp] theorem wOk_nil' (st:Q1):wOk [] st=True:=by simp [wOk]
@[simp] theorem Zi (st:Q1) (b:Bool):fin st (.bl b) st=.ok (.bl b) st:=by simp [fin,fz]
@[simp] theorem fin_int (st:Q1) (b:Int):fin st (.int b) st=.ok (.int b) st:=by simp [fin,fz]
@[simp] theorem fin_non (st:Q1):fin st .non st=.ok .non st:=by simp [fin,fz]
@[simp] theorem fin_str (st:Q1) (b:Str):fin st (.str b) st=.ok (.str b) st:=by simp [fin,fz]
theorem J8:lim=1000000:=rfl
theorem U0 {α:Type} (g f:α->PV) {ga:GA} {me:ME} {w:Wt} {Γ0:Gam} {st:Q1} (hw:wOk w st) {ys:List α} (h:∀ y∈ys,∃ Γ1,ga (g y) Γ0=some Γ1/\me Γ1 st=.ok (f y) st):Z2 ga Wg me w Γ0 (ys.map g) st=.ok (ys.map f) st:=by
  induction ys with
  | nil=>simp [Z2,hw]
  | cons y ys ih=>
    obtain ⟨Γ1,h1,h2⟩:=h y E4
    have ih:=ih fun z hz=>h z (D4 _ hz)
    rw [D0,Z2,if_pos hw,h1]
    simp [h2,ih]
theorem compG_onF {α:Type} (g f:α->PV) (t:α->Bool) {ga:GA} {mt:MT} {me:ME} {w:Wt} {Γ0:Gam} {st:Q1} (hw:wOk w st) {ys:List α} (h:∀ y∈ys,∃ Γ1,ga (g y) Γ0=some Γ1/\mt Γ1 st=.ok (t y) st/\(t y=true->me Γ1 st=.ok (f y) st)):Z2 ga mt me w Γ0 (ys.map g) st=.ok ((ys.filter t).map f) st:=by
  induction ys with
  | nil=>simp [Z2,hw]
  | cons y ys ih=>
    obtain ⟨Γ1,h1,h2,h3⟩:=h y E4
    have ih:=ih fun z hz=>h z (D4 _ hz)
    rw [D0,Z2,if_pos hw,h1]
    simp only [h2,bind_ok,ih]
    cases tx:t y with
    | true=>simp [h3 tx,tx,ih]
    | false=>simp [tx]
@[simp] theorem cBls_map {α:Type} (g:List Bool->PV) (st:Q1) (ys:List α) (b:α->Bool):Kr g st [.lst (ys.map fun y=>.bl (b y))]=.ok (g (ys.map b)) st:=by
  rw [show (ys.map fun y=>PV.bl (b y))=(ys.map b).map .bl by rw [F5]; rfl,cBls_lst]
@[simp] theorem cInts_map {α:Type} (g:List Int->Option PV) (st:Q1) (ys:List α) (b:α->Int):X9 g st [.lst (ys.map fun y=>.int (b y))]=okO st (g (ys.map b)):=by
  rw [show (ys.map fun y=>PV.int (b y))=(ys.map b).map .int by rw [F5]; rfl,cInts_lst]
theorem V5 {α:Type} (g:α->PV) {xs:List α} (I:Nat->Gam->Q1->Prop) {ga:GA} {body:MS} {w:Wt} (hw:∀ i Γ st,I i Γ st->wOk w st)
    (h:∀ (i:Nat) x Γ st,xs[i]?=some x->I i Γ st->∃ Γ1,ga (g x) Γ=some Γ1/\∃ Γ2 st2,body Γ1 st=.nx Γ2 st2/\I (i + 1) Γ2 st2) {Γ:Gam} {st:Q1} (h0:I 0 Γ st):∃ Γ' st',V6 ga body w (xs.map g) Γ st=.nx Γ' st'/\I xs.length Γ' st':=by
  induction xs generalizing I Γ st with
  | nil=>exact ⟨Γ,st,by simp [V6,hw 0 Γ st h0],h0⟩
  | cons x xs ih=>
    obtain ⟨Γ1,h1,Γ2,st2,e2,i2⟩:=h 0 x Γ st rfl h0
    obtain ⟨Γ',st',e3,i3⟩:=ih (fun i=>I (i + 1)) (fun i Γ st z=>hw (i + 1) Γ st z) (fun i y Γ st hy z=>h (i + 1) y Γ st (by simpa using hy) z) i2
    refine ⟨Γ',st',?_,i3⟩
    rw [D0,V6,if_pos (hw 0 Γ st h0),h1]
    simp only [e2]
    exact e3
theorem forG_invL {α:Type} (g:α->PV) {xs:List α} (I:List α->Gam->Q1->Prop) {ga:GA} {body:MS} {w:Wt} (hw:∀ pre Γ st,I pre Γ st->wOk w st)
    (h:∀ pre x post Γ st,xs=pre ++ x :: post->I pre Γ st->∃ Γ1,ga (g x) Γ=some Γ1/\∃ Γ2 st2,body Γ1 st=.nx Γ2 st2/\I (pre ++ [x]) Γ2 st2) {Γ:Gam} {st:Q1} (h0:I [] Γ st):∃ Γ' st',V6 ga body w (xs.map g) Γ st=.nx Γ' st'/\I xs Γ' st':=by
  have key:∀ (post pre:List α) (Γ:Gam) (st:Q1),xs=pre ++ post->I pre Γ st->∃ Γ' st',V6 ga body w (post.map g) Γ st=.nx Γ' st'/\I xs Γ' st':=by
    intro post
    induction post with
    | nil=>intro pre Γ st e i; exact ⟨Γ,st,by simp [V6,hw pre Γ st i],by rw [e,F6]; exact i⟩
    | cons x post ih=>
      intro pre Γ st e i
      obtain ⟨Γ1,h1,Γ2,st2,e2,i2⟩:=h pre x post Γ st e i
      obtain ⟨Γ',st',e3,i3⟩:=ih (pre ++ [x]) Γ2 st2 (by rw [e]; simp) i2
      refine ⟨Γ',st',?_,i3⟩
      rw [D0,V6,if_pos (hw pre Γ st i),h1]
      simp only [e2]
      exact e3
  exact key xs [] Γ st rfl h0
theorem rangeI_eq (lo:Int) (n:Nat):Ze lo n=(List.range n).map fun k=>.int (lo + (k:Int)):=rfl
theorem zipT_map {α β:Type} (f:α->PV) (g:β->PV) (xs:List α) (ys:List β):yh (xs.map f) (ys.map g)=(xs.zip ys).map fun z=>.tup [f z.1,g z.2]:=by
  rw [zipT_eq,List.zip_map,F5]; rfl
theorem jw {α:Type} (f:α->PV) (xs:List α) (i:Int):atI (xs.map f) i=(atI xs i).map f:=by
  unfold atI
  rw [O5]
  cases ixN xs.length i with
  | none=>rfl
  | some j=>simp [E5]
theorem atI_get {α:Type} {xs:List α} {i:Nat} {x:α} (h:xs[i]?=some x):atI xs (i:Int)=some x:=by
  have hl:=(O0.mp h).1
  unfold atI ixN
  rw [if_pos (by omega),if_pos (by omega)]
  simpa using h
theorem cut_map {α:Type} (f:α->PV) (xs:List α) (l h:Option Int):cut (xs.map f) l h=(cut xs l h).map f:=by
  unfold cut
  rw [O5,<- List.map_drop,<- List.map_take]
theorem Uz (n:Nat):Ze 0 n=(List.range n).map fun (k:Nat)=>PV.int (k:Int):=by
  unfold Ze
  refine List.map_congr_left fun k _=>?_
  rw [Int.zero_add]
@[simp] theorem tr_get {α:Type} (st l:List α) (c:α):(st ++ c :: l)[st.length]?=some c:=by
  rw [O8 (O6 _),Nat.sub_self]; rfl
@[simp] theorem tr_get1 {α:Type} (st l:List α) (c d:α):(st ++ c :: d :: l)[st.length + 1]?=some d:=by
  rw [O8 (by omega)]
  rw [show st.length + 1 - st.length=1 by omega]; rfl
@[simp] theorem tr_set {α:Type} (st l:List α) (c d:α):(st ++ c :: l).set st.length d=st ++ d :: l:=by
  rw [List.set_append_right _ _ (O6 _),Nat.sub_self]; rfl
@[simp] theorem tr_set1 {α:Type} (st l:List α) (c c' d:α):(st ++ c :: c' :: l).set (st.length + 1) d=st ++ c :: d :: l:=by
  rw [List.set_append_right _ _ (by omega),show st.length + 1 - st.length=1 by omega]; rfl
@[simp] theorem chg_ref (st:Q1) (i:Nat) (g:List PV->Option (PV × List PV)):chg st (.ref i) g=(match st[i]? with | some (.lst xs)=>(match g xs with | some (r,ys)=>.ok r (st.set i (.lst ys)) | none=>.stuck) | _=>.stuck):=rfl
@[simp] theorem lstOf_r (st:Q1) (i:Nat):V3 st (.ref i)=(match st[i]? with | some (.lst xs)=>some xs | _=>none):=rfl
@[simp] theorem Q15 (st:Q1) (i:Nat):Wi st (.ref i)=(match st[i]? with | some (.lst xs)=>some xs | _=>none):=rfl
@[simp] theorem yx (st:Q1) (i:Nat):Wc st (.ref i)=(match st[i]? with | some (.lst xs)=>some xs | _=>none):=rfl
@[simp] theorem srcOf_r (st:Q1) (i:Nat):Vp st (.ref i)=(match st[i]? with | some (.lst xs)=>some (xs,[(i,.lst xs)]) | _=>none):=rfl
@[simp] theorem mtAppend_eq (st:Q1) (p y:PV):Vu st p [y]=chg st p fun xs=>if xs.length < lim then some (.non,xs ++ [y]) else none:=rfl
@[simp] theorem cTuple_r (st:Q1) (i:Nat):Ug st [.ref i]=(match st[i]? with | some (.lst xs)=>.ok (.tup xs) st | _=>.stuck):=by
  unfold Ug; simp only [yx]
  cases st[i]? with
  | none=>rfl
  | some c=>cases c <;> rfl
@[simp] theorem cList_r (st:Q1) (i:Nat):jt st [.ref i]=(match st[i]? with | some (.lst xs)=>.ok (.lst xs) st | _=>.stuck):=by
  unfold jt; simp only [yx]
  cases st[i]? with
  | none=>rfl
  | some c=>cases c <;> rfl
@[simp] theorem cLen_r (st:Q1) (i:Nat):Yk st [.ref i]=(match st[i]? with | some (.lst xs)=>.ok (.int xs.length) st | _=>.stuck):=by
  unfold Yk; simp only [yx]
  cases st[i]? with
  | none=>rfl
  | some c=>cases c <;> rfl
@[simp] theorem Kv (st:Q1) (i:Nat) (j:Int):oIx st (.ref i) (.int j)=(match st[i]? with | some (.lst xs)=>okO st (atI xs j) | _=>.stuck):=by
  unfold oIx; simp only [yx]
  cases st[i]? with
  | none=>rfl
  | some c=>cases c <;> rfl
@[simp] theorem setIx_r (st:Q1) (k:Nat) (j:Int) (p:PV):qy st (.ref k) (.int j) p=(match st[k]? with | some (.lst xs)=>(ixN xs.length j).map fun n=>st.set k (.lst (xs.set n p)) | _=>none):=rfl
theorem cut_back {α:Type} (xs:List α) (k:Nat):cut xs (some (k:Int)) none=xs.drop k:=by
  unfold cut
  rw [HT.sIx_none,HT.sIx_nat]
  rcases Nat.le_total k xs.length with h | h
  · rw [Nat.min_eq_left h,List.take_of_length_le (by rw [List.length_drop]; omega)]
  · rw [Nat.min_eq_right h,List.drop_length,List.drop_of_length_le h]; simp
end Sm
namespace Sm
open PySem PySem.Spec L2
theorem getD_some {α:Type} {l:List α} {j:Nat} (h:j < l.length) (d:α):l[j]?=some (l.getD j d):=by
  rw [List.getD,O2 h]; rfl
def ListAt (st:Q1) (V:PV) (xs:List PV):Prop:=V=.lst xs\/V=.fro xs\/∃ i,V=.ref i/\st[i]?=some (.lst xs)
theorem ListAt.ix {st:Q1} {V:PV} {xs:List PV} (h:ListAt st V xs) (j:Int):oIx st V (.int j)=okO st (atI xs j):=by
  rcases h with rfl | rfl | ⟨i,rfl,e⟩
  · rfl
  · rfl
  · rw [Kv,e]
theorem ListAt.len {st:Q1} {V:PV} {xs:List PV} (h:ListAt st V xs):Yk st [V]=.ok (.int xs.length) st:=by
  rcases h with rfl | rfl | ⟨i,rfl,e⟩
  · rfl
  · rfl
  · rw [cLen_r,e]
theorem ListAt.src {st:Q1} {V:PV} {xs:List PV} (h:ListAt st V xs):∃ w,Vp st V=some (xs,w)/\wOk w st:=by
  rcases h with rfl | rfl | ⟨i,rfl,e⟩
  · exact ⟨[],rfl,by simp⟩
  · exact ⟨[],rfl,by simp⟩
  · exact ⟨[(i,.lst xs)],by rw [srcOf_r,e],by simp [wOk,e]⟩
@[simp] theorem mListN_eq (ma:ME) (Γ:Gam) (st:Q1):mListN ma Γ st=(ma Γ st).bind fun p st1=>match Wc st1 p with | some xs=>.ok xs st1 | none=>.stuck:=rfl
end Sm
namespace Sm
open PySem PySem.Spec L2
section
variable {X:Cx} {E:XK} {a b:Expr} {ma mb:ME} {pos:Pos}
theorem repL_range {H:Hp} {ρ:Tk} (ks:List Nat):RepL H ρ (ks.map fun (k:Nat)=>.int (k:Int)) (ks.map fun (k:Nat)=>V.int (k:Int)):=by
  induction ks with
  | nil=>exact RepL.nil
  | cons k ks ih=>exact RepL.cons rfl ih
end
end Sm
namespace Sm
open PySem PySem.Spec L2
def Zh (body:MS) (nl:Nat):FN:=fun ps st=>match body (ps.map some ++ List.replicate (nl - ps.length) none) st with
  | .rt v st'=>.ok v st'
  | .nx _ st'=>.ok .non st'
  | .exc x st'=>.exc x st'
  | _=>.stuck
section
variable {P:Program} {w:World} {K:PySem.W.Frag} {mg:Str->Option Value} {base:Heap}
theorem fun_okK {x qual:Str} {st:Stmt} {f:Addr} {fd:FuncData} {N ps:List Str} {k:Nat} {m:MS} (F:Fun K x qual st f fd) (S:FnScope N ps (Q6 st))
    (hb:∀ (cdv:Value) (A:Around) (outer:List PySem.Env) (s:Shared) (H:Hp) (E:XK),Room k (A.deeper (PyProof.Rows.envOfC qual (Q6 st) s.heap.objs.size f cdv))->SimB (cxD P w K mg base N qual (Q6 st) f cdv A outer s H E) E (Qp st) m) :
    FnOk P w K mg base (CXD P w) (k + 1) f fd ps (spF mg ps.length (Zh m N.length)):=by
  refine Fun.okD F S (fun vs H Q E h=>h.1) fun cdv A outer s H vs Q E hr hsp=>⟨_,Q0j,?_⟩
  obtain ⟨hl,ρ,st0,pvs,R,rl,hA⟩:=hsp
  refine (hb cdv A outer s H E hr).run _ (L2.start N vs) H ρ st0 _ R (Q29 rl) ?_
  unfold Zh at hA
  cases rr:m (pvs.map some ++ List.replicate (N.length - pvs.length) none) st0 with
  | rt v st1=>rw [rr] at hA; exact fun v H' ρ' x R' r=>hA H' ρ' x R' v r
  | nx Γ st1=>rw [rr] at hA; exact fun σ' H' ρ' x' R' G'=>hA H' ρ' x' R' .non rfl
  | bk Γ st1=>rw [rr] at hA; exact hA.elim
  | ct Γ st1=>rw [rr] at hA; exact hA.elim
  | stuck=>rw [rr] at hA; exact hA.elim
  | exc y st1=>rw [rr] at hA; exact hA
end
theorem V4 {P:Program} {w:World} {K:PySem.W.Frag} {mg:Str->Option Value} {base:Heap} {x qual:Str} {st:Stmt} {f:Addr} {fd:FuncData} {N ps:List Str} {k n nl:Nat} {m:MS} {FF:FN} (F:Fun K x qual st f fd) (S:FnScope N ps (Q6 st)) (hn:ps.length=n) (hnl:N.length=nl) (hF:FF=Zh m nl)
    (hb:∀ (cdv:Value) (A:Around) (outer:List PySem.Env) (s:Shared) (H:Hp) (E:XK),Room k (A.deeper (PyProof.Rows.envOfC qual (Q6 st) s.heap.objs.size f cdv))->SimB (cxD P w K mg base N qual (Q6 st) f cdv A outer s H E) E (Qp st) m) :
    FnOk P w K mg base (CXD P w) (k + 1) f fd ps (spF mg n FF):=by
  subst hn; subst hnl; subst hF
  exact fun_okK F S hb
end Sm
namespace Sm
open PySem PySem.Spec PyProof.Rows L2
section
variable {X:Cx} {E:XK} {pos:Pos} {a b:Expr} {ma mb:ME}
def mTR (ma:ME):ME:=fun Γ st=>(ma Γ st).bind fun p st1=>match p with
  | .int i=>if 0<=i/\i<=1000000 then .ok (.tup ((List.range i.toNat).map fun (k:Nat)=>.int (k:Int))) st1 else .stuck
  | _=>.stuck
theorem se_trange {p p' pos':Pos} (ha:SimE X E a ma) (hc:X.calm=true) (hg:Gl X "tuple") (hm:X.mg "tuple" = none) (hg':Gl X "range") (hm':X.mg "range" = none) (he:starEach [a] X.env=(false,eval a X.env) :: starEach [] X.env:=by rfl) (hs:starEach [a] X.env=[(false,eval a X.env)]:=by rfl)
    (hs2:starEach [.Call (.Name "range" p') [a] [] pos'] X.env=[(false,eval (.Call (.Name "range" p') [a] [] pos') X.env)]:=by rfl):SimE X E (.Call (.Name "tuple" p) [.Call (.Name "range" p') [a] [] pos'] [] pos) (mTR ma):=
  ⟨fun Γ σ H ρ st Q R G hq=>WE.of (pe_tupRange hc hg hm hg' hm' L2.boot_tuple (Qm Zf Ju he) hs hs2) (ha.use' R G hq.bind fun q st1 H1 ρ1 v e1 x1 R1 G1 r1 h1=>by
    split at h1
    · rename_i i
      split at h1
      · rename_i hi
        have ev:v=.int i:=r1
        subst ev
        exact ⟨i.toNat,by rw [Int.toNat_of_nonneg hi.1],by omega,Kb R1 h1 (repL_range _)⟩
      · exact h1.elim
    · exact h1.elim)⟩
@[simp] theorem zg (ma:ME) (Γ:Gam) (st:Q1):mTR ma Γ st=(ma Γ st).bind fun p st1=>match p with
  | .int i=>if 0<=i/\i<=1000000 then .ok (.tup ((List.range i.toNat).map fun (k:Nat)=>.int (k:Int))) st1 else .stuck
  | _=>.stuck:=rfl
end
end Sm
namespace Sm
open PySem PySem.Spec L2
section
variable {X:Cx} {E:XK} {pos:Pos} {e:Expr} {m:ME}
end
section
end
section
variable {X:Cx} {E:XK} {pos dpos:Pos} {e1 e2 e3 i:Expr} {m1 m2 m3 mi:ME} {k1 k2 k3:Str} {j1 j2 j3:Nat} {q1 q2 q3:Pos}
end
section
variable {X:Cx} {E:XK} {pos:Pos} {e:Expr} {m:ME}
end
theorem Ya {k:Nat} {A:Around} (r:Room k A):A.units + 1 < cLine:=by have:=r.un; omega
end Sm
namespace Sm
open PySem PySem.Spec L2
section
variable {X:Cx} {E:XK}
def oEqD:OP:=fun st p q=>match fz 0 st 16 p,fz 0 st 16 q with
  | some p',some q'=>if Ye dep p'=true/\Ye dep q'=true then .ok (.bl (peq p' q')) st else .stuck
  | _,_=>.stuck
end
end Sm
namespace Sm
open PySem PySem.Spec L2
section
variable {H0 H:Hp} {ρ0 ρ:Tk} {st:Q1} {a:Addr} {ps:List (Key × PV)} {vs:List (Key × V)}
theorem out_trkD (R0:Rel H0 ρ0 st) (x:Ext H0 ρ0 H ρ) {st1:Q1} (R:Rel H ρ st1) (hm:a∈ρ.hid) (hn:H0 a=none) (ha:H a=some (.dK vs)) (r:RepD H ρ ps vs) :
    Ext H0 ρ0 H ⟨ρ.tr ++ [a],ρ0.hid⟩/\Rel H ⟨ρ.tr ++ [a],ρ0.hid⟩ (st1 ++ [.dic ps])/\Rep H ⟨ρ.tr ++ [a],ρ0.hid⟩ (.ref st1.length) (.ref a):=by
  have na0:a∉ρ0.hid:=fun z=>by
    obtain ⟨o,e,_⟩:=R0.hd a z
    rw [hn] at e; cases e
  refine ⟨⟨x.pre.trans (List.prefix_append _ _),fun _ h=>h,fun _ h=>.inl h,x.keep,fun b hb=>?_,x.old,x.frz⟩,⟨?_,?_,fun b hb=>R.hd b (x.hidM b hb),fun b hb z=>?_,fun i b c h1 h2=>?_⟩,a,?_,rfl⟩
  · rcases E7.mp hb with z | z
    · exact x.new b z
    · have:b=a:=by simpa using z
      subst this; exact .inr hn
  · show (ρ.tr ++ [a]).length=_
    rw [D5,D5,R.len]; rfl
  · show (ρ.tr ++ [a]).Nodup
    refine List.nodup_append.mpr ⟨R.nd,by simp,fun b hb c hc e=>?_⟩
    have:c=a:=by simpa using hc
    subst this; subst e
    exact R.ap b hm hb
  · rcases E7.mp z with z | z
    · exact R.ap b (x.hidM b hb) z
    · have:b=a:=by simpa using z
      subst this; exact na0 hb
  · have h1:(ρ.tr ++ [a])[i]?=some b:=h1
    by_cases hi:i < st1.length
    · rw [O3 (by rw [R.len]; exact hi)] at h1
      rw [O3 hi] at h2
      have q:=R.cell i b c h1 h2
      cases c with
      | lst qs=>
        obtain ⟨us,e1,e2⟩:=q
        exact ⟨us,e1,e2.trk hm x.hidM⟩
      | dic qs=>
        obtain ⟨us,e1,e2⟩:=q
        exact ⟨us,e1,e2.1,e2.2.trk hm x.hidM⟩
      | dtp qs=>
        obtain ⟨us,e1,e2⟩:=q
        exact ⟨us,e1,e2.1,e2.2.trk hm x.hidM⟩
      | frd qs=>
        obtain ⟨us,e1,e2⟩:=q
        exact ⟨us,e1,e2.1,e2.2.trk hm x.hidM⟩
    · rw [O8 (by rw [R.len]; omega)] at h1
      rw [O8 (by omega)] at h2
      have e0:i - st1.length=0:=by
        rcases Nat.eq_zero_or_pos (i - st1.length) with z | z
        · exact z
        · rw [List.getElem?_eq_none (by simp; omega)] at h2; cases h2
      rw [R.len,e0] at h1
      rw [e0] at h2
      simp at h1 h2
      subst h1; subst h2
      exact ⟨vs,ha,r.1,r.2.trk hm x.hidM⟩
  · show (ρ.tr ++ [a])[st1.length]?=some a
    rw [<- R.len,O8 (O6 _),Nat.sub_self]; rfl
end
def J9 (kvs:List (Key × PV)) (k:Key):Option PV:=(kvs.find? fun kv=>decide (kv.1=k)).map (·.2)
def Kp (kvs:List (Key × PV)) (k:Key) (v:PV):List (Key × PV):=
  if (kvs.any fun kv=>decide (kv.1=k))=true then kvs.map (fun kv=>if kv.1=k then (kv.1,v) else kv) else kvs ++ [(k,v)]
def Vx:PV->Option Key
  | .int i=>some (.inl i)
  | .str x=>some (.inr x)
  | _=>none
theorem Ka {H:Hp} {ρ:Tk} {p:PV} {v:V} {k:Key} (e:Vx p=some k) (r:Rep H ρ p v):v=kV k:=by
  cases p with
  | int i=>cases e; exact r
  | str x=>cases e; exact r
  | _=>cases e
theorem Xi {H:Hp} {ρ:Tk}:∀ {kvs:List (Key × PV)} {vs:List (Key × V)},RepD H ρ kvs vs->∀ k:Key,(J9 kvs k=none/\Uv vs k=none)\/∃ p v,J9 kvs k=some p/\Uv vs k=some v/\Rep H ρ p v
  | [],[],_,k=>.inl ⟨rfl,rfl⟩
  | [],_ :: _,r,_=>by have:=r.length; cases this
  | _ :: _,[],r,_=>by have:=r.length; cases this
  | (k1,p1) :: kvs,(k2,v2) :: vs,r,k=>by
    obtain ⟨r1,v,t,e,r2,r3⟩:=r
    have e1:k2=k1/\vs.map Prod.fst=kvs.map Prod.fst:=by
      have:k2 :: vs.map Prod.fst=k1 :: kvs.map Prod.fst:=r1
      exact List.cons.inj this
    have e2:v2 :: vs.map Prod.snd=v :: t:=e
    cases e2
    obtain ⟨rfl,e3⟩:=e1
    by_cases q:k2=k
    · exact .inr ⟨p1,v2,by simp [J9,q],by simp [Uv,q],r2⟩
    · have ih:=Xi (kvs:=kvs) (vs:=vs) ⟨e3,r3⟩ k
      have a1:J9 ((k2,p1) :: kvs) k=J9 kvs k:=by simp [J9,F3,q]
      have a2:Uv ((k2,v2) :: vs) k=Uv vs k:=by simp [Uv,F3,q]
      rw [a1,a2]; exact ih
section
variable {X:Cx} {E:XK} {pos dpos apos cpos:Pos} {e e1 e2 e3 i o f:Expr} {m m1 m2 m3 mi mo mf:ME} {k1 k2 k3:Str} {j1 j2 j3:Nat} {q1 q2 q3:Pos}
def dget2 (st:Q1) (i:Nat) (k z:PV):Res PV:=match st[i]?,Vx k with
  | some (.dic kvs),some k=>.ok ((J9 kvs k).getD z) st
  | _,_=>.stuck
def isDic (st:Q1) (i:Nat):Bool:=match st[i]? with
  | some (.dic _)=>true
  | _=>false
end
end Sm
namespace Sm
open PySem PySem.Spec L2
def yd (st:Q1):PV->Option (List (Key × PV))
  | .ref i=>match st[i]? with
    | some (.dic kvs)=>some kvs
    | some (.frd kvs)=>some kvs
    | _=>none
  | _=>none
theorem K2 {H:Hp} {ρ:Tk} {st:Q1} {p:PV} {v:V} {kvs:List (Key × PV)} (R:Rel H ρ st) (r:Rep H ρ p v) (e:yd st p=some kvs):∃ i a vs,p=.ref i/\v=.ref a/\ρ.tr[i]?=some a/\Rd H a (.dK vs)/\RepD H ρ kvs vs:=by
  cases p with
  | ref i=>
    obtain ⟨a,ea,rfl⟩:=r
    unfold yd at e
    cases z:st[i]? with
    | none=>simp only [z] at e; cases e
    | some c=>
      simp only [z] at e
      cases c with
      | dic kvs'=>
        cases e
        obtain ⟨b,vs,eb,hb,rd⟩:=R.dic z
        rw [ea] at eb
        cases eb
        exact ⟨i,a,vs,rfl,rfl,ea,.inl hb,rd⟩
      | frd kvs'=>
        cases e
        obtain ⟨b,vs,o,eb,hb,rd⟩:=R.frd z
        rw [ea] at eb
        cases eb
        exact ⟨i,a,vs,rfl,rfl,ea,.inr ⟨o,hb⟩,rd⟩
      | lst xs=>cases e
      | dtp xs=>cases e
  | _=>cases e
def zt (st:Q1) (i:Nat):Option (List (Key × PV)):=match st[i]? with
  | some (.dic kvs)=>some kvs
  | _=>none
theorem jp {st:Q1} {i:Nat} {kvs:List (Key × PV)} (e:zt st i=some kvs):st[i]?=some (.dic kvs):=by
  unfold zt at e
  split at e
  · rename_i q; cases e; exact q
  · cases e
theorem DGet.kr {H:Hp} {a:Addr} {kvs:List (Key × V)} {k:Key} (e:Rd H a (.dK kvs)):DGet H a (kV k) (Uv kvs k):=.inl ⟨kvs,k,e,rfl,rfl⟩
theorem repD_put {H:Hp} {ρ:Tk} {kvs:List (Key × PV)} {vs:List (Key × V)} (r:RepD H ρ kvs vs) (k:Key) {p:PV} {v:V} (rp:Rep H ρ p v):RepD H ρ (Kp kvs k p) (Uk vs k v):=by
  have ha:(kvs.any fun kv=>decide (kv.1=k))=vs.any fun kv=>decide (kv.1=k):=by
    have e1:(kvs.any fun kv=>decide (kv.1=k))=(kvs.map Prod.fst).any fun x=>decide (x=k):=by rw [List.any_map]; rfl
    have e2:(vs.any fun kv=>decide (kv.1=k))=(vs.map Prod.fst).any fun x=>decide (x=k):=by rw [List.any_map]; rfl
    rw [e1,e2,r.1]
  unfold Kp Uk
  rw [<- ha]
  by_cases q:(kvs.any fun kv=>decide (kv.1=k))=true
  · rw [if_pos q,if_pos q]
    have key:∀ (kvs:List (Key × PV)) (vs:List (Key × V)),RepD H ρ kvs vs->RepD H ρ (kvs.map fun kv=>if kv.1=k then (kv.1,p) else kv) (vs.map fun kv=>if kv.1=k then (kv.1,v) else kv):=by
      intro kvs
      induction kvs with
      | nil=>
        intro vs r
        cases vs with
        | nil=>exact r
        | cons _ _=>have:=r.length; cases this
      | cons a kvs ih=>
        intro vs r
        cases vs with
        | nil=>have:=r.length; cases this
        | cons b vs=>
          obtain ⟨r1,x,t,e,r2,r3⟩:=r
          obtain ⟨e1,e2⟩:=List.cons.inj (show b.1 :: vs.map Prod.fst=a.1 :: kvs.map Prod.fst from r1)
          obtain ⟨e3,e4⟩:=List.cons.inj (show b.2 :: vs.map Prod.snd=x :: t from e)
          subst e3; subst e4
          obtain ⟨i1,i2⟩:=ih vs ⟨e2,r3⟩
          by_cases z:a.1=k
          · have zb:b.1=k:=e1.trans z
            refine ⟨?_,?_⟩
            · rw [D0,D0,D0,D0,if_pos z,if_pos zb]
              show b.1 :: _=a.1 :: _
              rw [e1,i1]
            · rw [D0,D0,D0,D0,if_pos z,if_pos zb]
              exact RepL.cons rp i2
          · have zb:¬ b.1=k:=fun h=>z (e1.symm.trans h)
            refine ⟨?_,?_⟩
            · rw [D0,D0,D0,D0,if_neg z,if_neg zb]
              show b.1 :: _=a.1 :: _
              rw [e1,i1]
            · rw [D0,D0,D0,D0,if_neg z,if_neg zb]
              exact RepL.cons r2 i2
    exact key kvs vs r
  · rw [if_neg q,if_neg q]
    refine ⟨?_,?_⟩
    · rw [F7,F7,r.1]; rfl
    · rw [F7,F7]
      exact r.2.append (RepL.cons rp RepL.nil)
section
variable {X:Cx} {E:XK} {pos dpos tpos:Pos} {e i o k:Expr} {m mi mo mk:ME}
def oInD (neg:Bool):OP:=fun st p q=>match yd st q,Vx p with
  | some kvs,some k=>.ok (.bl ((J9 kvs k).isSome != neg)) st
  | _,_=>.stuck
theorem os_inD (hu:X.A.units + 1 < cLine):OpS X E (compareOp .In) (oInD false):=⟨fun H ρ st p q x y Q R rp rq h=>by
  unfold oInD at h
  split at h
  · rename_i kvs k e1 e2
    obtain ⟨n,a,vs,rfl,rfl,_,hb,rd⟩:=K2 R rq e1
    have ek:=Ka e2 rp
    subst ek
    intro pins s σ v u I rv ru
    cases ru
    refine d_in hu I (DGet.kr hb) rv fun s' I'=>⟨.bl _,H,I',rfl,?_⟩
    have:(Uv vs k).isSome=(J9 kvs k).isSome:=by
      rcases Xi rd k with ⟨a1,a2⟩ | ⟨p,v,a1,a2,_⟩ <;> rw [a1,a2] <;> rfl
    rw [this]
    rw [Bool.bne_false] at h
    exact now R h rfl
  · exact h.elim⟩
theorem os_notinD (hu:X.A.units + 1 < cLine):OpS X E (compareOp .NotIn) (oInD true):=⟨fun H ρ st p q x y Q R rp rq h=>by
  unfold oInD at h
  split at h
  · rename_i kvs k e1 e2
    obtain ⟨n,a,vs,rfl,rfl,_,hb,rd⟩:=K2 R rq e1
    have ek:=Ka e2 rp
    subst ek
    intro pins s σ v u I rv ru
    cases ru
    refine d_notIn hu I (DGet.kr hb) rv fun s' I'=>⟨.bl _,H,I',rfl,?_⟩
    have:(Uv vs k).isSome=(J9 kvs k).isSome:=by
      rcases Xi rd k with ⟨a1,a2⟩ | ⟨p,v,a1,a2,_⟩ <;> rw [a1,a2] <;> rfl
    rw [this]
    have hh:((J9 kvs k).isSome != true)=!(J9 kvs k).isSome:=by cases (J9 kvs k).isSome <;> rfl
    rw [hh] at h
    exact now R h rfl
  · exact h.elim⟩
def Q1h (st:Q1) (p q:PV):Res PV:=match yd st p,Vx q with
  | some kvs,some k=>match J9 kvs k with
    | some v=>.ok v st
    | none=>.stuck
  | _,_=>.stuck
def Vw (mo mi:ME):ME:=fun Γ st=>(mo Γ st).bind fun p st1=>(mi Γ st1).bind fun q st2=>Q1h st2 p q
theorem Wd (hu:X.A.units + 1 < cLine) (ho:SimE X E o mo) (hi:SimE X E i mi) (hs:NoSl i):SimE X E (.Subscript o i pos) (Vw mo mi):=
  ⟨fun Γ σ H ρ st Q R G h=>WE.of (pe_dget hu Zf Zf hs) (ho.use R G h.bind fun p st1 H1 ρ1 v1 x1 R1 G1 r1 h1=>hi.use R1 G1 h1.bind fun q st2 H2 ρ2 v2 x2 R2 G2 r2 h2=>by
    unfold Q1h at h2
    split at h2
    · rename_i kvs k e1 e2
      split at h2
      · rename_i w e3
        obtain ⟨n,a,vs,rfl,rfl,_,hb,rd⟩:=K2 R2 (r1.ext x2) e1
        have ek:=Ka e2 r2
        subst ek
        rcases Xi rd k with ⟨a1,_⟩ | ⟨p,v,a1,a2,a3⟩
        · rw [a1] at e3; cases e3
        · rw [a1] at e3
          cases e3
          exact ⟨a,v,rfl,by have:=DGet.kr (k:=k) hb; rwa [a2] at this,now R2 h2 a3⟩
      · exact h2.elim
    · exact h2.elim)⟩
def dputI (st:Q1) (p q v:PV):Option Q1:=match p,Vx q with
  | .ref n,some k=>match zt st n with
    | some kvs=>if kvs.length < lim then some (st.set n (.dic (Kp kvs k v))) else none
    | none=>none
  | _,_=>none
def mDPutI (mo mi m:ME):MS:=fun Γ st=>(m Γ st).sbind fun v st1=>(mo Γ st1).sbind fun p st2=>(mi Γ st2).sbind fun q st3=>match dputI st3 p q v with
  | some st4=>.nx Γ st4
  | none=>.stuck
theorem ss_dput (hu:X.A.units + 1 < cLine) (he:SimE X E e m) (ho:SimE X E o mo) (hi:SimE X E i mi) (hs:swapsWith e (some (.Subscript o i tpos)) pos.line X.env=pure false:=by rfl):SimS X E (.Assign [.Subscript o i tpos] e pos) (mDPutI mo mi m):=
  ⟨fun Γ σ H ρ st D R G h=>WS.of (ps_dput hu Zf Zf Zf hs) (he.use R G h.bind fun v st1 H1 ρ1 z x1 R1 G1 r1 h1=>ho.use R1 G1 h1.bind fun p st2 H2 ρ2 x x2 R2 G2 r2 h2=>hi.use R2 G2 h2.bind fun q st3 H3 ρ3 y x3 R3 G3 r3 h3=>by
    cases es:dputI st3 p q v with
    | none=>rw [es] at h3; exact h3.elim
    | some st4=>
      rw [es] at h3
      unfold dputI at es
      split at es
      · rename_i n k e2
        split at es
        · rename_i kvs e1
          split at es
          · rename_i hl
            cases es
            obtain ⟨a,ea,rfl⟩:=r2.ext x3
            have hsx:=jp e1
            obtain ⟨b,vs,eb,hb,rd⟩:=R3.dic hsx
            rw [ea] at eb
            cases eb
            have ek:=Ka e2 r3
            subst ek
            have x4:Ext H3 ρ3 (upd H3 a (.dK (Uk vs k z))) ρ3:=Ext.put (D8 ea) hb
            have rz:=(r1.ext (x2.trans x3)).ext x4
            have R4:Rel (upd H3 a (.dK (Uk vs k z))) ρ3 (st3.set n (.dic (Kp kvs k v))):=R3.putC ea hb ⟨_,Qb,repD_put (rd.ext x4) k rz⟩
            refine ⟨a,_,rfl,DPut.k hb (by rw [<- rd.length]; exact D2 hl lim_le),h3 σ _ ρ3 x4 R4 (G3.ext x4)⟩
          · cases es
        · cases es
      · cases es)⟩
def zh (mk m:ME):ME:=fun Γ st=>(mk Γ st).bind fun pk st1=>(m Γ st1).bind fun pv st2=>match Vx pk with
  | some k=>.ok (.ref st2.length) (st2 ++ [.dic [(k,pv)]])
  | none=>.stuck
theorem Q0a (hk:SimE X E k mk) (he:SimE X E e m):SimE X E (.Dict [some k] [e] dpos) (zh mk m):=by
  refine ⟨fun Γ σ H ρ st Q R G h=>WE.of (pe_disp (pps_cons Zf Zf pps_nil) rfl rfl (by simp) (by simp)) ?_⟩
  intro p hp
  have x0:Ext H ρ (upd H p (.dK [])) (ρ.hide p):=Ext.hide hp
  refine hk.use' (R.hide hp) (G.hide hp) (h.bind.later x0) fun a1 st1 H1 ρ1 v1 f1 x1 R1 G1 r1 _=>?_
  have h:=h
  unfold zh at h
  rw [f1] at h
  have h:Acc X.mg E H ρ (QV Q) ((m Γ st1).bind fun pv st2=>match Vx a1 with
    | some k=>.ok (.ref st2.length) (st2 ++ [.dic [(k,pv)]])
    | none=>.stuck):=h
  refine he.use' R1 G1 (h.bind.later (x0.trans x1)) fun a2 st2 H2 ρ2 v2 f2 x2 R2 G2 r2 _=>?_
  rw [f2] at h
  cases kk:Vx a1 with
  | none=>
    have h:Acc X.mg E H ρ (QV Q) (match Vx a1 with
      | some k=>.ok (.ref st2.length) (st2 ++ [.dic [(k,a2)]])
      | none=>.stuck):=h
    rw [kk] at h; exact h.elim
  | some k'=>
    have h:Acc X.mg E H ρ (QV Q) (match Vx a1 with
      | some k=>.ok (.ref st2.length) (st2 ++ [.dic [(k,a2)]])
      | none=>.stuck):=h
    rw [kk] at h
    have ek:=Ka kk r1
    subst ek
    have xe:Ext (upd H p (.dK [])) (ρ.hide p) H2 ρ2:=x1.trans x2
    have pt0:p∉(ρ.hide p).tr:=fun z=>R.fresh hp (.inl z)
    have hp3:H2 p=some (.dK []):=xe.keep p _ Qb pt0
    have ph3:p∈ρ2.hid:=xe.hidM p E4
    refine ⟨hp3,[(k',v2)],rfl,by simp,?_⟩
    have hm:Wz [] [(k',v2)]=[(k',v2)]:=by simp [Wz,Uk]
    rw [hm]
    have y:Ext H ρ (upd H2 p (.dK [(k',v2)])) ρ2:=(x0.trans xe).put0 hp
    have g2:=r2.rehide (o:=.dK [(k',v2)]) ph3
    obtain ⟨x5,R5,r5⟩:=out_trkD (ps:=[(k',a2)]) R y (R2.rehide ph3) ph3 hp Qb ⟨rfl,RepL.cons g2 RepL.nil⟩
    exact h _ _ x5 R5 _ r5
end
end Sm
namespace Sm
open PySem PySem.Spec L2
theorem boot_dict:bootBuiltins "dict" = some (.type "dict"):=by decide +kernel
def kP:Key->PV
  | .inl i=>.int i
  | .inr x=>.str x
theorem rep_kP {H:Hp} {ρ:Tk} (k:Key):Rep H ρ (kP k) (kV k):=by cases k <;> rfl
def Xn:List PV->Option (List (Key × PV))
  | []=>some []
  | .tup [k,v] :: xs=>match Vx k with
    | some k=>(Xn xs).map ((k,v) :: ·)
    | none=>none
  | _ :: _=>none
def mergeP (kvs more:List (Key × PV)):List (Key × PV):=more.foldl (fun acc kv=>Kp acc kv.1 kv.2) kvs
theorem Q0h {H:Hp} {ρ:Tk}:∀ {more:List (Key × PV)} {mv:List (Key × V)} {kvs:List (Key × PV)} {vs:List (Key × V)},RepD H ρ more mv->RepD H ρ kvs vs->RepD H ρ (mergeP kvs more) (Wz vs mv)
  | [],[],_,_,_,r=>r
  | [],_ :: _,_,_,r,_=>by have:=r.length; cases this
  | _ :: _,[],_,_,r,_=>by have:=r.length; cases this
  | (k,p) :: more,(k',v) :: mv,kvs,vs,r,s=>by
    obtain ⟨r1,x,t,e,r2,r3⟩:=r
    obtain ⟨e1,e2⟩:=List.cons.inj (show k' :: mv.map Prod.fst=k :: more.map Prod.fst from r1)
    obtain ⟨e3,e4⟩:=List.cons.inj (show v :: mv.map Prod.snd=x :: t from e)
    subst e1; subst e3; subst e4
    exact Q0h (more:=more) (mv:=mv) ⟨e2,r3⟩ (repD_put s k' r2)
theorem Xm {H:Hp} {ρ:Tk}:∀ {xs:List PV} {vs:List V} {kvs:List (Key × PV)},Xn xs=some kvs->RepL H ρ xs vs->∃ kw:List (Key × V),RepD H ρ kvs kw/\Paired (fun (v:V) (kv:Key × V)=>∃ a,v=.ref a/\H a=some (.tup [kV kv.1,kv.2])) vs kw
  | [],vs,kvs,e,r=>by cases e; cases r; exact ⟨[],⟨rfl,rfl⟩,.nil⟩
  | .tup [k,p] :: xs,vs,kvs,e,⟨v,t,e1,r1,r2⟩=>by
    have e:(match Vx k with | some k=>(Xn xs).map ((k,p) :: ·) | none=>none)=some kvs:=e
    cases kk:Vx k with
    | none=>rw [kk] at e; cases e
    | some k'=>
      rw [kk] at e
      cases z:Xn xs with
      | none=>rw [z] at e; cases e
      | some kvs'=>
        rw [z] at e
        cases e
        obtain ⟨kw,g1,g2⟩:=Xm z r2
        obtain ⟨a,us,rfl,ha,_,ru⟩:=r1
        obtain ⟨u1,u2,rfl,q1,q2⟩:=j9 ru
        have ek:=Ka kk q1
        subst ek
        subst e1
        exact ⟨(k',u2) :: kw,⟨by rw [D0,D0,g1.1],RepL.cons q2 g1.2⟩,.cons ⟨a,rfl,ha⟩ g2⟩
  | .tup [] :: _,_,_,e,_=>by cases e
  | .tup [_] :: _,_,_,e,_=>by cases e
  | .tup (_ :: _ :: _ :: _) :: _,_,_,e,_=>by cases e
  | .non :: _,_,_,e,_=>by cases e
  | .bl _ :: _,_,_,e,_=>by cases e
  | .int _ :: _,_,_,e,_=>by cases e
  | .str _ :: _,_,_,e,_=>by cases e
  | .lst _ :: _,_,_,e,_=>by cases e
  | .fro _ :: _,_,_,e,_=>by cases e
  | .ref _ :: _,_,_,e,_=>by cases e
  | .dic :: _,_,_,e,_=>by cases e
section
variable {X:Cx} {E:XK} {pos dpos tpos:Pos} {e i o k:Expr} {m mi mo mk:ME} {tg:Expr}
def zw:CF:=fun st ps=>match ps with
  | [p]=>match Wi st p with
    | some xs=>match Xn xs with
      | some kvs=>.ok (.ref st.length) (st ++ [.dic (mergeP [] kvs)])
      | none=>.stuck
    | none=>.stuck
  | _=>.stuck
theorem cs_dictP (hc:X.calm=true):CallS X E (.type "dict") zw:=⟨fun H ρ st ps xs Q R rp h=>by
  unfold zw at h
  split at h
  · rename_i p
    obtain ⟨v,rfl,r⟩:=Zw rp
    split at h
    · rename_i ys el
      split at h
      · rename_i kvs ek
        obtain ⟨a,vs,rfl,hr,rl⟩:=Kg R r el
        obtain ⟨kw,g1,g2⟩:=Xm ek rl
        refine WC.of (call_dictP hc) ⟨a,vs,kw,rfl,.inl hr,g2,fun d hd=>?_⟩
        have x:Ext H ρ (upd H d (.dK (Wz [] kw))) (ρ.add d):=Ext.addT hd
        refine h _ _ x (R.addC hd ⟨_,Qb,(Q0h g1 (show RepD H ρ [] [] from ⟨rfl,RepL.nil⟩)).ext x⟩) _ ⟨d,?_,rfl⟩
        show (ρ.tr ++ [d])[st.length]?=some d
        rw [<- R.len,O8 (O6 _),Nat.sub_self]; rfl
      · exact h.elim
    · exact h.elim
  · exact h.elim⟩
def Q12:ME:=fun Γ st=>.ok (.ref st.length) (st ++ [.dic []])
theorem se_disp0:SimE X E (.Dict [] [] dpos) Q12:=⟨fun Γ σ H ρ st Q R G h=>WE.of pe_dnewK fun d hd=>by
  have x:Ext H ρ (upd H d (.dK [])) (ρ.add d):=Ext.addT hd
  refine h _ _ x (R.addC hd ⟨_,Qb,rfl,rfl⟩) _ ⟨d,?_,rfl⟩
  show (ρ.tr ++ [d])[st.length]?=some d
  rw [<- R.len,O8 (O6 _),Nat.sub_self]; rfl⟩
def K0 (st:Q1):PV->Option (List PV × Nat × List (Key × PV))
  | .ref i=>match zt st i with
    | some kvs=>some (kvs.map (fun kv=>kP kv.1),i,kvs)
    | none=>none
  | _=>none
def mKeys (m:ME):MI:=fun Γ st=>(m Γ st).bind fun p st1=>match K0 st1 p with
  | some (ks,i,kvs)=>if ks.length<=lim then .ok (ks,[(i,.frd kvs)]) (st1.set i (.frd kvs)) else .stuck
  | none=>.stuck
theorem si_keys (ha:SimE X E e m):SimI X E tg e (mKeys m):=⟨fun Γ σ H ρ st P R' R G h k=>by
  have hb:Acc X.mg E H ρ _ (m Γ st):=Acc.bind h
  refine WI.of (pi_keys Zf) (ha.use' R G hb fun p st1 H1 ρ1 v eq x1 R1 G1 r1 _=>?_)
  have hm:mKeys m Γ st=(match K0 st1 p with
    | some (ks,i,kvs)=>if ks.length<=lim then Res.ok (ks,[(i,.frd kvs)]) (st1.set i (.frd kvs)) else .stuck
    | none=>.stuck):=by unfold mKeys; rw [eq]; rfl
  rw [hm] at h
  cases p with
  | ref i=>
    cases ew:zt st1 i with
    | none=>
      have:K0 st1 (.ref i)=none:=by simp only [K0,ew]
      rw [this] at h; exact h.elim
    | some kvs=>
      have ek:K0 st1 (.ref i)=some (kvs.map (fun kv=>kP kv.1),i,kvs):=by simp only [K0,ew]
      rw [ek] at h hm
      have h:Acc X.mg E H ρ P (if (kvs.map (fun kv=>kP kv.1)).length<=lim then Res.ok (kvs.map (fun kv=>kP kv.1),[(i,.frd kvs)]) (st1.set i (.frd kvs)) else .stuck):=h
      by_cases hl:(kvs.map (fun kv=>kP kv.1)).length<=lim
      · rw [if_pos hl] at h
        have hm:mKeys m Γ st=Res.ok (kvs.map (fun kv=>kP kv.1),[(i,.frd kvs)]) (st1.set i (.frd kvs)):=hm.trans (if_pos hl)
        obtain ⟨a,ea,rfl⟩:=r1
        obtain ⟨b,vs,eb,hb',rd⟩:=R1.dic (jp ew)
        rw [ea] at eb
        cases eb
        refine ⟨a,vs,rfl,hb',fun o hn=>?_⟩
        have mem:=D8 ea
        have x2:Ext H1 ρ1 (upd H1 a (.frz o (.dK vs))) ρ1:=Ext.put mem hb'
        have R2:Rel (upd H1 a (.frz o (.dK vs))) ρ1 (st1.set i (.frd kvs)):=R1.putC ea hb' ⟨vs,⟨o,Qb⟩,rd.ext x2⟩
        have hi:i < st1.length:=(O0.mp (jp ew)).1
        refine k (kvs.map (fun kv=>kP kv.1),[(i,.frd kvs)]) (st1.set i (.frd kvs)) _ ρ1 _ hm (x1.trans x2) R2 (G1.ext x2) (fun y hy=>?_) (W2 hl) ?_ (h _ _ (x1.trans x2) R2)
        · have:y=(i,.frd kvs):=by simpa using hy
          subst this
          rw [D9 hi]
        · have kl:vs.map Prod.fst=kvs.map Prod.fst:=rd.1
          have len:kvs.length=vs.length:=rd.length
          refine ⟨fun H2 ρ2 st2 x R ok=>⟨x.frz a o _ Qb,by simp [len]⟩,fun H2 ρ2 st2 x R ok j hj=>⟨x.frz a o _ Qb,by rw [<- len]; simpa using hj⟩,fun H2 ρ2 st2 x R ok j p hp y H3 hy=>?_⟩
          obtain ⟨rfl,kv,hkv,rfl⟩:=hy
          refine ⟨Same.refl _,?_⟩
          rw [E5] at hp
          have e1:(kvs.map Prod.fst)[j]?=some kv.1:=by rw [<- kl,E5,hkv]; rfl
          rw [E5] at e1
          cases z:kvs[j]? with
          | none=>rw [z] at e1; cases e1
          | some q=>
            rw [z] at e1 hp
            cases hp
            have e1:q.1=kv.1:=Option.some.inj e1
            rw [<- e1]
            exact rep_kP q.1
      · rw [if_neg hl] at h; exact h.elim
  | _=>exact h.elim⟩
def Kt (st st':Q1):Nat->Q1
  | 0=>st'
  | n + 1=>match st[n]?,(Kt st st' n)[n]? with
    | some (.dic _),some (.frd kvs)=>(Kt st st' n).set n (.dic kvs)
    | _,_=>Kt st st' n
def mThaw (m:MS):MS:=fun Γ st=>match m Γ st with
  | .nx Γ' st'=>.nx Γ' (Kt st st' st.length)
  | r=>r
theorem thaw_ok {pins:List (Addr × Obj)} {σ σ':St} {H H':Hp} {ρ ρ':Tk} {st st':Q1} {Γ':Gam} {s0:Shared} (I:Inv X pins σ H s0) (R:Rel H ρ st) (x:Ext H ρ H' ρ') (R':Rel H' ρ' st') (G':EnvR H' ρ' Γ' σ') :
    ∀ n,∃ H'',Ext H ρ H'' ρ'/\Rel H'' ρ' (Kt st st' n)/\EnvR H'' ρ' Γ' σ'/\∀ pins s',Inv X pins σ' H' s'->Inv X pins σ' H'' s'
  | 0=>⟨H',x,R',G',fun _ _ h=>h⟩
  | n + 1=>by
    obtain ⟨H1,x1,R1,G1,h1⟩:=thaw_ok I R x R' G' n
    rw [Kt]
    split
    · rename_i kvs0 kvs e1 e2
      obtain ⟨a,vs0,ea,ha,_⟩:=R.dic e1
      obtain ⟨b,vs,o,eb,hb,rd⟩:=R1.frd e2
      have ea':ρ'.tr[n]?=some a:=by
        obtain ⟨more,em⟩:=x.pre
        rw [<- em,O3 (O0.mp ea).1]; exact ea
      rw [ea'] at eb
      cases eb
      have mem':=D8 ea'
      have mem:=D8 ea
      refine ⟨upd H1 a (.dK vs),⟨x1.pre,x1.hidM,x1.hidN,fun b u q nb=>?_,x1.new,fun b u q=>?_,fun b u w q=>?_⟩,R1.putC ea' hb ⟨vs,Qb,rd.1,rd.2.retr mem'⟩,G1.retr mem',fun pins s' h=>(h1 pins s' h).thaw hb (I.noFrz ha)⟩
      · rw [Q7 (show b≠a from fun z=>nb (by rw [z]; exact mem))]; exact x1.keep b u q nb
      · by_cases z:b=a
        · exact ⟨_,by rw [z]; exact Qb⟩
        · rw [Q7 z]; exact x1.old b u q
      · rw [Q7 (show b≠a from fun z=>by rw [z,ha] at q; cases q)]; exact x1.frz b u w q
    · exact ⟨H1,x1,R1,G1,h1⟩
theorem ss_thaw {s:Stmt} {m:MS} (h:SimS X E s m):SimS X E s (mThaw m):=⟨fun Γ σ H ρ st D R G hA pins s0 I=>by
  let D1:Ends:={ D with nx:=fun σ' H'=>∃ H'',(∀ pins s',Inv X pins σ' H' s'->Inv X pins σ' H'' s')/\D.nx σ' H'' }
  have acc:AccS X.mg E D1 H ρ (m Γ st):=by
    unfold mThaw at hA
    cases rb:m Γ st with
    | nx Γ2 st2=>
      rw [rb] at hA
      intro σ' H' ρ' x R' G'
      obtain ⟨H'',x2,R2,G2,h2⟩:=thaw_ok I R x R' G' st.length
      exact ⟨H'',h2,hA σ' H'' ρ' x2 R2 G2⟩
    | ct Γ2 st2=>rw [rb] at hA; exact hA
    | bk Γ2 st2=>rw [rb] at hA; exact hA
    | rt v st2=>rw [rb] at hA; exact hA
    | exc y st2=>rw [rb] at hA; exact hA
    | stuck=>rw [rb] at hA; exact hA.elim
  refine thn (h.run Γ σ H ρ st D1 R G acc pins s0 I) fun f s' hf=>?_
  cases f with
  | next=>
    obtain ⟨σ',H',I',H'',h1,h2⟩:=hf
    exact ⟨σ',H'',h1 pins s' I',h2⟩
  | brk=>exact hf
  | cont=>exact hf
  | ret u=>exact hf⟩
@[simp] theorem mDisp0_eq (Γ:Gam) (st:Q1):Q12 Γ st=.ok (.ref st.length) (st ++ [.dic []]):=rfl
end
end Sm
namespace Sm
open PySem PySem.Spec L2
def Ky:List PV->Option (List Int)
  | []=>some []
  | .int i :: xs=>(Ky xs).map (i :: ·)
  | _ :: _=>none
def xy:List PV->Option (List (List Int))
  | []=>some []
  | .tup ys :: xs=>match Ky ys with
    | some (n :: ns)=>(xy xs).map ((n :: ns) :: ·)
    | _=>none
  | _ :: _=>none
def J4 (ns:List Int):PV:=.tup (ns.map .int)
theorem ints_rep {H:Hp} {ρ:Tk}:∀ {xs:List PV} {ns:List Int} {vs:List V},Ky xs=some ns->RepL H ρ xs vs->vs=ns.map V.int/\xs=ns.map PV.int
  | [],_,_,e,r=>by cases e; exact ⟨r,rfl⟩
  | .int i :: xs,ns,_,e,⟨v,t,e1,r1,r2⟩=>by
    have e:(Ky xs).map (i :: ·)=some ns:=e
    cases z:Ky xs with
    | none=>rw [z] at e; cases e
    | some ns'=>
      rw [z] at e
      cases e
      obtain ⟨h1,h2⟩:=ints_rep z r2
      have r1:v=.int i:=r1
      exact ⟨by rw [e1,r1,h1]; rfl,by rw [h2]; rfl⟩
  | .non :: _,_,_,e,_=>by cases e
  | .bl _ :: _,_,_,e,_=>by cases e
  | .str _ :: _,_,_,e,_=>by cases e
  | .tup _ :: _,_,_,e,_=>by cases e
  | .lst _ :: _,_,_,e,_=>by cases e
  | .fro _ :: _,_,_,e,_=>by cases e
  | .ref _ :: _,_,_,e,_=>by cases e
  | .dic :: _,_,_,e,_=>by cases e
theorem tups_rep {H:Hp} {ρ:Tk}:∀ {xs:List PV} {nss:List (List Int)} {vs:List V},xy xs=some nss->RepL H ρ xs vs->xs=nss.map J4/\Paired (fun (v:V) (ns:List Int)=>ns≠[]/\∃ a,v=.ref a/\H a=some (.tup (ns.map V.int))) vs nss
  | [],_,_,e,r=>by cases e; cases r; exact ⟨rfl,.nil⟩
  | .tup ys :: xs,nss,vs,e,⟨v,t,e1,r1,r2⟩=>by
    have e:(match Ky ys with | some (n :: ns)=>(xy xs).map ((n :: ns) :: ·) | _=>none)=some nss:=e
    cases zi:Ky ys with
    | none=>rw [zi] at e; cases e
    | some ms=>
      cases ms with
      | nil=>rw [zi] at e; cases e
      | cons n ns=>
        rw [zi] at e
        cases z:xy xs with
        | none=>rw [z] at e; cases e
        | some nss'=>
          rw [z] at e
          cases e
          obtain ⟨h1,h2⟩:=tups_rep z r2
          obtain ⟨a,us,rfl,ha,_,ru⟩:=r1
          obtain ⟨g1,g2⟩:=ints_rep zi ru
          subst e1
          exact ⟨by rw [h1,g2]; rfl,.cons ⟨by simp,a,rfl,by rw [ha,g1]⟩ h2⟩
  | .int _ :: _,_,_,e,_=>by cases e
  | .non :: _,_,_,e,_=>by cases e
  | .bl _ :: _,_,_,e,_=>by cases e
  | .str _ :: _,_,_,e,_=>by cases e
  | .lst _ :: _,_,_,e,_=>by cases e
  | .fro _ :: _,_,_,e,_=>by cases e
  | .ref _ :: _,_,_,e,_=>by cases e
  | .dic :: _,_,_,e,_=>by cases e
theorem Q2g {H:Hp} {ρ:Tk} {nss:List (List Int)} {vs:List V} (r:RepL H ρ (nss.map J4) vs):∀ (pp:List Nat),(∀ x∈pp,x < vs.length)->RepL H ρ ((pp.map fun i=>nss.getD i []).map J4) (pp.map fun i=>vs.getD i .non)
  | [],_=>rfl
  | x :: pp,h=>by
    have hx:=h x (by simp)
    have hl:=r.length
    rw [O5] at hl
    have e1:(nss.map J4)[x]?=some (J4 (nss.getD x [])):=by
      rw [E5,O2 (by omega),E9,O2 (by omega)]; rfl
    have e2:vs[x]?=some (vs.getD x .non):=by rw [E9,O2 hx]; rfl
    exact RepL.cons (r.i e1 e2) (Q2g r pp fun y hy=>h y (D4 _ hy))
section
variable {X:Cx} {E:XK}
def Q1k:CF:=fun st ps=>match ps with
  | [p]=>match Wi st p with
    | some xs=>match xy xs with
      | some nss=>if nss.length < 64 then .ok (.lst ((Xf nss).map J4)) st else .stuck
      | none=>.stuck
    | none=>.stuck
  | _=>.stuck
theorem cs_sortT:CallS X E (.builtin "sorted") Q1k:=⟨fun H ρ st ps xs Q R rp h=>by
  unfold Q1k at h
  split at h
  · rename_i p
    obtain ⟨v,rfl,r⟩:=Zw rp
    split at h
    · rename_i ys el
      split at h
      · rename_i nss en
        split at h
        · rename_i h64
          obtain ⟨a,vs,rfl,hr,rl⟩:=Kg R r el
          obtain ⟨g1,g2⟩:=tups_rep en rl
          subst g1
          have hl:=rl.length
          rw [O5] at hl
          refine WC.of call_sortedT ⟨a,vs,nss,rfl,.inl hr,by omega,g2,fun d pp hd hp he=>?_⟩
          have rr:=Q2g rl pp fun x hx=>by have:=hp.mem_iff.mp hx; simpa using this
          rw [he] at rr
          exact Kc R h rr d hd
        · exact h.elim
      · exact h.elim
    · exact h.elim
  · exact h.elim⟩
end
end Sm
namespace Sm
open PySem PySem.Spec PyProof.Rows L2
section
variable {X:Cx} {E:XK}
theorem op_fdivB:OpR X (binaryOp .FloorDiv) (rI (fun _ j=>0 < j/\j < 1267650600228229401496703205376) fun i j=>.int (i / j)):=opI fun i j _ _ _ _ _ hc q=>by
  have h1:(0:Int) < j:=hc.1
  have h2:j < 1267650600228229401496703205376:=hc.2
  refine floordiv_int (by omega) (by rw [Int.fdiv_eq_ediv_of_nonneg i (by omega)]; exact q) (.inl (PyProof.noPylong_of_log2 ?_))
  have:j.natAbs.log2 < 100:=(Nat.log2_lt (by omega)).mpr (by
    rw [show (2:Nat) ^ 100=1267650600228229401496703205376 by decide]
    omega)
  omega
def oDivB:OP:=fun st p q=>match p,q with
  | .int a,.int b=>if 0 < b/\b < 1267650600228229401496703205376 then .ok (.int (a / b)) st else .stuck
  | _,_=>.stuck
theorem os_divB:OpS X E (binaryOp .FloorDiv) oDivB:=⟨fun H ρ st p q x y Q R rp rq h=>by
  unfold oDivB at h
  split at h
  · cases rp; cases rq
    split at h
    · rename_i hc
      exact WO.of op_fdivB ⟨_,_,rfl,rfl,hc,now R h rfl⟩
    · exact h.elim
  · exact h.elim⟩
@[simp] theorem oDivB_int (st:Q1) (a b:Int):oDivB st (.int a) (.int b)=if 0 < b/\b < 1267650600228229401496703205376 then .ok (.int (a / b)) st else .stuck:=rfl
def mStk:MS:=fun _ _=>.stuck
theorem ss_stk {s:Stmt}:SimS X E s mStk:=⟨fun Γ σ H ρ st D R G h=>h.elim⟩
end
end Sm
namespace Sm
open PySem PySem.Spec L2
theorem boot_sorted:bootBuiltins "sorted" = some (.builtin "sorted"):=by decide +kernel
section
variable {X:Cx} {E:XK} {pos apos tp:Pos} {e:Expr} {m:ME} {elts:List Expr} {kt:Nat}
def Vf (st:Q1):PV->Option (List PV × Nat × List (Key × PV))
  | .ref i=>match zt st i with
    | some kvs=>some (kvs.map (fun kv=>.tup [kP kv.1,kv.2]),i,kvs)
    | none=>none
  | _=>none
def qj (m:ME):MI:=fun Γ st=>(m Γ st).bind fun p st1=>match Vf st1 p with
  | some (ks,i,kvs)=>if ks.length<=lim then .ok (ks,[(i,.frd kvs)]) (st1.set i (.frd kvs)) else .stuck
  | none=>.stuck
theorem si_items (ha:SimE X E e m) (hbase:attributeBase e "items" X.env (eval e X.env)=eval e X.env:=by rfl) (hline:(apos.endLine == pos.line)=true:=by rfl) :
    SimI X E (.Tuple elts kt tp) (.Call (.Attribute e "items" apos) [] [] pos) (qj m):=⟨fun Γ σ H ρ st P R' R G h k=>by
  have hb:Acc X.mg E H ρ _ (m Γ st):=Acc.bind h
  refine WI.of (pi_items Zf hbase hline) (ha.use' R G hb fun p st1 H1 ρ1 v eq x1 R1 G1 r1 _=>?_)
  have hm:qj m Γ st=(match Vf st1 p with
    | some (ks,i,kvs)=>if ks.length<=lim then Res.ok (ks,[(i,.frd kvs)]) (st1.set i (.frd kvs)) else .stuck
    | none=>.stuck):=by unfold qj; rw [eq]; rfl
  rw [hm] at h
  cases p with
  | ref i=>
    cases ew:zt st1 i with
    | none=>
      have:Vf st1 (.ref i)=none:=by simp only [Vf,ew]
      rw [this] at h; exact h.elim
    | some kvs=>
      have ek:Vf st1 (.ref i)=some (kvs.map (fun kv=>.tup [kP kv.1,kv.2]),i,kvs):=by simp only [Vf,ew]
      rw [ek] at h hm
      have h:Acc X.mg E H ρ P (if (kvs.map (fun kv=>PV.tup [kP kv.1,kv.2])).length<=lim then Res.ok (kvs.map (fun kv=>PV.tup [kP kv.1,kv.2]),[(i,.frd kvs)]) (st1.set i (.frd kvs)) else .stuck):=h
      by_cases hl:(kvs.map (fun kv=>PV.tup [kP kv.1,kv.2])).length<=lim
      · rw [if_pos hl] at h
        have hm:qj m Γ st=Res.ok (kvs.map (fun kv=>PV.tup [kP kv.1,kv.2]),[(i,.frd kvs)]) (st1.set i (.frd kvs)):=hm.trans (if_pos hl)
        obtain ⟨a,ea,rfl⟩:=r1
        obtain ⟨b,vs,eb,hb',rd⟩:=R1.dic (jp ew)
        rw [ea] at eb
        cases eb
        refine ⟨a,vs,rfl,hb',fun o hn=>?_⟩
        have mem:=D8 ea
        have x2:Ext H1 ρ1 (upd H1 a (.frz o (.dK vs))) ρ1:=Ext.put mem hb'
        have R2:Rel (upd H1 a (.frz o (.dK vs))) ρ1 (st1.set i (.frd kvs)):=R1.putC ea hb' ⟨vs,⟨o,Qb⟩,rd.ext x2⟩
        have hi:i < st1.length:=(O0.mp (jp ew)).1
        refine k (kvs.map (fun kv=>PV.tup [kP kv.1,kv.2]),[(i,.frd kvs)]) (st1.set i (.frd kvs)) _ ρ1 _ hm (x1.trans x2) R2 (G1.ext x2) (fun y hy=>?_) (W2 hl) ?_ (h _ _ (x1.trans x2) R2)
        · have:y=(i,.frd kvs):=by simpa using hy
          subst this
          rw [D9 hi]
        · have kl:vs.map Prod.fst=kvs.map Prod.fst:=rd.1
          have len:kvs.length=vs.length:=rd.length
          refine ⟨fun H2 ρ2 st2 x R ok=>⟨x.frz a o _ Qb,by simp [len]⟩,fun H2 ρ2 st2 x R ok j hj=>⟨x.frz a o _ Qb,by rw [<- len]; simpa using hj⟩,fun H2 ρ2 st2 x R ok j p hp y H3 hy=>?_⟩
          obtain ⟨q,kv,hn2,rfl,hkv,rfl⟩:=hy
          have sm:Same H2 (upd H2 q (.tup [kV kv.1,kv.2])):=same_new hn2
          refine ⟨sm,?_⟩
          rw [E5] at hp
          cases z:kvs[j]? with
          | none=>rw [z] at hp; cases hp
          | some q'=>
            rw [z] at hp
            cases hp
            have e1:q'.1=kv.1:=by
              have e1:(kvs.map Prod.fst)[j]?=some kv.1:=by rw [<- kl,E5,hkv]; rfl
              rw [E5,z] at e1
              exact Option.some.inj e1
            have rv:Rep H2 ρ2 q'.2 kv.2:=by
              have r2:=(rd.2.ext x2).ext x
              exact r2.i (by rw [E5,z]; rfl) (by rw [E5,hkv]; rfl)
            refine ⟨q,_,rfl,Qb,R.fresh hn2,RepL.cons ?_ (RepL.cons (rv.ext (Ext.same sm)) RepL.nil)⟩
            rw [<- e1]
            exact rep_kP q'.1
      · rw [if_neg hl] at h; exact h.elim
  | _=>exact h.elim⟩
end
end Sm
namespace Sm
open PySem PySem.Spec L2
section
variable {X:Cx} {E:XK} {pos dpos tpos:Pos} {e i o k:Expr} {m mi mo mk:ME}
end
end Sm
namespace Sm
open PySem PySem.Spec L2
section
variable {X:Cx} {E:XK}
end
end Sm
namespace Sm
open PySem PySem.Spec L2
section
variable {X:Cx} {E:XK} {a:Expr} {ma:ME} {pos:Pos}
end
end Sm
namespace Sm
open PySem PySem.Spec L2 SeqAt
def dEq (ks ls:List (Key × PV)):Bool:=decide (ks.length=ls.length) && ks.all fun kv=>match J9 ls kv.1 with
  | none=>false
  | some v=>peq kv.2 v
def qd (ks:List (Key × PV)):Bool:=ks.all fun kv=>Ye 0 kv.2
def oEqDD (op:Bool) (st:Q1) (p q:PV):Res PV:=match yd st p,yd st q with
  | some ks,some ls=>if qd ks=true/\qd ls=true then .ok (.bl (dEq ks ls == op)) st else .stuck
  | _,_=>.stuck
section
variable {X:Cx} {E:XK}
theorem kv_keys {vs:List (Key × V)} {us:List (Key × Value)} (r:KV vs us):us.map Prod.fst=vs.map Prod.fst:=by
  induction r with
  | nil=>rfl
  | cons hr _ ih=>rw [D0,D0,ih,hr.1]
theorem find_nd {β:Type}:∀ {l:List (Key × β)} {k:Key} {v:β},(l.map Prod.fst).Nodup->(k,v)∈l->(l.find? fun kv=>decide (kv.1=k)).map (·.2)=some v
  | [],_,_,_,h=>by cases h
  | a :: l,k,v,nd,h=>by
    rw [D0,List.nodup_cons] at nd
    rw [F3]
    rcases D6.mp h with e | h
    · subst e; simp
    · have:a.1≠k:=fun z=>nd.1 (by rw [z]; exact List.mem_map.mpr ⟨_,h,rfl⟩)
      rw [decide_eq_false this]
      exact find_nd nd.2 h
theorem jy {H:Hp} {ρ:Tk} {ks:List (Key × PV)} {vs:List (Key × V)} {ws:List (Key × Value)} (r:RepD H ρ ks vs) (kv:KV vs ws) (hp:qd ks=true) (k:Key):(J9 ks k=none/\valueAt ws k=none)\/∃ p v u,J9 ks k=some p/\valueAt ws k=some u/\Rep H ρ p v/\RelV v u/\Ye 0 p=true:=by
  have hv:=kv.val k
  rcases Xi r k with ⟨a1,a2⟩ | ⟨p,v,a1,a2,a3⟩
  · left
    rw [a2] at hv
    refine ⟨a1,?_⟩
    cases z:valueAt ws k with
    | none=>rfl
    | some u=>rw [z] at hv; exact hv.elim
  · right
    rw [a2] at hv
    cases z:valueAt ws k with
    | none=>rw [z] at hv; exact hv.elim
    | some u=>
      rw [z] at hv
      refine ⟨p,v,u,a1,rfl,a3,hv,?_⟩
      unfold J9 at a1
      cases f:ks.find? (fun kv=>decide (kv.1=k)) with
      | none=>rw [f] at a1; cases a1
      | some q=>
        rw [f] at a1
        cases a1
        exact F9.mp hp q (List.mem_of_find?_eq_some f)
theorem os_eqDD (op:Bool) (hu:X.A.units + 64 < cLine):OpS X E (compareOp (if op=true then .Eq else .NotEq)) (oEqDD op):=⟨fun H ρ st p q x y Q R rp rq h=>by
  unfold oEqDD at h
  split at h
  · rename_i ks ls e1 e2
    split at h
    · rename_i hp
      obtain ⟨_,a,va,rfl,rfl,_,ha,ra⟩:=K2 R rp e1
      obtain ⟨_,b,vb,rfl,rfl,_,hb,rb⟩:=K2 R rq e2
      intro pins s σ v u I rv ru
      cases rv
      cases ru
      obtain ⟨_,sa,wa,ka,da⟩:=Q1g I.hok ha
      obtain ⟨_,sb,wb,kb,db⟩:=Q1g I.hok hb
      have nda:(wa.map Prod.fst).Nodup:=by obtain ⟨_,_,_,_,_,_,_,_,n⟩:=da; exact n
      have eka:wa.map Prod.fst=ks.map Prod.fst:=(kv_keys ka).trans ra.1
      have ndk:(ks.map Prod.fst).Nodup:=by rw [<- eka]; exact nda
      have lens:decide (wa.length=wb.length)=decide (ks.length=ls.length):=by rw [<- ka.length,<- kb.length,ra.length,rb.length]
      refine dict_rc op (e:=fun k=>match J9 ks k,J9 ls k with | some p,some q=>peq p q | _,_=>false) sa sb da db (by omega) (fun k v u hm hv=>?_) ⟨.bl _,H,I,rfl,?_⟩
      · have h1:valueAt wa k=some v:=find_nd nda hm
        rcases jy ra ka hp.1 k with ⟨_,z⟩ | ⟨p,x,v',z1,z2,z3,z4,z5⟩
        · rw [z] at h1; cases h1
        · rw [h1] at z2
          cases z2
          rcases jy rb kb hp.2 k with ⟨_,z⟩ | ⟨q,y,u',y1,y2,y3,y4,y5⟩
          · rw [z] at hv; cases hv
          · rw [hv] at y2
            cases y2
            rw [z1,y1]
            exact (eqAts 0 I z5 y5 (by rw [Around.in1_units]; omega) z3 z4 y3 y4).1
      · have hall:wa.all (Q22 wb fun k=>match J9 ks k,J9 ls k with | some p,some q=>peq p q | _,_=>false)=ks.all fun kv=>match J9 ls kv.1 with | none=>false | some v=>peq kv.2 v:=by
          have e3:∀ (g:Key->Bool) (l:List (Key × Value)),(l.all fun kv=>g kv.1)=(l.map Prod.fst).all g:=fun g l=>by rw [List.all_map]; rfl
          have e4:∀ (g:Key->Bool) (l:List (Key × PV)),(l.all fun kv=>g kv.1)=(l.map Prod.fst).all g:=fun g l=>by rw [List.all_map]; rfl
          have e5:=e3 (fun k=>match valueAt wb k with | none=>false | some _=>match J9 ks k,J9 ls k with | some p,some q=>peq p q | _,_=>false) wa
          rw [eka,<- e4] at e5
          refine Eq.trans e5 ?_
          rw [Bool.eq_iff_iff,F9,F9]
          have pt:∀ kv∈ks,(match valueAt wb kv.1 with | none=>false | some _=>match J9 ks kv.1,J9 ls kv.1 with | some p,some q=>peq p q | _,_=>false)=(match J9 ls kv.1 with | none=>false | some v=>peq kv.2 v):=fun kv hkv=>by
            have h0:J9 ks kv.1=some kv.2:=find_nd ndk hkv
            rcases jy rb kb hp.2 kv.1 with ⟨y1,y2⟩ | ⟨q,y,u',y1,y2,_⟩
            · rw [y1,y2]
            · rw [y1,y2,h0]
          constructor
          · intro hh kv hkv; rw [<- pt kv hkv]; exact hh kv hkv
          · intro hh kv hkv; rw [pt kv hkv]; exact hh kv hkv
        rw [hall,lens]
        exact now R h rfl
    · exact h.elim
  · exact h.elim⟩
variable {o:Expr} {mo:ME} {apos cpos:Pos}
end
end Sm
namespace Sm
open PySem PySem.Spec L2 SeqAt
section
variable {X:Cx} {E:XK}
def intD (ks:List (Key × PV)):Bool:=ks.all fun kv=>match kv.1 with
  | .inl _=>true
  | .inr _=>false
variable {e o i:Expr} {m mo mi:ME} {pos tpos:Pos}
end
end Sm
namespace Sm
open PySem PySem.Spec L2
structure DefX (P:Program) (w:World) (K:PySem.W.Frag) (mg:Str->Option Value) (base:Heap) (k:Nat) (x:Str) (ps:List Str) (sp:Sp):Prop where
  ex:∃ (f:Addr) (fd:FuncData),FnOk P w K mg base (CXD P w) k f fd ps sp/\mg x=some (.ref f)/\PySem.W.keepIn K (.ref f)=true/\Binds K fd ps []
theorem Ja {H0 H:Hp} (h:Same H0 H) {p:Addr} {o:HO} (hp:H p=none):Same H0 (upd H p o):=fun b u e=>by
  have:=h b u e
  rw [Q7 fun z=>by rw [z,hp] at this; cases this]; exact this
structure Nms (mg:Str->Option Value) (c:Nat->Addr):Prop where
  m0:mg "WharfError" = some (.ref (c 0))
  m1:mg "NoTable" = some (.ref (c 1))
  m2:mg "NoHouse" = some (.ref (c 2))
  m3:mg "NoDeed" = some (.ref (c 3))
  m4:mg "NoLetter" = some (.ref (c 4))
  m5:mg "NoStand" = some (.ref (c 5))
  m6:mg "NoRoad" = some (.ref (c 6))
  m7:mg "NoPlan" = some (.ref (c 7))
  m8:mg "NoBook" = some (.ref (c 8))
  m9:mg "NoManner" = some (.ref (c 9))
  m10:mg "TooMany" = some (.ref (c 10))
  m11:mg "NoText" = some (.ref (c 11))
  m12:mg "NoRow" = some (.ref (c 12))
  m13:mg "NoName" = some (.ref (c 13))
  m14:mg "Short" = some (.ref (c 14))
  ve:mg "ValueError" = none
  isi:mg "isinstance" = none
structure TgtS (K:PySem.W.Frag) (c:Nat->Addr) (t:Nat):Prop where
  xc:XCls K (c t)
  ve:PySem.W.kitOne K (.ref (c t)) (.type "ValueError")=some true
  ex:PySem.W.exmOne K (.ref (c t)) (.ref (c 0))=some true
  k:∀ i,1<=i->i<=14->PySem.W.kitOne K (.ref (c t)) (.ref (c i))=some (decide (i=t))
theorem yt:bootBuiltins "ValueError" = some (.type "ValueError"):=by decide +kernel
theorem Qq {H:Hp} {e p:Addr} {v o:HO} (h:H e=some v) (hp:H p=none):upd H p o e=some v:=by
  rw [Q7 fun z=>by rw [z,hp] at h; cases h]; exact h
theorem noB (bs:List Bool) (j:Nat) (h:(bs.take j).all (fun b=>!b)=true) (hl:j<=bs.length):∀ m,m < j->bs[m]?=some false:=fun m hm=>by
  have hb:m < bs.length:=by omega
  have:=F9.mp h (bs[m]) (List.mem_take_iff_getElem.mpr ⟨m,by omega,rfl⟩)
  rw [O2 hb]
  cases q:bs[m] with
  | false=>rfl
  | true=>rw [q] at this; cases this
section
variable {X:Cx}
def tStrs (ss:List Str):TA:=fun σ H Q=>Q (ss.map V.str) H
theorem pa_strs:∀ (l:List (Str × Nat × Pos)),PA X (l.map fun p=>Expr.Constant (.str p.1) p.2.1 p.2.2) (tStrs (l.map (·.1)))
  | []=>fun pos pins s σ H Q I h=>Ju pos pins s σ H Q I h
  | (x,j,p) :: l=>fun pos pins s σ H Q I h=>Qm (e:=.Constant (.str x) j p) pe_str (pa_strs l) rfl pos pins s σ H Q I h
theorem pa_strsE (ss:List Str) (l:List (Nat × Pos)) {es:List Expr} (h:es=(ss.zip l).map (fun p=>Expr.Constant (.str p.1) p.2.1 p.2.2)) (hl:ss.length=l.length:=by rfl):PA X es (tStrs ss):=by
  have e:((ss.zip l).map fun p=>((p.1,p.2.1,p.2.2):Str × Nat × Pos)).map (fun p=>Expr.Constant (.str p.1) p.2.1 p.2.2)=es:=by rw [h,F5]; rfl
  have e2:((ss.zip l).map fun p=>((p.1,p.2.1,p.2.2):Str × Nat × Pos)).map (·.1)=ss:=by
    rw [F5]
    show (ss.zip l).map Prod.fst=ss
    exact List.map_fst_zip (by omega)
  have:=pa_strs (X:=X) ((ss.zip l).map fun p=>(p.1,p.2.1,p.2.2))
  rw [e,e2] at this
  exact this
end
end Sm
namespace Sm
open PySem PySem.Spec L2
structure AtS (K:PySem.W.Frag) (mg:Str->Option Value) (name:Str) (st:Stmt) (ps:List Str) (f:Addr) (fd:FuncData):Prop where
  F:Fun K name name st f fd
  m:mg name=some (.ref f)
  b:Binds K fd ps []
theorem Jg {K:PySem.W.Frag} {mg:Str->Option Value} {h:Heap} {name:Str} {st:Stmt} {ps:List Str} {f:Addr} {oc:Value} {od an:Option Addr} {osl:Array (Option Value)} {kV doc pm cdv ct:Value} (X:K.In h) (G:h.Ns mainGlobals mg)
    (a:PySem.W.nsIn K mainGlobals name=some (some (.ref f))) (l:K.lookup f=some ⟨oc,od,.func (PySem.W.fnOf name name (Qt st) (Qp st) (Q6 st) .none kV doc pm an cdv ct),osl⟩) (c:PySem.W.codeIn K cdv name=true) (k:PySem.W.keepIn K (.ref f)=true)
    (b:∀ (kV doc pm:Value) (an:Option Addr) (cdv ct:Value) (us:List Value),us.length=ps.length->bindArgs (PySem.W.fnOf name name (Qt st) (Qp st) (Q6 st) .none kV doc pm an cdv ct) ⟨us,[]⟩=pure (ps.zip us)) :
    AtS K mg name st ps f (PySem.W.fnOf name name (Qt st) (Qp st) (Q6 st) .none kV doc pm an cdv ct):=
  have F:=fun_mk (st:=st) l c k
  ⟨F,PySem.W.mg_of X G a,F.binds b⟩
theorem AtS.def {P:Program} {w:World} {K:PySem.W.Frag} {mg:Str->Option Value} {base:Heap} {name:Str} {st:Stmt} {ps:List Str} {f:Addr} {fd:FuncData} {k n:Nat} {F:FN} (a:AtS K mg name st ps f fd) (hn:ps.length=n) (G:FnOk P w K mg base (CXD P w) k f fd ps (spF mg n F)):DefS P w K mg base k name n F:=
  ⟨f,fd,ps,G,a.m,a.F.kp,a.b,hn⟩
theorem AtS.defX {P:Program} {w:World} {K:PySem.W.Frag} {mg:Str->Option Value} {base:Heap} {name:Str} {st:Stmt} {ps:List Str} {f:Addr} {fd:FuncData} {k:Nat} {sp:Sp} (a:AtS K mg name st ps f fd) (G:FnOk P w K mg base (CXD P w) k f fd ps sp):DefX P w K mg base k name ps sp:=⟨f,fd,G,a.m,a.F.kp,a.b⟩
def noL (K:PySem.W.Frag):Bool:=K.all fun p=>match p.2.data with
  | .seq _ _=>(match p.2.cls with
    | .type n=>!(n == ("list" : Str))
    | _=>true)
  | _=>true
theorem lookup_mem {K:PySem.W.Frag} {a:Addr} {o:Obj} (h:K.lookup a=some o):(a,o)∈K:=by
  induction K with
  | nil=>cases h
  | cons p K ih=>
    obtain ⟨b,u⟩:=p
    rw [List.lookup_cons] at h
    cases e:a == b with
    | true=>
      rw [e] at h
      have:a=b:=by simpa using e
      subst this
      cases h
      exact E4
    | false=>
      rw [e] at h
      exact D4 _ (ih h)
theorem noL_no {K:PySem.W.Frag} {a:Addr} {o:Obj} {its:Array Value} {n:Nat} (hL:noL K=true) (h:K.lookup a=some o) (hc:o.cls=.type "list") (hd:o.data=.seq its n):False:=by
  have:=F9.mp hL _ (lookup_mem h)
  simp [hc,hd] at this
theorem Q2h {H:Hp} {ρ:Tk}:∀ ns:List Int,RepL H ρ (ns.map .int) (ns.map V.int)
  | []=>rfl
  | n :: ns=>⟨_,_,rfl,rfl,Q2h ns⟩
theorem rel_nil (H:Hp):Rel H Tk.nil []:=⟨rfl,List.nodup_nil,fun a h=>(by cases h),fun a h=>(by cases h),fun i a c h=>(by simp [Tk.nil] at h)⟩
def spLawS (K:PySem.W.Frag):Sp:=fun vs H Q _=>∃ (a:Addr) (ns:List Int),vs=[.ref a]/\SqL K H a (ns.map V.int)/\ns.length<=63/\∀ H',Q (.bl true) H'
theorem law_imp {P:Program} {w:World} {K:PySem.W.Frag} {mg:Str->Option Value} {base:Heap} {CX:CXT} {k:Nat} {f:Addr} {fd:FuncData} {ps:List Str} {FL:FN} (hL:noL K=true) (F:FnOk P w K mg base CX k f fd ps (spF mg 1 FL)) (hlaw:∀ ns:List Int,ns.length<=63->∃ st',FL [.fro (ns.map .int)] []=.ok (.bl true) st'):FnOk P w K mg base CX k f fd ps (spLawS K):=F.imp fun vs H Q E ⟨a,ns,e,hS,hl,hQ⟩=>by
  subst e
  obtain ⟨st',hF⟩:=hlaw ns hl
  have hR:Rd H a (.lst (ns.map V.int)):=by
    rcases hS with h | ⟨o,its,n,h1,h2,h3,h4,_⟩
    · exact h
    · exact (noL_no hL h1 h2 h4).elim
  refine ⟨rfl,Tk.nil,[],[.fro (ns.map .int)],rel_nil H,⟨_,_,rfl,⟨a,_,rfl,hR,Tk.not_nil a,Q2h ns⟩,rfl⟩,?_⟩
  rw [hF]
  intro H' ρ' x R v r
  have e:v=.bl true:=r
  subst e
  exact hQ H'
theorem cxd_none {P:Program} {w:World} {H:Hp} {s:Shared} {e:Value} {s':Shared} (h:CXD P w [] H s (fun _ _ _=>False) e s'):False:=by
  obtain ⟨_,_,_,_,_,_,_,_,_,z⟩:=h
  exact z
theorem walkS {l:PySem.W.OpenLaw} {k:Nat} {q:Program} {loose:List Str} {XP:(Str->Option Value)->Heap->Prop} {YP:World->Heap->Prop} {d:DefRec} {K:Params->PySem.W.Frag} (hn:l.most=some 63) (hr:Room k callerA) (hdf:d.params.defaults=[])
    (hY:∀ (w:World) (h:Heap),YP w h->(K w.params).In h)
    (F:∀ (w:World) (mg:Str->Option Value) (fa:Addr) (h:Heap),(K w.params).In h->h.Ns mainGlobals mg->mg d.name=some (.ref fa) ->
      ∃ fd:FuncData,(∀ (s:Shared) (u:Value),BindsTo s fd ⟨[u],[]⟩ [("script",u)])/\∀ base:Heap,(K w.params).In base->base.Ns mainGlobals mg->FnOk l.prog w (K w.params) mg base (CXD l.prog w) k fa fd ["script"] (spLawS (K w.params))) :
    PySem.W.WalkO q loose XP YP l.row.toRowW d [] (fun f vs=>PySem.call f vs):=
  L2.walk_of (n:=63) (k:=k) (x := "script") (CX:=fun w=>CXD l.prog w) (sp:=fun w=>spLawS (K w.params)) hn (by decide) hdf hr hY F (fun _ _ a ns hl _ hS=>⟨a,ns,rfl,hS,hl,fun _=>rfl⟩) fun _ _ _ _ _ z=>cxd_none z
end Sm
namespace Lw
open PySem PySem.Spec L2 Sm
def top (i:Nat):Stmt:=PySem.Challenge.pw_lendwharf_k40_no_roads_and_no_houses.main.body.getD i (.Pass ⟨0,0,0,0⟩)
abbrev Wu:Stmt:=top 17
abbrev Yq:Stmt:=top 18
abbrev W7:Stmt:=top 19
abbrev Vj:Stmt:=top 23
abbrev Je:Stmt:=top 24
abbrev W8:Stmt:=top 25
abbrev Yn:Stmt:=top 26
abbrev Ww:Stmt:=top 27
abbrev W6:Stmt:=top 28
abbrev Zk:Stmt:=top 29
abbrev Zt:Stmt:=top 30
abbrev K9:Stmt:=top 31
abbrev za:Stmt:=top 32
abbrev Zu:Stmt:=top 33
abbrev K8:Stmt:=top 35
abbrev Zb:Stmt:=top 36
abbrev Q2f:Stmt:=top 37
abbrev Yp:Stmt:=top 38
abbrev Wv:Stmt:=top 39
abbrev Zs:Stmt:=top 40
abbrev Uj:Stmt:=top 41
abbrev Vk:Stmt:=top 42
abbrev Y4:Stmt:=top 43
abbrev Zc:Stmt:=top 45
abbrev Zv:Stmt:=top 46
abbrev Jf:Stmt:=top 47
abbrev Y7:Stmt:=top 48
abbrev Y6:Stmt:=top 49
abbrev Y5:Stmt:=top 50
abbrev j6:Stmt:=top 51
structure Txt (mg:Str->Option Value):Prop where
  b_all:mg "all" = none
  b_any:mg "any" = none
  b_bool:mg "bool" = none
  b_dict:mg "dict" = none
  b_int:mg "int" = none
  b_isinstance:mg "isinstance" = none
  b_len:mg "len" = none
  b_list:mg "list" = none
  b_min:mg "min" = none
  b_range:mg "range" = none
  b_sorted:mg "sorted" = none
  b_sum:mg "sum" = none
  b_tuple:mg "tuple" = none
  b_zip:mg "zip" = none
  c_MOST_HOUSES:∃ t,mg "MOST_HOUSES" = some (.int 8 t)
  c_MOST_ROUNDS:∃ t,mg "MOST_ROUNDS" = some (.int 40 t)
section
variable {P:Program} {w:World} {K:PySem.W.Frag} {mg:Str->Option Value} {base:Heap}
end
section
variable {P:Program} {w:World} {K:PySem.W.Frag} {mg:Str->Option Value} {base:Heap}
def qg:MS:=(Z4 (Q13 (mIsI "int" (Q4 0)) (mNot (mIsI "bool" (Q4 0)))))
def U2:FN:=Qs qg 1
theorem sc_is_whole:FnScope ["thing"] ["thing"] (Q6 Wu):=⟨rfl,rfl,rfl,by decide +kernel,rfl,by decide +kernel,by decide +kernel⟩
theorem ok_is_whole {f:Addr} {fd:FuncData} (F:Fun K "is_whole" "is_whole" Wu f fd) (T:Txt mg)   : FnOk P w K mg base (CXD P w) 1 f fd ["thing"] (spF mg 1 U2):=by
  refine Z1 (k:=0) (m:=qg) F sc_is_whole rfl rfl rfl fun cdv A outer s H E hr=>?_
  exact (Qe (Qu (Xh (Q09 (T := "int") (by decide) (Q0 0) rfl T.b_isinstance rfl T.b_int boot_int) (Xg (se_not (Q09 (T := "bool") (by decide) (Q0 0) rfl T.b_isinstance rfl T.b_bool boot_bool))))))
def X1:MS:=(Z4 (Q13 (Qj 1 U2 (Q3 (Q4 0) Qc)) (Xx (oI fun a b=>.bl (decide (a<=b))) (oI fun a b=>.bl (decide (a<=b))) (Q4 1) (Q4 0) (Q4 2))))
def J5:FN:=Qs X1 3
theorem Q1v:FnScope ["thing", "least", "most"] ["thing", "least", "most"] (Q6 Yq):=⟨rfl,rfl,rfl,by decide +kernel,rfl,by decide +kernel,by decide +kernel⟩
theorem Q1z {f:Addr} {fd:FuncData} (F:Fun K "is_between" "is_between" Yq f fd) (T:Txt mg)  (D_is_whole:DefS P w K mg base 1 "is_whole" 1 U2):FnOk P w K mg base (CXD P w) 2 f fd ["thing", "least", "most"] (spF mg 3 J5):=by
  refine Z1 (k:=1) (m:=X1) F Q1v rfl rfl rfl fun cdv A outer s H E hr=>?_
  exact (Qe (Qu (Xh (Qf D_is_whole (hr.mono (by decide)) Qd rfl (Q2 (Q0 0) Q5)) (Xg (se_chain Q0s Q0s (Q0 1) (Q0 0) (Q0 2))))))
def Uc:ME:=(mOp oLt (Q4 0) (Q4 1))
def Xr:MS:=(Z4 (Jh (Kr fun ns=>.bl (ns.all id)) (Q3 (qh (Yj [none,none] (Up (Jq (Qg 0) (Jq (Qg 1) Uq))) (mZip (Q3 (Q4 0) (Q3 (mSl (Q4 0) (mPart (mC (.int 1))) xf) Qc))) Wg Uc)) Qc)))
def Wa:FN:=Qs Xr 1
theorem sc_is_rising:FnScope ["things"] ["things"] (Q6 W7):=⟨rfl,rfl,rfl,by decide +kernel,rfl,by decide +kernel,by decide +kernel⟩
theorem ok_is_rising {f:Addr} {fd:FuncData} (F:Fun K "is_rising" "is_rising" W7 f fd) (T:Txt mg)   : FnOk P w K mg base (CXD P w) 1 f fd ["things"] (spF mg 1 Wa):=by
  refine Z1 (k:=0) (m:=Xr) F sc_is_rising rfl rfl rfl fun cdv A outer s H E hr=>?_
  exact (Qe (Qu (J7 (Q1i rfl) rfl T.b_all K3 (Q2 (V9 (Yx [none,none] ["one", "other"] rfl (si_zip rfl T.b_zip (Q2 (Q0 0) (Q2 (Q08 (Q0 0) (yw Q8) so_none) Q5))) (fun _ _ _ _ _=>(z8 rfl (Z3 (Qz (i:=0) (show (["one", "other"]:List Str).Nodup by decide +kernel)) (Z3 (Qz (i:=1) (show (["one", "other"]:List Str).Nodup by decide +kernel)) K7)))) (fun _ _ _ _ _=>(U8 (Q0r hr.units) (Q0 0) (Q0 1))) (fun _ _ _ _ _=>Vc) (free_tup (Kj (Kj free_nil))))) Q5))))
def V7:ME:=(Qj 3 J5 (Q3 (Q4 0) (Q3 (mC (.int 0)) (Q3 (mOp (oI fun a b=>.int (a - b)) (Q4 1) (mC (.int 1))) Qc))))
def Ke : MS := (Qh (Yc (tOrM (Xe (toB (mIsI "tuple" (Q4 1)))) (toB (mOp oNe (Jh Yk (Q3 (Q4 1) Qc)) (mC (.int 2))))) (Z4 (mC (.bl false))) Z5)
    (Z4 (Q13 (Jh (Kr fun ns=>.bl (ns.all id)) (Q3 (qh (Yj [none,some 0] (Qg 0) (Xu (Q4 1)) Wg V7)) Qc)) (mOp oNe (mOp oIx (Q4 1) (mC (.int 0))) (mOp oIx (Q4 1) (mC (.int 1)))))))
def Y9:FN:=Qs Ke 2
theorem sc_is_road:FnScope ["n", "thing"] ["n", "thing"] (Q6 Vj):=⟨rfl,rfl,rfl,by decide +kernel,rfl,by decide +kernel,by decide +kernel⟩
theorem ok_is_road {f:Addr} {fd:FuncData} (F:Fun K "is_road" "is_road" Vj f fd) (T:Txt mg)  (D_is_between:DefS P w K mg base 2 "is_between" 3 J5):FnOk P w K mg base (CXD P w) 3 f fd ["n", "thing"] (spF mg 2 Y9):=by
  refine Z1 (k:=2) (m:=Ke) F sc_is_road rfl rfl rfl fun cdv A outer s H E hr=>?_
  exact (Qa (Zq (SimW.t (sw_or (Ux (Uw (Q09 (T := "tuple") (by decide) (Q0 1) rfl T.b_isinstance rfl T.b_tuple boot_tuple))) (sw_or1 (Jd (y8 hr.units) (J7 Yu rfl T.b_len PySem.boot_len (Q2 (Q0 1) Q5)) Q8)))) (Qe (Qu Ui)) Jn)
    (Qe (Qu (Xh (J7 (Q1i rfl) rfl T.b_all K3 (Q2 (V9 (Yx [none,some 0] ["house", "n"] rfl (Wr (Q0 1)) (fun _ _ _ _ _=>(Qz (i:=0) (show (["house", "n"]:List Str).Nodup by decide +kernel))) (fun _ _ _ _ _=>(Qf D_is_between (hr.mono (by decide)) X0 rfl (Q2 (Q0 0) (Q2 Q8 (Q2 (J6 os_sub (Q0 1) Q8) Q5))))) (fun _ _ _ _ _=>Vc) Y8)) Q5)) (Xg (U8 (y8 hr.units) (Z9 (Q0 1) Q8) (Z9 (Q0 1) Q8)))))))
def Y1:ME:=(Qj 2 Y9 (Q3 (Q4 1) (Q3 (Q4 0) Qc)))
def Jw : MS := (Qh (Yc (Xe (toB (mIsI "tuple" (Q4 1)))) (Z4 (mC (.bl false))) Z5)
    (Z4 (Q13 (Jh (Kr fun ns=>.bl (ns.all id)) (Q3 (qh (Yj [none,some 0] (Qg 0) (Xu (Q4 1)) Wg Y1)) Qc)) (Qj 1 Wa (Q3 (Q4 1) Qc)))))
def Qi:FN:=Qs Jw 2
theorem Xa:FnScope ["n", "thing"] ["n", "thing"] (Q6 Je):=⟨rfl,rfl,rfl,by decide +kernel,rfl,by decide +kernel,by decide +kernel⟩
theorem Xb {f:Addr} {fd:FuncData} (F:Fun K "are_roads_of_round" "are_roads_of_round" Je f fd) (T:Txt mg)  (D_is_road:DefS P w K mg base 3 "is_road" 2 Y9) (D_is_rising:DefS P w K mg base 1 "is_rising" 1 Wa):FnOk P w K mg base (CXD P w) 4 f fd ["n", "thing"] (spF mg 2 Qi):=by
  refine Z1 (k:=3) (m:=Jw) F Xa rfl rfl rfl fun cdv A outer s H E hr=>?_
  exact (Qa (Zq (Ux (Uw (Q09 (T := "tuple") (by decide) (Q0 1) rfl T.b_isinstance rfl T.b_tuple boot_tuple))) (Qe (Qu Ui)) Jn)
    (Qe (Qu (Xh (J7 (Q1i rfl) rfl T.b_all K3 (Q2 (V9 (Yx [none,some 0] ["road", "n"] rfl (Wr (Q0 1)) (fun _ _ _ _ _=>(Qz (i:=0) (show (["road", "n"]:List Str).Nodup by decide +kernel))) (fun _ _ _ _ _=>(Qf D_is_road (hr.mono (by decide)) X0 rfl (Q2 (Q0 1) (Q2 (Q0 0) Q5)))) (fun _ _ _ _ _=>Vc) Y8)) Q5)) (Xg (Qf D_is_rising (hr.mono (by decide)) Qd rfl (Q2 (Q0 1) Q5)))))))
def Ud:ME:=(Qj 2 Qi (Q3 (Q4 1) (Q3 (Q4 0) Qc)))
def V2 : MS := (Qh (Yc (Xe (toB (Qj 3 J5 (Q3 (Q4 0) (Q3 (mC (.int 1)) (Q3 (mC (.int 8)) Qc)))))) (Z4 (mC (.bl false))) Z5)
    (Qh (Yc (tOrM (Xe (toB (mIsI "list" (Q4 1)))) (toB (mOp (oI fun a b=>.bl (decide (b < a))) (Jh Yk (Q3 (Q4 1) Qc)) (mC (.int 40))))) (Z4 (mC (.bl false))) Z5)
    (Z4 (Jh (Kr fun ns=>.bl (ns.all id)) (Q3 (qh (Yj [none,some 0] (Qg 0) (Xu (Q4 1)) Wg Ud)) Qc)))))
def J1:FN:=Qs V2 2
theorem sc_are_roads:FnScope ["n", "thing"] ["n", "thing"] (Q6 W8):=⟨rfl,rfl,rfl,by decide +kernel,rfl,by decide +kernel,by decide +kernel⟩
theorem ok_are_roads {f:Addr} {fd:FuncData} (F:Fun K "are_roads" "are_roads" W8 f fd) (T:Txt mg)  (D_is_between:DefS P w K mg base 2 "is_between" 3 J5) (D_are_roads_of_round:DefS P w K mg base 4 "are_roads_of_round" 2 Qi):FnOk P w K mg base (CXD P w) 5 f fd ["n", "thing"] (spF mg 2 J1):=by
  refine Z1 (k:=4) (m:=V2) F sc_are_roads rfl rfl rfl fun cdv A outer s H E hr=>?_
  exact (Qa (Zq (Ux (Uw (Qf D_is_between (hr.mono (by decide)) Qd rfl (Q2 (Q0 0) (Q2 Q8 (Q2 (se_gint rfl T.c_MOST_HOUSES.choose_spec) Q5)))))) (Qe (Qu Ui)) Jn)
    (Qa (Zq (SimW.t (sw_or (Ux (Uw (Q09 (T := "list") (by decide) (Q0 1) rfl T.b_isinstance rfl T.b_list zx))) (sw_or1 (Jd os_gt (J7 Yu rfl T.b_len PySem.boot_len (Q2 (Q0 1) Q5)) (se_gint rfl T.c_MOST_ROUNDS.choose_spec))))) (Qe (Qu Ui)) Jn)
    (Qe (Qu (J7 (Q1i rfl) rfl T.b_all K3 (Q2 (V9 (Yx [none,some 0] ["part", "n"] rfl (Wr (Q0 1)) (fun _ _ _ _ _=>(Qz (i:=0) (show (["part", "n"]:List Str).Nodup by decide +kernel))) (fun _ _ _ _ _=>(Qf D_are_roads_of_round (hr.mono (by decide)) X0 rfl (Q2 (Q0 1) (Q2 (Q0 0) Q5)))) (fun _ _ _ _ _=>Vc) Y8)) Q5))))))
def Z6 : MS := (Qh (Yc (Xe (toB (Qj 2 J1 (Q3 (Q4 0) (Q3 (Q4 1) Qc))))) (mRaise "NoRoad" (mC (.str "these are no roads"))) Z5)
    (Yc (Xe (toB (Qj 3 J5 (Q3 (Q4 2) (Q3 (mC (.int 0)) (Q3 (mOp (oI fun a b=>.int (a - b)) (Q4 0) (mC (.int 1))) Qc)))))) (mRaise "NoHouse" (mC (.str "no house of these roads"))) Z5))
def J2:FN:=Qs Z6 3
theorem Q1u:FnScope ["n", "roads", "house"] ["n", "roads", "house"] (Q6 Yn):=⟨rfl,rfl,rfl,by decide +kernel,rfl,by decide +kernel,by decide +kernel⟩
theorem Q1x {f:Addr} {fd:FuncData} (F:Fun K "need_roads" "need_roads" Yn f fd) (T:Txt mg) (C_NoHouse:∃ C,mg "NoHouse" = some (.ref C)/\PySem.W.excIn K C bmVE "ValueError.__new__" = true) (C_NoRoad:∃ C,mg "NoRoad" = some (.ref C)/\PySem.W.excIn K C bmVE "ValueError.__new__" = true) (D_are_roads:DefS P w K mg base 5 "are_roads" 2 J1) (D_is_between:DefS P w K mg base 2 "is_between" 3 J5):FnOk P w K mg base (CXD P w) 6 f fd ["n", "roads", "house"] (spF mg 3 J2):=by
  refine Z1 (k:=5) (m:=Z6) F Q1u rfl rfl rfl fun cdv A outer s H E hr=>?_
  exact (Qa (Zq (Ux (Uw (Qf D_are_roads (hr.mono (by decide)) Qd rfl (Q2 (Q0 0) (Q2 (Q0 1) Q5))))) (Qe (ss_raise rfl raiseDok rfl C_NoRoad.choose_spec.1 C_NoRoad.choose_spec.2 Uy)) Jn)
    (Qe (Zq (Ux (Uw (Qf D_is_between (hr.mono (by decide)) Qd rfl (Q2 (Q0 2) (Q2 Q8 (Q2 (J6 os_sub (Q0 0) Q8) Q5)))))) (Qe (ss_raise rfl raiseDok rfl C_NoHouse.choose_spec.1 C_NoHouse.choose_spec.2 Uy)) Jn)))
def Zm:MS:=(Yc (Q02 (toB (mOp (oInD true) (Q4 6) (Q4 3))) (Q02 (toB (mOp (oInD false) (Q4 5) (Q4 3))) (toB (mOp (oI fun a b=>.bl (decide (a<=b))) (mOp oIx (Vw (Q4 3) (Q4 5)) (mC (.int 0))) (Q4 4))))) (mDPutI (Q4 3) (Q4 6) (Wp (Q3 (mOp Zg (Q4 4) (mC (.int 1))) (Q3 (Q4 5) Qc)))) Z5)
def Vh:MS:=(Xv (Up (Jq (Qg 5) (Jq (Qg 6) Uq))) (Xu (mOp oIx (Q4 0) (Q4 4))) Zm)
def Vv : MS := (Qh (Jp 3 (zh (Q4 1) (Wp (Q3 (Q4 2) (Q3 (mC .non) Qc)))))
    (Qh (Xv (Qg 4) (xb (Q3 (Q4 2) (Q3 (Jh Yk (Q3 (Q4 0) Qc)) Qc))) Vh)
    (Z4 (Q4 3))))
def Y2:FN:=Zh Vv 7
theorem sc_arrivals:FnScope ["roads", "house", "moment", "found", "number", "i", "j"] ["roads", "house", "moment"] (Q6 Ww):=⟨rfl,rfl,rfl,by decide +kernel,rfl,by decide +kernel,by decide +kernel⟩
theorem ok_arrivals {f:Addr} {fd:FuncData} (F:Fun K "arrivals" "arrivals" Ww f fd) (T:Txt mg)   : FnOk P w K mg base (CXD P w) 1 f fd ["roads", "house", "moment"] (spF mg 3 Y2):=by
  refine V4 (k:=0) (m:=Vv) F sc_arrivals rfl rfl rfl fun cdv A outer s H E hr=>?_
  exact (Qa (Jb 3 sc_arrivals.nd (Q0a (Q0 1) (Yg (Q2 (Q0 2) (Q2 Ws Q5)))))
    (Qa (Wb PassesOwn.leaving rfl (si_range2 rfl T.b_range (Q2 (Q0 2) (Q2 (J7 Yu rfl T.b_len PySem.boot_len (Q2 (Q0 0) Q5)) Q5))) (Qz (i:=4) sc_arrivals.nd) (Qe (Wb PassesOwn.leaving rfl (Wr (Z9 (Q0 0) (Q0 4))) (z8 rfl (Z3 (Qz (i:=5) sc_arrivals.nd) (Z3 (Qz (i:=6) sc_arrivals.nd) K7))) (Qe (Zq (SimW.t (sw_and (Jd (os_notinD (Ya hr)) (Q0 6) (Q0 3)) (sw_and (Jd (os_inD (Ya hr)) (Q0 5) (Q0 3)) (sw_and1 (Jd Q0s (Z9 (Wd (Ya hr) (Q0 3) (Q0 5) (fun _ _=>rfl)) Q8) (Q0 4)))))) (Qe (ss_dput (Ya hr) (Yg (Q2 (J6 Jv (Q0 4) Q8) (Q2 (Q0 5) Q5))) (Q0 3) (Q0 6))) Jn)))))
    (Qe (Qu (Q0 3)))))
def U6:MS:=(Z4 (mIf (toB (mOp (oInD false) (Q4 1) (Q4 0))) (mOp oIx (Vw (Q4 0) (Q4 1)) (mC (.int 0))) (mC .non)))
def Zn:FN:=Qs U6 2
theorem sc_moment_of:FnScope ["found", "house"] ["found", "house"] (Q6 W6):=⟨rfl,rfl,rfl,by decide +kernel,rfl,by decide +kernel,by decide +kernel⟩
theorem ok_moment_of {f:Addr} {fd:FuncData} (F:Fun K "moment_of" "moment_of" W6 f fd) (T:Txt mg)   : FnOk P w K mg base (CXD P w) 1 f fd ["found", "house"] (spF mg 2 Zn):=by
  refine Z1 (k:=0) (m:=U6) F sc_moment_of rfl rfl rfl fun cdv A outer s H E hr=>?_
  exact (Qe (Qu (se_if (Jd (os_inD (Ya hr)) (Q0 1) (Q0 0)) (Z9 (Wd (Ya hr) (Q0 0) (Q0 1) (fun _ _=>rfl)) Q8) Ws)))
def Wk:ME:=(Wp (Q3 (Q4 0) (Q3 (Qj 2 Zn (Q3 (Q4 1) (Q3 (Q4 0) Qc))) Qc)))
def Y3 : MS := (Qh (Jp 3 (Qj 3 Y2 (Q3 (Q4 1) (Q3 (Q4 2) (Q3 (mC (.int 0)) Qc)))))
    (Z4 (Jh zw (Q3 (qh (Yj [none,some 3] (Qg 0) (Wh (Q3 (Q4 0) Qc)) Wg Wk)) Qc))))
def Qk:FN:=Zh Y3 4
theorem sc_asked_moments:FnScope ["n", "roads", "house", "found"] ["n", "roads", "house"] (Q6 Zk):=⟨rfl,rfl,rfl,by decide +kernel,rfl,by decide +kernel,by decide +kernel⟩
theorem zd {f:Addr} {fd:FuncData} (F:Fun K "asked_moments" "asked_moments" Zk f fd) (T:Txt mg)  (D_arrivals:DefS P w K mg base 1 "arrivals" 3 Y2) (D_moment_of:DefS P w K mg base 1 "moment_of" 2 Zn):FnOk P w K mg base (CXD P w) 2 f fd ["n", "roads", "house"] (spF mg 3 Qk):=by
  refine V4 (k:=1) (m:=Y3) F sc_asked_moments rfl rfl rfl fun cdv A outer s H E hr=>?_
  exact (Qa (Jb 3 sc_asked_moments.nd (Qf D_arrivals (hr.mono (by decide)) Qd rfl (Q2 (Q0 1) (Q2 (Q0 2) (Q2 Q8 Q5)))))
    (Qe (Qu (qz (cs_dictP rfl) rfl T.b_dict boot_dict (Q2 (V9 (Yx [none,some 3] ["one", "found"] rfl (W5 rfl T.b_range (Q2 (Q0 0) Q5)) (fun _ _ _ _ _=>(Qz (i:=0) (show (["one", "found"]:List Str).Nodup by decide +kernel))) (fun _ _ _ _ _=>(Yg (Q2 (Q0 0) (Q2 (Qf D_moment_of (hr.mono (by decide)) X0 rfl (Q2 (Q0 1) (Q2 (Q0 0) Q5))) Q5)))) (fun _ _ _ _ _=>Vc) Y8)) Q5)))))
def Zz:MS:=(mDPutI (Q4 3) (Q4 4) (mIf (toB (mOp oIs (Q4 5) (mC .non))) (mC .non) (Qj 2 Zn (Q3 (Qj 3 Y2 (Q3 (Q4 1) (Q3 (Q4 4) (Q3 (Q4 5) Qc)))) (Q3 (Q4 2) Qc)))))
def Yh : MS := (Qh (Jp 3 Q12)
    (Qh (Xv (Up (Jq (Qg 4) (Jq (Qg 5) Uq))) (qj (Qj 3 Qk (Q3 (Q4 0) (Q3 (Q4 1) (Q3 (Q4 2) Qc))))) Zz)
    (Z4 (Q4 3))))
def Jc:FN:=Zh Yh 6
theorem sc_home_moments:FnScope ["n", "roads", "house", "moments", "one", "moment"] ["n", "roads", "house"] (Q6 Zt):=⟨rfl,rfl,rfl,by decide +kernel,rfl,by decide +kernel,by decide +kernel⟩
theorem yj {f:Addr} {fd:FuncData} (F:Fun K "home_moments" "home_moments" Zt f fd) (T:Txt mg)  (D_asked_moments:DefS P w K mg base 2 "asked_moments" 3 Qk) (D_moment_of:DefS P w K mg base 1 "moment_of" 2 Zn) (D_arrivals:DefS P w K mg base 1 "arrivals" 3 Y2):FnOk P w K mg base (CXD P w) 3 f fd ["n", "roads", "house"] (spF mg 3 Jc):=by
  refine V4 (k:=2) (m:=Yh) F sc_home_moments rfl rfl rfl fun cdv A outer s H E hr=>?_
  exact (Qa (Jb 3 sc_home_moments.nd se_disp0)
    (Qa (Wb PassesOwn.leaving rfl (si_items (Qf D_asked_moments (hr.mono (by decide)) Qd rfl (Q2 (Q0 0) (Q2 (Q0 1) (Q2 (Q0 2) Q5))))) (z8 rfl (Z3 (Qz (i:=4) sc_home_moments.nd) (Z3 (Qz (i:=5) sc_home_moments.nd) K7))) (Qe (ss_dput (Ya hr) (se_if (Jd os_is (Q0 5) Ws) Ws (Qf D_moment_of (hr.mono (by decide)) Qd rfl (Q2 (Qf D_arrivals (hr.mono (by decide)) Qd rfl (Q2 (Q0 1) (Q2 (Q0 4) (Q2 (Q0 5) Q5)))) (Q2 (Q0 2) Q5)))) (Q0 3) (Q0 4))))
    (Qe (Qu (Q0 3)))))
def x9 : MS := (Qh (Xw (Qj 3 J2 (Q3 (Q4 0) (Q3 (Q4 1) (Q3 (Q4 2) Qc)))))
    (Z4 (Qj 3 Qk (Q3 (Q4 0) (Q3 (Q4 1) (Q3 (Q4 2) Qc))))))
def X7:FN:=Zh x9 3
theorem sc_asked:FnScope ["n", "roads", "house"] ["n", "roads", "house"] (Q6 K9):=⟨rfl,rfl,rfl,by decide +kernel,rfl,by decide +kernel,by decide +kernel⟩
theorem ok_asked {f:Addr} {fd:FuncData} (F:Fun K "asked" "asked" K9 f fd) (T:Txt mg)  (D_need_roads:DefS P w K mg base 6 "need_roads" 3 J2) (D_asked_moments:DefS P w K mg base 2 "asked_moments" 3 Qk):FnOk P w K mg base (CXD P w) 7 f fd ["n", "roads", "house"] (spF mg 3 X7):=by
  refine V4 (k:=6) (m:=x9) F sc_asked rfl rfl rfl fun cdv A outer s H E hr=>?_
  exact (Qa (Vd (Qf D_need_roads (hr.mono (by decide)) Qd rfl (Q2 (Q0 0) (Q2 (Q0 1) (Q2 (Q0 2) Q5)))))
    (Qe (Qu (Qf D_asked_moments (hr.mono (by decide)) Qd rfl (Q2 (Q0 0) (Q2 (Q0 1) (Q2 (Q0 2) Q5)))))))
def m_home : MS := (Qh (Xw (Qj 3 J2 (Q3 (Q4 0) (Q3 (Q4 1) (Q3 (Q4 2) Qc)))))
    (Z4 (Qj 3 Jc (Q3 (Q4 0) (Q3 (Q4 1) (Q3 (Q4 2) Qc))))))
def qt:FN:=Zh m_home 3
theorem sc_home:FnScope ["n", "roads", "house"] ["n", "roads", "house"] (Q6 za):=⟨rfl,rfl,rfl,by decide +kernel,rfl,by decide +kernel,by decide +kernel⟩
theorem ok_home {f:Addr} {fd:FuncData} (F:Fun K "home" "home" za f fd) (T:Txt mg)  (D_need_roads:DefS P w K mg base 6 "need_roads" 3 J2) (D_home_moments:DefS P w K mg base 3 "home_moments" 3 Jc):FnOk P w K mg base (CXD P w) 7 f fd ["n", "roads", "house"] (spF mg 3 qt):=by
  refine V4 (k:=6) (m:=m_home) F sc_home rfl rfl rfl fun cdv A outer s H E hr=>?_
  exact (Qa (Vd (Qf D_need_roads (hr.mono (by decide)) Qd rfl (Q2 (Q0 0) (Q2 (Q0 1) (Q2 (Q0 2) Q5)))))
    (Qe (Qu (Qf D_home_moments (hr.mono (by decide)) Qd rfl (Q2 (Q0 0) (Q2 (Q0 1) (Q2 (Q0 2) Q5)))))))
def zz:MS:=mStk
def zy:MS:=mStk
def Xt : MS := (Qh (Jp 2 (mTrk (mListN (Q4 0))))
    (Qh (Xv (Up (Jq (Qg 3) (Jq (Qg 4) (Jq (Qg 5) (Jq (Qg 6) Uq))))) (Xu (Q4 1)) zz)
    (Qh (Yc (toB (mOp oLt (Jh cMin (Q3 (Q4 2) Qc)) (mC (.int 0)))) (Z4 (mC .non)) Z5)
    (Qh (Xv (Up (Jq (Qg 3) (Jq (Qg 4) (Jq (Qg 5) (Jq (Qg 6) Uq))))) (Xu (Q4 1)) zy)
    (Z4 (Q4 2))))))
def U3:FN:=Qs Xt 7
theorem sc_behind_round:FnScope ["has", "moves", "left", "number", "i", "j", "k"] ["has", "moves"] (Q6 Zu):=⟨rfl,rfl,rfl,by decide +kernel,rfl,by decide +kernel,by decide +kernel⟩
theorem yk {f:Addr} {fd:FuncData} (F:Fun K "behind_round" "behind_round" Zu f fd) (T:Txt mg)   : FnOk P w K mg base (CXD P w) 1 f fd ["has", "moves"] (spF mg 2 U3):=by
  refine Z1 (k:=0) (m:=Xt) F sc_behind_round rfl rfl rfl fun cdv A outer s H E hr=>?_
  exact (Qa (Jb 2 sc_behind_round.nd (z9 (sn_list (Q0 0) rfl T.b_list)))
    (Qa (Wb PassesOwn.leaving rfl (Wr (Q0 1)) (z8 rfl (Z3 (Qz (i:=3) sc_behind_round.nd) (Z3 (Qz (i:=4) sc_behind_round.nd) (Z3 (Qz (i:=5) sc_behind_round.nd) (Z3 (Qz (i:=6) sc_behind_round.nd) K7))))) (Qe ss_stk))
    (Qa (Zq (Jd (Q0r hr.units) (J7 (cs_min rfl) rfl T.b_min boot_min (Q2 (Q0 2) Q5)) Q8) (Qe (Qu Ws)) Jn)
    (Qa (Wb PassesOwn.leaving rfl (Wr (Q0 1)) (z8 rfl (Z3 (Qz (i:=3) sc_behind_round.nd) (Z3 (Qz (i:=4) sc_behind_round.nd) (Z3 (Qz (i:=5) sc_behind_round.nd) (Z3 (Qz (i:=6) sc_behind_round.nd) K7))))) (Qe ss_stk))
    (Qe (Qu (Q0 2)))))))
def x8:MS:=(Z4 (Q13 (mOp qf (Q4 0) (mC .non)) (mOp (oI fun a b=>.bl (decide (a<=b))) (Q4 0) (Q4 1))))
def U7:FN:=Qs x8 2
theorem sc_is_by:FnScope ["moment", "last"] ["moment", "last"] (Q6 K8):=⟨rfl,rfl,rfl,by decide +kernel,rfl,by decide +kernel,by decide +kernel⟩
theorem ok_is_by {f:Addr} {fd:FuncData} (F:Fun K "is_by" "is_by" K8 f fd) (T:Txt mg)   : FnOk P w K mg base (CXD P w) 1 f fd ["moment", "last"] (spF mg 2 U7):=by
  refine Z1 (k:=0) (m:=x8) F sc_is_by rfl rfl rfl fun cdv A outer s H E hr=>?_
  exact (Qe (Qu (Xh (U8 Q0t (Q0 0) Ws) (Xg (U8 Q0s (Q0 0) (Q0 1))))))
def W3:ME:=(Q4 0)
def W0:MT:=(toB (Qj 2 U7 (Q3 (Vw (Q4 2) (Q4 0)) (Q3 (Q4 1) Qc))))
def Zx:MS:=(Z4 (qh (Yj [none,some 1,some 0] (Qg 0) (mKeys (Q4 0)) W0 W3)))
def Zd:FN:=Qs Zx 2
theorem j4:FnScope ["homes", "moment"] ["homes", "moment"] (Q6 Zb):=⟨rfl,rfl,rfl,by decide +kernel,rfl,by decide +kernel,by decide +kernel⟩
theorem jc {f:Addr} {fd:FuncData} (F:Fun K "houses_home_by" "houses_home_by" Zb f fd) (T:Txt mg)  (D_is_by:DefS P w K mg base 1 "is_by" 2 U7):FnOk P w K mg base (CXD P w) 2 f fd ["homes", "moment"] (spF mg 2 Zd):=by
  refine Z1 (k:=1) (m:=Zx) F j4 rfl rfl rfl fun cdv A outer s H E hr=>?_
  exact (Qe (Qu (V9 (Yx [none,some 1,some 0] ["house", "moment", "homes"] rfl (si_keys (Q0 0)) (fun _ _ _ _ _=>(Qz (i:=0) (show (["house", "moment", "homes"]:List Str).Nodup by decide +kernel))) (fun _ _ _ _ _=>(Q0 0)) (fun _ _ _ _ _=>(sts_one (Uw (Qf D_is_by (hr.mono (by decide)) X0 rfl (Q2 (Wd (Ya hr) (Q0 2) (Q0 0) (fun _ _=>rfl)) (Q2 (Q0 1) Q5)))))) Y8))))
def xm : MS := (Qh (Xw (mBM Vu (Q4 5) (Q3 (Wp (Q3 (mOp (oI fun a b => .int (a - b)) (mOp oIx (Vw (Q4 4) (Q4 6)) (mC (.int 0))) (mC (.int 1))) (Q3 (mOp oIx (Vw (Q4 4) (Q4 6)) (mC (.int 1))) (Q3 (Q4 6) Qc)))) Qc)))
    (Jp 6 (mOp oIx (Vw (Q4 4) (Q4 6)) (mC (.int 1)))))
def U5:MT:=(toB (mOp qf (mOp oIx (Vw (Q4 4) (Q4 6)) (mC (.int 1))) (mC .non)))
def m_way : MS := (Qh (Jp 4 (Qj 3 Y2 (Q3 (Q4 0) (Q3 (Q4 1) (Q3 (Q4 2) Qc)))))
    (Qh (Jp 5 (mTrk (y9 Qc)))
    (Qh (Jp 6 (Q4 3))
    (Qh (Vn U5 xm 100000)
    (Z4 (Q4 5))))))
def F_way:FN:=Qs m_way 7
theorem sc_way:FnScope ["roads", "house", "moment", "to", "found", "taken", "at"] ["roads", "house", "moment", "to"] (Q6 Q2f):=⟨rfl,rfl,rfl,by decide +kernel,rfl,by decide +kernel,by decide +kernel⟩
theorem ok_way {f:Addr} {fd:FuncData} (F:Fun K "way" "way" Q2f f fd) (T:Txt mg)  (D_arrivals:DefS P w K mg base 1 "arrivals" 3 Y2):FnOk P w K mg base (CXD P w) 2 f fd ["roads", "house", "moment", "to"] (spF mg 4 F_way):=by
  refine Z1 (k:=1) (m:=m_way) F sc_way rfl rfl rfl fun cdv A outer s H E hr=>?_
  exact (Qa (Jb 4 sc_way.nd (Qf D_arrivals (hr.mono (by decide)) Qd rfl (Q2 (Q0 0) (Q2 (Q0 1) (Q2 (Q0 2) Q5)))))
    (Qa (Jb 5 sc_way.nd (z9 (Q06 Q5)))
    (Qa (Jb 6 sc_way.nd (Q0 3))
    (Qa (ss_while 100000 PassesOwn.leaving (Jd Q0t (Z9 (Wd (Ya hr) (Q0 4) (Q0 6) (fun _ _=>rfl)) Q8) Ws) (Qa (Vd (Q2e (Q0 5) (Q2 (Yg (Q2 (J6 os_sub (Z9 (Wd (Ya hr) (Q0 4) (Q0 6) (fun _ _=>rfl)) Q8) Q8) (Q2 (Z9 (Wd (Ya hr) (Q0 4) (Q0 6) (fun _ _=>rfl)) Q8) (Q2 (Q0 6) Q5)))) Q5)))
    (Qe (Jb 6 sc_way.nd (Z9 (Wd (Ya hr) (Q0 4) (Q0 6) (fun _ _=>rfl)) Q8)))))
    (Qe (Qu (Q0 5)))))))
def Vz:ME:=(mOp Zg (Q4 0) (Wp (Q3 (mOp oIx (Q4 1) (Q4 2)) Qc)))
def Zy:MS:=(Yc (toB (mOp (oI fun a b=>.bl (decide (b < a))) (mOp oIx (Q4 0) (Q4 7)) (mC (.int 0)))) (Xw (mBM Vt (Q4 6) (Q3 (qh (Yj [none,some 0,some 7] (Qg 0) (Xu (Qj 4 F_way (Q3 (Q4 1) (Q3 (Q4 7) (Q3 (Vw (Q4 4) (Q4 7)) (Q3 (Q4 2) Qc)))))) Wg Vz)) Qc))) Z5)
def Wf : MS := (Qh (Jp 4 (Qj 3 Qk (Q3 (Jh Yk (Q3 (Q4 0) Qc)) (Q3 (Q4 1) (Q3 (Q4 2) Qc)))))
    (Qh (Jp 5 (Qj 3 Jc (Q3 (Jh Yk (Q3 (Q4 0) Qc)) (Q3 (Q4 1) (Q3 (Q4 2) Qc)))))
    (Qh (Jp 6 (mTrk (y9 Qc)))
    (Qh (Xv (Qg 7) (Xu (Qj 2 Zd (Q3 (Q4 5) (Q3 (Q4 3) Qc)))) Zy)
    (Z4 (Jh Q1k (Q3 (Q4 6) Qc)))))))
def Vi:FN:=Qs Wf 8
theorem sc_moves_home:FnScope ["rights", "roads", "house", "moment", "asks", "homes", "moves", "one"] ["rights", "roads", "house", "moment"] (Q6 Yp):=⟨rfl,rfl,rfl,by decide +kernel,rfl,by decide +kernel,by decide +kernel⟩
theorem Q1y {f:Addr} {fd:FuncData} (F:Fun K "moves_home" "moves_home" Yp f fd) (T:Txt mg)  (D_asked_moments:DefS P w K mg base 2 "asked_moments" 3 Qk) (D_home_moments:DefS P w K mg base 3 "home_moments" 3 Jc) (D_houses_home_by:DefS P w K mg base 2 "houses_home_by" 2 Zd) (D_way:DefS P w K mg base 2 "way" 4 F_way):FnOk P w K mg base (CXD P w) 4 f fd ["rights", "roads", "house", "moment"] (spF mg 4 Vi):=by
  refine Z1 (k:=3) (m:=Wf) F sc_moves_home rfl rfl rfl fun cdv A outer s H E hr=>?_
  exact (Qa (Jb 4 sc_moves_home.nd (Qf D_asked_moments (hr.mono (by decide)) Qd rfl (Q2 (J7 Yu rfl T.b_len PySem.boot_len (Q2 (Q0 0) Q5)) (Q2 (Q0 1) (Q2 (Q0 2) Q5)))))
    (Qa (Jb 5 sc_moves_home.nd (Qf D_home_moments (hr.mono (by decide)) Qd rfl (Q2 (J7 Yu rfl T.b_len PySem.boot_len (Q2 (Q0 0) Q5)) (Q2 (Q0 1) (Q2 (Q0 2) Q5)))))
    (Qa (Jb 6 sc_moves_home.nd (z9 (Q06 Q5)))
    (Qa (Wb PassesOwn.leaving rfl (Wr (Qf D_houses_home_by (hr.mono (by decide)) Qd rfl (Q2 (Q0 5) (Q2 (Q0 3) Q5)))) (Qz (i:=7) sc_moves_home.nd) (Qe (Zq (Jd os_gt (Z9 (Q0 0) (Q0 7)) Q8) (Qe (Vd (Q2d (Q0 6) (Q2 (V9 (Yx [none,some 0,some 7] ["road", "rights", "one"] rfl (Wr (Qf D_way (hr.mono (by decide)) Qd rfl (Q2 (Q0 1) (Q2 (Q0 7) (Q2 (Wd (Ya hr) (Q0 4) (Q0 7) (fun _ _=>rfl)) (Q2 (Q0 2) Q5)))))) (fun _ _ _ _ _=>(Qz (i:=0) (show (["road", "rights", "one"]:List Str).Nodup by decide +kernel))) (fun _ _ _ _ _=>(J6 Jv (Q0 0) (Yg (Q2 (Z9 (Q0 1) (Q0 2)) Q5)))) (fun _ _ _ _ _=>Vc) Y8)) Q5)))) Jn)))
    (Qe (Qu (J7 cs_sortT rfl T.b_sorted boot_sorted (Q2 (Q0 6) Q5))))))))
def X5:ME:=(mOp oIx (Q4 1) (Q4 0))
def Ys:MS:=(mThaw (Yc (toB (mOp (oI fun a b=>.bl (decide (b<=a))) (Jh (X9 fun ns=>some (.int ns.sum)) (Q3 (qh (Yj [none,some 0] (Qg 0) (Xu (Qj 2 Zd (Q3 (Q4 4) (Q3 (Q4 5) Qc)))) Wg X5)) Qc)) (Q4 3))) (Z4 (Wp (Q3 (mC (.str "gathered")) (Q3 (Q4 5) (Q3 (Qj 4 Vi (Q3 (Q4 0) (Q3 (Q4 1) (Q3 (Q4 2) (Q3 (Q4 5) Qc))))) Qc))))) Z5))
def W1 : MS := (Qh (Xw (Qj 3 J2 (Q3 (Jh Yk (Q3 (Q4 0) Qc)) (Q3 (Q4 1) (Q3 (Q4 2) Qc)))))
    (Qh (Jp 4 (Qj 3 Jc (Q3 (Jh Yk (Q3 (Q4 0) Qc)) (Q3 (Q4 1) (Q3 (Q4 2) Qc)))))
    (Qh (Xv (Qg 5) (Wh (Q3 (mOp Zg (Jh Yk (Q3 (Q4 1) Qc)) (mC (.int 1))) Qc)) Ys)
    (Z4 (Wp (Q3 (mC (.str "short")) (Q3 (Qj 3 Qk (Q3 (Jh Yk (Q3 (Q4 0) Qc)) (Q3 (Q4 1) (Q3 (Q4 2) Qc)))) (Q3 (Q4 4) Qc))))))))
def W4:FN:=Zh W1 6
theorem sc_gathered:FnScope ["rights", "roads", "house", "amount", "homes", "moment"] ["rights", "roads", "house", "amount"] (Q6 Wv):=⟨rfl,rfl,rfl,by decide +kernel,rfl,by decide +kernel,by decide +kernel⟩
theorem ok_gathered {f:Addr} {fd:FuncData} (F:Fun K "gathered" "gathered" Wv f fd) (T:Txt mg)  (D_need_roads:DefS P w K mg base 6 "need_roads" 3 J2) (D_home_moments:DefS P w K mg base 3 "home_moments" 3 Jc) (D_houses_home_by:DefS P w K mg base 2 "houses_home_by" 2 Zd) (D_moves_home:DefS P w K mg base 4 "moves_home" 4 Vi) (D_asked_moments:DefS P w K mg base 2 "asked_moments" 3 Qk):FnOk P w K mg base (CXD P w) 7 f fd ["rights", "roads", "house", "amount"] (spF mg 4 W4):=by
  refine V4 (k:=6) (m:=W1) F sc_gathered rfl rfl rfl fun cdv A outer s H E hr=>?_
  exact (Qa (Vd (Qf D_need_roads (hr.mono (by decide)) Qd rfl (Q2 (J7 Yu rfl T.b_len PySem.boot_len (Q2 (Q0 0) Q5)) (Q2 (Q0 1) (Q2 (Q0 2) Q5)))))
    (Qa (Jb 4 sc_gathered.nd (Qf D_home_moments (hr.mono (by decide)) Qd rfl (Q2 (J7 Yu rfl T.b_len PySem.boot_len (Q2 (Q0 0) Q5)) (Q2 (Q0 1) (Q2 (Q0 2) Q5)))))
    (Qa (Wb PassesOwn.leaving rfl (W5 rfl T.b_range (Q2 (J6 Jv (J7 Yu rfl T.b_len PySem.boot_len (Q2 (Q0 1) Q5)) Q8) Q5)) (Qz (i:=5) sc_gathered.nd) (Qe (ss_thaw (Zq (Jd os_ge (J7 (cs_sum rfl) rfl T.b_sum boot_sum (Q2 (V9 (Yx [none,some 0] ["one", "rights"] rfl (Wr (Qf D_houses_home_by (hr.mono (by decide)) Qd rfl (Q2 (Q0 4) (Q2 (Q0 5) Q5)))) (fun _ _ _ _ _=>(Qz (i:=0) (show (["one", "rights"]:List Str).Nodup by decide +kernel))) (fun _ _ _ _ _=>(Z9 (Q0 1) (Q0 0))) (fun _ _ _ _ _=>Vc) Y8)) Q5)) (Q0 3)) (Qe (Qu (Yg (Q2 Uy (Q2 (Q0 5) (Q2 (Qf D_moves_home (hr.mono (by decide)) Qd rfl (Q2 (Q0 0) (Q2 (Q0 1) (Q2 (Q0 2) (Q2 (Q0 5) Q5))))) Q5)))))) Jn))))
    (Qe (Qu (Yg (Q2 Uy (Q2 (Qf D_asked_moments (hr.mono (by decide)) Qd rfl (Q2 (J7 Yu rfl T.b_len PySem.boot_len (Q2 (Q0 0) Q5)) (Q2 (Q0 1) (Q2 (Q0 2) Q5)))) (Q2 (Q0 4) Q5)))))))))
def Xq : MS := (Qh (Jp 4 (mOp oIx (Q4 3) (mC (.int 0))))
    (Qh (Yc (tOrM (Xe (toB (Xx (oI fun a b=>.bl (decide (a<=b))) oLt (mC (.int 0)) (Q4 4) (Q4 2)))) (toB (mOp (oIn true) (mSl (Q4 3) (mPart (mC (.int 1))) (mPart (mC (.int 3)))) (mOp oIx (Q4 0) (Q4 4))))) (Z4 (mC (.bl false))) Z5)
    (Z4 (Q13 (mOp (oI fun a b=>.bl (decide (b<=a))) (mOp oIx (Q4 3) (mC (.int 3))) (mC (.int 1))) (Qj 2 U7 (Q3 (Vw (Q4 1) (mOp oIx (Q4 3) (mC (.int 1)))) (Q3 (Q4 4) Qc)))))))
def U1:FN:=Qs Xq 5
theorem sc_may_be_moved:FnScope ["roads", "asks", "moment", "move", "number"] ["roads", "asks", "moment", "move"] (Q6 Zs):=⟨rfl,rfl,rfl,by decide +kernel,rfl,by decide +kernel,by decide +kernel⟩
theorem yi {f:Addr} {fd:FuncData} (F:Fun K "may_be_moved" "may_be_moved" Zs f fd) (T:Txt mg)  (D_is_by:DefS P w K mg base 1 "is_by" 2 U7):FnOk P w K mg base (CXD P w) 2 f fd ["roads", "asks", "moment", "move"] (spF mg 4 U1):=by
  refine Z1 (k:=1) (m:=Xq) F sc_may_be_moved rfl rfl rfl fun cdv A outer s H E hr=>?_
  exact (Qa (Jb 4 sc_may_be_moved.nd (Z9 (Q0 3) Q8))
    (Qa (Zq (SimW.t (sw_or (Ux (st_chain Q0s (Q0r hr.units) Q8 (Q0 4) (Q0 2))) (sw_or1 (Jd (os_notin hr.units) (Q08 (Q0 3) (yw Q8) (yw Q8)) (Z9 (Q0 0) (Q0 4)))))) (Qe (Qu Ui)) Jn)
    (Qe (Qu (Xh (U8 os_ge (Z9 (Q0 3) Q8) Q8) (Xg (Qf D_is_by (hr.mono (by decide)) Qd rfl (Q2 (Wd (Ya hr) (Q0 1) (Z9 (Q0 3) Q8) (fun _ _=>rfl)) (Q2 (Q0 4) Q5)))))))))
def e_has_at_1:ME:=(Q4 0)
def t_has_at_1:MT:=(toB (mOp oEq (mOp oIx (Q4 0) (mC (.int 0))) (Q4 1)))
def b_has_at_1 : MS := (Qh (Jp 3 (Qj 2 U3 (Q3 (Q4 3) (Q3 (qh (Yj [none, some 4] (Qg 0) (Xu (Q4 1)) t_has_at_1 e_has_at_1)) Qc))))
    (Yc (toB (mOp oIs (Q4 3) (mC .non))) (Z4 (mC .non)) Z5))
def Xs : MS := (Qh (Jp 3 (Jh jt (Q3 (Q4 0) Qc)))
    (Qh (Xv (Qg 4) (Wh (Q3 (Q4 2) Qc)) b_has_at_1)
    (Z4 (Q4 3))))
def jx:FN:=Qs Xs 5
theorem sc_has_at:FnScope ["rights", "moves", "moment", "has", "number"] ["rights", "moves", "moment"] (Q6 Uj):=⟨rfl,rfl,rfl,by decide +kernel,rfl,by decide +kernel,by decide +kernel⟩
theorem ok_has_at {f:Addr} {fd:FuncData} (F:Fun K "has_at" "has_at" Uj f fd) (T:Txt mg)  (D_behind_round:DefS P w K mg base 1 "behind_round" 2 U3):FnOk P w K mg base (CXD P w) 2 f fd ["rights", "moves", "moment"] (spF mg 3 jx):=by
  refine Z1 (k:=1) (m:=Xs) F sc_has_at rfl rfl rfl fun cdv A outer s H E hr=>?_
  exact (Qa (Jb 3 sc_has_at.nd (qz cs_list rfl T.b_list zx (Q2 (Q0 0) Q5)))
    (Qa (Wb PassesOwn.leaving rfl (W5 rfl T.b_range (Q2 (Q0 2) Q5)) (Qz (i:=4) sc_has_at.nd) (Qa (Jb 3 sc_has_at.nd (Qf D_behind_round (hr.mono (by decide)) Qd rfl (Q2 (Q0 3) (Q2 (V9 (Yx [none,some 4] ["move", "number"] rfl (Wr (Q0 1)) (fun _ _ _ _ _=>(Qz (i:=0) (show (["move", "number"]:List Str).Nodup by decide +kernel))) (fun _ _ _ _ _=>(Q0 0)) (fun _ _ _ _ _=>(sts_one (Jd (os_eq hr.units) (Z9 (Q0 0) Q8) (Q0 1)))) Y8)) Q5))))
    (Qe (Zq (Jd os_is (Q0 3) Ws) (Qe (Qu Ws)) Jn))))
    (Qe (Qu (Q0 3)))))
def e_gathers_1:ME:=(mOp oLt (mOp oIx (Q4 1) (mC (.int 0))) (mOp oIx (Q4 0) (mC (.int 0))))
def e_gathers_2:ME:=(Qj 4 U1 (Q3 (Q4 1) (Q3 (Q4 2) (Q3 (Q4 3) (Q3 (Q4 0) Qc)))))
def W9 : MS := (Qh (Xw (Qj 3 J2 (Q3 (Jh Yk (Q3 (Q4 0) Qc)) (Q3 (Q4 1) (Q3 (Q4 2) Qc)))))
    (Qh (Yc (Xe (toB (Xx (oI fun a b=>.bl (decide (a<=b))) (oI fun a b=>.bl (decide (a<=b))) (mC (.int 0)) (Q4 4) (Jh Yk (Q3 (Q4 1) Qc))))) (Z4 (mC (.bl false))) Z5)
    (Qh (Yc (toB (Jh (Kr fun ns=>.bl (ns.any id)) (Q3 (qh (Yj [none,none] (Up (Jq (Qg 0) (Jq (Qg 1) Uq))) (mZip (Q3 (Q4 5) (Q3 (mSl (Q4 5) (mPart (mC (.int 1))) xf) Qc))) Wg e_gathers_1)) Qc))) (Z4 (mC (.bl false))) Z5)
    (Qh (Jp 6 (Qj 3 Qk (Q3 (Jh Yk (Q3 (Q4 0) Qc)) (Q3 (Q4 1) (Q3 (Q4 2) Qc)))))
    (Qh (Yc (Xe (toB (Jh (Kr fun ns=>.bl (ns.all id)) (Q3 (qh (Yj [none,some 1,some 6,some 4] (Qg 0) (Xu (Q4 5)) Wg e_gathers_2)) Qc)))) (Z4 (mC (.bl false))) Z5)
    (Qh (Jp 7 (Qj 3 jx (Q3 (Q4 0) (Q3 (Q4 5) (Q3 (Q4 4) Qc)))))
    (Z4 (Q13 (mOp qf (Q4 7) (mC .non)) (mOp (oI fun a b=>.bl (decide (b<=a))) (mOp oIx (Q4 7) (Q4 2)) (Q4 3))))))))))
def Uu:FN:=Qs W9 8
theorem sc_gathers:FnScope ["rights", "roads", "house", "amount", "moment", "moves", "asks", "has"] ["rights", "roads", "house", "amount", "moment", "moves"] (Q6 Vk):=⟨rfl,rfl,rfl,by decide +kernel,rfl,by decide +kernel,by decide +kernel⟩
theorem ok_gathers {f:Addr} {fd:FuncData} (F:Fun K "gathers" "gathers" Vk f fd) (T:Txt mg)  (D_need_roads:DefS P w K mg base 6 "need_roads" 3 J2) (D_asked_moments:DefS P w K mg base 2 "asked_moments" 3 Qk) (D_may_be_moved:DefS P w K mg base 2 "may_be_moved" 4 U1) (D_has_at:DefS P w K mg base 2 "has_at" 3 jx):FnOk P w K mg base (CXD P w) 7 f fd ["rights", "roads", "house", "amount", "moment", "moves"] (spF mg 6 Uu):=by
  refine Z1 (k:=6) (m:=W9) F sc_gathers rfl rfl rfl fun cdv A outer s H E hr=>?_
  exact (Qa (Vd (Qf D_need_roads (hr.mono (by decide)) Qd rfl (Q2 (J7 Yu rfl T.b_len PySem.boot_len (Q2 (Q0 0) Q5)) (Q2 (Q0 1) (Q2 (Q0 2) Q5)))))
    (Qa (Zq (Ux (st_chain Q0s Q0s Q8 (Q0 4) (J7 Yu rfl T.b_len PySem.boot_len (Q2 (Q0 1) Q5)))) (Qe (Qu Ui)) Jn)
    (Qa (Zq (Uw (J7 (cs_any rfl) rfl T.b_any boot_any (Q2 (V9 (Yx [none,none] ["earlier", "later"] rfl (si_zip rfl T.b_zip (Q2 (Q0 5) (Q2 (Q08 (Q0 5) (yw Q8) so_none) Q5))) (fun _ _ _ _ _=>(z8 rfl (Z3 (Qz (i:=0) (show (["earlier", "later"]:List Str).Nodup by decide +kernel)) (Z3 (Qz (i:=1) (show (["earlier", "later"]:List Str).Nodup by decide +kernel)) K7)))) (fun _ _ _ _ _=>(U8 (Q0r hr.units) (Z9 (Q0 1) Q8) (Z9 (Q0 0) Q8))) (fun _ _ _ _ _=>Vc) (free_tup (Kj (Kj free_nil))))) Q5))) (Qe (Qu Ui)) Jn)
    (Qa (Jb 6 sc_gathers.nd (Qf D_asked_moments (hr.mono (by decide)) Qd rfl (Q2 (J7 Yu rfl T.b_len PySem.boot_len (Q2 (Q0 0) Q5)) (Q2 (Q0 1) (Q2 (Q0 2) Q5)))))
    (Qa (Zq (Ux (Uw (J7 (Q1i rfl) rfl T.b_all K3 (Q2 (V9 (Yx [none,some 1,some 6,some 4] ["move", "roads", "asks", "moment"] rfl (Wr (Q0 5)) (fun _ _ _ _ _=>(Qz (i:=0) (show (["move", "roads", "asks", "moment"]:List Str).Nodup by decide +kernel))) (fun _ _ _ _ _=>(Qf D_may_be_moved (hr.mono (by decide)) X0 rfl (Q2 (Q0 1) (Q2 (Q0 2) (Q2 (Q0 3) (Q2 (Q0 0) Q5)))))) (fun _ _ _ _ _=>Vc) Y8)) Q5)))) (Qe (Qu Ui)) Jn)
    (Qa (Jb 7 sc_gathers.nd (Qf D_has_at (hr.mono (by decide)) Qd rfl (Q2 (Q0 0) (Q2 (Q0 5) (Q2 (Q0 4) Q5)))))
    (Qe (Qu (Xh (U8 Q0t (Q0 7) Ws) (Xg (U8 os_ge (Z9 (Q0 7) (Q0 2)) (Q0 3))))))))))))
def Ji : MS := (Qh (Xw (Qj 3 J2 (Q3 (Q4 0) (Q3 (Q4 1) (Q3 (Q4 2) Qc)))))
    (Z4 (Q13 (mOp (oEqDD true) (Q4 3) (Qj 3 Qk (Q3 (Q4 0) (Q3 (Q4 1) (Q3 (Q4 2) Qc))))) (mOp (oEqDD true) (Q4 4) (Qj 3 Jc (Q3 (Q4 0) (Q3 (Q4 1) (Q3 (Q4 2) Qc))))))))
def Yw:FN:=Qs Ji 5
theorem Q0b:FnScope ["n", "roads", "house", "asked", "home"] ["n", "roads", "house", "asked", "home"] (Q6 Y4):=⟨rfl,rfl,rfl,by decide +kernel,rfl,by decide +kernel,by decide +kernel⟩
theorem Q0u {f:Addr} {fd:FuncData} (F:Fun K "are_moments" "are_moments" Y4 f fd) (T:Txt mg)  (D_need_roads:DefS P w K mg base 6 "need_roads" 3 J2) (D_asked_moments:DefS P w K mg base 2 "asked_moments" 3 Qk) (D_home_moments:DefS P w K mg base 3 "home_moments" 3 Jc):FnOk P w K mg base (CXD P w) 7 f fd ["n", "roads", "house", "asked", "home"] (spF mg 5 Yw):=by
  refine Z1 (k:=6) (m:=Ji) F Q0b rfl rfl rfl fun cdv A outer s H E hr=>?_
  exact (Qa (Vd (Qf D_need_roads (hr.mono (by decide)) Qd rfl (Q2 (Q0 0) (Q2 (Q0 1) (Q2 (Q0 2) Q5)))))
    (Qe (Qu (Xh (U8 (os_eqDD true hr.units) (Q0 3) (Qf D_asked_moments (hr.mono (by decide)) Qd rfl (Q2 (Q0 0) (Q2 (Q0 1) (Q2 (Q0 2) Q5))))) (Xg (U8 (os_eqDD true hr.units) (Q0 4) (Qf D_home_moments (hr.mono (by decide)) Qd rfl (Q2 (Q0 0) (Q2 (Q0 1) (Q2 (Q0 2) Q5))))))))))
def Yr : MS := (Qh (Yc (toB (mOp (oI fun a b => .bl (decide (b <= a))) (Q4 0) (mOp oPow (mC (.int 10)) (mC (.int 18))))) (Z4 (Q4 0)) Z5)
    (Qh (Jp 2 (mOp je (mOp Zg (mOp Zg (mOp Um (mOp je (Q4 0) (mC (.int 998244353))) (mC (.int 51749))) (mOp Um (Q4 1) (mC (.int 7919)))) (mC (.int 3))) (mC (.int 1000000007))))
    (Qh (Jp 3 (mOp je (mOp Zg (mOp Zg (mOp Zg (mOp Um (Q4 2) (Q4 2)) (mOp Um (mC (.int 32749)) (Q4 2))) (Q4 1)) (mC (.int 5))) (mC (.int 2147483629))))
    (Qh (Jp 4 (mOp je (mOp Zg (mOp Zg (mOp Um (Q4 3) (Q4 3)) (mOp Um (mC (.int 61)) (Q4 1))) (Q4 2)) (mC (.int 2147483587))))
    (Z4 (mOp Zg (mOp Um (Q4 3) (mC (.int 2147483587))) (Q4 4)))))))
def Js:FN:=Qs Yr 5
theorem sc__law_e_stirred:FnScope ["cell", "place", "first", "second", "third"] ["cell", "place"] (Q6 Zc):=⟨rfl,rfl,rfl,by decide +kernel,rfl,by decide +kernel,by decide +kernel⟩
theorem jd {f:Addr} {fd:FuncData} (F:Fun K "_law_e_stirred" "_law_e_stirred" Zc f fd) (T:Txt mg)   : FnOk P w K mg base (CXD P w) 1 f fd ["cell", "place"] (spF mg 2 Js):=by
  refine Z1 (k:=0) (m:=Yr) F sc__law_e_stirred rfl rfl rfl fun cdv A outer s H E hr=>?_
  exact (Qa (Zq (Jd os_ge (Q0 0) (J6 os_pow Q8 Q8)) (Qe (Qu (Q0 0))) Jn)
    (Qa (Jb 2 sc__law_e_stirred.nd (J6 qe (J6 Jv (J6 Jv (J6 Ua (J6 qe (Q0 0) Q8) Q8) (J6 Ua (Q0 1) Q8)) Q8) Q8))
    (Qa (Jb 3 sc__law_e_stirred.nd (J6 qe (J6 Jv (J6 Jv (J6 Jv (J6 Ua (Q0 2) (Q0 2)) (J6 Ua Q8 (Q0 2))) (Q0 1)) Q8) Q8))
    (Qa (Jb 4 sc__law_e_stirred.nd (J6 qe (J6 Jv (J6 Jv (J6 Ua (Q0 3) (Q0 3)) (J6 Ua Q8 (Q0 1))) (Q0 2)) Q8))
    (Qe (Qu (J6 Jv (J6 Ua (Q0 3) Q8) (Q0 4))))))))
def Yi : MS := (Qh (Yc (toB (mOp oLt (mOp oIx (Q4 0) (mC (.int 2))) (Q4 1))) (Qh (Jp 2 (mOp oIx (Q4 0) (mC (.int 1))))
    (Qh (Jp 3 (Q4 2))
    (Qh (Yc (toB (mOp oLt (Q4 2) (Jh Yk (Q3 (mOp oIx (Q4 0) (mC (.int 0))) Qc)))) (Jp 3 (mOp oIx (mOp oIx (Q4 0) (mC (.int 0))) (Q4 2))) (Yc (toB (mOp (oI fun a b=>.bl (decide (b < a))) (Jh Yk (Q3 (mOp oIx (Q4 0) (mC (.int 0))) Qc)) (mC (.int 0)))) (Jp 3 (mOp Zg (mOp je (mOp oIx (mOp oIx (Q4 0) (mC (.int 0))) (mOp je (mOp Um (Q4 2) (mC (.int 3))) (Jh Yk (Q3 (mOp oIx (Q4 0) (mC (.int 0))) Qc)))) (mOp oPow (mC (.int 10)) (mC (.int 9)))) (mOp Um (Q4 2) (mC (.int 1000000))))) Z5))
    (Qh (qi (Q4 0) (mC (.int 1)) (mOp Zg (Q4 2) (mC (.int 1))))
    (qi (Q4 0) (mC (.int 2)) (Qj 2 Js (Q3 (Q4 3) (Q3 (Q4 2) Qc)))))))) Z5)
    (Qh (Jp 4 (mOp je (mOp oIx (Q4 0) (mC (.int 2))) (Q4 1)))
    (Qh (qi (Q4 0) (mC (.int 2)) (mOp oDivB (mOp oIx (Q4 0) (mC (.int 2))) (Q4 1)))
    (Z4 (Q4 4)))))
def J3:FN:=Qs Yi 5
theorem sc__law_e_digit:FnScope ["tape", "many", "place", "cell", "digit"] ["tape", "many"] (Q6 Zv):=⟨rfl,rfl,rfl,by decide +kernel,rfl,by decide +kernel,by decide +kernel⟩
theorem ym {f:Addr} {fd:FuncData} (F:Fun K "_law_e_digit" "_law_e_digit" Zv f fd) (T:Txt mg)  (D__law_e_stirred:DefS P w K mg base 1 "_law_e_stirred" 2 Js):FnOk P w K mg base (CXD P w) 2 f fd ["tape", "many"] (spF mg 2 J3):=by
  refine Z1 (k:=1) (m:=Yi) F sc__law_e_digit rfl rfl rfl fun cdv A outer s H E hr=>?_
  exact (Qa (Zq (Jd (Q0r hr.units) (Z9 (Q0 0) Q8) (Q0 1)) (Qa (Jb 2 sc__law_e_digit.nd (Z9 (Q0 0) Q8))
    (Qa (Jb 3 sc__law_e_digit.nd (Q0 2))
    (Qa (Zq (Jd (Q0r hr.units) (Q0 2) (J7 Yu rfl T.b_len PySem.boot_len (Q2 (Z9 (Q0 0) Q8) Q5))) (Qe (Jb 3 sc__law_e_digit.nd (Z9 (Z9 (Q0 0) Q8) (Q0 2)))) (Qe (Zq (Jd os_gt (J7 Yu rfl T.b_len PySem.boot_len (Q2 (Z9 (Q0 0) Q8) Q5)) Q8) (Qe (Jb 3 sc__law_e_digit.nd (J6 Jv (J6 qe (Z9 (Z9 (Q0 0) Q8) (J6 qe (J6 Ua (Q0 2) Q8) (J7 Yu rfl T.b_len PySem.boot_len (Q2 (Z9 (Q0 0) Q8) Q5)))) (J6 os_pow Q8 Q8)) (J6 Ua (Q0 2) Q8)))) Jn)))
    (Qa (ss_sub (J6 Jv (Q0 2) Q8) (Q0 0) Q8)
    (Qe (ss_sub (Qf D__law_e_stirred (hr.mono (by decide)) Qd rfl (Q2 (Q0 3) (Q2 (Q0 2) Q5))) (Q0 0) Q8)))))) Jn)
    (Qa (Jb 4 sc__law_e_digit.nd (J6 qe (Z9 (Q0 0) Q8) (Q0 1)))
    (Qa (ss_sub (J6 os_divB (Z9 (Q0 0) Q8) (Q0 1)) (Q0 0) Q8)
    (Qe (Qu (Q0 4))))))
def Z7:ME:=(Wp (Q3 (Q4 1) (Q3 (Q4 0) Qc)))
def Jj:MT:=(Q02 (toB (mOp oNe (Q4 0) (Q4 1))) (toB (mOp oLt (Qj 2 J3 (Q3 (Q4 3) (Q3 (mC (.int 8)) Qc))) (Q4 2))))
def Jk:MS:=(Xw (mBM Vt (Q4 6) (Q3 (qh (Yj [none,some 7,some 3,some 0] (Qg 0) (Wh (Q3 (Q4 1) Qc)) Jj Z7)) Qc)))
def Z8 : MS := (Qh (Jp 6 (mTrk (y9 Qc)))
    (Qh (Xv (Qg 7) (Wh (Q3 (Q4 1) Qc)) Jk)
    (Xw (mBM Vu (Q4 4) (Q3 (Jh Ug (Q3 (Q4 6) Qc)) Qc)))))
def Jx : MS := (Qh (Jp 3 (mOp Zg (mC (.int 1)) (Qj 2 J3 (Q3 (Q4 0) (Q3 (mC (.int 6)) Qc)))))
    (Qh (Jp 4 (mTrk (y9 Qc)))
    (Qh (Xv (Qg 5) (Wh (Q3 (Qj 2 J3 (Q3 (Q4 0) (Q3 (mOp Zg (Q4 2) (mC (.int 1))) Qc))) Qc)) Z8)
    (Z4 (Q4 4)))))
def Jy:FN:=Zh Jx 8
theorem sc__law_e_drawn_roads:FnScope ["tape", "n", "most", "often", "roads", "turn", "one", "i"] ["tape", "n", "most"] (Q6 Jf):=⟨rfl,rfl,rfl,by decide +kernel,rfl,by decide +kernel,by decide +kernel⟩
theorem Xc {f:Addr} {fd:FuncData} (F:Fun K "_law_e_drawn_roads" "_law_e_drawn_roads" Jf f fd) (T:Txt mg)  (D__law_e_digit:DefS P w K mg base 2 "_law_e_digit" 2 J3):FnOk P w K mg base (CXD P w) 3 f fd ["tape", "n", "most"] (spF mg 3 Jy):=by
  refine V4 (k:=2) (m:=Jx) F sc__law_e_drawn_roads rfl rfl rfl fun cdv A outer s H E hr=>?_
  exact (Qa (Jb 3 sc__law_e_drawn_roads.nd (J6 Jv Q8 (Qf D__law_e_digit (hr.mono (by decide)) Qd rfl (Q2 (Q0 0) (Q2 Q8 Q5)))))
    (Qa (Jb 4 sc__law_e_drawn_roads.nd (z9 (Q06 Q5)))
    (Qa (Wb PassesOwn.leaving rfl (W5 rfl T.b_range (Q2 (Qf D__law_e_digit (hr.mono (by decide)) Qd rfl (Q2 (Q0 0) (Q2 (J6 Jv (Q0 2) Q8) Q5))) Q5)) (Qz (i:=5) sc__law_e_drawn_roads.nd) (Qa (Jb 6 sc__law_e_drawn_roads.nd (z9 (Q06 Q5)))
    (Qa (Wb PassesOwn.leaving rfl (W5 rfl T.b_range (Q2 (Q0 1) Q5)) (Qz (i:=7) sc__law_e_drawn_roads.nd) (Qe (Vd (Q2d (Q0 6) (Q2 (V9 (Yx [none,some 7,some 3,some 0] ["j", "i", "often", "tape"] rfl (W5 rfl T.b_range (Q2 (Q0 1) Q5)) (fun _ _ _ _ _=>(Qz (i:=0) (show (["j", "i", "often", "tape"]:List Str).Nodup by decide +kernel))) (fun _ _ _ _ _=>(Yg (Q2 (Q0 1) (Q2 (Q0 0) Q5)))) (fun _ _ _ _ _=>(sts_one (SimW.t (sw_and (Jd (y8 hr.units) (Q0 0) (Q0 1)) (sw_and1 (Jd (Q0r hr.units) (Qf D__law_e_digit (hr.mono (by decide)) X0 rfl (Q2 (Q0 3) (Q2 Q8 Q5))) (Q0 2))))))) Y8)) Q5)))))
    (Qe (Vd (Q2e (Q0 4) (Q2 (qz cs_tuple rfl T.b_tuple boot_tuple (Q2 (Q0 6) Q5)) Q5)))))))
    (Qe (Qu (Q0 4))))))
def Qy : MS := (Qh (Yc (toB (mOp oEq (Q4 0) (mC (.int 0)))) (Z4 (Qj 3 X7 (Q3 (Q4 1) (Q3 (Q4 2) (Q3 (Q4 3) Qc))))) Z5)
    (Qh (Yc (toB (mOp oEq (Q4 0) (mC (.int 1)))) (Z4 (Qj 3 qt (Q3 (Q4 1) (Q3 (Q4 2) (Q3 (Q4 3) Qc))))) Z5)
    (Qh (Jp 4 (mTR (Q4 1)))
    (Qh (Yc (toB (mOp oEq (Q4 0) (mC (.int 2)))) (Z4 (Qj 4 W4 (Q3 (Q4 4) (Q3 (Q4 2) (Q3 (Q4 3) (Q3 (mC (.int 1)) Qc)))))) Z5)
    (Qh (Yc (toB (mOp oEq (Q4 0) (mC (.int 3)))) (Z4 (Qj 6 Uu (Q3 (Q4 4) (Q3 (Q4 2) (Q3 (Q4 3) (Q3 (mC (.int 1)) (Q3 (mC (.int 0)) (Q3 (U4 Qc) Qc)))))))) Z5)
    (Z4 (Qj 5 Yw (Q3 (Q4 1) (Q3 (Q4 2) (Q3 (Q4 3) (Q3 (zh (mC (.int 0)) (mC (.int 0))) (Q3 (zh (mC (.int 0)) (mC .non)) Qc))))))))))))
def Zp:FN:=Zh Qy 5
theorem sc__law_e_door:FnScope ["way_v", "n", "roads", "house", "sums"] ["way_v", "n", "roads", "house"] (Q6 Y7):=⟨rfl,rfl,rfl,by decide +kernel,rfl,by decide +kernel,by decide +kernel⟩
theorem Q0x {f:Addr} {fd:FuncData} (F:Fun K "_law_e_door" "_law_e_door" Y7 f fd) (T:Txt mg)  (D_asked:DefS P w K mg base 7 "asked" 3 X7) (D_home:DefS P w K mg base 7 "home" 3 qt) (D_gathered:DefS P w K mg base 7 "gathered" 4 W4) (D_gathers:DefS P w K mg base 7 "gathers" 6 Uu) (D_are_moments:DefS P w K mg base 7 "are_moments" 5 Yw):FnOk P w K mg base (CXD P w) 8 f fd ["way_v", "n", "roads", "house"] (spF mg 4 Zp):=by
  refine V4 (k:=7) (m:=Qy) F sc__law_e_door rfl rfl rfl fun cdv A outer s H E hr=>?_
  exact (Qa (Zq (Jd (os_eq hr.units) (Q0 0) Q8) (Qe (Qu (Qf D_asked (hr.mono (by decide)) Qd rfl (Q2 (Q0 1) (Q2 (Q0 2) (Q2 (Q0 3) Q5)))))) Jn)
    (Qa (Zq (Jd (os_eq hr.units) (Q0 0) Q8) (Qe (Qu (Qf D_home (hr.mono (by decide)) Qd rfl (Q2 (Q0 1) (Q2 (Q0 2) (Q2 (Q0 3) Q5)))))) Jn)
    (Qa (Jb 4 sc__law_e_door.nd (se_trange (Q0 1) rfl rfl T.b_tuple rfl T.b_range))
    (Qa (Zq (Jd (os_eq hr.units) (Q0 0) Q8) (Qe (Qu (Qf D_gathered (hr.mono (by decide)) Qd rfl (Q2 (Q0 4) (Q2 (Q0 2) (Q2 (Q0 3) (Q2 Q8 Q5))))))) Jn)
    (Qa (Zq (Jd (os_eq hr.units) (Q0 0) Q8) (Qe (Qu (Qf D_gathers (hr.mono (by decide)) Qd rfl (Q2 (Q0 4) (Q2 (Q0 2) (Q2 (Q0 3) (Q2 Q8 (Q2 Q8 (Q2 (Vq Q5) Q5))))))))) Jn)
    (Qe (Qu (Qf D_are_moments (hr.mono (by decide)) Qd rfl (Q2 (Q0 1) (Q2 (Q0 2) (Q2 (Q0 3) (Q2 (Q0a Q8 Q8) (Q2 (Q0a Q8 Ws) Q5)))))))))))))
def spKd (c:Nat->Addr):Sp:=fun vs H Q E=>∃ e dv,vs=[V.ref e]/\((H e=some (.ext (IsXD e (c 6) dv))/\∀ H2,Same H H2->Q (.str "road") H2)\/(H e=some (.ext (IsXD e (c 2) dv))/\∀ H2,Same H H2->Q (.str "house") H2))
theorem sc__law_e_kind:FnScope ["caught", "names", "kinds"] ["caught"] (Q6 Y6):=⟨rfl,rfl,rfl,by decide +kernel,rfl,by decide +kernel,by decide +kernel⟩
theorem Q0w {f:Addr} {fd:FuncData} {c:Nat->Addr} (F:Fun K "_law_e_kind" "_law_e_kind" Y6 f fd) (T:Txt mg) (Nm:Nms mg c) (T6:TgtS K c 6) (T2:TgtS K c 2):FnOk P w K mg base (CXD P w) 1 f fd ["caught"] (spKd c):=by
  refine Fun.okD (k:=0) F sc__law_e_kind (fun vs H Q E h=>by obtain ⟨e,dv,rfl,_⟩:=h; rfl) fun cdv A outer s H vs Q E hr hsp=>?_
  obtain ⟨e,dv,rfl,hsp⟩:=hsp
  refine jok ?_
  refine ⟨_,Vy (zn (i:=1) sc__law_e_kind.nd rfl (Or.inl rfl) (qk ⟨pa_strsE ["road", "house", "table", "deed", "letter", "stand", "plan", "book", "manner", "many", "text", "row"] [(_,_),(_,_),(_,_),(_,_),(_,_),(_,_),(_,_),(_,_),(_,_),(_,_),(_,_),(_,_)] rfl⟩))
      (Vy (zn (i:=2) sc__law_e_kind.nd rfl (Or.inl rfl) (qk (Yb ⟨Jt (Jr K) (by rfl) Nm.isi Qn (Qm (pv 0) (Qm (Y0 (v:=.ref (c 6)) (by rfl) Nm.m6 rfl) Ju))⟩ (Yb ⟨Jt (Jr K) (by rfl) Nm.isi Qn (Qm (pv 0) (Qm (Y0 (v:=.ref (c 2)) (by rfl) Nm.m2 rfl) Ju))⟩ (Yb ⟨Jt (Jr K) (by rfl) Nm.isi Qn (Qm (pv 0) (Qm (Y0 (v:=.ref (c 1)) (by rfl) Nm.m1 rfl) Ju))⟩ Q1b)))))
      (Vy (zn (i:=2) sc__law_e_kind.nd rfl (Or.inl rfl) (je_op zc ⟨pv 2⟩ (qk (Yb ⟨Jt (Jr K) (by rfl) Nm.isi Qn (Qm (pv 0) (Qm (Y0 (v:=.ref (c 3)) (by rfl) Nm.m3 rfl) Ju))⟩ (Yb ⟨Jt (Jr K) (by rfl) Nm.isi Qn (Qm (pv 0) (Qm (Y0 (v:=.ref (c 4)) (by rfl) Nm.m4 rfl) Ju))⟩ (Yb ⟨Jt (Jr K) (by rfl) Nm.isi Qn (Qm (pv 0) (Qm (Y0 (v:=.ref (c 5)) (by rfl) Nm.m5 rfl) Ju))⟩ Q1b))))))
      (Vy (zn (i:=2) sc__law_e_kind.nd rfl (Or.inl rfl) (je_op zc ⟨pv 2⟩ (qk (Yb ⟨Jt (Jr K) (by rfl) Nm.isi Qn (Qm (pv 0) (Qm (Y0 (v:=.ref (c 7)) (by rfl) Nm.m7 rfl) Ju))⟩ (Yb ⟨Jt (Jr K) (by rfl) Nm.isi Qn (Qm (pv 0) (Qm (Y0 (v:=.ref (c 8)) (by rfl) Nm.m8 rfl) Ju))⟩ (Yb ⟨Jt (Jr K) (by rfl) Nm.isi Qn (Qm (pv 0) (Qm (Y0 (v:=.ref (c 9)) (by rfl) Nm.m9 rfl) Ju))⟩ Q1b))))))
      (Vy (zn (i:=2) sc__law_e_kind.nd rfl (Or.inl rfl) (je_op zc ⟨pv 2⟩ (qk (Yb ⟨Jt (Jr K) (by rfl) Nm.isi Qn (Qm (pv 0) (Qm (Y0 (v:=.ref (c 10)) (by rfl) Nm.m10 rfl) Ju))⟩ (Yb ⟨Jt (Jr K) (by rfl) Nm.isi Qn (Qm (pv 0) (Qm (Y0 (v:=.ref (c 11)) (by rfl) Nm.m11 rfl) Ju))⟩ (Yb ⟨Jt (Jr K) (by rfl) Nm.isi Qn (Qm (pv 0) (Qm (Y0 (v:=.ref (c 12)) (by rfl) Nm.m12 rfl) Ju))⟩ Q1b))))))
      (Vy (zn (i:=2) sc__law_e_kind.nd rfl (Or.inl rfl) (je_op zc ⟨pv 2⟩ (qk (Yb ⟨Jt (Jr K) (by rfl) Nm.isi Qn (Qm (pv 0) (Qm (Y0 (v:=.ref (c 13)) (by rfl) Nm.m13 rfl) Ju))⟩ (Yb ⟨Jt (Jr K) (by rfl) Nm.isi Qn (Qm (pv 0) (Qm (Y0 (v:=.ref (c 14)) (by rfl) Nm.m14 rfl) Ju))⟩ Q1b)))))
      (Vy (js_if (PW.pt (pw_or (pt_cmpR op_ne (pe_bm PySem.F.plainAttrs_list PySem.F.slot_list_count PySem.F.type_list_count mt_countB (pv 2) (Qm pe_bl Ju)) pe_int (nomark _)) (pw_or1 (pt_not (pt_val (Jt (Jr K) (by rfl) Nm.isi Qn (Qm (pv 0) (Qm (pe_bltn (v:=.ty "ValueError") (by rfl) Nm.ve yt rfl) Ju)))))))) (jss_one (js_ret je_str)) jss_nil)
      (jss_one (js_ret (je_ix ix_list (je_op zc ⟨pv 1⟩ (qk ⟨pa_strsE ["name", "short"] [(_,_),(_,_)] rfl⟩)) ⟨pe_bm PySem.F.plainAttrs_list PySem.F.slot_list_index PySem.F.type_list_index mt_indexB (pv 2) (Qm pe_bl Ju)⟩ (fun _ _=>rfl)))))))))),?_⟩
  rcases hsp with ⟨hE0,hQ⟩ | ⟨hE0,hQ⟩
  · refine ⟨by decide,fun p1 hp1=>?_⟩
    obtain ⟨H1,e1⟩:∃ H1,upd H p1 (.lst (List.map V.str ["road", "house", "table", "deed", "letter", "stand", "plan", "book", "manner", "many", "text", "row"]))=H1:=⟨_,rfl⟩
    have hE1:H1 e=some (.ext (IsXD e (c 6) dv)):=e1 ▸ Qq hE0 hp1
    have sm1:Same H H1:=e1 ▸ Ja (fun _ _ z=>z) hp1
    have k_p1_1:H1 p1=some (.lst (List.map V.str ["road", "house", "table", "deed", "letter", "stand", "plan", "book", "manner", "many", "text", "row"])):=e1 ▸ Qb
    rw [show upd H p1 (.lst (List.map V.str ["road", "house", "table", "deed", "letter", "stand", "plan", "book", "manner", "many", "text", "row"]))=H1 from e1]
    refine ⟨_,rfl,e,_,_,_,_,true,rfl,rfl,hE1,T6.xc,T6.k 6 (by decide) (by decide),?_⟩
    refine ⟨_,rfl,e,_,_,_,_,false,rfl,rfl,hE1,T6.xc,T6.k 2 (by decide) (by decide),?_⟩
    refine ⟨_,rfl,e,_,_,_,_,false,rfl,rfl,hE1,T6.xc,T6.k 1 (by decide) (by decide),?_⟩
    refine ⟨by decide,fun p2 hp2=>?_⟩
    obtain ⟨H2,e2⟩:∃ H2,upd H1 p2 (.lst [.bl true,.bl false,.bl false])=H2:=⟨_,rfl⟩
    have hE2:H2 e=some (.ext (IsXD e (c 6) dv)):=e2 ▸ Qq hE1 hp2
    have sm2:Same H H2:=e2 ▸ Ja sm1 hp2
    have k_p2_2:H2 p2=some (.lst [.bl true,.bl false,.bl false]):=e2 ▸ Qb
    have k_p1_2:H2 p1=some (.lst (List.map V.str ["road", "house", "table", "deed", "letter", "stand", "plan", "book", "manner", "many", "text", "row"])):=e2 ▸ Qq k_p1_1 hp2
    rw [show upd H1 p2 (.lst (_))=H2 from e2]
    refine ⟨_,rfl,?_⟩
    refine ⟨_,rfl,e,_,_,_,_,false,rfl,rfl,hE2,T6.xc,T6.k 3 (by decide) (by decide),?_⟩
    refine ⟨_,rfl,e,_,_,_,_,false,rfl,rfl,hE2,T6.xc,T6.k 4 (by decide) (by decide),?_⟩
    refine ⟨_,rfl,e,_,_,_,_,false,rfl,rfl,hE2,T6.xc,T6.k 5 (by decide) (by decide),?_⟩
    refine ⟨by decide,fun p3 hp3=>?_⟩
    obtain ⟨H3,e3⟩:∃ H3,upd H2 p3 (.lst [.bl false,.bl false,.bl false])=H3:=⟨_,rfl⟩
    have hE3:H3 e=some (.ext (IsXD e (c 6) dv)):=e3 ▸ Qq hE2 hp3
    have sm3:Same H H3:=e3 ▸ Ja sm2 hp3
    have k_p3_3:H3 p3=some (.lst [.bl false,.bl false,.bl false]):=e3 ▸ Qb
    have k_p1_3:H3 p1=some (.lst (List.map V.str ["road", "house", "table", "deed", "letter", "stand", "plan", "book", "manner", "many", "text", "row"])):=e3 ▸ Qq k_p1_2 hp3
    have k_p2_3:H3 p2=some (.lst [.bl true,.bl false,.bl false]):=e3 ▸ Qq k_p2_2 hp3
    rw [show upd H2 p3 (.lst (_))=H3 from e3]
    refine ⟨_,_,_,_,rfl,rfl,k_p2_3,k_p3_3,by decide,fun p4 hp4=>?_⟩
    obtain ⟨H4,e4⟩:∃ H4,upd H3 p4 (.lst [.bl true,.bl false,.bl false,.bl false,.bl false,.bl false])=H4:=⟨_,rfl⟩
    have hE4:H4 e=some (.ext (IsXD e (c 6) dv)):=e4 ▸ Qq hE3 hp4
    have sm4:Same H H4:=e4 ▸ Ja sm3 hp4
    have k_p4_4:H4 p4=some (.lst [.bl true,.bl false,.bl false,.bl false,.bl false,.bl false]):=e4 ▸ Qb
    have k_p1_4:H4 p1=some (.lst (List.map V.str ["road", "house", "table", "deed", "letter", "stand", "plan", "book", "manner", "many", "text", "row"])):=e4 ▸ Qq k_p1_3 hp4
    have k_p2_4:H4 p2=some (.lst [.bl true,.bl false,.bl false]):=e4 ▸ Qq k_p2_3 hp4
    rw [show upd H3 p4 (.lst ([.bl true,.bl false,.bl false] ++ [.bl false,.bl false,.bl false]))=H4 from e4]
    refine ⟨_,rfl,?_⟩
    refine ⟨_,rfl,e,_,_,_,_,false,rfl,rfl,hE4,T6.xc,T6.k 7 (by decide) (by decide),?_⟩
    refine ⟨_,rfl,e,_,_,_,_,false,rfl,rfl,hE4,T6.xc,T6.k 8 (by decide) (by decide),?_⟩
    refine ⟨_,rfl,e,_,_,_,_,false,rfl,rfl,hE4,T6.xc,T6.k 9 (by decide) (by decide),?_⟩
    refine ⟨by decide,fun p5 hp5=>?_⟩
    obtain ⟨H5,e5⟩:∃ H5,upd H4 p5 (.lst [.bl false,.bl false,.bl false])=H5:=⟨_,rfl⟩
    have hE5:H5 e=some (.ext (IsXD e (c 6) dv)):=e5 ▸ Qq hE4 hp5
    have sm5:Same H H5:=e5 ▸ Ja sm4 hp5
    have k_p5_5:H5 p5=some (.lst [.bl false,.bl false,.bl false]):=e5 ▸ Qb
    have k_p1_5:H5 p1=some (.lst (List.map V.str ["road", "house", "table", "deed", "letter", "stand", "plan", "book", "manner", "many", "text", "row"])):=e5 ▸ Qq k_p1_4 hp5
    have k_p4_5:H5 p4=some (.lst [.bl true,.bl false,.bl false,.bl false,.bl false,.bl false]):=e5 ▸ Qq k_p4_4 hp5
    rw [show upd H4 p5 (.lst (_))=H5 from e5]
    refine ⟨_,_,_,_,rfl,rfl,k_p4_5,k_p5_5,by decide,fun p6 hp6=>?_⟩
    obtain ⟨H6,e6⟩:∃ H6,upd H5 p6 (.lst [.bl true,.bl false,.bl false,.bl false,.bl false,.bl false,.bl false,.bl false,.bl false])=H6:=⟨_,rfl⟩
    have hE6:H6 e=some (.ext (IsXD e (c 6) dv)):=e6 ▸ Qq hE5 hp6
    have sm6:Same H H6:=e6 ▸ Ja sm5 hp6
    have k_p6_6:H6 p6=some (.lst [.bl true,.bl false,.bl false,.bl false,.bl false,.bl false,.bl false,.bl false,.bl false]):=e6 ▸ Qb
    have k_p1_6:H6 p1=some (.lst (List.map V.str ["road", "house", "table", "deed", "letter", "stand", "plan", "book", "manner", "many", "text", "row"])):=e6 ▸ Qq k_p1_5 hp6
    have k_p4_6:H6 p4=some (.lst [.bl true,.bl false,.bl false,.bl false,.bl false,.bl false]):=e6 ▸ Qq k_p4_5 hp6
    rw [show upd H5 p6 (.lst ([.bl true,.bl false,.bl false,.bl false,.bl false,.bl false] ++ [.bl false,.bl false,.bl false]))=H6 from e6]
    refine ⟨_,rfl,?_⟩
    refine ⟨_,rfl,e,_,_,_,_,false,rfl,rfl,hE6,T6.xc,T6.k 10 (by decide) (by decide),?_⟩
    refine ⟨_,rfl,e,_,_,_,_,false,rfl,rfl,hE6,T6.xc,T6.k 11 (by decide) (by decide),?_⟩
    refine ⟨_,rfl,e,_,_,_,_,false,rfl,rfl,hE6,T6.xc,T6.k 12 (by decide) (by decide),?_⟩
    refine ⟨by decide,fun p7 hp7=>?_⟩
    obtain ⟨H7,e7⟩:∃ H7,upd H6 p7 (.lst [.bl false,.bl false,.bl false])=H7:=⟨_,rfl⟩
    have hE7:H7 e=some (.ext (IsXD e (c 6) dv)):=e7 ▸ Qq hE6 hp7
    have sm7:Same H H7:=e7 ▸ Ja sm6 hp7
    have k_p7_7:H7 p7=some (.lst [.bl false,.bl false,.bl false]):=e7 ▸ Qb
    have k_p1_7:H7 p1=some (.lst (List.map V.str ["road", "house", "table", "deed", "letter", "stand", "plan", "book", "manner", "many", "text", "row"])):=e7 ▸ Qq k_p1_6 hp7
    have k_p6_7:H7 p6=some (.lst [.bl true,.bl false,.bl false,.bl false,.bl false,.bl false,.bl false,.bl false,.bl false]):=e7 ▸ Qq k_p6_6 hp7
    rw [show upd H6 p7 (.lst (_))=H7 from e7]
    refine ⟨_,_,_,_,rfl,rfl,k_p6_7,k_p7_7,by decide,fun p8 hp8=>?_⟩
    obtain ⟨H8,e8⟩:∃ H8,upd H7 p8 (.lst [.bl true,.bl false,.bl false,.bl false,.bl false,.bl false,.bl false,.bl false,.bl false,.bl false,.bl false,.bl false])=H8:=⟨_,rfl⟩
    have hE8:H8 e=some (.ext (IsXD e (c 6) dv)):=e8 ▸ Qq hE7 hp8
    have sm8:Same H H8:=e8 ▸ Ja sm7 hp8
    have k_p8_8:H8 p8=some (.lst [.bl true,.bl false,.bl false,.bl false,.bl false,.bl false,.bl false,.bl false,.bl false,.bl false,.bl false,.bl false]):=e8 ▸ Qb
    have k_p1_8:H8 p1=some (.lst (List.map V.str ["road", "house", "table", "deed", "letter", "stand", "plan", "book", "manner", "many", "text", "row"])):=e8 ▸ Qq k_p1_7 hp8
    have k_p6_8:H8 p6=some (.lst [.bl true,.bl false,.bl false,.bl false,.bl false,.bl false,.bl false,.bl false,.bl false]):=e8 ▸ Qq k_p6_7 hp8
    rw [show upd H7 p8 (.lst ([.bl true,.bl false,.bl false,.bl false,.bl false,.bl false,.bl false,.bl false,.bl false] ++ [.bl false,.bl false,.bl false]))=H8 from e8]
    refine ⟨_,rfl,?_⟩
    refine ⟨_,rfl,e,_,_,_,_,false,rfl,rfl,hE8,T6.xc,T6.k 13 (by decide) (by decide),?_⟩
    refine ⟨_,rfl,e,_,_,_,_,false,rfl,rfl,hE8,T6.xc,T6.k 14 (by decide) (by decide),?_⟩
    refine ⟨by decide,fun p9 hp9=>?_⟩
    obtain ⟨H9,e9⟩:∃ H9,upd H8 p9 (.lst [.bl false,.bl false])=H9:=⟨_,rfl⟩
    have hE9:H9 e=some (.ext (IsXD e (c 6) dv)):=e9 ▸ Qq hE8 hp9
    have sm9:Same H H9:=e9 ▸ Ja sm8 hp9
    have k_p9_9:H9 p9=some (.lst [.bl false,.bl false]):=e9 ▸ Qb
    have k_p1_9:H9 p1=some (.lst (List.map V.str ["road", "house", "table", "deed", "letter", "stand", "plan", "book", "manner", "many", "text", "row"])):=e9 ▸ Qq k_p1_8 hp9
    have k_p8_9:H9 p8=some (.lst [.bl true,.bl false,.bl false,.bl false,.bl false,.bl false,.bl false,.bl false,.bl false,.bl false,.bl false,.bl false]):=e9 ▸ Qq k_p8_8 hp9
    rw [show upd H8 p9 (.lst (_))=H9 from e9]
    refine ⟨_,_,_,_,rfl,rfl,k_p8_9,k_p9_9,by decide,fun p10 hp10=>?_⟩
    obtain ⟨H10,e10⟩:∃ H10,upd H9 p10 (.lst [.bl true,.bl false,.bl false,.bl false,.bl false,.bl false,.bl false,.bl false,.bl false,.bl false,.bl false,.bl false,.bl false,.bl false])=H10:=⟨_,rfl⟩
    have hE10:H10 e=some (.ext (IsXD e (c 6) dv)):=e10 ▸ Qq hE9 hp10
    have sm10:Same H H10:=e10 ▸ Ja sm9 hp10
    have k_p10_10:H10 p10=some (.lst [.bl true,.bl false,.bl false,.bl false,.bl false,.bl false,.bl false,.bl false,.bl false,.bl false,.bl false,.bl false,.bl false,.bl false]):=e10 ▸ Qb
    have k_p1_10:H10 p1=some (.lst (List.map V.str ["road", "house", "table", "deed", "letter", "stand", "plan", "book", "manner", "many", "text", "row"])):=e10 ▸ Qq k_p1_9 hp10
    have k_p8_10:H10 p8=some (.lst [.bl true,.bl false,.bl false,.bl false,.bl false,.bl false,.bl false,.bl false,.bl false,.bl false,.bl false,.bl false]):=e10 ▸ Qq k_p8_9 hp10
    rw [show upd H9 p10 (.lst ([.bl true,.bl false,.bl false,.bl false,.bl false,.bl false,.bl false,.bl false,.bl false,.bl false,.bl false,.bl false] ++ [.bl false,.bl false]))=H10 from e10]
    refine ⟨_,rfl,.inl ⟨rfl,_,.inl (.inl k_p10_10)⟩,_,[true,false,false,false,false,false,false,false,false,false,false,false,false,false],rfl,rfl,k_p10_10,rfl,_,rfl,iteF ?_⟩
    refine ⟨_,rfl,e,_,_,_,_,true,rfl,rfl,hE10,T6.xc,T6.ve,_,rfl,iteF ?_⟩
    refine ⟨_,rfl,?_⟩
    refine ⟨by decide,fun p11 hp11=>?_⟩
    obtain ⟨H11,e11⟩:∃ H11,upd H10 p11 (.lst (List.map V.str ["name", "short"]))=H11:=⟨_,rfl⟩
    have hE11:H11 e=some (.ext (IsXD e (c 6) dv)):=e11 ▸ Qq hE10 hp11
    have sm11:Same H H11:=e11 ▸ Ja sm10 hp11
    have k_p11_11:H11 p11=some (.lst (List.map V.str ["name", "short"])):=e11 ▸ Qb
    have k_p1_11:H11 p1=some (.lst (List.map V.str ["road", "house", "table", "deed", "letter", "stand", "plan", "book", "manner", "many", "text", "row"])):=e11 ▸ Qq k_p1_10 hp11
    have k_p10_11:H11 p10=some (.lst [.bl true,.bl false,.bl false,.bl false,.bl false,.bl false,.bl false,.bl false,.bl false,.bl false,.bl false,.bl false,.bl false,.bl false]):=e11 ▸ Qq k_p10_10 hp11
    rw [show upd H10 p11 (.lst (List.map V.str ["name", "short"]))=H11 from e11]
    refine ⟨_,_,_,_,rfl,rfl,k_p1_11,k_p11_11,by decide,fun p12 hp12=>?_⟩
    obtain ⟨H12,e12⟩:∃ H12,upd H11 p12 (.lst (List.map V.str ["road", "house", "table", "deed", "letter", "stand", "plan", "book", "manner", "many", "text", "row"] ++ List.map V.str ["name", "short"]))=H12:=⟨_,rfl⟩
    have hE12:H12 e=some (.ext (IsXD e (c 6) dv)):=e12 ▸ Qq hE11 hp12
    have sm12:Same H H12:=e12 ▸ Ja sm11 hp12
    have k_p12_12:H12 p12=some (.lst (List.map V.str ["road", "house", "table", "deed", "letter", "stand", "plan", "book", "manner", "many", "text", "row"] ++ List.map V.str ["name", "short"])):=e12 ▸ Qb
    have k_p1_12:H12 p1=some (.lst (List.map V.str ["road", "house", "table", "deed", "letter", "stand", "plan", "book", "manner", "many", "text", "row"])):=e12 ▸ Qq k_p1_11 hp12
    have k_p10_12:H12 p10=some (.lst [.bl true,.bl false,.bl false,.bl false,.bl false,.bl false,.bl false,.bl false,.bl false,.bl false,.bl false,.bl false,.bl false,.bl false]):=e12 ▸ Qq k_p10_11 hp12
    have k_p11_12:H12 p11=some (.lst (List.map V.str ["name", "short"])):=e12 ▸ Qq k_p11_11 hp12
    rw [show upd H11 p12 (.lst (List.map V.str ["road", "house", "table", "deed", "letter", "stand", "plan", "book", "manner", "many", "text", "row"] ++ List.map V.str ["name", "short"]))=H12 from e12]
    refine ⟨_,rfl,.inl ⟨rfl,_,.inl (.inl k_p10_12)⟩,_,[true,false,false,false,false,false,false,false,false,false,false,false,false,false],0,rfl,rfl,k_p10_12,by decide,rfl,noB _ _ (by decide) (by decide),?_⟩
    refine ⟨_,_,_,_,rfl,rfl,.inl (.inl k_p12_12),rfl,?_⟩
    exact hQ _ sm12
  · refine ⟨by decide,fun p1 hp1=>?_⟩
    obtain ⟨H1,e1⟩:∃ H1,upd H p1 (.lst (List.map V.str ["road", "house", "table", "deed", "letter", "stand", "plan", "book", "manner", "many", "text", "row"]))=H1:=⟨_,rfl⟩
    have hE1:H1 e=some (.ext (IsXD e (c 2) dv)):=e1 ▸ Qq hE0 hp1
    have sm1:Same H H1:=e1 ▸ Ja (fun _ _ z=>z) hp1
    have k_p1_1:H1 p1=some (.lst (List.map V.str ["road", "house", "table", "deed", "letter", "stand", "plan", "book", "manner", "many", "text", "row"])):=e1 ▸ Qb
    rw [show upd H p1 (.lst (List.map V.str ["road", "house", "table", "deed", "letter", "stand", "plan", "book", "manner", "many", "text", "row"]))=H1 from e1]
    refine ⟨_,rfl,e,_,_,_,_,false,rfl,rfl,hE1,T2.xc,T2.k 6 (by decide) (by decide),?_⟩
    refine ⟨_,rfl,e,_,_,_,_,true,rfl,rfl,hE1,T2.xc,T2.k 2 (by decide) (by decide),?_⟩
    refine ⟨_,rfl,e,_,_,_,_,false,rfl,rfl,hE1,T2.xc,T2.k 1 (by decide) (by decide),?_⟩
    refine ⟨by decide,fun p2 hp2=>?_⟩
    obtain ⟨H2,e2⟩:∃ H2,upd H1 p2 (.lst [.bl false,.bl true,.bl false])=H2:=⟨_,rfl⟩
    have hE2:H2 e=some (.ext (IsXD e (c 2) dv)):=e2 ▸ Qq hE1 hp2
    have sm2:Same H H2:=e2 ▸ Ja sm1 hp2
    have k_p2_2:H2 p2=some (.lst [.bl false,.bl true,.bl false]):=e2 ▸ Qb
    have k_p1_2:H2 p1=some (.lst (List.map V.str ["road", "house", "table", "deed", "letter", "stand", "plan", "book", "manner", "many", "text", "row"])):=e2 ▸ Qq k_p1_1 hp2
    rw [show upd H1 p2 (.lst (_))=H2 from e2]
    refine ⟨_,rfl,?_⟩
    refine ⟨_,rfl,e,_,_,_,_,false,rfl,rfl,hE2,T2.xc,T2.k 3 (by decide) (by decide),?_⟩
    refine ⟨_,rfl,e,_,_,_,_,false,rfl,rfl,hE2,T2.xc,T2.k 4 (by decide) (by decide),?_⟩
    refine ⟨_,rfl,e,_,_,_,_,false,rfl,rfl,hE2,T2.xc,T2.k 5 (by decide) (by decide),?_⟩
    refine ⟨by decide,fun p3 hp3=>?_⟩
    obtain ⟨H3,e3⟩:∃ H3,upd H2 p3 (.lst [.bl false,.bl false,.bl false])=H3:=⟨_,rfl⟩
    have hE3:H3 e=some (.ext (IsXD e (c 2) dv)):=e3 ▸ Qq hE2 hp3
    have sm3:Same H H3:=e3 ▸ Ja sm2 hp3
    have k_p3_3:H3 p3=some (.lst [.bl false,.bl false,.bl false]):=e3 ▸ Qb
    have k_p1_3:H3 p1=some (.lst (List.map V.str ["road", "house", "table", "deed", "letter", "stand", "plan", "book", "manner", "many", "text", "row"])):=e3 ▸ Qq k_p1_2 hp3
    have k_p2_3:H3 p2=some (.lst [.bl false,.bl true,.bl false]):=e3 ▸ Qq k_p2_2 hp3
    rw [show upd H2 p3 (.lst (_))=H3 from e3]
    refine ⟨_,_,_,_,rfl,rfl,k_p2_3,k_p3_3,by decide,fun p4 hp4=>?_⟩
    obtain ⟨H4,e4⟩:∃ H4,upd H3 p4 (.lst [.bl false,.bl true,.bl false,.bl false,.bl false,.bl false])=H4:=⟨_,rfl⟩
    have hE4:H4 e=some (.ext (IsXD e (c 2) dv)):=e4 ▸ Qq hE3 hp4
    have sm4:Same H H4:=e4 ▸ Ja sm3 hp4
    have k_p4_4:H4 p4=some (.lst [.bl false,.bl true,.bl false,.bl false,.bl false,.bl false]):=e4 ▸ Qb
    have k_p1_4:H4 p1=some (.lst (List.map V.str ["road", "house", "table", "deed", "letter", "stand", "plan", "book", "manner", "many", "text", "row"])):=e4 ▸ Qq k_p1_3 hp4
    have k_p2_4:H4 p2=some (.lst [.bl false,.bl true,.bl false]):=e4 ▸ Qq k_p2_3 hp4
    rw [show upd H3 p4 (.lst ([.bl false,.bl true,.bl false] ++ [.bl false,.bl false,.bl false]))=H4 from e4]
    refine ⟨_,rfl,?_⟩
    refine ⟨_,rfl,e,_,_,_,_,false,rfl,rfl,hE4,T2.xc,T2.k 7 (by decide) (by decide),?_⟩
    refine ⟨_,rfl,e,_,_,_,_,false,rfl,rfl,hE4,T2.xc,T2.k 8 (by decide) (by decide),?_⟩
    refine ⟨_,rfl,e,_,_,_,_,false,rfl,rfl,hE4,T2.xc,T2.k 9 (by decide) (by decide),?_⟩
    refine ⟨by decide,fun p5 hp5=>?_⟩
    obtain ⟨H5,e5⟩:∃ H5,upd H4 p5 (.lst [.bl false,.bl false,.bl false])=H5:=⟨_,rfl⟩
    have hE5:H5 e=some (.ext (IsXD e (c 2) dv)):=e5 ▸ Qq hE4 hp5
    have sm5:Same H H5:=e5 ▸ Ja sm4 hp5
    have k_p5_5:H5 p5=some (.lst [.bl false,.bl false,.bl false]):=e5 ▸ Qb
    have k_p1_5:H5 p1=some (.lst (List.map V.str ["road", "house", "table", "deed", "letter", "stand", "plan", "book", "manner", "many", "text", "row"])):=e5 ▸ Qq k_p1_4 hp5
    have k_p4_5:H5 p4=some (.lst [.bl false,.bl true,.bl false,.bl false,.bl false,.bl false]):=e5 ▸ Qq k_p4_4 hp5
    rw [show upd H4 p5 (.lst (_))=H5 from e5]
    refine ⟨_,_,_,_,rfl,rfl,k_p4_5,k_p5_5,by decide,fun p6 hp6=>?_⟩
    obtain ⟨H6,e6⟩:∃ H6,upd H5 p6 (.lst [.bl false,.bl true,.bl false,.bl false,.bl false,.bl false,.bl false,.bl false,.bl false])=H6:=⟨_,rfl⟩
    have hE6:H6 e=some (.ext (IsXD e (c 2) dv)):=e6 ▸ Qq hE5 hp6
    have sm6:Same H H6:=e6 ▸ Ja sm5 hp6
    have k_p6_6:H6 p6=some (.lst [.bl false,.bl true,.bl false,.bl false,.bl false,.bl false,.bl false,.bl false,.bl false]):=e6 ▸ Qb
    have k_p1_6:H6 p1=some (.lst (List.map V.str ["road", "house", "table", "deed", "letter", "stand", "plan", "book", "manner", "many", "text", "row"])):=e6 ▸ Qq k_p1_5 hp6
    have k_p4_6:H6 p4=some (.lst [.bl false,.bl true,.bl false,.bl false,.bl false,.bl false]):=e6 ▸ Qq k_p4_5 hp6
    rw [show upd H5 p6 (.lst ([.bl false,.bl true,.bl false,.bl false,.bl false,.bl false] ++ [.bl false,.bl false,.bl false]))=H6 from e6]
    refine ⟨_,rfl,?_⟩
    refine ⟨_,rfl,e,_,_,_,_,false,rfl,rfl,hE6,T2.xc,T2.k 10 (by decide) (by decide),?_⟩
    refine ⟨_,rfl,e,_,_,_,_,false,rfl,rfl,hE6,T2.xc,T2.k 11 (by decide) (by decide),?_⟩
    refine ⟨_,rfl,e,_,_,_,_,false,rfl,rfl,hE6,T2.xc,T2.k 12 (by decide) (by decide),?_⟩
    refine ⟨by decide,fun p7 hp7=>?_⟩
    obtain ⟨H7,e7⟩:∃ H7,upd H6 p7 (.lst [.bl false,.bl false,.bl false])=H7:=⟨_,rfl⟩
    have hE7:H7 e=some (.ext (IsXD e (c 2) dv)):=e7 ▸ Qq hE6 hp7
    have sm7:Same H H7:=e7 ▸ Ja sm6 hp7
    have k_p7_7:H7 p7=some (.lst [.bl false,.bl false,.bl false]):=e7 ▸ Qb
    have k_p1_7:H7 p1=some (.lst (List.map V.str ["road", "house", "table", "deed", "letter", "stand", "plan", "book", "manner", "many", "text", "row"])):=e7 ▸ Qq k_p1_6 hp7
    have k_p6_7:H7 p6=some (.lst [.bl false,.bl true,.bl false,.bl false,.bl false,.bl false,.bl false,.bl false,.bl false]):=e7 ▸ Qq k_p6_6 hp7
    rw [show upd H6 p7 (.lst (_))=H7 from e7]
    refine ⟨_,_,_,_,rfl,rfl,k_p6_7,k_p7_7,by decide,fun p8 hp8=>?_⟩
    obtain ⟨H8,e8⟩:∃ H8,upd H7 p8 (.lst [.bl false,.bl true,.bl false,.bl false,.bl false,.bl false,.bl false,.bl false,.bl false,.bl false,.bl false,.bl false])=H8:=⟨_,rfl⟩
    have hE8:H8 e=some (.ext (IsXD e (c 2) dv)):=e8 ▸ Qq hE7 hp8
    have sm8:Same H H8:=e8 ▸ Ja sm7 hp8
    have k_p8_8:H8 p8=some (.lst [.bl false,.bl true,.bl false,.bl false,.bl false,.bl false,.bl false,.bl false,.bl false,.bl false,.bl false,.bl false]):=e8 ▸ Qb
    have k_p1_8:H8 p1=some (.lst (List.map V.str ["road", "house", "table", "deed", "letter", "stand", "plan", "book", "manner", "many", "text", "row"])):=e8 ▸ Qq k_p1_7 hp8
    have k_p6_8:H8 p6=some (.lst [.bl false,.bl true,.bl false,.bl false,.bl false,.bl false,.bl false,.bl false,.bl false]):=e8 ▸ Qq k_p6_7 hp8
    rw [show upd H7 p8 (.lst ([.bl false,.bl true,.bl false,.bl false,.bl false,.bl false,.bl false,.bl false,.bl false] ++ [.bl false,.bl false,.bl false]))=H8 from e8]
    refine ⟨_,rfl,?_⟩
    refine ⟨_,rfl,e,_,_,_,_,false,rfl,rfl,hE8,T2.xc,T2.k 13 (by decide) (by decide),?_⟩
    refine ⟨_,rfl,e,_,_,_,_,false,rfl,rfl,hE8,T2.xc,T2.k 14 (by decide) (by decide),?_⟩
    refine ⟨by decide,fun p9 hp9=>?_⟩
    obtain ⟨H9,e9⟩:∃ H9,upd H8 p9 (.lst [.bl false,.bl false])=H9:=⟨_,rfl⟩
    have hE9:H9 e=some (.ext (IsXD e (c 2) dv)):=e9 ▸ Qq hE8 hp9
    have sm9:Same H H9:=e9 ▸ Ja sm8 hp9
    have k_p9_9:H9 p9=some (.lst [.bl false,.bl false]):=e9 ▸ Qb
    have k_p1_9:H9 p1=some (.lst (List.map V.str ["road", "house", "table", "deed", "letter", "stand", "plan", "book", "manner", "many", "text", "row"])):=e9 ▸ Qq k_p1_8 hp9
    have k_p8_9:H9 p8=some (.lst [.bl false,.bl true,.bl false,.bl false,.bl false,.bl false,.bl false,.bl false,.bl false,.bl false,.bl false,.bl false]):=e9 ▸ Qq k_p8_8 hp9
    rw [show upd H8 p9 (.lst (_))=H9 from e9]
    refine ⟨_,_,_,_,rfl,rfl,k_p8_9,k_p9_9,by decide,fun p10 hp10=>?_⟩
    obtain ⟨H10,e10⟩:∃ H10,upd H9 p10 (.lst [.bl false,.bl true,.bl false,.bl false,.bl false,.bl false,.bl false,.bl false,.bl false,.bl false,.bl false,.bl false,.bl false,.bl false])=H10:=⟨_,rfl⟩
    have hE10:H10 e=some (.ext (IsXD e (c 2) dv)):=e10 ▸ Qq hE9 hp10
    have sm10:Same H H10:=e10 ▸ Ja sm9 hp10
    have k_p10_10:H10 p10=some (.lst [.bl false,.bl true,.bl false,.bl false,.bl false,.bl false,.bl false,.bl false,.bl false,.bl false,.bl false,.bl false,.bl false,.bl false]):=e10 ▸ Qb
    have k_p1_10:H10 p1=some (.lst (List.map V.str ["road", "house", "table", "deed", "letter", "stand", "plan", "book", "manner", "many", "text", "row"])):=e10 ▸ Qq k_p1_9 hp10
    have k_p8_10:H10 p8=some (.lst [.bl false,.bl true,.bl false,.bl false,.bl false,.bl false,.bl false,.bl false,.bl false,.bl false,.bl false,.bl false]):=e10 ▸ Qq k_p8_9 hp10
    rw [show upd H9 p10 (.lst ([.bl false,.bl true,.bl false,.bl false,.bl false,.bl false,.bl false,.bl false,.bl false,.bl false,.bl false,.bl false] ++ [.bl false,.bl false]))=H10 from e10]
    refine ⟨_,rfl,.inl ⟨rfl,_,.inl (.inl k_p10_10)⟩,_,[false,true,false,false,false,false,false,false,false,false,false,false,false,false],rfl,rfl,k_p10_10,rfl,_,rfl,iteF ?_⟩
    refine ⟨_,rfl,e,_,_,_,_,true,rfl,rfl,hE10,T2.xc,T2.ve,_,rfl,iteF ?_⟩
    refine ⟨_,rfl,?_⟩
    refine ⟨by decide,fun p11 hp11=>?_⟩
    obtain ⟨H11,e11⟩:∃ H11,upd H10 p11 (.lst (List.map V.str ["name", "short"]))=H11:=⟨_,rfl⟩
    have hE11:H11 e=some (.ext (IsXD e (c 2) dv)):=e11 ▸ Qq hE10 hp11
    have sm11:Same H H11:=e11 ▸ Ja sm10 hp11
    have k_p11_11:H11 p11=some (.lst (List.map V.str ["name", "short"])):=e11 ▸ Qb
    have k_p1_11:H11 p1=some (.lst (List.map V.str ["road", "house", "table", "deed", "letter", "stand", "plan", "book", "manner", "many", "text", "row"])):=e11 ▸ Qq k_p1_10 hp11
    have k_p10_11:H11 p10=some (.lst [.bl false,.bl true,.bl false,.bl false,.bl false,.bl false,.bl false,.bl false,.bl false,.bl false,.bl false,.bl false,.bl false,.bl false]):=e11 ▸ Qq k_p10_10 hp11
    rw [show upd H10 p11 (.lst (List.map V.str ["name", "short"]))=H11 from e11]
    refine ⟨_,_,_,_,rfl,rfl,k_p1_11,k_p11_11,by decide,fun p12 hp12=>?_⟩
    obtain ⟨H12,e12⟩:∃ H12,upd H11 p12 (.lst (List.map V.str ["road", "house", "table", "deed", "letter", "stand", "plan", "book", "manner", "many", "text", "row"] ++ List.map V.str ["name", "short"]))=H12:=⟨_,rfl⟩
    have hE12:H12 e=some (.ext (IsXD e (c 2) dv)):=e12 ▸ Qq hE11 hp12
    have sm12:Same H H12:=e12 ▸ Ja sm11 hp12
    have k_p12_12:H12 p12=some (.lst (List.map V.str ["road", "house", "table", "deed", "letter", "stand", "plan", "book", "manner", "many", "text", "row"] ++ List.map V.str ["name", "short"])):=e12 ▸ Qb
    have k_p1_12:H12 p1=some (.lst (List.map V.str ["road", "house", "table", "deed", "letter", "stand", "plan", "book", "manner", "many", "text", "row"])):=e12 ▸ Qq k_p1_11 hp12
    have k_p10_12:H12 p10=some (.lst [.bl false,.bl true,.bl false,.bl false,.bl false,.bl false,.bl false,.bl false,.bl false,.bl false,.bl false,.bl false,.bl false,.bl false]):=e12 ▸ Qq k_p10_11 hp12
    have k_p11_12:H12 p11=some (.lst (List.map V.str ["name", "short"])):=e12 ▸ Qq k_p11_11 hp12
    rw [show upd H11 p12 (.lst (List.map V.str ["road", "house", "table", "deed", "letter", "stand", "plan", "book", "manner", "many", "text", "row"] ++ List.map V.str ["name", "short"]))=H12 from e12]
    refine ⟨_,rfl,.inl ⟨rfl,_,.inl (.inl k_p10_12)⟩,_,[false,true,false,false,false,false,false,false,false,false,false,false,false,false],1,rfl,rfl,k_p10_12,by decide,rfl,noB _ _ (by decide) (by decide),?_⟩
    refine ⟨_,_,_,_,rfl,rfl,.inl (.inl k_p12_12),rfl,?_⟩
    exact hQ _ sm12
def J0:FN:=fun ps st=>match Zp ps st with
  | .ok v st1=>.ok (.str "") st1
  | .exc x st1=>if x.cls = "NoRoad" then .ok (.str "road") st1 else if x.cls = "NoHouse" then .ok (.str "house") st1 else .stuck
  | .stuck=>.stuck
theorem sc__law_e_word:FnScope ["way_v", "n", "roads", "house", "caught", "e"] ["way_v", "n", "roads", "house"] (Q6 Y5):=⟨rfl,rfl,rfl,by decide +kernel,rfl,by decide +kernel,by decide +kernel⟩
theorem Q0v {f:Addr} {fd:FuncData} {c:Nat->Addr} (F:Fun K "_law_e_word" "_law_e_word" Y5 f fd) (T:Txt mg) (Nm:Nms mg c) (T6:TgtS K c 6) (T2:TgtS K c 2) (D__law_e_door:DefS P w K mg base 8 "_law_e_door" 4 Zp) (D__law_e_kind:DefX P w K mg base 1 "_law_e_kind" ["caught"] (spKd c)):FnOk P w K mg base (CXD P w) 9 f fd ["way_v", "n", "roads", "house"] (spF mg 4 J0):=by
  obtain ⟨fR,fdR,psR,FR,mR,kR,bR,lR⟩:=D__law_e_door.ex
  obtain ⟨fX,fdX,FX,mX,kX,bX⟩:=D__law_e_kind.ex
  refine Fun.okD (k:=8) F sc__law_e_word (fun vs H Q E h=>h.1) fun cdv A outer s H vs Q E hr hsp=>?_
  obtain ⟨hl,ρ,st0,pvs,R,rl,hA⟩:=hsp
  refine ⟨_,Xk (ps_set (i:=4) sc__law_e_word.nd rfl (Or.inl rfl) pe_non)
      (Xk (ps_tryEDa FR (hr.mono (by decide)) mR kR bR (Qm (pv 0) (Qm (pv 1) (Qm (pv 2) (Qm (pv 3) Ju)))) sc__law_e_word.nd (i:=5) rfl rfl (fun e=>jb (ps_set (i:=4) sc__law_e_word.nd rfl (Or.inl rfl) (pv 5))) Nm.m0)
      (Xk (ps_if (pt_cmpR op_isN (pv 4) pe_non (nomark _)) (jb (ps_ret pe_str)) pss_nil)
      (jb (ps_ret (pe_call (x := "_law_e_kind") (E:=E) FX (hr.mono (by decide)) (by rfl) mX kX bX .nil Qd (Qm (pv 4) Ju)))))),?_⟩
  match vs,hl with
  | [v0,v1,v2,v3],hl=>
  refine ⟨_,rfl,_,rfl,_,rfl,_,rfl,  rfl,ρ,st0,pvs,R,rl,?_⟩
  unfold J0 at hA
  cases hr:Zp pvs st0 with
  | ok a st1=>
    rw [hr] at hA
    exact fun H1 ρ1 x1 R1 v r=>⟨_,rfl,rfl,_,rfl,iteT (hA H1 ρ1 x1 R1 _ rfl)⟩
  | stuck=>
    rw [hr] at hA; exact hA.elim
  | exc x st1=>
    rw [hr] at hA
    dsimp only at hA
    by_cases hx6:x.cls = "NoRoad"
    · rw [if_pos hx6] at hA
      intro C dv H1 ρ1 hm x1 R1 fs
      rw [hx6,Nm.m6] at hm
      cases hm
      refine ⟨_,rfl,T6.ex,fun e he=>?_⟩
      have x2:Ext H1 ρ1 (upd H1 e (.ext (IsXD e (c 6) dv))) ρ1:=Ext.add he
      have R2:=R1.add (o:=.ext (IsXD e (c 6) dv)) he
      refine ⟨_,rfl,_,rfl,rfl,_,rfl,iteF ?_⟩
      refine ⟨_,rfl,e,dv,rfl,.inl ⟨Qb,fun H2 sm=>hA _ _ ((x1.trans x2).trans (Ext.same sm)) (R2.same sm) _ rfl⟩⟩
    · rw [if_neg hx6] at hA
      by_cases hx2:x.cls = "NoHouse"
      · rw [if_pos hx2] at hA
        intro C dv H1 ρ1 hm x1 R1 fs
        rw [hx2,Nm.m2] at hm
        cases hm
        refine ⟨_,rfl,T2.ex,fun e he=>?_⟩
        have x2:Ext H1 ρ1 (upd H1 e (.ext (IsXD e (c 2) dv))) ρ1:=Ext.add he
        have R2:=R1.add (o:=.ext (IsXD e (c 2) dv)) he
        refine ⟨_,rfl,_,rfl,rfl,_,rfl,iteF ?_⟩
        refine ⟨_,rfl,e,dv,rfl,.inr (⟨Qb,fun H2 sm=>hA _ _ ((x1.trans x2).trans (Ext.same sm)) (R2.same sm) _ rfl⟩)⟩
      · rw [if_neg hx2] at hA
        exact hA.elim
def xq:MS:=(Yc (tOrM (toB (mOp oNe (Qj 4 J0 (Q3 (Q4 8) (Q3 (Q4 3) (Q3 (Q4 9) (Q3 (Q4 5) Qc))))) (mC (.str "road")))) (toB (mOp oNe (Qj 4 J0 (Q3 (Q4 8) (Q3 (Q4 3) (Q3 (Q4 9) (Q3 (Q4 3) Qc))))) (mC (.str "road"))))) (Z4 (mC (.bl false))) Z5)
def xn:MS:=(Yc (toB (mOp oNe (Qj 4 J0 (Q3 (Q4 8) (Q3 (Q4 3) (Q3 (Q4 4) (Q3 (Q4 10) Qc))))) (mC (.str "house")))) (Z4 (mC (.bl false))) Z5)
def xr : MS := (Qh (Yc (toB (mOp oNe (Qj 4 J0 (Q3 (Q4 8) (Q3 (Q4 3) (Q3 (Q4 4) (Q3 (Q4 5) Qc))))) (mC (.str "")))) (Z4 (mC (.bl false))) Z5)
    (Qh (Xv (Qg 9) (Xu (Q4 7)) xq)
    (Qh (Xv (Qg 10) (Xu (U4 (Q3 (mNeg (mC (.int 1))) (Q3 (Q4 3) (Q3 (mNeg (Q4 3)) (Q3 (mOp Zg (mOp Zg (Q4 3) (mC (.int 1))) (Q4 6)) (Q3 (mOp (oI fun a b=>.int (a - b)) (mNeg (mC (.int 1))) (Q4 6)) Qc))))))) xn)
    (Yc (toB (mOp oNe (Qj 4 J0 (Q3 (Q4 8) (Q3 (Q4 3) (Q3 (Q4 4) (Q3 (Q4 5) Qc))))) (mC (.str "")))) (Z4 (mC (.bl false))) Z5))))
def Km : MS := (Qh (Yc (Q02 (toB (mOp (oI fun a b => .bl (decide (b < a))) (Q4 2) (mC (.int 1)))) (toB (mOp (oI fun a b => .bl (decide (b <= a))) (mOp oIx (Q4 1) (mC (.int 1))) (Jh Yk (Q3 (Q4 0) Qc))))) mBreak Z5)
    (Qh (Jp 3 (mOp Zg (mC (.int 1)) (Qj 2 J3 (Q3 (Q4 1) (Q3 (mC (.int 6)) Qc)))))
    (Qh (Jp 4 (Qj 3 Jy (Q3 (Q4 1) (Q3 (Q4 3) (Q3 (mC (.int 4)) Qc)))))
    (Qh (Jp 5 (Qj 2 J3 (Q3 (Q4 1) (Q3 (Q4 3) Qc))))
    (Qh (Jp 6 (Qj 2 J3 (Q3 (Q4 1) (Q3 (mOp oPow (mC (.int 10)) (mC (.int 20))) Qc))))
    (Qh (Jp 7 (U4 (Q3 (mOp Zg (Q4 4) (U4 (Q3 (Wp (Q3 (Wp (Q3 (Q4 3) (Q3 (mC (.int 0)) Qc))) Qc)) Qc))) (Q3 (mOp Zg (U4 (Q3 (Wp (Q3 (Wp (Q3 (mC (.int 0)) (Q3 (mC (.int 0)) Qc))) Qc)) Qc)) (Q4 4)) (Q3 (mOp Zg (Q4 4) (U4 (Q3 (Wp (Q3 (Wp (Q3 (mC (.int 0)) (Q3 (mNeg (mC (.int 1))) Qc))) Qc)) Qc))) (Q3 (mOp Zg (Jh Ug (Q3 (Q4 4) Qc)) (Wp (Q3 (Wp Qc) Qc))) (Q3 (mOp Zg (Q4 4) (U4 (Q3 (mC .non) Qc))) Qc)))))))
    (Qh (Jp 7 (mOp Zg (Q4 7) (U4 (Q3 (mOp Zg (Q4 4) (mOp Um (U4 (Q3 (Wp Qc) Qc)) (mC (.int 41)))) (Q3 (mC .non) (Q3 (mOp Zg (Q4 4) (U4 (Q3 (U4 Qc) Qc))) Qc))))))
    (Xv (Qg 8) (Wh (Q3 (mC (.int 5)) Qc)) xr))))))))
def m_law : MS := (Qh (Jp 1 (mTrk (y9 (Q3 (Q4 0) (Q3 (mC (.int 0)) (Q3 (mC (.int 0)) Qc))))))
    (Qh (Xv (Qg 2) (Wh (Q3 (mC (.int 4)) Qc)) Km)
    (Z4 (mC (.bl true)))))
def F_law:FN:=Qs m_law 11
theorem sc_law:FnScope ["script", "tape", "k", "n", "roads", "house", "far", "bad", "way_v", "one", "other"] ["script"] (Q6 j6):=⟨rfl,rfl,rfl,by decide +kernel,rfl,by decide +kernel,by decide +kernel⟩
theorem ok_law {f:Addr} {fd:FuncData} (F:Fun K "law" "law" j6 f fd) (T:Txt mg)  (D__law_e_digit:DefS P w K mg base 2 "_law_e_digit" 2 J3) (D__law_e_drawn_roads:DefS P w K mg base 3 "_law_e_drawn_roads" 3 Jy) (D__law_e_word:DefS P w K mg base 9 "_law_e_word" 4 J0):FnOk P w K mg base (CXD P w) 10 f fd ["script"] (spF mg 1 F_law):=by
  refine Z1 (k:=9) (m:=m_law) F sc_law rfl rfl rfl fun cdv A outer s H E hr=>?_
  exact (Qa (Jb 1 sc_law.nd (z9 (Q06 (Q2 (Q0 0) (Q2 Q8 (Q2 Q8 Q5))))))
    (Qa (Wb PassesOwn.leaving rfl (W5 rfl T.b_range (Q2 Q8 Q5)) (Qz (i:=2) sc_law.nd) (Qa (Zq (SimW.t (sw_and (Jd os_gt (Q0 2) Q8) (sw_and1 (Jd os_ge (Z9 (Q0 1) Q8) (J7 Yu rfl T.b_len PySem.boot_len (Q2 (Q0 0) Q5)))))) (Qe ss_break) Jn)
    (Qa (Jb 3 sc_law.nd (J6 Jv Q8 (Qf D__law_e_digit (hr.mono (by decide)) Qd rfl (Q2 (Q0 1) (Q2 Q8 Q5)))))
    (Qa (Jb 4 sc_law.nd (Qf D__law_e_drawn_roads (hr.mono (by decide)) Qd rfl (Q2 (Q0 1) (Q2 (Q0 3) (Q2 Q8 Q5)))))
    (Qa (Jb 5 sc_law.nd (Qf D__law_e_digit (hr.mono (by decide)) Qd rfl (Q2 (Q0 1) (Q2 (Q0 3) Q5))))
    (Qa (Jb 6 sc_law.nd (Qf D__law_e_digit (hr.mono (by decide)) Qd rfl (Q2 (Q0 1) (Q2 (J6 os_pow Q8 Q8) Q5))))
    (Qa (Jb 7 sc_law.nd (Vq (Q2 (J6 Jv (Q0 4) (Vq (Q2 (Yg (Q2 (Yg (Q2 (Q0 3) (Q2 Q8 Q5))) Q5)) Q5))) (Q2 (J6 Jv (Vq (Q2 (Yg (Q2 (Yg (Q2 Q8 (Q2 Q8 Q5))) Q5)) Q5)) (Q0 4)) (Q2 (J6 Jv (Q0 4) (Vq (Q2 (Yg (Q2 (Yg (Q2 Q8 (Q2 (se_neg Q8) Q5))) Q5)) Q5))) (Q2 (J6 Jv (qz cs_tuple rfl T.b_tuple boot_tuple (Q2 (Q0 4) Q5)) (Yg (Q2 (Yg Q5) Q5))) (Q2 (J6 Jv (Q0 4) (Vq (Q2 Ws Q5))) Q5)))))))
    (Qa (Jb 7 sc_law.nd (J6 Jv (Q0 7) (Vq (Q2 (J6 Jv (Q0 4) (J6 Ua (Vq (Q2 (Yg Q5) Q5)) Q8)) (Q2 Ws (Q2 (J6 Jv (Q0 4) (Vq (Q2 (Vq Q5) Q5))) Q5))))))
    (Qe (Wb PassesOwn.leaving rfl (W5 rfl T.b_range (Q2 Q8 Q5)) (Qz (i:=8) sc_law.nd) (Qa (Zq (Jd (y8 hr.units) (Qf D__law_e_word (hr.mono (by decide)) Qd rfl (Q2 (Q0 8) (Q2 (Q0 3) (Q2 (Q0 4) (Q2 (Q0 5) Q5))))) Uy) (Qe (Qu Ui)) Jn)
    (Qa (Wb PassesOwn.leaving rfl (Wr (Q0 7)) (Qz (i:=9) sc_law.nd) (Qe (Zq (SimW.t (sw_or (Jd (y8 hr.units) (Qf D__law_e_word (hr.mono (by decide)) Qd rfl (Q2 (Q0 8) (Q2 (Q0 3) (Q2 (Q0 9) (Q2 (Q0 5) Q5))))) Uy) (sw_or1 (Jd (y8 hr.units) (Qf D__law_e_word (hr.mono (by decide)) Qd rfl (Q2 (Q0 8) (Q2 (Q0 3) (Q2 (Q0 9) (Q2 (Q0 3) Q5))))) Uy)))) (Qe (Qu Ui)) Jn)))
    (Qa (Wb PassesOwn.leaving rfl (Wr (Vq (Q2 (se_neg Q8) (Q2 (Q0 3) (Q2 (se_neg (Q0 3)) (Q2 (J6 Jv (J6 Jv (Q0 3) Q8) (Q0 6)) (Q2 (J6 os_sub (se_neg Q8) (Q0 6)) Q5))))))) (Qz (i:=10) sc_law.nd) (Qe (Zq (Jd (y8 hr.units) (Qf D__law_e_word (hr.mono (by decide)) Qd rfl (Q2 (Q0 8) (Q2 (Q0 3) (Q2 (Q0 4) (Q2 (Q0 10) Q5))))) Uy) (Qe (Qu Ui)) Jn)))
    (Qe (Zq (Jd (y8 hr.units) (Qf D__law_e_word (hr.mono (by decide)) Qd rfl (Q2 (Q0 8) (Q2 (Q0 3) (Q2 (Q0 4) (Q2 (Q0 5) Q5))))) Uy) (Qe (Qu Ui)) Jn)))))))))))))))
    (Qe (Qu Ui))))
end
end Lw
namespace Lw
open PySem PySem.Spec L2 Sm
theorem emod_lt (a:Int) {b:Int} (h:0 < b):0<=a % b/\a % b < b:=⟨Int.emod_nonneg a (by omega),Int.emod_lt_of_pos a h⟩
theorem modN (x:Int) {n:Nat} (h:1<=n):∃ k:Nat,k < n/\x % (n:Int)=(k:Int):=by
  have:=emod_lt x (b:=(n:Int)) (by omega)
  exact ⟨(x % (n:Int)).toNat,by omega,by omega⟩
theorem stir_ok (c:Int) (p:Nat) (st:Q1):∃ z:Int,Js [.int c,.int p] st=.ok (.int z) st:=by
  by_cases q:1000000000000000000<=c
  · refine ⟨c,?_⟩
    simp -implicitDefEqProofs [Js,Qs,Yr,q]
  · obtain ⟨f,hf⟩:∃ f,(c % 998244353 * 51749 + p * 7919 + 3) % 1000000007=f:=⟨_,rfl⟩
    have f1:=emod_lt (c % 998244353 * 51749 + p * 7919 + 3) (b:=1000000007) (by decide)
    rw [hf] at f1
    obtain ⟨g,hg⟩:∃ g:Int,(f * f + 32749 * f + p + 5) % 2147483629=g:=⟨_,rfl⟩
    have g1:=emod_lt (f * f + 32749 * f + p + 5) (b:=2147483629) (by decide)
    rw [hg] at g1
    have fb:-18446744073709551616 < f/\f < 18446744073709551616:=by omega
    have gb:-18446744073709551616 < g/\g < 18446744073709551616:=by omega
    refine ⟨g * 2147483587 + (g * g + 61 * p + f) % 2147483587,?_⟩
    simp -implicitDefEqProofs [Js,Qs,Yr,q,hf,hg,fb,gb]
def TapeAt (S:Q1) (L:Nat) (ns:List Int):Prop:=∃ (p:Nat) (c:Int),S[L]?=some (.lst [.fro (ns.map .int),.int p,.int c])
theorem TapeAt.lt {S:Q1} {L:Nat} {ns:List Int} (h:TapeAt S L ns):L < S.length:=let ⟨_,_,e⟩:=h; (O0.mp e).1
theorem Q01 {S:Q1} {L:Nat} {a b c x:PV} (h:S[L]?=some (.lst [a,b,c])):qy S (.ref L) (.int 1) x=some (S.set L (.lst [a,x,c]))/\qy S (.ref L) (.int 2) x=some (S.set L (.lst [a,b,x])):=by
  unfold qy
  simp only [h]
  exact ⟨rfl,rfl⟩
theorem yu {S:Q1} {L:Nat} {a b c:PV} (h:S[L]?=some (.lst [a,b,c])):oIx S (.ref L) (.int 0)=.ok a S/\oIx S (.ref L) (.int 1)=.ok b S/\oIx S (.ref L) (.int 2)=.ok c S:=by
  have hV:ListAt S (.ref L) [a,b,c]:=.inr (.inr ⟨L,rfl,h⟩)
  rw [hV.ix,hV.ix,hV.ix]
  exact ⟨rfl,rfl,rfl⟩
theorem cell_ok (ns:List Int) (p:Nat) {S:Q1} {L:Nat} {c:PV} (hS:S[L]?=some (.lst [.fro (ns.map .int),.int p,c])) (a1 a4:Option PV):∃ z:Int,(Yc (toB (mOp oLt (Q4 2) (Jh Yk (Q3 (mOp oIx (Q4 0) (mC (.int 0))) Qc)))) (Jp 3 (mOp oIx (mOp oIx (Q4 0) (mC (.int 0))) (Q4 2))) (Yc (toB (mOp (oI fun a b=>.bl (decide (b < a))) (Jh Yk (Q3 (mOp oIx (Q4 0) (mC (.int 0))) Qc)) (mC (.int 0)))) (Jp 3 (mOp Zg (mOp je (mOp oIx (mOp oIx (Q4 0) (mC (.int 0))) (mOp je (mOp Um (Q4 2) (mC (.int 3))) (Jh Yk (Q3 (mOp oIx (Q4 0) (mC (.int 0))) Qc)))) (mOp oPow (mC (.int 10)) (mC (.int 9)))) (mOp Um (Q4 2) (mC (.int 1000000))))) Z5)) [some (.ref L),a1,some (.int p),some (.int p),a4] S=.nx [some (.ref L),a1,some (.int p),some (.int z),a4] S:=by
  obtain ⟨i0,_,_⟩:=yu hS
  have hl:(ns.map PV.int).length=ns.length:=O5 _
  by_cases q:p < ns.length
  · have e:atI (ns.map PV.int) (p:Int)=some (.int (ns.getD p 0)):=by rw [jw,Sm.atI_get (getD_some q 0)]; rfl
    refine ⟨ns.getD p 0,?_⟩
    generalize ns.getD p 0=x at *
    generalize ns.length=len at *
    generalize ns.map PV.int=nv at *
    simp -implicitDefEqProofs [i0,hl,q,e,-Kv]
  · by_cases q2:ns.length=0
    · refine ⟨p,?_⟩
      generalize ns.map PV.int=nv at *
      rw [q2] at hl
      have q0:¬ (p:Int) < 0:=by omega
      simp -implicitDefEqProofs [i0,hl,q0,-Kv]
    · have hp:0 < ns.length:=by omega
      obtain ⟨m,hm,em⟩:=modN ((p:Int) * 3) hp
      have e:atI (ns.map PV.int) (m:Int)=some (.int (ns.getD m 0)):=by rw [jw,Sm.atI_get (getD_some hm 0)]; rfl
      refine ⟨ns.getD m 0 % 1000000000 + p * 1000000,?_⟩
      have q':¬ (p:Int) < (ns.length:Int):=by omega
      generalize ns.getD m 0=x at *
      generalize ns.length=len at *
      generalize ns.map PV.int=nv at *
      simp -implicitDefEqProofs [i0,hl,q,q',hp,em,e,-Kv]
theorem fin_eq {st st':Q1} (h:st'.length=st.length) (d:Int):fin st (.int d) st'=.ok (.int d) st':=by
  unfold fin
  by_cases q:st <+: st'
  · rw [if_pos q]
    have:st=st':=q.eq_of_length h.symm
    rw [<- this,fz]; rfl
  · rw [if_neg q]
structure Mv (L:Nat) (S S':Q1):Prop where
  len:S'.length=S.length
  keep:∀ t,t≠L->S'[t]?=S[t]?
theorem Ut {ns:List Int} {S:Q1} {L:Nat} (T:TapeAt S L ns) (m:Nat) (h1:1<=m) (hm:m < 1000000000000000000000):∃ (d:Nat) (S':Q1),d < m/\TapeAt S' L ns/\Mv L S S'/\J3 [.ref L,.int m] S=.ok (.int d) S':=by
  obtain ⟨p,c,hS⟩:=T
  have hL:=(O0.mp hS).1
  obtain ⟨p1,c1,S1,a2,a3,hS1,M1,e1⟩:∃ (p1:Nat) (c1:Int) (S1:Q1) (a2 a3:Option PV),S1[L]?=some (.lst [.fro (ns.map .int),.int p1,.int c1])/\Mv L S S1/\(Yc (toB (mOp oLt (mOp oIx (Q4 0) (mC (.int 2))) (Q4 1))) (Qh (Jp 2 (mOp oIx (Q4 0) (mC (.int 1))))
    (Qh (Jp 3 (Q4 2))
    (Qh (Yc (toB (mOp oLt (Q4 2) (Jh Yk (Q3 (mOp oIx (Q4 0) (mC (.int 0))) Qc)))) (Jp 3 (mOp oIx (mOp oIx (Q4 0) (mC (.int 0))) (Q4 2))) (Yc (toB (mOp (oI fun a b=>.bl (decide (b < a))) (Jh Yk (Q3 (mOp oIx (Q4 0) (mC (.int 0))) Qc)) (mC (.int 0)))) (Jp 3 (mOp Zg (mOp je (mOp oIx (mOp oIx (Q4 0) (mC (.int 0))) (mOp je (mOp Um (Q4 2) (mC (.int 3))) (Jh Yk (Q3 (mOp oIx (Q4 0) (mC (.int 0))) Qc)))) (mOp oPow (mC (.int 10)) (mC (.int 9)))) (mOp Um (Q4 2) (mC (.int 1000000))))) Z5))
    (Qh (qi (Q4 0) (mC (.int 1)) (mOp Zg (Q4 2) (mC (.int 1))))
    (qi (Q4 0) (mC (.int 2)) (Qj 2 Js (Q3 (Q4 3) (Q3 (Q4 2) Qc)))))))) Z5) [some (.ref L),some (.int m),none,none,none] S=.nx [some (.ref L),some (.int m),a2,a3,none] S1:=by
    obtain ⟨i0,i1,i2⟩:=yu hS
    by_cases q:c < (m:Int)
    · obtain ⟨z,ez⟩:=cell_ok ns p hS (some (.int m)) none
      obtain ⟨t1,_⟩:=Q01 (x:=.int ((p:Int) + 1)) hS
      obtain ⟨S2,hS2⟩:∃ S2,S.set L (.lst [.fro (ns.map .int),.int ((p:Int) + 1),.int c])=S2:=⟨_,rfl⟩
      have h2:S2[L]?=some (.lst [.fro (ns.map .int),.int ((p:Int) + 1),.int c]):=by rw [<- hS2,D9 hL]
      rw [hS2] at t1
      obtain ⟨y,ey⟩:=stir_ok z p S2
      obtain ⟨_,t2⟩:=Q01 (x:=.int y) h2
      have hL2:=(O0.mp h2).1
      refine ⟨p + 1,y,S2.set L (.lst [.fro (ns.map .int),.int ((p:Int) + 1),.int y]),some (.int p),some (.int z),?_,⟨?_,fun t ht=>?_⟩,?_⟩
      · rw [D9 hL2]; push_cast; rfl
      · rw [G8,<- hS2,G8]
      · rw [E3 (fun u=>ht u.symm),<- hS2,E3 (fun u=>ht u.symm)]
      · have ht:(toB (mOp oLt (mOp oIx (Q4 0) (mC (.int 2))) (Q4 1))) [some (.ref L),some (.int m),none,none,none] S=.ok true S:=by
          simp -implicitDefEqProofs [i2,q,-Kv]
        have s1:∀ X:MS,(Qh (Jp 2 (mOp oIx (Q4 0) (mC (.int 1)))) (Qh (Jp 3 (Q4 2)) X)) [some (.ref L),some (.int m),none,none,none] S=X [some (.ref L),some (.int m),some (.int p),some (.int p),none] S:=fun X=>by
          simp -implicitDefEqProofs [i1,-Kv]
        rw [mIfS_eq,ht,Q0c,if_pos rfl,s1,Yv,ez]
        show Qh _ _ _ _=_
        simp -implicitDefEqProofs [t1,ey,t2,-setIx_r]
    · refine ⟨p,c,S,none,none,hS,⟨rfl,fun _ _=>rfl⟩,?_⟩
      simp -implicitDefEqProofs [i2,q,-Kv]
  obtain ⟨_,_,j2⟩:=yu hS1
  obtain ⟨d,hd,ed⟩:=modN c1 h1
  obtain ⟨_,t2⟩:=Q01 (x:=.int (c1 / (m:Int))) hS1
  have hL1:=(O0.mp hS1).1
  obtain ⟨S3,hS3⟩:∃ S3,S1.set L (.lst [.fro (ns.map .int),.int p1,.int (c1 / (m:Int))])=S3:=⟨_,rfl⟩
  have h3:S3[L]?=some (.lst [.fro (ns.map .int),.int p1,.int (c1 / (m:Int))]):=by rw [<- hS3,D9 hL1]
  have M3:Mv L S S3:=⟨by rw [<- hS3,G8,M1.len],fun t ht=>by rw [<- hS3,E3 (fun u=>ht u.symm),M1.keep t ht]⟩
  rw [hS3] at t2
  refine ⟨d,S3,hd,⟨p1,_,h3⟩,M3,?_⟩
  have hm0:0 < m:=h1
  have hm1:(m:Int) < 1267650600228229401496703205376:=by omega
  have step:Yi [some (.ref L),some (.int m),none,none,none] S=.rt (.int d) S3:=by
    unfold Yi
    rw [Yv,e1]
    show Qh _ _ _ _=_
    simp -implicitDefEqProofs [j2,hm0,hm1,ed,t2,-Kv,-setIx_r]
  show Qs Yi 5 _ S=_
  unfold Qs
  rw [show (([PV.ref L,.int m]:List PV).map some ++ List.replicate (5 - [PV.ref L,.int m].length) none)=[some (.ref L),some (.int m),none,none,none] from rfl,step]
  exact fin_eq M3.len d
theorem is_whole_int (i:Int) (st:Q1):U2 [.int i] st=.ok (.bl true) st:=by
  simp [U2,Qs,qg,isI,tyN]
theorem compG_invF {α:Type} (g:α->PV) {xs:List α} (I:Nat->List PV->Q1->Prop) {ga:GA} {mt:MT} {me:ME} {w:Wt} {Γ0:Gam} (hw:∀ i out st,I i out st->wOk w st)
    (h:∀ (i:Nat) x out st,xs[i]?=some x->I i out st->∃ Γ1,ga (g x) Γ0=some Γ1/\∃ b st1,mt Γ1 st=.ok b st1/\(b=true->∃ v st2,me Γ1 st1=.ok v st2/\I (i + 1) (out ++ [v]) st2)/\(b=false->I (i + 1) out st1)) {st:Q1} (h0:I 0 [] st):∃ out st',Z2 ga mt me w Γ0 (xs.map g) st=.ok out st'/\I xs.length out st':=by
  have key:∀ (ys:List α) (k:Nat) (pre:List PV) (st:Q1),(∀ i,ys[i]?=xs[k + i]?)->k + ys.length=xs.length->I k pre st->∃ out st',Z2 ga mt me w Γ0 (ys.map g) st=.ok out st'/\I xs.length (pre ++ out) st':=by
    intro ys
    induction ys with
    | nil=>
      intro k pre st e e2 i
      refine ⟨[],st,by simp [Z2,hw k pre st i],?_⟩
      rw [F6,<- e2]; exact i
    | cons y ys ih=>
      intro k pre st e e2 i
      obtain ⟨Γ1,h1,b,st1,h2,h3,h4⟩:=h k y pre st (by have:=e 0; simpa using this.symm) i
      have e':∀ i,ys[i]?=xs[k + 1 + i]?:=fun i=>by have:=e (i + 1); rw [List.getElem?_cons_succ] at this; rw [this]; congr 1; omega
      have e2':k + 1 + ys.length=xs.length:=by rw [<- e2,F1]; omega
      rw [D0,Z2,if_pos (hw k pre st i),h1]
      simp only [h2,bind_ok]
      cases b with
      | true=>
        obtain ⟨v,st2,h5,h6⟩:=h3 rfl
        obtain ⟨out,st',h7,h8⟩:=ih (k + 1) (pre ++ [v]) st2 e' e2' h6
        refine ⟨v :: out,st',?_,by rw [F4] at h8; exact h8⟩
        rw [if_pos rfl,h5]
        simp only [bind_ok,h7]
      | false=>
        obtain ⟨out,st',h7,h8⟩:=ih (k + 1) pre st1 e' e2' (h4 rfl)
        refine ⟨out,st',?_,h8⟩
        rw [if_neg (by simp),h7]
  obtain ⟨out,st',h1,h2⟩:=key xs 0 [] st (fun i=>by simp) (by simp) h0
  exact ⟨out,st',h1,h2⟩
theorem Vg (x a b:Int) (st:Q1):J5 [.int x,.int a,.int b] st=.ok (.bl (decide (a<=x) && decide (x<=b))) st:=by
  have:=is_whole_int x st
  by_cases q:a<=x <;> simp [J5,Qs,X1,this,q]
theorem road2 {n:Int} {a b:PV} {u v:Bool} {st:Q1} (ha:J5 [a,.int 0,.int (n - 1)] st=.ok (.bl u) st) (hb:J5 [b,.int 0,.int (n - 1)] st=.ok (.bl v) st):((u && v)=false->Y9 [.int n,.tup [a,b]] st=.ok (.bl false) st)/\((u && v)=true->∀ w,oNe st a b=.ok (.bl w) st->Y9 [.int n,.tup [a,b]] st=.ok (.bl w) st):=by
  have hc:Z2 (Qg 0) Wg V7 [] (Zj [none,some 0] [some (.int n),some (.tup [a,b])]) [a,b] st=.ok [.bl u,.bl v] st:=by
    have:=U0 (ga:=Qg 0) (me:=V7) (w:=[]) (Γ0:=Zj [none,some 0] [some (.int n),some (.tup [a,b])]) (st:=st) (fun z:PV × Bool=>z.1) (fun z=>PV.bl z.2) (by simp) (ys:=[(a,u),(b,v)]) (fun z hz=>⟨_,rfl,by
      rcases D6.mp hz with rfl | hz
      · simp [Zj,V7,ha]
      · rw [List.mem_singleton.mp hz]
        simp [Zj,V7,hb]⟩)
    exact this
  have hal:Kr (fun ns=>.bl (ns.all id)) st [.lst [.bl u,.bl v]]=.ok (.bl (u && v)) st:=by cases u <;> cases v <;> rfl
  refine ⟨fun q=>?_,fun q w hw=>?_⟩
  · rw [q] at hal
    simp -implicitDefEqProofs [Y9,Qs,Ke,isI,tyN,hc,hal,J8]
  · rw [q] at hal
    simp -implicitDefEqProofs [Y9,Qs,Ke,isI,tyN,hc,hal,J8,atI,ixN,hw]
def rdV (r:Nat × Nat):PV:=.tup [.int r.1,.int r.2]
def RdOk (n:Nat) (r:Nat × Nat):Prop:=r.1 < n/\r.2 < n/\r.1≠r.2
theorem road_ok {n:Nat} {r:Nat × Nat} (h:RdOk n r) (st:Q1):Y9 [.int n,rdV r] st=.ok (.bl true) st:=by
  obtain ⟨h1,h2,h3⟩:=h
  have h3':¬ ((r.1:Int)=r.2):=by omega
  refine (road2 (Vg _ _ _ st) (Vg _ _ _ st)).2 ?_ true ?_
  · simp; omega
  · simp [h3']
def lx (a b:Nat × Nat):Bool:=HT.lexLt [(a.1:Int),a.2] [(b.1:Int),b.2]
def LxP (a b:Nat × Nat):Prop:=a.1 < b.1\/(a.1=b.1/\a.2 < b.2)
theorem lt_rd (a b:Nat × Nat) (st:Q1):oLt st (rdV a) (rdV b)=.ok (.bl (lx a b)) st:=rfl
def Q0g (rs:List (Nat × Nat)):Bool:=(rs.zip (rs.drop 1)).all fun z=>lx z.1 z.2
theorem rise_ok (rs:List (Nat × Nat)) (hl:rs.length<=1000) (st:Q1):Wa [.tup (rs.map rdV)] st=.ok (.bl (Q0g rs)) st:=by
  have hsl:cut (rs.map rdV) (some 1) none=(rs.drop 1).map rdV:=by
    rw [cut_map]
    exact congrArg _ (cut_back rs 1)
  have hc:Z2 (Up (Jq (Qg 0) (Jq (Qg 1) Uq))) Wg Uc [] (Zj [none,none] [some (.tup (rs.map rdV))]) ((rs.zip (rs.drop 1)).map fun z=>.tup [rdV z.1,rdV z.2]) st=.ok (((rs.zip (rs.drop 1)).map fun z=>lx z.1 z.2).map .bl) st:=by
    rw [F5]
    refine U0 _ _ (by simp) fun z hz=>⟨_,rfl,?_⟩
    have:=lt_rd z.1 z.2 st
    show _=Res.ok (PV.bl (lx z.1 z.2)) st
    generalize rdV z.1=v1 at *
    generalize rdV z.2=v2 at *
    simp [Zj,Uc,this]
  have ha:Q0g rs=((rs.zip (rs.drop 1)).map fun z=>lx z.1 z.2).all id:=by unfold Q0g; rw [List.all_map]; rfl
  have hl':(rs.map rdV).length<=1000000:=by rw [O5]; omega
  rw [ha]
  rw [<- zipT_map] at hc
  generalize ((rs.zip (rs.drop 1)).map fun z=>lx z.1 z.2)=bs at *
  generalize (rs.drop 1).map rdV=ds at *
  generalize rs.map rdV=rv at *
  simp -implicitDefEqProofs [Wa,Qs,Xr,hsl,hl',J8,hc]
theorem lx_iff (a b:Nat × Nat):lx a b=true <-> LxP a b:=by
  unfold lx LxP
  rw [HT.lexLt_cons,HT.lexLt_cons,HT.lexLt_nil_nil]
  by_cases h1:(a.1:Int)=b.1
  · rw [if_pos h1]
    by_cases h2:(a.2:Int)=b.2
    · rw [if_pos h2]
      constructor
      · intro z; cases z
      · intro z; omega
    · rw [if_neg h2,decide_eq_true_iff]; omega
  · rw [if_neg h1,decide_eq_true_iff]; omega
theorem rise_cons (x y:Nat × Nat) (t:List (Nat × Nat)):Q0g (x :: y :: t)=(lx x y && Q0g (y :: t)):=rfl
theorem yy:∀ {rs:List (Nat × Nat)},rs.Pairwise LxP->Q0g rs=true
  | [],_=>rfl
  | [_],_=>rfl
  | x :: y :: t,h=>by
    rw [rise_cons,yy (List.pairwise_cons.mp h).2,(lx_iff x y).mpr ((List.pairwise_cons.mp h).1 y (by simp))]; rfl
structure RsOk (n:Nat) (rs:List (Nat × Nat)):Prop where
  ok:∀ r∈rs,RdOk n r
  inc:rs.Pairwise LxP
  len:rs.length<=100
  sq:rs.length<=n * n
theorem round_of {n:Nat} {zs:List (PV × Bool)} (hl:zs.length<=1000) (st:Q1) (h:∀ z∈zs,Y9 [.int n,z.1] st=.ok (.bl z.2) st):((zs.map Prod.snd).all id=false->Qi [.int n,.tup (zs.map Prod.fst)] st=.ok (.bl false) st)/\((zs.map Prod.snd).all id=true->∀ w,Wa [.tup (zs.map Prod.fst)] st=.ok (.bl w) st->Qi [.int n,.tup (zs.map Prod.fst)] st=.ok (.bl w) st):=by
  have hc:Z2 (Qg 0) Wg Y1 [] (Zj [none,some 0] [some (.int n),some (.tup (zs.map Prod.fst))]) (zs.map Prod.fst) st=.ok ((zs.map Prod.snd).map .bl) st:=by
    rw [F5]
    refine U0 _ _ (by simp) fun z hz=>⟨_,rfl,?_⟩
    have:=h z hz
    show _=Res.ok (PV.bl z.2) st
    generalize zs.map Prod.fst=zv at *
    simp [Zj,Y1,this]
  have hl':(zs.map Prod.fst).length<=1000000:=by rw [O5]; omega
  generalize zs.map Prod.fst=zv at *
  generalize zs.map Prod.snd=bs at *
  refine ⟨fun q=>?_,fun q w hw=>?_⟩
  · simp -implicitDefEqProofs [Qi,Qs,Jw,isI,tyN,hl',J8,hc,q]
  · simp -implicitDefEqProofs [Qi,Qs,Jw,isI,tyN,hl',J8,hc,q,hw]
def Jz (rs:List (Nat × Nat)):PV:=.tup (rs.map rdV)
theorem Q0e {n:Nat} {rs:List (Nat × Nat)} (h:∀ r∈rs,RdOk n r) (hl:rs.length<=900) (st:Q1):Qi [.int n,Jz rs] st=.ok (.bl (Q0g rs)) st:=by
  have e1:(rs.map fun r=>(rdV r,true)).map Prod.fst=rs.map rdV:=by rw [F5]; rfl
  have e2:((rs.map fun r=>(rdV r,true)).map Prod.snd).all id=true:=by rw [F5,List.all_map,F9]; intro r _; rfl
  have:=(round_of (n:=n) (zs:=rs.map fun r=>(rdV r,true)) (by rw [O5]; omega) st (fun z hz=>by
    obtain ⟨r,hr,rfl⟩:=List.mem_map.mp hz
    exact road_ok (h r hr) st)).2 e2
  rw [e1] at this
  exact this _ (rise_ok rs (by omega) st)
theorem j7 {n:Nat} (h1:1<=n) (h8:n<=8) {zs:List (PV × Bool)} (hl:zs.length<=40) {V:PV} {st:Q1} (hV:ListAt st V (zs.map Prod.fst)) (h:∀ z∈zs,Qi [.int n,z.1] st=.ok (.bl z.2) st):J1 [.int n,V] st=.ok (.bl ((zs.map Prod.snd).all id)) st:=by
  obtain ⟨wt,hsrc,hw⟩:=hV.src
  have hlen:=hV.len
  rw [O5] at hlen
  have hfz:K1 st V=false:=by rcases hV with rfl | rfl | ⟨i,rfl,e⟩ <;> first | rfl | simp [e]
  have hisl:isI "list" (dpv st V)=true:=by rcases hV with rfl | rfl | ⟨i,rfl,e⟩ <;> first | rfl | simp [e,isI,tyN]
  have hc:Z2 (Qg 0) Wg Ud wt (Zj [none,some 0] [some (.int n),some V]) (zs.map Prod.fst) st=.ok ((zs.map Prod.snd).map .bl) st:=by
    rw [F5]
    refine U0 _ _ hw fun z hz=>⟨_,rfl,?_⟩
    have:=h z hz
    show _=Res.ok (PV.bl z.2) st
    simp [Zj,Ud,this]
  have hb:=Vg (n:Int) 1 8 st
  have hbb:(decide ((1:Int)<=n) && decide ((n:Int)<=8))=true:=by simp; omega
  rw [hbb] at hb
  have hl':(zs.map Prod.fst).length<=1000000:=by rw [O5]; omega
  have hl2:¬ (40:Int) < (zs.length:Int):=by omega
  generalize zs.length=len at *
  generalize zs.map Prod.fst=zv at *
  generalize zs.map Prod.snd=bs at *
  simp -implicitDefEqProofs [J1,Qs,V2,hb,hfz,hisl,hlen,hl2,hsrc,hl',J8,hc]
theorem Mv.refl (L:Nat) (S:Q1):Mv L S S:=⟨rfl,fun _ _=>rfl⟩
theorem Mv.trans {L:Nat} {S S1 S2:Q1} (a:Mv L S S1) (b:Mv L S1 S2):Mv L S S2:=⟨b.len.trans a.len,fun t ht=>(b.keep t ht).trans (a.keep t ht)⟩
theorem TapeAt.of {S S':Q1} {L:Nat} {ns:List Int} (h:TapeAt S L ns) (e:S'[L]?=S[L]?):TapeAt S' L ns:=let ⟨p,c,q⟩:=h; ⟨p,c,by rw [e]; exact q⟩
theorem comp36 {ns:List Int} {S:Q1} {L:Nat} (T:TapeAt S L ns) (i n:Nat) (often:Int) (Γ:Gam) (h7:Γ[7]?=some (some (.int i))) (h3:Γ[3]?=some (some (.int often))) (h0:Γ[0]?=some (some (.ref L))) :
    ∃ (js:List Nat) (S':Q1),TapeAt S' L ns/\Mv L S S'/\(∀ j∈js,j < n/\j≠i)/\js.Pairwise (· < ·)/\js.length<=n/\Z2 (Qg 0) Jj Z7 [] (Zj [none,some 7,some 3,some 0] Γ) (Ze 0 n) S=.ok (js.map fun j=>rdV (i,j)) S':=by
  rw [Uz]
  obtain ⟨out,S',e,js,rfl,T',M',h1,h2,h4⟩:=compG_invF (fun k:Nat=>PV.int (k:Int)) (xs:=List.range n) (ga:=Qg 0) (mt:=Jj) (me:=Z7) (w:=[]) (Γ0:=Zj [none,some 7,some 3,some 0] Γ) (st:=S)
    (fun k out st'=>∃ js:List Nat,out=js.map (fun j=>rdV (i,j))/\TapeAt st' L ns/\Mv L S st'/\(∀ j∈js,j < k/\j≠i)/\js.Pairwise (· < ·)/\js.length<=k)
    (fun _ _ _ _=>by simp)
    (fun k x out st' hx ⟨js,e1,T',M',h1,h2,h4⟩=>by
      have hkn:k < n:=by simpa using (O0.mp hx).1
      have hxk:x=k:=by
        rw [List.getElem?_range hkn] at hx
        exact (Option.some.inj hx).symm
      subst hxk
      subst e1
      by_cases q:x=i
      · refine ⟨_,rfl,false,st',?_,fun z=>(by cases z),fun _=>⟨js,rfl,T',M',fun j hj=>⟨by have:=(h1 j hj).1; omega,(h1 j hj).2⟩,h2,by omega⟩⟩
        simp -implicitDefEqProofs [Zj,Jj,h7,h3,h0,q]
      · have q':¬ ((x:Int)=i):=by omega
        obtain ⟨d,S2,hd,T2,M2,e2⟩:=Ut T' 8 (by decide) (by decide)
        rw [show ((8:Nat):Int)=8 from rfl] at e2
        refine ⟨_,rfl,decide ((d:Int) < often),S2,?_,fun hb=>⟨rdV (i,x),S2,?_,js ++ [x],by rw [F7]; rfl,T2,M'.trans M2,fun j hj=>?_,?_,by simp; omega⟩,fun _=>⟨js,rfl,T2,M'.trans M2,fun j hj=>⟨by have:=(h1 j hj).1; omega,(h1 j hj).2⟩,h2,by omega⟩⟩
        · simp -implicitDefEqProofs [Zj,Jj,h7,h3,h0,q,q',e2]
        · unfold rdV
          simp -implicitDefEqProofs [Zj,Z7,h7,J8]
        · rcases E7.mp hj with hj | hj
          · have:=h1 j hj
            exact ⟨by omega,this.2⟩
          · rw [List.mem_singleton.mp hj]; exact ⟨by omega,q⟩
        · rw [List.pairwise_append]
          refine ⟨h2,by simp,fun a ha b hb=>?_⟩
          rw [List.mem_singleton.mp hb]
          exact (h1 a ha).1)
    ⟨[],rfl,T,Mv.refl L S,fun j hj=>(by cases hj),List.Pairwise.nil,by simp⟩
  rw [G6] at h1 h4
  exact ⟨js,S',T',M',h1,h2,h4,e⟩
abbrev drΓ (L n mo:Nat) (often:Int) (R:Nat) (a5 a6 a7:Option PV):Gam:=[some (.ref L),some (.int n),some (.int mo),some (.int often),some (.ref R),a5,a6,a7]
structure Mv2 (L M:Nat) (S S':Q1):Prop where
  len:S'.length=S.length
  keep:∀ t,t≠L->t≠M->S'[t]?=S[t]?
theorem one36 {ns:List Int} {S:Q1} {L M:Nat} (T:TapeAt S L ns) (hLM:L≠M) (hM:S[M]?=some (.lst [])) (n mo R:Nat) (hn:n<=8) (often:Int) (a5:Option PV) (a7:Option PV) :
    ∃ b7 rs S',RsOk n rs/\TapeAt S' L ns/\S'[M]?=some (.lst (rs.map rdV))/\Mv2 L M S S'/\V6 (Qg 7) Jk [] (Ze 0 n) (drΓ L n mo often R a5 (some (.ref M)) a7) S=.nx (drΓ L n mo often R a5 (some (.ref M)) b7) S':=by
  have hn1:-1000000<=(n:Int)/\(n:Int)<=1000000:=by omega
  have key:=V5 (g:=fun k:Nat=>PV.int (k:Int)) (xs:=List.range n) (ga:=Qg 7) (body:=Jk) (w:=[]) (Γ:=drΓ L n mo often R a5 (some (.ref M)) a7) (st:=S)
    (fun i Γ st'=>∃ b7 rs,Γ=drΓ L n mo often R a5 (some (.ref M)) b7/\(∀ r∈rs,RdOk n r/\r.1 < i)/\rs.Pairwise LxP/\rs.length<=i * n/\TapeAt st' L ns/\st'[M]?=some (.lst (rs.map rdV))/\Mv2 L M S st')
    (fun _ _ _ _=>by simp)
    (fun i k Γ st' hx ⟨b7,rs,e1,h1,h2,h3,T',hM',m⟩=>by
      subst e1
      have hin:i < n:=by simpa using (O0.mp hx).1
      have hki:k=i:=by
        rw [List.getElem?_range hin] at hx
        exact (Option.some.inj hx).symm
      subst hki
      obtain ⟨js,S2,T2,M2,g1,g2,g3,e2⟩:=comp36 T' k n often (drΓ L n mo often R a5 (some (.ref M)) (some (.int k))) rfl rfl rfl
      have hM2:S2[M]?=some (.lst (rs.map rdV)):=by rw [M2.keep M (fun z=>hLM z.symm)]; exact hM'
      have hML:M < S2.length:=(O0.mp hM2).1
      have hnn:k * n<=64:=E2 (Nat.mul_le_mul (show k<=8 by omega) hn) (by decide)
      refine ⟨_,rfl,drΓ L n mo often R a5 (some (.ref M)) (some (.int k)),S2.set M (.lst ((rs ++ js.map fun j=>(k,j)).map rdV)),?_,_,rs ++ js.map fun j=>(k,j),rfl,fun r hr=>?_,?_,?_,T2.of ?_,by rw [D9 hML],⟨by rw [G8,M2.len,m.len],fun t ht1 ht2=>by rw [E3 (fun z=>ht2 z.symm),M2.keep t ht1,m.keep t ht1 ht2]⟩⟩
      · have hlo:Wi st' (.ref M)=some (rs.map rdV):=by simp [hM']
        have hll:(rs.map rdV).length + (js.map fun j=>rdV (k,j)).length<=1000000:=by simp; omega
        have hmm:(rs ++ js.map fun j=>(k,j)).map rdV=rs.map rdV ++ js.map fun j=>rdV (k,j):=by rw [F7,F5]; rfl
        rw [hmm]
        unfold drΓ at e2 ⊢
        generalize (js.map fun j=>rdV (k,j))=jv at *
        generalize rs.map rdV=rv at *
        show Jk [some (.ref L),some (.int n),some (.int mo),some (.int often),some (.ref R),a5,some (.ref M),some (.int k)] st'=_
        simp -implicitDefEqProofs [Jk,hlo,hn1,J8,e2,Vt,chg,hM2,hll,-Q15]
      · rcases E7.mp hr with hr | hr
        · exact ⟨(h1 r hr).1,by have:=(h1 r hr).2; omega⟩
        · obtain ⟨j,hj,rfl⟩:=List.mem_map.mp hr
          exact ⟨⟨hin,(g1 j hj).1,fun z=>(g1 j hj).2 z.symm⟩,by simp⟩
      · rw [List.pairwise_append]
        refine ⟨h2,?_,fun a ha b hb=>?_⟩
        · rw [List.pairwise_map]
          exact g2.imp fun h=>.inr ⟨rfl,h⟩
        · obtain ⟨j,hj,rfl⟩:=List.mem_map.mp hb
          exact .inl (h1 a ha).2
      · rw [D5,O5,Nat.succ_mul]; omega
      · rw [E3 (fun z=>hLM z.symm)])
    ⟨_,[],rfl,fun r hr=>(by cases hr),List.Pairwise.nil,by simp,T,hM,⟨rfl,fun _ _ _=>rfl⟩⟩
  obtain ⟨Γ',S',e,b7,rs,rfl,h1,h2,h3,T',hM',m⟩:=key
  rw [<- Uz] at e
  rw [G6] at h3
  have hnn:n * n<=64:=E2 (Nat.mul_le_mul hn hn) (by decide)
  exact ⟨b7,rs,S',⟨fun r hr=>(h1 r hr).1,h2,by omega,h3⟩,T',hM',m,e⟩
theorem turn36 {ns:List Int} {S:Q1} {L R:Nat} (T:TapeAt S L ns) (hLR:L < R) (n mo:Nat) (hn:n<=8) (often:Int) {rss:List (List (Nat × Nat))} (hrl:rss.length<=50) (hR:S[R]?=some (.lst (rss.map Jz))) (a5 a6 a7:Option PV) :
    ∃ b6 b7 rs S',RsOk n rs/\TapeAt S' L ns/\S'[R]?=some (.lst ((rss ++ [rs]).map Jz))/\S.length<=S'.length/\Z8 (drΓ L n mo often R a5 a6 a7) S=.nx (drΓ L n mo often R a5 b6 b7) S':=by
  have hn1:-1000000<=(n:Int)/\(n:Int)<=1000000:=by omega
  have hRl:R < S.length:=(O0.mp hR).1
  have T1:TapeAt (S ++ [.lst []]) L ns:=T.of (by rw [O3 (by omega)])
  obtain ⟨b7,rs,S2,ok,T2,hM,m,e⟩:=one36 T1 (M:=S.length) (by omega) (by simp) n mo R hn often a5 a7
  have hR2:S2[R]?=some (.lst (rss.map Jz)):=by rw [m.keep R (by omega) (by omega),O3 hRl]; exact hR
  have hR2l:R < S2.length:=(O0.mp hR2).1
  refine ⟨some (.ref S.length),b7,rs,S2.set R (.lst ((rss ++ [rs]).map Jz)),ok,T2.of (by rw [E3 (by omega)]),by rw [D9 hR2l],by rw [G8,m.len,D5]; omega,?_⟩
  have hmm:(rss ++ [rs]).map Jz=rss.map Jz ++ [Jz rs]:=by rw [F7]; rfl
  have hT:PV.tup (rs.map rdV)=Jz rs:=rfl
  have hll:(rss.map Jz).length < 1000000:=by rw [O5]; omega
  rw [hmm]
  unfold drΓ at e ⊢
  generalize rss.map Jz=rv at *
  generalize rs.map rdV=ov at *
  generalize Jz rs=o at *
  simp -implicitDefEqProofs [Z8,J8,hn1,e,hR2,hM,hT,Vu,chg,hll]
theorem drawn_ok {ns:List Int} {S:Q1} {L:Nat} (T:TapeAt S L ns) (n mo:Nat) (hn:n<=8) (hmo:mo<=40):∃ (R:Nat) (S':Q1) (rss:List (List (Nat × Nat))),TapeAt S' L ns/\(∀ rs∈rss,RsOk n rs)/\rss.length<=mo/\S'[R]?=some (.lst (rss.map Jz))/\R≠L/\S.length<=S'.length/\Jy [.ref L,.int n,.int mo] S=.ok (.ref R) S':=by
  obtain ⟨d,S1,hd,T1,M1,e1⟩:=Ut T 6 (by decide) (by decide)
  rw [show ((6:Nat):Int)=6 from rfl] at e1
  have T2:TapeAt (S1 ++ [.lst []]) L ns:=T1.of (by rw [O3 T1.lt])
  obtain ⟨k,S3,hk,T3,M3,e3⟩:=Ut T2 (mo + 1) (by omega) (by omega)
  rw [show ((mo + 1:Nat):Int)=(mo:Int) + 1 from by push_cast; rfl] at e3
  have hR3:S3[S1.length]?=some (.lst []):=by rw [M3.keep _ (by have:=T1.lt; omega)]; simp
  have key:=V5 (g:=fun k:Nat=>PV.int (k:Int)) (xs:=List.range k) (ga:=Qg 5) (body:=Z8) (w:=[]) (Γ:=drΓ L n mo (1 + (d:Int)) S1.length none none none) (st:=S3)
    (fun i Γ st'=>∃ b5 b6 b7 rss,Γ=drΓ L n mo (1 + (d:Int)) S1.length b5 b6 b7/\(∀ rs∈rss,RsOk n rs)/\rss.length=i/\TapeAt st' L ns/\st'[S1.length]?=some (.lst (rss.map Jz))/\S.length<=st'.length)
    (fun _ _ _ _=>by simp)
    (fun i x Γ st' hx ⟨b5,b6,b7,rss,g1,h1,h2,T',hR,hlen⟩=>by
      subst g1
      have hi:i < k:=by simpa using (O0.mp hx).1
      obtain ⟨c6,c7,rs,S',ok,T4,hR4,hl4,e4⟩:=turn36 T' T1.lt n mo hn (1 + (d:Int)) (by omega) hR (some (.int x)) b6 b7
      refine ⟨_,rfl,_,S',e4,_,_,_,rss ++ [rs],rfl,fun r hr=>?_,by rw [D5,h2]; rfl,T4,hR4,by omega⟩
      rcases E7.mp hr with hr | hr
      · exact h1 r hr
      · rw [List.mem_singleton.mp hr]; exact ok)
    ⟨_,_,_,[],rfl,fun r hr=>(by cases hr),rfl,T3,hR3,by rw [M3.len,D5,M1.len]; omega⟩
  obtain ⟨Γ',S4,e4,b5,b6,b7,rss,rfl,h1,h2,T4,hR4,hlen⟩:=key
  rw [<- Uz] at e4
  rw [G6] at h2
  have hkb:-1000000<=(k:Int)/\(k:Int)<=1000000:=by omega
  have step:Jx [some (.ref L),some (.int n),some (.int mo),none,none,none,none,none] S=.rt (.ref S1.length) S4:=by
    unfold drΓ at e4
    simp -implicitDefEqProofs [Jx,e1,e3,J8,hkb,e4]
  refine ⟨S1.length,S4,rss,T4,h1,by omega,hR4,by have:=T1.lt; omega,hlen,?_⟩
  show Zh Jx 8 _ S=_
  unfold Zh
  rw [show (([PV.ref L,.int n,.int mo]:List PV).map some ++ List.replicate (8 - [PV.ref L,.int n,.int mo].length) none)=[some (.ref L),some (.int n),some (.int mo),none,none,none,none,none] from rfl,step]
@[simp] theorem mDGetI_eq (mo mi:ME) (Γ:Gam) (st:Q1):Vw mo mi Γ st=(mo Γ st).bind fun p st1=>(mi Γ st1).bind fun q st2=>Q1h st2 p q:=rfl
@[simp] theorem mDPutI_eq (mo mi m:ME) (Γ:Gam) (st:Q1):mDPutI mo mi m Γ st=(m Γ st).sbind fun v st1=>(mo Γ st1).sbind fun p st2=>(mi Γ st2).sbind fun q st3=>match dputI st3 p q v with
  | some st4=>.nx Γ st4
  | none=>.stuck:=rfl
@[simp] theorem mDisp1_eq (mk m:ME) (Γ:Gam) (st:Q1):zh mk m Γ st=(mk Γ st).bind fun pk st1=>(m Γ st1).bind fun pv st2=>match Vx pk with
  | some k=>.ok (.ref st2.length) (st2 ++ [.dic [(k,pv)]])
  | none=>.stuck:=rfl
@[simp] theorem zm (i:Int):Vx (.int i)=some (.inl i):=rfl
theorem qv (k:Key):∀ kvs:List (Key × PV),(kvs.any fun kv=>decide (kv.1=k))=(J9 kvs k).isSome
  | []=>rfl
  | (a,b) :: r=>by
    have ih:=qv k r
    by_cases q:a=k
    · simp [J9,F3,q]
    · have:J9 ((a,b) :: r) k=J9 r k:=by simp [J9,F3,q]
      rw [this,<- ih]; simp [q]
theorem valP_rep (k j:Key) (v:PV):∀ kvs:List (Key × PV),J9 (kvs.map fun kv=>if kv.1=k then (kv.1,v) else kv) j=(J9 kvs j).map fun x=>if j=k then v else x
  | []=>rfl
  | (a,b) :: r=>by
    have ih:=valP_rep k j v r
    by_cases q:a=j
    · subst q
      by_cases q2:a=k <;> simp [J9,F3,q2]
    · have e1:J9 ((a,b) :: r) j=J9 r j:=by simp [J9,F3,q]
      rw [e1,<- ih]
      by_cases q2:a=k
      · simp [J9,F3,q2,show ¬ k=j from fun z=>q (q2.trans z)]
      · simp [J9,F3,q2,q]
theorem jz (j k:Key) (v:PV):∀ kvs:List (Key × PV),J9 (kvs ++ [(k,v)]) j=match J9 kvs j with | some x=>some x | none=>if j=k then some v else none
  | []=>by
    by_cases q:k=j
    · simp [J9,q]
    · simp [J9,q,show ¬ j=k from fun z=>q z.symm]
  | (a,b) :: r=>by
    have ih:=jz j k v r
    by_cases q:a=j
    · simp [J9,F3,q]
    · have e1:J9 ((a,b) :: r) j=J9 r j:=by simp [J9,F3,q]
      have e2:J9 (((a,b) :: r) ++ [(k,v)]) j=J9 (r ++ [(k,v)]) j:=by simp [J9,F3,q]
      rw [e1,e2,ih]
theorem valP_put (kvs:List (Key × PV)) (k j:Key) (v:PV):J9 (Kp kvs k v) j=if j=k then some v else J9 kvs j:=by
  unfold Kp
  by_cases q:(kvs.any fun kv=>decide (kv.1=k))=true
  · rw [if_pos q,valP_rep]
    by_cases h:j=k
    · subst h
      rw [qv] at q
      cases z:J9 kvs j with
      | none=>rw [z] at q; cases q
      | some x=>simp
    · simp [h]
  · rw [if_neg q,jz]
    have q':J9 kvs k=none:=by
      rw [qv] at q
      cases z:J9 kvs k with
      | none=>rfl
      | some x=>rw [z] at q; exact absurd rfl q
    by_cases h:j=k
    · subst h; simp [q']
    · rw [if_neg h]
      cases J9 kvs j <;> simp [h]
theorem putP_len (kvs:List (Key × PV)) (k:Key) (v:PV):(Kp kvs k v).length<=kvs.length + 1:=by
  unfold Kp; split <;> simp
theorem putP_new {kvs:List (Key × PV)} {k:Key} (v:PV) (h:J9 kvs k=none):Kp kvs k v=kvs ++ [(k,v)]:=by
  unfold Kp; rw [qv,h]; simp
def DicAt (S:Q1) (V:PV) (kvs:List (Key × PV)):Prop:=∃ i,V=.ref i/\(S[i]?=some (.dic kvs)\/S[i]?=some (.frd kvs))
theorem DicAt.of {S:Q1} {V:PV} {kvs:List (Key × PV)} (h:DicAt S V kvs):yd S V=some kvs:=by
  obtain ⟨i,rfl,h | h⟩:=h <;> simp only [yd,h]
theorem DicAt.get {S:Q1} {V:PV} {kvs:List (Key × PV)} {k:Int} {v:PV} (h:DicAt S V kvs) (e:J9 kvs (.inl k)=some v):Q1h S V (.int k)=.ok v S:=by
  unfold Q1h; rw [h.of,zm]; simp only [e]
theorem DicAt.inn {S:Q1} {V:PV} {kvs:List (Key × PV)} {k:Int} (h:DicAt S V kvs) (neg:Bool):oInD neg S (.int k) V=.ok (.bl ((J9 kvs (.inl k)).isSome != neg)) S:=by
  unfold oInD; rw [h.of,zm]
theorem dput_at {S:Q1} {i:Nat} {kvs:List (Key × PV)} {k:Int} {v:PV} (h:S[i]?=some (.dic kvs)) (hl:kvs.length < 1000000):dputI S (.ref i) (.int k) v=some (S.set i (.dic (Kp kvs (.inl k) v))):=by
  unfold dputI; rw [zm]
  have:zt S i=some kvs:=by unfold zt; rw [h]
  simp only [this,if_pos (show kvs.length < lim from hl)]
abbrev Mo:=Nat->Option (Nat × Option Nat)
def frV:Option Nat->PV
  | none=>.non
  | some i=>.int (i:Nat)
def Fd (kvs:List (Key × PV)) (m:Mo):Prop:=∀ j:Nat,J9 kvs (.inl (j:Int))=(m j).map fun p=>PV.tup [.int (p.1:Nat),frV p.2]
structure Arr (rss:List (List (Nat × Nat))) (house mom bd t:Nat) (pre:List (Nat × Nat)) (m:Mo):Prop where
  a:m house=some (mom,none)
  b:∀ k p,m k=some p->k≠house->∃ i,p.2=some i/\mom < p.1/\p.1<=bd/\(∃ rs,rss[p.1 - 1]?=some rs/\(i,k)∈rs)/\∃ q,m i=some q/\q.1 + 1<=p.1
  c:∀ t' rs i j q,mom<=t'->t' < t->rss[t']?=some rs->(i,j)∈rs->m i=some q->q.1<=t'->∃ p,m j=some p/\p.1<=t' + 1
  d:∀ i j q,(i,j)∈pre->m i=some q->q.1<=t->∃ p,m j=some p/\p.1<=t + 1
def updM (m:Mo) (j:Nat) (p:Nat × Option Nat):Mo:=fun k=>if k=j then some p else m k
theorem Vb {m:Mo} {j k:Nat} {p:Nat × Option Nat} (h:k≠j):updM m j p k=m k:=if_neg h
theorem qw {m:Mo} {j:Nat} {p:Nat × Option Nat}:updM m j p j=some p:=if_pos rfl
theorem Arr.hit {rss:List (List (Nat × Nat))} {house mom t:Nat} {pre rs:List (Nat × Nat)} {m:Mo} {i j:Nat} {q:Nat × Option Nat} (h:Arr rss house mom (t + 1) t pre m) (ht:mom<=t) (hr:rss[t]?=some rs) (hij:(i,j)∈rs) (hj:m j=none) (hi:m i=some q) (hq:q.1<=t) :
    Arr rss house mom (t + 1) t (pre ++ [(i,j)]) (updM m j (t + 1,some i)):=by
  have ne:∀ {k p},m k=some p->k≠j:=fun e z=>by rw [z,hj] at e; cases e
  refine ⟨?_,fun k p e hk=>?_,fun t' rs' i' j' q' h1 h2 h3 h4 h5 h6=>?_,fun i' j' q' h1 h2 h3=>?_⟩
  · rw [Vb (ne h.a)]; exact h.a
  · by_cases z:k=j
    · subst z
      rw [qw] at e
      cases e
      exact ⟨i,rfl,by simp; omega,O6 _,⟨rs,by simpa using hr,hij⟩,q,by rw [Vb (ne hi)]; exact hi,by simp; omega⟩
    · rw [Vb z] at e
      obtain ⟨i0,e1,e2,e3,e4,q0,e5,e6⟩:=h.b k p e hk
      exact ⟨i0,e1,e2,e3,e4,q0,by rw [Vb (ne e5)]; exact e5,e6⟩
  · by_cases z:i'=j
    · subst z
      rw [qw] at h5
      cases h5
      exact absurd h6 (by simp; omega)
    · rw [Vb z] at h5
      obtain ⟨p,e1,e2⟩:=h.c t' rs' i' j' q' h1 h2 h3 h4 h5 h6
      exact ⟨p,by rw [Vb (ne e1)]; exact e1,e2⟩
  · by_cases z:i'=j
    · subst z
      rw [qw] at h2
      cases h2
      exact absurd h3 (by simp)
    · rw [Vb z] at h2
      rcases E7.mp h1 with h1 | h1
      · obtain ⟨p,e1,e2⟩:=h.d i' j' q' h1 h2 h3
        exact ⟨p,by rw [Vb (ne e1)]; exact e1,e2⟩
      · have e:(i',j')=(i,j):=List.mem_singleton.mp h1
        cases e
        exact ⟨_,qw,O6 _⟩
theorem Arr.miss {rss:List (List (Nat × Nat))} {house mom t:Nat} {pre:List (Nat × Nat)} {m:Mo} {i j:Nat} (h:Arr rss house mom (t + 1) t pre m) (ht:mom<=t) (hn:¬ (m j=none/\∃ q,m i=some q/\q.1<=t)) :
    Arr rss house mom (t + 1) t (pre ++ [(i,j)]) m:=by
  refine ⟨h.a,h.b,h.c,fun i' j' q' h1 h2 h3=>?_⟩
  rcases E7.mp h1 with h1 | h1
  · exact h.d i' j' q' h1 h2 h3
  · have e:(i',j')=(i,j):=List.mem_singleton.mp h1
    cases e
    cases z:m j with
    | none=>exact absurd ⟨z,q',h2,h3⟩ hn
    | some p=>
      refine ⟨p,rfl,?_⟩
      by_cases k:j=house
      · subst k
        rw [h.a] at z
        cases z
        show mom<=t + 1
        omega
      · obtain ⟨_,_,_,e3,_⟩:=h.b j p z k
        exact e3
theorem Arr.next {rss:List (List (Nat × Nat))} {house mom t:Nat} {rs:List (Nat × Nat)} {m:Mo} (h:Arr rss house mom (t + 1) t rs m) (hr:rss[t]?=some rs):Arr rss house mom (t + 1) (t + 1) [] m:=
  ⟨h.a,h.b,fun t' rs' i j q h1 h2 h3 h4 h5 h6=>by
    by_cases z:t'=t
    · subst z
      rw [hr] at h3
      cases h3
      exact h.d i j q h4 h5 h6
    · exact h.c t' rs' i j q h1 (by omega) h3 h4 h5 h6,fun i j q h1=>by cases h1⟩
theorem Arr.wide {rss:List (List (Nat × Nat))} {house mom bd bd' t:Nat} {pre:List (Nat × Nat)} {m:Mo} (h:Arr rss house mom bd t pre m) (hb:bd<=bd'):Arr rss house mom bd' t pre m:=
  ⟨h.a,fun k p e hk=>let ⟨i,e1,e2,e3,e4⟩:=h.b k p e hk; ⟨i,e1,e2,E2 e3 hb,e4⟩,h.c,h.d⟩
theorem listAt_app {S:Q1} {V:PV} {xs:List PV} (h:ListAt S V xs) {S':Q1} (hk:∀ t,t < S.length->S'[t]?=S[t]?\/¬ ∃ ys,S[t]?=some (.lst ys)):ListAt S' V xs:=by
  rcases h with rfl | rfl | ⟨i,rfl,e⟩
  · exact .inl rfl
  · exact .inr (.inl rfl)
  · refine .inr (.inr ⟨i,rfl,?_⟩)
    rcases hk i (O0.mp e).1 with z | z
    · rw [z]; exact e
    · exact absurd ⟨xs,e⟩ z
abbrev arΓ (V:PV) (house mom D:Nat) (a4 a5 a6:Option PV):Gam:=[some V,some (.int house),some (.int mom),some (.ref D),a4,a5,a6]
theorem arr_in {V:PV} {rss:List (List (Nat × Nat))} {house mom t:Nat} (ht:mom<=t) {rs:List (Nat × Nat)} (hr:rss[t]?=some rs) (hrl:rs.length<=100) {S:Q1} {kvs:List (Key × PV)} {m:Mo} (hF:Fd kvs m) (hA:Arr rss house mom (t + 1) t [] m) (hl:kvs.length<=100000) (a5 a6:Option PV) :
    ∃ b5 b6 kvs' m',Fd kvs' m'/\Arr rss house mom (t + 1) t rs m'/\kvs'.length<=kvs.length + 100/\V6 (Up (Jq (Qg 5) (Jq (Qg 6) Uq))) Zm [] (rs.map rdV) (arΓ V house mom S.length (some (.int t)) a5 a6) (S ++ [.dic kvs])=.nx (arΓ V house mom S.length (some (.int t)) b5 b6) (S ++ [.dic kvs']):=by
  obtain ⟨Γ',st',e,b5,b6,kvs',m',rfl,rfl,h1,h2,h3⟩:=forG_invL (g:=rdV) (xs:=rs) (ga:=Up (Jq (Qg 5) (Jq (Qg 6) Uq))) (body:=Zm) (w:=[]) (Γ:=arΓ V house mom S.length (some (.int t)) a5 a6) (st:=S ++ [.dic kvs])
    (fun pre Γ st'=>∃ b5 b6 kvs' m',Γ=arΓ V house mom S.length (some (.int t)) b5 b6/\st'=S ++ [.dic kvs']/\Fd kvs' m'/\Arr rss house mom (t + 1) t pre m'/\kvs'.length<=kvs.length + pre.length)
    (fun _ _ _ _=>by simp)
    (fun pre r post Γ st' hx ⟨b5,b6,kvs',m',e1,e2,F',A',l'⟩=>by
      subst e1; subst e2
      obtain ⟨i,j⟩:=r
      have hij:(i,j)∈rs:=by rw [hx]; simp
      have hpl:pre.length + 1<=100:=by
        have:rs.length=pre.length + (post.length + 1):=by rw [hx]; simp
        omega
      have hD:DicAt (S ++ [.dic kvs']) (.ref S.length) kvs':=⟨_,rfl,.inl (by simp)⟩
      have n1:=hD.inn (k:=(j:Int)) true
      have n2:=hD.inn (k:=(i:Int)) false
      have fj:=F' j
      have fi:=F' i
      refine ⟨_,rfl,?_⟩
      show ∃ Γ2 st2,Zm [some V,some (.int house),some (.int mom),some (.ref S.length),some (.int t),some (.int i),some (.int j)] (S ++ [.dic kvs'])=.nx Γ2 st2/\_
      by_cases hit:m' j=none/\∃ q,m' i=some q/\q.1<=t
      · obtain ⟨hj,q,hi,hq⟩:=hit
        rw [hj] at fj
        rw [hi] at fi
        have fj:J9 kvs' (.inl (j:Int))=none:=fj
        have fi:J9 kvs' (.inl (i:Int))=some (.tup [.int (q.1:Nat),frV q.2]):=fi
        have g:=hD.get fi
        have dp:=dput_at (S:=S ++ [.dic kvs']) (i:=S.length) (kvs:=kvs') (k:=(j:Int)) (v:=.tup [.int ((t:Int) + 1),.int i]) (by simp) (by omega)
        have hq':(q.1:Int)<=(t:Int):=by omega
        rw [fj] at n1
        rw [fi] at n2
        rw [tr_set] at dp
        refine ⟨arΓ V house mom S.length (some (.int t)) (some (.int i)) (some (.int j)),S ++ [.dic (Kp kvs' (.inl (j:Int)) (.tup [.int ((t:Int) + 1),.int i]))],?_,_,_,_,updM m' j (t + 1,some i),rfl,rfl,fun k=>?_,A'.hit ht hr hij hj hi hq,?_⟩
        · generalize frV q.2=fq at *
          generalize S ++ [Cell.dic kvs']=S1 at *
          generalize S.length=sl at *
          simp -implicitDefEqProofs [Zm,n1,n2,g,hq',atI,ixN,J8,dp]
        · rw [valP_put]
          by_cases z:k=j
          · subst z
            rw [if_pos rfl,qw]
            show _=some (PV.tup [.int ((t + 1:Nat):Int),.int (i:Nat)])
            push_cast; rfl
          · rw [if_neg (fun h=>z (by have:=Sum.inl.inj h; omega)),Vb z]; exact F' k
        · have:=putP_len kvs' (.inl (j:Int)) (.tup [.int ((t:Int) + 1),.int i])
          rw [D5]
          simp only [List.length_singleton]
          omega
      · refine ⟨arΓ V house mom S.length (some (.int t)) (some (.int i)) (some (.int j)),S ++ [.dic kvs'],?_,_,_,_,m',rfl,rfl,F',A'.miss ht hit,by rw [D5]; omega⟩
        cases hj:m' j with
        | some p=>
          rw [hj] at fj
          have fj:J9 kvs' (.inl (j:Int))=some (.tup [.int (p.1:Nat),frV p.2]):=fj
          rw [fj] at n1
          generalize S ++ [Cell.dic kvs']=S1 at *
          generalize S.length=sl at *
          simp -implicitDefEqProofs [Zm,n1]
        | none=>
          rw [hj] at fj
          have fj:J9 kvs' (.inl (j:Int))=none:=fj
          rw [fj] at n1
          cases hi:m' i with
          | none=>
            rw [hi] at fi
            have fi:J9 kvs' (.inl (i:Int))=none:=fi
            rw [fi] at n2
            generalize S ++ [Cell.dic kvs']=S1 at *
            generalize S.length=sl at *
            simp -implicitDefEqProofs [Zm,n1,n2]
          | some q=>
            rw [hi] at fi
            have fi:J9 kvs' (.inl (i:Int))=some (.tup [.int (q.1:Nat),frV q.2]):=fi
            have g:=hD.get fi
            rw [fi] at n2
            have hq':¬ ((q.1:Int)<=(t:Int)):=fun z=>hit ⟨hj,q,hi,by omega⟩
            generalize frV q.2=fq at *
            generalize S ++ [Cell.dic kvs']=S1 at *
            generalize S.length=sl at *
            simp -implicitDefEqProofs [Zm,n1,n2,g,hq',atI,ixN])
    ⟨_,_,kvs,m,rfl,rfl,hF,hA,by simp⟩
  exact ⟨b5,b6,kvs',m',h1,h2,by omega,e⟩
theorem Jm {S:Q1} {V:PV} {xs:List PV} (h:ListAt S V xs) (T:Q1):ListAt (S ++ T) V xs:=listAt_app h fun t ht=>.inl (O3 ht)
theorem K4 {V:PV} {rss:List (List (Nat × Nat))} {S:Q1} (hV:ListAt S V (rss.map Jz)) (hlen:rss.length<=40) (hrl:∀ rs∈rss,rs.length<=100) {house mom:Nat} (hm:mom<=rss.length) :
    ∃ kvs m,Fd kvs m/\Arr rss house mom rss.length rss.length [] m/\Y2 [V,.int house,.int mom] S=.ok (.ref S.length) (S ++ [.dic kvs]):=by
  have F0:Fd [(.inl (house:Int),.tup [.int mom,.non])] (fun k=>if k=house then some (mom,none) else none):=fun j=>by
    by_cases z:j=house
    · subst z; simp [J9,frV]
    · simp [J9,z,show ¬ ((house:Int)=(j:Int)) by omega]
  have A0:Arr rss house mom mom mom [] (fun k=>if k=house then some (mom,none) else none):=⟨if_pos rfl,fun k p e hk=>(by rw [if_neg hk] at e; cases e),fun t' rs i j q h1 h2=>(by omega),fun i j q h=>(by cases h)⟩
  obtain ⟨Γ',st',e,b4,b5,b6,kvs',m',rfl,rfl,h1,h2,h3⟩:=V5 (g:=fun k:Nat=>PV.int ((mom:Int) + (k:Int))) (xs:=List.range (rss.length - mom)) (ga:=Qg 4) (body:=Vh) (w:=[]) (Γ:=arΓ V house mom S.length none none none) (st:=S ++ [.dic [(.inl (house:Int),.tup [.int mom,.non])]])
    (fun i Γ st'=>∃ b4 b5 b6 kvs' m',Γ=arΓ V house mom S.length b4 b5 b6/\st'=S ++ [.dic kvs']/\Fd kvs' m'/\Arr rss house mom (mom + i) (mom + i) [] m'/\kvs'.length<=1 + 100 * i)
    (fun _ _ _ _=>by simp)
    (fun i x Γ st' hx ⟨b4,b5,b6,kvs',m',e1,e2,F',A',l'⟩=>by
      subst e1; subst e2
      have hi:i < rss.length - mom:=by simpa using (O0.mp hx).1
      have hxi:x=i:=by
        rw [List.getElem?_range hi] at hx
        exact (Option.some.inj hx).symm
      subst hxi
      have hti:mom + x < rss.length:=by omega
      have hr:rss[mom + x]?=some rss[mom + x]:=O2 hti
      obtain ⟨c5,c6,kvs2,m2,F2,A2,l2,e2⟩:=arr_in (V:=V) (S:=S) (Nat.le_add_right mom x) hr (hrl _ (List.getElem_mem hti)) F' (A'.wide (Nat.le_succ _)) (by omega) b5 b6
      refine ⟨_,rfl,arΓ V house mom S.length (some (.int (mom + x:Nat))) c5 c6,S ++ [.dic kvs2],?_,_,_,_,kvs2,m2,rfl,rfl,F2,(A2.next hr),by omega⟩
      have hix:oIx (S ++ [.dic kvs']) V (.int ((mom + x:Nat):Int))=.ok (Jz rss[mom + x]) (S ++ [.dic kvs']):=by
        rw [(Jm hV _).ix,jw,Sm.atI_get hr]; rfl
      have hrn:Jz rss[mom + x]=.tup (rss[mom + x].map rdV):=rfl
      have hl2:(rss[mom + x].map rdV).length<=1000000:=by rw [O5]; have:=hrl _ (List.getElem_mem hti); omega
      rw [hrn] at hix
      rw [show (mom:Int) + (x:Int)=((mom + x:Nat):Int) by push_cast; rfl]
      show Vh [some V,some (.int house),some (.int mom),some (.ref S.length),some (.int ((mom + x:Nat):Int)),b5,b6] (S ++ [.dic kvs'])=_
      unfold arΓ at e2 ⊢
      generalize ((mom + x:Nat):Int)=tt at *
      generalize rss[mom + x].map rdV=rv at *
      generalize S ++ [Cell.dic kvs']=S1 at *
      generalize S ++ [Cell.dic kvs2]=S2 at *
      simp -implicitDefEqProofs [Vh,hix,J8,hl2,e2])
    ⟨_,_,_,_,_,rfl,rfl,F0,A0,by simp⟩
  rw [G6] at h2
  rw [show mom + (rss.length - mom)=rss.length by omega] at h2
  refine ⟨kvs',m',h1,h2,?_⟩
  have hcl:Yk (S ++ [.dic [(.inl (house:Int),.tup [.int mom,.non])]]) [V]=.ok (.int rss.length) (S ++ [.dic [(.inl (house:Int),.tup [.int mom,.non])]]):=by
    rw [(Jm hV _).len,O5]
  have hrg:Ze (mom:Int) (rss.length - mom)=(List.range (rss.length - mom)).map fun k:Nat=>PV.int ((mom:Int) + (k:Int)):=rangeI_eq _ _
  have b1:-1000000<=(mom:Int)/\(mom:Int)<=1000000/\-1000000<=(rss.length:Int)/\(rss.length:Int)<=1000000:=by omega
  rw [<- hrg] at e
  have step:Vv [some V,some (.int house),some (.int mom),none,none,none,none] S=.rt (.ref S.length) (S ++ [.dic kvs']):=by
    unfold arΓ at e
    obtain ⟨b1,b2,b3,b4'⟩:=b1
    simp -implicitDefEqProofs [Vv,J8,hcl,b1,b2,b3,b4',e]
  show Zh Vv 7 _ S=_
  unfold Zh
  rw [show (([V,.int house,.int mom]:List PV).map some ++ List.replicate (7 - [V,.int house,.int mom].length) none)=[some V,some (.int house),some (.int mom),none,none,none,none] from rfl,step]
def moV:Option Nat->PV
  | none=>.non
  | some t=>.int (t:Nat)
def moM (m:Mo) (k:Nat):Option Nat:=(m k).map (·.1)
theorem moment_ok {S:Q1} {V:PV} {kvs:List (Key × PV)} {m:Mo} (hD:DicAt S V kvs) (hF:Fd kvs m) (k:Nat):Zn [V,.int k] S=.ok (moV (moM m k)) S:=by
  have n1:=hD.inn (k:=(k:Int)) false
  have fk:=hF k
  unfold moM
  cases hk:m k with
  | none=>
    rw [hk] at fk
    have fk:J9 kvs (.inl (k:Int))=none:=fk
    rw [fk] at n1
    simp -implicitDefEqProofs [Zn,Qs,U6,n1,moV]
  | some q=>
    rw [hk] at fk
    have fk:J9 kvs (.inl (k:Int))=some (.tup [.int (q.1:Nat),frV q.2]):=fk
    have g:=hD.get fk
    rw [fk] at n1
    generalize frV q.2=fq at *
    simp -implicitDefEqProofs [Zn,Qs,U6,n1,g,moV,atI,ixN]
def Qr (n:Nat) (f:Nat->Option Nat):List (Key × PV):=(List.range n).map fun k:Nat=>((.inl (k:Int):Key),moV (f k))
theorem xx (n:Nat) (f:Nat->Option Nat):∀ k:Nat,J9 (Qr n f) (.inl (k:Int))=if k < n then some (moV (f k)) else none:=by
  induction n with
  | zero=>intro k; rfl
  | succ n ih=>
    intro k
    have e:Qr (n + 1) f=Qr n f ++ [(.inl (n:Int),moV (f n))]:=by unfold Qr; rw [List.range_succ,F7]; rfl
    rw [e,jz,ih k]
    by_cases h:k < n
    · rw [if_pos h,if_pos (show k < n + 1 by omega)]
    · rw [if_neg h]
      by_cases z:k=n
      · subst z; simp
      · rw [if_neg (show ¬ k < n + 1 by omega)]
        have:¬ ((.inl (k:Int):Key)=.inl (n:Int)):=fun q=>z (by have:=Sum.inl.inj q; omega)
        simp [this]
theorem ask_pairs (n:Nat) (f:Nat->Option Nat):Xn ((List.range n).map fun k:Nat=>PV.tup [.int (k:Nat),moV (f k)])=some (Qr n f):=by
  have key:∀ l:List Nat,Xn (l.map fun k:Nat=>PV.tup [.int (k:Nat),moV (f k)])=some (l.map fun k:Nat=>((.inl (k:Int):Key),moV (f k))):=by
    intro l
    induction l with
    | nil=>rfl
    | cons a l ih=>rw [D0,D0,Xn,ih]; rfl
  exact key _
theorem ask_merge (n:Nat) (f:Nat->Option Nat):mergeP [] (Qr n f)=Qr n f:=by
  induction n with
  | zero=>rfl
  | succ n ih=>
    have e:Qr (n + 1) f=Qr n f ++ [(.inl (n:Int),moV (f n))]:=by unfold Qr; rw [List.range_succ,F7]; rfl
    rw [e]
    unfold mergeP at ih ⊢
    rw [List.foldl_append,ih]
    show Kp (Qr n f) (.inl (n:Int)) (moV (f n))=_
    rw [putP_new _ (by rw [xx,if_neg (by omega)])]
theorem askD_len (n:Nat) (f:Nat->Option Nat):(Qr n f).length=n:=by unfold Qr; simp
theorem dictP_ask {S:Q1} (n:Nat) (f:Nat->Option Nat):zw S [.lst ((List.range n).map fun k:Nat=>PV.tup [.int (k:Nat),moV (f k)])]=.ok (.ref S.length) (S ++ [.dic (Qr n f)]):=by
  unfold zw
  simp only [listOf_lst,ask_pairs,ask_merge]
theorem y0 {V:PV} {rss:List (List (Nat × Nat))} {S:Q1} (hV:ListAt S V (rss.map Jz)) (hlen:rss.length<=40) (hrl:∀ rs∈rss,rs.length<=100) {n house:Nat} (hn:n<=8) :
    ∃ kvs m,Arr rss house 0 rss.length rss.length [] m/\Qk [.int n,V,.int house] S=.ok (.ref (S.length + 1)) (S ++ [.dic kvs,.dic (Qr n (moM m))]):=by
  obtain ⟨kvs,m,F,A,e⟩:=K4 hV hlen hrl (house:=house) (mom:=0) (Nat.zero_le _)
  rw [show ((0:Nat):Int)=0 from rfl] at e
  refine ⟨kvs,m,A,?_⟩
  have hD:DicAt (S ++ [.dic kvs]) (.ref S.length) kvs:=⟨_,rfl,.inl (by simp)⟩
  have hc:Z2 (Qg 0) Wg Wk [] (Zj [none,some 3] [some (.int n),some V,some (.int house),some (.ref S.length)]) (Ze 0 n) (S ++ [.dic kvs])=.ok ((List.range n).map fun k:Nat=>PV.tup [.int (k:Nat),moV (moM m k)]) (S ++ [.dic kvs]):=by
    rw [Uz]
    refine U0 _ _ (by simp) fun k hk=>⟨_,rfl,?_⟩
    have:=moment_ok hD F k
    generalize moV (moM m k)=mv at *
    generalize S ++ [Cell.dic kvs]=S1 at *
    simp -implicitDefEqProofs [Zj,Wk,this,J8]
  have hd:=dictP_ask (S:=S ++ [.dic kvs]) n (moM m)
  have hb:-1000000<=(n:Int)/\(n:Int)<=1000000:=by omega
  rw [F4,D5] at hd
  have hd:zw (S ++ [.dic kvs]) [.lst ((List.range n).map fun k:Nat=>PV.tup [.int (k:Nat),moV (moM m k)])]=.ok (.ref (S.length + 1)) (S ++ [.dic kvs,.dic (Qr n (moM m))]):=hd
  have step:Y3 [some (.int n),some V,some (.int house),none] S=.rt (.ref (S.length + 1)) (S ++ [.dic kvs,.dic (Qr n (moM m))]):=by
    generalize ((List.range n).map fun k:Nat=>PV.tup [.int (k:Nat),moV (moM m k)])=pv at *
    generalize S ++ [Cell.dic kvs,Cell.dic (Qr n (moM m))]=S2 at *
    generalize S ++ [Cell.dic kvs]=S1 at *
    simp -implicitDefEqProofs [Y3,e,J8,hb,hc,hd]
  show Zh Y3 4 _ S=_
  unfold Zh
  rw [show (([.int n,V,.int house]:List PV).map some ++ List.replicate (4 - [PV.int n,V,.int house].length) none)=[some (.int n),some V,some (.int house),none] from rfl,step]
theorem yz {V:PV} {rss:List (List (Nat × Nat))} {S:Q1} (hV:ListAt S V (rss.map Jz)) (hlen:rss.length<=40) {n house:Nat} (hrs:∀ rs∈rss,RsOk n rs) (hn1:1<=n) (hn8:n<=8) (hh:house < n):J2 [.int n,V,.int house] S=.ok .non S:=by
  have h1:J1 [.int n,V] S=.ok (.bl true) S:=by
    have:=j7 (n:=n) hn1 hn8 (zs:=rss.map fun rs=>(Jz rs,true)) (by simpa using hlen) (V:=V) (st:=S) (by rw [F5]; exact hV) (fun z hz=>by
      obtain ⟨u,hu,rfl⟩:=List.mem_map.mp hz
      have ou:=hrs u hu
      rw [Q0e ou.ok (by have:=ou.len; omega) S,yy ou.inc])
    rw [this]
    congr 2
    rw [F5,List.all_map]
    simp
  have h2:=Vg (house:Int) 0 ((n:Int) - 1) S
  have h3:(decide ((0:Int)<=house) && decide ((house:Int)<=(n:Int) - 1))=true:=by simp; omega
  rw [h3] at h2
  simp -implicitDefEqProofs [J2,Qs,Z6,h1,h2]
@[simp] theorem mThaw_eq (m:MS) (Γ:Gam) (st:Q1):mThaw m Γ st=(match m Γ st with
  | .nx Γ' st'=>.nx Γ' (Kt st st' st.length)
  | r=>r):=rfl
theorem set_back {S:Q1} {D:Nat} {c d:Cell} (h:S[D]?=some c):(S.set D d).set D c=S:=by
  rw [List.set_set]
  refine List.ext_getElem? fun t=>?_
  by_cases z:D=t
  · subst z; rw [D9 (O0.mp h).1,h]
  · rw [E3 z]
theorem Q28 {S:Q1} {D:Nat} {kvs:List (Key × PV)} (h:S[D]?=some (.dic kvs)):∀ n,Kt S (S.set D (.frd kvs)) n=if D < n then S else S.set D (.frd kvs)
  | 0=>by rw [if_neg (by omega)]; rfl
  | n + 1=>by
    have hl:=(O0.mp h).1
    rw [Kt,Q28 h n]
    by_cases q:D < n
    · rw [if_pos q,if_pos (by omega)]
      split
      · rename_i e1 e2
        rw [e1] at e2; cases e2
      · rfl
    · rw [if_neg q]
      by_cases z:D=n
      · subst z
        rw [D9 hl,h,if_pos (by omega)]
        exact set_back h
      · rw [E3 z,if_neg (by omega)]
        split
        · rename_i e1 e2
          rw [e1] at e2; cases e2
        · rfl
theorem keys_ask (n:Nat) (f:Nat->Option Nat):(Qr n f).map (fun kv=>kP kv.1)=(List.range n).map fun k:Nat=>PV.int (k:Int):=by
  unfold Qr; rw [F5]; rfl
theorem wOk_set {S:Q1} {D:Nat} (hl:D < S.length) (c:Cell):wOk [(D,c)] (S.set D c):=fun x hx=>by
  have:x=(D,c):=by simpa using hx
  subst this
  rw [D9 hl]
theorem askD_get {S:Q1} {V:PV} {n:Nat} {f:Nat->Option Nat} (h:DicAt S V (Qr n f)) {k:Nat} (hk:k < n):Q1h S V (.int k)=.ok (moV (f k)) S:=h.get (by rw [xx,if_pos hk])
inductive Pa (rss:List (List (Nat × Nat))):Nat->Nat->Nat->Nat->Prop
  | refl (i a:Nat):Pa rss i a i a
  | wait {i a j b:Nat} (h:Pa rss i a j b) (hb:b < rss.length):Pa rss i a j (b + 1)
  | move {i a j b k:Nat} {rs:List (Nat × Nat)} (h:Pa rss i a j b) (hr:rss[b]?=some rs) (hm:(j,k)∈rs):Pa rss i a k (b + 1)
theorem Pa.le {rss:List (List (Nat × Nat))} {i a j b:Nat} (h:Pa rss i a j b):a<=b:=by
  induction h with
  | refl=>exact O6 _
  | wait _ _ ih=>omega
  | move _ _ _ ih=>omega
theorem Pa.trans {rss:List (List (Nat × Nat))} {i a j b k c:Nat} (h:Pa rss i a j b) (g:Pa rss j b k c):Pa rss i a k c:=by
  induction g with
  | refl=>exact h
  | wait _ hb ih=>exact ih.wait hb
  | move _ hr hm ih=>exact ih.move hr hm
theorem Pa.stay {rss:List (List (Nat × Nat))} (i a:Nat):∀ d,a + d<=rss.length->Pa rss i a i (a + d)
  | 0,_=>.refl i a
  | d + 1,h=>(Pa.stay i a d (by omega)).wait (by omega)
theorem Pa.stayTo {rss:List (List (Nat × Nat))} (i:Nat) {a b:Nat} (h:a<=b) (hb:b<=rss.length):Pa rss i a i b:=by
  have:=Pa.stay (rss:=rss) i a (b - a) (by omega)
  rwa [show a + (b - a)=b by omega] at this
theorem jm (P:Nat->Prop) (h:∃ n,P n):∃ n,P n/\∀ k,P k->n<=k:=by
  obtain ⟨n,hn⟩:=h
  induction n using Nat.strongRecOn with
  | ind n ih=>
    by_cases z:∃ k,k < n/\P k
    · obtain ⟨k,h1,h2⟩:=z
      exact ih k h1 h2
    · exact ⟨n,hn,fun k hk=>Nat.le_of_not_lt fun q=>z ⟨k,q,hk⟩⟩
open Classical in
def Yf (rss:List (List (Nat × Nat))) (i a j:Nat):Option Nat:=if h:∃ t,Pa rss i a j t then some (Classical.choose (jm _ h)) else none
theorem Q1e {rss:List (List (Nat × Nat))} {i a j b:Nat} (h:Yf rss i a j=some b):Pa rss i a j b/\∀ t,Pa rss i a j t->b<=t:=by
  unfold Yf at h
  split at h
  · rename_i q
    cases h
    exact Classical.choose_spec (jm _ q)
  · cases h
theorem fst_of {rss:List (List (Nat × Nat))} {i a j t:Nat} (h:Pa rss i a j t):∃ b,Yf rss i a j=some b/\b<=t:=by
  have q:∃ t,Pa rss i a j t:=⟨t,h⟩
  refine ⟨Classical.choose (jm _ q),by unfold Yf; rw [dif_pos q],(Classical.choose_spec (jm _ q)).2 t h⟩
theorem arr_pa {rss:List (List (Nat × Nat))} {house mom:Nat} {m:Mo} (A:Arr rss house mom rss.length rss.length [] m):∀ (t k:Nat) (p:Nat × Option Nat),m k=some p->p.1=t->Pa rss house mom k t:=by
  intro t
  induction t using Nat.strongRecOn with
  | ind t ih=>
    intro k p hk ht
    by_cases z:k=house
    · subst z
      rw [A.a] at hk
      cases hk
      subst ht
      exact .refl _ _
    · obtain ⟨i,_,h1,h2,⟨rs,h3,h4⟩,q,h5,h6⟩:=A.b k p hk z
      have hq:=ih q.1 (by omega) i q h5 rfl
      have hw:=hq.trans (Pa.stayTo (rss:=rss) i (show q.1<=p.1 - 1 by omega) (by omega))
      have:=hw.move h3 h4
      rwa [show p.1 - 1 + 1=t by omega] at this
theorem pa_arr {rss:List (List (Nat × Nat))} {house mom:Nat} {m:Mo} (A:Arr rss house mom rss.length rss.length [] m) {k t:Nat} (h:Pa rss house mom k t):∃ p,m k=some p/\p.1<=t:=by
  induction h with
  | refl=>exact ⟨_,A.a,O6 _⟩
  | wait h hb ih=>
    obtain ⟨p,h1,h2⟩:=ih
    exact ⟨p,h1,by omega⟩
  | move h hr hm ih=>
    obtain ⟨p,h1,h2⟩:=ih
    exact A.c _ _ _ _ p h.le (O0.mp hr).1 hr hm h1 h2
theorem arr_fst {rss:List (List (Nat × Nat))} {house mom:Nat} {m:Mo} (A:Arr rss house mom rss.length rss.length [] m):moM m=Yf rss house mom:=by
  funext k
  unfold moM
  cases hk:m k with
  | none=>
    cases z:Yf rss house mom k with
    | none=>rfl
    | some b=>
      obtain ⟨p,h1,_⟩:=pa_arr A (Q1e z).1
      rw [hk] at h1; cases h1
  | some p=>
    obtain ⟨b,h1,h2⟩:=fst_of (arr_pa A p.1 k p hk rfl)
    obtain ⟨q,h3,h4⟩:=pa_arr A (Q1e h1).1
    rw [hk] at h3
    cases h3
    rw [h1]
    show some p.1=some b
    congr 1
    omega
theorem fst_le {rss:List (List (Nat × Nat))} {i a j b:Nat} (h:Yf rss i a j=some b) (ha:a<=rss.length):b<=rss.length/\a<=b:=by
  have h:=(Q1e h).1
  refine ⟨?_,h.le⟩
  induction h with
  | refl=>exact ha
  | wait h hb _=>omega
  | move h hr _ _=>exact (O0.mp hr).1
def Qw (rss:List (List (Nat × Nat))) (house k:Nat):Option Nat:=match Yf rss house 0 k with
  | none=>none
  | some a=>Yf rss k a house
theorem Vm {V:PV} {rss:List (List (Nat × Nat))} {S:Q1} (hV:ListAt S V (rss.map Jz)) (hlen:rss.length<=40) (hrl:∀ rs∈rss,rs.length<=100) {n house:Nat} (hn:n<=8) :
    ∃ kvs,Qk [.int n,V,.int house] S=.ok (.ref (S.length + 1)) (S ++ [.dic kvs,.dic (Qr n (Yf rss house 0))]):=by
  obtain ⟨kvs,m,A,e⟩:=y0 hV hlen hrl (n:=n) (house:=house) hn
  rw [arr_fst A] at e
  exact ⟨kvs,e⟩
theorem ask_put (i:Nat) (f:Nat->Option Nat):Kp (Qr i f) (.inl (i:Int)) (moV (f i))=Qr (i + 1) f:=by
  rw [putP_new _ (by rw [xx,if_neg (by omega)])]
  unfold Qr
  rw [List.range_succ,F7]; rfl
theorem momArr_ok {V:PV} {rss:List (List (Nat × Nat))} {S:Q1} (hV:ListAt S V (rss.map Jz)) (hlen:rss.length<=40) (hrl:∀ rs∈rss,rs.length<=100) {k a house:Nat} (ha:a<=rss.length) :
    ∃ kvs,Y2 [V,.int k,.int a] S=.ok (.ref S.length) (S ++ [.dic kvs])/\Zn [.ref S.length,.int house] (S ++ [.dic kvs])=.ok (moV (Yf rss k a house)) (S ++ [.dic kvs]):=by
  obtain ⟨kvs,m,F,A,e⟩:=K4 hV hlen hrl (house:=k) (mom:=a) ha
  have:=moment_ok (S:=S ++ [.dic kvs]) (V:=.ref S.length) ⟨_,rfl,.inl (by simp)⟩ F house
  rw [arr_fst A] at this
  exact ⟨kvs,e,this⟩
abbrev hmΓ (n:Nat) (V:PV) (house D:Nat) (a4 a5:Option PV):Gam:=[some (.int n),some V,some (.int house),some (.ref D),a4,a5]
theorem items_ask (n:Nat) (f:Nat->Option Nat):(Qr n f).map (fun kv=>PV.tup [kP kv.1,kv.2])=(List.range n).map fun k:Nat=>PV.tup [.int (k:Int),moV (f k)]:=by
  unfold Qr; rw [F5]; rfl
theorem Yz {V:PV} {rss:List (List (Nat × Nat))} {S:Q1} (hV:ListAt S V (rss.map Jz)) (hlen:rss.length<=40) (hrl:∀ rs∈rss,rs.length<=100) {n house:Nat} (hn:n<=8) :
    ∃ ex,Jc [.int n,V,.int house] S=.ok (.ref S.length) (S ++ .dic (Qr n (Qw rss house)) :: ex):=by
  obtain ⟨kvs,e1⟩:=Vm (Jm hV [.dic []]) hlen hrl (n:=n) (house:=house) hn
  obtain ⟨ad,had⟩:∃ ad,Qr n (Yf rss house 0)=ad:=⟨_,rfl⟩
  rw [D5,F4,had] at e1
  have e1:Qk [.int n,V,.int house] (S ++ [.dic []])=.ok (.ref (S.length + 2)) (S ++ [.dic [],.dic kvs,.dic ad]):=e1
  have hset:(S ++ [Cell.dic [],Cell.dic kvs,Cell.dic ad]).set (S.length + 2) (.frd ad)=S ++ [.dic [],.dic kvs,.frd ad]:=by
    rw [List.set_append_right _ _ (by omega),show S.length + 2 - S.length=2 by omega]; rfl
  have hdw:zt (S ++ [.dic [],.dic kvs,.dic ad]) (S.length + 2)=some ad:=by
    unfold zt
    rw [O8 (by omega),show S.length + 2 - S.length=2 by omega]; rfl
  have hadl:ad.length=n:=by rw [<- had]; exact askD_len _ _
  obtain ⟨Γ',st',e,b4,b5,ex,rfl,rfl,hex⟩:=V5 (g:=fun k:Nat=>PV.tup [.int (k:Int),moV (Yf rss house 0 k)]) (xs:=List.range n) (ga:=Up (Jq (Qg 4) (Jq (Qg 5) Uq))) (body:=Zz) (w:=[(S.length + 2,.frd ad)]) (Γ:=hmΓ n V house S.length none none) (st:=S ++ [.dic [],.dic kvs,.frd ad])
    (fun i Γ st'=>∃ b4 b5 ex,Γ=hmΓ n V house S.length b4 b5/\st'=S ++ .dic (Qr i (Qw rss house)) :: ex/\ex[1]?=some (.frd ad))
    (fun i Γ st' ⟨b4,b5,ex,h1,h2,h3⟩=>fun y hy=>by
      have:y=(S.length + 2,.frd ad):=by simpa using hy
      subst this
      subst h2
      rw [O8 (by show S.length<=S.length + 2; omega)]
      show (Cell.dic (Qr i (Qw rss house)) :: ex)[S.length + 2 - S.length]?=some (.frd ad)
      rw [show S.length + 2 - S.length=2 by omega]
      exact h3)
    (fun i x Γ st' hx ⟨b4,b5,ex,h1,h2,h3⟩=>by
      subst h1; subst h2
      have hi:i < n:=by simpa using (O0.mp hx).1
      have hxi:x=i:=by
        rw [List.getElem?_range hi] at hx
        exact (Option.some.inj hx).symm
      subst hxi
      have hex0:∀ c,(ex ++ [c])[1]?=some (.frd ad):=fun c=>by rw [O3 (O0.mp h3).1]; exact h3
      have hlx:(Qr x (Qw rss house)).length < 1000000:=by rw [askD_len]; omega
      refine ⟨_,rfl,?_⟩
      show ∃ Γ2 st2,Zz [some (.int n),some V,some (.int house),some (.ref S.length),some (.int x),some (moV (Yf rss house 0 x))] (S ++ .dic (Qr x (Qw rss house)) :: ex)=.nx Γ2 st2/\_
      cases hf:Yf rss house 0 x with
      | none=>
        have hh:Qw rss house x=none:=by unfold Qw; rw [hf]
        have dp:=dput_at (S:=S ++ .dic (Qr x (Qw rss house)) :: ex) (i:=S.length) (kvs:=Qr x (Qw rss house)) (k:=(x:Int)) (v:=.non) (by simp) hlx
        have ap:=ask_put x (Qw rss house)
        rw [hh] at ap
        have ap:Kp (Qr x (Qw rss house)) (.inl (x:Int)) .non=Qr (x + 1) (Qw rss house):=ap
        rw [tr_set,ap] at dp
        refine ⟨hmΓ n V house S.length (some (.int x)) (some .non),S ++ .dic (Qr (x + 1) (Qw rss house)) :: ex,?_,_,_,ex,rfl,rfl,h3⟩
        generalize S ++ Cell.dic (Qr x (Qw rss house)) :: ex=S1 at *
        generalize S ++ Cell.dic (Qr (x + 1) (Qw rss house)) :: ex=S2 at *
        simp -implicitDefEqProofs [Zz,moV,Kx,dp]
      | some a=>
        have hh:Qw rss house x=Yf rss x a house:=by unfold Qw; rw [hf]
        obtain ⟨kv2,e2,e3⟩:=momArr_ok (Jm hV (.dic (Qr x (Qw rss house)) :: ex)) hlen hrl (k:=x) (a:=a) (house:=house) (fst_le hf (Nat.zero_le _)).1
        rw [<- hh] at e3
        have happ:(S ++ .dic (Qr x (Qw rss house)) :: ex) ++ [.dic kv2]=S ++ .dic (Qr x (Qw rss house)) :: (ex ++ [.dic kv2]):=by simp
        have dp:=dput_at (S:=S ++ .dic (Qr x (Qw rss house)) :: (ex ++ [.dic kv2])) (i:=S.length) (kvs:=Qr x (Qw rss house)) (k:=(x:Int)) (v:=moV (Qw rss house x)) (by simp) hlx
        rw [tr_set,ask_put] at dp
        rw [happ] at e2 e3
        refine ⟨hmΓ n V house S.length (some (.int x)) (some (.int a)),S ++ .dic (Qr (x + 1) (Qw rss house)) :: (ex ++ [.dic kv2]),?_,_,_,ex ++ [.dic kv2],rfl,rfl,hex0 _⟩
        generalize S ++ Cell.dic (Qr x (Qw rss house)) :: (ex ++ [Cell.dic kv2])=S2 at *
        generalize S ++ Cell.dic (Qr (x + 1) (Qw rss house)) :: (ex ++ [Cell.dic kv2])=S3 at *
        generalize moV (Qw rss house x)=hv at *
        generalize hz:(S ++ Cell.dic (Qr x (Qw rss house)) :: ex)=S1 at *
        generalize List.length S1=l1 at *
        simp -implicitDefEqProofs [Zz,moV,Kx,e2,e3,dp])
    ⟨_,_,[.dic kvs,.frd ad],rfl,rfl,rfl⟩
  rw [G6] at *
  refine ⟨ex,?_⟩
  rw [<- items_ask n (Yf rss house 0),had] at e
  have hit:qj (Qj 3 Qk (Q3 (Q4 0) (Q3 (Q4 1) (Q3 (Q4 2) Qc)))) (hmΓ n V house S.length none none) (S ++ [.dic []])=.ok (ad.map (fun kv=>.tup [kP kv.1,kv.2]),[(S.length + 2,.frd ad)]) (S ++ [.dic [],.dic kvs,.frd ad]):=by
    have hc:Qj 3 Qk (Q3 (Q4 0) (Q3 (Q4 1) (Q3 (Q4 2) Qc))) (hmΓ n V house S.length none none) (S ++ [.dic []])=.ok (.ref (S.length + 2)) (S ++ [.dic [],.dic kvs,.dic ad]):=by
      unfold hmΓ
      simp -implicitDefEqProofs [e1]
    have hio:Vf (S ++ [.dic [],.dic kvs,.dic ad]) (.ref (S.length + 2))=some (ad.map (fun kv=>.tup [kP kv.1,kv.2]),S.length + 2,ad):=by
      simp only [Vf,hdw]
    unfold qj
    rw [hc]
    show (match Vf (S ++ [.dic [],.dic kvs,.dic ad]) (.ref (S.length + 2)) with
      | some (ks,i,kvs')=>if ks.length<=lim then Res.ok (ks,[(i,Cell.frd kvs')]) ((S ++ [Cell.dic [],Cell.dic kvs,Cell.dic ad]).set i (.frd kvs')) else .stuck
      | none=>.stuck)=_
    rw [hio]
    show (if (ad.map (fun kv=>PV.tup [kP kv.1,kv.2])).length<=lim then Res.ok (ad.map (fun kv=>PV.tup [kP kv.1,kv.2]),[(S.length + 2,Cell.frd ad)]) ((S ++ [Cell.dic [],Cell.dic kvs,Cell.dic ad]).set (S.length + 2) (.frd ad)) else .stuck)=_
    rw [if_pos (by rw [O5,J8]; omega),hset]
  have step:Yh [some (.int n),some V,some (.int house),none,none,none] S=.rt (.ref S.length) (S ++ .dic (Qr n (Qw rss house)) :: ex):=by
    unfold Yh
    rw [Yv]
    show (match Jp 3 Q12 [some (.int n),some V,some (.int house),none,none,none] S with | .nx Γ1 st1=>_ | r=>r)=_
    have s1:Jp 3 Q12 [some (.int n),some V,some (.int house),none,none,none] S=.nx (hmΓ n V house S.length none none) (S ++ [.dic []]):=by
      simp -implicitDefEqProofs
    rw [s1]
    show Qh _ _ _ _=_
    rw [Yv,mFor_eq,hit,Q0c,e]
    show Z4 _ _ _=_
    simp -implicitDefEqProofs
  show Zh Yh 6 _ S=_
  unfold Zh
  rw [show (([.int n,V,.int house]:List PV).map some ++ List.replicate (6 - [PV.int n,V,.int house].length) none)=[some (.int n),some V,some (.int house),none,none,none] from rfl,step]
theorem good_mo (o:Option Nat):Ye 0 (moV o)=true:=by cases o <;> rfl
theorem plain_ask (n:Nat) (f:Nat->Option Nat):qd (Qr n f)=true:=by
  unfold qd Qr
  rw [List.all_map,F9]
  intro k _; exact good_mo _
theorem rnd_one {n:Nat} {x:PV} {st:Q1} (h:Y9 [.int n,x] st=.ok (.bl false) st):Qi [.int n,.tup [x]] st=.ok (.bl false) st:=
  (round_of (n:=n) (zs:=[(x,false)]) (by simp) st (fun z hz=>by rw [List.mem_singleton.mp hz]; exact h)).1 rfl
theorem rnd_not {n:Nat} {V:PV} {st:Q1} (h1:isI "tuple" (dpv st V)=false) (h2:K1 st V=false):Qi [.int n,V] st=.ok (.bl false) st:=by
  simp -implicitDefEqProofs [Qi,Qs,Jw,h1,h2]
theorem btw8 {n:Nat} (h1:1<=n) (h8:n<=8) (st:Q1):J5 [.int n,.int 1,.int 8] st=.ok (.bl true) st:=by
  have hb:=Vg (n:Int) 1 8 st
  have hbb:(decide ((1:Int)<=n) && decide ((n:Int)<=8))=true:=by simp; omega
  rw [hbb] at hb
  exact hb
theorem rds_not {n:Nat} (h1:1<=n) (h8:n<=8) {V:PV} {st:Q1} (q1:isI "list" (dpv st V)=false) (q2:K1 st V=false):J1 [.int n,V] st=.ok (.bl false) st:=by
  have hb:=btw8 h1 h8 st
  simp -implicitDefEqProofs [J1,Qs,V2,hb,q1,q2]
theorem rds_long {n:Nat} (h1:1<=n) (h8:n<=8) {xs:List PV} (hl:40 < xs.length) (st:Q1):J1 [.int n,.lst xs] st=.ok (.bl false) st:=by
  have hb:=btw8 h1 h8 st
  have hl':(40:Int) < (xs.length:Int):=by omega
  simp -implicitDefEqProofs [J1,Qs,V2,hb,isI,tyN,hl,hl']
theorem ja {n:Nat} (h1:1<=n) (h8:n<=8) {rss:List (List (Nat × Nat))} (hlen:rss.length<=8) (hrs:∀ rs∈rss,RsOk n rs) {x:PV} {st:Q1} (hx:Qi [.int n,x] st=.ok (.bl false) st):J1 [.int n,.lst (rss.map Jz ++ [x])] st=.ok (.bl false) st/\J1 [.int n,.lst (x :: rss.map Jz)] st=.ok (.bl false) st:=by
  have hz:∀ z∈rss.map (fun rs=>(Jz rs,true)),Qi [.int n,z.1] st=.ok (.bl z.2) st:=fun z hz=>by
    obtain ⟨u,hu,rfl⟩:=List.mem_map.mp hz
    have ou:=hrs u hu
    rw [Q0e ou.ok (by have:=ou.len; omega) st,yy ou.inc]
  have e1:(rss.map fun rs=>(Jz rs,true)).map Prod.fst=rss.map Jz:=by rw [F5]; rfl
  constructor
  · have:=j7 (n:=n) h1 h8 (zs:=rss.map (fun rs=>(Jz rs,true)) ++ [(x,false)]) (by simp; omega) (V:=.lst (rss.map Jz ++ [x])) (st:=st) (.inl (by rw [F7,e1]; rfl)) (fun z h=>by
      rcases E7.mp h with h | h
      · exact hz z h
      · rw [List.mem_singleton.mp h]; exact hx)
    rw [this]; simp
  · have:=j7 (n:=n) h1 h8 (zs:=(x,false) :: rss.map (fun rs=>(Jz rs,true))) (by simp; omega) (V:=.lst (x :: rss.map Jz)) (st:=st) (.inl (by rw [D0,e1])) (fun z h=>by
      rcases D6.mp h with h | h
      · rw [h]; exact hx
      · exact hz z h)
    rw [this]; simp
def ju (n:Nat) (rv:List PV):List PV:=[.lst (rv ++ [.tup [.tup [.int n,.int 0]]]),.lst (.tup [.tup [.int 0,.int 0]] :: rv),.lst (rv ++ [.tup [.tup [.int 0,.int (-1)]]]),.tup (rv ++ [.tup []]),.lst (rv ++ [.non]),.lst (rv ++ List.replicate 41 (.tup [])),.non,.lst (rv ++ [.lst []])]
theorem badR_no {n:Nat} (h1:1<=n) (h8:n<=8) {rss:List (List (Nat × Nat))} (hlen:rss.length<=8) (hrs:∀ rs∈rss,RsOk n rs) {V:PV} (h:V∈ju n (rss.map Jz)) (st:Q1):J1 [.int n,V] st=.ok (.bl false) st:=by
  have b0:=Vg 0 0 ((n:Int) - 1) st
  rw [show (decide ((0:Int)<=0) && decide ((0:Int)<=(n:Int) - 1))=true by simp; omega] at b0
  have bn:=Vg (n:Int) 0 ((n:Int) - 1) st
  rw [decide_eq_false (show ¬ (n:Int)<=(n:Int) - 1 by omega),Bool.and_false] at bn
  have bm:=Vg (-1) 0 ((n:Int) - 1) st
  rw [show (decide ((0:Int)<=-1))=false by decide,Bool.false_and] at bm
  unfold ju at h
  simp only [D6,List.not_mem_nil,or_false] at h
  rcases h with rfl | rfl | rfl | rfl | rfl | rfl | rfl | rfl
  · exact (ja h1 h8 hlen hrs (rnd_one ((road2 bn b0).1 rfl))).1
  · exact (ja h1 h8 hlen hrs (rnd_one ((road2 b0 b0).2 rfl false (by simp)))).2
  · exact (ja h1 h8 hlen hrs (rnd_one ((road2 b0 bm).1 rfl))).1
  · exact rds_not h1 h8 rfl rfl
  · exact (ja h1 h8 hlen hrs (rnd_not rfl rfl)).1
  · exact rds_long h1 h8 (by simp) st
  · exact rds_not h1 h8 rfl rfl
  · exact (ja h1 h8 hlen hrs (rnd_not rfl rfl)).1
theorem X4 (S:Q1) (c:Str):finX S ⟨c,none⟩ S=.exc ⟨c,none⟩ S:=by
  unfold finX
  rw [if_pos (List.prefix_refl S)]
theorem need_road {n:Nat} {V W:PV} {S:Q1} (h:J1 [.int n,V] S=.ok (.bl false) S):J2 [.int n,V,W] S=.exc ⟨"NoRoad",none⟩ S:=by
  have step:Z6 [some (.int n),some V,some W] S=.exc ⟨"NoRoad",none⟩ S:=by simp -implicitDefEqProofs [Z6,h]
  show Qs Z6 3 _ S=_
  unfold Qs
  rw [show (([.int n,V,W]:List PV).map some ++ List.replicate (3 - [PV.int n,V,W].length) none)=[some (.int n),some V,some W] from rfl,step]
  exact X4 S _
theorem need_house {n:Nat} {V W:PV} {S:Q1} (h:J1 [.int n,V] S=.ok (.bl true) S) (h2:J5 [W,.int 0,.int ((n:Int) - 1)] S=.ok (.bl false) S):J2 [.int n,V,W] S=.exc ⟨"NoHouse",none⟩ S:=by
  have step:Z6 [some (.int n),some V,some W] S=.exc ⟨"NoHouse",none⟩ S:=by simp -implicitDefEqProofs [Z6,h,h2]
  show Qs Z6 3 _ S=_
  unfold Qs
  rw [show (([.int n,V,W]:List PV).map some ++ List.replicate (3 - [PV.int n,V,W].length) none)=[some (.int n),some V,some W] from rfl,step]
  exact X4 S _
def Qx (n:Nat):PV:=.tup ((List.range n).map fun k:Nat=>.int (k:Int))
theorem jk (n:Nat) (S:Q1):Yk S [Qx n]=.ok (.int n) S:=by simp [Qx]
theorem door_sums {n:Nat} (hn:n<=8) (w:Int) (V W:PV) (S:Q1):Jp 4 (mTR (Q4 1)) [some (.int w),some (.int n),some V,some W,none] S=.nx [some (.int w),some (.int n),some V,some W,some (Qx n)] S:=by
  have h:(n:Int)<=1000000:=by omega
  unfold Qx
  simp -implicitDefEqProofs [h]
theorem door_exc {w n:Nat} (hw:w < 5) (hn:n<=8) {V W:PV} {S:Q1} {c:Str} (h:∀ T,J2 [.int n,V,W] (S ++ T)=.exc ⟨c,none⟩ (S ++ T)):∃ T,Zp [.int w,.int n,V,W] S=.exc ⟨c,none⟩ (S ++ T):=by
  have h0:=h []
  rw [F6] at h0
  have h6:w=0\/w=1\/w=2\/w=3\/w=4:=by omega
  have go:∀ T,Qy [some (.int w),some (.int n),some V,some W,none] S=.exc ⟨c,none⟩ (S ++ T)->Zp [.int w,.int n,V,W] S=.exc ⟨c,none⟩ (S ++ T):=fun T e=>by
    show Zh Qy 5 _ S=_
    unfold Zh
    rw [show (([.int w,.int n,V,W]:List PV).map some ++ List.replicate (5 - [PV.int w,.int n,V,W].length) none)=[some (.int w),some (.int n),some V,some W,none] from rfl,e]
  have hs:=fun w:Int=>door_sums hn w V W S
  have hl:=jk n
  rcases h6 with rfl | rfl | rfl | rfl | rfl
  · refine ⟨[],go [] ?_⟩
    rw [F6]
    have f:X7 [.int n,V,W] S=.exc ⟨c,none⟩ S:=by
      simp -implicitDefEqProofs [X7,Zh,x9,h0]
    simp -implicitDefEqProofs [Qy,f]
  · refine ⟨[],go [] ?_⟩
    rw [F6]
    have f:qt [.int n,V,W] S=.exc ⟨c,none⟩ S:=by
      simp -implicitDefEqProofs [qt,Zh,m_home,h0]
    simp -implicitDefEqProofs [Qy,f]
  · refine ⟨[],go [] ?_⟩
    rw [F6]
    have f:W4 [Qx n,V,W,.int 1] S=.exc ⟨c,none⟩ S:=by
      have hl:=hl S
      generalize Qx n=sv at *
      simp -implicitDefEqProofs [W4,Zh,W1,hl,h0]
    generalize Qx n=sv at *
    simp -implicitDefEqProofs [Qy,f,hs,-zg,-Kf]
  · refine ⟨[],go [] ?_⟩
    rw [F6]
    have f:Uu [Qx n,V,W,.int 1,.int 0,.lst []] S=.exc ⟨c,none⟩ S:=by
      have hl:=hl S
      have step:W9 [some (Qx n),some V,some W,some (.int 1),some (.int 0),some (.lst []),none,none] S=.exc ⟨c,none⟩ S:=by
        generalize Qx n=sv at *
        simp -implicitDefEqProofs [W9,hl,h0]
      show Qs W9 8 _ S=_
      unfold Qs
      rw [show (([Qx n,V,W,.int 1,.int 0,.lst []]:List PV).map some ++ List.replicate (8 - [Qx n,V,W,.int 1,.int 0,.lst []].length) none)=[some (Qx n),some V,some W,some (.int 1),some (.int 0),some (.lst []),none,none] from rfl,step]
      exact X4 S _
    generalize Qx n=sv at *
    simp -implicitDefEqProofs [Qy,f,hs,J8,-zg,-Kf]
  · refine ⟨[.dic [(.inl 0,.int 0)],.dic [(.inl 0,.non)]],go _ ?_⟩
    have h2:=h [.dic [(.inl 0,.int 0)],.dic [(.inl 0,.non)]]
    have f:Yw [.int n,V,W,.ref S.length,.ref (S.length + 1)] (S ++ [.dic [(.inl 0,.int 0)],.dic [(.inl 0,.non)]])=.exc ⟨c,none⟩ (S ++ [.dic [(.inl 0,.int 0)],.dic [(.inl 0,.non)]]):=by
      generalize (S ++ [Cell.dic [(.inl 0,.int 0)],Cell.dic [(.inl 0,.non)]])=S2 at *
      have step:Ji [some (.int n),some V,some W,some (.ref S.length),some (.ref (S.length + 1))] S2=.exc ⟨c,none⟩ S2:=by
        simp -implicitDefEqProofs [Ji,h2]
      show Qs Ji 5 _ S2=_
      unfold Qs
      rw [show (([.int n,V,W,.ref S.length,.ref (S.length + 1)]:List PV).map some ++ List.replicate (5 - [PV.int n,V,W,.ref S.length,.ref (S.length + 1)].length) none)=[some (.int n),some V,some W,some (.ref S.length),some (.ref (S.length + 1))] from rfl,step]
      exact X4 S2 _
    generalize Qx n=sv at *
    simp -implicitDefEqProofs [Qy,f,hs,-zg,-Kf]
theorem Q26 {w n:Nat} (hw:w < 5) (hn:n<=8) {V W:PV} {S:Q1} (h:∀ st,J1 [.int n,V] st=.ok (.bl false) st):∃ T,J0 [.int w,.int n,V,W] S=.ok (.str "road") (S ++ T):=by
  obtain ⟨T,e⟩:=door_exc hw hn (V:=V) (W:=W) (S:=S) (c := "NoRoad") (fun T=>need_road (h _))
  refine ⟨T,?_⟩
  unfold J0
  rw [e]
  simp
theorem word_house {w n:Nat} (hw:w < 5) (hn:n<=8) {V W:PV} {S:Q1} (h:∀ T,J1 [.int n,V] (S ++ T)=.ok (.bl true) (S ++ T)) (h2:∀ st,J5 [W,.int 0,.int ((n:Int) - 1)] st=.ok (.bl false) st):∃ T,J0 [.int w,.int n,V,W] S=.ok (.str "house") (S ++ T):=by
  obtain ⟨T,e⟩:=door_exc hw hn (V:=V) (W:=W) (S:=S) (c := "NoHouse") (fun T=>need_house (h _) (h2 _))
  refine ⟨T,?_⟩
  unfold J0
  rw [e]
  have q:¬ (("NoHouse" : Str) = "NoRoad"):=by decide
  simp [q]
theorem are_ok {n:Nat} (hn1:1<=n) (hn8:n<=8) {rss:List (List (Nat × Nat))} (hlen:rss.length<=40) (hrs:∀ rs∈rss,RsOk n rs) {V:PV} {S:Q1} (hV:ListAt S V (rss.map Jz)):J1 [.int n,V] S=.ok (.bl true) S:=by
  have:=j7 (n:=n) hn1 hn8 (zs:=rss.map fun rs=>(Jz rs,true)) (by simpa using hlen) (V:=V) (st:=S) (by rw [F5]; exact hV) (fun z hz=>by
    obtain ⟨u,hu,rfl⟩:=List.mem_map.mp hz
    have ou:=hrs u hu
    rw [Q0e ou.ok (by have:=ou.len; omega) S,yy ou.inc])
  rw [this]
  congr 2
  rw [F5,List.all_map]
  simp
theorem nonT:Kx .non=true:=rfl
theorem nonI (i:Int):Kx (.int i)=false:=rfl
def byB:Option Nat->Nat->Bool
  | some b,t=>decide (b<=t)
  | none,_=>false
theorem is_by_ok (o:Option Nat) (t:Nat) (st:Q1):U7 [moV o,.int t] st=.ok (.bl (byB o t)) st:=by
  cases o with
  | none=>simp -implicitDefEqProofs [U7,Qs,x8,moV,byB,nonT]
  | some b=>
    have e:decide ((b:Int)<=(t:Int))=decide (b<=t):=by
      by_cases q:b<=t
      · rw [decide_eq_true q,decide_eq_true (by omega)]
      · rw [decide_eq_false q,decide_eq_false (by omega)]
    simp -implicitDefEqProofs [U7,Qs,x8,moV,byB,e,nonI]
def Yt (n:Nat) (f:Nat->Option Nat) (t:Nat):List Nat:=(List.range n).filter fun k=>byB (f k) t
def Zr (L:List Nat):List PV:=L.map fun k:Nat=>.int (k:Int)
theorem hhb_ok {S:Q1} {D n:Nat} {f:Nat->Option Nat} (h:S[D]?=some (.dic (Qr n f))) (hn:n<=8) (t:Nat):Zd [.ref D,.int t] S=.ok (.lst (Zr (Yt n f t))) (S.set D (.frd (Qr n f))):=by
  have hlt:=(O0.mp h).1
  have hw:zt S D=some (Qr n f):=by unfold zt; rw [h]
  have hk:K0 S (.ref D)=some ((Qr n f).map (fun kv=>kP kv.1),D,Qr n f):=by simp only [K0,hw]
  rw [keys_ask] at hk
  have hl:((List.range n).map fun k:Nat=>PV.int (k:Int)).length<=1000000:=by simp; omega
  have hD:DicAt (S.set D (.frd (Qr n f))) (.ref D) (Qr n f):=⟨_,rfl,.inr (D9 hlt)⟩
  have hc:Z2 (Qg 0) W0 W3 [(D,.frd (Qr n f))] [none,some (.int t),some (.ref D)] ((List.range n).map fun k:Nat=>PV.int (k:Int)) (S.set D (.frd (Qr n f)))=.ok (Zr (Yt n f t)) (S.set D (.frd (Qr n f))):=by
    refine compG_onF _ _ (fun k=>byB (f k) t) (wOk_set hlt _) fun k hk=>⟨_,rfl,?_,fun _=>?_⟩
    · have g:=askD_get hD (show k < n by simpa using hk)
      have b:=is_by_ok (f k) t (S.set D (.frd (Qr n f)))
      generalize S.set D (.frd (Qr n f))=S1 at *
      generalize moV (f k)=mv at *
      simp -implicitDefEqProofs [W0,g,b]
    · simp -implicitDefEqProofs [W3]
  have step:Zx [some (.ref D),some (.int t)] S=.rt (.lst (Zr (Yt n f t))) (S.set D (.frd (Qr n f))):=by
    generalize hS1:S.set D (.frd (Qr n f))=S1 at *
    generalize Qr n f=ad at *
    generalize ((List.range n).map fun k:Nat=>PV.int (k:Int))=rv at *
    generalize Zr (Yt n f t)=ov at *
    simp -implicitDefEqProofs [Zx,mKeys,hk,hl,J8,Zj,hS1,hc]
  show Qs Zx 2 _ S=_
  unfold Qs
  rw [show (([.ref D,.int t]:List PV).map some ++ List.replicate (2 - [PV.ref D,.int t].length) none)=[some (.ref D),some (.int t)] from rfl,step]
  show fin S _ _=_
  unfold fin
  rw [if_neg]
  rintro ⟨T,hT⟩
  have hz:T=[]:=by
    have:=congrArg List.length hT
    rw [D5,G8] at this
    exact List.length_eq_zero_iff.mp (by omega)
  rw [hz,F6] at hT
  have:=D9 (a:=Cell.frd (Qr n f)) hlt
  rw [<- hT,h] at this
  cases this
abbrev wyΓ (V:PV) (one a to D:Nat) (at':Nat):Gam:=[some V,some (.int one),some (.int a),some (.int to),some (.ref D),some (.ref (D + 1)),some (.int at')]
theorem way_while {rss:List (List (Nat × Nat))} {one a to:Nat} {V:PV} {S:Q1} {kvs:List (Key × PV)} {m:Mo} (F:Fd kvs m) (A:Arr rss one a rss.length rss.length [] m) :
    ∀ (d:Nat) (at':Nat) (p:Nat × Option Nat) (mv:List (List Int)),m at'=some p->p.1<=d->mv.length + d<=1000->(∀ x∈mv,x.length=3)->∀ k,d < k->∃ (at2:Nat) (mv2:List (List Int)),mv2.length<=mv.length + d/\(∀ x∈mv2,x.length=3) /\
      Vn U5 xm k (wyΓ V one a to S.length at') (S ++ [.dic kvs,.lst (mv.map J4)])=.nx (wyΓ V one a to S.length at2) (S ++ [.dic kvs,.lst (mv2.map J4)]):=by
  intro d
  induction d with
  | zero=>
    intro at' p mv hp hd hl h3 k hk
    obtain ⟨k,rfl⟩:∃ j,k=j + 1:=⟨k - 1,by omega⟩
    have hone:at'=one:=Classical.byContradiction fun z=>by
      obtain ⟨_,_,h2,_⟩:=A.b at' p hp z
      omega
    subst hone
    rw [A.a] at hp
    cases hp
    have hD:DicAt (S ++ [.dic kvs,.lst (mv.map J4)]) (.ref S.length) kvs:=⟨_,rfl,.inl (by simp)⟩
    have g:=hD.get (k:=(at':Int)) (v:=.tup [.int a,.non]) (by rw [F at',A.a]; rfl)
    refine ⟨at',mv,by omega,h3,?_⟩
    have wt:U5 (wyΓ V at' a to S.length at') (S ++ [.dic kvs,.lst (mv.map J4)])=.ok false (S ++ [.dic kvs,.lst (mv.map J4)]):=by
      unfold wyΓ
      generalize (S ++ [Cell.dic kvs,Cell.lst (mv.map J4)])=S1 at *
      generalize S.length=sl at *
      simp -implicitDefEqProofs [U5,g,atI,ixN,nonT,nonI]
    rw [Vn,wt]
    rfl
  | succ d ih=>
    intro at' p mv hp hd hl h3 k hk
    obtain ⟨k,rfl⟩:∃ j,k=j + 1:=⟨k - 1,by omega⟩
    have hD:DicAt (S ++ [.dic kvs,.lst (mv.map J4)]) (.ref S.length) kvs:=⟨_,rfl,.inl (by simp)⟩
    by_cases hone:at'=one
    · subst hone
      rw [A.a] at hp
      cases hp
      have g:=hD.get (k:=(at':Int)) (v:=.tup [.int a,.non]) (by rw [F at',A.a]; rfl)
      refine ⟨at',mv,by omega,h3,?_⟩
      have wt:U5 (wyΓ V at' a to S.length at') (S ++ [.dic kvs,.lst (mv.map J4)])=.ok false (S ++ [.dic kvs,.lst (mv.map J4)]):=by
        unfold wyΓ
        generalize (S ++ [Cell.dic kvs,Cell.lst (mv.map J4)])=S1 at *
        generalize S.length=sl at *
        simp -implicitDefEqProofs [U5,g,atI,ixN,nonT,nonI]
      rw [Vn,wt]
      rfl
    · obtain ⟨i,hi,hm,hb,_,q,hq,hqp⟩:=A.b at' p hp hone
      have g:=hD.get (k:=(at':Int)) (v:=.tup [.int (p.1:Nat),.int i]) (by rw [F at',hp]; simp [hi,frV])
      have wt:U5 (wyΓ V one a to S.length at') (S ++ [.dic kvs,.lst (mv.map J4)])=.ok true (S ++ [.dic kvs,.lst (mv.map J4)]):=by
        unfold wyΓ
        generalize (S ++ [Cell.dic kvs,Cell.lst (mv.map J4)])=S1 at *
        generalize S.length=sl at *
        simp -implicitDefEqProofs [U5,g,atI,ixN,nonT,nonI]
      have hD2:DicAt (S ++ [.dic kvs,.lst ((mv ++ [[(p.1:Int) - 1,(i:Int),(at':Int)]]).map J4)]) (.ref S.length) kvs:=⟨_,rfl,.inl (by simp)⟩
      have g2:=hD2.get (k:=(at':Int)) (v:=.tup [.int (p.1:Nat),.int i]) (by rw [F at',hp]; simp [hi,frV])
      have hch:chg (S ++ [.dic kvs,.lst (mv.map J4)]) (.ref (S.length + 1)) (fun xs=>if xs.length < 1000000 then some (.non,xs ++ [.tup [.int ((p.1:Int) - 1),.int i,.int at']]) else none)=.ok .non (S ++ [.dic kvs,.lst ((mv ++ [[(p.1:Int) - 1,(i:Int),(at':Int)]]).map J4)]):=by
        have hget:(S ++ [Cell.dic kvs,Cell.lst (mv.map J4)])[S.length + 1]?=some (.lst (mv.map J4)):=by
          rw [O8 (by omega),show S.length + 1 - S.length=1 by omega]; rfl
        unfold chg
        simp only [hget]
        rw [if_pos (by rw [O5]; show _ < 1000000; omega)]
        have hset:(S ++ [Cell.dic kvs,Cell.lst (mv.map J4)]).set (S.length + 1) (.lst (mv.map J4 ++ [.tup [.int ((p.1:Int) - 1),.int i,.int at']]))=S ++ [.dic kvs,.lst ((mv ++ [[(p.1:Int) - 1,(i:Int),(at':Int)]]).map J4)]:=by
          rw [List.set_append_right _ _ (by omega),show S.length + 1 - S.length=1 by omega,F7]; rfl
        simp only [hset]
      have bd:xm (wyΓ V one a to S.length at') (S ++ [.dic kvs,.lst (mv.map J4)])=.nx (wyΓ V one a to S.length i) (S ++ [.dic kvs,.lst ((mv ++ [[(p.1:Int) - 1,(i:Int),(at':Int)]]).map J4)]):=by
        have hlo:Wi (S ++ [.dic kvs,.lst (mv.map J4)]) (.ref (S.length + 1))=some (mv.map J4):=by
          have hget:(S ++ [Cell.dic kvs,Cell.lst (mv.map J4)])[S.length + 1]?=some (.lst (mv.map J4)):=by
            rw [O8 (by omega),show S.length + 1 - S.length=1 by omega]; rfl
          simp [hget]
        unfold wyΓ
        generalize (S ++ [Cell.dic kvs,Cell.lst ((mv ++ [[(p.1:Int) - 1,(i:Int),(at':Int)]]).map J4)])=S2 at *
        generalize (S ++ [Cell.dic kvs,Cell.lst (mv.map J4)])=S1 at *
        generalize mv.map J4=mvv at *
        generalize S.length + 1=sl1 at *
        generalize S.length=sl at *
        simp -implicitDefEqProofs [xm,g,g2,atI,ixN,J8,hlo,hch,-Q15,-chg_ref]
      rw [Vn,wt]
      simp only [Q0c,if_true,bd]
      obtain ⟨at2,mv2,k1,k2,k3⟩:=ih i q (mv ++ [[(p.1:Int) - 1,(i:Int),(at':Int)]]) hq (by omega) (by simp; omega) (fun x hx=>by
        rcases E7.mp hx with hx | hx
        · exact h3 x hx
        · rw [List.mem_singleton.mp hx]; rfl) k (by omega)
      exact ⟨at2,mv2,by simp at k1; omega,k2,k3⟩
theorem fzL_tups (n:Nat) (st:Q1):∀ gs:List (List Int),fzL n st 15 (gs.map J4)=some (gs.map J4)
  | []=>by rw [List.map_nil,fzL]
  | g :: gs=>by
    have h1:fz n st 15 (J4 g)=some (J4 g):=fz_good (m:=1) (by simp [Ye,J4]) (by decide)
    rw [D0,fzL,h1,fzL_tups n st gs]; rfl
theorem way_ok {V:PV} {rss:List (List (Nat × Nat))} {S:Q1} (hV:ListAt S V (rss.map Jz)) (hlen:rss.length<=40) (hrl:∀ rs∈rss,rs.length<=100) {one a to b:Nat} (ha:a<=rss.length) (hp:Yf rss one a to=some b):∃ mv:List (List Int),mv.length<=rss.length/\(∀ x∈mv,x.length=3)/\F_way [V,.int one,.int a,.int to] S=.ok (.lst (mv.map J4)) S:=by
  obtain ⟨kvs,m,F,A,e⟩:=K4 hV hlen hrl (house:=one) (mom:=a) ha
  obtain ⟨p,hm,hpb⟩:∃ p,m to=some p/\p.1=b:=by
    have:moM m to=some b:=by rw [arr_fst A]; exact hp
    unfold moM at this
    cases z:m to with
    | none=>rw [z] at this; cases this
    | some p=>rw [z] at this; exact ⟨p,rfl,Option.some.inj this⟩
  have hb:=(fst_le hp ha).1
  obtain ⟨at2,mv,l2,h3,w⟩:=way_while (V:=V) (S:=S) (to:=to) F A b to p [] hm (by omega) (by simp; omega) (by simp) 100000 (by omega)
  refine ⟨mv,by simp at l2; omega,h3,?_⟩
  have hst:S ++ [Cell.dic kvs] ++ [Cell.lst []]=S ++ [.dic kvs,.lst (([]:List (List Int)).map J4)]:=by simp
  have step:m_way [some V,some (.int one),some (.int a),some (.int to),none,none,none] S=.rt (.ref (S.length + 1)) (S ++ [.dic kvs,.lst (mv.map J4)]):=by
    have hl1:(S ++ [Cell.dic kvs]).length=S.length + 1:=by simp
    unfold wyΓ at w
    rw [<- hst] at w
    generalize (S ++ [Cell.dic kvs,Cell.lst (mv.map J4)])=S2 at *
    generalize hS1:S ++ [Cell.dic kvs]=S1 at *
    generalize S.length=sl at *
    simp -implicitDefEqProofs [m_way,e,hl1,w]
  show Qs m_way 7 _ S=_
  unfold Qs
  rw [show (([V,.int one,.int a,.int to]:List PV).map some ++ List.replicate (7 - [V,.int one,.int a,.int to].length) none)=[some V,some (.int one),some (.int a),some (.int to),none,none,none] from rfl,step]
  show fin S _ _=_
  unfold fin
  rw [if_pos (List.prefix_append S _)]
  have hg:(S ++ [Cell.dic kvs,Cell.lst (mv.map J4)])[S.length + 1]?=some (.lst (mv.map J4)):=by
    rw [O8 (by omega),show S.length + 1 - S.length=1 by omega]; rfl
  have:fz S.length (S ++ [Cell.dic kvs,Cell.lst (mv.map J4)]) 16 (.ref (S.length + 1))=some (.lst (mv.map J4)):=by
    rw [fz,if_neg (by omega),hg]
    show (fzL S.length _ 15 _).map PV.lst=_
    rw [fzL_tups]; rfl
  rw [this]; rfl
abbrev mhΓ (n:Nat) (V:PV) (h t A D M:Nat) (b7:Option PV):Gam:=[some (Qx n),some V,some (.int h),some (.int t),some (.ref A),some (.ref D),some (.ref M),b7]
theorem sums_ix {n k:Nat} (hk:k < n) (S:Q1):oIx S (Qx n) (.int k)=.ok (.int k) S:=by
  have h:oIx S (Qx n) (.int k)=okO S (atI ((List.range n).map fun k:Nat=>PV.int (k:Int)) (k:Int)):=rfl
  rw [h,jw,Sm.atI_get (show (List.range n)[k]?=some k by rw [List.getElem?_range hk])]; rfl
theorem tups_ne:∀ {l:List (List Int)},(∀ g∈l,g≠[])->xy (l.map J4)=some l
  | [],_=>rfl
  | [] :: l,h=>absurd rfl (h [] (by simp))
  | (x :: g) :: l,h=>by
    have ih:=tups_ne (l:=l) fun g hg=>h g (D4 _ hg)
    have hi:∀ ns:List Int,Ky (ns.map PV.int)=some ns:=fun ns=>by
      induction ns with
      | nil=>rfl
      | cons n ns ih=>rw [D0,Ky,ih]; rfl
    rw [D0]
    show (match Ky ((x :: g).map PV.int) with | some (n :: ns)=>(xy (l.map J4)).map ((n :: ns) :: ·) | _=>none)=_
    rw [hi,ih]; rfl
theorem mh_turn {V:PV} {rss:List (List (Nat × Nat))} {S T:Q1} (hV:ListAt S V (rss.map Jz)) (hlen:rss.length<=4) (hrl:∀ rs∈rss,rs.length<=100) {n h t D M k:Nat} (hk:k < n) {b:Nat} (hb:Qw rss h k=some b) (hA:(S ++ T)[S.length + 1]?=some (.dic (Qr n (Yf rss h 0)))) {mvs:List (List Int)} (hM:(S ++ T)[M]?=some (.lst (mvs.map J4))) (hSM:S.length<=M) (hAM:M≠S.length + 1) (h4:∀ x∈mvs,x≠[]) (hl:mvs.length<=100) :
    ∃ (T':Q1) (mvs':List (List Int)),Zy (mhΓ n V h t (S.length + 1) D M (some (.int k))) (S ++ T)=.nx (mhΓ n V h t (S.length + 1) D M (some (.int k))) (S ++ T')/\(S ++ T')[S.length + 1]?=some (.dic (Qr n (Yf rss h 0)))/\(S ++ T')[M]?=some (.lst (mvs'.map J4))/\(∀ x∈mvs',x≠[])/\mvs'.length<=mvs.length + 4:=by
  have hix:=sums_ix hk (S ++ T)
  by_cases k0:k=0
  · refine ⟨T,mvs,?_,hA,hM,h4,by omega⟩
    have k0':¬ (0:Int) < k:=by omega
    have k0n:¬ 0 < k:=by omega
    unfold mhΓ
    generalize Qx n=sv at *
    generalize S ++ T=S1 at *
    simp -implicitDefEqProofs [Zy,hix,k0',k0n]
  · have k0':(0:Int) < k:=by omega
    have k0n:0 < k:=by omega
    obtain ⟨a,ha,hab⟩:∃ a,Yf rss h 0 k=some a/\Yf rss k a h=some b:=by
      unfold Qw at hb
      cases z:Yf rss h 0 k with
      | none=>rw [z] at hb; cases hb
      | some a=>rw [z] at hb; exact ⟨a,rfl,hb⟩
    have hal:=(fst_le ha (Nat.zero_le _)).1
    obtain ⟨mv,l1,l3,ew⟩:=way_ok (S:=S ++ T) (Jm hV T) (by omega) hrl hal hab
    have g:Q1h (S ++ T) (.ref (S.length + 1)) (.int k)=.ok (.int a) (S ++ T):=by
      have:=askD_get (S:=S ++ T) (V:=.ref (S.length + 1)) ⟨_,rfl,.inl hA⟩ hk
      rw [ha] at this; exact this
    have hc:Z2 (Qg 0) Wg Vz [] [none,some (Qx n),some (.int k)] (mv.map J4) (S ++ T)=.ok ((mv.map fun x=>x ++ [(k:Int)]).map J4) (S ++ T):=by
      rw [F5]
      refine U0 J4 (fun x=>J4 (x ++ [(k:Int)])) (by simp) fun x hx=>⟨_,rfl,?_⟩
      have hxl:=l3 x hx
      have ea:J4 (x ++ [(k:Int)])=.tup (x.map PV.int ++ [.int k]):=by unfold J4; rw [F7]; rfl
      have hlx:(x.map PV.int).length + 1<=1000000:=by rw [O5]; omega
      rw [ea]
      unfold J4
      generalize Qx n=sv at *
      generalize S ++ T=S1 at *
      generalize x.map PV.int=xv at *
      simp -implicitDefEqProofs [Vz,hix,J8,hlx]
    have hMl:=(O0.mp hM).1
    have hset:(S ++ T).set M (.lst ((mvs ++ mv.map fun x=>x ++ [(k:Int)]).map J4))=S ++ T.set (M - S.length) (.lst ((mvs ++ mv.map fun x=>x ++ [(k:Int)]).map J4)):=by
      rw [List.set_append_right _ _ hSM]
    refine ⟨T.set (M - S.length) (.lst ((mvs ++ mv.map fun x=>x ++ [(k:Int)]).map J4)),mvs ++ mv.map (fun x=>x ++ [(k:Int)]),?_,?_,?_,fun x hx=>?_,by rw [D5,O5]; omega⟩
    · rw [<- hset]
      have hlo:Wi (S ++ T) (.ref M)=some (mvs.map J4):=by simp [hM]
      have hmv:(mv.map J4).length<=1000000:=by rw [O5]; omega
      have hll:(mvs.map J4).length + ((mv.map fun x=>x ++ [(k:Int)]).map J4).length<=1000000:=by rw [O5,O5,O5]; omega
      rw [F7]
      unfold mhΓ
      generalize Qx n=sv at *
      generalize hS1:S ++ T=S1 at *
      generalize (mv.map fun x=>x ++ [(k:Int)]).map J4=mk at *
      generalize mvs.map J4=mm at *
      generalize mv.map J4=mw at *
      generalize S.length + 1=sl at *
      simp -implicitDefEqProofs [Zy,hix,k0',k0n,hlo,g,ew,hmv,J8,Zj,hc,Vt,V3,hM,hll,-Q15]
    · rw [<- hset,E3 hAM]; exact hA
    · rw [<- hset]; exact D9 hMl
    · rcases E7.mp hx with hx | hx
      · exact h4 x hx
      · obtain ⟨y,_,rfl⟩:=List.mem_map.mp hx
        simp
theorem mem_homeL {n t k:Nat} {f:Nat->Option Nat} (h:k∈Yt n f t):k < n/\∃ b,f k=some b:=by
  unfold Yt at h
  obtain ⟨h1,h2⟩:=List.mem_filter.mp h
  refine ⟨by simpa using h1,?_⟩
  cases z:f k with
  | none=>rw [z] at h2; cases h2
  | some b=>exact ⟨b,rfl⟩
theorem Kh (n t:Nat) (f:Nat->Option Nat):(Yt n f t).length<=n:=by
  unfold Yt
  have:=List.length_filter_le (fun k=>byB (f k) t) (List.range n)
  simpa using this
theorem Q21 {V:PV} {rss:List (List (Nat × Nat))} {S:Q1} (hV:ListAt S V (rss.map Jz)) (hlen:rss.length<=4) (hrl:∀ rs∈rss,rs.length<=100) {n h t:Nat} (hn:n<=8) :
    ∃ mvs:List (List Int),Vi [Qx n,V,.int h,.int t] S=.ok (.lst (mvs.map J4)) S:=by
  obtain ⟨kvs,e1⟩:=Vm hV (by omega) hrl (n:=n) (house:=h) hn
  obtain ⟨A,hA⟩:∃ A,Qr n (Yf rss h 0)=A:=⟨_,rfl⟩
  obtain ⟨S1,hS1⟩:∃ S1,S ++ [Cell.dic kvs,Cell.dic A]=S1:=⟨_,rfl⟩
  obtain ⟨ex,e2⟩:=Yz (S:=S1) (by rw [<- hS1]; exact Jm hV _) (by omega) hrl (n:=n) (house:=h) hn
  obtain ⟨S2,hS2⟩:∃ S2,S1 ++ Cell.dic (Qr n (Qw rss h)) :: ex=S2:=⟨_,rfl⟩
  have l1:S1.length=S.length + 2:=by rw [<- hS1]; simp
  have l2:S1.length < S2.length:=by rw [<- hS2]; simp
  rw [hA,hS1] at e1
  rw [hS2] at e2
  have h1:S1[S.length + 1]?=some (.dic A):=by rw [<- hS1,O8 (by omega),show S.length + 1 - S.length=1 by omega]; rfl
  have h2:S2[S.length + 1]?=some (.dic A):=by rw [<- hS2,O3 (by omega)]; exact h1
  have hd2:S2[S1.length]?=some (.dic (Qr n (Qw rss h))):=by rw [<- hS2]; simp
  have hd3:(S2 ++ [Cell.lst []])[S1.length]?=some (.dic (Qr n (Qw rss h))):=by rw [O3 l2]; exact hd2
  have e3:=hhb_ok hd3 hn t
  obtain ⟨Hm,hHm⟩:∃ Hm,Qr n (Qw rss h)=Hm:=⟨_,rfl⟩
  obtain ⟨T4,hT4⟩:∃ T4,(S2 ++ [Cell.lst []]).set S1.length (.frd Hm)=S ++ T4:=by
    refine ⟨([Cell.dic kvs,Cell.dic A] ++ (Cell.dic Hm :: ex) ++ [Cell.lst []]).set 2 (.frd Hm),?_⟩
    rw [<- hS2,hHm,<- hS1,F4,F4,List.set_append_right _ _ (by simp)]
    congr 2
    simp
  have hA4:(S ++ T4)[S.length + 1]?=some (.dic A):=by
    rw [<- hT4,E3 (by omega),O3 (by omega)]; exact h2
  have hM4:(S ++ T4)[S2.length]?=some (.lst (([]:List (List Int)).map J4)):=by
    rw [<- hT4,E3 (by omega)]; simp
  rw [hHm,hT4] at e3
  obtain ⟨Γ',st',e4,T,mvs,b7,rfl,rfl,kA,kM,kn,kl⟩:=V5 (g:=fun k:Nat=>PV.int (k:Int)) (xs:=Yt n (Qw rss h) t) (ga:=Qg 7) (body:=Zy) (w:=[]) (Γ:=mhΓ n V h t (S.length + 1) S1.length S2.length none) (st:=S ++ T4)
    (fun i Γ st'=>∃ T mvs b7,Γ=mhΓ n V h t (S.length + 1) S1.length S2.length b7/\st'=S ++ T/\(S ++ T)[S.length + 1]?=some (.dic A)/\(S ++ T)[S2.length]?=some (.lst (List.map J4 mvs))/\(∀ x∈mvs,x≠[])/\mvs.length<=4 * i)
    (fun _ _ _ _=>by simp)
    (fun i k Γ st' hx ⟨T,mvs,b7,g1,g2,kA,kM,kn,kl⟩=>by
      subst g1; subst g2
      obtain ⟨hk,b,hb⟩:=mem_homeL (D8 hx)
      have hi:i < n:=D2 (O0.mp hx).1 (Kh _ _ _)
      rw [<- hA] at kA
      obtain ⟨T',mvs',q1,q2,q3,q4,q5⟩:=mh_turn hV hlen hrl (h:=h) (t:=t) (D:=S1.length) hk hb kA kM (by omega) (by omega) kn (by omega)
      rw [hA] at q2
      exact ⟨_,rfl,_,_,q1,T',mvs',_,rfl,rfl,q2,q3,q4,by omega⟩)
    ⟨T4,[],none,rfl,rfl,hA4,hM4,by simp,by simp⟩
  have hmn:mvs.length < 64:=by have:=Kh n t (Qw rss h); omega
  refine ⟨Xf mvs,?_⟩
  have hso:Q1k (S ++ T) [.ref S2.length]=.ok (.lst ((Xf mvs).map J4)) (S ++ T):=by
    unfold Q1k
    have:Wi (S ++ T) (.ref S2.length)=some (mvs.map J4):=by simp [kM]
    simp only [this,tups_ne kn]
    rw [if_pos hmn]
  have hls:=jk n
  have hnl:(Zr (Yt n (Qw rss h) t)).length<=1000000:=by unfold Zr; rw [O5]; have:=Kh n t (Qw rss h); omega
  have e4:V6 (Qg 7) Zy [] (Zr (Yt n (Qw rss h) t)) (mhΓ n V h t (S.length + 1) S1.length S2.length none) (S ++ T4)=.nx (mhΓ n V h t (S.length + 1) S1.length S2.length b7) (S ++ T):=e4
  have step:Wf [some (Qx n),some V,some (.int h),some (.int t),none,none,none,none] S=.rt (.lst ((Xf mvs).map J4)) (S ++ T):=by
    unfold mhΓ at e4
    generalize (Xf mvs).map J4=ov at *
    generalize Zr (Yt n (Qw rss h) t)=nv at *
    generalize Qx n=sv at *
    generalize S ++ T=S9 at *
    generalize S ++ T4=S4 at *
    generalize S.length + 1=a1 at *
    generalize S1.length=a2 at *
    generalize hl3:S2.length=a3 at *
    simp -implicitDefEqProofs [Wf,hls,e1,e2,hl3,e3,hnl,J8,e4,hso]
  show Qs Wf 8 _ S=_
  unfold Qs
  rw [show (([Qx n,V,.int h,.int t]:List PV).map some ++ List.replicate (8 - [Qx n,V,.int h,.int t].length) none)=[some (Qx n),some V,some (.int h),some (.int t),none,none,none,none] from rfl,step]
  show fin S _ _=_
  unfold fin
  rw [if_pos (List.prefix_append S T),fz_good (m:=2) (by simp [Ye,J4]) (by decide)]; rfl
theorem forG_or {α:Type} (g:α->PV) (J:Gam->Prop) (Rt:PV->Q1->Prop) {ga:GA} {body:MS} {st:Q1}:∀ {xs:List α},(∀ x∈xs,∀ Γ,J Γ->∃ Γ1,ga (g x) Γ=some Γ1/\((∃ Γ2,J Γ2/\body Γ1 st=.nx Γ2 st)\/∃ v st',Rt v st'/\body Γ1 st=.rt v st')) ->
    ∀ Γ,J Γ->(∃ Γ',J Γ'/\V6 ga body [] (xs.map g) Γ st=.nx Γ' st)\/∃ v st',Rt v st'/\V6 ga body [] (xs.map g) Γ st=.rt v st'
  | [],_,Γ,hJ=>.inl ⟨Γ,hJ,by simp [V6]⟩
  | x :: xs,h,Γ,hJ=>by
    obtain ⟨Γ1,h1,h2⟩:=h x E4 Γ hJ
    rw [D0,V6,if_pos (by simp),h1]
    rcases h2 with ⟨Γ2,j2,e2⟩ | ⟨v,st',r,e⟩
    · simp only [e2]
      exact forG_or g J Rt (fun y hy=>h y (D4 _ hy)) Γ2 j2
    · simp only [e]
      exact .inr ⟨v,st',r,rfl⟩
theorem gathered_ok {V:PV} {rss:List (List (Nat × Nat))} {S:Q1} (hV:ListAt S V (rss.map Jz)) (hlen:rss.length<=4) {n h:Nat} (hrs:∀ rs∈rss,RsOk n rs) (hn1:1<=n) (hn:n<=8) (hh:h < n) :
    ∃ v T,W4 [Qx n,V,.int h,.int 1] S=.ok v (S ++ T):=by
  have hrl:∀ rs∈rss,rs.length<=100:=fun rs h=>(hrs rs h).len
  have nd:=yz hV (by omega) hrs hn1 hn hh
  obtain ⟨ex,e2⟩:=Yz hV (by omega) hrl (n:=n) (house:=h) hn
  obtain ⟨Hm,hHm⟩:∃ Hm,Qr n (Qw rss h)=Hm:=⟨_,rfl⟩
  have hd:(S ++ Cell.dic (Qr n (Qw rss h)) :: ex)[S.length]?=some (.dic (Qr n (Qw rss h))):=by simp
  have hls:=jk n
  have hset:(S ++ Cell.dic Hm :: ex).set S.length (.frd Hm)=S ++ Cell.frd Hm :: ex:=by
    rw [List.set_append_right _ _ (O6 _),Nat.sub_self]; rfl
  have th:Kt (S ++ Cell.dic Hm :: ex) (S ++ Cell.frd Hm :: ex) (S ++ Cell.dic Hm :: ex).length=S ++ Cell.dic Hm :: ex:=by
    rw [hHm] at hd
    rw [<- hset,Q28 hd,if_pos (by simp)]
  have hlV:Yk (S ++ Cell.dic Hm :: ex) [V]=.ok (.int rss.length) (S ++ Cell.dic Hm :: ex):=by
    have:=(Jm hV (Cell.dic Hm :: ex)).len
    rw [O5] at this
    exact this
  have key:=forG_or (g:=fun k:Nat=>PV.int (k:Int)) (J:=fun Γ=>∃ b5,Γ=[some (Qx n),some V,some (.int h),some (.int 1),some (.ref S.length),b5]) (Rt:=fun v st'=>∃ T,st'=S ++ T) (ga:=Qg 5) (body:=Ys) (st:=S ++ Cell.dic Hm :: ex) (xs:=List.range (rss.length + 1)) (fun t _ Γ ⟨b5,e⟩=>by
    subst e
    have e3:=hhb_ok hd hn t
    rw [hHm,hset] at e3
    have hc:Z2 (Qg 0) Wg X5 [] [none,some (Qx n)] (Zr (Yt n (Qw rss h) t)) (S ++ Cell.frd Hm :: ex)=.ok ((Zr (Yt n (Qw rss h) t))) (S ++ Cell.frd Hm :: ex):=by
      refine U0 _ _ (by simp) fun k hk=>⟨_,rfl,?_⟩
      have:=sums_ix (mem_homeL hk).1 (S ++ Cell.frd Hm :: ex)
      generalize S ++ Cell.frd Hm :: ex=S9 at *
      generalize Qx n=sv at *
      simp -implicitDefEqProofs [X5,this]
    have hsum:(X9 fun ns=>some (.int ns.sum)) (S ++ Cell.frd Hm :: ex) [.lst (Zr (Yt n (Qw rss h) t))]=.ok (.int ((Yt n (Qw rss h) t).map fun k:Nat=>(k:Int)).sum) (S ++ Cell.frd Hm :: ex):=by
      unfold Zr
      rw [cInts_map]; rfl
    have hnl:(Zr (Yt n (Qw rss h) t)).length<=1000000:=by unfold Zr; rw [O5]; have:=Kh n t (Qw rss h); omega
    obtain ⟨mvs,em⟩:=Q21 (S:=S ++ Cell.frd Hm :: ex) (Jm hV _) hlen hrl (n:=n) (h:=h) (t:=t) hn
    refine ⟨_,rfl,?_⟩
    show (∃ Γ2,_/\Ys [some (Qx n),some V,some (.int h),some (.int 1),some (.ref S.length),some (.int t)] (S ++ Cell.dic Hm :: ex)=.nx Γ2 (S ++ Cell.dic Hm :: ex))\/∃ v st',_/\Ys [some (Qx n),some V,some (.int h),some (.int 1),some (.ref S.length),some (.int t)] (S ++ Cell.dic Hm :: ex)=.rt v st'
    by_cases q:(1:Int)<=((Yt n (Qw rss h) t).map fun k:Nat=>(k:Int)).sum
    · refine .inr ⟨.tup [.str "gathered",.int t,.lst (mvs.map J4)],S ++ Cell.frd Hm :: ex,⟨_,rfl⟩,?_⟩
      generalize ((Yt n (Qw rss h) t).map fun k:Nat=>(k:Int)).sum=z at *
      generalize Zr (Yt n (Qw rss h) t)=nv at *
      generalize mvs.map J4=mm at *
      generalize S ++ Cell.frd Hm :: ex=S9 at *
      generalize S ++ Cell.dic Hm :: ex=S8 at *
      generalize Qx n=sv at *
      simp -implicitDefEqProofs [Ys,e3,hnl,J8,Zj,hc,hsum,q,em]
    · refine .inl ⟨[some (Qx n),some V,some (.int h),some (.int 1),some (.ref S.length),some (.int t)],⟨_,rfl⟩,?_⟩
      generalize ((Yt n (Qw rss h) t).map fun k:Nat=>(k:Int)).sum=z at *
      generalize Zr (Yt n (Qw rss h) t)=nv at *
      generalize S ++ Cell.frd Hm :: ex=S9 at *
      generalize S ++ Cell.dic Hm :: ex=S8 at *
      generalize Qx n=sv at *
      simp -implicitDefEqProofs [Ys,e3,hnl,J8,Zj,hc,hsum,q,th]) [some (Qx n),some V,some (.int h),some (.int 1),some (.ref S.length),none] ⟨_,rfl⟩
  rw [<- Uz] at key
  rw [hHm] at e2
  obtain ⟨kvs,e5⟩:=Vm (S:=S ++ Cell.dic Hm :: ex) (Jm hV _) (by omega) hrl (n:=n) (house:=h) hn
  have hb:-1000000<=(rss.length:Int) + 1/\(rss.length:Int) + 1<=1000000:=by omega
  have hb2:((rss.length:Int) + 1).toNat=rss.length + 1:=by omega
  have go:∀ v T,W1 [some (Qx n),some V,some (.int h),some (.int 1),none,none] S=.rt v (S ++ T)->W4 [Qx n,V,.int h,.int 1] S=.ok v (S ++ T):=fun v T e=>by
    show Zh W1 6 _ S=_
    unfold Zh
    rw [show (([Qx n,V,.int h,.int 1]:List PV).map some ++ List.replicate (6 - [Qx n,V,.int h,.int 1].length) none)=[some (Qx n),some V,some (.int h),some (.int 1),none,none] from rfl,e]
  rcases key with ⟨Γ',⟨b5,rfl⟩,e4⟩ | ⟨v,st',⟨T,rfl⟩,e4⟩
  · refine ⟨_,_,go (.tup [.str "short",.ref ((S ++ Cell.dic Hm :: ex).length + 1),.ref S.length]) (Cell.dic Hm :: ex ++ [.dic kvs,.dic (Qr n (Yf rss h 0))]) ?_⟩
    rw [<- F4]
    generalize (S ++ Cell.dic Hm :: ex ++ [Cell.dic kvs,.dic (Qr n (Yf rss h 0))])=S9 at *
    generalize (S ++ Cell.dic Hm :: ex).length + 1=l9 at *
    generalize S ++ Cell.dic Hm :: ex=S8 at *
    generalize Qx n=sv at *
    generalize rss.length=rl at *
    simp -implicitDefEqProofs [W1,hls,nd,e2,hlV,J8,hb,hb2,e4,e5]
  · refine ⟨_,_,go v T ?_⟩
    generalize S ++ T=S9 at *
    generalize S ++ Cell.dic Hm :: ex=S8 at *
    generalize Qx n=sv at *
    generalize rss.length=rl at *
    simp -implicitDefEqProofs [W1,hls,nd,e2,hlV,J8,hb,hb2,e4]
def PD (kvs:List (Key × PV)):Prop:=qd kvs=true/\intD kvs=true/\(kvs.map Prod.fst).Nodup
theorem PD.ask (n:Nat) (f:Nat->Option Nat):PD (Qr n f):=by
  refine ⟨plain_ask n f,?_,?_⟩
  · unfold intD Qr
    rw [List.all_map,F9]
    intro k _; rfl
  · unfold Qr
    rw [F5]
    refine List.pairwise_map.mpr (List.nodup_range.imp fun hne e=>hne ?_)
    have:=Sum.inl.inj e
    omega
theorem Zi (S T:Q1) (b:Bool):fin S (.bl b) (S ++ T)=.ok (.bl b) S:=by
  unfold fin
  rw [if_pos (List.prefix_append S T)]
  simp [fz]
theorem eqDD_at {S:Q1} {a b:Nat} {ks ls:List (Key × PV)} (ha:DicAt S (.ref a) ks) (hb:DicAt S (.ref b) ls) (pa:PD ks) (pb:PD ls) (op:Bool):oEqDD op S (.ref a) (.ref b)=.ok (.bl (dEq ks ls == op)) S:=by
  unfold oEqDD
  rw [ha.of,hb.of]
  simp only [pa.1,pb.1,and_self,if_true]
theorem bt (b:Bool):(b == true)=b:=by cases b <;> rfl
theorem Q1n {V:PV} {rss:List (List (Nat × Nat))} {S:Q1} (hV:ListAt S V (rss.map Jz)) (hlen:rss.length<=40) {n h:Nat} (hrs:∀ rs∈rss,RsOk n rs) (hn1:1<=n) (hn8:n<=8) (hh:h < n) {a b:Nat} {ka kb:List (Key × PV)} (ha:S[a]?=some (.dic ka)) (hb:S[b]?=some (.dic kb)) (pa:PD ka) (pb:PD kb) :
    Yw [.int n,V,.int h,.ref a,.ref b] S=.ok (.bl (dEq ka (Qr n (Yf rss h 0)) && dEq kb (Qr n (Qw rss h)))) S:=by
  have nd:=yz hV hlen hrs hn1 hn8 hh
  obtain ⟨kvs,e1⟩:=Vm (S:=S) hV hlen (fun rs h=>(hrs rs h).len) (n:=n) (house:=h) hn8
  obtain ⟨S1,hS1⟩:∃ S1,S ++ [.dic kvs,.dic (Qr n (Yf rss h 0))]=S1:=⟨_,rfl⟩
  have k1:∀ t c,S[t]?=some c->S1[t]?=some c:=fun t c e=>by rw [<- hS1,O3 (O0.mp e).1]; exact e
  have f1:S1[S.length + 1]?=some (.dic (Qr n (Yf rss h 0))):=by rw [<- hS1]; simp
  have q1:=eqDD_at (S:=S1) (a:=a) (b:=S.length + 1) ⟨_,rfl,.inl (k1 _ _ ha)⟩ ⟨_,rfl,.inl f1⟩ pa (PD.ask _ _) true
  rw [bt] at q1
  obtain ⟨ex,e2⟩:=Yz (V:=V) (S:=S1) (by rw [<- hS1]; exact Jm hV _) hlen (fun rs h=>(hrs rs h).len) (n:=n) (house:=h) hn8
  obtain ⟨S2,hS2⟩:∃ S2,S1 ++ .dic (Qr n (Qw rss h)) :: ex=S2:=⟨_,rfl⟩
  have k2:∀ t c,S[t]?=some c->S2[t]?=some c:=fun t c e=>by rw [<- hS2,O3 (O0.mp (k1 t c e)).1]; exact k1 t c e
  have f2:S2[S1.length]?=some (.dic (Qr n (Qw rss h))):=by rw [<- hS2]; simp
  have q2:=eqDD_at (S:=S2) (a:=b) (b:=S1.length) ⟨_,rfl,.inl (k2 _ _ hb)⟩ ⟨_,rfl,.inl f2⟩ pb (PD.ask _ _) true
  rw [bt] at q2
  rw [hS1] at e1
  rw [hS2] at e2
  have p1:S1=S ++ [.dic kvs,.dic (Qr n (Yf rss h 0))]:=hS1.symm
  have p2:S2=S ++ ([.dic kvs,.dic (Qr n (Yf rss h 0))] ++ .dic (Qr n (Qw rss h)) :: ex):=by rw [<- hS2,<- hS1,F4]
  show Qs Ji 5 _ S=_
  unfold Qs
  rw [show (([.int n,V,.int h,.ref a,.ref b]:List PV).map some ++ List.replicate (5 - [PV.int n,V,.int h,.ref a,.ref b].length) none)=[some (.int n),some V,some (.int h),some (.ref a),some (.ref b)] from rfl]
  clear hS1 hS2 k1 k2 f1 f2
  generalize Qr n (Yf rss h 0)=A at *
  generalize Qr n (Qw rss h)=B at *
  cases z:dEq ka A with
  | false=>
    rw [z] at q1
    have step:Ji [some (.int n),some V,some (.int h),some (.ref a),some (.ref b)] S=.rt (.bl false) S1:=by
      clear p1 p2
      simp -implicitDefEqProofs [Ji,nd,e1,q1]
    rw [step]
    show fin S (.bl false) S1=_
    rw [p1,Zi,Bool.false_and]
  | true=>
    rw [z] at q1
    have step:Ji [some (.int n),some V,some (.int h),some (.ref a),some (.ref b)] S=.rt (.bl (dEq kb B)) S2:=by
      clear p1 p2
      generalize dEq kb B=db at *
      simp -implicitDefEqProofs [Ji,nd,e1,q1,e2,q2]
    rw [step]
    show fin S (.bl (dEq kb B)) S2=_
    rw [p2,Zi,Bool.true_and]
theorem PD.one (v:PV) (h:Ye 0 v=true):PD [((.inl 0:Key),v)]:=by
  refine ⟨?_,?_,by simp⟩
  · unfold qd; simp [h]
  · simp [intD]
theorem gathers_ok {V:PV} {rss:List (List (Nat × Nat))} {S:Q1} (hV:ListAt S V (rss.map Jz)) (hlen:rss.length<=4) {n h:Nat} (hrs:∀ rs∈rss,RsOk n rs) (hn1:1<=n) (hn:n<=8) (hh:h < n) :
    ∃ v,Uu [Qx n,V,.int h,.int 1,.int 0,.lst []] S=.ok v S:=by
  have hrl:∀ rs∈rss,rs.length<=100:=fun rs h=>(hrs rs h).len
  have nd:=yz hV (by omega) hrs hn1 hn hh
  have hls:=jk n
  have hlV:Yk S [V]=.ok (.int rss.length) S:=by
    have:=hV.len
    rw [O5] at this
    exact this
  obtain ⟨kvs,e1⟩:=Vm hV (by omega) hrl (n:=n) (house:=h) hn
  obtain ⟨T,hT⟩:∃ T,[Cell.dic kvs,Cell.dic (Qr n (Yf rss h 0))]=T:=⟨_,rfl⟩
  rw [hT] at e1
  have eh:jx [Qx n,.lst [],.int 0] (S ++ T)=.ok (.lst (Zr (List.range n))) (S ++ T):=by
    have hcl:jt (S ++ T) [Qx n]=.ok (.lst (Zr (List.range n))) (S ++ T):=by
      simp [Qx,Zr]
    have step:Xs [some (Qx n),some (.lst []),some (.int 0),none,none] (S ++ T)=.rt (.lst (Zr (List.range n))) (S ++ T):=by
      have hr:Ze 0 0=[]:=rfl
      generalize Qx n=sv at *
      generalize Zr (List.range n)=nv at *
      generalize S ++ T=S1 at *
      simp -implicitDefEqProofs [Xs,hcl,J8,hr,V6,-cList_r]
    show Qs Xs 5 _ _=_
    unfold Qs
    rw [show (([Qx n,.lst [],.int 0]:List PV).map some ++ List.replicate (5 - [Qx n,.lst [],PV.int 0].length) none)=[some (Qx n),some (.lst []),some (.int 0),none,none] from rfl,step]
    show fin _ _ _=_
    unfold fin
    rw [if_pos (List.prefix_refl _),fz_good (m:=1) (by simp [Ye,Zr]) (by decide)]; rfl
  have hix:oIx (S ++ T) (.lst (Zr (List.range n))) (.int h)=.ok (.int h) (S ++ T):=by
    have e:oIx (S ++ T) (.lst (Zr (List.range n))) (.int h)=okO (S ++ T) (atI (Zr (List.range n)) (h:Int)):=rfl
    unfold Zr at e ⊢
    rw [e,jw,Sm.atI_get (show (List.range n)[h]?=some h by rw [List.getElem?_range hh])]; rfl
  have hnn:Kx (.lst (Zr (List.range n)))=false:=rfl
  have hq:(0:Int)<=(rss.length:Int):=by omega
  refine ⟨.bl (decide ((1:Int)<=(h:Int))),?_⟩
  have step:W9 [some (Qx n),some V,some (.int h),some (.int 1),some (.int 0),some (.lst []),none,none] S=.rt (.bl (decide ((1:Int)<=(h:Int)))) (S ++ T):=by
    have c1:cut ([]:List PV) (some 1) none=[]:=rfl
    have z1:yh ([]:List PV) []=[]:=rfl
    have cb1:∀ st,Kr (fun ns=>.bl (ns.any id)) st [.lst []]=.ok (.bl false) st:=fun _=>rfl
    have cb2:∀ st,Kr (fun ns=>.bl (ns.all id)) st [.lst []]=.ok (.bl true) st:=fun _=>rfl
    generalize Qx n=sv at *
    generalize Zr (List.range n)=nv at *
    generalize S ++ T=S1 at *
    generalize rss.length=rl at *
    simp -implicitDefEqProofs [W9,hls,nd,hlV,hq,e1,eh,hnn,hix,J8,c1,z1,Z2,cb1,cb2,-oIx_lst]
  show Qs W9 8 _ S=_
  unfold Qs
  rw [show (([Qx n,V,.int h,.int 1,.int 0,.lst []]:List PV).map some ++ List.replicate (8 - [Qx n,V,.int h,.int 1,.int 0,.lst []].length) none)=[some (Qx n),some V,some (.int h),some (.int 1),some (.int 0),some (.lst []),none,none] from rfl,step]
  exact Zi S T _
theorem door_ok {V:PV} {rss:List (List (Nat × Nat))} {S:Q1} (hV:ListAt S V (rss.map Jz)) (hlen:rss.length<=4) {w n h:Nat} (hw:w < 5) (hrs:∀ rs∈rss,RsOk n rs) (hn1:1<=n) (hn:n<=8) (hh:h < n) :
    ∃ T,J0 [.int w,.int n,V,.int h] S=.ok (.str "") (S ++ T):=by
  have hrl:∀ rs∈rss,rs.length<=100:=fun rs h=>(hrs rs h).len
  have nd:=yz hV (by omega) hrs hn1 hn hh
  have go:∀ v T,Qy [some (.int w),some (.int n),some V,some (.int h),none] S=.rt v (S ++ T)->∃ T,J0 [.int w,.int n,V,.int h] S=.ok (.str "") (S ++ T):=fun v T e=>by
    refine ⟨T,?_⟩
    have:Zp [.int w,.int n,V,.int h] S=.ok v (S ++ T):=by
      show Zh Qy 5 _ S=_
      unfold Zh
      rw [show (([.int w,.int n,V,.int h]:List PV).map some ++ List.replicate (5 - [PV.int w,.int n,V,.int h].length) none)=[some (.int w),some (.int n),some V,some (.int h),none] from rfl,e]
    unfold J0
    rw [this]
  have h6:w=0\/w=1\/w=2\/w=3\/w=4:=by omega
  have hs:=fun w:Int=>door_sums hn w V (.int h) S
  rcases h6 with rfl | rfl | rfl | rfl | rfl
  · obtain ⟨kvs,e1⟩:=Vm hV (by omega) hrl (n:=n) (house:=h) hn
    refine go (.ref (S.length + 1)) [.dic kvs,.dic (Qr n (Yf rss h 0))] ?_
    generalize (S ++ [Cell.dic kvs,Cell.dic (Qr n (Yf rss h 0))])=S9 at *
    have f:X7 [.int n,V,.int h] S=.ok (.ref (S.length + 1)) S9:=by
      simp -implicitDefEqProofs [X7,Zh,x9,nd,e1]
    simp -implicitDefEqProofs [Qy,f]
  · obtain ⟨ex,e1⟩:=Yz hV (by omega) hrl (n:=n) (house:=h) hn
    refine go (.ref S.length) (Cell.dic (Qr n (Qw rss h)) :: ex) ?_
    generalize (S ++ Cell.dic (Qr n (Qw rss h)) :: ex)=S9 at *
    have f:qt [.int n,V,.int h] S=.ok (.ref S.length) S9:=by
      simp -implicitDefEqProofs [qt,Zh,m_home,nd,e1]
    simp -implicitDefEqProofs [Qy,f]
  · obtain ⟨v,T,f⟩:=gathered_ok hV hlen hrs hn1 hn hh
    refine go v T ?_
    generalize S ++ T=S9 at *
    generalize Qx n=sv at *
    simp -implicitDefEqProofs [Qy,f,hs,-zg,-Kf]
  · obtain ⟨v,f⟩:=gathers_ok hV hlen hrs hn1 hn hh
    refine go v [] ?_
    rw [F6]
    generalize Qx n=sv at *
    simp -implicitDefEqProofs [Qy,f,hs,J8,-zg,-Kf]
  · have f:=Q1n (S:=S ++ [.dic [(.inl 0,.int 0)],.dic [(.inl 0,.non)]]) (Jm hV _) (by omega) hrs hn1 hn hh (a:=S.length) (b:=S.length + 1) (ka:=[(.inl 0,.int 0)]) (kb:=[(.inl 0,.non)]) (by simp) (by rw [O8 (by omega),show S.length + 1 - S.length=1 by omega]; rfl) (PD.one _ rfl) (PD.one _ rfl)
    generalize (dEq [((.inl 0:Key),PV.int 0)] (Qr n (Yf rss h 0)) && dEq [((.inl 0:Key),PV.non)] (Qr n (Qw rss h)))=bb at *
    refine go (.bl bb) [.dic [(.inl 0,.int 0)],.dic [(.inl 0,.non)]] ?_
    generalize Qx n=sv at *
    simp -implicitDefEqProofs [Qy,f,hs,-zg,-Kf]
theorem forG_invB {α:Type} (g:α->PV) {xs:List α} (I:Gam->Q1->Prop) {ga:GA} {body:MS} (h:∀ x Γ st,x∈xs->I Γ st->∃ Γ1,ga (g x) Γ=some Γ1/\∃ Γ2 st2,I Γ2 st2/\(body Γ1 st=.nx Γ2 st2\/body Γ1 st=.bk Γ2 st2)) {Γ:Gam} {st:Q1} (h0:I Γ st):∃ Γ' st',V6 ga body [] (xs.map g) Γ st=.nx Γ' st'/\I Γ' st':=by
  induction xs generalizing Γ st with
  | nil=>exact ⟨Γ,st,by simp [V6],h0⟩
  | cons x xs ih=>
    obtain ⟨Γ1,h1,Γ2,st2,i2,e2⟩:=h x Γ st E4 h0
    rw [D0,V6,if_pos (by simp),h1]
    rcases e2 with e2 | e2
    · simp only [e2]
      exact ih (fun y Γ st hy=>h y Γ st (D4 _ hy)) i2
    · simp only [e2]
      exact ⟨Γ2,st2,rfl,i2⟩
theorem bk_eq (Γ:Gam) (st:Q1):mBreak Γ st=.bk Γ st:=rfl
abbrev Yd (ns:List Int) (b2 b3 b4 b5 b6 b7 b8 b9 b10:Option PV):Gam:=[some (.fro (ns.map .int)),some (.ref 0),b2,b3,b4,b5,b6,b7,b8,b9,b10]
abbrev zq (ns:List Int) (k n R h:Nat) (far:Nat) (L:List PV) (w:Nat) (b9 b10:Option PV):Gam:=Yd ns (some (.int k)) (some (.int n)) (some (.ref R)) (some (.int h)) (some (.int far)) (some (.lst L)) (some (.int w)) b9 b10
structure C40 (n h:Nat) (rss:List (List (Nat × Nat))):Prop where
  n1:1<=n
  n8:n<=8
  len:rss.length<=4
  rs:∀ rs∈rss,RsOk n rs
  hh:h < n
theorem bad40 {ns:List Int} {k n R h far w:Nat} (hw:w < 5) {rss:List (List (Nat × Nat))} (C:C40 n h rss) {L:List PV} {V:PV} (hV:V∈ju n (rss.map Jz)) (b10:Option PV) (S:Q1):∃ T,xq (zq ns k n R h far L w (some V) b10) S=.nx (zq ns k n R h far L w (some V) b10) (S ++ T):=by
  have hb:=badR_no C.n1 C.n8 (by have:=C.len; omega) C.rs hV
  obtain ⟨T1,e1⟩:=Q26 hw C.n8 (V:=V) (W:=.int h) (S:=S) hb
  obtain ⟨T2,e2⟩:=Q26 hw C.n8 (V:=V) (W:=.int n) (S:=S ++ T1) hb
  refine ⟨T1 ++ T2,?_⟩
  rw [<- F4]
  unfold zq Yd
  generalize S ++ T1 ++ T2=S2 at *
  generalize S ++ T1=S1 at *
  generalize ns.map PV.int=nv at *
  simp -implicitDefEqProofs [xq,e1,e2]
theorem hou40 {ns:List Int} {k n R h far w:Nat} (hw:w < 5) {rss:List (List (Nat × Nat))} (C:C40 n h rss) {L:List PV} {x:Int} (hx:x < 0\/(n:Int)<=x) (b9:Option PV) {S:Q1} (hR:S[R]?=some (.lst (rss.map Jz))):∃ T,xn (zq ns k n R h far L w b9 (some (.int x))) S=.nx (zq ns k n R h far L w b9 (some (.int x))) (S ++ T):=by
  have hb:∀ st,J5 [.int x,.int 0,.int ((n:Int) - 1)] st=.ok (.bl false) st:=fun st=>by
    have:=Vg x 0 ((n:Int) - 1) st
    rcases hx with hx | hx
    · rw [decide_eq_false (show ¬ (0:Int)<=x by omega),Bool.false_and] at this; exact this
    · rw [decide_eq_false (show ¬ x<=(n:Int) - 1 by omega),Bool.and_false] at this; exact this
  obtain ⟨T1,e1⟩:=word_house hw C.n8 (V:=.ref R) (W:=.int x) (S:=S) (fun T=>are_ok C.n1 C.n8 (by have:=C.len; omega) C.rs (Jm (.inr (.inr ⟨R,rfl,hR⟩)) T)) hb
  refine ⟨T1,?_⟩
  unfold zq Yd
  generalize S ++ T1=S1 at *
  generalize ns.map PV.int=nv at *
  simp -implicitDefEqProofs [xn,e1]
theorem way40 {ns:List Int} {k n R h far w:Nat} (hw:w < 5) {rss:List (List (Nat × Nat))} (C:C40 n h rss) (b9 b10:Option PV) {S:Q1} (hR:S[R]?=some (.lst (rss.map Jz))):∃ T c9 c10,xr (zq ns k n R h far (ju n (rss.map Jz)) w b9 b10) S=.nx (zq ns k n R h far (ju n (rss.map Jz)) w c9 c10) (S ++ T):=by
  have keep:∀ T:Q1,(S ++ T)[R]?=some (.lst (rss.map Jz)):=fun T=>by rw [O3 (O0.mp hR).1]; exact hR
  obtain ⟨T1,e1⟩:=door_ok (S:=S) (V:=.ref R) (.inr (.inr ⟨R,rfl,hR⟩)) C.len hw C.rs C.n1 C.n8 C.hh
  obtain ⟨L,hL⟩:∃ L,ju n (rss.map Jz)=L:=⟨_,rfl⟩
  have hLl:L.length<=1000000:=by rw [<- hL]; simp [ju]
  rw [hL]
  obtain ⟨Γ2,S2,e2,T2,c9,rfl,rfl⟩:=V5 (g:=fun x:PV=>x) (xs:=L) (ga:=Qg 9) (body:=xq) (w:=[]) (Γ:=zq ns k n R h far L w b9 b10) (st:=S ++ T1)
    (fun _ Γ st'=>∃ T c9,Γ=zq ns k n R h far L w c9 b10/\st'=S ++ T)
    (fun _ _ _ _=>by simp)
    (fun i x Γ st' hx ⟨T,c9,g1,g2⟩=>by
      subst g1; subst g2
      obtain ⟨T',e⟩:=bad40 (ns:=ns) (k:=k) (R:=R) (far:=far) (L:=L) hw C (by rw [hL]; exact D8 hx) b10 (S ++ T)
      exact ⟨_,rfl,_,_,e,T ++ T',_,rfl,by rw [F4]⟩)
    ⟨T1,_,rfl,rfl⟩
  rw [List.map_id'] at e2
  have hxs:∀ x∈[(-1:Int),(n:Int),-(n:Int),(n:Int) + 1 + (far:Int),-1 - (far:Int)],x < 0\/(n:Int)<=x:=fun x hx=>by
    have:=C.n1
    simp only [D6,List.not_mem_nil,or_false] at hx
    omega
  obtain ⟨Γ3,S3,e3,T3,c10,rfl,rfl⟩:=V5 (g:=PV.int) (xs:=[(-1:Int),(n:Int),-(n:Int),(n:Int) + 1 + (far:Int),-1 - (far:Int)]) (ga:=Qg 10) (body:=xn) (w:=[]) (Γ:=zq ns k n R h far L w c9 b10) (st:=S ++ T2)
    (fun _ Γ st'=>∃ T c10,Γ=zq ns k n R h far L w c9 c10/\st'=S ++ T)
    (fun _ _ _ _=>by simp)
    (fun i x Γ st' hx ⟨T,c10,g1,g2⟩=>by
      subst g1; subst g2
      obtain ⟨T',e⟩:=hou40 (ns:=ns) (k:=k) (R:=R) (far:=far) (L:=L) hw C (hxs x (D8 hx)) c9 (keep T)
      exact ⟨_,rfl,_,_,e,T ++ T',_,rfl,by rw [F4]⟩)
    ⟨T2,_,rfl,rfl⟩
  rw [show [(-1:Int),(n:Int),-(n:Int),(n:Int) + 1 + (far:Int),-1 - (far:Int)].map PV.int=[.int (-1),.int n,.int (-(n:Int)),.int ((n:Int) + 1 + (far:Int)),.int (-1 - (far:Int))] from rfl] at e3
  obtain ⟨T4,e4⟩:=door_ok (S:=S ++ T3) (V:=.ref R) (.inr (.inr ⟨R,rfl,keep T3⟩)) C.len hw C.rs C.n1 C.n8 C.hh
  refine ⟨T3 ++ T4,c9,c10,?_⟩
  rw [<- F4]
  unfold zq Yd at e2 e3 ⊢
  generalize S ++ T3 ++ T4=S4 at *
  generalize S ++ T3=S3 at *
  generalize S ++ T2=S2 at *
  generalize S ++ T1=S1 at *
  generalize ns.map PV.int=nv at *
  simp -implicitDefEqProofs [xr,e1,hLl,J8,e2,e3,e4]
theorem y6 {S:Q1} {R:Nat} {rv:List PV} (hR:S[R]?=some (.lst rv)) (hl:rv.length<=100) {ys:List PV} (hy:ys.length<=100):Zg S (.ref R) (.lst ys)=.ok (.lst (rv ++ ys)) S/\Zg S (.lst ys) (.ref R)=.ok (.lst (ys ++ rv)) S:=by
  have h1:V3 S (.ref R)=some rv:=by simp [V3,hR]
  have h2:V3 S (.lst ys)=some ys:=rfl
  constructor
  · show (match V3 S (.ref R),V3 S (.lst ys) with | some xs,some ys=>if xs.length + ys.length<=lim then Res.ok (PV.lst (xs ++ ys)) S else .stuck | _,_=>.stuck)=_
    rw [h1,h2]
    show (if rv.length + ys.length<=lim then Res.ok (PV.lst (rv ++ ys)) S else .stuck)=_
    rw [if_pos (by rw [J8]; omega)]
  · show (match V3 S (.lst ys),V3 S (.ref R) with | some xs,some ys=>if xs.length + ys.length<=lim then Res.ok (PV.lst (xs ++ ys)) S else .stuck | _,_=>.stuck)=_
    rw [h1,h2]
    show (if ys.length + rv.length<=lim then Res.ok (PV.lst (ys ++ rv)) S else .stuck)=_
    rw [if_pos (by rw [J8]; omega)]
theorem turn40L {ns:List Int} (k:Nat) {S:Q1} (T:TapeAt S 0 ns) (b3 b4 b5 b6 b7 b8 b9 b10:Option PV) :
    ∃ Γ2 S2,(∃ c2 c3 c4 c5 c6 c7 c8 c9 c10,Γ2=Yd ns c2 c3 c4 c5 c6 c7 c8 c9 c10)/\TapeAt S2 0 ns/\(Km (Yd ns (some (.int k)) b3 b4 b5 b6 b7 b8 b9 b10) S=.nx Γ2 S2\/Km (Yd ns (some (.int k)) b3 b4 b5 b6 b7 b8 b9 b10) S=.bk Γ2 S2):=by
  obtain ⟨pp,cc,hS⟩:=id T
  obtain ⟨_,i1,_⟩:=yu hS
  have hnl:(ns.map PV.int).length=ns.length:=O5 _
  by_cases hbr:1 < k/\ns.length<=pp
  · refine ⟨Yd ns (some (.int k)) b3 b4 b5 b6 b7 b8 b9 b10,S,⟨_,_,_,_,_,_,_,_,_,rfl⟩,T,.inr ?_⟩
    obtain ⟨q1,q2⟩:=hbr
    have q1':(1:Int) < k:=by omega
    have q2':(ns.length:Int)<=(pp:Int):=by omega
    unfold Yd
    generalize ns.length=nl at *
    generalize ns.map PV.int=nv at *
    simp -implicitDefEqProofs [Km,q1',q2',i1,hnl,q2,bk_eq,-Kv]
  · have sA:∀ X:MS,(Qh (Yc (Q02 (toB (mOp (oI fun a b=>.bl (decide (b < a))) (Q4 2) (mC (.int 1)))) (toB (mOp (oI fun a b=>.bl (decide (b<=a))) (mOp oIx (Q4 1) (mC (.int 1))) (Jh Yk (Q3 (Q4 0) Qc))))) mBreak Z5) X) (Yd ns (some (.int k)) b3 b4 b5 b6 b7 b8 b9 b10) S=X (Yd ns (some (.int k)) b3 b4 b5 b6 b7 b8 b9 b10) S:=fun X=>by
      unfold Yd
      generalize ns.length=nl at *
      generalize ns.map PV.int=nv at *
      by_cases q1:1 < k
      · have q2:¬ nl<=pp:=fun z=>hbr ⟨q1,z⟩
        have q1':(1:Int) < k:=by omega
        have q2':¬ (nl:Int)<=(pp:Int):=by omega
        simp -implicitDefEqProofs [q1',q2,q2',i1,hnl,-Kv]
      · have q1':¬ (1:Int) < k:=by omega
        simp -implicitDefEqProofs [q1']
    obtain ⟨d1,S1,hd1,T1,_,e1⟩:=Ut T 6 (by decide) (by decide)
    rw [show ((6:Nat):Int)=6 from rfl] at e1
    obtain ⟨n,hn⟩:∃ n:Nat,1 + (d1:Int)=n:=⟨1 + d1,by push_cast; rfl⟩
    obtain ⟨R,S2,rss,T2,hrs,hlen,hR2,hR0,_,e2⟩:=drawn_ok T1 n 4 (by omega) (by decide)
    rw [show ((4:Nat):Int)=4 from rfl] at e2
    obtain ⟨h,S3,hh,T3,M3,e3⟩:=Ut T2 n (by omega) (by omega)
    have hR3:S3[R]?=some (.lst (rss.map Jz)):=by rw [M3.keep R hR0]; exact hR2
    obtain ⟨far,S4,hfar,T4,M4,e4⟩:=Ut T3 100000000000000000000 (by decide) (by decide)
    rw [show ((100000000000000000000:Nat):Int)=100000000000000000000 from rfl] at e4
    have hR4:S4[R]?=some (.lst (rss.map Jz)):=by rw [M4.keep R hR0]; exact hR3
    have C:C40 n h rss:=⟨by omega,by omega,hlen,hrs,hh⟩
    have t1:Jp 3 (mOp Zg (mC (.int 1)) (Qj 2 J3 (Q3 (Q4 1) (Q3 (mC (.int 6)) Qc)))) (Yd ns (some (.int k)) b3 b4 b5 b6 b7 b8 b9 b10) S=.nx (Yd ns (some (.int k)) (some (.int n)) b4 b5 b6 b7 b8 b9 b10) S1:=by
      unfold Yd
      generalize ns.map PV.int=nv at *
      simp -implicitDefEqProofs [e1,hn]
    have t2:Jp 4 (Qj 3 Jy (Q3 (Q4 1) (Q3 (Q4 3) (Q3 (mC (.int 4)) Qc)))) (Yd ns (some (.int k)) (some (.int n)) b4 b5 b6 b7 b8 b9 b10) S1=.nx (Yd ns (some (.int k)) (some (.int n)) (some (.ref R)) b5 b6 b7 b8 b9 b10) S2:=by
      unfold Yd
      generalize ns.map PV.int=nv at *
      simp -implicitDefEqProofs [e2]
    have t3:Jp 5 (Qj 2 J3 (Q3 (Q4 1) (Q3 (Q4 3) Qc))) (Yd ns (some (.int k)) (some (.int n)) (some (.ref R)) b5 b6 b7 b8 b9 b10) S2=.nx (Yd ns (some (.int k)) (some (.int n)) (some (.ref R)) (some (.int h)) b6 b7 b8 b9 b10) S3:=by
      unfold Yd
      generalize ns.map PV.int=nv at *
      simp -implicitDefEqProofs [e3]
    have t4:Jp 6 (Qj 2 J3 (Q3 (Q4 1) (Q3 (mOp oPow (mC (.int 10)) (mC (.int 20))) Qc))) (Yd ns (some (.int k)) (some (.int n)) (some (.ref R)) (some (.int h)) b6 b7 b8 b9 b10) S3=.nx (Yd ns (some (.int k)) (some (.int n)) (some (.ref R)) (some (.int h)) (some (.int far)) b7 b8 b9 b10) S4:=by
      unfold Yd
      generalize ns.map PV.int=nv at *
      simp -implicitDefEqProofs [e4]
    obtain ⟨rv,hrv⟩:∃ rv,rss.map Jz=rv:=⟨_,rfl⟩
    have hrl:rv.length<=100:=by rw [<- hrv,O5]; omega
    have hRv:S4[R]?=some (.lst rv):=by rw [<- hrv]; exact hR4
    have a1:=(y6 hRv hrl (ys:=[.tup [.tup [.int n,.int 0]]]) (by simp)).1
    have a2:=(y6 hRv hrl (ys:=[.tup [.tup [.int 0,.int 0]]]) (by simp)).2
    have a3:=(y6 hRv hrl (ys:=[.tup [.tup [.int 0,.int (-1)]]]) (by simp)).1
    have a5:=(y6 hRv hrl (ys:=[.non]) (by simp)).1
    have a6:=(y6 hRv hrl (ys:=List.replicate 41 (.tup [])) (by simp)).1
    have a8:=(y6 hRv hrl (ys:=[.lst []]) (by simp)).1
    have ct:Ug S4 [.ref R]=.ok (.tup rv) S4:=by simp [hRv]
    have a4:Zg S4 (.tup rv) (.tup [.tup []])=.ok (.tup (rv ++ [.tup []])) S4:=by rw [oAdd_tup,if_pos (by rw [J8]; simp; omega)]
    have m41:Um S4 (.lst [.tup []]) (.int 41)=.ok (.lst (List.replicate 41 (.tup []))) S4:=rfl
    have s7:∀ xs ys:List PV,xs.length + ys.length<=100->Zg S4 (.lst xs) (.lst ys)=.ok (.lst (xs ++ ys)) S4:=fun xs ys h=>by
      show (if xs.length + ys.length<=lim then Res.ok (PV.lst (xs ++ ys)) S4 else .stuck)=_
      rw [if_pos (by rw [J8]; omega)]
    obtain ⟨B5,hB5⟩:∃ B5:List PV,[.lst (rv ++ [.tup [.tup [.int n,.int 0]]]),.lst ([.tup [.tup [.int 0,.int 0]]] ++ rv),.lst (rv ++ [.tup [.tup [.int 0,.int (-1)]]]),.tup (rv ++ [.tup []]),.lst (rv ++ [.non])]=B5:=⟨_,rfl⟩
    have hB:ju n rv=B5 ++ [.lst (rv ++ List.replicate 41 (.tup [])),.non,.lst (rv ++ [.lst []])]:=by rw [<- hB5]; rfl
    have s8:=s7 B5 [.lst (rv ++ List.replicate 41 (.tup [])),.non,.lst (rv ++ [.lst []])] (by rw [<- hB5]; simp)
    rw [<- hB] at s8
    have t5:Jp 7 (U4 (Q3 (mOp Zg (Q4 4) (U4 (Q3 (Wp (Q3 (Wp (Q3 (Q4 3) (Q3 (mC (.int 0)) Qc))) Qc)) Qc))) (Q3 (mOp Zg (U4 (Q3 (Wp (Q3 (Wp (Q3 (mC (.int 0)) (Q3 (mC (.int 0)) Qc))) Qc)) Qc)) (Q4 4)) (Q3 (mOp Zg (Q4 4) (U4 (Q3 (Wp (Q3 (Wp (Q3 (mC (.int 0)) (Q3 (mNeg (mC (.int 1))) Qc))) Qc)) Qc))) (Q3 (mOp Zg (Jh Ug (Q3 (Q4 4) Qc)) (Wp (Q3 (Wp Qc) Qc))) (Q3 (mOp Zg (Q4 4) (U4 (Q3 (mC .non) Qc))) Qc)))))) (Yd ns (some (.int k)) (some (.int n)) (some (.ref R)) (some (.int h)) (some (.int far)) b7 b8 b9 b10) S4=.nx (Yd ns (some (.int k)) (some (.int n)) (some (.ref R)) (some (.int h)) (some (.int far)) (some (.lst B5)) b8 b9 b10) S4:=by
      rw [<- hB5]
      unfold Yd
      generalize rv ++ [.tup [.tup [.int n,.int 0]]]=r1 at *
      generalize [.tup [.tup [.int 0,.int 0]]] ++ rv=r2 at *
      generalize rv ++ [.tup [.tup [.int 0,.int (-1)]]]=r3 at *
      generalize rv ++ [.tup []]=r4 at *
      generalize rv ++ [.non]=r5 at *
      generalize ns.map PV.int=nv at *
      simp -implicitDefEqProofs [a1,a2,a3,ct,a4,a5,J8,-cTuple_r,-oAdd_tup]
    have t6:Jp 7 (mOp Zg (Q4 7) (U4 (Q3 (mOp Zg (Q4 4) (mOp Um (U4 (Q3 (Wp Qc) Qc)) (mC (.int 41)))) (Q3 (mC .non) (Q3 (mOp Zg (Q4 4) (U4 (Q3 (U4 Qc) Qc))) Qc))))) (Yd ns (some (.int k)) (some (.int n)) (some (.ref R)) (some (.int h)) (some (.int far)) (some (.lst B5)) b8 b9 b10) S4=.nx (Yd ns (some (.int k)) (some (.int n)) (some (.ref R)) (some (.int h)) (some (.int far)) (some (.lst (ju n rv))) b8 b9 b10) S4:=by
      unfold Yd
      generalize ju n rv=br at *
      generalize rv ++ List.replicate 41 (.tup [])=r6 at *
      generalize List.replicate 41 (PV.tup [])=r41 at *
      generalize rv ++ [.lst []]=r8 at *
      generalize ns.map PV.int=nv at *
      simp -implicitDefEqProofs [m41,a6,a8,s8,J8]
    obtain ⟨Γ9,S9,e9,T9,c8,c9,c10,rfl,rfl⟩:=V5 (g:=fun k:Nat=>PV.int (k:Int)) (xs:=List.range 5) (ga:=Qg 8) (body:=xr) (w:=[]) (Γ:=Yd ns (some (.int k)) (some (.int n)) (some (.ref R)) (some (.int h)) (some (.int far)) (some (.lst (ju n rv))) b8 b9 b10) (st:=S4)
      (fun _ Γ st'=>∃ T c8 c9 c10,Γ=Yd ns (some (.int k)) (some (.int n)) (some (.ref R)) (some (.int h)) (some (.int far)) (some (.lst (ju n rv))) c8 c9 c10/\st'=S4 ++ T)
      (fun _ _ _ _=>by simp)
      (fun i w Γ st' hx ⟨T,c8,c9,c10,g1,g2⟩=>by
        subst g1; subst g2
        have hw:w < 5:=by have:=D8 hx; simpa using this
        obtain ⟨T',d9,d10,e⟩:=way40 (ns:=ns) (k:=k) (R:=R) (far:=far) hw C c9 c10 (S:=S4 ++ T) (by rw [O3 (O0.mp hR4).1]; exact hR4)
        rw [hrv] at e
        exact ⟨_,rfl,_,_,e,T ++ T',_,_,_,rfl,by rw [F4]⟩)
      ⟨[],_,_,_,rfl,by simp⟩
    rw [<- Uz] at e9
    refine ⟨_,S4 ++ T9,⟨some (.int k),some (.int n),some (.ref R),some (.int h),some (.int far),some (.lst (ju n rv)),c8,c9,c10,rfl⟩,T4.of (by rw [O3 T4.lt]),.inl ?_⟩
    unfold Km
    rw [sA,Yv,t1]
    show Qh _ _ _ _=_
    rw [Yv,t2]
    show Qh _ _ _ _=_
    rw [Yv,t3]
    show Qh _ _ _ _=_
    rw [Yv,t4]
    show Qh _ _ _ _=_
    rw [Yv,t5]
    show Qh _ _ _ _=_
    rw [Yv,t6]
    show Xv _ _ _ _ _=_
    unfold Yd at e9 ⊢
    generalize ns.map PV.int=nv at *
    generalize ju n rv=br at *
    generalize S4 ++ T9=S9 at *
    simp -implicitDefEqProofs [J8,e9]
theorem law_true (ns:List Int):F_law [.fro (ns.map .int)] []=.ok (.bl true) []:=by
  have T0:TapeAt [.lst [.fro (ns.map .int),.int 0,.int 0]] 0 ns:=⟨0,0,rfl⟩
  obtain ⟨Γ',S1,e1,⟨c2,c3,c4,c5,c6,c7,c8,c9,c10,rfl⟩,T1⟩:=forG_invB (g:=fun k:Nat=>PV.int (k:Int)) (xs:=List.range 4) (ga:=Qg 2) (body:=Km) (Γ:=Yd ns none none none none none none none none none) (st:=[.lst [.fro (ns.map .int),.int 0,.int 0]])
    (fun Γ st'=>(∃ c2 c3 c4 c5 c6 c7 c8 c9 c10,Γ=Yd ns c2 c3 c4 c5 c6 c7 c8 c9 c10)/\TapeAt st' 0 ns)
    (fun k Γ st' _ ⟨⟨c2,c3,c4,c5,c6,c7,c8,c9,c10,g1⟩,T⟩=>by
      subst g1
      obtain ⟨Γ2,S2,h1,h2,h3⟩:=turn40L k T c3 c4 c5 c6 c7 c8 c9 c10
      exact ⟨_,rfl,Γ2,S2,⟨h1,h2⟩,h3⟩)
    ⟨⟨_,_,_,_,_,_,_,_,_,rfl⟩,T0⟩
  rw [<- Uz] at e1
  have hfin:∀ S,fin [] (.bl true) S=.ok (.bl true) []:=fun S=>by simp [fin,fz]
  have step:m_law [some (.fro (ns.map .int)),none,none,none,none,none,none,none,none,none,none] []=.rt (.bl true) S1:=by
    unfold Yd at e1
    generalize ns.map PV.int=nv at *
    simp -implicitDefEqProofs [m_law,J8,e1]
  show Qs m_law 11 _ []=_
  unfold Qs
  rw [show (([PV.fro (ns.map .int)]:List PV).map some ++ List.replicate (11 - [PV.fro (ns.map .int)].length) none)=[some (.fro (ns.map .int)),none,none,none,none,none,none,none,none,none,none] from rfl,step]
  exact hfin S1
theorem law_all:∀ ns:List Int,ns.length<=63->∃ st',F_law [.fro (ns.map .int)] []=.ok (.bl true) st':=fun ns _=>⟨[],law_true ns⟩
end Lw
namespace Lw
open PySem PySem.Spec L2 Sm
theorem all_mk {l:PySem.W.OpenLaw} {w:World} {K:PySem.W.Frag} {h:Heap} {mg:Str->Option Value} {fa f1 f2 f3 f4 f5 f6 f7 f8 f9 f10 f11 f12 f13 f14 f15 f16 f17 f18 f19 f20 f21 f22 f23 f24 f25 f26 f27 f28 f29 f30:Addr} (X:K.In h) (G:h.Ns mainGlobals mg) (hfa:mg "law" = some (.ref fa))
    {od1 an1 od2 an2 od3 an3 od4 an4 od5 an5 od6 an6 od7 an7 od8 an8 od9 an9 od10 an10 od11 an11 od12 an12 od13 an13 od14 an14 od15 an15 od16 an16 od17 an17 od18 an18 od19 an19 od20 an20 od21 an21 od22 an22 od23 an23 od24 an24 od25 an25 od26 an26 od27 an27 od28 an28 od29 an29 od30 an30:Option Addr}
    {sl1 sl2 sl3 sl4 sl5 sl6 sl7 sl8 sl9 sl10 sl11 sl12 sl13 sl14 sl15 sl16 sl17 sl18 sl19 sl20 sl21 sl22 sl23 sl24 sl25 sl26 sl27 sl28 sl29 sl30:Array (Option Value)}
    {oc1 kV1 dc1 pm1 cd1 ct1 oc2 kV2 dc2 pm2 cd2 ct2 oc3 kV3 dc3 pm3 cd3 ct3 oc4 kV4 dc4 pm4 cd4 ct4 oc5 kV5 dc5 pm5 cd5 ct5 oc6 kV6 dc6 pm6 cd6 ct6 oc7 kV7 dc7 pm7 cd7 ct7 oc8 kV8 dc8 pm8 cd8 ct8 oc9 kV9 dc9 pm9 cd9 ct9 oc10 kV10 dc10 pm10 cd10 ct10 oc11 kV11 dc11 pm11 cd11 ct11 oc12 kV12 dc12 pm12 cd12 ct12 oc13 kV13 dc13 pm13 cd13 ct13 oc14 kV14 dc14 pm14 cd14 ct14 oc15 kV15 dc15 pm15 cd15 ct15 oc16 kV16 dc16 pm16 cd16 ct16 oc17 kV17 dc17 pm17 cd17 ct17 oc18 kV18 dc18 pm18 cd18 ct18 oc19 kV19 dc19 pm19 cd19 ct19 oc20 kV20 dc20 pm20 cd20 ct20 oc21 kV21 dc21 pm21 cd21 ct21 oc22 kV22 dc22 pm22 cd22 ct22 oc23 kV23 dc23 pm23 cd23 ct23 oc24 kV24 dc24 pm24 cd24 ct24 oc25 kV25 dc25 pm25 cd25 ct25 oc26 kV26 dc26 pm26 cd26 ct26 oc27 kV27 dc27 pm27 cd27 ct27 oc28 kV28 dc28 pm28 cd28 ct28 oc29 kV29 dc29 pm29 cd29 ct29 oc30 kV30 dc30 pm30 cd30 ct30:Value}
    {e_NoHouse e_NoRoad:Addr}
    {t_MOST_HOUSES:Tok}
    {t_MOST_ROUNDS:Tok}
    {ee0 ee1 ee2 ee3 ee4 ee5 ee6 ee7 ee8 ee9 ee10 ee11 ee12 ee13 ee14:Addr} {cdx6 cdx2:ClassData}
    (a1:PySem.W.nsIn K mainGlobals "is_whole" = some (some (.ref f1))) (l1:K.lookup f1=some ⟨oc1,od1,.func (PySem.W.fnOf "is_whole" "is_whole" (Qt Wu) (Qp Wu) (Q6 Wu) .none kV1 dc1 pm1 an1 cd1 ct1),sl1⟩) (c1:PySem.W.codeIn K cd1 "is_whole" = true) (k1:PySem.W.keepIn K (.ref f1)=true)
    (a2:PySem.W.nsIn K mainGlobals "is_between" = some (some (.ref f2))) (l2:K.lookup f2=some ⟨oc2,od2,.func (PySem.W.fnOf "is_between" "is_between" (Qt Yq) (Qp Yq) (Q6 Yq) .none kV2 dc2 pm2 an2 cd2 ct2),sl2⟩) (c2:PySem.W.codeIn K cd2 "is_between" = true) (k2:PySem.W.keepIn K (.ref f2)=true)
    (a3:PySem.W.nsIn K mainGlobals "is_rising" = some (some (.ref f3))) (l3:K.lookup f3=some ⟨oc3,od3,.func (PySem.W.fnOf "is_rising" "is_rising" (Qt W7) (Qp W7) (Q6 W7) .none kV3 dc3 pm3 an3 cd3 ct3),sl3⟩) (c3:PySem.W.codeIn K cd3 "is_rising" = true) (k3:PySem.W.keepIn K (.ref f3)=true)
    (a4:PySem.W.nsIn K mainGlobals "is_road" = some (some (.ref f4))) (l4:K.lookup f4=some ⟨oc4,od4,.func (PySem.W.fnOf "is_road" "is_road" (Qt Vj) (Qp Vj) (Q6 Vj) .none kV4 dc4 pm4 an4 cd4 ct4),sl4⟩) (c4:PySem.W.codeIn K cd4 "is_road" = true) (k4:PySem.W.keepIn K (.ref f4)=true)
    (a5:PySem.W.nsIn K mainGlobals "are_roads_of_round" = some (some (.ref f5))) (l5:K.lookup f5=some ⟨oc5,od5,.func (PySem.W.fnOf "are_roads_of_round" "are_roads_of_round" (Qt Je) (Qp Je) (Q6 Je) .none kV5 dc5 pm5 an5 cd5 ct5),sl5⟩) (c5:PySem.W.codeIn K cd5 "are_roads_of_round" = true) (k5:PySem.W.keepIn K (.ref f5)=true)
    (a6:PySem.W.nsIn K mainGlobals "are_roads" = some (some (.ref f6))) (l6:K.lookup f6=some ⟨oc6,od6,.func (PySem.W.fnOf "are_roads" "are_roads" (Qt W8) (Qp W8) (Q6 W8) .none kV6 dc6 pm6 an6 cd6 ct6),sl6⟩) (c6:PySem.W.codeIn K cd6 "are_roads" = true) (k6:PySem.W.keepIn K (.ref f6)=true)
    (a7:PySem.W.nsIn K mainGlobals "need_roads" = some (some (.ref f7))) (l7:K.lookup f7=some ⟨oc7,od7,.func (PySem.W.fnOf "need_roads" "need_roads" (Qt Yn) (Qp Yn) (Q6 Yn) .none kV7 dc7 pm7 an7 cd7 ct7),sl7⟩) (c7:PySem.W.codeIn K cd7 "need_roads" = true) (k7:PySem.W.keepIn K (.ref f7)=true)
    (a8:PySem.W.nsIn K mainGlobals "arrivals" = some (some (.ref f8))) (l8:K.lookup f8=some ⟨oc8,od8,.func (PySem.W.fnOf "arrivals" "arrivals" (Qt Ww) (Qp Ww) (Q6 Ww) .none kV8 dc8 pm8 an8 cd8 ct8),sl8⟩) (c8:PySem.W.codeIn K cd8 "arrivals" = true) (k8:PySem.W.keepIn K (.ref f8)=true)
    (a9:PySem.W.nsIn K mainGlobals "moment_of" = some (some (.ref f9))) (l9:K.lookup f9=some ⟨oc9,od9,.func (PySem.W.fnOf "moment_of" "moment_of" (Qt W6) (Qp W6) (Q6 W6) .none kV9 dc9 pm9 an9 cd9 ct9),sl9⟩) (c9:PySem.W.codeIn K cd9 "moment_of" = true) (k9:PySem.W.keepIn K (.ref f9)=true)
    (a10:PySem.W.nsIn K mainGlobals "asked_moments" = some (some (.ref f10))) (l10:K.lookup f10=some ⟨oc10,od10,.func (PySem.W.fnOf "asked_moments" "asked_moments" (Qt Zk) (Qp Zk) (Q6 Zk) .none kV10 dc10 pm10 an10 cd10 ct10),sl10⟩) (c10:PySem.W.codeIn K cd10 "asked_moments" = true) (k10:PySem.W.keepIn K (.ref f10)=true)
    (a11:PySem.W.nsIn K mainGlobals "home_moments" = some (some (.ref f11))) (l11:K.lookup f11=some ⟨oc11,od11,.func (PySem.W.fnOf "home_moments" "home_moments" (Qt Zt) (Qp Zt) (Q6 Zt) .none kV11 dc11 pm11 an11 cd11 ct11),sl11⟩) (c11:PySem.W.codeIn K cd11 "home_moments" = true) (k11:PySem.W.keepIn K (.ref f11)=true)
    (a12:PySem.W.nsIn K mainGlobals "asked" = some (some (.ref f12))) (l12:K.lookup f12=some ⟨oc12,od12,.func (PySem.W.fnOf "asked" "asked" (Qt K9) (Qp K9) (Q6 K9) .none kV12 dc12 pm12 an12 cd12 ct12),sl12⟩) (c12:PySem.W.codeIn K cd12 "asked" = true) (k12:PySem.W.keepIn K (.ref f12)=true)
    (a13:PySem.W.nsIn K mainGlobals "home" = some (some (.ref f13))) (l13:K.lookup f13=some ⟨oc13,od13,.func (PySem.W.fnOf "home" "home" (Qt za) (Qp za) (Q6 za) .none kV13 dc13 pm13 an13 cd13 ct13),sl13⟩) (c13:PySem.W.codeIn K cd13 "home" = true) (k13:PySem.W.keepIn K (.ref f13)=true)
    (a14:PySem.W.nsIn K mainGlobals "behind_round" = some (some (.ref f14))) (l14:K.lookup f14=some ⟨oc14,od14,.func (PySem.W.fnOf "behind_round" "behind_round" (Qt Zu) (Qp Zu) (Q6 Zu) .none kV14 dc14 pm14 an14 cd14 ct14),sl14⟩) (c14:PySem.W.codeIn K cd14 "behind_round" = true) (k14:PySem.W.keepIn K (.ref f14)=true)
    (a15:PySem.W.nsIn K mainGlobals "is_by" = some (some (.ref f15))) (l15:K.lookup f15=some ⟨oc15,od15,.func (PySem.W.fnOf "is_by" "is_by" (Qt K8) (Qp K8) (Q6 K8) .none kV15 dc15 pm15 an15 cd15 ct15),sl15⟩) (c15:PySem.W.codeIn K cd15 "is_by" = true) (k15:PySem.W.keepIn K (.ref f15)=true)
    (a16:PySem.W.nsIn K mainGlobals "houses_home_by" = some (some (.ref f16))) (l16:K.lookup f16=some ⟨oc16,od16,.func (PySem.W.fnOf "houses_home_by" "houses_home_by" (Qt Zb) (Qp Zb) (Q6 Zb) .none kV16 dc16 pm16 an16 cd16 ct16),sl16⟩) (c16:PySem.W.codeIn K cd16 "houses_home_by" = true) (k16:PySem.W.keepIn K (.ref f16)=true)
    (a17:PySem.W.nsIn K mainGlobals "way" = some (some (.ref f17))) (l17:K.lookup f17=some ⟨oc17,od17,.func (PySem.W.fnOf "way" "way" (Qt Q2f) (Qp Q2f) (Q6 Q2f) .none kV17 dc17 pm17 an17 cd17 ct17),sl17⟩) (c17:PySem.W.codeIn K cd17 "way" = true) (k17:PySem.W.keepIn K (.ref f17)=true)
    (a18:PySem.W.nsIn K mainGlobals "moves_home" = some (some (.ref f18))) (l18:K.lookup f18=some ⟨oc18,od18,.func (PySem.W.fnOf "moves_home" "moves_home" (Qt Yp) (Qp Yp) (Q6 Yp) .none kV18 dc18 pm18 an18 cd18 ct18),sl18⟩) (c18:PySem.W.codeIn K cd18 "moves_home" = true) (k18:PySem.W.keepIn K (.ref f18)=true)
    (a19:PySem.W.nsIn K mainGlobals "gathered" = some (some (.ref f19))) (l19:K.lookup f19=some ⟨oc19,od19,.func (PySem.W.fnOf "gathered" "gathered" (Qt Wv) (Qp Wv) (Q6 Wv) .none kV19 dc19 pm19 an19 cd19 ct19),sl19⟩) (c19:PySem.W.codeIn K cd19 "gathered" = true) (k19:PySem.W.keepIn K (.ref f19)=true)
    (a20:PySem.W.nsIn K mainGlobals "may_be_moved" = some (some (.ref f20))) (l20:K.lookup f20=some ⟨oc20,od20,.func (PySem.W.fnOf "may_be_moved" "may_be_moved" (Qt Zs) (Qp Zs) (Q6 Zs) .none kV20 dc20 pm20 an20 cd20 ct20),sl20⟩) (c20:PySem.W.codeIn K cd20 "may_be_moved" = true) (k20:PySem.W.keepIn K (.ref f20)=true)
    (a21:PySem.W.nsIn K mainGlobals "has_at" = some (some (.ref f21))) (l21:K.lookup f21=some ⟨oc21,od21,.func (PySem.W.fnOf "has_at" "has_at" (Qt Uj) (Qp Uj) (Q6 Uj) .none kV21 dc21 pm21 an21 cd21 ct21),sl21⟩) (c21:PySem.W.codeIn K cd21 "has_at" = true) (k21:PySem.W.keepIn K (.ref f21)=true)
    (a22:PySem.W.nsIn K mainGlobals "gathers" = some (some (.ref f22))) (l22:K.lookup f22=some ⟨oc22,od22,.func (PySem.W.fnOf "gathers" "gathers" (Qt Vk) (Qp Vk) (Q6 Vk) .none kV22 dc22 pm22 an22 cd22 ct22),sl22⟩) (c22:PySem.W.codeIn K cd22 "gathers" = true) (k22:PySem.W.keepIn K (.ref f22)=true)
    (a23:PySem.W.nsIn K mainGlobals "are_moments" = some (some (.ref f23))) (l23:K.lookup f23=some ⟨oc23,od23,.func (PySem.W.fnOf "are_moments" "are_moments" (Qt Y4) (Qp Y4) (Q6 Y4) .none kV23 dc23 pm23 an23 cd23 ct23),sl23⟩) (c23:PySem.W.codeIn K cd23 "are_moments" = true) (k23:PySem.W.keepIn K (.ref f23)=true)
    (a24:PySem.W.nsIn K mainGlobals "_law_e_stirred" = some (some (.ref f24))) (l24:K.lookup f24=some ⟨oc24,od24,.func (PySem.W.fnOf "_law_e_stirred" "_law_e_stirred" (Qt Zc) (Qp Zc) (Q6 Zc) .none kV24 dc24 pm24 an24 cd24 ct24),sl24⟩) (c24:PySem.W.codeIn K cd24 "_law_e_stirred" = true) (k24:PySem.W.keepIn K (.ref f24)=true)
    (a25:PySem.W.nsIn K mainGlobals "_law_e_digit" = some (some (.ref f25))) (l25:K.lookup f25=some ⟨oc25,od25,.func (PySem.W.fnOf "_law_e_digit" "_law_e_digit" (Qt Zv) (Qp Zv) (Q6 Zv) .none kV25 dc25 pm25 an25 cd25 ct25),sl25⟩) (c25:PySem.W.codeIn K cd25 "_law_e_digit" = true) (k25:PySem.W.keepIn K (.ref f25)=true)
    (a26:PySem.W.nsIn K mainGlobals "_law_e_drawn_roads" = some (some (.ref f26))) (l26:K.lookup f26=some ⟨oc26,od26,.func (PySem.W.fnOf "_law_e_drawn_roads" "_law_e_drawn_roads" (Qt Jf) (Qp Jf) (Q6 Jf) .none kV26 dc26 pm26 an26 cd26 ct26),sl26⟩) (c26:PySem.W.codeIn K cd26 "_law_e_drawn_roads" = true) (k26:PySem.W.keepIn K (.ref f26)=true)
    (a27:PySem.W.nsIn K mainGlobals "_law_e_door" = some (some (.ref f27))) (l27:K.lookup f27=some ⟨oc27,od27,.func (PySem.W.fnOf "_law_e_door" "_law_e_door" (Qt Y7) (Qp Y7) (Q6 Y7) .none kV27 dc27 pm27 an27 cd27 ct27),sl27⟩) (c27:PySem.W.codeIn K cd27 "_law_e_door" = true) (k27:PySem.W.keepIn K (.ref f27)=true)
    (a28:PySem.W.nsIn K mainGlobals "_law_e_kind" = some (some (.ref f28))) (l28:K.lookup f28=some ⟨oc28,od28,.func (PySem.W.fnOf "_law_e_kind" "_law_e_kind" (Qt Y6) (Qp Y6) (Q6 Y6) .none kV28 dc28 pm28 an28 cd28 ct28),sl28⟩) (c28:PySem.W.codeIn K cd28 "_law_e_kind" = true) (k28:PySem.W.keepIn K (.ref f28)=true)
    (a29:PySem.W.nsIn K mainGlobals "_law_e_word" = some (some (.ref f29))) (l29:K.lookup f29=some ⟨oc29,od29,.func (PySem.W.fnOf "_law_e_word" "_law_e_word" (Qt Y5) (Qp Y5) (Q6 Y5) .none kV29 dc29 pm29 an29 cd29 ct29),sl29⟩) (c29:PySem.W.codeIn K cd29 "_law_e_word" = true) (k29:PySem.W.keepIn K (.ref f29)=true)
    (a30:PySem.W.nsIn K mainGlobals "law" = some (some (.ref f30))) (l30:K.lookup f30=some ⟨oc30,od30,.func (PySem.W.fnOf "law" "law" (Qt j6) (Qp j6) (Q6 j6) .none kV30 dc30 pm30 an30 cd30 ct30),sl30⟩) (c30:PySem.W.codeIn K cd30 "law" = true) (k30:PySem.W.keepIn K (.ref f30)=true)
    (z_all:PySem.W.nsIn K mainGlobals "all" = some none)
    (z_any:PySem.W.nsIn K mainGlobals "any" = some none)
    (z_bool:PySem.W.nsIn K mainGlobals "bool" = some none)
    (z_dict:PySem.W.nsIn K mainGlobals "dict" = some none)
    (z_int:PySem.W.nsIn K mainGlobals "int" = some none)
    (z_isinstance:PySem.W.nsIn K mainGlobals "isinstance" = some none)
    (z_len:PySem.W.nsIn K mainGlobals "len" = some none)
    (z_list:PySem.W.nsIn K mainGlobals "list" = some none)
    (z_min:PySem.W.nsIn K mainGlobals "min" = some none)
    (z_range:PySem.W.nsIn K mainGlobals "range" = some none)
    (z_sorted:PySem.W.nsIn K mainGlobals "sorted" = some none)
    (z_sum:PySem.W.nsIn K mainGlobals "sum" = some none)
    (z_tuple:PySem.W.nsIn K mainGlobals "tuple" = some none)
    (z_zip:PySem.W.nsIn K mainGlobals "zip" = some none)
    (v_MOST_HOUSES:PySem.W.nsIn K mainGlobals "MOST_HOUSES" = some (some (.int 8 t_MOST_HOUSES)))
    (v_MOST_ROUNDS:PySem.W.nsIn K mainGlobals "MOST_ROUNDS" = some (some (.int 40 t_MOST_ROUNDS)))
    (n_NoHouse:PySem.W.nsIn K mainGlobals "NoHouse" = some (some (.ref e_NoHouse))) (x_NoHouse:PySem.W.excIn K e_NoHouse bmVE "ValueError.__new__" = true)
    (n_NoRoad:PySem.W.nsIn K mainGlobals "NoRoad" = some (some (.ref e_NoRoad))) (x_NoRoad:PySem.W.excIn K e_NoRoad bmVE "ValueError.__new__" = true)
    (nn0:PySem.W.nsIn K mainGlobals "WharfError" = some (some (.ref ee0)))
    (nn1:PySem.W.nsIn K mainGlobals "NoTable" = some (some (.ref ee1)))
    (nn2:PySem.W.nsIn K mainGlobals "NoHouse" = some (some (.ref ee2)))
    (nn3:PySem.W.nsIn K mainGlobals "NoDeed" = some (some (.ref ee3)))
    (nn4:PySem.W.nsIn K mainGlobals "NoLetter" = some (some (.ref ee4)))
    (nn5:PySem.W.nsIn K mainGlobals "NoStand" = some (some (.ref ee5)))
    (nn6:PySem.W.nsIn K mainGlobals "NoRoad" = some (some (.ref ee6)))
    (nn7:PySem.W.nsIn K mainGlobals "NoPlan" = some (some (.ref ee7)))
    (nn8:PySem.W.nsIn K mainGlobals "NoBook" = some (some (.ref ee8)))
    (nn9:PySem.W.nsIn K mainGlobals "NoManner" = some (some (.ref ee9)))
    (nn10:PySem.W.nsIn K mainGlobals "TooMany" = some (some (.ref ee10)))
    (nn11:PySem.W.nsIn K mainGlobals "NoText" = some (some (.ref ee11)))
    (nn12:PySem.W.nsIn K mainGlobals "NoRow" = some (some (.ref ee12)))
    (nn13:PySem.W.nsIn K mainGlobals "NoName" = some (some (.ref ee13)))
    (nn14:PySem.W.nsIn K mainGlobals "Short" = some (some (.ref ee14)))
    (nzValueError:PySem.W.nsIn K mainGlobals "ValueError" = some none)
    (nzisinstance:PySem.W.nsIn K mainGlobals "isinstance" = some none)
    (xgs:PySem.W.specialIn K (.builtin "object.__class__") "__get__" = some (some (.builtin "getset_descriptor.__get__")))
    (xtk:PySem.W.takesIn K (.builtin "object.__class__")=some true)
    (xcls6:PySem.W.clsIn K ee6=some cdx6)
    (xga6:PySem.W.findIn K (.ref ee6) "__getattribute__" = some (some (.builtin "BaseException.__getattribute__")))
    (xgt6:PySem.W.findIn K (.ref ee6) "__getattr__" = some none)
    (xcl6:PySem.W.findIn K (.ref ee6) "__class__" = some (some (.builtin "object.__class__")))
    (xob6:PySem.W.mroIn K ee6 (.type "object")=some true)
    (xbe6:PySem.W.mroIn K ee6 (.type "BaseException")=some true)
    (xve6:PySem.W.kitOne K (.ref ee6) (.type "ValueError")=some true)
    (xex6:PySem.W.exmOne K (.ref ee6) (.ref ee0)=some true)
    (xk6_1:PySem.W.kitOne K (.ref ee6) (.ref ee1)=some false)
    (xk6_2:PySem.W.kitOne K (.ref ee6) (.ref ee2)=some false)
    (xk6_3:PySem.W.kitOne K (.ref ee6) (.ref ee3)=some false)
    (xk6_4:PySem.W.kitOne K (.ref ee6) (.ref ee4)=some false)
    (xk6_5:PySem.W.kitOne K (.ref ee6) (.ref ee5)=some false)
    (xk6_6:PySem.W.kitOne K (.ref ee6) (.ref ee6)=some true)
    (xk6_7:PySem.W.kitOne K (.ref ee6) (.ref ee7)=some false)
    (xk6_8:PySem.W.kitOne K (.ref ee6) (.ref ee8)=some false)
    (xk6_9:PySem.W.kitOne K (.ref ee6) (.ref ee9)=some false)
    (xk6_10:PySem.W.kitOne K (.ref ee6) (.ref ee10)=some false)
    (xk6_11:PySem.W.kitOne K (.ref ee6) (.ref ee11)=some false)
    (xk6_12:PySem.W.kitOne K (.ref ee6) (.ref ee12)=some false)
    (xk6_13:PySem.W.kitOne K (.ref ee6) (.ref ee13)=some false)
    (xk6_14:PySem.W.kitOne K (.ref ee6) (.ref ee14)=some false)
    (xcls2:PySem.W.clsIn K ee2=some cdx2)
    (xga2:PySem.W.findIn K (.ref ee2) "__getattribute__" = some (some (.builtin "BaseException.__getattribute__")))
    (xgt2:PySem.W.findIn K (.ref ee2) "__getattr__" = some none)
    (xcl2:PySem.W.findIn K (.ref ee2) "__class__" = some (some (.builtin "object.__class__")))
    (xob2:PySem.W.mroIn K ee2 (.type "object")=some true)
    (xbe2:PySem.W.mroIn K ee2 (.type "BaseException")=some true)
    (xve2:PySem.W.kitOne K (.ref ee2) (.type "ValueError")=some true)
    (xex2:PySem.W.exmOne K (.ref ee2) (.ref ee0)=some true)
    (xk2_1:PySem.W.kitOne K (.ref ee2) (.ref ee1)=some false)
    (xk2_2:PySem.W.kitOne K (.ref ee2) (.ref ee2)=some true)
    (xk2_3:PySem.W.kitOne K (.ref ee2) (.ref ee3)=some false)
    (xk2_4:PySem.W.kitOne K (.ref ee2) (.ref ee4)=some false)
    (xk2_5:PySem.W.kitOne K (.ref ee2) (.ref ee5)=some false)
    (xk2_6:PySem.W.kitOne K (.ref ee2) (.ref ee6)=some false)
    (xk2_7:PySem.W.kitOne K (.ref ee2) (.ref ee7)=some false)
    (xk2_8:PySem.W.kitOne K (.ref ee2) (.ref ee8)=some false)
    (xk2_9:PySem.W.kitOne K (.ref ee2) (.ref ee9)=some false)
    (xk2_10:PySem.W.kitOne K (.ref ee2) (.ref ee10)=some false)
    (xk2_11:PySem.W.kitOne K (.ref ee2) (.ref ee11)=some false)
    (xk2_12:PySem.W.kitOne K (.ref ee2) (.ref ee12)=some false)
    (xk2_13:PySem.W.kitOne K (.ref ee2) (.ref ee13)=some false)
    (xk2_14:PySem.W.kitOne K (.ref ee2) (.ref ee14)=some false)
    (hL:noL K=true) :
    ∃ fd:FuncData,(∀ (s:Shared) (v:Value),BindsTo s fd ⟨[v],[]⟩ [("script",v)])/\∀ base:Heap,K.In base->base.Ns mainGlobals mg->FnOk l.prog w K mg base (CXD l.prog w) 10 fa fd ["script"] (spLawS K):=by
  have e:=hfa.symm.trans (PySem.W.mg_of X G a30)
  cases e
  have T:Txt mg:=⟨PySem.W.mg_none_of X G z_all,PySem.W.mg_none_of X G z_any,PySem.W.mg_none_of X G z_bool,PySem.W.mg_none_of X G z_dict,PySem.W.mg_none_of X G z_int,PySem.W.mg_none_of X G z_isinstance,PySem.W.mg_none_of X G z_len,PySem.W.mg_none_of X G z_list,PySem.W.mg_none_of X G z_min,PySem.W.mg_none_of X G z_range,PySem.W.mg_none_of X G z_sorted,PySem.W.mg_none_of X G z_sum,PySem.W.mg_none_of X G z_tuple,PySem.W.mg_none_of X G z_zip,⟨_,PySem.W.mg_of X G v_MOST_HOUSES⟩,⟨_,PySem.W.mg_of X G v_MOST_ROUNDS⟩⟩
  have C_NoHouse:∃ C,mg "NoHouse" = some (.ref C)/\PySem.W.excIn K C bmVE "ValueError.__new__" = true:=⟨_,PySem.W.mg_of X G n_NoHouse,x_NoHouse⟩
  have C_NoRoad:∃ C,mg "NoRoad" = some (.ref C)/\PySem.W.excIn K C bmVE "ValueError.__new__" = true:=⟨_,PySem.W.mg_of X G n_NoRoad,x_NoRoad⟩
  have Nm:Nms mg (fun i=>[ee0,ee1,ee2,ee3,ee4,ee5,ee6,ee7,ee8,ee9,ee10,ee11,ee12,ee13,ee14].getD i 0):=⟨PySem.W.mg_of X G nn0,PySem.W.mg_of X G nn1,PySem.W.mg_of X G nn2,PySem.W.mg_of X G nn3,PySem.W.mg_of X G nn4,PySem.W.mg_of X G nn5,PySem.W.mg_of X G nn6,PySem.W.mg_of X G nn7,PySem.W.mg_of X G nn8,PySem.W.mg_of X G nn9,PySem.W.mg_of X G nn10,PySem.W.mg_of X G nn11,PySem.W.mg_of X G nn12,PySem.W.mg_of X G nn13,PySem.W.mg_of X G nn14,PySem.W.mg_none_of X G nzValueError,PySem.W.mg_none_of X G nzisinstance⟩
  have XC6:XCls K ee6:=⟨show (PySem.W.clsIn K ee6).isSome=true by rw [xcls6]; rfl,xga6,xgt6,xcl6,xgs,xtk,xob6,xbe6⟩
  have T6:TgtS K (fun i=>[ee0,ee1,ee2,ee3,ee4,ee5,ee6,ee7,ee8,ee9,ee10,ee11,ee12,ee13,ee14].getD i 0) 6:=⟨XC6,xve6,xex6,fun i h1 h2=>match i,h1,h2 with | 0,h,_=>absurd h (by omega) | 1,_,_=>xk6_1 | 2,_,_=>xk6_2 | 3,_,_=>xk6_3 | 4,_,_=>xk6_4 | 5,_,_=>xk6_5 | 6,_,_=>xk6_6 | 7,_,_=>xk6_7 | 8,_,_=>xk6_8 | 9,_,_=>xk6_9 | 10,_,_=>xk6_10 | 11,_,_=>xk6_11 | 12,_,_=>xk6_12 | 13,_,_=>xk6_13 | 14,_,_=>xk6_14 | _ + 15,_,h=>absurd h (by omega)⟩
  have XC2:XCls K ee2:=⟨show (PySem.W.clsIn K ee2).isSome=true by rw [xcls2]; rfl,xga2,xgt2,xcl2,xgs,xtk,xob2,xbe2⟩
  have T2:TgtS K (fun i=>[ee0,ee1,ee2,ee3,ee4,ee5,ee6,ee7,ee8,ee9,ee10,ee11,ee12,ee13,ee14].getD i 0) 2:=⟨XC2,xve2,xex2,fun i h1 h2=>match i,h1,h2 with | 0,h,_=>absurd h (by omega) | 1,_,_=>xk2_1 | 2,_,_=>xk2_2 | 3,_,_=>xk2_3 | 4,_,_=>xk2_4 | 5,_,_=>xk2_5 | 6,_,_=>xk2_6 | 7,_,_=>xk2_7 | 8,_,_=>xk2_8 | 9,_,_=>xk2_9 | 10,_,_=>xk2_10 | 11,_,_=>xk2_11 | 12,_,_=>xk2_12 | 13,_,_=>xk2_13 | 14,_,_=>xk2_14 | _ + 15,_,h=>absurd h (by omega)⟩
  have A1:=Jg (st:=Wu) (ps:=["thing"]) X G a1 l1 c1 k1 fun _ _ _ _ _ _ us hl=>match us,hl with | [_],_=>rfl
  have A2:=Jg (st:=Yq) (ps:=["thing", "least", "most"]) X G a2 l2 c2 k2 fun _ _ _ _ _ _ us hl=>match us,hl with | [_,_,_],_=>rfl
  have A3:=Jg (st:=W7) (ps:=["things"]) X G a3 l3 c3 k3 fun _ _ _ _ _ _ us hl=>match us,hl with | [_],_=>rfl
  have A4:=Jg (st:=Vj) (ps:=["n", "thing"]) X G a4 l4 c4 k4 fun _ _ _ _ _ _ us hl=>match us,hl with | [_,_],_=>rfl
  have A5:=Jg (st:=Je) (ps:=["n", "thing"]) X G a5 l5 c5 k5 fun _ _ _ _ _ _ us hl=>match us,hl with | [_,_],_=>rfl
  have A6:=Jg (st:=W8) (ps:=["n", "thing"]) X G a6 l6 c6 k6 fun _ _ _ _ _ _ us hl=>match us,hl with | [_,_],_=>rfl
  have A7:=Jg (st:=Yn) (ps:=["n", "roads", "house"]) X G a7 l7 c7 k7 fun _ _ _ _ _ _ us hl=>match us,hl with | [_,_,_],_=>rfl
  have A8:=Jg (st:=Ww) (ps:=["roads", "house", "moment"]) X G a8 l8 c8 k8 fun _ _ _ _ _ _ us hl=>match us,hl with | [_,_,_],_=>rfl
  have A9:=Jg (st:=W6) (ps:=["found", "house"]) X G a9 l9 c9 k9 fun _ _ _ _ _ _ us hl=>match us,hl with | [_,_],_=>rfl
  have A10:=Jg (st:=Zk) (ps:=["n", "roads", "house"]) X G a10 l10 c10 k10 fun _ _ _ _ _ _ us hl=>match us,hl with | [_,_,_],_=>rfl
  have A11:=Jg (st:=Zt) (ps:=["n", "roads", "house"]) X G a11 l11 c11 k11 fun _ _ _ _ _ _ us hl=>match us,hl with | [_,_,_],_=>rfl
  have A12:=Jg (st:=K9) (ps:=["n", "roads", "house"]) X G a12 l12 c12 k12 fun _ _ _ _ _ _ us hl=>match us,hl with | [_,_,_],_=>rfl
  have A13:=Jg (st:=za) (ps:=["n", "roads", "house"]) X G a13 l13 c13 k13 fun _ _ _ _ _ _ us hl=>match us,hl with | [_,_,_],_=>rfl
  have A14:=Jg (st:=Zu) (ps:=["has", "moves"]) X G a14 l14 c14 k14 fun _ _ _ _ _ _ us hl=>match us,hl with | [_,_],_=>rfl
  have A15:=Jg (st:=K8) (ps:=["moment", "last"]) X G a15 l15 c15 k15 fun _ _ _ _ _ _ us hl=>match us,hl with | [_,_],_=>rfl
  have A16:=Jg (st:=Zb) (ps:=["homes", "moment"]) X G a16 l16 c16 k16 fun _ _ _ _ _ _ us hl=>match us,hl with | [_,_],_=>rfl
  have A17:=Jg (st:=Q2f) (ps:=["roads", "house", "moment", "to"]) X G a17 l17 c17 k17 fun _ _ _ _ _ _ us hl=>match us,hl with | [_,_,_,_],_=>rfl
  have A18:=Jg (st:=Yp) (ps:=["rights", "roads", "house", "moment"]) X G a18 l18 c18 k18 fun _ _ _ _ _ _ us hl=>match us,hl with | [_,_,_,_],_=>rfl
  have A19:=Jg (st:=Wv) (ps:=["rights", "roads", "house", "amount"]) X G a19 l19 c19 k19 fun _ _ _ _ _ _ us hl=>match us,hl with | [_,_,_,_],_=>rfl
  have A20:=Jg (st:=Zs) (ps:=["roads", "asks", "moment", "move"]) X G a20 l20 c20 k20 fun _ _ _ _ _ _ us hl=>match us,hl with | [_,_,_,_],_=>rfl
  have A21:=Jg (st:=Uj) (ps:=["rights", "moves", "moment"]) X G a21 l21 c21 k21 fun _ _ _ _ _ _ us hl=>match us,hl with | [_,_,_],_=>rfl
  have A22:=Jg (st:=Vk) (ps:=["rights", "roads", "house", "amount", "moment", "moves"]) X G a22 l22 c22 k22 fun _ _ _ _ _ _ us hl=>match us,hl with | [_,_,_,_,_,_],_=>rfl
  have A23:=Jg (st:=Y4) (ps:=["n", "roads", "house", "asked", "home"]) X G a23 l23 c23 k23 fun _ _ _ _ _ _ us hl=>match us,hl with | [_,_,_,_,_],_=>rfl
  have A24:=Jg (st:=Zc) (ps:=["cell", "place"]) X G a24 l24 c24 k24 fun _ _ _ _ _ _ us hl=>match us,hl with | [_,_],_=>rfl
  have A25:=Jg (st:=Zv) (ps:=["tape", "many"]) X G a25 l25 c25 k25 fun _ _ _ _ _ _ us hl=>match us,hl with | [_,_],_=>rfl
  have A26:=Jg (st:=Jf) (ps:=["tape", "n", "most"]) X G a26 l26 c26 k26 fun _ _ _ _ _ _ us hl=>match us,hl with | [_,_,_],_=>rfl
  have A27:=Jg (st:=Y7) (ps:=["way_v", "n", "roads", "house"]) X G a27 l27 c27 k27 fun _ _ _ _ _ _ us hl=>match us,hl with | [_,_,_,_],_=>rfl
  have A28:=Jg (st:=Y6) (ps:=["caught"]) X G a28 l28 c28 k28 fun _ _ _ _ _ _ us hl=>match us,hl with | [_],_=>rfl
  have A29:=Jg (st:=Y5) (ps:=["way_v", "n", "roads", "house"]) X G a29 l29 c29 k29 fun _ _ _ _ _ _ us hl=>match us,hl with | [_,_,_,_],_=>rfl
  have A30:=Jg (st:=j6) (ps:=["script"]) X G a30 l30 c30 k30 fun _ _ _ _ _ _ us hl=>match us,hl with | [_],_=>rfl
  refine ⟨PySem.W.fnOf "law" "law" (Qt j6) (Qp j6) (Q6 j6) .none kV30 dc30 pm30 an30 cd30 ct30,fun s v=>.of_eq rfl,fun base kb nb=>?_⟩
  have D_is_whole:=A1.def (P:=l.prog) (w:=w) (base:=base) rfl (ok_is_whole A1.F T   )
  have D_is_between:=A2.def (P:=l.prog) (w:=w) (base:=base) rfl (Q1z A2.F T   D_is_whole)
  have D_is_rising:=A3.def (P:=l.prog) (w:=w) (base:=base) rfl (ok_is_rising A3.F T   )
  have D_is_road:=A4.def (P:=l.prog) (w:=w) (base:=base) rfl (ok_is_road A4.F T   D_is_between)
  have D_are_roads_of_round:=A5.def (P:=l.prog) (w:=w) (base:=base) rfl (Xb A5.F T   D_is_road D_is_rising)
  have D_are_roads:=A6.def (P:=l.prog) (w:=w) (base:=base) rfl (ok_are_roads A6.F T   D_is_between D_are_roads_of_round)
  have D_need_roads:=A7.def (P:=l.prog) (w:=w) (base:=base) rfl (Q1x A7.F T  C_NoHouse C_NoRoad D_are_roads D_is_between)
  have D_arrivals:=A8.def (P:=l.prog) (w:=w) (base:=base) rfl (ok_arrivals A8.F T   )
  have D_moment_of:=A9.def (P:=l.prog) (w:=w) (base:=base) rfl (ok_moment_of A9.F T   )
  have D_asked_moments:=A10.def (P:=l.prog) (w:=w) (base:=base) rfl (zd A10.F T   D_arrivals D_moment_of)
  have D_home_moments:=A11.def (P:=l.prog) (w:=w) (base:=base) rfl (yj A11.F T   D_asked_moments D_moment_of D_arrivals)
  have D_asked:=A12.def (P:=l.prog) (w:=w) (base:=base) rfl (ok_asked A12.F T   D_need_roads D_asked_moments)
  have D_home:=A13.def (P:=l.prog) (w:=w) (base:=base) rfl (ok_home A13.F T   D_need_roads D_home_moments)
  have D_behind_round:=A14.def (P:=l.prog) (w:=w) (base:=base) rfl (yk A14.F T   )
  have D_is_by:=A15.def (P:=l.prog) (w:=w) (base:=base) rfl (ok_is_by A15.F T   )
  have D_houses_home_by:=A16.def (P:=l.prog) (w:=w) (base:=base) rfl (jc A16.F T   D_is_by)
  have D_way:=A17.def (P:=l.prog) (w:=w) (base:=base) rfl (ok_way A17.F T   D_arrivals)
  have D_moves_home:=A18.def (P:=l.prog) (w:=w) (base:=base) rfl (Q1y A18.F T   D_asked_moments D_home_moments D_houses_home_by D_way)
  have D_gathered:=A19.def (P:=l.prog) (w:=w) (base:=base) rfl (ok_gathered A19.F T   D_need_roads D_home_moments D_houses_home_by D_moves_home D_asked_moments)
  have D_may_be_moved:=A20.def (P:=l.prog) (w:=w) (base:=base) rfl (yi A20.F T   D_is_by)
  have D_has_at:=A21.def (P:=l.prog) (w:=w) (base:=base) rfl (ok_has_at A21.F T   D_behind_round)
  have D_gathers:=A22.def (P:=l.prog) (w:=w) (base:=base) rfl (ok_gathers A22.F T   D_need_roads D_asked_moments D_may_be_moved D_has_at)
  have D_are_moments:=A23.def (P:=l.prog) (w:=w) (base:=base) rfl (Q0u A23.F T   D_need_roads D_asked_moments D_home_moments)
  have D__law_e_stirred:=A24.def (P:=l.prog) (w:=w) (base:=base) rfl (jd A24.F T   )
  have D__law_e_digit:=A25.def (P:=l.prog) (w:=w) (base:=base) rfl (ym A25.F T   D__law_e_stirred)
  have D__law_e_drawn_roads:=A26.def (P:=l.prog) (w:=w) (base:=base) rfl (Xc A26.F T   D__law_e_digit)
  have D__law_e_door:=A27.def (P:=l.prog) (w:=w) (base:=base) rfl (Q0x A27.F T   D_asked D_home D_gathered D_gathers D_are_moments)
  have D__law_e_kind:=A28.defX (P:=l.prog) (w:=w) (base:=base) (Q0w A28.F T Nm T6 T2  )
  have D__law_e_word:=A29.def (P:=l.prog) (w:=w) (base:=base) rfl (Q0v A29.F T Nm T6 T2  D__law_e_door D__law_e_kind)
  exact law_imp hL (ok_law A30.F T   D__law_e_digit D__law_e_drawn_roads D__law_e_word) law_all
end Lw
theorem PySem.W.Fast.tw7678315412850771450 : True := trivial
theorem PySem.W.Fast.tw4786089895887434764 : True := trivial
theorem PySem.W.Fast.tw7199644676387739207 : True := trivial
theorem PySem.W.Fast.tw17025995861272888438 : True := trivial
theorem PySem.W.Fast.tw5508956386315898262 : True := trivial
theorem PySem.W.Fast.tw11802058526471864899 : True := trivial
theorem PySem.W.Fast.tw10358585011266385415 : True := trivial
theorem PySem.W.Fast.tw1283899655884974564 : True := trivial
theorem PySem.W.Fast.tw7238680474974778078 : True := trivial
theorem PySem.W.Fast.tw4812673935431963868 : True := trivial
theorem PySem.W.Fast.tw15701456636647864361 : True := trivial
theorem PySem.W.Fast.tw16932984244517731147 : True := trivial
theorem PySem.W.Fast.tw10188964387566850401 : True := trivial
theorem PySem.W.Fast.tw11441332347915286794 : True := trivial
theorem PySem.W.Fast.tw10019272583912556960 : True := trivial
theorem PySem.W.Fast.tw4258559667659342225 : True := trivial
theorem PySem.W.Fast.tw3237448483376456531 : True := trivial
theorem PySem.W.Fast.te18365358965623213115 : True := trivial
open PySem PySem.W PyProof.Rows
set_option maxRecDepth 100000 in
set_option maxHeartbeats 0 in
theorem PySem.Challenge.cw_lendwharf_k40_no_roads_and_no_houses_holds : PySem.Challenge.rw_lendwharf_k40_no_roads_and_no_houses.Holds := by
  w_on; o_law; k_head; (case hw=>w_witness2)
  k_fill
  refine Sm.walkS (l:=PySem.Challenge.rw_lendwharf_k40_no_roads_and_no_houses) (k:=10) rfl ⟨rfl,by decide,by decide⟩ rfl (fun w h Y=>PySem.W.kIn_of Y) ?F
  case F=>
    intro w mg fa h KX G hmg
    refine' Lw.all_mk KX G hmg ?a1 ?l1 ?c1 ?k1 ?a2 ?l2 ?c2 ?k2 ?a3 ?l3 ?c3 ?k3 ?a4 ?l4 ?c4 ?k4 ?a5 ?l5 ?c5 ?k5 ?a6 ?l6 ?c6 ?k6 ?a7 ?l7 ?c7 ?k7 ?a8 ?l8 ?c8 ?k8 ?a9 ?l9 ?c9 ?k9 ?a10 ?l10 ?c10 ?k10 ?a11 ?l11 ?c11 ?k11 ?a12 ?l12 ?c12 ?k12 ?a13 ?l13 ?c13 ?k13 ?a14 ?l14 ?c14 ?k14 ?a15 ?l15 ?c15 ?k15 ?a16 ?l16 ?c16 ?k16 ?a17 ?l17 ?c17 ?k17 ?a18 ?l18 ?c18 ?k18 ?a19 ?l19 ?c19 ?k19 ?a20 ?l20 ?c20 ?k20 ?a21 ?l21 ?c21 ?k21 ?a22 ?l22 ?c22 ?k22 ?a23 ?l23 ?c23 ?k23 ?a24 ?l24 ?c24 ?k24 ?a25 ?l25 ?c25 ?k25 ?a26 ?l26 ?c26 ?k26 ?a27 ?l27 ?c27 ?k27 ?a28 ?l28 ?c28 ?k28 ?a29 ?l29 ?c29 ?k29 ?a30 ?l30 ?c30 ?k30 ?z_all ?z_any ?z_bool ?z_dict ?z_int ?z_isinstance ?z_len ?z_list ?z_min ?z_range ?z_sorted ?z_sum ?z_tuple ?z_zip ?v_MOST_HOUSES ?v_MOST_ROUNDS ?n_NoHouse ?x_NoHouse ?n_NoRoad ?x_NoRoad ?nn0 ?nn1 ?nn2 ?nn3 ?nn4 ?nn5 ?nn6 ?nn7 ?nn8 ?nn9 ?nn10 ?nn11 ?nn12 ?nn13 ?nn14 ?nzValueError ?nzisinstance ?xgs ?xtk ?xcls6 ?xga6 ?xgt6 ?xcl6 ?xob6 ?xbe6 ?xve6 ?xex6 ?xk6_1 ?xk6_2 ?xk6_3 ?xk6_4 ?xk6_5 ?xk6_6 ?xk6_7 ?xk6_8 ?xk6_9 ?xk6_10 ?xk6_11 ?xk6_12 ?xk6_13 ?xk6_14 ?xcls2 ?xga2 ?xgt2 ?xcl2 ?xob2 ?xbe2 ?xve2 ?xex2 ?xk2_1 ?xk2_2 ?xk2_3 ?xk2_4 ?xk2_5 ?xk2_6 ?xk2_7 ?xk2_8 ?xk2_9 ?xk2_10 ?xk2_11 ?xk2_12 ?xk2_13 ?xk2_14 ?hL
    (case a1=>k_is)
    (case l1=>k_is)
    (case c1=>k_is)
    (case k1=>k_is)
    (case a2=>k_is)
    (case l2=>k_is)
    (case c2=>k_is)
    (case k2=>k_is)
    (case a3=>k_is)
    (case l3=>k_is)
    (case c3=>k_is)
    (case k3=>k_is)
    (case a4=>k_is)
    (case l4=>k_is)
    (case c4=>k_is)
    (case k4=>k_is)
    (case a5=>k_is)
    (case l5=>k_is)
    (case c5=>k_is)
    (case k5=>k_is)
    (case a6=>k_is)
    (case l6=>k_is)
    (case c6=>k_is)
    (case k6=>k_is)
    (case a7=>k_is)
    (case l7=>k_is)
    (case c7=>k_is)
    (case k7=>k_is)
    (case a8=>k_is)
    (case l8=>k_is)
    (case c8=>k_is)
    (case k8=>k_is)
    (case a9=>k_is)
    (case l9=>k_is)
    (case c9=>k_is)
    (case k9=>k_is)
    (case a10=>k_is)
    (case l10=>k_is)
    (case c10=>k_is)
    (case k10=>k_is)
    (case a11=>k_is)
    (case l11=>k_is)
    (case c11=>k_is)
    (case k11=>k_is)
    (case a12=>k_is)
    (case l12=>k_is)
    (case c12=>k_is)
    (case k12=>k_is)
    (case a13=>k_is)
    (case l13=>k_is)
    (case c13=>k_is)
    (case k13=>k_is)
    (case a14=>k_is)
    (case l14=>k_is)
    (case c14=>k_is)
    (case k14=>k_is)
    (case a15=>k_is)
    (case l15=>k_is)
    (case c15=>k_is)
    (case k15=>k_is)
    (case a16=>k_is)
    (case l16=>k_is)
    (case c16=>k_is)
    (case k16=>k_is)
    (case a17=>k_is)
    (case l17=>k_is)
    (case c17=>k_is)
    (case k17=>k_is)
    (case a18=>k_is)
    (case l18=>k_is)
    (case c18=>k_is)
    (case k18=>k_is)
    (case a19=>k_is)
    (case l19=>k_is)
    (case c19=>k_is)
    (case k19=>k_is)
    (case a20=>k_is)
    (case l20=>k_is)
    (case c20=>k_is)
    (case k20=>k_is)
    (case a21=>k_is)
    (case l21=>k_is)
    (case c21=>k_is)
    (case k21=>k_is)
    (case a22=>k_is)
    (case l22=>k_is)
    (case c22=>k_is)
    (case k22=>k_is)
    (case a23=>k_is)
    (case l23=>k_is)
    (case c23=>k_is)
    (case k23=>k_is)
    (case a24=>k_is)
    (case l24=>k_is)
    (case c24=>k_is)
    (case k24=>k_is)
    (case a25=>k_is)
    (case l25=>k_is)
    (case c25=>k_is)
    (case k25=>k_is)
    (case a26=>k_is)
    (case l26=>k_is)
    (case c26=>k_is)
    (case k26=>k_is)
    (case a27=>k_is)
    (case l27=>k_is)
    (case c27=>k_is)
    (case k27=>k_is)
    (case a28=>k_is)
    (case l28=>k_is)
    (case c28=>k_is)
    (case k28=>k_is)
    (case a29=>k_is)
    (case l29=>k_is)
    (case c29=>k_is)
    (case k29=>k_is)
    (case a30=>k_is)
    (case l30=>k_is)
    (case c30=>k_is)
    (case k30=>k_is)
    (case z_all=>k_is)
    (case z_any=>k_is)
    (case z_bool=>k_is)
    (case z_dict=>k_is)
    (case z_int=>k_is)
    (case z_isinstance=>k_is)
    (case z_len=>k_is)
    (case z_list=>k_is)
    (case z_min=>k_is)
    (case z_range=>k_is)
    (case z_sorted=>k_is)
    (case z_sum=>k_is)
    (case z_tuple=>k_is)
    (case z_zip=>k_is)
    (case v_MOST_HOUSES=>k_is)
    (case v_MOST_ROUNDS=>k_is)
    (case n_NoHouse=>k_is)
    (case x_NoHouse=>k_exc)
    (case n_NoRoad=>k_is)
    (case x_NoRoad=>k_exc)
    (case nn0=>k_is)
    (case nn1=>k_is)
    (case nn2=>k_is)
    (case nn3=>k_is)
    (case nn4=>k_is)
    (case nn5=>k_is)
    (case nn6=>k_is)
    (case nn7=>k_is)
    (case nn8=>k_is)
    (case nn9=>k_is)
    (case nn10=>k_is)
    (case nn11=>k_is)
    (case nn12=>k_is)
    (case nn13=>k_is)
    (case nn14=>k_is)
    (case nzValueError=>k_is)
    (case nzisinstance=>k_is)
    (case xgs=>k_is)
    (case xtk=>k_is)
    (case xcls6=>k_is)
    (case xga6=>k_is)
    (case xgt6=>k_is)
    (case xcl6=>k_is)
    (case xob6=>k_is)
    (case xbe6=>k_is)
    (case xve6=>kit_is)
    (case xex6=>kts_exm)
    (case xk6_1=>kit_is)
    (case xk6_2=>kit_is)
    (case xk6_3=>kit_is)
    (case xk6_4=>kit_is)
    (case xk6_5=>kit_is)
    (case xk6_6=>kit_is)
    (case xk6_7=>kit_is)
    (case xk6_8=>kit_is)
    (case xk6_9=>kit_is)
    (case xk6_10=>kit_is)
    (case xk6_11=>kit_is)
    (case xk6_12=>kit_is)
    (case xk6_13=>kit_is)
    (case xk6_14=>kit_is)
    (case xcls2=>k_is)
    (case xga2=>k_is)
    (case xgt2=>k_is)
    (case xcl2=>k_is)
    (case xob2=>k_is)
    (case xbe2=>k_is)
    (case xve2=>kit_is)
    (case xex2=>kts_exm)
    (case xk2_1=>kit_is)
    (case xk2_2=>kit_is)
    (case xk2_3=>kit_is)
    (case xk2_4=>kit_is)
    (case xk2_5=>kit_is)
    (case xk2_6=>kit_is)
    (case xk2_7=>kit_is)
    (case xk2_8=>kit_is)
    (case xk2_9=>kit_is)
    (case xk2_10=>kit_is)
    (case xk2_11=>kit_is)
    (case xk2_12=>kit_is)
    (case xk2_13=>kit_is)
    (case xk2_14=>kit_is)
    (case hL=>rfl)
