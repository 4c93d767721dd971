import PyProof.Rows.All
import Wide.All
import OpenK.AllK
import Wide.FinOn
import Lean
import PyProof.EqAt
import PyProof.EqKinds
import PyProof.TupleCall
import PyProof.ZipIter
import PyProof.Draws
import PyProof.SumAny
import PyProof.EnumMake
import PyProof.WalkInts
import PyProof.ExcArgsOwn
import PyProof.ExcAttrAll.ValueError
import PyProof.NsDelKeeps
import KE.KTryMore
import OpenK.KOwn
import PyProof.ListMulRoad
import PyProof.FactsAll.tuple_2
import PyProof.NeKinds
import PyProof.Rows.RuleIs
import PyProof.ExcInit
import PyProof.ExcClass3
import OpenK.KCls
import PyProof.InstStoreFacts
import OpenK.KMake
import PyProof.DictRoads
import PyProof.Rows.CountFlat
import PyProof.ListRange
import PyProof.Rows.SetFrom
import PyProof.CollectStr
import PyProof.Rows.TupMore
import PyProof.AttrMissHeap
import KE.KDictOf
import PyProof.DictWalks
import KE.KSortTup
import PyProof.DictItemsLoops
import KE.KDictList
import PyProof.CallStr
import PyProof.Conv_int_bool
import PySem.Challenge.RW_lendwharf_k55_falls_that_a_book_bears
set_option Elab.async false
set_option linter.all false
set_option maxRecDepth 100000
set_option maxHeartbeats 4000000
open PySem.Heap renaming get?_push_of_some -> O0, lt_size -> O6, get?_push_size -> O7, size_push -> E7, get?_update_other -> F7, get?_update_ne -> L3, get?_update_self -> L4
open List renaming getElem?_eq_getElem -> O1, length_map -> O2, getElem?_eq_some_iff -> O3, size_toArray -> O5, mem_cons_of_mem -> O8, mem_cons -> D1, getElem?_append_left -> D2, mem_append -> D4, map_cons -> D5, getD_eq_getElem?_getD -> D7, mem_append_right -> D8, pairwise_append -> D9, getElem?_map -> E1, getElem?_append_right -> E2, mem_append_left -> E3, mem_cons_self -> E4, length_append -> E5, mem_singleton -> E6, length_cons -> E8, append_assoc -> E9, length_range -> F0, pairwise_cons -> F1, extract_eq_drop_take -> F2, pairwise_iff_getElem -> F5, getElem?_set_self -> F6, getElem?_set_ne -> F8, mem_of_getElem? -> F9, perm_append_comm -> G7, all_eq_true -> L1, map_map -> L8
open Nat renaming le_refl -> O4, ne_of_lt -> O9, lt_of_lt_of_le -> D0, le_trans -> D3, lt_succ_of_lt -> F4, zero_le -> G8, lt_irrefl -> G9, le_of_lt -> L5
open Bool renaming false_ne_true -> D6, false_eq_true -> F3, and_eq_true -> L0
noncomputable section
namespace L2
open PySem PySem.Spec PyProof.Rows
abbrev Key:=Sum Int Str
def keyIs:Key->Value->Bool
  | .inl k,v=>Value.isInt k v
  | .inr x,v=>Value.isStrOf x v
def keyH (w:World):Key->Int
  | .inl k=>hashInt k
  | .inr x=>hashStr w x
theorem Jy:∀ {k:Key} {v:Value},keyIs k v=true->(∃ i t,k=Sum.inl i/\v=Value.int i t)\/(∃ x t,k=Sum.inr x/\v=Value.str x t)
  | .inl i,v,h=>by
    obtain ⟨t,e⟩:=Value.isInt_shape (k:=i) (v:=v) h
    exact .inl ⟨i,t,rfl,e⟩
  | .inr x,v,h=>by
    obtain ⟨t,e⟩:=Value.isStrOf_shape (x:=x) (v:=v) h
    exact .inr ⟨x,t,rfl,e⟩
theorem keyIs_int (i:Int) (t:Tok):keyIs (.inl i) (.int i t)=true:=by simp [keyIs,Value.isInt]
theorem keyIs_str (x:Str) (t:Tok):keyIs (.inr x) (.str x t)=true:=by simp [keyIs,Value.isStrOf]
theorem key_ll (a b:Int):decide ((Sum.inl a:Key)=Sum.inl b)=(a == b):=by
  by_cases e:a=b
  · subst e; simp
  · have h:¬ (Sum.inl a:Key)=Sum.inl b:=fun q=>e (Sum.inl.inj q)
    rw [decide_eq_false h]
    exact (beq_eq_false_iff_ne.mpr e).symm
theorem key_rr (a b:Str):decide ((Sum.inr a:Key)=Sum.inr b)=decide (a=b):=by
  by_cases e:a=b
  · subst e; simp
  · have h:¬ (Sum.inr a:Key)=Sum.inr b:=fun q=>e (Sum.inr.inj q)
    rw [decide_eq_false h,decide_eq_false e]
theorem key_lr (a:Int) (b:Str):decide ((Sum.inl a:Key)=Sum.inr b)=false:=decide_eq_false (fun q=>nomatch q)
theorem key_rl (a:Str) (b:Int):decide ((Sum.inr a:Key)=Sum.inl b)=false:=decide_eq_false (fun q=>nomatch q)
def mixKind (prog:Program) (w:World):PySem.KeyKind prog w Key where
  is:=keyIs
  hash:=keyH w
  inj:=fun v a b ha hb=>by
    rcases Jy ha with ⟨i,t,rfl,rfl⟩ | ⟨x,t,rfl,rfl⟩
    · rcases Jy hb with ⟨j,u,rfl,e⟩ | ⟨y,u,rfl,e⟩
      · injection e with e1 _; rw [e1]
      · exact nomatch e
    · rcases Jy hb with ⟨j,u,rfl,e⟩ | ⟨y,u,rfl,e⟩
      · exact nomatch e
      · injection e with e1 _; rw [e1]
  byValue:=fun k v h=>by
    rcases Jy h with ⟨i,t,rfl,rfl⟩ | ⟨x,t,rfl,rfl⟩ <;> rfl
  pyHash:=fun hv h=>by
    rcases Jy hv with ⟨i,t,rfl,rfl⟩ | ⟨x,t,rfl,rfl⟩
    · exact wpAny_pyHash_int h
    · exact wpAny_pyHash_str h
  eqBool:=fun hu hv h=>by
    rcases Jy hu with ⟨i,t,rfl,rfl⟩ | ⟨x,t,rfl,rfl⟩
    · rcases Jy hv with ⟨j,u,rfl,rfl⟩ | ⟨y,u,rfl,rfl⟩
      · rw [key_ll] at h; exact wpAny_eqBool_int h
      · rw [key_lr] at h; exact SeqAt.EqAt.int_str i t y u _ _ _ _ h
    · rcases Jy hv with ⟨j,u,rfl,rfl⟩ | ⟨y,u,rfl,rfl⟩
      · rw [key_rl] at h; exact SeqAt.EqAt.str_int x t j u _ _ _ _ h
      · rw [key_rr] at h; exact wpAny_eqBool_str h
  «strs»:=fun k x t v h=>by
    rcases Jy h with ⟨i,u,rfl,e⟩ | ⟨y,u,rfl,e⟩
    · exact nomatch e
    · injection e with e1 _
      subst e1
      cases v <;> rfl
theorem mixKind_int (prog:Program) (w:World) (i:Int) (t:Tok):(mixKind prog w).is (.inl i) (.int i t)=true:=keyIs_int i t
theorem mixKind_str (prog:Program) (w:World) (x:Str) (t:Tok):(mixKind prog w).is (.inr x) (.str x t)=true:=keyIs_str x t
end L2
namespace L2
open PySem PySem.Spec PyProof.Rows
inductive V where
  | non | bl (b:Bool) | int (i:Int) | str (x:Str) | byt (b:Array UInt8) | flt (b:UInt64) | ref (a:Addr) | ty (n:String)
  deriving DecidableEq
def RelV:V->Value->Prop
  | .non,u=>u=Value.none
  | .bl b,u=>u=Value.bool b
  | .int i,u=>∃ t,u=Value.int i t
  | .str x,u=>∃ t,u=Value.str x t
  | .byt b,u=>∃ t,u=Value.bytes b t
  | .flt b,u=>∃ t,u=Value.float b t
  | .ref a,u=>u=Value.ref a
  | .ty n,u=>u=Value.type n
abbrev Vals:List V->List Value->Prop:=Paired RelV
theorem Vals.length {xs:List V} {us:List Value} (r:Vals xs us):xs.length=us.length:=Paired.length r
theorem Vals.get:∀ {xs:List V} {us:List Value} {i:Nat} {x:V},Vals xs us->xs[i]?=some x->∃ u,us[i]?=some u/\RelV x u
  | _,_,_,_,.nil,e=>by simp at e
  | _,_,0,_,.cons r _,e=>by simp at e; subst e; exact ⟨_,rfl,r⟩
  | _,_,i + 1,x,.cons _ t,e=>by
    obtain ⟨u,h1,h2⟩:=Vals.get (i:=i) (x:=x) t (by simpa using e)
    exact ⟨u,by simpa using h1,h2⟩
theorem Vals.set {x:V} {u:Value} (r:RelV x u):∀ {xs:List V} {us:List Value} (i:Nat),Vals xs us->Vals (xs.set i x) (us.set i u)
  | _,_,_,.nil=>.nil
  | _,_,0,.cons _ t=>.cons r t
  | _,_,i + 1,.cons q t=>.cons q (Vals.set r i t)
theorem Vals.append:∀ {xs ys:List V} {us ws:List Value},Vals xs us->Vals ys ws->Vals (xs ++ ys) (us ++ ws)
  | _,_,_,_,.nil,s=>s
  | _,_,_,_,.cons r t,s=>.cons r (Vals.append t s)
theorem Vals.take:∀ {xs:List V} {us:List Value} (n:Nat),Vals xs us->Vals (xs.take n) (us.take n)
  | _,_,0,_=>.nil
  | _,_,_ + 1,.nil=>.nil
  | _,_,n + 1,.cons r t=>.cons r (Vals.take n t)
theorem Vals.drop:∀ {xs:List V} {us:List Value} (n:Nat),Vals xs us->Vals (xs.drop n) (us.drop n)
  | _,_,0,r=>r
  | _,_,_ + 1,.nil=>.nil
  | _,_,n + 1,.cons _ t=>Vals.drop n t
def RelO:Option V->Option Value->Prop
  | some v,some u=>RelV v u
  | none,none=>True
  | _,_=>False
def KV {κ:Type}:List (κ × V)->List (κ × Value)->Prop:=Paired fun (p:κ × V) (q:κ × Value)=>p.1=q.1/\RelV p.2 q.2
def kV:Key->V
  | .inl i=>.int i
  | .inr x=>.str x
inductive HO where
  | lst (xs:List V)
  | tup (xs:List V)
  | dK (kvs:List (Key × V)) | dT (kvs:List (List Key × V))
  | set (S:Int->Bool) (n:Nat)
  | ins (C dx:Addr) (fs:List (Str × V))
  | own (x:Addr)
  | xd (fs:List (Str × V))
  | met (f x:Addr)
  | rng (lo hi:Int)
  | frz (o:Obj) (u:HO)
  | tbl (ps:Array Value)
  | ext (φ:Heap->Prop)
abbrev Hp:=Addr->Option HO
def upd (H:Hp) (a:Addr) (o:HO):Hp:=fun b=>if b=a then some o else H b
theorem Qu {H:Hp} {a:Addr} {o:HO}:upd H a o a=some o:=by unfold upd; rw [if_pos rfl]
theorem Q7 {H:Hp} {a b:Addr} {o:HO} (h:b≠a):upd H a o b=H b:=by unfold upd; rw [if_neg h]
theorem ne_of {H:Hp} {a b:Addr} {o u:HO} (h:H a=some o) (h':H b=some u) (d:o≠u):a≠b:=by
  intro e; subst e; rw [h] at h'; exact d (Option.some.inj h')
theorem Q8 {H:Hp} {a b:Addr} {o:HO} (h:H a=some o) (h':H b=none):a≠b:=by
  intro e; subst e; rw [h] at h'; cases h'
section
variable (P:Program) (w:World)
def ObjOk (H:Hp) (h:Heap) (a:Addr):HO->Prop
  | .lst xs=>xs.length<=sizeLine/\∃ (its:List Value) (n:Nat),Vals xs its/\h.get? a=some { cls:=.type "list",data:=.seq its.toArray n }
  | .tup xs=>xs.length<=sizeLine/\∃ its:List Value,Vals xs its/\IsTup h a its.toArray
  | .dK kvs=>kvs.length<=sizeLine/\(a == sysModules)=false/\∃ vs,KV kvs vs/\h.DictOf (mixKind P w) a vs
  | .dT kvs=>kvs.length<=sizeLine/\(a == sysModules)=false/\∃ xs:List (List Key × Addr × Value),
      Paired (fun (p:List Key × V) (q:List Key × Addr × Value)=>p.1=q.1/\H q.2.1=some (.tup (p.1.map kV))/\RelV p.2 q.2.2) kvs xs /\
      ∃ o es ep,h.get? a=some o/\o.ExactDict/\o.data=.dict es ep/\es.toList=xs.map (entryOfKey (tupleKind (mixKind P w)))/\(xs.map (·.1)).Nodup
  | .set S n=>h.SetOf (intKind P w) a S n
  | .ins C dx fs=>H dx=some (.own a)/\fs.length<=1000/\dx≠a/\h.get? a=some (PySem.W.instObj C dx) /\
      ∃ mA,h.Ns1 dx mA/\(∀ f,RelO (fs.lookup f) (mA f))/\PySem.Within mA (fs.map (·.1))
  | .own _=>∃ o,h.get? a=some o
  | .xd fs=>∃ mA,h.Ns1 a mA/\∀ f,RelO (fs.lookup f) (mA f)
  | .rng lo hi=>∃ t u v,h.get? a=some { cls:=.type "range",data:=.fields #[.int lo t,.int hi u,.int 1 v] }
  | .frz o u=>h.get? a=some o/\ObjOk H h a u
  | .tbl ps=>h.get? a=some { cls:=.none,data:=.fields ps }
  | .met f x=>h.get? a=some (PySem.W.methodObj (.ref f) (.ref x))
  | .ext φ=>φ h/\(∃ o,h.get? a=some o)/\∀ h1 h2:Heap,φ h1->(∀ o,h1.get? a=some o->h2.get? a=some o)->φ h2
def HOk (H:Hp) (h:Heap):Prop:=∀ a o,H a=some o->ObjOk P w H h a o
end
section
variable {P:Program} {w:World} {H H':Hp} {h h':Heap} {a:Addr} {o:HO}
theorem ObjOk.lt (x:ObjOk P w H h a o):a < h.objs.size:=by
  cases o with
  | lst xs=>obtain ⟨_,_,_,_,e⟩:=x; exact O6 e
  | tup xs=>obtain ⟨_,_,_,p⟩:=x; exact p.lt
  | dK kvs=>obtain ⟨_,_,_,_,o,_,_,e,_⟩:=x; exact O6 e
  | dT kvs=>obtain ⟨_,_,_,_,o,_,_,e,_⟩:=x; exact O6 e
  | set S n=>obtain ⟨o,_,_,_,e,_⟩:=x; exact O6 e
  | ins C dx fs=>obtain ⟨_,_,_,e,_⟩:=x; exact O6 e
  | own y=>obtain ⟨_,e⟩:=x; exact O6 e
  | xd fs=>obtain ⟨_,⟨_,_,_,e,_⟩,_⟩:=x; exact O6 e
  | rng lo hi=>obtain ⟨_,_,_,e⟩:=x; exact O6 e
  | frz ob u=>obtain ⟨e,_⟩:=x; exact O6 e
  | tbl ps=>exact O6 (show h.get? a=some _ from x)
  | met f y=>exact O6 (show h.get? a=some _ from x)
  | ext φ=>obtain ⟨_,⟨_,e⟩,_⟩:=x; exact O6 e
theorem Paired.mapP {α β:Type} {F G:α->β->Prop}:∀ {l₁:List α} {l₂:List β},Paired F l₁ l₂->(∀ a b,F a b->G a b)->Paired G l₁ l₂
  | _,_,.nil,_=>.nil
  | _,_,.cons r t,f=>.cons (f _ _ r) (Paired.mapP t f)
theorem ObjOk.stay (x:ObjOk P w H h a o) (k:∀ b u,(b=a\/H b=some (.own a))->h.get? b=some u->h'.get? b=some u)
    (ho:∀ b,H b=some (.own a)->H' b=some (.own a)) (ht:∀ b xs,H b=some (.tup xs)->H' b=some (.tup xs)):ObjOk P w H' h' a o:=by
  induction o with
  | lst xs=>obtain ⟨z,its,n,r,e⟩:=x; exact ⟨z,its,n,r,k _ _ (.inl rfl) e⟩
  | tup xs=>obtain ⟨z,its,r,ob,e,c⟩:=x; exact ⟨z,its,r,ob,k _ _ (.inl rfl) e,c⟩
  | dK kvs=>obtain ⟨z,y,vs,r,ob,es,ep,e,c⟩:=x; exact ⟨z,y,vs,r,ob,es,ep,k _ _ (.inl rfl) e,c⟩
  | dT kvs=>
    obtain ⟨z,y,xs,r,ob,es,ep,e,c⟩:=x
    exact ⟨z,y,xs,Paired.mapP r fun p q z=>⟨z.1,ht _ _ z.2.1,z.2.2⟩,ob,es,ep,k _ _ (.inl rfl) e,c⟩
  | set S n=>obtain ⟨ob,es,ep,t,e,c⟩:=x; exact ⟨ob,es,ep,t,k _ _ (.inl rfl) e,c⟩
  | ins C dx fs=>
    obtain ⟨d,z,ne,e,mA,⟨od,es,ep,e2,c⟩,r⟩:=x
    exact ⟨ho _ d,z,ne,k _ _ (.inl rfl) e,mA,⟨od,es,ep,k _ _ (.inr d) e2,c⟩,r⟩
  | own y=>obtain ⟨ob,e⟩:=x; exact ⟨ob,k _ _ (.inl rfl) e⟩
  | xd fs=>obtain ⟨mA,⟨od,es,ep,e,c⟩,r⟩:=x; exact ⟨mA,⟨od,es,ep,k _ _ (.inl rfl) e,c⟩,r⟩
  | rng lo hi=>obtain ⟨t,u,v,e⟩:=x; exact ⟨t,u,v,k _ _ (.inl rfl) e⟩
  | frz ob u ih=>obtain ⟨e,q⟩:=x; exact ⟨k _ _ (.inl rfl) e,ih q⟩
  | tbl ps=>
    have e:h.get? a=some { cls:=.none,data:=.fields ps }:=x
    show h'.get? a=some { cls:=.none,data:=.fields ps }
    exact k a _ (.inl rfl) e
  | met f y=>
    have e:h.get? a=some (PySem.W.methodObj (.ref f) (.ref y)):=x
    show h'.get? a=some (PySem.W.methodObj (.ref f) (.ref y))
    exact k a _ (.inl rfl) e
  | ext φ=>obtain ⟨p,⟨o,e⟩,st⟩:=x; exact ⟨st _ _ p fun o q=>k _ _ (.inl rfl) q,⟨o,k _ _ (.inl rfl) e⟩,st⟩
theorem HOk.lt (x:HOk P w H h) (e:H a=some o):a < h.objs.size:=(x a o e).lt
theorem HOk.fresh (x:HOk P w H h) (e:h.objs.size<=a):H a=none:=by
  cases q:H a with
  | none=>rfl
  | some u=>exact absurd (D0 (x.lt q) e) (G9 _)
theorem HOk.kept (x:HOk P w H h) (k:∀ b u,h.get? b=some u->h'.get? b=some u):HOk P w H h':=fun a o e=>
  (x a o e).stay (fun b u _ q=>k b u q) (fun _ q=>q) fun _ _ q=>q
theorem HOk.laid (x:HOk P w H h) (k:∀ b u,h.get? b=some u->h'.get? b=some u) (hp:h.objs.size<=a) (new:ObjOk P w (upd H a o) h' a o):HOk P w (upd H a o) h':=fun b u e=>by
  have hn:=x.fresh hp
  by_cases hb:b=a
  · subst hb; rw [Qu] at e; cases e; exact new
  · rw [Q7 hb] at e
    exact (x b u e).stay (fun c v _ q=>k c v q) (fun c q=>by rw [Q7 (Q8 q hn)]; exact q) fun c xs q=>by rw [Q7 (Q8 q hn)]; exact q
end
def Rd (H:Hp) (a:Addr) (u:HO):Prop:=H a=some u\/∃ o,H a=some (.frz o u)
theorem Rd.ok {P:Program} {w:World} {H:Hp} {h:Heap} {a:Addr} {u:HO} (r:Rd H a u) (x:HOk P w H h):ObjOk P w H h a u:=by
  rcases r with r | ⟨o,r⟩
  · exact x a u r
  · obtain ⟨_,q⟩:=x a _ r
    exact q
def Mut:Option HO->Prop
  | some (.lst _)=>True
  | some (.dK _)=>True
  | some (.dT _)=>True
  | some (.set _ _)=>True
  | some (.ins _ _ _)=>True
  | some (.ext _)=>True
  | _=>False
section
variable {P:Program} {w:World} {H:Hp} {h h':Heap} {x e:Addr} {o':HO}
theorem HOk.write (ok:HOk P w H h) (mu:Mut (H x)) (he:e=x\/H e=some (.own x)) (k:∀ b u,b≠e->h.get? b=some u->h'.get? b=some u) (heo:∃ u,h'.get? e=some u)
    (new:ObjOk P w (upd H x o') h' x o'):HOk P w (upd H x o') h':=fun b u q=>by
  have nown:∀ c y,H c=some (.own y)->c≠x:=fun c y r z=>by subst z; rw [r] at mu; exact mu
  have ntup:∀ c xs,H c=some (.tup xs)->c≠x:=fun c xs r z=>by subst z; rw [r] at mu; exact mu
  by_cases hb:b=x
  · subst hb; rw [Qu] at q; cases q; exact new
  · rw [Q7 hb] at q
    by_cases hbe:b=e
    · have q':H b=some (.own x):=by
        rcases he with z | z
        · exact absurd (hbe.trans z) hb
        · rw [hbe]; exact z
      rw [q] at q'; cases q'
      obtain ⟨v,hv⟩:=heo
      exact ⟨v,by rw [hbe]; exact hv⟩
    · refine (ok b u q).stay (fun c v hc r=>k c v ?_ r) (fun c r=>by rw [Q7 (nown c b r)]; exact r) fun c xs r=>by rw [Q7 (ntup c xs r)]; exact r
      rcases hc with rfl | hc
      · exact hbe
      · rintro rfl
        rcases he with z | z
        · exact nown c b hc z
        · rw [hc] at z; cases z; exact hb rfl
end
structure Un (fs ex:List Addr) (H H':Hp) (h h':Heap):Prop where
  keep:∀ b o,h.get? b=some o->H b=none->b∉fs->b∉ex->h'.get? b=some o
  slot:∀ b o,h.get? b=some o->H b=none->b∈fs->b∉ex->∃ sl,h'.get? b=some { o with slots:=sl }
  free:∀ b o,h.get? b=some o->H b=none->b∉ex->H' b=none
  there:∀ b o,h.get? b=some o->b∉ex->∃ o',h'.get? b=some o'
  tups:∀ b xs,H b=some (.tup xs)->H' b=some (.tup xs)
  frzs:∀ b o u,H b=some (.frz o u)->H' b=some (.frz o u)
  tbls:∀ b ps,H b=some (.tbl ps)->∃ more,H' b=some (.tbl (ps ++ more))
section
variable {fs fs' ex ex':List Addr} {H H1 H2:Hp} {h h1 h2 h':Heap} {a x e:Addr} {o:HO}
theorem Un.any (u:Un fs ex H H1 h h1) {b:Addr} {ob:Obj} (q:h.get? b=some ob) (n:H b=none) (hx:b∉ex):∃ sl,h1.get? b=some { ob with slots:=sl }:=by
  by_cases hb:b∈fs
  · exact u.slot b ob q n hb hx
  · exact ⟨ob.slots,u.keep b ob q n hb hx⟩
theorem Un.kept (k:∀ b u,h.get? b=some u->h'.get? b=some u):Un fs ex H H h h':=
  ⟨fun b ob q _ _ _=>k b ob q,fun b ob q _ _ _=>⟨ob.slots,k b ob q⟩,fun _ _ _ n _=>n,fun b ob q _=>⟨ob,k b ob q⟩,fun _ _ q=>q,fun _ _ _ q=>q,fun _ ps q=>⟨#[],by rw [q]; simp⟩⟩
theorem Un.refl:Un fs ex H H h h:=Un.kept fun _ _ q=>q
theorem Un.laid (k:∀ b u,h.get? b=some u->h'.get? b=some u) (hp:h.objs.size<=a) (hn:H a=none):Un fs ex H (upd H a o) h h' where
  keep:=fun b u q _ _ _=>k b u q
  slot:=fun b u q _ _ _=>⟨u.slots,k b u q⟩
  free:=fun b u q n _=>by rw [Q7 (O9 (D0 (O6 q) hp))]; exact n
  there:=fun b u q _=>⟨u,k b u q⟩
  tups:=fun b xs q=>by rw [Q7 (Q8 q hn)]; exact q
  frzs:=fun b u xs q=>by rw [Q7 (Q8 q hn)]; exact q
  tbls:=fun b ps q=>⟨#[],by rw [Q7 (Q8 q hn),q]; simp⟩
theorem Un.write (mu:Mut (H x)) (he:e=x\/H e=some (.own x)) (k:∀ b u,b≠e->h.get? b=some u->h'.get? b=some u) (heo:∃ u,h'.get? e=some u):Un fs ex H (upd H x o) h h':=by
  have hx:∀ b,H b=none->b≠x:=fun b n z=>by subst z; rw [n] at mu; exact mu
  have hb:∀ b,H b=none->b≠e:=fun b n z=>by
    subst z
    rcases he with r | r
    · exact hx b n r
    · rw [n] at r; cases r
  have hm:∀ b u,H b=some u->¬ Mut (some u)->b≠x:=fun b u q nm z=>by subst z; rw [q] at mu; exact nm mu
  refine ⟨fun b u q n _ _=>k b u (hb b n) q,fun b u q n _ _=>⟨u.slots,k b u (hb b n) q⟩,fun b u q n _=>by rw [Q7 (hx b n)]; exact n,fun b u q _=>?_,
    fun b xs q=>by rw [Q7 (hm b _ q fun z=>z)]; exact q,fun b u xs q=>by rw [Q7 (hm b _ q fun z=>z)]; exact q,fun b ps q=>⟨#[],by rw [Q7 (hm b _ q fun z=>z),q]; simp⟩⟩
  by_cases hbe:b=e
  · subst hbe; exact heo
  · exact ⟨u,k b u hbe q⟩
end
def trk (h:Heap) (H:Hp):List Addr:=(List.range h.objs.size).filter fun a=>(H a).isSome
def hidT (h:Heap) (H:Hp):Heap:=PySem.W.hideAll h (trk h H)
theorem hidT_size (h:Heap) (H:Hp):(hidT h H).objs.size=h.objs.size:=PySem.W.hideAll_size _ _
theorem hidT_get {h:Heap} {H:Hp} {b:Addr} {o:Obj} (e:h.get? b=some o) (n:H b=none):(hidT h H).get? b=some o:=
  PySem.W.hideAll_get _ e fun hm=>by
    have q:(H b).isSome=true:=(List.mem_filter.mp hm).2
    rw [n] at q; simp at q
theorem of_hidT {h:Heap} {H:Hp} {b:Addr} {o:Obj} (e:(hidT h H).get? b=some o):h.get? b=some o/\H b=none:=by
  have e':h.get? b=some o:=PySem.W.of_hideAll (trk h H) e
  refine ⟨e',?_⟩
  cases q:H b with
  | none=>rfl
  | some x=>
    have hm:b∈trk h H:=List.mem_filter.mpr ⟨List.mem_range.mpr (O6 e'),by simp [q]⟩
    have z:(hidT h H).get? b=none:=PySem.W.hideAll_none (trk h H) hm
    rw [z] at e; cases e
def allNews (g h:Heap) (L:Addr):List (Addr × Obj):=(List.range h.objs.size).filterMap fun a=>if a=L\/(g.get? a).isSome=true then none else (h.get? a).map fun o=>(a,o)
def rest (g h:Heap) (L d:Addr):List (Addr × Obj):=(allNews g h L).filter fun p=>decide (p.1≠d)
end L2
namespace L2
open PySem PySem.Spec PyProof.Rows
structure Mod (K:PySem.W.Frag) (mg:Str->Option Value) (base:Heap):Prop where
  kin:K.In base
  glob:base.Ns mainGlobals mg
  blt:∃ mb,base.Ns builtinsNs mb/\∀ x:Str,x≠"__name__" -> mb x=bootBuiltins x
  nolimit:base.NoLimit
structure Cx where
  prog:Program
  w:World
  K:PySem.W.Frag
  mg:Str->Option Value
  base:Heap
  A:Around
  N:List Str
  s₀:Shared
  H₀:Hp
  env:Env
  outer:List Env
  stack:List Env
  ex:List Addr
  fn:Str->Bool
  calm:Bool
  pn:List (Addr × Obj)
  xe:Value->Shared->Prop
def frs (l:List Env):List Addr:=l.filterMap (·.frame)
abbrev Cx.fs (X:Cx):List Addr:=frs X.outer
def Vis (sc:Scope) (x:Str):Prop:=sc.names.lookup x=some .local\/sc.names.lookup x=some .cell\/sc.names.lookup x=some .free
def Loc (sc:Scope) (x:Str):Prop:=sc.names.lookup x=some .local\/sc.names.lookup x=some .cell
def Look (env:Env) (h:Heap) (m:Str->Option Value) (x:Str) (u:Value):Prop:=
  (env.kindOf x=some .local/\m x=some u)\/((env.kindOf x=some .cell\/env.kindOf x=some .free)/\∃ c,env.cells.lookup x=some c/\h.IsCell c (some u))
structure Cx.Ok (X:Cx):Prop where
  mod:Mod X.K X.mg X.base
  kind:X.env.scope.kind=.function
  glob:X.env.globals=mainGlobals
  blt:X.env.builtins=builtinsNs
  above:X.s₀.heap.objs.size<=X.env.locals
  inj:∀ x y c,X.env.cells.lookup x=some c->X.env.cells.lookup y=some c->x=y
  has:∀ x,(X.env.kindOf x=some .cell\/X.env.kindOf x=some .free)->∃ c,X.env.cells.lookup x=some c
  cab:∀ x c,X.fn x=true->X.env.cells.lookup x=some c->X.s₀.heap.objs.size<=c
  hd:X.calm=true->X.A.handled=none
  frames:X.A.frames=some X.stack
  stk:X.stack=X.outer\/(X.stack=X.env :: X.outer/\X.env.frame=some X.env.locals)
  exf:∀ b∈X.ex,b≠X.env.locals/\∀ x c,X.env.cells.lookup x=some c->c≠b
  bs:∀ b o,X.base.get? b=some o->X.s₀.heap.get? b=some o/\X.H₀ b=none
  bsz:X.base.objs.size<=X.s₀.heap.objs.size
  noex:∀ b o,X.base.get? b=some o->b∉X.ex
  exfs:∀ b∈X.ex,b∉X.fs
  funs:X.s₀.heap.FunFrames X.base X.outer
  frf:∀ b∈X.fs,X.H₀ b=none
structure Inv (X:Cx) (pins:List (Addr × Obj)) (σ:List (Option V)) (H:Hp) (s:Shared):Prop where
  ok:X.Ok
  os:s.os=X.s₀.os
  bare:AllBare s.gens
  base:Un X.fs X.ex X.H₀ H X.s₀.heap s.heap
  loc:∃ m,s.heap.Ns X.env.locals m/\∀ (i:Nat) (x:Str) (v:V),X.N[i]?=some x->σ[i]?=some (some v)->Vis X.env.scope x->∃ u,RelV v u/\Look X.env s.heap m x u
  cell:∀ x c,X.env.cells.lookup x=some c->∃ v,s.heap.IsCell c v
  free:H X.env.locals=none
  freeC:∀ x c,X.env.cells.lookup x=some c->H c=none
  pin:∀ p∈X.pn ++ pins,s.heap.get? p.1=some p.2/\H p.1=none/\p.1≠X.env.locals/\p.1∉X.fs/\∀ v,p.2.data≠.cell v
  hok:HOk X.prog X.w H s.heap
  len:σ.length=X.N.length
section
variable {X:Cx} {pins:List (Addr × Obj)} {σ:List (Option V)} {H H':Hp} {s:Shared} {h':Heap}
theorem Cx.Ok.nofr (ok:X.Ok) {b:Addr} {o:Obj} (e:X.base.get? b=some o):b∉X.fs:=fun hb=>by
  have:=(ok.funs.mem hb).1
  rw [e] at this; cases this
theorem Inv.bs (I:Inv X pins σ H s):∀ b o,X.base.get? b=some o->s.heap.get? b=some o/\H b=none:=fun b o e=>
  ⟨I.base.keep b o (I.ok.bs b o e).1 (I.ok.bs b o e).2 (I.ok.nofr e) (I.ok.noex b o e),I.base.free b o (I.ok.bs b o e).1 (I.ok.bs b o e).2 (I.ok.noex b o e)⟩
theorem Inv.bk (I:Inv X pins σ H s):∀ b o,X.base.get? b=some o->s.heap.get? b=some o:=fun b o e=>(I.bs b o e).1
theorem Inv.mod (I:Inv X pins σ H s):Mod X.K X.mg X.base:=I.ok.mod
theorem Inv.kIn (I:Inv X pins σ H s):X.K.In s.heap:=I.ok.mod.kin.keeps I.bk
theorem Inv.lt (I:Inv X pins σ H s):X.env.locals < s.heap.objs.size:=let ⟨_,hn,_⟩:=I.loc; hn.lt
theorem Inv.sz (I:Inv X pins σ H s):X.s₀.heap.objs.size<=s.heap.objs.size:=D3 I.ok.above (L5 I.lt)
theorem Inv.nofs (I:Inv X pins σ H s) {a:Addr} (h:s.heap.objs.size<=a):a∉X.fs:=fun hb=>by
  obtain ⟨_,o,ho,_⟩:=I.ok.funs.mem hb
  exact absurd (D0 (O6 ho) (D3 I.sz h)) (G9 _)
theorem Inv.cne (I:Inv X pins σ H s):∀ x c,X.env.cells.lookup x=some c->c≠X.env.locals:=fun x c e z=>by
  obtain ⟨v,o,ho,hd⟩:=I.cell x c e
  obtain ⟨m,⟨o',es,ep,ho',hd',_⟩,_⟩:=I.loc
  rw [z,ho'] at ho; cases ho; rw [hd'] at hd; cases hd
theorem Inv.funs (I:Inv X pins σ H s):s.heap.FunFrames X.base X.outer:=by
  have all:∀ (l:List Env),(∀ b∈frs l,b∈X.fs)->X.s₀.heap.FunFrames X.base l->s.heap.FunFrames X.base l:=by
    intro l
    induction l with
    | nil=>intro _ _; trivial
    | cons env r ih=>
      intro hs hl
      obtain ⟨hk,⟨L,o,hf,hn,ho,hd⟩,hr⟩:=hl
      have hL:L∈X.fs:=hs L (by unfold frs; rw [List.filterMap_cons,hf]; exact E4)
      obtain ⟨sl,e⟩:=I.base.slot L o ho (I.ok.frf L hL) hL fun z=>I.ok.exfs L z hL
      exact ⟨hk,⟨L,_,hf,hn,e,hd⟩,ih (fun b hb=>hs b (by unfold frs; rw [List.filterMap_cons,hf]; exact O8 _ hb)) hr⟩
  exact all X.outer (fun _ hb=>hb) I.ok.funs
theorem Inv.stack (I:Inv X pins σ H s):s.heap.FunFrames X.base X.stack:=by
  rcases I.ok.stk with e | ⟨e,hf⟩
  · rw [e]; exact I.funs
  · rw [e]
    obtain ⟨m,hn,_⟩:=I.loc
    refine .cons (by rw [I.ok.kind]; decide) hf hn ?_ I.funs
    exact Heap.get?_none_of_le (D3 I.ok.bsz I.ok.above)
theorem Inv.stkSub (I:Inv X pins σ H s):∀ b∈frs X.stack,b∈X.env.locals :: X.fs:=fun b hb=>by
  rcases I.ok.stk with e | ⟨e,hf⟩
  · rw [e] at hb; exact O8 _ hb
  · rw [e] at hb
    unfold frs at hb
    rw [List.filterMap_cons,hf] at hb
    exact hb
theorem Inv.stkFree (I:Inv X pins σ H s):∀ b∈frs X.stack,H b=none:=fun b hb=>by
  rcases D1.mp (I.stkSub b hb) with e | hb
  · rw [e]; exact I.free
  · obtain ⟨_,o,ho,_⟩:=I.ok.funs.mem hb
    exact I.base.free b o ho (I.ok.frf b hb) fun z=>I.ok.exfs b z hb
theorem Inv.step {g':Array GenState} {t':Nat} {d':Drawn} {ch:List Addr} (I:Inv X pins σ H s)
    (hch:∀ b∈ch,(b∈X.ex\/X.s₀.heap.objs.size<=b)/\b≠X.env.locals/\(∀ x c,X.env.cells.lookup x=some c->c≠b)/\∀ p∈X.pn ++ pins,p.1≠b)
    (keep:∀ b o,b≠X.env.locals->b∉X.fs->b∉ch->s.heap.get? b=some o->H b=none->h'.get? b=some o)
    (slot:∀ b o,b≠X.env.locals->b∈X.fs->b∉ch->s.heap.get? b=some o->H b=none->∃ sl,h'.get? b=some { o with slots:=sl }) (free:∀ b o,b∉ch->s.heap.get? b=some o->H b=none->H' b=none)
    (there:∀ b o,b∉ch->s.heap.get? b=some o->∃ o',h'.get? b=some o')
    (tups:∀ b xs,H b=some (.tup xs)->H' b=some (.tup xs)) (frzs:∀ b o u,H b=some (.frz o u)->H' b=some (.frz o u)) (tbls:∀ b ps,H b=some (.tbl ps)->∃ more,H' b=some (.tbl (ps ++ more)))
    (ns:∀ m,s.heap.Ns X.env.locals m->h'.Ns X.env.locals m) (hok:HOk X.prog X.w H' h') (hg:AllBare g') :
    Inv X pins σ H' { s with heap:=h',gens:=g',drawn:=d',toks:=t' }:=by
  have neL:∀ b o,X.s₀.heap.get? b=some o->b≠X.env.locals:=fun b o e=>O9 (D0 (O6 e) I.ok.above)
  have neC:∀ b o,X.s₀.heap.get? b=some o->b∉X.ex->b∉ch:=fun b o e hx hb=>by
    rcases (hch b hb).1 with z | z
    · exact hx z
    · exact absurd (D0 (O6 e) z) (G9 _)
  have cellK:∀ x c,X.env.cells.lookup x=some c->∀ v,s.heap.IsCell c v->h'.IsCell c v:=fun x c e v ⟨o,ho,hd⟩=>by
    have nch:c∉ch:=fun z=>(hch c z).2.2.1 x c e rfl
    by_cases hc:c∈X.fs
    · obtain ⟨sl,q⟩:=slot c o (I.cne x c e) hc nch ho (I.freeC x c e)
      exact ⟨_,q,hd⟩
    · exact ⟨o,keep c o (I.cne x c e) hc nch ho (I.freeC x c e),hd⟩
  refine ⟨I.ok,I.os,hg,⟨fun b o e n hb hx=>?_,fun b o e n hb hx=>?_,fun b o e n hx=>?_,fun b o e hx=>?_,fun b xs e=>tups b xs (I.base.tups b xs e),fun b o xs e=>frzs b o xs (I.base.frzs b o xs e),fun b ps e=>?_⟩,?_,fun x c e=>?_,?_,fun x c e=>?_,fun p hp=>?_,hok,I.len⟩
  · exact keep b o (neL b o e) hb (neC b o e hx) (I.base.keep b o e n hb hx) (I.base.free b o e n hx)
  · obtain ⟨sl,e1⟩:=I.base.slot b o e n hb hx
    obtain ⟨sl',e2⟩:=slot b _ (neL b o e) hb (neC b o e hx) e1 (I.base.free b o e n hx)
    exact ⟨sl',e2⟩
  · obtain ⟨o',e1⟩:=I.base.there b o e hx
    exact free b o' (neC b o e hx) e1 (I.base.free b o e n hx)
  · obtain ⟨o',e1⟩:=I.base.there b o e hx
    exact there b o' (neC b o e hx) e1
  · obtain ⟨m1,e1⟩:=I.base.tbls b ps e
    obtain ⟨m2,e2⟩:=tbls b _ e1
    exact ⟨m1 ++ m2,by rw [e2,Array.append_assoc]⟩
  · obtain ⟨m,hn,hl⟩:=I.loc
    refine ⟨m,ns m hn,fun i x v e1 e2 e3=>?_⟩
    obtain ⟨u,r,l⟩:=hl i x v e1 e2 e3
    refine ⟨u,r,?_⟩
    rcases l with l | ⟨k,c,e,z⟩
    · exact .inl l
    · exact .inr ⟨k,c,e,cellK x c e _ z⟩
  · obtain ⟨v,z⟩:=I.cell x c e
    exact ⟨v,cellK x c e v z⟩
  · obtain ⟨m,⟨o,_,_,ho,_⟩,_⟩:=I.loc
    exact free _ o (fun z=>(hch _ z).2.1 rfl) ho I.free
  · obtain ⟨v,o,ho,hd⟩:=I.cell x c e
    exact free c o (fun z=>(hch c z).2.2.1 x c e rfl) ho (I.freeC x c e)
  · obtain ⟨e,n,ne,nf,d⟩:=I.pin p hp
    have nch:p.1∉ch:=fun z=>(hch p.1 z).2.2.2 p hp rfl
    exact ⟨keep p.1 p.2 ne nf nch e n,free p.1 p.2 nch e n,ne,nf,d⟩
theorem Inv.un {t':Nat} (I:Inv X pins σ H s) (u:Un X.fs [] H H' s.heap h') (hok:HOk X.prog X.w H' h'):Inv X pins σ H' { s with heap:=h',toks:=t' }:=by
  obtain ⟨m,⟨o,es,ep,ho,r⟩,_⟩:=id I.loc
  obtain ⟨sl,hL⟩:=u.any ho I.free (by simp)
  exact I.step (g':=s.gens) (d':=s.drawn) (ch:=[]) (fun _ z=>nomatch z) (fun b o _ hb _ e n=>u.keep b o e n hb (by simp)) (fun b o _ hb _ e n=>u.slot b o e n hb (by simp)) (fun b o _ e n=>u.free b o e n (by simp)) (fun b o _ e=>u.there b o e (by simp)) u.tups u.frzs u.tbls (fun m' hm=>by
    obtain ⟨o',es',ep',ho',r'⟩:=hm
    rw [ho] at ho'; cases ho'
    exact ⟨_,es',ep',hL,r'⟩) hok I.bare
theorem Inv.call {g':Array GenState} {t':Nat} {d':Drawn} {ch:List Addr} (I:Inv X pins σ H s) (u:Un (frs X.stack) ch H H' s.heap h') (hok:HOk X.prog X.w H' h') (hg:AllBare g')
    (hch:∀ b∈ch,(b∈X.ex\/X.s₀.heap.objs.size<=b)/\b≠X.env.locals/\(∀ x c,X.env.cells.lookup x=some c->c≠b)/\∀ p∈X.pn ++ pins,p.1≠b) :
    Inv X pins σ H' { s with heap:=h',gens:=g',drawn:=d',toks:=t' }:=by
  obtain ⟨m,⟨o,es,ep,ho,r⟩,_⟩:=id I.loc
  obtain ⟨sl,hL⟩:=u.any ho I.free fun z=>(hch _ z).2.1 rfl
  exact I.step (ch:=ch) hch (fun b o hL hb hc e n=>u.keep b o e n (fun z=>(D1.mp (I.stkSub b z)).elim hL hb) hc) (fun b o _ _ hc e n=>u.any e n hc) (fun b o hc e n=>u.free b o e n hc) (fun b o hc e=>u.there b o e hc) u.tups u.frzs u.tbls (fun m' hm=>by
    obtain ⟨o',es',ep',ho',r'⟩:=hm
    rw [ho] at ho'; cases ho'
    exact ⟨_,es',ep',hL,r'⟩) hok hg
theorem Inv.turned {t':Nat} {it:Addr} (I:Inv X pins σ H s) (k:∀ b o,b≠it->s.heap.get? b=some o->h'.get? b=some o) (hn:H it=none) (hL:it≠X.env.locals)
    (h1:it∈X.ex\/X.s₀.heap.objs.size<=it) (h2:∀ x c,X.env.cells.lookup x=some c->c≠it) (h3:∀ p∈X.pn ++ pins,p.1≠it):Inv X pins σ H { s with heap:=h',toks:=t' }:=by
  have nit:∀ b u,H b=some u->b≠it:=fun b u e z=>by rw [z,hn] at e; cases e
  refine I.step (g':=s.gens) (d':=s.drawn) (ch:=[it]) (fun b hb=>?_) (fun b o _ _ hc e _=>k b o (fun z=>hc (by simp [z])) e) (fun b o _ _ hc e _=>⟨o.slots,k b o (fun z=>hc (by simp [z])) e⟩) (fun _ _ _ _ n=>n)
    (fun b o hc e=>⟨o,k b o (fun z=>hc (by simp [z])) e⟩) (fun _ _ e=>e) (fun _ _ _ e=>e) (fun b ps e=>⟨#[],by rw [e]; simp⟩) (fun m hm=>?_) (fun b u e=>?_) I.bare
  · have e:b=it:=by simpa using hb
    subst e
    exact ⟨h1,hL,h2,h3⟩
  · obtain ⟨o,es,ep,ho,r⟩:=hm
    exact ⟨o,es,ep,k _ o (Ne.symm hL) ho,r⟩
  · refine (I.hok b u e).stay (fun c v hc q=>k c v ?_ q) (fun _ q=>q) fun _ _ q=>q
    rcases hc with z | z
    · rw [z]; exact nit b u e
    · exact nit c _ z
theorem Inv.tok (I:Inv X pins σ H s) (t:Nat):Inv X pins σ H { s with toks:=t }:=I.un (h':=s.heap) (t':=t) Un.refl I.hok
theorem Inv.kept {t':Nat} (I:Inv X pins σ H s) (k:∀ b u,s.heap.get? b=some u->h'.get? b=some u):Inv X pins σ H { s with heap:=h',toks:=t' }:=I.un (Un.kept k) (I.hok.kept k)
theorem Inv.laid {a:Addr} {o:HO} {t':Nat} (I:Inv X pins σ H s) (k:∀ b u,s.heap.get? b=some u->h'.get? b=some u) (hp:s.heap.objs.size<=a) (new:ObjOk X.prog X.w (upd H a o) h' a o) :
    Inv X pins σ (upd H a o) { s with heap:=h',toks:=t' }:=I.un (Un.laid k hp (I.hok.fresh hp)) (I.hok.laid k hp new)
theorem Inv.write {x e:Addr} {o:HO} {t':Nat} (I:Inv X pins σ H s) (mu:Mut (H x)) (he:e=x\/H e=some (.own x)) (k:∀ b u,b≠e->s.heap.get? b=some u->h'.get? b=some u) (heo:∃ u,h'.get? e=some u)
    (new:ObjOk X.prog X.w (upd H x o) h' x o):Inv X pins σ (upd H x o) { s with heap:=h',toks:=t' }:=I.un (Un.write mu he k heo) (I.hok.write mu he k heo new)
theorem Inv.pins_of {pins':List (Addr × Obj)} (I:Inv X pins σ H s) (h:∀ p∈pins',s.heap.get? p.1=some p.2/\H p.1=none/\p.1≠X.env.locals/\p.1∉X.fs/\∀ v,p.2.data≠.cell v):Inv X pins' σ H s:=
  ⟨I.ok,I.os,I.bare,I.base,I.loc,I.cell,I.free,I.freeC,fun p hp=>(D4.mp hp).elim (fun z=>I.pin p (E3 _ z)) (h p),I.hok,I.len⟩
theorem nodup_ix {N:List Str} (hN:N.Nodup) {i j:Nat} {x:Str} (a:N[i]?=some x) (b:N[j]?=some x):i=j:=by
  obtain ⟨h1,e1⟩:=O3.mp a
  obtain ⟨h2,e2⟩:=O3.mp b
  exact (List.getElem_inj hN).mp (e1.trans e2.symm)
theorem store_ok2 {M:Model} {A:Around} {E:Value->Shared->Prop} {i:Nat} {x:Str} {v:V} {u:Value} {Q:Unit->Shared->Prop} (I:Inv X pins σ H s) (hN:X.N.Nodup) (hi:X.N[i]?=some x) (hx:Loc X.env.scope x) (r:RelV v u)
    (h:∀ s',Inv X pins (σ.set i (some v)) H s'->(∃ a,Heap.SameBut a s.heap s'.heap/\(a=X.env.locals\/X.env.cells.lookup x=some a))->Q () s') (hf:X.fn x=true\/X.env.scope.names.lookup x=some .local:=by first | exact .inl rfl | exact .inr rfl | assumption):wpAny M A (storeName X.env x u) Q E s:=by
  obtain ⟨m,hn,hl⟩:=id I.loc
  have hcls:(X.env.scope.kind == .class || (X.env.scope.kind == .module && X.env.locals != X.env.globals))=false:=by rw [I.ok.kind]; rfl
  have hiσ:i < σ.length:=by rw [I.len]; exact (O3.mp hi).1
  have cne:=I.cne
  have tracked:∀ {a:Addr} {h':Heap},(∃ o,s.heap.get? a=some o/\H a=none)->Heap.SameBut a s.heap h'->HOk X.prog X.w H h':=fun {a h'} ha hs b ob e=>by
    obtain ⟨_,_,hfree⟩:=ha
    refine (I.hok b ob e).stay (fun c w' hc q=>(hs.2 c ?_).trans q) (fun _ q=>q) fun _ _ q=>q
    rintro rfl
    rcases hc with rfl | hc
    · rw [hfree] at e; cases e
    · rw [hfree] at hc; cases hc
  rcases hx with hk | hk
  · refine wpAny_storeName_local hk hn (fun h' hn' hs=>?_) hcls
    obtain ⟨oL,_,_,hoL,_⟩:=id hn
    refine h _ ⟨I.ok,I.os,I.bare,⟨fun b o e n hb hx=>?_,fun b o e n hb hx=>?_,I.base.free,fun b o e hx=>?_,I.base.tups,I.base.frzs,I.base.tbls⟩,⟨_,hn',fun j y v' e1 e2 e3=>?_⟩,fun y c e=>?_,I.free,I.freeC,fun p hp=>?_,tracked ⟨oL,hoL,I.free⟩ hs,by simpa using I.len⟩ ⟨_,hs,.inl rfl⟩
    · exact (hs.2 b (O9 (D0 (O6 e) I.ok.above))).trans (I.base.keep b o e n hb hx)
    · obtain ⟨sl,e1⟩:=I.base.slot b o e n hb hx
      exact ⟨sl,(hs.2 b (O9 (D0 (O6 e) I.ok.above))).trans e1⟩
    · obtain ⟨o',e1⟩:=I.base.there b o e hx
      exact ⟨o',(hs.2 b (O9 (D0 (O6 e) I.ok.above))).trans e1⟩
    · by_cases hj:j=i
      · subst hj
        rw [hi] at e1; cases e1
        rw [F6 hiσ] at e2
        cases e2
        exact ⟨u,r,.inl ⟨hk,by simp⟩⟩
      · rw [F8 (Ne.symm hj)] at e2
        obtain ⟨u',r',q⟩:=hl j y v' e1 e2 e3
        refine ⟨u',r',?_⟩
        rcases q with ⟨k,e⟩ | ⟨k,c,e,z⟩
        · refine .inl ⟨k,?_⟩
          have:y≠x:=fun e=>hj (nodup_ix hN e1 (e ▸ hi))
          simp [this,e]
        · exact .inr ⟨k,c,e,z.sameBut hs (cne y c e)⟩
    · obtain ⟨w',z⟩:=I.cell y c e
      exact ⟨w',z.sameBut hs (cne y c e)⟩
    · obtain ⟨e,n,ne,nf,d⟩:=I.pin p hp
      exact ⟨(hs.2 p.1 ne).trans e,n,ne,nf,d⟩
  · have hfn:X.fn x=true:=by
      rcases hf with z | z
      · exact z
      · rw [z] at hk; cases hk
    obtain ⟨c,hc⟩:=I.ok.has x (.inl hk)
    obtain ⟨w',z⟩:=I.cell x c hc
    refine wpAny_storeName_cell I.ok.kind hk hc z (fun h' hc' hs=>?_)
    obtain ⟨oc,hoc,hocd⟩:=id z
    refine h { s with heap:=h' } ⟨I.ok,I.os,I.bare,⟨fun b o e n hb hx=>?_,fun b o e n hb hx=>?_,I.base.free,fun b o e hx=>?_,I.base.tups,I.base.frzs,I.base.tbls⟩,⟨m,hn.sameBut hs (Ne.symm (cne x c hc)),fun j y v' e1 e2 e3=>?_⟩,fun y c' e=>?_,I.free,I.freeC,fun p hp=>?_,tracked ⟨oc,hoc,I.freeC x c hc⟩ hs,by simpa using I.len⟩ ⟨c,hs,.inr hc⟩
    · exact (hs.2 b (O9 (D0 (O6 e) (I.ok.cab x c hfn hc)))).trans (I.base.keep b o e n hb hx)
    · obtain ⟨sl,e1⟩:=I.base.slot b o e n hb hx
      exact ⟨sl,(hs.2 b (O9 (D0 (O6 e) (I.ok.cab x c hfn hc)))).trans e1⟩
    · obtain ⟨o',e1⟩:=I.base.there b o e hx
      exact ⟨o',(hs.2 b (O9 (D0 (O6 e) (I.ok.cab x c hfn hc)))).trans e1⟩
    · by_cases hj:j=i
      · subst hj
        rw [hi] at e1; cases e1
        rw [F6 hiσ] at e2
        cases e2
        exact ⟨u,r,.inr ⟨.inl hk,c,hc,hc'⟩⟩
      · rw [F8 (Ne.symm hj)] at e2
        obtain ⟨u',r',q⟩:=hl j y v' e1 e2 e3
        refine ⟨u',r',?_⟩
        rcases q with q | ⟨k,c',e,z'⟩
        · exact .inl q
        · refine .inr ⟨k,c',e,z'.sameBut hs ?_⟩
          rintro rfl
          exact hj (nodup_ix hN e1 (I.ok.inj _ _ _ e hc ▸ hi))
    · by_cases hcc:c'=c
      · subst hcc; exact ⟨_,hc'⟩
      · obtain ⟨w2,z2⟩:=I.cell y c' e
        exact ⟨w2,z2.sameBut hs hcc⟩
    · obtain ⟨e,n,ne,nf,d⟩:=I.pin p hp
      refine ⟨(hs.2 p.1 ?_).trans e,n,ne,nf,d⟩
      intro q
      rw [q,hoc] at e
      have q':oc=p.2:=Option.some.inj e
      exact d w' (by rw [<- q']; exact hocd)
theorem store_ok {M:Model} {A:Around} {E:Value->Shared->Prop} {i:Nat} {x:Str} {v:V} {u:Value} {Q:Unit->Shared->Prop} (I:Inv X pins σ H s) (hN:X.N.Nodup) (hi:X.N[i]?=some x) (hx:Loc X.env.scope x) (r:RelV v u)
    (h:∀ s',Inv X pins (σ.set i (some v)) H s'->Q () s') (hf:X.fn x=true\/X.env.scope.names.lookup x=some .local:=by first | exact .inl rfl | exact .inr rfl | assumption):wpAny M A (storeName X.env x u) Q E s:=
  store_ok2 I hN hi hx r (fun s' I' _=>h s' I') hf
theorem Inv.call' {s':Shared} {ch:List Addr} (I:Inv X pins σ H s) (ho:s'.os=s.os) (u:Un (frs X.stack) ch H H' s.heap s'.heap) (hok:HOk X.prog X.w H' s'.heap) (hg:AllBare s'.gens)
    (hch:∀ b∈ch,(b∈X.ex\/X.s₀.heap.objs.size<=b)/\b≠X.env.locals/\(∀ x c,X.env.cells.lookup x=some c->c≠b)/\∀ p∈X.pn ++ pins,p.1≠b):Inv X pins σ H' s':=by
  obtain ⟨h',g',d',t',o'⟩:=s'
  have e:o'=s.os:=ho
  subst e
  exact I.call (g':=g') (t':=t') (d':=d') u hok hg hch
end
abbrev XK:=Value->Option Addr->Hp->Prop
abbrev St:=List (Option V)
abbrev VK:=V->Hp->Prop
abbrev TE:=St->Hp->VK->Prop
abbrev TT:=St->Hp->(Bool->Hp->Prop)->Prop
abbrev TA:=St->Hp->(List V->Hp->Prop)->Prop
structure Ends where
  nx:St->Hp->Prop
  rt:VK
  bk:St->Hp->Prop:=fun _ _=>False
  ct:St->Hp->Prop:=fun _ _=>False
abbrev TS:=Ends->St->Hp->Prop
def EP (X:Cx) (pins:List (Addr × Obj)) (σ:St) (Q:VK) (u:Value) (s':Shared):Prop:=∃ v H',Inv X pins σ H' s'/\RelV v u/\Q v H'
def TP (X:Cx) (pins:List (Addr × Obj)) (σ:St) (Q:Bool->Hp->Prop) (b:Bool) (s':Shared):Prop:=∃ H',Inv X pins σ H' s'/\Q b H'
def AP (X:Cx) (pins:List (Addr × Obj)) (σ:St) (Q:List V->Hp->Prop) (us:List Value) (s':Shared):Prop:=∃ vs H',Inv X pins σ H' s'/\Vals vs us/\Q vs H'
def SP (X:Cx) (pins:List (Addr × Obj)) (D:Ends) (f:Flow) (s':Shared):Prop:=
  match f with
  | .next=>∃ σ' H',Inv X pins σ' H' s'/\D.nx σ' H'
  | .brk=>∃ σ' H',Inv X pins σ' H' s'/\D.bk σ' H'
  | .cont=>∃ σ' H',Inv X pins σ' H' s'/\D.ct σ' H'
  | .ret u=>∃ v σ' H',Inv X pins σ' H' s'/\RelV v u/\D.rt v H'
def PE (X:Cx) (e:Expr) (t:TE):Prop:=
  ∀ (pins:List (Addr × Obj)) (s:Shared) (σ:St) (H:Hp) (Q:VK),Inv X pins σ H s->t σ H Q->wpAny (model X.prog X.w) X.A (eval e X.env) (EP X pins σ Q) X.xe s
def PT (X:Cx) (e:Expr) (t:TT):Prop:=
  ∀ (pins:List (Addr × Obj)) (s:Shared) (σ:St) (H:Hp) (Q:Bool->Hp->Prop),Inv X pins σ H s->t σ H Q->wpAny (model X.prog X.w) X.A (isTrue e X.env (eval e X.env)) (TP X pins σ Q) X.xe s
def PW (X:Cx) (e:Expr) (t:TT):Prop:=
  ∀ (whole:Sem Value) (pins:List (Addr × Obj)) (s:Shared) (σ:St) (H:Hp) (Q:Bool->Hp->Prop),Inv X pins σ H s->t σ H Q->wpAny (model X.prog X.w) X.A (isTrue e X.env whole) (TP X pins σ Q) X.xe s
def PA (X:Cx) (es:List Expr) (t:TA):Prop:=
  ∀ (pos:Pos) (pins:List (Addr × Obj)) (s:Shared) (σ:St) (H:Hp) (Q:List V->Hp->Prop),Inv X pins σ H s->t σ H Q->wpAny (model X.prog X.w) X.A (spliced (backTo pos (starEach es X.env))) (AP X pins σ Q) X.xe s
def PS (X:Cx) (st:Stmt) (t:TS):Prop:=
  ∀ (pins:List (Addr × Obj)) (s:Shared) (σ:St) (H:Hp) (D:Ends),Inv X pins σ H s->t D σ H->wpAny (model X.prog X.w) X.A (exec st X.env) (SP X pins D) X.xe s
def PSs (X:Cx) (st:List Stmt) (t:TS):Prop:=
  ∀ (pins:List (Addr × Obj)) (s:Shared) (σ:St) (H:Hp) (D:Ends),Inv X pins σ H s->t D σ H->wpAny (model X.prog X.w) X.A (execs st X.env) (SP X pins D) X.xe s
theorem thn {α:Type} {t:Sem α} {Q Q':α->Shared->Prop} {M:Model} {A:Around} {E:Value->Shared->Prop} {s:Shared} (h:wpAny M A t Q E s) (hQ:∀ a s,Q a s->Q' a s):wpAny M A t Q' E s:=wpAny_mono h hQ fun _ _ x=>x
end L2
namespace L2
open PySem PySem.Spec PyProof.Rows
section
variable {X:Cx}
def tVar (i:Nat):TE:=fun σ H Q=>∃ v,σ[i]?=some (some v)/\Q v H
def tC (v:V):TE:=fun _ H Q=>Q v H
theorem pe_var {i:Nat} {x:Str} {pos:Pos} (hN:X.N[i]?=some x) (hv:Vis X.env.scope x) (hd:(x == ("__debug__" : Str))=false:=by decide) (hcd:(x == ("__classdict__" : Str))=false:=by decide):PE X (.Name x pos) (tVar i):=by
  intro pins s σ H Q I h
  obtain ⟨v,e,h⟩:=h
  obtain ⟨m,hn,hl⟩:=I.loc
  obtain ⟨u,r,l⟩:=hl i x v hN e hv
  have fin:EP X pins σ Q u s:=⟨v,H,I,r,h⟩
  rcases l with ⟨hk,hm⟩ | ⟨hk,c,hc,hcell⟩
  · exact wpAny_Name (wpAny_loadName_local I.ok.kind hk hn hm fin) hd
  · rcases hk with hk | hk
    · exact wpAny_Name (wpAny_loadName_cell I.ok.kind hk hc hcell fin) hd
    · exact wpAny_Name (wpAny_loadName_free I.ok.kind hk hc hcell fin hcd) hd
theorem pe_int {i j pos}:PE X (.Constant (.int i) j pos) (tC (.int i)):=fun _ _ _ H _ I h=>wpAny_Constant_int ⟨.int i,H,I.tok _,⟨_,rfl⟩,h⟩
theorem pe_bl {b j pos}:PE X (.Constant (.bool b) j pos) (tC (.bl b)):=fun _ _ _ H _ I h=>Constant_bool ⟨.bl b,H,I,rfl,h⟩
theorem pe_non {j pos}:PE X (.Constant .none j pos) (tC .non):=fun _ _ _ H _ I h=>Constant_none ⟨.non,H,I,rfl,h⟩
theorem pe_str {x j pos}:PE X (.Constant (.str x) j pos) (tC (.str x)):=fun _ _ _ H _ I h=>Calls.Constant_str ⟨.str x,H,I.tok _,⟨_,rfl⟩,h⟩
def Gl (X:Cx) (x:Str):Prop:=X.env.kindOf x=some .globalImplicit
theorem ld_glob {E:Value->Shared->Prop} {pins:List (Addr × Obj)} {s:Shared} {σ:St} {H:Hp} {x:Str} {u:Value} {pos:Pos} {Q:Value->Shared->Prop} (I:Inv X pins σ H s) (hg:Gl X x) (hm:X.mg x=some u) (h:Q u s)
    (hd:(x == ("__debug__" : Str))=false:=by decide):wpAny (model X.prog X.w) X.A (eval (.Name x pos) X.env) Q E s:=
  Calls.Name_function_global I.ok.kind hg (Calls.loadGlobal_global (by rw [I.ok.glob]; exact I.mod.glob.keeps I.bk) hm h) hd
theorem ld_blt {E:Value->Shared->Prop} {pins:List (Addr × Obj)} {s:Shared} {σ:St} {H:Hp} {x:Str} {u:Value} {pos:Pos} {Q:Value->Shared->Prop} (I:Inv X pins σ H s) (hg:Gl X x) (hm:X.mg x=none) (hv:bootBuiltins x=some u) (h:Q u s)
    (hn:x≠"__name__" := by decide) (hd:(x == ("__debug__" : Str))=false:=by decide):wpAny (model X.prog X.w) X.A (eval (.Name x pos) X.env) Q E s:=by
  obtain ⟨mb,h1,h2⟩:=I.mod.blt
  exact Calls.Name_function_global I.ok.kind hg (Calls.loadGlobal_builtin (by rw [I.ok.glob]; exact I.mod.glob.keeps I.bk) hm (by rw [I.ok.blt]; exact h1.keeps I.bk) ((h2 x hn).trans hv) h) hd
theorem pe_glob {x:Str} {v:V} {u:Value} {pos:Pos} (hg:Gl X x) (hm:X.mg x=some u) (r:RelV v u) (hd:(x == ("__debug__" : Str))=false:=by decide):PE X (.Name x pos) (tC v):=
  fun _ _ _ H _ I h=>ld_glob I hg hm ⟨v,H,I,r,h⟩ hd
theorem pe_bltn {x:Str} {v:V} {u:Value} {pos:Pos} (hg:Gl X x) (hm:X.mg x=none) (hv:bootBuiltins x=some u) (r:RelV v u) (hn:x≠"__name__" := by decide) (hd:(x == ("__debug__" : Str))=false:=by decide):PE X (.Name x pos) (tC v):=
  fun _ _ _ H _ I h=>ld_blt I hg hm hv ⟨v,H,I,r,h⟩ hn hd
variable {a b:Expr} {ta tb:TE} {pos:Pos}
def tB (t:TE):TT:=fun σ H Q=>t σ H fun x H1=>∃ c,x=.bl c/\Q c H1
theorem pt_val {e:Expr} {t:TE} (h:PE X e t) (he:∀ whole,isTrue e X.env whole=(do let v <- whole; standAt e.pos; holding [v] (truthy v)):=by intro _; rfl):PT X e (tB t):=by
  intro pins s σ H Q I hw
  refine isTrue_plain (thn (h pins s σ H _ I hw) fun v s1 ⟨x,H1,I1,r1,q1⟩=>?_) (he _)
  obtain ⟨d,rfl,q⟩:=q1
  cases r1
  exact wpAny_truthy_bool ⟨H1,I1,q⟩
variable {tA tB':TT} {rest:List Expr}
def tAnd (t u:TT):TT:=fun σ H Q=>t σ H fun c H1=>if c=true then u σ H1 Q else Q false H1
def tOr (t u:TT):TT:=fun σ H Q=>t σ H fun c H1=>if c=true then Q true H1 else u σ H1 Q
def tNot (t:TT):TT:=fun σ H Q=>t σ H fun c H1=>Q (!c) H1
theorem pw_and1 (ha:PT X a tA):PW X (.BoolOp .And [a] pos) tA:=by
  intro wh pins s σ H Q I h
  refine isTrue_and (thn (ha pins s σ H Q I h) fun c s1 e=>?_)
  cases c with
  | true=>exact isTrue_and_nil e
  | false=>exact e
theorem pw_or1 (ha:PT X a tA):PW X (.BoolOp .Or [a] pos) tA:=by
  intro wh pins s σ H Q I h
  refine isTrue_or (thn (ha pins s σ H Q I h) fun c s1 e=>?_)
  cases c with
  | false=>exact isTrue_or_nil e
  | true=>exact e
theorem pw_and (ha:PT X a tA) (hb:PW X (.BoolOp .And (b :: rest) pos) tB'):PW X (.BoolOp .And (a :: b :: rest) pos) (tAnd tA tB'):=by
  intro wh pins s σ H Q I h
  refine isTrue_and (thn (ha pins s σ H _ I h) fun c s1 ⟨H1,I1,q1⟩=>?_)
  cases c with
  | true=>exact hb wh pins s1 σ H1 Q I1 q1
  | false=>exact ⟨H1,I1,q1⟩
theorem pw_or (ha:PT X a tA) (hb:PW X (.BoolOp .Or (b :: rest) pos) tB'):PW X (.BoolOp .Or (a :: b :: rest) pos) (tOr tA tB'):=by
  intro wh pins s σ H Q I h
  refine isTrue_or (thn (ha pins s σ H _ I h) fun c s1 ⟨H1,I1,q1⟩=>?_)
  cases c with
  | true=>exact ⟨H1,I1,q1⟩
  | false=>exact hb wh pins s1 σ H1 Q I1 q1
theorem pt_not (ha:PT X a tA):PT X (.UnaryOp .Not a pos) (tNot tA):=by
  intro pins s σ H Q I h
  exact isTrue_not (ha pins s σ H (fun c H1=>Q (!c) H1) I h)
def tAndV (ta tb:TE):TE:=fun σ H Q=>ta σ H fun x H1=>∃ c,x=.bl c/\if c=true then tb σ H1 Q else Q (.bl false) H1
def tNotV (ta:TE):TE:=fun σ H Q=>ta σ H fun x H1=>∃ c,x=.bl c/\Q (.bl (!c)) H1
theorem pe_one {op} {t:TE} (h:PE X a t):PE X (.BoolOp op [a] pos) t:=fun pins s σ H Q I hw=>BoolOp_one (h pins s σ H Q I hw)
theorem pe_and (ha:PE X a ta) (hb:PE X (.BoolOp .And (b :: rest) pos) tb):PE X (.BoolOp .And (a :: b :: rest) pos) (tAndV ta tb):=by
  intro pins s σ H Q I h
  refine BoolOp_and (thn (ha pins s σ H _ I h) fun v s1 ⟨x,H1,I1,r1,q1⟩=>?_)
  obtain ⟨c,rfl,q1⟩:=q1
  cases r1
  refine wpAny_truthy_bool ?_
  cases c with
  | true=>exact hb pins s1 σ H1 Q I1 q1
  | false=>exact ⟨.bl false,H1,I1,rfl,q1⟩
theorem pe_not (ha:PE X a ta):PE X (.UnaryOp .Not a pos) (tNotV ta):=by
  intro pins s σ H Q I h
  refine UnaryOp_ (thn (ha pins s σ H _ I h) fun v s1 ⟨x,H1,I1,r1,q1⟩=>?_)
  obtain ⟨c,rfl,q1⟩:=q1
  cases r1
  exact not_of (wpAny_truthy_bool ⟨.bl (!c),H1,I1,rfl,q1⟩)
end
end L2
namespace L2
open PySem PySem.Spec PyProof.Rows
def SqL (K:PySem.W.Frag) (H:Hp) (a:Addr) (xs:List V):Prop:=
  Rd H a (.lst xs) \/
    ∃ (o:Obj) (its:Array Value) (n:Nat),K.lookup a=some o/\o.cls=.type "list" /\ o.dict=none/\o.data=.seq its n/\its.size<=sizeLine/\Vals xs its.toList
def SqT (K:PySem.W.Frag) (H:Hp) (a:Addr) (xs:List V):Prop:=
  Rd H a (.tup xs) \/
    ∃ (o:Obj) (its:Array Value) (n:Nat),K.lookup a=some o/\o.cls=.type "tuple" /\ o.data=.seq its n/\its.size<=sizeLine/\Vals xs its.toList
def absV:Value->Option V
  | .none=>some .non
  | .bool b=>some (.bl b)
  | .int i _=>some (.int i)
  | .str x _=>some (.str x)
  | .bytes b _=>some (.byt b)
  | .float b _=>some (.flt b)
  | .ref a=>some (.ref a)
  | .type n=>some (.ty n)
  | _=>none
theorem RelV.abs {x:V} {u:Value} (r:RelV x u):absV u=some x:=by
  cases x with
  | non=>cases r; rfl
  | bl _=>cases r; rfl
  | int _=>obtain ⟨t,rfl⟩:=r; rfl
  | str _=>obtain ⟨t,rfl⟩:=r; rfl
  | byt _=>obtain ⟨t,rfl⟩:=r; rfl
  | flt _=>obtain ⟨t,rfl⟩:=r; rfl
  | ref _=>cases r; rfl
  | ty _=>cases r; rfl
theorem RelV.inj {x y:V} {u:Value} (r:RelV x u) (q:RelV y u):x=y:=Option.some.inj (r.abs.symm.trans q.abs)
theorem Vals.inj:∀ {xs ys:List V} {us:List Value},Vals xs us->Vals ys us->xs=ys
  | _,_,_,.nil,.nil=>rfl
  | _,_,_,.cons r t,.cons r' t'=>by rw [r.inj r',Vals.inj t t']
section
variable {X:Cx} {pins:List (Addr × Obj)} {σ:St} {H:Hp} {s:Shared} {a:Addr} {xs ys:List V}
theorem SqL.of {K:PySem.W.Frag} (h:H a=some (.lst xs)):SqL K H a xs:=.inl (.inl h)
theorem SqT.of {K:PySem.W.Frag} (h:H a=some (.tup xs)):SqT K H a xs:=.inl (.inl h)
theorem Inv.list (I:Inv X pins σ H s) (h:SqL X.K H a xs):∃ its:List Value,Vals xs its/\PlainL s.heap a its.toArray/\xs.length<=sizeLine:=by
  rcases h with h | ⟨o,its,n,hk,hc,hd,hs,hz,r⟩
  · obtain ⟨z,its,n,r,e⟩:=h.ok I.hok
    exact ⟨its,r,⟨_,n,e,rfl,rfl,rfl⟩,z⟩
  · refine ⟨its.toList,r,⟨o,n,I.kIn a o hk,hc,hd,by simpa using hs⟩,?_⟩
    have e:=r.length
    simp only [Array.length_toList] at e
    omega
theorem Inv.tuple (I:Inv X pins σ H s) (h:SqT X.K H a xs):∃ its:List Value,Vals xs its/\IsTup s.heap a its.toArray/\xs.length<=sizeLine:=by
  rcases h with h | ⟨o,its,n,hk,hc,hs,hz,r⟩
  · obtain ⟨z,its,r,p⟩:=h.ok I.hok
    exact ⟨its,r,p,z⟩
  · refine ⟨its.toList,r,⟨o,I.kIn a o hk,hc,n,by simpa using hs⟩,?_⟩
    have e:=r.length
    simp only [Array.length_toList] at e
    omega
theorem Inv.list_inj (I:Inv X pins σ H s) (h:SqL X.K H a xs) (h':SqL X.K H a ys):xs=ys:=by
  obtain ⟨its,r,⟨o,n,e,_,_,d⟩,_⟩:=I.list h
  obtain ⟨its',r',⟨o',n',e',_,_,d'⟩,_⟩:=I.list h'
  rw [e] at e'; cases e'
  rw [d] at d'
  injection d' with d1 _
  have:its=its':=by simpa using congrArg Array.toList d1
  subst this
  exact r.inj r'
theorem Inv.tuple_inj (I:Inv X pins σ H s) (h:SqT X.K H a xs) (h':SqT X.K H a ys):xs=ys:=by
  obtain ⟨its,r,⟨o,e,_,n,d⟩,_⟩:=I.tuple h
  obtain ⟨its',r',⟨o',e',_,n',d'⟩,_⟩:=I.tuple h'
  rw [e] at e'; cases e'
  rw [d] at d'
  injection d' with d1 _
  have:its=its':=by simpa using congrArg Array.toList d1
  subst this
  exact r.inj r'
end
section
variable {X:Cx} {pins:List (Addr × Obj)} {σ:St} {H:Hp} {s:Shared} {E:Value->Shared->Prop}
end
section
variable {X:Cx} {st:Stmt} {rest:List Stmt} {t u:TS} {e:Expr} {te:TE} {pos:Pos}
def tNext:TS:=fun D σ H=>D.nx σ H
def tSeq (t u:TS):TS:=fun D σ H=>t { D with nx:=u D } σ H
theorem pss_nil:PSs X [] tNext:=fun _ _ σ H _ I h=>wpAny_execs_nil ⟨σ,H,I,h⟩
theorem pss_cons (h1:PS X st t) (h2:PSs X rest u):PSs X (st :: rest) (tSeq t u):=by
  intro pins s σ H D I h
  refine wpAny_execs_cons (thn (h1 pins s σ H { D with nx:=u D } I h) fun f s1 q=>?_)
  cases f with
  | next=>
    obtain ⟨σ',H',I',q⟩:=q
    exact h2 pins s1 σ' H' D I' q
  | ret v=>exact q
  | brk=>exact q
  | cont=>exact q
theorem pss_one (h1:PS X st t):PSs X [st] t:=by
  intro pins s σ H D I h
  refine wpAny_execs_cons (thn (h1 pins s σ H D I h) fun f s1 q=>?_)
  cases f with
  | next=>exact wpAny_execs_nil q
  | ret v=>exact q
  | brk=>exact q
  | cont=>exact q
def tBreak:TS:=fun D σ H=>D.bk σ H
theorem ps_break:PS X (.Break pos) tBreak:=fun _ _ σ H _ I h=>wpAny_Break ⟨σ,H,I,h⟩
theorem Inv.quiet {pins:List (Addr × Obj)} {σ:St} {H:Hp} {s:Shared} (I:Inv X pins σ H s):interactive X.env=false:=by simp [interactive,I.ok.kind]
def tDrop (te:TE):TS:=fun D σ H=>te σ H fun _ H1=>D.nx σ H1
theorem ps_expr (he:PE X e te) (hs:swapsWith e none pos.line X.env=pure false:=by rfl):PS X (.Expr e pos) (tDrop te):=by
  intro pins s σ H D I h
  exact wpAny_Expr_any (thn (he pins s σ H _ I h) fun v s1 ⟨x,H1,I1,r1,q1⟩=>⟨σ,H1,I1,q1⟩) I.quiet hs
def tRet (te:TE):TS:=fun D σ H=>te σ H D.rt
theorem ps_ret (he:PE X e te):PS X (.Return (some e) pos) (tRet te):=by
  intro pins s σ H D I h
  exact wpAny_Return_some (thn (he pins s σ H _ I h) fun v s1 ⟨x,H1,I1,r1,q1⟩=>⟨x,σ,H1,I1,r1,q1⟩)
def tIfS (c:TT) (t u:TS):TS:=fun D σ H=>c σ H fun b H1=>if b=true then t D σ H1 else u D σ H1
theorem ps_if {c:Expr} {a b:List Stmt} {tc:TT} (hc:PT X c tc) (ha:PSs X a t) (hb:PSs X b u):PS X (.If c a b pos) (tIfS tc t u):=by
  intro pins s σ H D I h
  refine wpAny_If (thn (hc pins s σ H _ I h) fun d s1 ⟨H1,I1,q1⟩=>?_)
  cases d with
  | true=>exact ha pins s1 σ H1 D I1 q1
  | false=>exact hb pins s1 σ H1 D I1 q1
end
abbrev TG:=V->St->Hp->(St->Hp->Prop)->Prop
abbrev TGs:=List V->St->Hp->(St->Hp->Prop)->Prop
def PG (X:Cx) (target:Expr) (t:TG):Prop:=
  ∀ (pins:List (Addr × Obj)) (s:Shared) (σ:St) (H:Hp) (v:V) (u:Value) (Q:St->Hp->Prop),Inv X pins σ H s->RelV v u->t v σ H Q ->
    wpAny (model X.prog X.w) X.A (assign target X.env u) (fun _ s'=>∃ σ' H',Inv X pins σ' H' s'/\Q σ' H') X.xe s
def PGs (X:Cx) (ts:List Expr) (t:TGs):Prop:=
  ∀ (pins:List (Addr × Obj)) (s:Shared) (σ:St) (H:Hp) (vs:List V) (us:List Value) (Q:St->Hp->Prop),Inv X pins σ H s->Vals vs us->t vs σ H Q ->
    wpAny (model X.prog X.w) X.A (assignInOrder ((assignEach ts X.env).map (·.2)) us) (fun _ s'=>∃ σ' H',Inv X pins σ' H' s'/\Q σ' H') X.xe s
abbrev TSet:=V->V->V->Hp->(Hp->Prop)->Prop
def PSet (X:Cx) (t:TSet):Prop:=
  ∀ (pins:List (Addr × Obj)) (s:Shared) (σ:St) (H:Hp) (o i v:V) (ov iv u:Value) (Q:Hp->Prop),Inv X pins σ H s->RelV o ov->RelV i iv->RelV v u->t o i v H Q ->
    wpAny (model X.prog X.w) X.A (setItem ov iv u) (fun _ s'=>∃ H',Inv X pins σ H' s'/\Q H') X.xe s
section
variable {X:Cx} {pos:Pos}
def gName (i:Nat):TG:=fun v σ H Q=>Q (σ.set i (some v)) H
theorem pg_name {i:Nat} {x:Str} (hN:X.N.Nodup) (hi:X.N[i]?=some x) (hx:Loc X.env.scope x) (hf:X.fn x=true\/X.env.scope.names.lookup x=some .local:=by first | exact .inl rfl | exact .inr rfl | assumption):PG X (.Name x pos) (gName i):=by
  intro pins s σ H v u Q I r h
  exact wpAny_assign_Name (store_ok I hN hi hx r (fun s' I'=>⟨_,H,I',h⟩) hf)
def gNil:TGs:=fun vs σ H Q=>vs=[]/\Q σ H
def gCons (t:TG) (u:TGs):TGs:=fun vs σ H Q=>∃ v r,vs=v :: r/\t v σ H fun σ' H'=>u r σ' H' Q
theorem pgs_nil:PGs X [] gNil:=by
  intro pins s σ H vs us Q I r h
  obtain ⟨e,h⟩:=h
  subst e
  cases r
  exact assignInOrder_nil ⟨σ,H,I,h⟩
theorem pgs_cons {e:Expr} {es:List Expr} {t:TG} {u:TGs} (h1:PG X e t) (h2:PGs X es u)
    (hs:(assignEach (e :: es) X.env).map (·.2)=assign e X.env :: (assignEach es X.env).map (·.2):=by rfl):PGs X (e :: es) (gCons t u):=by
  intro pins s σ H vs us Q I r h
  obtain ⟨v,vr,e1,h⟩:=h
  subst e1
  cases r with
  | cons r rr=>
    rw [hs]
    refine assignInOrder_cons (thn (h1 pins s σ H _ _ _ I r h) fun _ s1 ⟨σ1,H1,I1,q1⟩=>?_)
    exact h2 pins s1 σ1 H1 _ _ Q I1 rr q1
def gTup (K:PySem.W.Frag) (n:Nat) (t:TGs):TG:=fun v σ H Q=>∃ a xs,v=.ref a/\SqT K H a xs/\xs.length=n/\t xs σ H Q
theorem pg_tup {es:List Expr} {k:Nat} {t:TGs} {n:Nat} (hc:X.calm=true) (h:PGs X es t)
    (hn:(assignEach es X.env).length=n:=by rfl) (hst:(assignEach es X.env).findIdx? (·.1)=none:=by rfl):PG X (.Tuple es k pos) (gTup X.K n t):=by
  intro pins s σ H v u Q I r hw
  obtain ⟨a,xs,e1,hq,hl,hw⟩:=hw
  subst e1
  cases r
  obtain ⟨its,rv,ht,hz⟩:=I.tuple hq
  refine assign_Tuple_tuple (I.ok.hd hc) ht (by simp [hn,<- hl,rv.length]) hst fun h' hx=>?_
  have I1:Inv X pins σ H { s with heap:=h' }:=I.kept (t':=s.toks) fun b o e=>hx b o (O9 (O6 e)) e
  exact h pins _ σ H xs _ Q I1 (by simpa using rv) hw
def gSub (to ti:TE) (t:TSet):TG:=fun v σ H Q=>to σ H fun o H1=>ti σ H1 fun i H2=>t o i v H2 fun H3=>Q σ H3
theorem pg_sub {o i:Expr} {to ti:TE} {t:TSet} (ho:PE X o to) (hi:PE X i ti) (hs:PSet X t)
    (ha:∀ v,assign (.Subscript o i pos) X.env v=(do
      let ov <- holding [v] (eval o X.env)
      let iv <- holding [v,ov] (eval i X.env)
      standAt pos
      holding [v,ov,iv] (setItem ov iv v)
      release [v,ov,iv] []):=by intro _; rfl):PG X (.Subscript o i pos) (gSub to ti t):=by
  intro pins s σ H v u Q I r h
  rw [ha]
  refine wpAny_bind (wpAny_holding (thn (ho pins s σ H _ I h) fun ov s1 ⟨x,H1,I1,r1,q1⟩=>?_))
  refine wpAny_bind (wpAny_holding (thn (hi pins s1 σ H1 _ I1 q1) fun iv s2 ⟨y,H2,I2,r2,q2⟩=>?_))
  refine wpAny_bind (wpAny_standAt (wpAny_bind (wpAny_holding (thn (hs pins s2 σ H2 x y v ov iv u _ I2 r1 r2 r q2) fun _ s3 ⟨H3,I3,q3⟩=>?_))))
  exact wpAny_release ⟨σ,H3,I3,q3⟩
def tAsg (te:TE) (g:TG):TS:=fun D σ H=>te σ H fun x H1=>g x σ H1 D.nx
theorem ps_asg {tg e:Expr} {te:TE} {g:TG} (he:PE X e te) (hg:PG X tg g) (hs:swapsWithSole [tg] e pos.line X.env=pure false:=by rfl) (hw:swappedStores [tg] e X.env=pure none:=by rfl)
    (h1:(assignEach [tg] X.env).map (·.2)=[assign tg X.env]:=by rfl):PS X (.Assign [tg] e pos) (tAsg te g):=by
  intro pins s σ H D I h
  refine wpAny_Assign_stores (thn (he pins s σ H _ I h) fun v s1 ⟨x,H1,I1,r1,q1⟩=>?_) hs hw
  rw [h1]
  exact thn (hg pins s1 σ H1 x v _ I1 r1 q1) fun _ s2 q=>q
theorem ps_set {i:Nat} {x:Str} {e:Expr} {te:TE} {pos':Pos} (hN:X.N.Nodup) (hi:X.N[i]?=some x) (hx:Loc X.env.scope x) (he:PE X e te) (hs:swapsWith e (some (.Name x pos')) pos.line X.env=pure false:=by rfl) (hf:X.fn x=true\/X.env.scope.names.lookup x=some .local:=by first | exact .inl rfl | exact .inr rfl | assumption) :
    PS X (.Assign [.Name x pos'] e pos) (tAsg te (gName i)):=by
  intro pins s σ H D I h
  refine wpAny_Assign_Name (thn (he pins s σ H _ I h) fun v s1 ⟨y,H1,I1,r1,q1⟩=>?_) hs
  exact store_ok I1 hN hi hx r1 (fun s2 I2=>⟨_,H1,I2,q1⟩) hf
end
section
variable {X:Cx} {pos:Pos}
end
structure It where
  go:Nat->Hp->Prop
  yld:Nat->Hp->V->Hp->Prop
  stop:Nat->Hp->Prop
def FpOk (X:Cx) (pins:List (Addr × Obj)) (H:Hp) (b:Addr):Prop:=
  H b=none/\b≠X.env.locals/\b∉X.fs/\(b∈X.ex\/X.s₀.heap.objs.size<=b)/\(∀ x c,X.env.cells.lookup x=some c->c≠b)/\∀ p∈X.pn ++ pins,p.1≠b
theorem Inv.fpOk {X:Cx} {pins:List (Addr × Obj)} {σ:St} {H H':Hp} {s:Shared} {b:Addr} (I:Inv X pins σ H s) (hb:s.heap.objs.size<=b) (hn:H' b=none):FpOk X pins H' b:=by
  refine ⟨hn,Nat.ne_of_gt (D0 I.lt hb),I.nofs hb,.inr (D3 I.sz hb),fun x c e z=>?_,fun p hp z=>?_⟩
  · obtain ⟨v,q⟩:=I.cell x c e
    exact absurd (D0 q.lt (by rw [z]; exact hb)) (G9 _)
  · exact absurd (D0 (O6 (I.pin p hp).1) (by rw [z]; exact hb)) (G9 _)
structure Turn (P:Program) (w:World) (K:PySem.W.Frag) (tg:Expr) (J:It) (fp:List Addr) (it:Addr) (tn:Nat->Heap->Prop):Prop where
  mem:it∈fp
  obj:∀ i h,tn i h->∀ b∈fp,∃ o,h.get? b=some o/\∀ v,o.data≠.cell v
  keep:∀ i h h',tn i h->(∀ b∈fp,∀ o,h.get? b=some o->h'.get? b=some o)->tn i h'
  item:∀ (X:Cx),X.prog=P->X.w=w->X.K=K->X.calm=true->∀ (i:Nat) (pins:List (Addr × Obj)) (s:Shared) (σ:St) (H:Hp) (E:Value->Shared->Prop),Inv X pins σ H s->(∀ b∈fp,FpOk X pins H b)->tn i s.heap->J.go i H ->
    wpAny (model P w) X.A (pyNext (.ref it)) (fun r s1=>∃ u,r=some u /\
      wpAny (model P w) X.A (letOwnedTupleGo tg (.ref it) u) (fun _ s2=>∃ x H',Inv X pins σ H' s2/\RelV x u/\J.yld i H x H'/\tn (i + 1) s2.heap/\∀ b∈fp,H' b=none) E s1) E s
  done:∀ (X:Cx),X.prog=P->X.w=w->X.K=K->X.calm=true->∀ (i:Nat) (pins:List (Addr × Obj)) (s:Shared) (σ:St) (H:Hp) (E:Value->Shared->Prop),Inv X pins σ H s->(∀ b∈fp,FpOk X pins H b)->tn i s.heap->J.stop i H ->
    wpAny (model P w) X.A (pyNext (.ref it)) (fun r s1=>r=none/\Inv X pins σ H s1) E s
  self:∀ (A:Around) (i:Nat) (s:Shared) (Q:Value->Shared->Prop) (E:Value->Shared->Prop),tn i s.heap->Q (.ref it) s->wpAny (model P w) A (pyIter (.ref it)) Q E s
abbrev TI:=St->Hp->(It->Hp->Prop)->Prop
def PIE (X:Cx) (pins:List (Addr × Obj)) (σ:St) (tg:Expr) (R:It->Hp->Prop) (itv:Value) (s2:Shared):Prop:=
  ∃ (it:Addr) (fp:List Addr) (tn:Nat->Heap->Prop) (J:It) (H':Hp),itv=.ref it/\Inv X pins σ H' s2/\Turn X.prog X.w X.K tg J fp it tn/\tn 0 s2.heap/\(∀ b∈fp,FpOk X pins H' b)/\R J H'
def PI (X:Cx) (tg iter:Expr) (wi:TI):Prop:=
  ∀ (pins:List (Addr × Obj)) (s:Shared) (σ:St) (H:Hp) (R:It->Hp->Prop),Inv X pins σ H s->wi σ H R ->
    wpAny (model X.prog X.w) X.A (eval iter X.env) (fun v s1=>wpAny (model X.prog X.w) X.A (pyIter v) (PIE X pins σ tg R) X.xe s1) X.xe s
theorem go_of {M:Model} {A:Around} {E:Value->Shared->Prop} {s:Shared} {tg:Expr} {it:Addr} {u:Value} {o:Obj} {n:String} {vs:Array Value} {Q:Unit->Shared->Prop} (ho:s.heap.get? it=some o) (hc:o.cls=.type n) (hd:o.data=.fields vs)
    (hn:["enumerate", "zip", "dict_itemiterator", "dict_reverseitemiterator", "odict_iterator", "itertools.zip_longest", "itertools.pairwise"].contains n=false) (hQ:Q () s):wpAny M A (letOwnedTupleGo tg (.ref it) u) Q E s:=by
  unfold letOwnedTupleGo
  cases tg <;> first
    | exact wpAny_pure hQ
    | (cases u <;> first
        | exact wpAny_pure hQ
        | (refine wpAny_bind (wpAny_load ho ?_)
           rw [hc,hd]
           show wpAny M A (if (["enumerate", "zip", "dict_itemiterator", "dict_reverseitemiterator", "odict_iterator", "itertools.zip_longest", "itertools.pairwise"].contains n && vs[0]? == some (rawInt _))=true then _ else _) Q E s
           rw [if_neg (by intro h; rw [hn,Bool.false_and] at h; cases h)]
           exact wpAny_pure hQ))
def Itl (K:PySem.W.Frag) (a:Addr):It:=
  ⟨fun i H=>∃ xs x,SqL K H a xs/\xs[i]?=some x,fun i H x H'=>H'=H/\∀ xs,SqL K H a xs->xs[i]?=some x,fun i H=>∃ xs,SqL K H a xs/\xs.length<=i⟩
def Itt (K:PySem.W.Frag) (a:Addr):It:=
  ⟨fun i H=>∃ xs x,SqT K H a xs/\xs[i]?=some x,fun i H x H'=>H'=H/\∀ xs,SqT K H a xs->xs[i]?=some x,fun i H=>∃ xs,SqT K H a xs/\xs.length<=i⟩
def Itr (lo:Int) (n:Nat):It:=⟨fun i _=>i < n,fun i H x H'=>H'=H/\x=.int (lo + i),fun i _=>n<=i⟩
theorem turn_list {P:Program} {w:World} {K:PySem.W.Frag} {tg:Expr} (a it:Addr):Turn P w K tg (Itl K a) [it] it (fun i h=>h.IsListIter it a i) where
  mem:=by simp
  obj:=fun i h st b hb=>by
    have e:b=it:=by simpa using hb
    subst e
    obtain ⟨o,e,c,d⟩:=st
    exact ⟨o,e,fun v z=>by rw [d] at z; cases z⟩
  keep:=fun i h h' st k=>st.at fun o e=>k it (by simp) o e
  item:=by
    intro X hP hw hK hc i pins s σ H E I hf st hg
    subst hP hw hK
    obtain ⟨xs,x,hq,hx⟩:=hg
    obtain ⟨its,rv,p,hz⟩:=I.list hq
    obtain ⟨u,hu,ru⟩:=rv.get hx
    obtain ⟨f0,f1,f2,f3,f4,f5⟩:=hf it (by simp)
    refine wpAny_pyNext_list_item st p.isList (x:=u) (by simpa using hu) fun h' st' sb=>?_
    have I1:Inv X pins σ H { s with heap:=h' }:=I.turned (t':=s.toks) (fun b o hb e=>(sb.2 b hb).trans e) f0 f1 f3 f4 f5
    obtain ⟨o,e,c,d⟩:=id st'
    exact ⟨u,rfl,go_of (s:={ s with heap:=h' }) e c d (by decide) ⟨x,H,I1,ru,⟨rfl,fun ys hy=>by rw [I.list_inj hy hq]; exact hx⟩,st',fun b hb=>(hf b hb).1⟩⟩
  done:=by
    intro X hP hw hK hc i pins s σ H E I hf st hg
    subst hP hw hK
    obtain ⟨xs,hq,hx⟩:=hg
    obtain ⟨its,rv,p,hz⟩:=I.list hq
    obtain ⟨f0,f1,f2,f3,f4,f5⟩:=hf it (by simp)
    have hl:=rv.length
    exact wpAny_pyNext_list_end (I.ok.hd hc) st p.isList (by simp; omega) fun h' eb=>⟨rfl,I.turned (t':=s.toks) (fun b o hb e=>eb b o hb e) f0 f1 f3 f4 f5⟩
  self:=fun _ _ _ _ _ st h=>wpAny_pyIter_listiter st h
theorem turn_tuple {P:Program} {w:World} {K:PySem.W.Frag} {tg:Expr} (a it:Addr):Turn P w K tg (Itt K a) [it] it (fun i h=>h.IsTupleIter it a i) where
  mem:=by simp
  obj:=fun i h st b hb=>by
    have e:b=it:=by simpa using hb
    subst e
    obtain ⟨o,e,c,d⟩:=st
    exact ⟨o,e,fun v z=>by rw [d] at z; cases z⟩
  keep:=fun i h h' st k=>st.at fun o e=>k it (by simp) o e
  item:=by
    intro X hP hw hK hc i pins s σ H E I hf st hg
    subst hP hw hK
    obtain ⟨xs,x,hq,hx⟩:=hg
    obtain ⟨its,rv,p,hz⟩:=I.tuple hq
    obtain ⟨u,hu,ru⟩:=rv.get hx
    obtain ⟨f0,f1,f2,f3,f4,f5⟩:=hf it (by simp)
    refine wpAny_pyNext_tuple_item st (show s.heap.IsTuple a its.toArray from p) (x:=u) (by simpa using hu) fun h' st' sb=>?_
    have I1:Inv X pins σ H { s with heap:=h' }:=I.turned (t':=s.toks) (fun b o hb e=>(sb.2 b hb).trans e) f0 f1 f3 f4 f5
    obtain ⟨o,e,c,d⟩:=id st'
    exact ⟨u,rfl,go_of (s:={ s with heap:=h' }) e c d (by decide) ⟨x,H,I1,ru,⟨rfl,fun ys hy=>by rw [I.tuple_inj hy hq]; exact hx⟩,st',fun b hb=>(hf b hb).1⟩⟩
  done:=by
    intro X hP hw hK hc i pins s σ H E I hf st hg
    subst hP hw hK
    obtain ⟨xs,hq,hx⟩:=hg
    obtain ⟨its,rv,p,hz⟩:=I.tuple hq
    obtain ⟨f0,f1,f2,f3,f4,f5⟩:=hf it (by simp)
    have hl:=rv.length
    exact wpAny_pyNext_tuple_end (I.ok.hd hc) st (show s.heap.IsTuple a its.toArray from p) (by simp; omega) fun h' eb=>⟨rfl,I.turned (t':=s.toks) (fun b o hb e=>eb b o hb e) f0 f1 f3 f4 f5⟩
  self:=fun _ _ _ _ _ st h=>wpAny_pyIter_tupleiter st h
theorem turn_range {P:Program} {w:World} {K:PySem.W.Frag} {tg:Expr} (it:Addr) (lo:Int) (n:Nat):Turn P w K tg (Itr lo n) [it] it (fun i h=>IsRangeIter h it (lo + (i:Nat) * 1) ((n:Int) - (i:Nat)) 1) where
  mem:=by simp
  obj:=fun i h st b hb=>by
    have e:b=it:=by simpa using hb
    subst e
    exact ⟨_,st,fun v z=>by
      have z':Data.fields _=Data.cell v:=z
      cases z'⟩
  keep:=fun i h h' st k=>k it (by simp) _ st
  item:=by
    intro X hP hw hK hc i pins s σ H E I hf st hg
    subst hP hw hK
    obtain ⟨f0,f1,f2,f3,f4,f5⟩:=hf it (by simp)
    have W:=Walks.range (prog:=X.prog) (w:=X.w) (I.ok.hd hc) it lo 1 n
    refine W.item i s _ _ hg st fun v h' tk hv st' kk=>?_
    obtain ⟨t,rfl⟩:=hv
    have I1:Inv X pins σ H { s with heap:=h',toks:=tk }:=I.turned (fun b o hb e=>kk b o (by simpa using hb) e) f0 f1 f3 f4 f5
    refine ⟨_,rfl,go_of (s:={ s with heap:=h',toks:=tk }) (n := "range_iterator") st' rfl rfl (by decide) ⟨.int (lo + i),H,I1,⟨t,?_⟩,⟨rfl,rfl⟩,st',fun b hb=>(hf b hb).1⟩⟩
    rw [Int.mul_one]
  done:=by
    intro X hP hw hK hc i pins s σ H E I hf st hg
    subst hP hw hK
    obtain ⟨f0,f1,f2,f3,f4,f5⟩:=hf it (by simp)
    exact wpAny_pyNext_range_end (I.ok.hd hc) st (by have:n<=i:=hg; omega) fun h' eb=>⟨rfl,I.turned (t':=s.toks) (fun b o hb e=>eb b o hb e) f0 f1 f3 f4 f5⟩
  self:=fun _ _ _ _ _ st h=>wpAny_pyIter_rangeiter st h
end L2
namespace L2
open PySem PySem.Spec PyProof.Rows
section
variable {X:Cx} {tg:Expr}
def iList (K:PySem.W.Frag) (tl:TE):TI:=fun σ H R=>tl σ H fun x H1=>∃ a,x=.ref a/\(∃ xs,SqL K H1 a xs)/\R (Itl K a) H1
def iTup (K:PySem.W.Frag) (tl:TE):TI:=fun σ H R=>tl σ H fun x H1=>∃ a,x=.ref a/\(∃ xs,SqT K H1 a xs)/\R (Itt K a) H1
theorem pi_list {l:Expr} {tl:TE} (hl:PE X l tl):PI X tg l (iList X.K tl):=by
  intro pins s σ H R I h
  refine thn (hl pins s σ H _ I h) fun v s1 ⟨x,H1,I1,r1,q1⟩=>?_
  obtain ⟨a,e,⟨xs,hq⟩,q⟩:=q1
  subst e
  cases r1
  obtain ⟨its,rv,p,hz⟩:=I1.list hq
  refine wpAny_pyIter_list p.isList ?_
  refine ⟨s1.heap.objs.size,[s1.heap.objs.size],_,_,H1,rfl,I1.kept (t':=s1.toks) fun b o e=>O0 _ e,turn_list a _,⟨_,O7 _ rfl,rfl,rfl⟩,fun b hb=>?_,q⟩
  have e:b=s1.heap.objs.size:=by simpa using hb
  subst e
  exact I1.fpOk (O4 _) (I1.hok.fresh (O4 _))
theorem pi_tup {l:Expr} {tl:TE} (hl:PE X l tl):PI X tg l (iTup X.K tl):=by
  intro pins s σ H R I h
  refine thn (hl pins s σ H _ I h) fun v s1 ⟨x,H1,I1,r1,q1⟩=>?_
  obtain ⟨a,e,⟨xs,hq⟩,q⟩:=q1
  subst e
  cases r1
  obtain ⟨its,rv,p,hz⟩:=I1.tuple hq
  refine wpAny_pyIter_tuple (show s1.heap.IsTuple a its.toArray from p) ?_
  refine ⟨s1.heap.objs.size,[s1.heap.objs.size],_,_,H1,rfl,I1.kept (t':=s1.toks) fun b o e=>O0 _ e,turn_tuple a _,⟨_,O7 _ rfl,rfl,rfl⟩,fun b hb=>?_,q⟩
  have e:b=s1.heap.objs.size:=by simpa using hb
  subst e
  exact I1.fpOk (O4 _) (I1.hok.fresh (O4 _))
theorem range_it {pins:List (Addr × Obj)} {σ:St} {H:Hp} {s:Shared} {R:It->Hp->Prop} {E:Value->Shared->Prop} {lo hi:Int} {t u v:Tok} {tk:Nat} (I:Inv X pins σ H s) (h1:-(2 ^ 62)<=lo) (h2:lo < 2 ^ 62) (h3:-(2 ^ 62)<=hi) (h4:hi < 2 ^ 62)
    (q:R (Itr lo (hi - lo).toNat) H):wpAny (model X.prog X.w) X.A (pyIter (.ref s.heap.objs.size)) (PIE X pins σ tg R) E { s with heap:=s.heap.push { cls:=.type "range",data:=.fields #[.int lo t,.int hi u,.int 1 v] },toks:=tk }:=by
  refine wpAny_pyIter_range (IsRange.new ..) (small_one h1 h2 h3 h4) ?_
  have I1:Inv X pins σ H { s with heap:=s.heap.push { cls:=.type "range",data:=.fields #[.int lo t,.int hi u,.int 1 v] },toks:=tk }:=I.kept fun b o e=>O0 _ e
  refine ⟨(s.heap.push { cls:=.type "range",data:=.fields #[.int lo t,.int hi u,.int 1 v] }).objs.size,[(s.heap.push { cls:=.type "range",data:=.fields #[.int lo t,.int hi u,.int 1 v] }).objs.size],_,_,H,rfl,
    I1.kept (t':=tk) fun b o e=>O0 _ e,turn_range _ lo (hi - lo).toNat,?_,fun b hb=>?_,q⟩
  · have e1:lo + ((0:Nat):Int) * 1=lo:=by simp
    have e2:(((hi - lo).toNat:Nat):Int) - ((0:Nat):Int)=Builtin.Range.rangeSize lo hi 1:=by rw [rangeSize_one]; split <;> omega
    show IsRangeIter _ _ (lo + ((0:Nat):Int) * 1) ((((hi - lo).toNat:Nat):Int) - ((0:Nat):Int)) 1
    rw [e1,e2]
    exact O7 _ rfl
  · have e:b=(s.heap.push { cls:=.type "range",data:=.fields #[.int lo t,.int hi u,.int 1 v] }).objs.size:=by simpa using hb
    subst e
    exact I1.fpOk (O4 _) (I1.hok.fresh (O4 _))
def iRng1 (ta:TA):TI:=fun σ H R=>ta σ H fun vs H1=>∃ j:Int,vs=[.int j]/\-(2 ^ 62)<=j/\j < 2 ^ 62/\R (Itr 0 j.toNat) H1
theorem pi_range1 {a:Expr} {ta:TA} {p pos:Pos} (hg:Gl X "range") (hm:X.mg "range" = none) (ha:PA X [a] ta) (hs:starEach [a] X.env=[(false,eval a X.env)]:=by rfl):PI X tg (.Call (.Name "range" p) [a] [] pos) (iRng1 ta):=by
  intro pins s σ H R I h
  refine Call_ (ld_blt I hg hm boot_range (PyProof.Rows.callWith_type1 (thn (ha pos pins s σ H _ I h) fun us s1 ⟨vs,H1,I1,r1,q1⟩=>?_) hs rfl))
  obtain ⟨j,e,q1,q2,q⟩:=q1
  subst e
  cases r1 with
  | cons r rr=>
    cases rr
    obtain ⟨t,rfl⟩:=r
    exact call_range_1 (range_it I1 (by omega) (by omega) q1 q2 (by simpa using q))
def tFor (wi:TI) (g:TG) (tb:TS):TS:=fun D σ H=>wi σ H fun J H1=>∃ W:Nat->Nat->St->Hp->Prop,(∃ m,W 0 m σ H1)/\∀ i m σ H,W i m σ H ->
  (J.stop i H/\D.nx σ H)\/(J.go i H/\∃ N:St->Hp->Prop,(∀ σ' H',N σ' H'->∃ m',m' < m/\W (i + 1) m' σ' H')/\∀ x H',J.yld i H x H'->g x σ H' fun σ2 H2=>tb { D with nx:=N,ct:=N,bk:=D.nx } σ2 H2)
def pinsAt (fp:List Addr) (h:Heap):List (Addr × Obj):=fp.filterMap fun b=>(h.get? b).map fun o=>(b,o)
theorem mem_pinsAt {fp:List Addr} {h:Heap} {b:Addr} {o:Obj} (hb:b∈fp) (e:h.get? b=some o):(b,o)∈pinsAt fp h:=List.mem_filterMap.mpr ⟨b,hb,by rw [e]; rfl⟩
theorem of_pinsAt {fp:List Addr} {h:Heap} {p:Addr × Obj} (hp:p∈pinsAt fp h):p.1∈fp/\h.get? p.1=some p.2:=by
  obtain ⟨b,hb,e⟩:=List.mem_filterMap.mp hp
  cases q:h.get? b with
  | none=>rw [q] at e; cases e
  | some o=>
    rw [q] at e
    have e':(b,o)=p:=Option.some.inj e
    subst e'
    exact ⟨hb,q⟩
theorem Inv.pinned {pins:List (Addr × Obj)} {σ:St} {H:Hp} {s:Shared} {fp:List Addr} (I:Inv X pins σ H s) (hf:∀ b∈fp,FpOk X pins H b) (ho:∀ b∈fp,∃ o,s.heap.get? b=some o/\∀ v,o.data≠.cell v):Inv X (pins ++ pinsAt fp s.heap) σ H s:=
  I.pins_of fun p hp=>(D4.mp hp).elim (fun z=>I.pin p (D8 _ z)) fun z=>by
    obtain ⟨hb,e⟩:=of_pinsAt z
    obtain ⟨f0,f1,f2,_⟩:=hf p.1 hb
    obtain ⟨o,e',d⟩:=ho p.1 hb
    rw [e] at e'; cases e'
    exact ⟨e,f0,f1,f2,d⟩
theorem Inv.unpinned {pins pl:List (Addr × Obj)} {σ:St} {H:Hp} {s:Shared} (I:Inv X (pins ++ pl) σ H s):Inv X pins σ H s:=I.pins_of fun p hp=>I.pin p (D8 _ (E3 _ hp))
theorem ps_for {iter:Expr} {body:List Stmt} {wi:TI} {g:TG} {tb:TS} {pos:Pos} (hp:PassesOwn (model X.prog X.w) X.A X.env X.xe) (hc:X.calm=true) (hi:PI X tg iter wi) (hg:PG X tg g) (hb:PSs X body tb)
    (hs:∀ x,foldedSetIterable iter X.env x=pure x:=by intro _; rfl):PS X (.For tg iter body [] pos) (tFor wi g tb):=by
  intro pins s σ H D I h
  refine wpAny_For (thn (hi pins s σ H _ I h) fun v s1 h1=>thn h1 fun itv s2 h2=>?_) hs
  obtain ⟨it,fp,tn,J,H2,e,I2,T,st2,f2,W,⟨m0,w0⟩,turn⟩:=h2
  subst e
  have stat:∀ {H':Hp},(∀ b∈fp,H' b=none)->∀ b∈fp,FpOk X pins H' b:=fun hn b hb=>⟨hn b hb,(f2 b hb).2⟩
  refine codeAny_forLoop_any (fun n s'=>∃ i σ' H',Inv X pins σ' H' s'/\tn i s'.heap/\(∀ b∈fp,H' b=none)/\W i n σ' H') ?_ m0 ⟨0,σ,H2,I2,st2,fun b hb=>(f2 b hb).1,w0⟩
  rintro n s3 ⟨i,σ3,H3,I3,st3,fr3,w3⟩
  rcases turn i n σ3 H3 w3 with ⟨stop,qn⟩ | ⟨go,N,hN,step⟩
  · refine wpAny_passesOwn hp (thn (T.done X rfl rfl rfl hc i pins s3 σ3 H3 X.xe I3 (stat fr3) st3 stop) fun r s4 ⟨hr,I4⟩=>?_)
    subst hr
    exact wpAny_execs_nil ⟨σ3,H3,I4,qn⟩
  · refine wpAny_passesOwn hp (thn (T.item X rfl rfl rfl hc i pins s3 σ3 H3 X.xe I3 (stat fr3) st3 go) fun r s4 ⟨u,hr,h4⟩=>?_)
    subst hr
    refine wpAny_passesOwn hp (thn h4 fun _ s5 ⟨x,H5,I5,r5,y5,st5,fr5⟩=>?_)
    have I5':=I5.pinned (stat fr5) (T.obj _ _ st5)
    refine wpAny_passesOwn hp (thn (hg _ s5 σ3 H5 x u _ I5' r5 (step x H5 y5)) fun _ s6 ⟨σ6,H6,I6,q6⟩=>?_)
    refine wpAny_passesOwn hp (thn (hb _ s6 σ6 H6 _ I6 q6) fun f s7 q7=>?_)
    have again:∀ {σ7:St} {H7:Hp},Inv X (pins ++ pinsAt fp s5.heap) σ7 H7 s7->N σ7 H7->∃ m,m < n/\∃ i σ' H',Inv X pins σ' H' s7/\tn i s7.heap/\(∀ b∈fp,H' b=none)/\W i m σ' H':=fun {σ7 H7} I7 n7=>by
      obtain ⟨m',hm,w7⟩:=hN σ7 H7 n7
      refine ⟨m',hm,i + 1,σ7,H7,I7.unpinned,T.keep _ _ _ st5 fun b hb o e=>(I7.pin (b,o) (D8 _ (D8 _ (mem_pinsAt hb e)))).1,fun b hb=>?_,w7⟩
      obtain ⟨o,e,d⟩:=T.obj _ _ st5 b hb
      exact (I7.pin (b,o) (D8 _ (D8 _ (mem_pinsAt hb e)))).2.1
    cases f with
    | next=>obtain ⟨σ7,H7,I7,n7⟩:=q7; exact again I7 n7
    | cont=>obtain ⟨σ7,H7,I7,n7⟩:=q7; exact again I7 n7
    | brk=>obtain ⟨σ7,H7,I7,q7⟩:=q7; exact ⟨σ7,H7,I7.unpinned,q7⟩
    | ret v=>obtain ⟨x7,σ7,H7,I7,r7,q7⟩:=q7; exact ⟨x7,σ7,H7,I7.unpinned,r7,q7⟩
end
end L2
namespace L2
open PySem PySem.Spec PyProof.Rows
abbrev R2:=V->V->Hp->VK->Prop
def OpR (X:Cx) (f:Value->Value->Sem Value) (r:R2):Prop:=
  ∀ (pins:List (Addr × Obj)) (s:Shared) (σ:St) (H:Hp) (x y:V) (v u:Value) (Q:VK),Inv X pins σ H s->RelV x v->RelV y u->r x y H Q ->
    wpAny (model X.prog X.w) X.A (f v u) (EP X pins σ Q) X.xe s
def UnR (X:Cx) (f:Value->Sem Value) (r:V->Hp->VK->Prop):Prop:=
  ∀ (pins:List (Addr × Obj)) (s:Shared) (σ:St) (H:Hp) (x:V) (v:Value) (Q:VK),Inv X pins σ H s->RelV x v->r x H Q ->
    wpAny (model X.prog X.w) X.A (f v) (EP X pins σ Q) X.xe s
def CallR (X:Cx) (f:Value) (r:List V->Hp->VK->Prop):Prop:=
  ∀ (pins:List (Addr × Obj)) (s:Shared) (σ:St) (H:Hp) (xs:List V) (us:List Value) (Q:VK),Inv X pins σ H s->Vals xs us->r xs H Q ->
    wpAny (model X.prog X.w) X.A (call f us) (EP X pins σ Q) X.xe s
def tOp (r:R2) (ta tb:TE):TE:=fun σ H Q=>ta σ H fun x H1=>tb σ H1 fun y H2=>r x y H2 Q
def tUn (r:V->Hp->VK->Prop) (ta:TE):TE:=fun σ H Q=>ta σ H fun x H1=>r x H1 Q
def rI (C:Int->Int->Prop) (g:Int->Int->V):R2:=fun x y H Q=>∃ i j,x=.int i/\y=.int j/\C i j/\Q (g i j) H
def rI0 (g:Int->Int->V):R2:=fun x y H Q=>∃ i j,x=.int i/\y=.int j/\Q (g i j) H
def rU (g:Int->V):V->Hp->VK->Prop:=fun x H Q=>∃ i,x=.int i/\Q (g i) H
section
variable {X:Cx} {a b c:Expr} {ta tb tc:TE} {pos:Pos}
theorem binT (ha:PE X a ta) (hb:PE X b tb) {pins:List (Addr × Obj)} {s:Shared} {σ:St} {H:Hp} {R:V->V->Hp->Prop} (I:Inv X pins σ H s)
    (h:ta σ H fun x H1=>tb σ H1 fun y H2=>R x y H2) {Q:Value->Shared->Prop} {f:Value->Value->Sem Value}
    (hf:∀ v u s2 x y H2,Inv X pins σ H2 s2->RelV x v->RelV y u->R x y H2->wpAny (model X.prog X.w) X.A (f v u) Q X.xe s2) :
    wpAny (model X.prog X.w) X.A (eval a X.env) (fun v s₁=>wpAny (model X.prog X.w) X.A (eval b X.env) (fun u s₂=>wpAny (model X.prog X.w) X.A (f v u) Q X.xe s₂) X.xe s₁) X.xe s:=by
  refine thn (ha pins s σ H _ I h) fun v s1 ⟨x,H1,I1,r1,q1⟩=>?_
  refine thn (hb pins s1 σ H1 _ I1 q1) fun u s2 ⟨y,H2,I2,r2,q2⟩=>?_
  exact hf v u s2 x y H2 I2 r1 r2 q2
theorem pe_op {op:Operator} {r:R2} (ho:OpR X (binaryOp op) r) (ha:PE X a ta) (hb:PE X b tb):PE X (.BinOp a op b pos) (tOp r ta tb):=by
  intro pins s σ H Q I h
  exact wpAny_BinOp (binT ha hb I h fun v u s2 x y H2 I2 rx ry q=>ho pins s2 σ H2 x y v u Q I2 rx ry q)
theorem pe_un {op:UnaryOp} {r:V->Hp->VK->Prop} (ho:UnR X (unaryOp op) r) (ha:PE X a ta):PE X (.UnaryOp op a pos) (tUn r ta):=by
  intro pins s σ H Q I h
  exact UnaryOp_ (thn (ha pins s σ H _ I h) fun v s1 ⟨x,H1,I1,r1,q1⟩=>ho pins s1 σ H1 x v Q I1 r1 q1)
theorem opI {f:Value->Value->Sem Value} {C:Int->Int->Prop} {g:Int->Int->Int}
    (rule:∀ (i j:Int) (t u:Tok) (s:Shared) (Q:Value->Shared->Prop) (E:Value->Shared->Prop),C i j->Q (.int (g i j) s.toks) { s with toks:=s.toks + 1 }->wpAny (model X.prog X.w) X.A (f (.int i t) (.int j u)) Q E s) :
    OpR X f (rI C fun i j=>.int (g i j)):=by
  intro pins s σ H x y v u Q I rx ry h
  obtain ⟨i,j,rfl,rfl,hc,q⟩:=h
  obtain ⟨t,rfl⟩:=rx
  obtain ⟨t',rfl⟩:=ry
  exact rule i j t t' s _ _ hc ⟨.int (g i j),H,I.tok _,⟨_,rfl⟩,q⟩
theorem opI0 {f:Value->Value->Sem Value} {g:Int->Int->Int}
    (rule:∀ (i j:Int) (t u:Tok) (s:Shared) (Q:Value->Shared->Prop) (E:Value->Shared->Prop),Q (.int (g i j) s.toks) { s with toks:=s.toks + 1 }->wpAny (model X.prog X.w) X.A (f (.int i t) (.int j u)) Q E s) :
    OpR X f (rI0 fun i j=>.int (g i j)):=by
  intro pins s σ H x y v u Q I rx ry h
  obtain ⟨i,j,rfl,rfl,q⟩:=h
  obtain ⟨t,rfl⟩:=rx
  obtain ⟨t',rfl⟩:=ry
  exact rule i j t t' s _ _ ⟨.int (g i j),H,I.tok _,⟨_,rfl⟩,q⟩
theorem opB0 {f:Value->Value->Sem Value} {g:Int->Int->Bool}
    (rule:∀ (i j:Int) (t u:Tok) (s:Shared) (Q:Value->Shared->Prop) (E:Value->Shared->Prop),Q (.bool (g i j)) s->wpAny (model X.prog X.w) X.A (f (.int i t) (.int j u)) Q E s) :
    OpR X f (rI0 fun i j=>.bl (g i j)):=by
  intro pins s σ H x y v u Q I rx ry h
  obtain ⟨i,j,rfl,rfl,q⟩:=h
  obtain ⟨t,rfl⟩:=rx
  obtain ⟨t',rfl⟩:=ry
  exact rule i j t t' s _ _ ⟨.bl (g i j),H,I,rfl,q⟩
def CDiv (i j:Int):Prop:=0 < j/\j < 1073741824
def CPow (i j:Int):Prop:=0<=j/\j<=1000000/\i.natAbs < 2 ^ 64
def CMul (i j:Int):Prop:=(-(2 ^ 64) < i/\i < 2 ^ 64)\/(-(2 ^ 64) < j/\j < 2 ^ 64)
theorem CMul.ok {i j:Int} (h:CMul i j):IntMulOk i j:=by
  rcases h with ⟨h1,h2⟩ | ⟨h1,h2⟩
  · exact .of_left (intBits_le_64 h1 h2)
  · exact .of_right (intBits_le_64 h1 h2)
theorem op_add:OpR X (binaryOp .Add) (rI0 fun i j=>.int (i + j)):=opI0 fun _ _ _ _ _ _ _ q=>add_int q
theorem op_sub:OpR X (binaryOp .Sub) (rI0 fun i j=>.int (i - j)):=opI0 fun _ _ _ _ _ _ _ q=>sub_int q
theorem op_mul:OpR X (binaryOp .Mult) (rI CMul fun i j=>.int (i * j)):=opI fun _ _ _ _ _ _ _ hc q=>mul_int q hc.ok
theorem op_fdiv:OpR X (binaryOp .FloorDiv) (rI CDiv fun i j=>.int (i / j)):=opI fun i j _ _ _ _ _ hc q=>by
  have h1:(0:Int) < j:=hc.1
  have h2:j < 1073741824:=hc.2
  exact floordiv_int (by omega) (by rw [Int.fdiv_eq_ediv_of_nonneg i (by omega)]; exact q) (.inl (PyProof.noPylong_small (by omega)))
theorem op_mod:OpR X (binaryOp .Mod) (rI (fun _ j=>0 < j) fun i j=>.int (i % j)):=opI fun i j _ _ _ _ _ hc q=>by
  have h1:(0:Int) < j:=hc
  exact mod_int' (by omega) (by rw [Int.fmod_eq_emod_of_nonneg i (by omega)]; exact q)
theorem op_pow:OpR X (binaryOp .Pow) (rI CPow fun i j=>.int (i ^ j.toNat)):=opI fun _ _ _ _ _ _ _ hc q=>pow_int_small hc.1 hc.2.1 hc.2.2 q
theorem unI {f:Value->Sem Value} {g:Int->Int}
    (rule:∀ (i:Int) (t:Tok) (s:Shared) (Q:Value->Shared->Prop) (E:Value->Shared->Prop),Q (.int (g i) s.toks) { s with toks:=s.toks + 1 }->wpAny (model X.prog X.w) X.A (f (.int i t)) Q E s) :
    UnR X f (rU fun i=>.int (g i)):=by
  intro pins s σ H x v Q I rx h
  obtain ⟨i,rfl,q⟩:=h
  obtain ⟨t,rfl⟩:=rx
  exact rule i t s _ _ ⟨.int (g i),H,I.tok _,⟨_,rfl⟩,q⟩
theorem un_neg:UnR X (unaryOp .USub) (rU fun i=>.int (-i)):=unI fun _ _ _ _ _ q=>neg_int q
end
section
variable {X:Cx} {a b c:Expr} {ta tb tc:TE} {pos:Pos}
theorem fin_bl {pins:List (Addr × Obj)} {σ:St} {H:Hp} {s:Shared} {Q:VK} {k k':Bool} (I:Inv X pins σ H s) (q:Q (.bl k) H) (e:k=k'):EP X pins σ Q (.bool k') s:=by
  subst e
  exact ⟨.bl k,H,I,rfl,q⟩
theorem op_lt:OpR X (compareOp .Lt) (rI0 fun i j=>.bl (decide (i < j))):=opB0 fun _ _ _ _ _ _ _ q=>lt_int q
theorem op_le:OpR X (compareOp .LtE) (rI0 fun i j=>.bl (decide (i<=j))):=opB0 fun _ _ _ _ _ _ _ q=>le_int q
theorem op_gt:OpR X (compareOp .Gt) (rI0 fun i j=>.bl (decide (j < i))):=opB0 fun _ _ _ _ _ _ _ q=>gt_int q
theorem op_ge:OpR X (compareOp .GtE) (rI0 fun i j=>.bl (decide (j<=i))):=opB0 fun _ _ _ _ _ _ _ q=>ge_int q
theorem op_isN:OpR X (compareOp .Is) (fun x y H Q=>y=.non/\Q (.bl (decide (x=.non))) H):=by
  intro pins s σ H x y v u Q I rx ry h
  obtain ⟨rfl,q⟩:=h
  cases ry
  refine is_none_gen (fin_bl I q ?_)
  cases x <;> first
    | (cases rx; rfl)
    | (obtain ⟨t,rfl⟩:=rx; rfl)
theorem op_notN:OpR X (compareOp .IsNot) (fun x y H Q=>y=.non/\Q (.bl (!decide (x=.non))) H):=by
  intro pins s σ H x y v u Q I rx ry h
  obtain ⟨rfl,q⟩:=h
  cases ry
  refine isnot_none_gen (fin_bl I q ?_)
  cases x <;> first
    | (cases rx; rfl)
    | (obtain ⟨t,rfl⟩:=rx; rfl)
theorem OpR.or {f:Value->Value->Sem Value} {r r':R2} (h:OpR X f r) (h':OpR X f r'):OpR X f (fun x y H Q=>r x y H Q\/r' x y H Q):=by
  intro pins s σ H x y v u Q I rx ry q
  rcases q with q | q
  · exact h pins s σ H x y v u Q I rx ry q
  · exact h' pins s σ H x y v u Q I rx ry q
theorem nomark (b:Expr) {op:CmpOp} (h:op≠.In:=by decide) (h2:op≠.NotIn:=by decide):behindInMarks op b=false:=by
  have e1:(op == CmpOp.In)=false:=by cases op <;> first | rfl | exact absurd rfl h
  have e2:(op == CmpOp.NotIn)=false:=by cases op <;> first | rfl | exact absurd rfl h2
  cases b <;> simp [behindInMarks,e1,e2]
theorem pe_cmpR {op:CmpOp} {r:R2} (ho:OpR X (compareOp op) r) (ha:PE X a ta) (hb:PE X b tb) (hm:behindInMarks op b=false):PE X (.Compare a [op] [b] pos) (tOp r ta tb):=by
  intro pins s σ H Q I h
  exact wpAny_Compare1 (binT ha hb I h fun v u s2 x y H2 I2 rx ry q=>ho pins s2 σ H2 x y v u Q I2 rx ry q) hm
def tTest (t:TE):TT:=fun σ H Q=>t σ H fun x H'=>∃ k,x=.bl k/\Q k H'
theorem pt_cmpR {op:CmpOp} {r:R2} (ho:OpR X (compareOp op) r) (ha:PE X a ta) (hb:PE X b tb) (hm:behindInMarks op b=false):PT X (.Compare a [op] [b] pos) (tTest (tOp r ta tb)):=by
  intro pins s σ H Q I h
  refine wpAny_isTrue_Compare1 (thn (ha pins s σ H _ I h) fun v s1 ⟨x,H1,I1,r1,q1⟩=>thn (hb pins s1 σ H1 _ I1 q1) fun u s2 ⟨y,H2,I2,r2,q2⟩=>
    thn (ho pins s2 σ H2 x y v u _ I2 r1 r2 q2) fun c s3 ⟨z,H3,I3,r3,k,e,q3⟩=>?_) hm
  subst e
  cases r3
  exact wpAny_truthy_bool ⟨H3,I3,q3⟩
def tChain (r r':R2) (ta tb tc:TE):TE:=fun σ H Q=>ta σ H fun x H1=>tb σ H1 fun y H2=>r x y H2 fun z H3=>∃ k,z=.bl k /\
  (if k=true then tc σ H3 fun w' H4=>r' y w' H4 Q else Q (.bl false) H3)
theorem pe_chain {op op':CmpOp} {r r':R2} (ho:OpR X (compareOp op) r) (ho':OpR X (compareOp op') r') (ha:PE X a ta) (hb:PE X b tb) (hc:PE X c tc)
    (hm:lastMarks [op,op'] [b,c]=false:=by with_unfolding_all rfl):PE X (.Compare a [op,op'] [b,c] pos) (tChain r r' ta tb tc):=by
  intro pins s σ H Q I h
  refine Compare_chain (thn (ha pins s σ H _ I h) fun v s1 ⟨x,H1,I1,r1,q1⟩=>chain_link (thn (hb pins s1 σ H1 _ I1 q1) fun u s2 ⟨y,H2,I2,r2,q2⟩=>
    thn (ho pins s2 σ H2 x y v u _ I2 r1 r2 q2) fun d s3 ⟨z,H3,I3,r3,k,e,q3⟩=>?_)) hm
  subst e
  cases r3
  refine wpAny_truthy_bool ?_
  cases k with
  | false=>exact ite_ff ⟨.bl false,H3,I3,rfl,q3⟩
  | true=>exact ite_tt (chain_last (thn (hc pins s3 σ H3 _ I3 q3) fun w' s4 ⟨z',H4,I4,r4,q4⟩=>ho' pins s4 σ H4 y z' u w' Q I4 r2 r4 q4))
theorem line63:(sizeLine:Nat) < 2 ^ 63:=by rw [sizeLine_eq]; decide
theorem op_add_str:OpR X (binaryOp .Add) (fun x y H Q=>∃ i j,x=.str i/\y=.str j/\i.length + j.length<=sizeLine/\Q (.str (i ++ j)) H):=by
  intro pins s σ H x y v u Q I rx ry h
  obtain ⟨i,j,rfl,rfl,hz,q⟩:=h
  obtain ⟨t,rfl⟩:=rx
  obtain ⟨t',rfl⟩:=ry
  exact add_str (fun t' tk=>⟨.str (i ++ j),H,I.tok _,⟨_,rfl⟩,q⟩) hz
theorem vals1 {x:V} {us:List Value} (r:Vals [x] us):∃ u,us=[u]/\RelV x u:=by
  cases r with
  | cons r1 r2=>cases r2; exact ⟨_,rfl,r1⟩
theorem vals2 {x y:V} {us:List Value} (r:Vals [x,y] us):∃ u w',us=[u,w']/\RelV x u/\RelV y w':=by
  cases r with
  | cons r1 r2=>
    cases r2 with
    | cons r3 r4=>cases r4; exact ⟨_,_,rfl,r1,r3⟩
end
end L2
namespace L2
open PySem PySem.Spec PyProof.Rows
structure ObjM (h:Heap) (x dx C:Addr) (mA:Str->Option Value):Prop where
  obj:h.get? x=some (PySem.W.instObj C dx)
  ns:h.Ns1 dx mA
  ne:dx≠x
theorem lookIn_ns {h:Heap} {dx:Addr} {mA:Str->Option Value} (n:h.Ns1 dx mA):∃ od,h.get? dx=some od/\∀ name,PySem.W.lookIn name od=some (mA name):=by
  obtain ⟨o,es,ep,ho,hd,hk,_,hm⟩:=n
  refine ⟨o,ho,fun name=>?_⟩
  have e:=hm name
  unfold nsFind findBy at e
  rw [<- Array.find?_toList] at e
  unfold PySem.W.lookIn
  rw [hd]
  dsimp only
  split
  · rename_i y q
    rw [q] at e
    exact congrArg some e
  · rename_i q
    rw [q] at e
    have a:es.toList.any (·.refKey)=false:=by
      rw [List.any_eq_false]
      intro y hy
      obtain ⟨z,t,hkey⟩:=hk y (Array.mem_toList_iff.mp hy)
      simp [DictEntry.refKey,hkey]
    have a':¬ es.toList.any (·.refKey)=true:=by rw [a]; exact D6
    rw [if_neg a']
    exact congrArg some e
theorem ObjM.look {h:Heap} {x dx C:Addr} {mA:Str->Option Value} (I:ObjM h x dx C mA):∃ od,PySem.W.InstAt h x (PySem.W.instObj C dx) C (some od)/\∀ name,PySem.W.lookIn name od=some (mA name):=
  let ⟨od,ho,hl⟩:=lookIn_ns I.ns
  ⟨od,⟨I.obj,rfl,rfl,ho⟩,hl⟩
section
variable {prog:Program} {w:World} {A:Around} {E:Value->Shared->Prop} {s:Shared} {K:PySem.W.Frag} {x dx C f:Addr} {mA:Str->Option Value} {name:Str} {v:Value}
end
section
variable {P:Program} {w:World} {H H':Hp} {h h':Heap} {a C dx:Addr} {fs fs':List (Str × V)}
theorem ins_get (hok:HOk P w H h) (e:H a=some (.ins C dx fs)):∃ mA,ObjM h a dx C mA/\(∀ f,RelO (fs.lookup f) (mA f))/\PySem.Within mA (fs.map (·.1))/\fs.length<=1000/\H dx=some (.own a):=by
  obtain ⟨d,z,ne,ob,mA,n,r,q⟩:=(show ObjOk P w H h a (.ins C dx fs) from hok a _ e)
  exact ⟨mA,⟨ob,n,ne⟩,r,q,z,d⟩
end
structure Cls (K:PySem.W.Frag) (C:Addr):Prop where
  pg:PySem.W.plainGet K C Str.empty=true
  hd:PySem.W.hasDictIn K C=true
  po:PySem.W.plainOver K C=true
  sa:PySem.W.findIn K (.ref C) "__setattr__" = some (some (.builtin "object.__setattr__"))
theorem Cls.get {K:PySem.W.Frag} {C:Addr} (c:Cls K C) (f:Str):PySem.W.plainGet K C f=true:=c.pg
section
variable {X:Cx} {pins:List (Addr × Obj)} {σ:St} {H:Hp} {s:Shared} {a C dx:Addr} {fs:List (Str × V)} {f:Str} {v:V} {A:Around} {E:Value->Shared->Prop}
end
section
variable {X:Cx} {o e value:Expr} {f:Str} {pos pos' tpos:Pos} {ta tv:TE}
end
section
variable {X:Cx} {pins:List (Addr × Obj)} {σ:St} {H:Hp} {s:Shared} {A:Around} {E:Value->Shared->Prop} {Q:Value->Shared->Prop} {c:Value} {b:Bool}
inductive TyOf (K:PySem.W.Frag) (H:Hp):V->Value->Prop where
  | non:TyOf K H .non (.type "NoneType")
  | bl (x:Bool):TyOf K H (.bl x) (.type "bool")
  | int (i:Int):TyOf K H (.int i) (.type "int")
  | str (x:Str):TyOf K H (.str x) (.type "str")
  | flt (x:UInt64):TyOf K H (.flt x) (.type "float")
  | lst {a:Addr} {xs:List V} (e:H a=some (.lst xs)):TyOf K H (.ref a) (.type "list")
  | frz {a:Addr} {o:Obj} {xs:List V} (e:H a=some (.frz o (.lst xs))):TyOf K H (.ref a) (.type "list")
  | tup {a:Addr} {xs:List V} (e:H a=some (.tup xs)):TyOf K H (.ref a) (.type "tuple")
  | dK {a:Addr} {kvs:List (Key × V)} (e:H a=some (.dK kvs)):TyOf K H (.ref a) (.type "dict")
  | dT {a:Addr} {kvs:List (List Key × V)} (e:H a=some (.dT kvs)):TyOf K H (.ref a) (.type "dict")
  | ins {a C dx:Addr} {fs:List (Str × V)} (e:H a=some (.ins C dx fs)) (cl:Cls K C) (ha:PySem.W.findIn K (.ref C) "__class__" = some (some (.builtin "object.__class__")))
      (hn:PySem.W.specialIn K (.builtin "object.__class__") "__get__" = some (some (.builtin "getset_descriptor.__get__"))) (htk:PySem.W.takesIn K (.builtin "object.__class__")=some true)
      (hm:PySem.W.mroIn K C (.type "object")=some true):TyOf K H (.ref a) (.ref C)
theorem isinst_ok {x:V} {u t:Value} (I:Inv X pins σ H s) (rx:RelV x u) (ty:TyOf X.K H x t) (e:PySem.W.kitOne X.K t c=some b) (h:∀ tk,Q (.bool b) { s with toks:=tk }) :
    wpAny (model X.prog X.w) A (call (.builtin "isinstance") [u,c]) Q E s:=by
  cases ty with
  | non=>cases (show u=Value.none from rx); exact PySem.W.kia_one PySem.W.kitx_none I.kIn True.intro e (fun z=>nomatch z) h
  | bl y=>cases (show u=Value.bool y from rx); exact PySem.W.kia_one PySem.W.kitx_bool I.kIn True.intro e (fun z=>nomatch z) h
  | int i=>obtain ⟨t,q⟩:=(show ∃ t,u=Value.int i t from rx); cases q; exact PySem.W.kia_one PySem.W.kitx_int I.kIn True.intro e (fun z=>nomatch z) h
  | str y=>obtain ⟨t,q⟩:=(show ∃ t,u=Value.str y t from rx); cases q; exact PySem.W.kia_one PySem.W.kitx_str I.kIn True.intro e (fun z=>nomatch z) h
  | flt y=>obtain ⟨t,q⟩:=(show ∃ t,u=Value.float y t from rx); cases q; exact PySem.W.kia_one PySem.W.kitx_float I.kIn True.intro e (fun z=>nomatch z) h
  | @lst a xs ea=>
    cases (show u=Value.ref a from rx)
    obtain ⟨_,_,n,_,h1⟩:=(show ObjOk X.prog X.w H s.heap a (.lst xs) from I.hok a _ ea)
    exact PySem.W.kia_one PySem.W.kitx_list I.kIn ⟨_,h1,rfl⟩ e (fun z=>nomatch z) h
  | @frz a ob xs ea=>
    cases (show u=Value.ref a from rx)
    obtain ⟨_,_,_,n,_,h1⟩:=(show ObjOk X.prog X.w H s.heap a (.frz ob (.lst xs)) from I.hok a _ ea)
    exact PySem.W.kia_one PySem.W.kitx_list I.kIn ⟨_,h1,rfl⟩ e (fun z=>nomatch z) h
  | @tup a xs ea=>
    cases (show u=Value.ref a from rx)
    obtain ⟨_,_,_,p⟩:=(show ObjOk X.prog X.w H s.heap a (.tup xs) from I.hok a _ ea)
    obtain ⟨o,h1,h2,_⟩:=p
    exact PySem.W.kia_one PySem.W.kitx_tuple I.kIn ⟨o,h1,h2⟩ e (fun z=>nomatch z) h
  | @dK a kvs ea=>
    cases (show u=Value.ref a from rx)
    obtain ⟨_,_,vs,_,p⟩:=(show ObjOk X.prog X.w H s.heap a (.dK kvs) from I.hok a _ ea)
    obtain ⟨o,es,ep,h1,h2,_⟩:=p
    exact PySem.W.kia_one PySem.W.kitx_dict I.kIn ⟨o,h1,h2.1⟩ e (fun z=>nomatch z) h
  | @dT a kvs ea=>
    cases (show u=Value.ref a from rx)
    obtain ⟨_,_,xs,_,o,es,ep,h1,h2,_⟩:=(show ObjOk X.prog X.w H s.heap a (.dT kvs) from I.hok a _ ea)
    exact PySem.W.kia_one PySem.W.kitx_dict I.kIn ⟨o,h1,h2.1⟩ e (fun z=>nomatch z) h
  | @ins a C dx fs ea cl ha hn htk hm=>
    cases (show u=Value.ref a from rx)
    obtain ⟨mA,O,_⟩:=ins_get I.hok ea
    obtain ⟨od,J,_⟩:=O.look
    exact PySem.W.kia_one (PySem.W.kitx_own (cl.get _) cl.hd ha hn htk hm) I.kIn J e (fun z=>nomatch z) h
end
end L2
namespace L2
open PySem PySem.Spec PyProof.Rows
structure Room (k:Nat) (A:Around):Prop where
  hd:A.handled=none
  dp:A.depth + 3 * k + 5 < recursionLimit
  un:A.units + 16 * k + 200 < cLine
theorem Room.mono {j k:Nat} {A:Around} (r:Room k A) (h:j<=k):Room j A:=⟨r.hd,by have:=r.dp; omega,by have:=r.un; omega⟩
theorem Room.deeper {k:Nat} {A:Around} (r:Room (k + 1) A) (env:Env):Room k (A.deeper env):=
  ⟨r.hd,by have:=r.dp; show A.depth + 1 + 3 * k + 5 < _; omega,by have:=r.un; show A.units + 3 + 16 * k + 200 < _; omega⟩
theorem Room.depth {k:Nat} {A:Around} (r:Room k A):A.depth < recursionLimit:=by have:=r.dp; omega
theorem Room.units {k:Nat} {A:Around} (r:Room k A):A.units + 64 < cLine:=by have:=r.un; omega
def tNil:TA:=fun _ H Q=>Q [] H
def tCons (ta:TE) (tr:TA):TA:=fun σ H Q=>ta σ H fun x H1=>tr σ H1 fun xs H2=>Q (x :: xs) H2
section
variable {X:Cx} {e:Expr} {es:List Expr} {te:TE} {t:TA} {pos:Pos}
theorem pa_nil:PA X [] tNil:=fun _ _ _ _ H Q I h=>Calls.spliced_nil ⟨[],H,I,.nil,h⟩
theorem pa_cons (ha:PE X e te) (hr:PA X es t) (hs:starEach (e :: es) X.env=(false,eval e X.env) :: starEach es X.env:=by rfl):PA X (e :: es) (tCons te t):=by
  intro pos pins s σ H Q I h
  rw [hs]
  show wpAny _ _ (spliced ((false,eval e X.env) :: backTo pos (starEach es X.env))) _ _ s
  refine Calls.spliced_cons (thn (ha pins s σ H _ I h) fun u s1 ⟨x,H1,I1,r1,q1⟩=>?_)
  exact thn (hr pos pins s1 σ H1 _ I1 q1) fun us s2 ⟨xs,H2,I2,r2,q2⟩=>⟨x :: xs,H2,I2,.cons r1 r2,q2⟩
def tTup (t:TA):TE:=fun σ H Q=>t σ H fun xs H1=>xs.length<=sizeLine/\∀ p,H1 p=none->Q (.ref p) (upd H1 p (.tup xs))
def tLst (t:TA):TE:=fun σ H Q=>t σ H fun xs H1=>xs.length<=sizeLine/\∀ p,H1 p=none->Q (.ref p) (upd H1 p (.lst xs))
theorem pe_tup {x1} (h:PA X es t):PE X (.Tuple es x1 pos) (tTup t):=by
  intro pins s σ H Q I hq
  refine wpAny_Tuple_spliced (thn (h pos pins s σ H _ I hq) fun us s1 ⟨xs,H1,I1,r,z,q⟩=>⟨by rw [<- r.length]; exact z,?_⟩)
  have hf:H1 s1.heap.objs.size=none:=I1.hok.fresh (O4 _)
  refine ⟨.ref s1.heap.objs.size,upd H1 s1.heap.objs.size (.tup xs),I1.laid (t':=s1.toks) (fun b u e=>O0 _ e) (O4 _) ?_,rfl,q _ hf⟩
  exact ⟨z,us,r,⟨_,O7 _ rfl,rfl,_,rfl⟩⟩
theorem pe_lst (h:PA X es t):PE X (.List es pos) (tLst t):=by
  intro pins s σ H Q I hq
  refine wpAny_List_spliced (thn (h pos pins s σ H _ I hq) fun us s1 ⟨xs,H1,I1,r,z,q⟩=>⟨by rw [<- r.length]; exact z,?_⟩)
  have hf:H1 s1.heap.objs.size=none:=I1.hok.fresh (O4 _)
  refine ⟨.ref s1.heap.objs.size,upd H1 s1.heap.objs.size (.lst xs),I1.laid (t':=s1.toks) (fun b u e=>O0 _ e) (O4 _) ?_,rfl,q _ hf⟩
  exact ⟨z,us,0,r,O7 _ rfl⟩
end
abbrev Sp:=List V->Hp->VK->XK->Prop
abbrev CXT:=List Env->Hp->Shared->XK->Value->Shared->Prop
structure Env0 (P:Program) (w:World) (K:PySem.W.Frag) (mg:Str->Option Value) (base:Heap) (A:Around) (outer:List Env) (s:Shared) (H:Hp):Prop where
  frames:A.frames=some outer
  mod:Mod K mg base
  bs:∀ b o,base.get? b=some o->s.heap.get? b=some o/\H b=none
  bsz:base.objs.size<=s.heap.objs.size
  funs:s.heap.FunFrames base outer
  frf:∀ b∈frs outer,H b=none
  hok:HOk P w H s.heap
  bare:AllBare s.gens
def CE (outer:List Env) (P:Program) (w:World) (H:Hp) (s:Shared) (Q:VK) (u:Value) (s':Shared):Prop:=
  ∃ v H',s'.os=s.os/\AllBare s'.gens/\Un (frs outer) [] H H' s.heap s'.heap/\HOk P w H' s'.heap/\RelV v u/\Q v H'
def CR (CX:CXT) (outer:List Env) (P:Program) (w:World) (H:Hp) (s:Shared) (Q:VK) (E:XK) (r:Result) (s':Shared):Prop:=
  match r with
  | .ok (.ret u)=>CE outer P w H s Q u s'
  | .ok _=>False
  | .error e=>CX outer H s E e s'
structure FnOk (P:Program) (w:World) (K:PySem.W.Frag) (mg:Str->Option Value) (base:Heap) (CX:CXT) (k:Nat) (f:Addr) (fd:FuncData) (ps:List Str) (sp:Sp):Prop where
  len:∀ vs H Q E,sp vs H Q E->vs.length=ps.length
  run:∀ (A:Around) (outer:List Env) (s:Shared) (H:Hp) (args:Args) (us:List Value) (vs:List V) (Q:VK) (E:XK),Room k A->Env0 P w K mg base A outer s H->BindsTo s fd args (ps.zip us)->Vals vs us->sp vs H Q E ->
    codeAny (model P w) A (.call (.ref f) args) (CR CX outer P w H s Q E) s
theorem FnOk.imp {P:Program} {w:World} {K:PySem.W.Frag} {mg:Str->Option Value} {base:Heap} {CX:CXT} {k:Nat} {f:Addr} {fd:FuncData} {ps:List Str} {sp sp':Sp} (F:FnOk P w K mg base CX k f fd ps sp)
    (h:∀ vs H Q E,sp' vs H Q E->sp vs H Q E):FnOk P w K mg base CX k f fd ps sp':=
  ⟨fun vs H Q E q=>F.len vs H Q E (h _ _ _ _ q),fun A outer s H args us vs Q E hr he hb hv hs=>F.run A outer s H args us vs Q E hr he hb hv (h _ _ _ _ hs)⟩
section
variable {X:Cx} {pins:List (Addr × Obj)} {σ:St} {H:Hp} {s s':Shared}
theorem Inv.env0 (I:Inv X pins σ H s):Env0 X.prog X.w X.K X.mg X.base X.A X.stack s H:=
  ⟨I.ok.frames,I.ok.mod,I.bs,D3 I.ok.bsz I.sz,I.stack,I.stkFree,I.hok,I.bare⟩
theorem Inv.after {Q:VK} {u:Value} (I:Inv X pins σ H s) (h:CE X.stack X.prog X.w H s Q u s'):EP X pins σ Q u s':=by
  obtain ⟨v,H',os,bare,un,hok,r,q⟩:=h
  obtain ⟨hh,g,d,t,os'⟩:=s'
  obtain rfl:os'=s.os:=os
  exact ⟨v,H',I.call (h':=hh) (g':=g) (d':=d) (t':=t) (ch:=[]) un hok bare (fun b z=>absurd z (by simp)),r,q⟩
end
def tCall (sp:Sp) (dvs:List V) (E:XK) (t:TA):TE:=fun σ H Q=>t σ H fun vs H1=>sp (vs ++ dvs) H1 Q E
def Binds (K:PySem.W.Frag) (fd:FuncData) (ps:List Str) (ds:List Value):Prop:=
  ∀ (s:Shared) (us:List Value),K.In s.heap->(us ++ ds).length=ps.length->BindsTo s fd ⟨us,[]⟩ (ps.zip (us ++ ds))
theorem Binds.all {K:PySem.W.Frag} {fd:FuncData} {ps:List Str} (h:∀ us:List Value,us.length=ps.length->bindArgs fd ⟨us,[]⟩=pure (ps.zip us)):Binds K fd ps []:=fun s us _ hl=>by
  rw [List.append_nil] at hl ⊢
  exact .of_eq (h us hl)
def Passes (CX:CXT) (X:Cx) (E:XK):Prop:=∀ (pins:List (Addr × Obj)) (σ:St) (H:Hp) (s:Shared) (e:Value) (s':Shared),Inv X pins σ H s->CX X.stack H s E e s'->X.xe e s'
section
variable {X:Cx} {CX:CXT} {k:Nat} {f C:Addr} {fd:FuncData} {ps:List Str} {sp:Sp} {dvs:List V} {ds:List Value} {E:XK} {x m:Str} {p pos apos:Pos} {e o:Expr} {es:List Expr} {ta:TE} {t:TA}
theorem run_fn {pins:List (Addr × Obj)} {σ:St} {H:Hp} {s:Shared} {Q:VK} {us:List Value} {vs:List V} (F:FnOk X.prog X.w X.K X.mg X.base CX k f fd ps sp) (hr:Room k X.A) (hb:Binds X.K fd ps ds) (hd:Vals dvs ds) (hx:Passes CX X E)
    (I:Inv X pins σ H s) (r:Vals vs us) (h:sp (vs ++ dvs) H Q E):wpAny (model X.prog X.w) X.A (call (.ref f) us) (EP X pins σ Q) X.xe s:=by
  have r2:Vals (vs ++ dvs) (us ++ ds):=r.append hd
  have hl:(us ++ ds).length=ps.length:=by rw [<- r2.length]; exact F.len _ _ _ _ h
  refine wpAny_call (codeAny_mono (F.run X.A X.stack s H ⟨us,[]⟩ (us ++ ds) (vs ++ dvs) Q E hr I.env0 (hb s us I.kIn hl) r2 h) fun r s' hq=>?_)
  cases r with
  | error e=>exact hx pins σ H s e s' I hq
  | ok fl=>
    cases fl with
    | ret u=>exact I.after hq
    | next=>exact False.elim hq
    | brk=>exact False.elim hq
    | cont=>exact False.elim hq
theorem pe_call (F:FnOk X.prog X.w X.K X.mg X.base CX k f fd ps sp) (hr:Room k X.A) (hg:Gl X x) (hm:X.mg x=some (.ref f)) (hk:PySem.W.keepIn X.K (.ref f)=true) (hb:Binds X.K fd ps ds) (hd:Vals dvs ds) (hx:Passes CX X E)
    (ha:PA X (e :: es) t) (hdb:(x == ("__debug__" : Str))=false:=by decide) (he:starEach (e :: es) X.env=(false,eval e X.env) :: starEach es X.env:=by rfl) (hpl:(backTo pos (starEach es X.env)).any (·.1)=false:=by rfl) :
    PE X (.Call (.Name x p) (e :: es) [] pos) (tCall sp dvs E t):=by
  intro pins s σ H Q I h
  refine wpAny_Call_Name_kw (ld_glob I hg hm ?_ hdb)
  refine PySem.W.callWith_K (h₀:=X.base) I.ok.mod.kin hk (thn (ha pos pins s σ H _ I h) fun us s1 ⟨vs,H1,I1,r,q⟩=>⟨I1.kIn,?_⟩) he hpl
  exact run_fn F hr hb hd hx I1 r q
end
section
variable {X:Cx} {CX:CXT} {k:Nat} {f C:Addr} {fd:FuncData} {ps ks:List Str} {sp:Sp} {E:XK} {x m:Str} {p pos apos kpos:Pos} {e o:Expr} {es:List Expr} {kws:List Keyword} {te ta:TE} {t tk:TA} {nm:Option Str}
variable {g:List Value->List Value->List Value} {gV:List V->List V->List V}
end
structure FnScope (N P:List Str) (sc:Scope):Prop where
  kind:sc.kind=.function
  co:sc.isCoroutine=false
  gen:sc.isGenerator=false
  nd:N.Nodup
  pre:N.take P.length=P
  par:∀ x∈P,sc.names.lookup x=some .local\/sc.names.lookup x=some .cell
  nofree:∀ y∈sc.names,y.2≠.free
theorem bindL_out {kindOf:Str->Option NameKind} {x:Str}:∀ {binds:List (Str × Value)} {m:Str->Option Value},(∀ v,(x,v)∉binds)->bindL kindOf binds m x=m x
  | [],_,_=>rfl
  | (n,v) :: r,m,h=>by
    unfold bindL
    rw [bindL_out fun w hw=>h w (O8 _ hw)]
    split
    · have:x≠n:=by rintro rfl; exact h v E4
      simp [this]
    · rfl
theorem bindC_out {kindOf:Str->Option NameKind} {x:Str}:∀ {binds:List (Str × Value)} {m:Str->Option Value},(∀ v,(x,v)∉binds)->bindC kindOf binds m x=m x
  | [],_,_=>rfl
  | (n,v) :: r,m,h=>by
    unfold bindC
    rw [bindC_out fun w hw=>h w (O8 _ hw)]
    split
    · rfl
    · have:x≠n:=by rintro rfl; exact h v E4
      simp [this]
theorem bindL_get {kindOf:Str->Option NameKind} {x:Str} {v:Value}:∀ {P:List Str} {vs:List Value} {i:Nat} {m:Str->Option Value},P.Nodup->P[i]?=some x->vs[i]?=some v->kindOf x=some .local ->
    bindL kindOf (P.zip vs) m x=some v
  | [],_,_,_,_,h,_,_=>by simp at h
  | _ :: _,[],_,_,_,_,h,_=>by simp at h
  | p :: P,w :: vs,0,m,nd,h1,h2,hk=>by
    simp at h1 h2; subst h1; subst h2
    show bindL kindOf ((p,w) :: P.zip vs) m p=_
    unfold bindL
    rw [bindL_out fun v hv=>(List.nodup_cons.mp nd).1 (List.of_mem_zip hv).1,if_pos hk]
    simp
  | p :: P,w :: vs,i + 1,m,nd,h1,h2,hk=>by
    show bindL kindOf ((p,w) :: P.zip vs) m x=_
    unfold bindL
    exact bindL_get (i:=i) (List.nodup_cons.mp nd).2 (by simpa using h1) (by simpa using h2) hk
theorem bindC_get {kindOf:Str->Option NameKind} {x:Str} {v:Value}:∀ {P:List Str} {vs:List Value} {i:Nat} {m:Str->Option Value},P.Nodup->P[i]?=some x->vs[i]?=some v->kindOf x≠some .local ->
    bindC kindOf (P.zip vs) m x=some v
  | [],_,_,_,_,h,_,_=>by simp at h
  | _ :: _,[],_,_,_,_,h,_=>by simp at h
  | p :: P,w :: vs,0,m,nd,h1,h2,hk=>by
    simp at h1 h2; subst h1; subst h2
    show bindC kindOf ((p,w) :: P.zip vs) m p=_
    unfold bindC
    rw [bindC_out fun v hv=>(List.nodup_cons.mp nd).1 (List.of_mem_zip hv).1,if_neg hk]
    simp
  | p :: P,w :: vs,i + 1,m,nd,h1,h2,hk=>by
    show bindC kindOf ((p,w) :: P.zip vs) m x=_
    unfold bindC
    exact bindC_get (i:=i) (List.nodup_cons.mp nd).2 (by simpa using h1) (by simpa using h2) hk
def start (N:List Str) (vs:List V):St:=vs.map some ++ List.replicate (N.length - vs.length) none
def cxOf (CX:CXT) (P:Program) (w:World) (K:PySem.W.Frag) (mg:Str->Option Value) (base:Heap) (N:List Str) (qual:Str) (scope:Scope) (f:Addr) (cd:Value) (A:Around) (outer:List Env) (s:Shared) (H:Hp) (E:XK):Cx where
  prog:=P
  w:=w
  K:=K
  mg:=mg
  base:=base
  A:=A.deeper (envOfC qual scope s.heap.objs.size f cd)
  N:=N
  s₀:=s
  H₀:=H
  env:=envOfC qual scope s.heap.objs.size f cd
  outer:=outer
  stack:=envOfC qual scope s.heap.objs.size f cd :: outer
  ex:=[]
  calm:=true
  fn:=fun _=>true
  pn:=[]
  xe:=fun e s'=>wpAny (model P w) (A.deeper (envOfC qual scope s.heap.objs.size f cd)) (leaving (envOfC qual scope s.heap.objs.size f cd) e) (fun _ s''=>CX outer H s E e s'') (fun e' s''=>CX outer H s E e' s'') s'
theorem cell_has {sc:Scope} {n:Nat} {x:Str} (h:sc.names.lookup x=some .cell):∃ c,(cellsFrom n sc.names []).lookup x=some c:=by
  have q:=PySem.W.cellsFrom_some sc.names n [] (.inl h)
  exact Option.isSome_iff_exists.mp q
theorem inv_start {CX:CXT} {P:Program} {w:World} {K:PySem.W.Frag} {mg:Str->Option Value} {base:Heap} {N ps:List Str} {qual:Str} {scope:Scope} {f:Addr} {cd:Value} {A:Around} {outer:List Env} {s s1:Shared} {H:Hp} {E:XK} {us:List Value} {vs:List V}
    (S:FnScope N ps scope) (hd:A.handled=none) (e0:Env0 P w K mg base A outer s H) (hl:vs.length=ps.length) (r:Vals vs us)
    (x:InCallC s s.heap.objs.size (bindL (envOfC qual scope s.heap.objs.size f cd).kindOf (ps.zip us) fun _=>none) (cellsFrom (s.heap.objs.size + 1) scope.names []) (bindC (envOfC qual scope s.heap.objs.size f cd).kindOf (ps.zip us) fun _=>none) s1) :
    Inv (cxOf CX P w K mg base N qual scope f cd A outer s H E) [] (start N vs) H s1:=by
  have hpl:ps.length<=N.length:=by have:=congrArg List.length S.pre; rw [List.length_take] at this; omega
  obtain ⟨h1,tk,rfl,hk⟩:=x.done
  have noA:∀ b:Addr,b∉(cxOf CX P w K mg base N qual scope f cd A outer s H E).ex:=fun b z=>absurd (show b∈([]:List Addr) from z) (by simp)
  refine ⟨⟨e0.mod,S.kind,rfl,rfl,O4 _,fun y z c h1 h2=>?_,fun y hy=>?_,fun y c _ h=>?_,fun _=>hd,Around.frames_deeper e0.frames,.inr ⟨rfl,rfl⟩,fun b z=>absurd z (noA b),e0.bs,e0.bsz,fun b _ _=>noA b,fun b z=>absurd z (noA b),e0.funs,e0.frf⟩,
    rfl,e0.bare,Un.kept hk,⟨_,x.toInCall.ns,fun i y v h1 h2 h3=>?_⟩,fun y c h=>⟨_,x.cell y c h⟩,e0.hok.fresh (O4 _),fun y c h=>?_,fun p hp=>absurd (show p∈([]:List (Addr × Obj)) from hp) (by simp),e0.hok.kept hk,?_⟩
  · exact name_of_addr x.apart (PySem.mem_of_lookup h1) (PySem.mem_of_lookup h2)
  · have hy:scope.names.lookup y=some .cell\/scope.names.lookup y=some .free:=hy
    rcases hy with hy | hy
    · exact cell_has hy
    · exact absurd rfl (S.nofree _ (PySem.mem_of_lookup hy))
  · exact L5 (x.above y c (PySem.mem_of_lookup h))
  · have hi:i < vs.length:=by
      unfold start at h2
      by_cases hi:i < vs.length
      · exact hi
      · rw [E2 (by simpa using hi)] at h2
        rw [List.getElem?_replicate] at h2
        split at h2 <;> cases h2
    have ha:vs[i]?=some v:=by
      unfold start at h2
      rw [D2 (by simpa using hi),E1] at h2
      cases e:vs[i]? with
      | none=>rw [e] at h2; cases h2
      | some a=>rw [e] at h2; cases h2; rfl
    obtain ⟨u,hu,rv⟩:=r.get ha
    have hp:ps[i]?=some y:=by
      rw [<- S.pre,List.getElem?_take_of_lt (by omega)]; exact h1
    have ndP:ps.Nodup:=by rw [<- S.pre]; exact S.nd.sublist (List.take_sublist _ _)
    refine ⟨u,rv,?_⟩
    rcases S.par y (F9 hp) with k | k
    · exact .inl ⟨k,bindL_get ndP hp hu k⟩
    · obtain ⟨c,e⟩:=cell_has (n:=s.heap.objs.size + 1) k
      refine .inr ⟨.inl k,c,e,?_⟩
      have q:=x.cell y c e
      rw [bindC_get ndP hp hu (by show scope.names.lookup y≠_; rw [k]; decide)] at q
      exact q
  · exact e0.hok.fresh (L5 (x.above y c (PySem.mem_of_lookup h)))
  · unfold start
    show _=N.length
    rw [E5,O2,List.length_replicate]
    omega
theorem fn_of {CX:CXT} {P:Program} {w:World} {K:PySem.W.Frag} {mg:Str->Option Value} {base:Heap} {k:Nat} {f:Addr} {name qual:Str} {params:Arguments} {body:List Stmt} {scope:Scope} {dV kV doc pm cdv ct oc:Value} {an od:Option Addr}
    {osl:Array (Option Value)} {N ps:List Str} {sp:Sp} (lk:K.lookup f=some ⟨oc,od,.func (PySem.W.fnOf name qual params body scope dV kV doc pm an cdv ct),osl⟩) (hcd:PySem.W.codeIn K cdv qual=true) (S:FnScope N ps scope)
    (len:∀ vs H Q E,sp vs H Q E->vs.length=ps.length)
    (hbody:∀ (A:Around) (outer:List Env) (s:Shared) (H:Hp) (vs:List V) (Q:VK) (E:XK),Room k (A.deeper (envOfC qual scope s.heap.objs.size f cdv))->sp vs H Q E ->
      ∃ t,PSs (cxOf CX P w K mg base N qual scope f cdv A outer s H E) body t/\t { nx:=fun _ H'=>Q .non H',rt:=Q } (start N vs) H) :
    FnOk P w K mg base CX (k + 1) f (PySem.W.fnOf name qual params body scope dV kV doc pm an cdv ct) ps sp:=by
  refine ⟨len,fun A outer s H args us vs Q E hr e0 hb r hsp=>?_⟩
  have hl:=len _ _ _ _ hsp
  have KX:K.In s.heap:=e0.mod.kin.keeps fun b o e=>(e0.bs b o e).1
  have lim:s.heap.NoLimit:=e0.mod.nolimit.keeps fun b o e=>(e0.bs b o e).1
  have hkind:∀ y∈ps.zip us,scope.names.lookup y.1=some .local\/(scope.names.lookup y.1=some .cell/\((cellsFrom (s.heap.objs.size + 1) scope.names []).lookup y.1).isSome=true):=fun ⟨n,v⟩ hy=>by
    rcases S.par n (List.of_mem_zip hy).1 with q | q
    · exact .inl q
    · exact .inr ⟨q,PySem.W.cellsFrom_some _ _ _ (.inl q)⟩
  refine codeAny_call_function hr.depth (KX _ _ lk) rfl S.co S.gen rfl (PySem.W.codeRec_of KX hcd) (hb _ _ _ _ ?_)
  refine wpAny_newFunctionEnv_cells S.kind hkind fun env he s1 x=>?_
  subst he
  refine ⟨lim.keeps x.toInCall.keep,codeAny_func ?_⟩
  obtain ⟨t,ht,hq⟩:=hbody A outer s H vs Q E (hr.deeper _) hsp
  have I:Inv (cxOf CX P w K mg base N qual scope f cdv A outer s H E) [] (start N vs) H s1:=inv_start S hr.hd e0 hl r x
  refine wpAny_mono (ht [] s1 (start N vs) H _ I hq) (fun fl s' hs=>?_) fun e s' hs=>hs
  have fin:∀ {σ':St} {H':Hp} {v:V} {u:Value},Inv (cxOf CX P w K mg base N qual scope f cdv A outer s H E) [] σ' H' s'->RelV v u->Q v H'->CE outer P w H s Q u s':=
    fun {σ' H' v u} J rv q=>⟨v,H',J.os,J.bare,J.base,J.hok,rv,q⟩
  cases fl with
  | ret u=>
    obtain ⟨v,σ',H',J,rv,q⟩:=hs
    exact fin J rv q
  | next=>
    obtain ⟨σ',H',J,q⟩:=hs
    exact fin (v:=V.non) (u:=Value.none) J rfl q
  | brk=>
    obtain ⟨_,_,_,q⟩:=hs
    exact False.elim q
  | cont=>
    obtain ⟨_,_,_,q⟩:=hs
    exact False.elim q
end L2
namespace L2
open PySem PySem.Spec PyProof.Rows
section
variable {X:Cx} {x:Str} {p pos:Pos} {e:Expr} {es:List Expr} {t:TA} {id T:String} {r:List V->Hp->VK->Prop}
def tCB (r:List V->Hp->VK->Prop) (t:TA):TE:=fun σ H Q=>t σ H fun vs H1=>r vs H1 Q
theorem pe_callB (hc:CallR X (.builtin id) r) (hg:Gl X x) (hm:X.mg x=none) (hv:bootBuiltins x=some (.builtin id)) (ha:PA X (e :: es) t) (hn:x≠"__name__" := by decide) (hdb:(x == ("__debug__" : Str))=false:=by decide)
    (he:starEach (e :: es) X.env=(false,eval e X.env) :: starEach es X.env:=by rfl) (hpl:(backTo pos (starEach es X.env)).any (·.1)=false:=by rfl):PE X (.Call (.Name x p) (e :: es) [] pos) (tCB r t):=by
  intro pins s σ H Q I h
  refine wpAny_Call_Name_kw (ld_blt I hg hm hv ?_ hn hdb)
  exact PyProof.Rows.callWith_builtin1 (thn (ha pos pins s σ H _ I h) fun us s1 ⟨vs,H1,I1,r1,q1⟩=>hc pins s1 σ H1 vs us Q I1 r1 q1) he hpl
theorem pe_callTy (hc:CallR X (.type T) r) (hg:Gl X x) (hm:X.mg x=none) (hv:bootBuiltins x=some (.type T)) (ha:PA X (e :: es) t) (hn:x≠"__name__" := by decide) (hdb:(x == ("__debug__" : Str))=false:=by decide)
    (he:starEach (e :: es) X.env=(false,eval e X.env) :: starEach es X.env:=by rfl) (hpl:(backTo pos (starEach es X.env)).any (·.1)=false:=by rfl):PE X (.Call (.Name x p) (e :: es) [] pos) (tCB r t):=by
  intro pins s σ H Q I h
  refine wpAny_Call_Name_kw (ld_blt I hg hm hv ?_ hn hdb)
  exact PyProof.Rows.callWith_type1 (thn (ha pos pins s σ H _ I h) fun us s1 ⟨vs,H1,I1,r1,q1⟩=>hc pins s1 σ H1 vs us Q I1 r1 q1) he hpl
end
end L2
namespace HT
open PySem PyProof.Rows
def lexLt:List Int->List Int->Bool
  | [],[]=>false
  | [],_ :: _=>true
  | _ :: _,[]=>false
  | x :: xs,y :: ys=>if x=y then lexLt xs ys else decide (x < y)
theorem lexLt_cons (x y:Int) (xs ys:List Int):lexLt (x :: xs) (y :: ys)=if x=y then lexLt xs ys else decide (x < y):=rfl
theorem lexLt_nil_nil:lexLt [] []=false:=rfl
theorem lexLt_nil_cons (y:Int) (ys:List Int):lexLt [] (y :: ys)=true:=rfl
theorem lexLt_cons_nil (x:Int) (xs:List Int):lexLt (x :: xs) []=false:=rfl
theorem eqAt_int (A:Around) (s:Shared) (a:Int) (t:Tok) (c:Int) (u:Tok):∃ e,SeqAt.EqAt A s (.int a t) (.int c u) e/\(e=true <-> a=c):=
  ⟨(a == c),SeqAt.EqAt.int_int a t c u,by simp⟩
theorem rcLt_int (A:Around) (s:Shared) (a:Int) (t:Tok) (c:Int) (u:Tok) (prog:Program) (w:World) (E:Value->Shared->Prop) (Q:Value->Shared->Prop) (h:Q (.bool (decide (a < c))) s) :
    wpAny (model prog w) A (richCompare .Lt (.int a t) (.int c u)) Q E s:=
  (PyProof.Rows.lt_int h:wpAny (model prog w) A (compareOp .Lt (.int a t) (.int c u)) Q E s)
section
open PySem.SeqAt
open PySem.AutoSeq1 (wpAny_loadPart')
open PySem.MeetsSeq PySem.MeetsSeq2 PySem.MeetsSeq3
theorem tuple_lt_ints (l b:Addr) (items items2:Array Value) (n n2:Nat) (dd dd2:Option Addr) (sl sl2:Array (Option Value)) (ns ms:List Int) (hi:IntsAre items.toList ns) (hj:IntsAre items2.toList ms) :
    Meets (Builtin.«tuple.__lt__» ⟨[.ref l,.ref b],[]⟩)
      (fun _ R s=>s.heap.get? l=some { cls:=.type "tuple",dict:=dd,data:=.seq items n,slots:=sl }/\s.heap.get? b=some { cls:=.type "tuple",dict:=dd2,data:=.seq items2 n2,slots:=sl2 } /\
        R (.ok (.ret (.bool (lexLt ns ms)))) s):=
  .of_wp fun prog w A R s h=>by
    obtain ⟨hp,g,d,tk,os⟩:=s; obtain ⟨hl,hb,h⟩:=h
    have f2:=AutoSeq1.sub_tuple_tuple
    have z1:items.size=ns.length:=by rw [<- hi.length]; simp
    have z2:items2.size=ms.length:=by rw [<- hj.length]; simp
    wp_walk using wpAny_loadPart' hl,wpAny_loadPart' hb,wpAny_forIn_list _ (fun rest b s'=>b.1=none/\s'=⟨hp,g,d,tk,os⟩/\∃ (vs ws:List Value) (ns' ms':List Int),rest=vs.zip ws /\
      IntsAre vs ns'/\IntsAre ws ms'/\ns'.length + items2.size=ms'.length + items.size/\R (.ok (.ret (.bool (lexLt ns' ms')))) ⟨hp,g,d,tk,os⟩) _
    case turn=>
      rintro ⟨y,x⟩ rest b s' ⟨hb',rfl,vs,ws,ns',ms',hz,hvi,hwi,hlen,hR⟩
      cases hvi with
      | nil=>rw [List.zip_nil_left] at hz; cases hz
      | cons a t hvi'=>
        cases hwi with
        | nil=>rw [List.zip_nil_right] at hz; cases hz
        | cons c u hwi'=>
          rw [List.zip_cons_cons] at hz
          injection hz with hyx hrest
          injection hyx with hy hx
          subst hy hx
          rw [lexLt_cons] at hR
          simp only [E8] at hlen
          obtain ⟨e,he,hiff⟩:=eqAt_int A.in1 ⟨hp,g,d,tk,os⟩ a t c u
          refine wpAny_bind (he prog w _ _ ?_)
          cases e with
          | true=>
            rw [if_pos (hiff.mp rfl)] at hR
            wp_walk
            exact ⟨rfl,rfl,_,_,_,_,hrest,hvi',hwi',by omega,hR⟩
          | false=>
            rw [if_neg (fun q=>absurd (hiff.mpr q) D6)] at hR
            have hri:=rcLt_int A.in1 ⟨hp,g,d,tk,os⟩ a t c u prog w
            wp_walk using hri
            exact ⟨_,rfl,by simpa using hR⟩
    case fin=>
      rintro ⟨b1,b2⟩ s' ⟨hb',rfl,vs,ws,ns',ms',hz,hvi,hwi,hlen,hR⟩
      simp only at hb'
      subst hb'
      have hv:lexLt ns' ms'=decide (items.size < items2.size):=by
        cases hvi with
        | nil=>
          cases hwi with
          | nil=>
            simp only [List.length_nil] at hlen
            rw [lexLt_nil_nil]
            exact (decide_eq_false (by omega)).symm
          | cons c u hw=>
            simp only [List.length_nil,E8] at hlen
            rw [lexLt_nil_cons]
            exact (decide_eq_true (by omega)).symm
        | cons a t hv=>
          cases hwi with
          | nil=>
            simp only [List.length_nil,E8] at hlen
            rw [lexLt_cons_nil]
            exact (decide_eq_false (by omega)).symm
          | cons c u hw=>
            rw [List.zip_cons_cons] at hz
            cases hz
      rw [hv] at hR
      wp_walk
      exact ⟨_,rfl,by simpa [Builtin.Tuple.tupleCompareSizes] using hR⟩
    case h=>
      exact ⟨rfl,rfl,items.toList,items2.toList,ns,ms,rfl,hi,hj,by omega,h⟩
end
section
variable {prog:Program} {w:World} {A:Around} {E:Value->Shared->Prop} {s:Shared}
theorem lt_tupInts {l b:Addr} {items items2:Array Value} {ns ms:List Int} {Q:Value->Shared->Prop} (hl:IsTup s.heap l items) (hb:IsTup s.heap b items2) (hi:IntsAre items.toList ns) (hj:IntsAre items2.toList ms)
    (hu:A.units < cLine) (h:Q (.bool (lexLt ns ms)) s):wpAny (model prog w) A (compareOp .Lt (.ref l) (.ref b)) Q E s:=by
  obtain ⟨⟨cls,dd,data,sl⟩,ho,hc,n,hd⟩:=id hl
  obtain ⟨⟨cls2,dd2,data2,sl2⟩,ho2,hc2,n2,hd2⟩:=id hb
  simp only at hc hd hc2 hd2
  subst hc hd hc2 hd2
  exact richCompare_meets_room (op:=.Lt) ⟨_,ho,rfl⟩ ⟨_,ho2,rfl⟩ PySem.F.slot_tuple_lt PySem.F.entry_tuple_lt (PySem.F.args_tuple_lt_2 _ _) (tuple_lt_ints l b items items2 n n2 dd dd2 sl sl2 ns ms hi hj)
    ⟨ho,ho2,show Value.bool (lexLt ns ms)≠Value.notImplemented/\Q (.bool (lexLt ns ms)) s from ⟨(fun x=>nomatch x),h⟩⟩ hu
theorem cat_tup {t b:Addr} {vs ws:List Value} {Q:Value->Shared->Prop} (ht:IsTup s.heap t vs.toArray) (hb:IsTup s.heap b ws.toArray) (hv:vs≠[])
    (h1:ws=[]->Q (.ref t) s) (h2:ws≠[]->Q (.ref s.heap.objs.size) { s with heap:=s.heap.push { cls:=.type "tuple",data:=.seq (vs ++ ws).toArray } })
    (hsz:vs.length + ws.length<=sizeLine):wpAny (model prog w) A (binaryOp .Add (.ref t) (.ref b)) Q E s:=by
  obtain ⟨⟨cls,dd,data,sl⟩,ho,hc,n,hd⟩:=id ht
  obtain ⟨⟨cls2,dd2,data2,sl2⟩,ho2,hc2,n2,hd2⟩:=id hb
  simp only at hc hd hc2 hd2
  subst hc hd hc2 hd2
  have e:vs.toArray ++ ws.toArray=(vs ++ ws).toArray:=by simp
  by_cases hw:ws=[]
  · exact concat_meets ⟨_,ho,rfl⟩ ⟨_,ho2,rfl⟩ noFill_tuple_add seq_tuple_add PySem.F.slot_tuple_add PySem.F.entry_tuple_add (PySem.F.args_tuple_add_2 _ _)
      (tuple_addW1 t b vs.toArray ws.toArray n n2 dd dd2 sl sl2 (by simpa using hv) (by simp [hw])) ⟨ho,ho2,h1 hw⟩
  · refine concat_meets ⟨_,ho,rfl⟩ ⟨_,ho2,rfl⟩ noFill_tuple_add seq_tuple_add PySem.F.slot_tuple_add PySem.F.entry_tuple_add (PySem.F.args_tuple_add_2 _ _)
      (tuple_addW2 t b vs.toArray ws.toArray n n2 dd dd2 sl sl2 (by simpa using hv) (by simpa using hw) (by rw [O5,O5]; exact hsz)) ⟨ho,ho2,?_⟩
    rw [e]
    exact h2 hw
def sIx (n d:Nat):Option Int->Nat
  | none=>d
  | some v=>if v < 0 then (v + (n:Int)).toNat else min v.toNat n
theorem sIx_none (n d:Nat):sIx n d none=d:=rfl
theorem sIx_nat (n d k:Nat):sIx n d (some (k:Int))=min k n:=by
  show (if (k:Int) < 0 then ((k:Int) + (n:Int)).toNat else min (k:Int).toNat n)=min k n
  rw [if_neg (by omega),Int.toNat_natCast]
theorem sIx_le (n d:Nat) (hd:d<=n) (o:Option Int):sIx n d o<=n:=by
  cases o with
  | none=>exact hd
  | some v=>
    show (if v < 0 then (v + (n:Int)).toNat else min v.toNat n)<=n
    by_cases hv:v < 0
    · rw [if_pos hv]; omega
    · rw [if_neg hv]; exact Nat.min_le_right _ _
theorem clip_eq (v:Int) (n d:Nat):(if v < 0 then max (v + (n:Int)) 0 else min v (n:Int))=((sIx n d (some v):Nat):Int):=by
  show (if v < 0 then max (v + (n:Int)) 0 else min v (n:Int))=(((if v < 0 then (v + (n:Int)).toNat else min v.toNat n):Nat):Int)
  by_cases hv:v < 0
  · simp only [if_pos hv]; omega
  · simp only [if_neg hv]; omega
theorem adjust_gen (lo hi:Option Int) (n:Nat):Builtin.Slice.sliceAdjust lo hi 1 (n:Int)=(((sIx n 0 lo:Nat):Int),((sIx n n hi:Nat):Int)):=by
  have h1:¬ ((1:Int) < 0):=by omega
  unfold Builtin.Slice.sliceAdjust
  simp only [h1,if_false]
  refine Prod.ext ?_ ?_
  · cases lo with
    | none=>rfl
    | some v=>exact clip_eq v n 0
  · cases hi with
    | none=>rfl
    | some v=>exact clip_eq v n n
theorem places_gen (i j:Nat):Builtin.Slice.slicePlaces (i:Int) (j:Int) 1=j - i:=by
  unfold Builtin.Slice.slicePlaces
  have h1:(1:Int) > 0:=by omega
  simp only [h1,if_true,Int.ediv_one]
  split <;> omega
theorem slicePart_ {v:Value} {o:Option Int} {Q:Option Int->Shared->Prop} (p:IsPart v o) (h:Q o s):wpAny (model prog w) A (Builtin.Slice.slicePartIndex v) Q E s:=by
  cases p with
  | none=>exact slicePart_none h
  | int i t=>exact slicePart_int h
theorem sliceApplied_gen {sl:Addr} {vl vu:Value} {lo hi:Option Int} {n:Nat} {Q:Int × Int × Nat->Shared->Prop} (hs:s.heap.IsSliceOf sl vl vu .none) (pl:IsPart vl lo) (pu:IsPart vu hi)
    (h:Q (((sIx n 0 lo:Nat):Int),1,sIx n n hi - sIx n 0 lo) s):wpAny (model prog w) A (Builtin.Slice.sliceApplied (.ref sl) (pure (n:Int))) Q E s:=by
  obtain ⟨os,hos,hcs,hds⟩:=id hs
  unfold Builtin.Slice.sliceApplied Builtin.Slice.sliceFields
  refine wpAny_bind (wpAny_bind (wpAny_field hos hds (x:=vl) rfl (wpAny_bind (wpAny_field hos hds (x:=vu) rfl (wpAny_bind (wpAny_field hos hds (x:=.none) rfl (wpAny_pure ?_)))))))
  refine wpAny_bind (slicePart_none ?_)
  show wpAny _ _ (if ((1:Int) == 0)=true then _ else _) _ _ s
  rw [if_neg (by decide)]
  refine wpAny_bind (slicePart_ pl (wpAny_bind (slicePart_ pu (wpAny_bind (wpAny_pure ?_)))))
  show wpAny _ _ (match Builtin.Slice.sliceAdjust lo hi 1 (n:Int) with | (lo,hi)=>pure (lo,(1:Int),Builtin.Slice.slicePlaces lo hi 1)) _ _ s
  rw [adjust_gen lo hi n]
  show wpAny _ _ (pure (((sIx n 0 lo:Nat):Int),(1:Int),Builtin.Slice.slicePlaces ((sIx n 0 lo:Nat):Int) ((sIx n n hi:Nat):Int) 1)) _ _ s
  rw [places_gen]
  exact wpAny_pure h
theorem pick_gen (xs:Array Value) (i k:Nat):((List.range k).filterMap fun (m:Nat)=>xs[((i:Int) + (m:Int) * 1).toNat]?).toArray=((xs.toList.drop i).take k).toArray:=by
  have e:(fun (m:Nat)=>xs[((i:Int) + (m:Int) * 1).toNat]?)=fun m=>xs[i + m]?:=by
    funext m
    have:((i:Int) + (m:Int) * 1).toNat=i + m:=by omega
    rw [this]
  rw [e]
  have:=pick_run xs i k
  rw [List.filterMap_map] at this
  have e2:((fun x=>xs[x]?) ∘ fun x=>i + x)=fun m=>xs[i + m]?:=rfl
  rw [e2] at this
  rw [this]
theorem getItem_tuple_cut {t sl:Addr} {items:Array Value} {vl vu:Value} {lo hi:Option Int} {Q:Value->Shared->Prop} (ht:IsTup s.heap t items) (hs:s.heap.IsSliceOf sl vl vu .none) (pl:IsPart vl lo) (pu:IsPart vu hi)
    (hw:¬ (sIx items.size 0 lo=0/\sIx items.size items.size hi=items.size))
    (h:Q (.ref s.heap.objs.size) { s with heap:=s.heap.push { cls:=.type "tuple",data:=.seq ((items.toList.drop (sIx items.size 0 lo)).take (sIx items.size items.size hi - sIx items.size 0 lo)).toArray } })
    (hsz:items.size<=sizeLine):wpAny (model prog w) A (getItem (.ref t) (.ref sl)) Q E s:=by
  have htake:sizeOk (.seq ((items.toList.drop (sIx items.size 0 lo)).take (sIx items.size items.size hi - sIx items.size 0 lo)).toArray):=by
    show ((items.toList.drop (sIx items.size 0 lo)).take (sIx items.size items.size hi - sIx items.size 0 lo)).toArray.size<=sizeLine
    rw [O5,List.length_take,List.length_drop,Array.length_toList]
    omega
  have hj:sIx items.size items.size hi<=items.size:=sIx_le _ _ (O4 _) hi
  obtain ⟨os,hos,hcs,hds⟩:=id hs
  have hTs:s.TypeIs (.ref sl) "slice" := ⟨os,hos,hcs⟩
  unfold getItem
  try with_reducible refine wpAny_holding ?_
  first | refine wpAny_bind (wpAny_pure ?_) | skip
  refine wpAny_bind (wpAny_sequenceKey ht.typeIs (by decide) ?_)
  refine wpAny_bind (wpAny_callSpecial?_slot (name:=Str.ofString "__getitem__") ht.typeIs PyProof.Rows.slot_tuple_getitem
    (wpAny_call_entry PyProof.Rows.slot_tuple_getitem ht.typeIs entry_tuple_getitem ?_ (args_tuple_getitem _ _)))
  show wpAny _ _ (Builtin.Tuple.tupleItemsOf (.ref t) >>= _) _ _ s
  refine wpAny_bind (tupleItemsOf_ ht ?_)
  refine wpAny_bind (wpAny_typeOf hTs ?_)
  rw [if_pos (by decide)]
  refine wpAny_bind (sliceApplied_gen hs pl pu ?_)
  have hno:¬ ((((sIx items.size 0 lo:Nat):Int) == 0 && (1:Int) == 1 && (sIx items.size items.size hi - sIx items.size 0 lo) == items.size)=true):=by
    intro q
    rw [L0,L0] at q
    have q1:((sIx items.size 0 lo:Nat):Int)=0:=eq_of_beq q.1.1
    have q2:sIx items.size items.size hi - sIx items.size 0 lo=items.size:=eq_of_beq q.2
    exact hw ⟨by omega,by omega⟩
  show wpAny _ _ (if (((sIx items.size 0 lo:Nat):Int) == 0 && (1:Int) == 1 && (sIx items.size items.size hi - sIx items.size 0 lo) == items.size)=true then _ else _) _ _ s
  rw [if_neg hno,pick_gen]
  first
    | exact wpAny_bind (m:=Builtin.Tuple.tupleExact _) (wpAny_newObj_type (wpAny_pure ⟨_,rfl,wpAny_pure h⟩) htake)
    | exact wpAny_bind (m:=Builtin.Tuple.tupleExact _) (wpAny_newObj_type (wpAny_bind (wpAny_pure (wpAny_pure ⟨_,rfl,wpAny_pure h⟩))) htake)
    | exact wpAny_bind (wpAny_bind (m:=Builtin.Tuple.tupleExact _) (wpAny_newObj_type (wpAny_pure (wpAny_pure ⟨_,rfl,wpAny_pure h⟩)) htake))
    | exact wpAny_bind (wpAny_bind (m:=Builtin.Tuple.tupleExact _) (wpAny_newObj_type (wpAny_pure ⟨_,rfl,wpAny_pure h⟩) htake))
end
end HT
namespace L2
open PySem PySem.Spec PyProof.Rows
abbrev TO:=St->Hp->(Option Int->Hp->Prop)->Prop
def PO (X:Cx) (e:Option Expr) (t:TO):Prop:=
  ∀ (pins:List (Addr × Obj)) (s:Shared) (σ:St) (H:Hp) (Q:Option Int->Hp->Prop),Inv X pins σ H s->t σ H Q ->
    wpAny (model X.prog X.w) X.A (evalPart e X.env) (fun u s'=>∃ o H',Inv X pins σ H' s'/\IsPart u o/\Q o H') X.xe s
def tNoPart:TO:=fun _ H Q=>Q none H
def tPart (t:TE):TO:=fun σ H Q=>t σ H fun x H1=>∃ i,x=.int i/\Q (some i) H1
theorem intsAre_of {ns:List Int}:∀ {us:List Value},Vals (ns.map V.int) us->IntsAre us ns:=by
  induction ns with
  | nil=>intro us r; rw [List.map_nil] at r; cases r; exact .nil
  | cons n ns ih=>
    intro us r
    rw [D5] at r
    cases r with
    | cons r1 r2=>
      obtain ⟨t,e⟩:=r1
      subst e
      exact .cons n t (ih r2)
section
variable {X:Cx} {e:Expr} {te:TE} {lo hi:Option Expr} {tl th:TO} {pos p2:Pos}
theorem po_none:PO X none tNoPart:=by
  intro pins s σ H Q I h
  rw [evalPart_none]
  exact wpAny_pure ⟨none,H,I,.none,h⟩
theorem po_some (h:PE X e te):PO X (some e) (tPart te):=by
  intro pins s σ H Q I hw
  rw [evalPart_some]
  refine thn (h pins s σ H _ I hw) fun u s1 ⟨x,H1,I1,r1,q1⟩=>?_
  obtain ⟨i,rfl,q⟩:=q1
  obtain ⟨t,rfl⟩:=r1
  exact ⟨some i,H1,I1,.int i t,q⟩
def SlR (X:Cx) (r:V->Option Int->Option Int->Hp->VK->Prop):Prop:=
  ∀ (pins:List (Addr × Obj)) (s:Shared) (σ:St) (H:Hp) (x:V) (v vl vu:Value) (lo hi:Option Int) (sl:Addr) (Q:VK),Inv X pins σ H s->RelV x v->s.heap.IsSliceOf sl vl vu .none->IsPart vl lo->IsPart vu hi->r x lo hi H Q ->
    ∃ T id,typeLookup (.type T) "__getitem__" = pure (some (.builtin id))/\s.TypeIs v T/\wpAny (model X.prog X.w) X.A (getItem v (.ref sl)) (EP X pins σ Q) X.xe s
theorem SlR.or {r r':V->Option Int->Option Int->Hp->VK->Prop} (h:SlR X r) (h':SlR X r'):SlR X (fun x lo hi H Q=>r x lo hi H Q\/r' x lo hi H Q):=by
  intro pins s σ H x v vl vu lo hi sl Q I rx hs pl pu q
  rcases q with q | q
  · exact h pins s σ H x v vl vu lo hi sl Q I rx hs pl pu q
  · exact h' pins s σ H x v vl vu lo hi sl Q I rx hs pl pu q
def tSl (r:V->Option Int->Option Int->Hp->VK->Prop) (te:TE) (tl th:TO):TE:=fun σ H Q=>te σ H fun x H1=>tl σ H1 fun l H2=>th σ H2 fun u H3=>r x l u H3 Q
theorem pe_slice {r:V->Option Int->Option Int->Hp->VK->Prop} (hr:SlR X r) (he:PE X e te) (hl:PO X lo tl) (hu:PO X hi th):PE X (.Subscript e (.Slice lo hi none p2) pos) (tSl r te tl th):=by
  intro pins s σ H Q I h
  refine Subscript_ (thn (he pins s σ H _ I h) fun v s1 ⟨x,H1,I1,r1,q1⟩=>?_)
  refine wpAny_Slice (thn (hl pins s1 σ H1 _ I1 q1) fun vl s2 ⟨l,H2,I2,pl,q2⟩=>thn (hu pins s2 σ H2 _ I2 q2) fun vu s3 ⟨u,H3,I3,pu,q3⟩=>?_)
  rw [evalPart_none]
  refine wpAny_pure ?_
  have I4:Inv X pins σ H3 { s3 with heap:=s3.heap.push { cls:=.type "slice",data:=.fields #[vl,vu,.none] } }:=I3.kept (t':=s3.toks) fun b ob q=>O0 _ q
  obtain ⟨T,id,hT,ht,hg⟩:=hr pins { s3 with heap:=s3.heap.push { cls:=.type "slice",data:=.fields #[vl,vu,.none] } } σ H3 x v vl vu l u s3.heap.objs.size Q I4 r1 (Heap.IsSliceOf.new ..) pl pu q3
  show wpAny (model X.prog X.w) X.A (subscriptTail e (.Slice lo hi none p2) v (.ref s3.heap.objs.size)) (EP X pins σ Q) X.xe { s3 with heap:=s3.heap.push { cls:=.type "slice",data:=.fields #[vl,vu,.none] } }
  exact tail_any (ops:=[.ref s3.heap.objs.size,v]) ht hT hg (by with_unfolding_all rfl)
def cutV (xs:List V) (lo hi:Option Int):List V:=(xs.drop (HT.sIx xs.length 0 lo)).take (HT.sIx xs.length xs.length hi - HT.sIx xs.length 0 lo)
theorem cutV_length (xs:List V) (lo hi:Option Int):(cutV xs lo hi).length<=xs.length:=by
  unfold cutV
  rw [List.length_take,List.length_drop]
  omega
def rSlT (K:PySem.W.Frag):V->Option Int->Option Int->Hp->VK->Prop:=fun x lo hi H Q=>∃ a xs,x=.ref a/\SqT K H a xs /\
  ¬ (HT.sIx xs.length 0 lo=0/\HT.sIx xs.length xs.length hi=xs.length)/\∀ p,H p=none->Q (.ref p) (upd H p (.tup (cutV xs lo hi)))
theorem sl_tup:SlR X (rSlT X.K):=by
  intro pins s σ H x v vl vu lo hi sl Q I rx hs pl pu h
  obtain ⟨a,xs,rfl,hx,hw,q⟩:=h
  cases rx
  obtain ⟨its,r,ht,hz⟩:=I.tuple hx
  have hlen:its.toArray.size=xs.length:=by rw [O5]; exact r.length.symm
  refine ⟨"tuple",_,PyProof.Rows.slot_tuple_getitem.lookup,ht.typeIs,?_⟩
  refine HT.getItem_tuple_cut ht hs pl pu (by rw [hlen]; exact hw) ?_ (by rw [hlen]; exact hz)
  rw [hlen]
  refine ⟨.ref s.heap.objs.size,_,I.laid (t':=s.toks) (o:=.tup (cutV xs lo hi)) (fun b ob q=>O0 _ q) (O4 _) ?_,rfl,q _ (I.hok.fresh (O4 _))⟩
  exact ⟨D3 (cutV_length xs lo hi) hz,_,(r.drop (HT.sIx xs.length 0 lo)).take (HT.sIx xs.length xs.length hi - HT.sIx xs.length 0 lo),IsTup.new _ _⟩
def rLtT (K:PySem.W.Frag):R2:=fun x y H Q=>∃ a b ns ms,x=.ref a/\y=.ref b/\SqT K H a (ns.map V.int)/\SqT K H b (ms.map V.int)/\Q (.bl (HT.lexLt ns ms)) H
theorem op_ltT (hu:X.A.units < cLine):OpR X (compareOp .Lt) (rLtT X.K):=by
  intro pins s σ H x y v u Q I rx ry h
  obtain ⟨a,b,ns,ms,rfl,rfl,ha,hb,q⟩:=h
  cases rx
  cases ry
  obtain ⟨its,r1,p1,_⟩:=I.tuple ha
  obtain ⟨its2,r2,p2,_⟩:=I.tuple hb
  have i1:IntsAre its.toArray.toList ns:=intsAre_of r1
  have i2:IntsAre its2.toArray.toList ms:=intsAre_of r2
  exact HT.lt_tupInts p1 p2 i1 i2 hu ⟨.bl (HT.lexLt ns ms),H,I,rfl,q⟩
def rCatT (K:PySem.W.Frag):R2:=fun x y H Q=>∃ a b xs ys,x=.ref a/\y=.ref b/\SqT K H a xs/\SqT K H b ys/\xs≠[]/\xs.length + ys.length<=sizeLine /\
  (ys=[]->Q (.ref a) H)/\(ys≠[]->∀ p,H p=none->Q (.ref p) (upd H p (.tup (xs ++ ys))))
theorem Vals.nil_iff {xs:List V} {us:List Value} (r:Vals xs us):us=[] <-> xs=[]:=by
  cases r with
  | nil=>simp
  | cons _ _=>simp
theorem op_catT:OpR X (binaryOp .Add) (rCatT X.K):=by
  intro pins s σ H x y v u Q I rx ry h
  obtain ⟨a,b,xs,ys,rfl,rfl,ha,hb,hx,hz,q1,q2⟩:=h
  cases rx
  cases ry
  obtain ⟨its,r1,p1,_⟩:=I.tuple ha
  obtain ⟨its2,r2,p2,_⟩:=I.tuple hb
  refine HT.cat_tup p1 p2 (fun z=>hx (r1.nil_iff.mp z)) (fun z=>⟨.ref a,H,I,rfl,q1 (r2.nil_iff.mp z)⟩) (fun z=>?_) (by rw [<- r1.length,<- r2.length]; exact hz)
  refine ⟨.ref s.heap.objs.size,_,I.laid (t':=s.toks) (o:=.tup (xs ++ ys)) (fun b ob q=>O0 _ q) (O4 _) ?_,rfl,q2 (fun w=>z (r2.nil_iff.mpr w)) _ (I.hok.fresh (O4 _))⟩
  exact ⟨by rw [E5]; exact hz,_,r1.append r2,IsTup.new _ _⟩
end
end L2
namespace L2
open PySem PySem.Spec PyProof.Rows
def ixN (n:Nat) (i:Int):Option Nat:=if 0<=i then (if i < n then some i.toNat else none) else if -(n:Int)<=i then some (i + n).toNat else none
def atI {α:Type} (xs:List α) (i:Int):Option α:=(ixN xs.length i).bind fun j=>xs[j]?
theorem ixN_seq {n:Nat} {i:Int} {j:Nat} (h:ixN n i=some j):seqIndex? i n=some j/\j < n/\-(n:Int)<=i/\i < n:=by
  unfold ixN at h
  by_cases h0:0<=i
  · rw [if_pos h0] at h
    by_cases h1:i < n
    · rw [if_pos h1] at h
      have e:i.toNat=j:=Option.some.inj h
      exact ⟨by rw [seqIndex_of h0 h1,e],by omega,by omega,h1⟩
    · rw [if_neg h1] at h; cases h
  · rw [if_neg h0] at h
    by_cases h1:-(n:Int)<=i
    · rw [if_pos h1] at h
      have e:(i + n).toNat=j:=Option.some.inj h
      exact ⟨by rw [seqIndex_neg (by omega) h1,e],by omega,h1,by omega⟩
    · rw [if_neg h1] at h; cases h
theorem atI_get {α:Type} {xs:List α} {i:Int} {v:α} (h:atI xs i=some v):∃ j,seqIndex? i xs.length=some j/\xs[j]?=some v/\j < xs.length/\-(xs.length:Int)<=i/\i < xs.length:=by
  unfold atI at h
  cases e:ixN xs.length i with
  | none=>rw [e] at h; cases h
  | some j=>
    rw [e] at h
    obtain ⟨h1,h2,h3,h4⟩:=ixN_seq e
    exact ⟨j,h1,h,h2,h3,h4⟩
def PlainIx (b:Expr):Prop:=∀ o i,subscripted b false o i=operate [o,i] (getItem o i)
def IxR (X:Cx) (r:R2):Prop:=
  ∀ (value slice:Expr) (pins:List (Addr × Obj)) (s:Shared) (σ:St) (H:Hp) (x y:V) (v u:Value) (Q:VK),Inv X pins σ H s->RelV x v->RelV y u->r x y H Q ->
    subscripted slice false v u=operate [v,u] (getItem v u)->wpAny (model X.prog X.w) X.A (subscriptTail value slice v u) (EP X pins σ Q) X.xe s
def MtR (X:Cx) (id:String) (r:V->List V->Hp->VK->Prop):Prop:=
  ∀ (pins:List (Addr × Obj)) (s:Shared) (σ:St) (H:Hp) (x:V) (xs:List V) (v:Value) (us:List Value) (Q:VK),Inv X pins σ H s->RelV x v->Vals xs us->r x xs H Q ->
    wpAny (model X.prog X.w) X.A (call (.builtin id) (v :: us)) (EP X pins σ Q) X.xe s
section
variable {X:Cx} {a b:Expr} {ta tb:TE} {pos:Pos}
theorem IxR.or {r r':R2} (h:IxR X r) (h':IxR X r'):IxR X (fun x y H Q=>r x y H Q\/r' x y H Q):=by
  intro value slice pins s σ H x y v u Q I rx ry q hs
  rcases q with q | q
  · exact h value slice pins s σ H x y v u Q I rx ry q hs
  · exact h' value slice pins s σ H x y v u Q I rx ry q hs
theorem pe_ix {r:R2} (hr:IxR X r) (ha:PE X a ta) (hb:PE X b tb) (hs:PlainIx b):PE X (.Subscript a b pos) (tOp r ta tb):=by
  intro pins s σ H Q I h
  exact Subscript_ (binT ha hb I h fun v u s2 x y H2 I2 rx ry q=>hr a b pins s2 σ H2 x y v u Q I2 rx ry q (hs _ _))
def rIxL (K:PySem.W.Frag):R2:=fun x y H Q=>∃ p xs i v,x=.ref p/\y=.int i/\SqL K H p xs/\atI xs i=some v/\Q v H
def rIxT (K:PySem.W.Frag):R2:=fun x y H Q=>∃ p xs i v,x=.ref p/\y=.int i/\SqT K H p xs/\atI xs i=some v/\Q v H
def rIxS:R2:=fun x y H Q=>∃ z i c,x=.str z/\y=.int i/\z.length<=sizeLine/\atI z.cps.toList i=some c/\Q (.str ⟨#[c]⟩) H
theorem ix_list:IxR X (rIxL X.K):=by
  intro value slice pins s σ H x y v u Q I rx ry h hs
  obtain ⟨p,xs,i,z,rfl,rfl,hq,he,q⟩:=h
  cases rx
  obtain ⟨t,rfl⟩:=ry
  obtain ⟨its,r,pl,hz⟩:=I.list hq
  obtain ⟨j,h1,h2,h3,h4,h5⟩:=atI_get he
  obtain ⟨w,ew,rw'⟩:=r.get h2
  have hl:=r.length
  have hn:=line63
  have fin:EP X pins σ Q w s:=⟨z,H,I,rw',q⟩
  by_cases h0:0<=i
  · have hj:i.toNat=j:=by
      rw [seqIndex_of h0 h5] at h1
      exact Option.some.inj h1
    exact item_listR pl.isList h0 (by omega) (by rw [hj]; simpa using ew) fin hs
  · have hj:(i + (its.toArray.size:Int)).toNat=j:=by
      rw [seqIndex_neg (by omega) h4] at h1
      rw [O5,<- hl]
      exact Option.some.inj h1
    exact subscriptTail_builtinR (x:=w) pl.isList.typeIs slot_list_getitem.lookup
      (wpAny_getItem_list_neg (Q:=fun r s'=>r=w/\EP X pins σ Q r s') pl.isList (by omega) (by rw [O5] <;> omega) (by omega) (by rw [hj]; simpa using ew) ⟨rfl,fin⟩) hs
theorem ix_tup:IxR X (rIxT X.K):=by
  intro value slice pins s σ H x y v u Q I rx ry h hs
  obtain ⟨p,xs,i,z,rfl,rfl,hq,he,q⟩:=h
  cases rx
  obtain ⟨t,rfl⟩:=ry
  obtain ⟨its,r,pl,hz⟩:=I.tuple hq
  obtain ⟨j,h1,h2,h3,h4,h5⟩:=atI_get he
  obtain ⟨w,ew,rw'⟩:=r.get h2
  have hl:=r.length
  have hn:=line63
  have fin:EP X pins σ Q w s:=⟨z,H,I,rw',q⟩
  exact subscriptTail_builtinR (x:=w) pl.typeIs slot_tuple_getitem.lookup
    (getItem_tuple (j:=j) (Q:=fun r s'=>r=w/\EP X pins σ Q r s') pl (by omega) (by omega) (by rw [O5,<- hl]; exact h1) (by simpa using ew) ⟨rfl,fin⟩) hs
theorem ix_str:IxR X rIxS:=by
  intro value slice pins s σ H x y v u Q I rx ry h hs
  obtain ⟨z,i,c,rfl,rfl,hz,he,q⟩:=h
  obtain ⟨t,rfl⟩:=rx
  obtain ⟨t',rfl⟩:=ry
  obtain ⟨j,h1,h2,h3,h4,h5⟩:=atI_get he
  have hl:z.cps.toList.length=z.length:=by simp [Str.length]
  rw [hl] at h1 h4 h5
  have hn:=line63
  exact tail_any (typeIs_str s z t) slot_str_getitem.lookup (getItem_str (c:=c) (by
    have e1:decide (i < -(2 ^ 63:Int))=false:=decide_eq_false (by omega)
    have e2:decide (i>=2 ^ 63)=false:=decide_eq_false (by omega)
    rw [e1,e2,Bool.or_false]) (by rw [h1]; simpa using h2) ⟨.str ⟨#[c]⟩,H,I.tok _,⟨_,rfl⟩,q⟩) hs
def rIx (K:PySem.W.Frag):R2:=fun x y H Q=>rIxL K x y H Q\/rIxT K x y H Q\/rIxS x y H Q
theorem ix_seq:IxR X (rIx X.K):=ix_list.or (ix_tup.or ix_str)
theorem mapSeq_set (its:List Value) (n j:Nat) (u:Value):Obj.mapSeq (·.setIfInBounds j u) { cls:=.type "list",data:=.seq its.toArray n }={ cls:=.type "list",data:=.seq (its.set j u).toArray n }:=by
  simp [Obj.mapSeq]
theorem Inv.lst {pins:List (Addr × Obj)} {σ:St} {H:Hp} {s:Shared} {p:Addr} {xs:List V} (I:Inv X pins σ H s) (h:H p=some (.lst xs)) :
    ∃ (its:List Value) (n:Nat),Vals xs its/\s.heap.get? p=some { cls:=.type "list",data:=.seq its.toArray n }/\xs.length<=sizeLine:=by
  obtain ⟨z,its,n,r,e⟩:=I.hok p _ h
  exact ⟨its,n,r,e,z⟩
theorem Inv.lstUpd {pins:List (Addr × Obj)} {σ:St} {H:Hp} {s:Shared} {p:Addr} {xs ys:List V} {its its':List Value} {n n':Nat} {f:Obj->Obj} (I:Inv X pins σ H s) (h:H p=some (.lst xs))
    (ho:s.heap.get? p=some { cls:=.type "list",data:=.seq its.toArray n }) (hf:f { cls:=.type "list",data:=.seq its.toArray n }={ cls:=.type "list",data:=.seq its'.toArray n' }) (r:Vals ys its') (hz:ys.length<=sizeLine) (t:Nat) :
    Inv X pins σ (upd H p (.lst ys)) { s with heap:=s.heap.update p f,toks:=t }:=by
  have e:(s.heap.update p f).get? p=some { cls:=.type "list",data:=.seq its'.toArray n' }:=by
    rw [L4 f ho (by rw [hf] <;> rfl),hf]
  refine I.write (x:=p) (e:=p) (by rw [h]; trivial) (.inl rfl) (fun b u hb q=>(F7 _ _ (Ne.symm hb)).trans q) ⟨_,e⟩ ?_
  exact ⟨hz,its',n',r,e⟩
def rSetL:V->V->V->Hp->(Hp->Prop)->Prop:=fun o i v H Q=>∃ p xs k j,o=.ref p/\i=.int k/\H p=some (.lst xs)/\ixN xs.length k=some j/\Q (upd H p (.lst (xs.set j v)))
theorem set_list:PSet X rSetL:=by
  intro pins s σ H o i v ov iv u Q I ro ri rv h
  obtain ⟨p,xs,k,j,rfl,rfl,hp,hj,q⟩:=h
  cases ro
  obtain ⟨t,rfl⟩:=ri
  obtain ⟨its,n,r,ho,hz⟩:=I.lst hp
  obtain ⟨h1,h2,h3,h4⟩:=ixN_seq hj
  have hl:=r.length
  have hn:=line63
  have I':Inv X pins σ (upd H p (.lst (xs.set j v))) { s with heap:=s.heap.update p (Obj.mapSeq (·.setIfInBounds j u)) }:=
    I.lstUpd hp ho (mapSeq_set its n j u) (r.set rv j) (by rw [List.length_set]; exact hz) s.toks
  by_cases h0:0<=k
  · have hk:k.toNat=j:=by
      rw [seqIndex_of h0 h4] at h1
      exact Option.some.inj h1
    exact PySem.W.ki_setAt ho h0 (by omega) (by rw [O5,<- hl]; exact h4) (by rw [hk]; exact ⟨_,I',q⟩)
  · have hk:(k + (its.toArray.size:Int)).toNat=j:=by
      rw [seqIndex_neg (by omega) h3] at h1
      rw [O5,<- hl]
      exact Option.some.inj h1
    exact PySem.W.ki_setBack ho (by omega) (by rw [O5,<- hl]; exact h3) (by omega) (by rw [hk]; exact ⟨_,I',q⟩)
theorem slice_bounds (lo hi:Option Int) (n:Nat):(sliceBounds lo hi none n).1=((HT.sIx n 0 lo:Nat):Int)/\(sliceBounds lo hi none n).2.1=((HT.sIx n n hi:Nat):Int)/\(sliceBounds lo hi none n).2.2=1:=by
  refine ⟨?_,?_,rfl⟩
  · cases lo with
    | none=>simp [sliceBounds,HT.sIx]
    | some i=>
      simp only [sliceBounds,HT.sIx,Option.getD_none,show (1:Int) > 0 by decide,if_true]
      by_cases h:i < 0
      · simp only [h,if_true] <;> omega
      · simp only [h,if_false] <;> omega
  · cases hi with
    | none=>simp [sliceBounds,HT.sIx]
    | some i=>
      simp only [sliceBounds,HT.sIx,Option.getD_none,show (1:Int) > 0 by decide,if_true]
      by_cases h:i < 0
      · simp only [h,if_true] <;> omega
      · simp only [h,if_false] <;> omega
theorem slicePick_cut (its:List Value) (lo hi:Option Int):slicePick its.toArray lo hi none=((its.drop (HT.sIx its.length 0 lo)).take (HT.sIx its.length its.length hi - HT.sIx its.length 0 lo)).toArray:=by
  obtain ⟨h1,h2,h3⟩:=slice_bounds lo hi its.toArray.size
  unfold slicePick
  rw [h1,h2,h3]
  simp only [sliceRange_one,pick_run,O5] <;> rfl
def rSlL (K:PySem.W.Frag):V->Option Int->Option Int->Hp->VK->Prop:=fun x lo hi H Q=>∃ a xs,x=.ref a/\SqL K H a xs/\∀ p,H p=none->Q (.ref p) (upd H p (.lst (cutV xs lo hi)))
theorem sl_list:SlR X (rSlL X.K):=by
  intro pins s σ H x v vl vu lo hi sl Q I rx hs pl pu h
  obtain ⟨a,xs,rfl,hx,q⟩:=h
  cases rx
  obtain ⟨its,r,ht,hz⟩:=I.list hx
  have hlen:=r.length
  refine ⟨"list",_,slot_list_getitem.lookup,ht.isList.typeIs,?_⟩
  refine wpAny_getItem_list_slice ht.isList hs pl pu .none (by simp) ?_ (by rw [O5] <;> omega)
  rw [slicePick_cut,<- hlen]
  refine ⟨.ref s.heap.objs.size,_,I.laid (t':=s.toks) (o:=.lst (cutV xs lo hi)) (fun b ob q=>O0 _ q) (O4 _) ?_,rfl,q _ (I.hok.fresh (O4 _))⟩
  exact ⟨D3 (cutV_length xs lo hi) hz,_,0,(r.drop (HT.sIx xs.length 0 lo)).take (HT.sIx xs.length xs.length hi - HT.sIx xs.length 0 lo),O7 _ rfl⟩
theorem call_len_seq:CallR X (.builtin "len") (fun xs H Q=>∃ p ys,xs=[.ref p]/\(SqL X.K H p ys\/SqT X.K H p ys)/\Q (.int ys.length) H):=by
  intro pins s σ H xs us Q I r h
  obtain ⟨p,ys,rfl,hq,q⟩:=h
  obtain ⟨u,rfl,rx⟩:=vals1 r
  cases rx
  have hn:=line63
  rcases hq with hq | hq
  · obtain ⟨its,r',pl,hz⟩:=I.list hq
    have hlen:=r'.length
    exact Calls.call_len_list pl.isList (by simp only [O5] <;> omega) ⟨.int ys.length,H,I.tok _,⟨s.toks + 1,by rw [O5,hlen]⟩,q⟩
  · obtain ⟨its,r',pl,hz⟩:=I.tuple hq
    have hlen:=r'.length
    exact len_tuple pl (by simp only [O5] <;> omega) ⟨.int ys.length,H,I.tok _,⟨s.toks + 1,by rw [O5,hlen]⟩,q⟩
theorem call_len_str:CallR X (.builtin "len") (fun xs H Q=>∃ z,xs=[.str z]/\z.length<=sizeLine/\Q (.int z.length) H):=by
  intro pins s σ H xs us Q I r h
  obtain ⟨z,rfl,hz,q⟩:=h
  obtain ⟨u,rfl,t,rfl⟩:=vals1 r
  have hn:=line63
  exact len_str (by omega) ⟨.int z.length,H,I.tok _,⟨_,rfl⟩,q⟩
theorem call_tuple_of:CallR X (.type "tuple") (fun xs H Q=>∃ p ys,xs=[.ref p]/\((SqL X.K H p ys/\∀ l,H l=none->Q (.ref l) (upd H l (.tup ys)))\/(SqT X.K H p ys/\Q (.ref p) H))):=by
  intro pins s σ H xs us Q I r h
  obtain ⟨p,ys,rfl,h⟩:=h
  obtain ⟨u,rfl,rx⟩:=vals1 r
  cases rx
  rcases h with ⟨hq,q⟩ | ⟨hq,q⟩
  · obtain ⟨its,r',pl,hz⟩:=I.list hq
    have hlen:=r'.length
    refine call_tuple_list pl.isList (fun h' kp=>?_) (by simp only [O5] <;> omega)
    have I1:Inv X pins σ H { s with heap:=h' }:=I.kept (t':=s.toks) kp
    have I2:Inv X pins σ (upd H h'.objs.size (.tup ys)) { s with heap:=h'.push { cls:=.type "tuple",data:=.seq its.toArray } }:=
      I1.laid (t':=s.toks) (fun b o e=>O0 _ e) (O4 _) (show ObjOk X.prog X.w _ _ _ (.tup ys) from ⟨hz,its,r',IsTup.new _ _⟩)
    exact ⟨.ref h'.objs.size,_,I2,rfl,q _ (I1.hok.fresh (O4 _))⟩
  · obtain ⟨its,r',pl,hz⟩:=I.tuple hq
    exact call_tuple_same pl ⟨.ref p,H,I,rfl,q⟩
def tyV (K:PySem.W.Frag) (T:String) (x:V) (H:Hp):Prop:=match x with
  | .str _=>T = "str"
  | .int _=>T = "int"
  | .ref p=>(T = "list" /\ ∃ xs,SqL K H p xs)\/(T = "tuple" /\ ∃ o,K.lookup p=some o/\o.cls=.type "tuple" /\ o.dict=none) \/
      (T = "dict" /\ ((∃ kvs,H p=some (.dK kvs))\/∃ kvs,H p=some (.dT kvs)))\/(T = "set" /\ ∃ S n,H p=some (.set S n))
  | _=>False
theorem tyV_is {pins:List (Addr × Obj)} {σ:St} {H:Hp} {s:Shared} {T:String} {x:V} {v:Value} (I:Inv X pins σ H s) (r:RelV x v) (ty:tyV X.K T x H) :
    s.TypeIs v T/\∀ a,v=.ref a->∃ ob,s.heap.get? a=some ob/\ob.dict=none:=by
  cases x with
  | str z=>
    obtain ⟨t,rfl⟩:=r
    cases (show T = "str" from ty)
    exact ⟨typeIs_str s z t,fun _ e=>nomatch e⟩
  | int i=>
    obtain ⟨t,rfl⟩:=r
    cases (show T = "int" from ty)
    exact ⟨typeIs_int s i t,fun _ e=>nomatch e⟩
  | ref p=>
    cases r
    rcases ty with ⟨rfl,xs,hq⟩ | ⟨rfl,o,hk,hc,hd⟩ | ⟨rfl,hk⟩ | ⟨rfl,S,n,hk⟩
    · obtain ⟨its,_,pl,_⟩:=I.list hq
      refine ⟨pl.isList.typeIs,fun a e=>?_⟩
      cases e
      obtain ⟨o,n,e,c,hd,_⟩:=pl
      exact ⟨o,e,hd⟩
    · refine ⟨⟨o,I.kIn p o hk,hc⟩,fun a e=>?_⟩
      cases e
      exact ⟨o,I.kIn _ o hk,hd⟩
    · have z:∃ o,s.heap.get? p=some o/\o.ExactDict:=by
        rcases hk with ⟨kvs,hk⟩ | ⟨kvs,hk⟩
        · obtain ⟨_,_,_,_,o,_,_,e,ex,_⟩:=I.hok p _ hk
          exact ⟨o,e,ex⟩
        · obtain ⟨_,_,_,_,o,_,_,e,ex,_⟩:=I.hok p _ hk
          exact ⟨o,e,ex⟩
      obtain ⟨o,e,ex⟩:=z
      refine ⟨⟨o,e,ex.1⟩,fun a e2=>?_⟩
      cases e2
      exact ⟨o,e,ex.2.1⟩
    · obtain ⟨o,_,_,_,e,ex,_⟩:=I.hok p _ hk
      refine ⟨⟨o,e,ex.1⟩,fun a e2=>?_⟩
      cases e2
      exact ⟨o,e,ex.2.1⟩
  | _=>exact False.elim ty
def tBM (K:PySem.W.Frag) (T:String) (r:V->List V->Hp->VK->Prop) (to:TE) (t:TA):TE:=fun σ H Q=>to σ H fun x H1=>tyV K T x H1/\t σ H1 fun xs H2=>r x xs H2 Q
variable {o e:Expr} {es:List Expr} {to:TE} {t:TA} {name:Str} {apos cpos:Pos} {T id:String} {r:V->List V->Hp->VK->Prop}
theorem pe_bm (pa:PlainAttrs T) (slot:Slot T name id) (hty:typeOf (.builtin id)=pure (.type "method_descriptor")) (hm:MtR X id r) (ho:PE X o to) (ha:PA X (e :: es) t)
    (hbase:attributeBase o name X.env (eval o X.env)=eval o X.env:=by rfl)
    (hfew:((backTo cpos (starEach (e :: es) X.env)).all (fun x=>!x.1) && (backToKw cpos (keywordEach [] X.env)).all (fun x=>x.1.isSome)
      && decide ((e :: es).length + ([]:List Keyword).length + (if ([]:List Keyword).isEmpty then 0 else 1) < 30))=true:=by rfl)
    (hline:(apos.endLine == cpos.line)=true:=by rfl) (hs:starEach (e :: es) X.env=(false,eval e X.env) :: starEach es X.env:=by rfl) (hplain:(backTo cpos (starEach es X.env)).any (·.1)=false:=by rfl) :
    PE X (.Call (.Attribute o name apos) (e :: es) [] cpos) (tBM X.K T r to t):=by
  intro pins s σ H Q I h
  refine wpAny_Call_method_late hbase hfew hline rfl (thn (ho pins s σ H _ I h) fun v s1 ⟨x,H1,I1,r1,ty,q1⟩=>?_)
  obtain ⟨h1,h2⟩:=tyV_is I1 r1 ty
  refine ⟨T,id,pa,slot,hty,h1,h2,?_⟩
  have hA:=ha cpos pins s1 σ H1 _ I1 q1
  rw [hs] at hA ⊢
  refine Calls.callWith_builtin (by show (false || (backTo cpos (starEach es X.env)).any (·.1))=false; rw [hplain] <;> rfl) (Calls.evalArgs_plain ?_)
  exact thn hA fun us s2 ⟨vs,H2,I2,r2,q2⟩=>hm pins s2 σ H2 x vs v us Q I2 r1 r2 q2
end
end L2
namespace L2
open PySem PySem.Spec PyProof.Rows
def MtM (X:Cx) (id:String) (r:V->List V->Hp->VK->Prop):Prop:=
  ∀ (pins:List (Addr × Obj)) (s:Shared) (σ:St) (H:Hp) (x:V) (xs:List V) (v:Value) (us:List Value) (Q:VK),Inv X pins σ H s->RelV x v->Vals xs us->r x xs H Q ->
    wpAny (model X.prog X.w) X.A (call (.builtin id) (v :: us)) (EP X pins σ Q) X.xe s
theorem Vals.one:∀ {x:V} {us:List Value},Vals [x] us->∃ u,us=[u]/\RelV x u
  | _,_,.cons r .nil=>⟨_,rfl,r⟩
theorem Vals.rep {xs:List V} {us:List Value} (h:Vals xs us):∀ k:Nat,Vals (List.replicate k xs).flatten (List.replicate k us).flatten
  | 0=>.nil
  | k + 1=>by
    rw [List.replicate_succ,List.replicate_succ,List.flatten_cons,List.flatten_cons]
    exact Vals.append h (Vals.rep h k)
theorem foldl_rep (its:List Value):∀ (k:Nat) (acc:List Value),
    List.foldl (fun x1 x2=>x1 ++ x2) acc.toArray (List.replicate k its.toArray)=(acc ++ (List.replicate k its).flatten).toArray
  | 0,acc=>by simp
  | k + 1,acc=>by
    have e:acc.toArray ++ its.toArray=(acc ++ its).toArray:=by simp
    have e2:(acc ++ its) ++ (List.replicate k its).flatten=acc ++ (List.replicate (k + 1) its).flatten:=by
      rw [List.replicate_succ,List.flatten_cons,E9]
    rw [<- e2,<- foldl_rep its k (acc ++ its),<- e,List.replicate_succ,List.foldl_cons]
section
variable {X:Cx} {pins:List (Addr × Obj)} {σ:St} {H:Hp} {s:Shared} {l b:Addr} {xs ys zs:List V}
theorem Inv.lset {its its':List Value} {n:Nat} {f:Array Value->Array Value} {t':Nat} (I:Inv X pins σ H s) (hH:H l=some (.lst xs))
    (e:s.heap.get? l=some { cls:=.type "list",data:=.seq its.toArray n }) (hf:f its.toArray=its'.toArray) (hv:Vals ys its') (hz:ys.length<=sizeLine) :
    Inv X pins σ (upd H l (.lst ys)) { s with heap:=s.heap.update l (Obj.mapSeq f),toks:=t' }:=by
  have q:=PySem.IsL.update e f
  rw [hf] at q
  refine I.write (x:=l) (e:=l) (by rw [hH]; exact trivial) (.inl rfl) (fun b' u hb hu=>(F7 s.heap (Obj.mapSeq f) (Ne.symm hb)).trans hu) ⟨_,q⟩ ?_
  exact ⟨hz,its',_,hv,q⟩
theorem Inv.lnew {its:List Value} {t':Nat} (I:Inv X pins σ H s) (hv:Vals ys its) (hz:ys.length<=sizeLine) :
    Inv X pins σ (upd H s.heap.objs.size (.lst ys)) { s with heap:=s.heap.push { cls:=.type "list",data:=.seq its.toArray },toks:=t' }:=
  I.laid (fun _ _ q=>O0 _ q) (O4 _) ⟨hz,its,0,hv,O7 _ rfl⟩
theorem Inv.fresh (I:Inv X pins σ H s):H s.heap.objs.size=none:=I.hok.fresh (O4 _)
theorem Inv.lstM (I:Inv X pins σ H s) (hH:H l=some (.lst xs)):xs.length<=sizeLine/\∃ (its:List Value) (n:Nat),Vals xs its/\xs.length=its.length/\s.heap.get? l=some { cls:=.type "list",data:=.seq its.toArray n }:=by
  obtain ⟨z,its,n,r,e⟩:=I.hok l _ hH
  exact ⟨z,its,n,r,r.length,e⟩
theorem notLongL {n:Nat} (h:n<=sizeLine):Builtin.List.listTooLong n=false:=by
  unfold Builtin.List.listTooLong
  exact decide_eq_false (by omega)
end
section
variable {X:Cx}
def rExtend:V->List V->Hp->VK->Prop:=fun x vs H Q=>∃ l b xs zs,x=.ref l/\vs=[.ref b]/\H l=some (.lst xs)/\H b=some (.lst zs)/\xs.length + zs.length<=sizeLine/\Q .non (upd H l (.lst (xs ++ zs)))
theorem mt_extend:MtM X "list.extend" rExtend:=by
  intro pins s σ H x vs v us Q I rx rv h
  obtain ⟨l,b,xs,zs,rfl,rfl,hH,hB,hz,q⟩:=h
  cases rx
  obtain ⟨u,rfl,ru⟩:=rv.one
  cases ru
  obtain ⟨z,its,n,r,hl,e⟩:=I.lstM hH
  obtain ⟨z2,its2,n2,r2,hl2,e2⟩:=I.lstM hB
  have hsz:its.toArray.size + its2.toArray.size<=sizeLine:=by rw [O5,O5]; omega
  have hlong:¬ (!its.toArray.isEmpty && Builtin.List.listTooLong (its.toArray.size + its2.toArray.size))=true:=by
    rw [notLongL hsz,Bool.and_false]
    exact D6
  refine call_meets F.slot_list_extend ⟨_,e,rfl⟩ F.entry_list_extend (F.args_list_extend_2 _ _)
    (AutoSeq1.list_extend_list_list_0 l its.toArray n b its2.toArray n2 hlong (by rw [O5]; omega) (by omega)) ⟨e,e2,?_⟩
  refine ⟨.non,_,I.lset (its':=its ++ its2) hH e (by simp) (r.append r2) ?_,rfl,q⟩
  rw [E5]
  omega
def rCat:R2:=fun x y H Q=>∃ l b xs zs,x=.ref l/\y=.ref b/\H l=some (.lst xs)/\H b=some (.lst zs)/\xs.length + zs.length<=sizeLine/\∀ p,H p=none->Q (.ref p) (upd H p (.lst (xs ++ zs)))
theorem op_cat:OpR X (binaryOp .Add) rCat:=by
  intro pins s σ H x y v u Q I rx ry h
  obtain ⟨l,b,xs,zs,rfl,rfl,hH,hB,hz,q⟩:=h
  cases rx
  cases ry
  obtain ⟨z,its,n,r,hl,e⟩:=I.lstM hH
  obtain ⟨z2,its2,n2,r2,hl2,e2⟩:=I.lstM hB
  refine PySem.P.add_list e e2 ?_ (by rw [O5,O5]; omega)
  have ea:its.toArray ++ its2.toArray=(its ++ its2).toArray:=by simp
  rw [ea]
  exact ⟨.ref _,_,I.lnew (t':=s.toks) (r.append r2) (by rw [E5]; omega),rfl,q _ I.fresh⟩
def rRep:R2:=fun x y H Q=>∃ l k xs,x=.ref l/\y=.int k/\H l=some (.lst xs)/\-(2 ^ 63)<=k/\k < 2 ^ 63/\xs.length * k.toNat<=sizeLine /\
  ∀ p,H p=none->Q (.ref p) (upd H p (.lst (List.replicate k.toNat xs).flatten))
theorem len_rep {α:Type} (xs:List α) (k:Nat):(List.replicate k xs).flatten.length=k * xs.length:=by
  induction k with
  | zero=>simp
  | succ k ih=>rw [List.replicate_succ,List.flatten_cons,E5,ih,Nat.succ_mul,Nat.add_comm]
theorem op_rep:OpR X (binaryOp .Mult) rRep:=by
  intro pins s σ H x y v u Q I rx ry h
  obtain ⟨l,k,xs,rfl,rfl,hH,h1,h2,hz,q⟩:=h
  cases rx
  obtain ⟨t,rfl⟩:=ry
  obtain ⟨z,its,n,r,hl,e⟩:=I.lstM hH
  have hlen:its.toArray.size * k.toNat<=sizeLine:=by rw [O5,<- hl]; exact hz
  have hcap:¬ its.toArray.size * k.toNat > (2 ^ 63 - 1) / 8:=by
    have:(sizeLine:Nat)<=(2 ^ 63 - 1) / 8:=by decide
    omega
  have hfit:¬ (!Builtin.List.listFitsIndex k)=true:=by
    rw [fitsIndex_both h1 h2]
    exact D6
  have hlong:¬ Builtin.List.listTooLong (its.toArray.size * k.toNat)=true:=by
    rw [notLongL hlen]
    exact D6
  have hnew:List.foldl (fun x1 x2=>x1 ++ x2) #[] (List.replicate (if its.toArray.isEmpty=true then 0 else k.toNat) its.toArray)=(List.replicate k.toNat its).flatten.toArray:=by
    have f0:∀ m:Nat,List.foldl (fun x1 x2=>x1 ++ x2) #[] (List.replicate m its.toArray)=(List.replicate m its).flatten.toArray:=fun m=>by
      have:=foldl_rep its m []
      rw [List.nil_append] at this
      exact this
    rw [f0]
    cases its with
    | nil=>simp
    | cons a r'=>rw [if_neg (by simp)]
  refine wpAny_binaryOp_repeat_ref (T := "list") (U := "int") (by decide) ⟨_,e,rfl⟩ (fun s'=>typeIs_int s' k t) noFill_list_mul F.fills_int_mul F.slot_int_rmul repeat_list F.slot_int_index.lookup
    (call_meets F.slot_int_rmul (typeIs_int s k t) F.entry_int_rmul (F.args_int_rmul_2 _ _) (int___rmul___int_list k t l its.toArray n)
      ⟨e,rfl,⟨_,e,rfl⟩,call_meets F.slot_list_mul ⟨_,e,rfl⟩ F.entry_list_mul (F.args_list_mul_2 _ _) (AutoListH.list___mul___list_int_3 l its.toArray n k t hfit hcap hlong) ⟨e,?_⟩⟩)
  rw [hnew]
  exact ⟨.ref _,_,I.lnew (t':=s.toks) (r.rep k.toNat) (by rw [len_rep,Nat.mul_comm]; exact hz),rfl,q _ I.fresh⟩
end
section
variable {prog:Program} {w:World} {A:Around} {E:Value->Shared->Prop} {s:Shared}
end
section
variable {X:Cx}
end
end L2
namespace Att
open PySem PySem.W PySem.Calls PyProof.Rows
theorem ints_of_wellAll {P:Params} {h:Heap}:∀ (ns:List Int) (vs:List Value),WellAll P h vs (ns.map WData.int)->IntsAre vs ns:=by
  intro ns
  induction ns with
  | nil=>
    intro vs w
    rw [List.map_nil] at w
    cases w
    exact .nil
  | cons n ns ih=>
    intro vs w
    rw [D5] at w
    cases w with
    | cons a b=>
      cases a
      exact .cons _ _ (ih _ b)
theorem script_of {l:OpenLaw} {n:Nat} (hn:l.most=some n) {P:Params} {h:Heap} {args:List WData} {vals:List Value}
    (hpre:l.row.toRowW.claim.pre args=true) (hwl:WellAll P h vals args) :
    ∃ a vs ns,vals=[Value.ref a]/\args=[WData.list (ns.map WData.int)]/\h.get? a=some { cls:=.type "list",data:=.seq vs.toArray }/\IntsAre vs ns/\ns.length<=n:=by
  have hsh:WShape.hasAll [] args [.list .int]=true:=(pre_splitW hpre).1
  have hc:l.pre.holds [] { args:=args }=true:=(pre_splitW hpre).2
  obtain ⟨d,r,rfl,h1,h2⟩:=hasAllW_cons hsh
  obtain rfl:=hasAllW_nil h2
  obtain ⟨xs,rfl,h3⟩:=hasW_list h1
  obtain ⟨ns,rfl⟩:=items_int h3
  have hlen:ns.length<=n:=by
    unfold OpenLaw.pre at hc
    have h4:(WTm.not (.lt (.lit (.int (n:Int))) (.len (.arg 0)))).holds [] { args:=[.list (ns.map .int)] }=true:=by
      have h4:=(holds_andW hc).1
      rw [hn] at h4
      exact h4
    have h5:=condW_of h4 (w_not (w_lt w_lit (w_len_list (w_arg rfl))))
    rw [O2] at h5
    refine Nat.le_of_not_lt fun q=>?_
    have q':(n:Int) < ((ns.length:Nat):Int):=by omega
    first
      | (rw [decide_eq_true q'] at h5; exact absurd h5 (by decide))
      | (simp at h5; omega)
  cases hwl with
  | cons w1 w2=>
    cases w2
    cases w1 with
    | list ho hall=>exact ⟨_,_,ns,rfl,rfl,ho,ints_of_wellAll ns _ hall,hlen⟩
theorem post_true (l:OpenLaw) (args:List WData):l.row.toRowW.claim.post args (.bool true) args=true:=
  postW_of (r:=l.row.toRowW) (X:=(true == true))
    (show WShape.has [] (.bool true) .bool=true by first | rfl | decide | simp [WShape.has,WShape.arms,WShape.armsAll])
    (show (WTm.eq .res (.lit (.bool true))).value [] { args:=args,res:=some (.bool true),after:=args }=some (.bool (true == true)) from w_eq_bool (w_res rfl) w_lit) rfl
theorem attach_call {l:OpenLaw} {n:Nat} {q:Program} {loose:List Str} {XP:(Str->Option Value)->Heap->Prop} {YP:World->Heap->Prop} {d:DefRec}
    (hn:l.most=some n) (hdf:d.params.defaults=[])
    (call:∀ (w:World) (s₀ s₁:Shared) (mg mb:Str->Option Value) (fa:Addr) (o:Obj) (pm cd doc:Value) (a:Addr) (vs:List Value) (ns:List Int),
      Ground q loose [] XP w s₀ mg mb s₁.heap->YP w s₁.heap ->
      s₁.heap.get? fa=some o->o.data=.func (docDef d.name d.params d.body d.scope pm cd doc)->s₁.heap.CodeRec cd d.name->mg d.name=some (.ref fa) ->
      s₁.heap.get? a=some { cls:=.type "list",data:=.seq vs.toArray }->IntsAre vs ns->ns.length<=n->s₁.gens=#[] ->
      codeAny (model l.prog w) callerA (.call (.ref fa) ⟨[.ref a],[]⟩) (fun r s'=>r=.ok (.ret (.bool true))/\OldK s₁.heap s'.heap/\s'.os=s₁.os/\AllBare s'.gens) s₁) :
    WalkO q loose XP YP l.row.toRowW d [] (fun f vs=>PySem.call f vs):=by
  intro w s₀ s₁ mg mb G Y fa o pm cd doc dV kV ho hd hcd hD hmg hg args vals as hpre hlay hrd hwl hlo
  obtain rfl:dV=.none:=Dflts.none hD hdf
  obtain rfl:kV=.none:=Dflts.noKw hD
  obtain ⟨a,vs,ns,rfl,rfl,hobj,hints,hlen⟩:=script_of hn hpre hwl
  refine enter_call (codeAny_mono (call w s₀ s₁ mg mb fa o pm cd doc a vs ns G Y ho (fd_plain hd) hcd hmg hobj hints hlen hg) fun r s' hq=>?_)
  obtain ⟨rfl,h2,h3,h4⟩:=hq
  exact ⟨.inl ⟨.bool true,.bool true,[],rfl,fun _=>rfl,.bool true,post_true l _,fun _=>⟨List.Pairwise.nil,fun _ hm=>(nomatch hm)⟩⟩,h2,h3,h4⟩
section
variable {prog:Program} {w:World} {A:Around} {E:Value->Shared->Prop} {s:Shared} {K:Frag}
end
end Att
namespace L2
open PySem PySem.Spec PyProof.Rows
theorem vals_ints:∀ {vs:List Value} {ns:List Int},IntsAre vs ns->Vals (ns.map V.int) vs
  | _,_,.nil=>.nil
  | _,_,.cons n t h=>.cons ⟨t,rfl⟩ (vals_ints h)
def Only (H:Hp):Prop:=∀ b,H b=none\/∃ o xs,H b=some (.frz o (.lst xs))
theorem law_call {P:Program} {w:World} {K:PySem.W.Frag} {mg mb:Str->Option Value} {CX:CXT} {k:Nat} {fa a:Addr} {fd:FuncData} {x:Str} {sp:Sp} {s₁:Shared} {vs:List Value} {ns:List Int}
    (KX:K.In s₁.heap) (hns:s₁.heap.Ns mainGlobals mg) (hb:s₁.heap.Ns builtinsNs mb) (hbb:∀ x:Str,x≠"__name__" -> mb x=bootBuiltins x) (hlim:s₁.heap.NoLimit) (hg:s₁.gens=#[])
    (ha:s₁.heap.get? a=some { cls:=.type "list",data:=.seq vs.toArray }) (hi:IntsAre vs ns) (hl:ns.length<=sizeLine) (hr:Room k callerA)
    (F:∀ base:Heap,K.In base->base.Ns mainGlobals mg->FnOk P w K mg base CX k fa fd [x] sp) (hbind:∀ (s:Shared) (u:Value),BindsTo s fd ⟨[u],[]⟩ [(x,u)])
    (hsp:∀ H:Hp,Only H->SqL K H a (ns.map V.int)->sp [.ref a] H (fun v _=>v=.bl true) fun _ _ _=>False)
    (hCX:∀ H e s',CX [] H s₁ (fun _ _ _=>False) e s'->False) :
    codeAny (model P w) callerA (.call (.ref fa) ⟨[.ref a],[]⟩) (fun r s'=>r=.ok (.ret (.bool true))/\OldK s₁.heap s'.heap/\s'.os=s₁.os/\AllBare s'.gens) s₁:=by
  have rv:=vals_ints hi
  have lenV:=hi.length
  have core:∀ H:Hp,Only H->SqL K H a (ns.map V.int)->HOk P w H s₁.heap->(∀ b,H b≠none->b=a)->(H a≠none->K.lookup a=none) ->
      codeAny (model P w) callerA (.call (.ref fa) ⟨[.ref a],[]⟩) (fun r s'=>r=.ok (.ret (.bool true))/\OldK s₁.heap s'.heap/\s'.os=s₁.os/\AllBare s'.gens) s₁:=by
    intro H hO hS hok hA hK
    have base_of:∀ {b:Addr} {o:Obj},s₁.heap.get? b=some o->H b=none->(hidT s₁.heap H).get? b=some o:=fun e n=>hidT_get e n
    have noA:∀ {b:Addr} {o:Obj} {es:Array DictEntry} {ep:Nat},s₁.heap.get? b=some o->o.data=.dict es ep->H b=none:=fun {b o es ep} e d=>by
      cases q:H b with
      | none=>rfl
      | some u=>
        have e':b=a:=hA b (by rw [q]; simp)
        subst e'
        rw [ha] at e; cases e
        have d':Data.seq vs.toArray _=Data.dict es ep:=d
        cases d'
    have nsK:∀ {b:Addr} {m:Str->Option Value},s₁.heap.Ns b m->(hidT s₁.heap H).Ns b m:=fun {b m} ⟨o,es,ep,e,d,r⟩=>⟨o,es,ep,base_of e (noA e d),d,r⟩
    have hKb:K.In (hidT s₁.heap H):=fun b o e=>base_of (KX b o e) (by
      cases q:H b with
      | none=>rfl
      | some u=>
        have e':b=a:=hA b (by rw [q]; simp)
        subst e'
        rw [hK (by rw [q]; simp)] at e; cases e)
    have hM:Mod K mg (hidT s₁.heap H):=⟨hKb,nsK hns,⟨mb,nsK hb,hbb⟩,let ⟨mc,h1,h2⟩:=hlim; ⟨mc,nsK h1,h2⟩⟩
    have e0:Env0 P w K mg (hidT s₁.heap H) callerA [] s₁ H:=⟨rfl,hM,fun b o e=>of_hidT e,Nat.le_of_eq (hidT_size _ _),trivial,fun b hb=>absurd (show b∈([]:List Addr) from hb) (by simp),hok,.of_eq hg⟩
    refine codeAny_mono ((F _ hKb (nsK hns)).run callerA [] s₁ H ⟨[.ref a],[]⟩ [.ref a] [.ref a] _ _ hr e0 (hbind s₁ (.ref a)) (.cons rfl .nil) (hsp H hO hS)) fun r s' h=>?_
    cases r with
    | error e=>exact (hCX H e s' h).elim
    | ok fl=>
      cases fl with
      | next=>exact False.elim h
      | brk=>exact False.elim h
      | cont=>exact False.elim h
      | ret u=>
        obtain ⟨v,H',os,bare,un,hok',r',q⟩:=h
        have q':v=.bl true:=q
        subst q'
        obtain rfl:u=Value.bool true:=r'
        refine ⟨rfl,OldK.of_keep fun b o e=>?_,os,bare⟩
        cases q:H b with
        | none=>exact un.keep b o e q (by intro z; exact absurd (show b∈([]:List Addr) from z) (by simp)) (by simp)
        | some u=>
          rcases hO b with z | ⟨ob,xs,z⟩
          · rw [q] at z; cases z
          · have z2:=un.frzs b ob _ z
            obtain ⟨e1,_⟩:=hok b _ z
            obtain ⟨e2,_⟩:=hok' b _ z2
            rw [e] at e1; cases e1
            exact e2
  cases hk:K.lookup a with
  | some o=>
    have e:=KX a o hk
    rw [ha] at e
    cases e
    refine core (fun _=>none) (fun _=>.inl rfl) (.inr ⟨_,vs.toArray,_,hk,rfl,rfl,rfl,by rw [O5,lenV]; exact hl,by simpa using rv⟩) (fun b u z=>by have z':(none:Option HO)=some u:=z; cases z') (fun b z=>absurd rfl z) fun z=>absurd rfl z
  | none=>
    refine core (fun b=>if b=a then some (.frz { cls:=.type "list",data:=.seq vs.toArray } (.lst (ns.map V.int))) else none) (fun b=>?_) (.inl (.inr ⟨{ cls:=.type "list",data:=.seq vs.toArray },if_pos rfl⟩)) (fun b u z=>?_) (fun b z=>?_) fun _=>hk
    · by_cases hb:b=a
      · exact .inr ⟨_,_,if_pos hb⟩
      · exact .inl (if_neg hb)
    · by_cases hb:b=a
      · have z':=(if_pos hb).symm.trans z
        cases z'
        subst hb
        exact ⟨ha,by rw [O2]; exact hl,vs,_,rv,ha⟩
      · have z':=(if_neg hb).symm.trans z
        cases z'
    · by_cases hb:b=a
      · exact hb
      · exact absurd (if_neg hb) z
end L2
namespace L2
open PySem PySem.Spec PyProof.Rows
theorem walk_of {l:PySem.W.OpenLaw} {n k:Nat} {q:Program} {loose:List Str} {XP:(Str->Option Value)->Heap->Prop} {YP:World->Heap->Prop} {d:DefRec} {K:Params->PySem.W.Frag} {CX:World->CXT} {sp:World->Sp} {x:Str}
    (hn:l.most=some n) (hn2:n<=sizeLine) (hdf:d.params.defaults=[]) (hr:Room k callerA)
    (hY:∀ (w:World) (h:Heap),YP w h->(K w.params).In h)
    (F:∀ (w:World) (mg:Str->Option Value) (fa:Addr) (h:Heap),(K w.params).In h->h.Ns mainGlobals mg->mg d.name=some (.ref fa) ->
      ∃ fd:FuncData,(∀ (s:Shared) (u:Value),BindsTo s fd ⟨[u],[]⟩ [(x,u)]) /\
        ∀ base:Heap,(K w.params).In base->base.Ns mainGlobals mg->FnOk l.prog w (K w.params) mg base (CX w) k fa fd [x] (sp w))
    (hsp:∀ (w:World) (H:Hp) (a:Addr) (ns:List Int),ns.length<=n->Only H->SqL (K w.params) H a (ns.map V.int)->sp w [.ref a] H (fun v _=>v=.bl true) fun _ _ _=>False)
    (hCX:∀ (w:World) (H:Hp) (s:Shared) (e:Value) (s':Shared),CX w [] H s (fun _ _ _=>False) e s'->False) :
    PySem.W.WalkO q loose XP YP l.row.toRowW d [] (fun f vs=>PySem.call f vs):=by
  refine Att.attach_call hn hdf fun w s₀ s₁ mg mb fa o pm cd doc a vs ns G Y ho hd hcd hmg hobj hints hlen hg=>?_
  have KX:=hY w _ Y
  obtain ⟨fd,hb,hF⟩:=F w mg fa _ KX G.T.g hmg
  exact law_call KX G.T.g G.T.b G.T.builtins G.T.nolimit hg hobj hints (D3 hlen hn2) hr hF hb (fun H hO hS=>hsp w H a ns hlen hO hS) fun H e s'=>hCX w H s₁ e s'
end L2
namespace L2
open PySem PySem.Spec PyProof.Rows
def defArgs (s:Stmt):Arguments:=match s with
  | .FunctionDef _ a _ _ _ _ _ _ _ _=>a
  | _=>{ posonlyargs:=[],args:=[],vararg:=none,kwonlyargs:=[],kw_defaults:=[],kwarg:=none,defaults:=[] }
def Jr (s:Stmt):List Stmt:=match s with
  | .FunctionDef _ _ b _ _ _ _ _ _ _=>b
  | _=>[]
def Q6 (s:Stmt):Scope:=match s with
  | .FunctionDef _ _ _ _ _ _ sc _ _ _=>sc
  | _=>{ kind:=.function,names:=[],isGenerator:=false,isCoroutine:=false }
abbrev E0:XK:=fun _ _ _=>False
structure Fun (K:PySem.W.Frag) (x qual:Str) (st:Stmt) (f:Addr) (fd:FuncData):Prop where
  ex:∃ (oc:Value) (od:Option Addr) (kV doc pm:Value) (an:Option Addr) (cdv ct:Value) (osl:Array (Option Value)),
    fd=PySem.W.fnOf x qual (defArgs st) (Jr st) (Q6 st) .none kV doc pm an cdv ct/\K.lookup f=some ⟨oc,od,.func fd,osl⟩/\PySem.W.codeIn K cdv qual=true
  kp:PySem.W.keepIn K (.ref f)=true
section
variable {P:Program} {w:World} {K:PySem.W.Frag} {mg:Str->Option Value} {base:Heap}
theorem Fun.binds {x qual:Str} {st:Stmt} {f:Addr} {fd:FuncData} {ps:List Str} (F:Fun K x qual st f fd)
    (h:∀ (kV doc pm:Value) (an:Option Addr) (cdv ct:Value) (us:List Value),us.length=ps.length->bindArgs (PySem.W.fnOf x qual (defArgs st) (Jr st) (Q6 st) .none kV doc pm an cdv ct) ⟨us,[]⟩=pure (ps.zip us)):Binds K fd ps []:=by
  obtain ⟨oc,od,kV,doc,pm,an,cdv,ct,osl,rfl,lk,hcd⟩:=F.ex
  exact .all (h kV doc pm an cdv ct)
theorem fun_mk {x qual:Str} {st:Stmt} {f:Addr} {oc:Value} {od an:Option Addr} {osl:Array (Option Value)} {kV doc pm cdv ct:Value} (l:K.lookup f=some ⟨oc,od,.func (PySem.W.fnOf x qual (defArgs st) (Jr st) (Q6 st) .none kV doc pm an cdv ct),osl⟩)
    (c:PySem.W.codeIn K cdv qual=true) (k:PySem.W.keepIn K (.ref f)=true):Fun K x qual st f (PySem.W.fnOf x qual (defArgs st) (Jr st) (Q6 st) .none kV doc pm an cdv ct):=⟨⟨oc,od,kV,doc,pm,an,cdv,ct,osl,rfl,l,c⟩,k⟩
end
section
variable {X:Cx}
theorem pv (i:Nat) {x:Str} {pos:Pos} (hN:X.N[i]?=some x:=by rfl) (hv:Vis X.env.scope x:=by first | exact Or.inl rfl | exact Or.inr (Or.inl rfl) | exact Or.inr (Or.inr rfl)) (hd:(x == ("__debug__" : Str))=false:=by decide)
    (hcd:(x == ("__classdict__" : Str))=false:=by decide):PE X (.Name x pos) (tVar i):=pe_var hN hv hd hcd
end
def Same (H H':Hp):Prop:=∀ b o,H b=some o->H' b=some o
theorem Same.refl (H:Hp):Same H H:=fun _ _ h=>h
end L2
namespace L2
open PySem PySem.Spec PyProof.Rows
section
variable {X:Cx} {tg:Expr}
end
end L2
namespace L2
open PySem PySem.Spec PyProof.Rows
theorem closure_of {scope:Scope} {env:Env} (h:∀ x∈scope.names,x.2=.free->∃ c,env.cells.lookup x.1=some c) :
    ∃ cl,closureFor scope env=pure cl/\(∀ x c,cl.lookup x=some c->env.cells.lookup x=some c)/\(∀ x∈scope.names,x.2=.free->∃ c,cl.lookup x.1=some c):=by
  have key:∀ (l:List (Str × NameKind)) (acc:List (Str × Addr)),(∀ x∈l,x.2=.free->∃ c,env.cells.lookup x.1=some c)->(∀ x c,acc.lookup x=some c->env.cells.lookup x=some c) ->
      ∃ cl,(forIn l acc fun (x:Str × NameKind) (r:List (Str × Addr))=>(match x with
        | (name,kind)=>if (kind == NameKind.free)=true then (do let c <- cellOf env name; pure (ForInStep.yield ((name,c) :: r))) else (do pure PUnit.unit; pure (ForInStep.yield r)):Sem (ForInStep (List (Str × Addr)))))=pure cl /\
        (∀ x c,cl.lookup x=some c->env.cells.lookup x=some c)/\(∀ x∈l,x.2=.free->∃ c,cl.lookup x.1=some c)/\(∀ x c,acc.lookup x=some c->∃ c',cl.lookup x=some c'):=by
    intro l
    induction l with
    | nil=>intro acc _ ha; exact ⟨acc,rfl,ha,fun x hx=>(by simp at hx),fun x c e=>⟨c,e⟩⟩
    | cons x r ih=>
      intro acc hl ha
      obtain ⟨n,k⟩:=x
      by_cases hk:k=.free
      · subst hk
        obtain ⟨c,hc⟩:=hl (n,.free) E4 rfl
        have ha':∀ x c',((n,c) :: acc).lookup x=some c'->env.cells.lookup x=some c':=fun x c' e=>by
          rw [List.lookup_cons] at e
          by_cases hx:x=n
          · subst hx; simp at e; rw [<- e]; exact hc
          · have:(x == n)=false:=by simpa using hx
            rw [this] at e; exact ha x c' e
        obtain ⟨cl,e1,e2,e3,e4⟩:=ih ((n,c) :: acc) (fun y hy=>hl y (O8 _ hy)) ha'
        refine ⟨cl,?_,e2,fun y hy hf=>?_,fun y c' e=>?_⟩
        · rw [List.forIn_cons]
          have hcell:cellOf env n=pure c:=by unfold cellOf; rw [hc]
          simp only [beq_self_eq_true,if_true,hcell]
          exact e1
        · rcases D1.mp hy with e | hy
          · subst e
            exact e4 n c (by simp)
          · exact e3 y hy hf
        · by_cases hy:y=n
          · subst hy; exact e4 y c (by simp)
          · have:(y == n)=false:=by simpa using hy
            exact e4 y c' (by rw [List.lookup_cons,this]; exact e)
      · obtain ⟨cl,e1,e2,e3,e4⟩:=ih acc (fun y hy=>hl y (O8 _ hy)) ha
        refine ⟨cl,?_,e2,fun y hy hf=>?_,e4⟩
        · rw [List.forIn_cons]
          have:(k == NameKind.free)=false:=by simpa using hk
          simp only [this,F3,if_false]
          exact e1
        · rcases D1.mp hy with e | hy
          · subst e; exact absurd hf hk
          · exact e3 y hy hf
  obtain ⟨cl,e1,e2,e3,_⟩:=key scope.names [] h (fun x c e=>by simp at e)
  refine ⟨cl,?_,e2,e3⟩
  unfold closureFor
  exact (congrArg (fun z=>z >>= pure) e1).trans rfl
theorem lookup_relab (f:Str->NameKind->NameKind) (x:Str):∀ l:List (Str × NameKind),(l.map fun y=>(y.1,f y.1 y.2)).lookup x=(l.lookup x).map (f x)
  | []=>rfl
  | (n,k) :: r=>by
    have ih:=lookup_relab f x r
    rw [D5,List.lookup_cons,List.lookup_cons]
    by_cases hx:x=n
    · subst hx; simp
    · have hb:(x == n)=false:=by simpa using hx
      rw [hb]; exact ih
theorem relabel_lookup {scope:Scope} {env:Env} {x:Str}:(relabel scope env).names.lookup x =
    (scope.names.lookup x).map fun k=>if (k == .free && env.scope.kind == .function && env.kindOf x == some .cell) then .cell else k:=by
  rw [<- lookup_relab (fun n k=>if (k == .free && env.scope.kind == .function && env.kindOf n == some .cell) then .cell else k)]
  unfold relabel
  refine congrArg (List.lookup x) (List.map_congr_left fun y _=>?_)
  obtain ⟨n,k⟩:=y
  show (if (k == NameKind.free && env.scope.kind == .function && env.kindOf n == some .cell)=true then (n,NameKind.cell) else (n,k))=_
  split <;> rfl
def capOf (cap:List (Option Nat)) (σ:St):St:=cap.map fun c=>c.bind fun j=>(σ[j]?).join
section
variable {prog:Program} {w:World} {A:Around} {R:Result->Shared->Prop} {s:Shared}
end
section
variable {X:Cx}
end
end L2
namespace L2
open PySem PySem.Spec PyProof.Rows
def HasItems (t:Bool) (h:Heap) (a:Addr) (items:Array Value):Prop:=if t=true then h.IsTuple a items else h.IsList a items
def IterAt (t:Bool) (h:Heap) (it a:Addr) (i:Nat):Prop:=if t=true then h.IsTupleIter it a i else h.IsListIter it a i
theorem HasItems.at {t:Bool} {h h':Heap} {a:Addr} {items:Array Value} (x:HasItems t h a items) (k:∀ o,h.get? a=some o->h'.get? a=some o):HasItems t h' a items:=by
  cases t
  · exact Heap.IsList.at x k
  · obtain ⟨o,e,r⟩:=x
    exact ⟨o,k o e,r⟩
theorem HasItems.there {t:Bool} {h:Heap} {a:Addr} {items:Array Value} (x:HasItems t h a items):∃ o,h.get? a=some o:=by
  cases t
  · obtain ⟨o,e,_⟩:=x; exact ⟨o,e⟩
  · obtain ⟨o,e,_⟩:=x; exact ⟨o,e⟩
theorem IterAt.at {t:Bool} {h h':Heap} {it a:Addr} {i:Nat} (x:IterAt t h it a i) (k:∀ o,h.get? it=some o->h'.get? it=some o):IterAt t h' it a i:=by
  cases t
  · exact Heap.IsListIter.at x k
  · obtain ⟨o,e,r⟩:=x
    exact ⟨o,k o e,r⟩
theorem IterAt.there {t:Bool} {h:Heap} {it a:Addr} {i:Nat} (x:IterAt t h it a i):∃ o,h.get? it=some o/\∀ v,o.data≠.cell v:=by
  cases t
  · obtain ⟨o,e,_,d⟩:=x; exact ⟨o,e,fun v z=>by rw [d] at z; cases z⟩
  · obtain ⟨o,e,_,d⟩:=x; exact ⟨o,e,fun v z=>by rw [d] at z; cases z⟩
section
variable {prog:Program} {w:World} {A:Around} {E:Value->Shared->Prop} {s:Shared}
theorem nextOf_tuple_item {it l:Addr} {i:Nat} {items} {x:Value} {Q:Value->Shared->Prop} (hit:s.heap.IsTupleIter it l i)
    (hl:s.heap.IsTuple l items) (hx:items[i]?=some x)
    (hQ:∀ h',h'.IsTupleIter it l (i + 1)->Heap.SameBut it s.heap h'->Q x { s with heap:=h' }) :
    wpAny (model prog w) A (Builtin.SmallTypes.nextOf (.ref it)) Q E s:=by
  obtain ⟨o,ho,hc,hd⟩:=id hit
  obtain ⟨ol,hol,_,nl,hdl⟩:=hl
  unfold Builtin.SmallTypes.nextOf
  refine wpAny_bind (wpAny_callSpecial?_slot (name:=Str.ofString "__next__") hit.typeIs F.slot_tuple_iterator_next
    (wpAny_call_entry F.slot_tuple_iterator_next hit.typeIs F.entry_tuple_iterator_next ?_ (F.args_tuple_iterator_next_1 _)))
  show wpAny _ _ (field (.ref it) 0 >>= _) _ _ s
  refine wpAny_bind (wpAny_field ho hd (x:=.ref l) rfl ?_)
  show wpAny _ _ (if (Value.ref l == Value.none)=true then _ else _) _ _ s
  rw [if_neg (show ¬ ((Value.ref l == Value.none)=true) from D6)]
  show wpAny _ _ (field (.ref it) 1 >>= _) _ _ s
  refine wpAny_bind (wpAny_field ho hd (x:=.int i 0) rfl ?_)
  show wpAny _ _ (seqItems? (.ref l) >>= _) _ _ s
  refine wpAny_bind (wpAny_seqItems hol hdl ?_)
  simp only [Int.toNat_natCast,hx]
  refine wpAny_bind (wpAny_setField ho hd (by simp) (wpAny_pure ⟨x,rfl,wpAny_pure (hQ _ ?_ (Heap.SameBut.update ..))⟩))
  exact ⟨_,L4 _ ho (Obj.isFreed_of_fields (Obj.data_mapFields hd _)),(Obj.cls_mapFields ..).trans hc,by
    rw [Obj.data_mapFields hd]; simp [rawInt]⟩
theorem nextOf_tuple_end {it l:Addr} {i:Nat} {items} {Q:Value->Shared->Prop} (hh:A.handled=none)
    (hit:s.heap.IsTupleIter it l i) (hl:s.heap.IsTuple l items) (hx:items[i]?=none)
    (hE:∀ h' e,Heap.ExtBut it s.heap h'->(∃ o,h'.get? e=some o/\o.cls=.type "StopIteration")->E (.ref e) { s with heap:=h' }) :
    wpAny (model prog w) A (Builtin.SmallTypes.nextOf (.ref it)) Q E s:=by
  obtain ⟨o,ho,hc,hd⟩:=id hit
  obtain ⟨ol,hol,_,nl,hdl⟩:=hl
  unfold Builtin.SmallTypes.nextOf
  refine wpAny_bind (wpAny_callSpecial?_slot (name:=Str.ofString "__next__") hit.typeIs F.slot_tuple_iterator_next
    (wpAny_call_entry F.slot_tuple_iterator_next hit.typeIs F.entry_tuple_iterator_next ?_ (F.args_tuple_iterator_next_1 _)))
  show wpAny _ _ (field (.ref it) 0 >>= _) _ _ s
  refine wpAny_bind (wpAny_field ho hd (x:=.ref l) rfl ?_)
  show wpAny _ _ (if (Value.ref l == Value.none)=true then _ else _) _ _ s
  rw [if_neg (show ¬ ((Value.ref l == Value.none)=true) from D6)]
  show wpAny _ _ (field (.ref it) 1 >>= _) _ _ s
  refine wpAny_bind (wpAny_field ho hd (x:=.int i 0) rfl ?_)
  show wpAny _ _ (seqItems? (.ref l) >>= _) _ _ s
  refine wpAny_bind (wpAny_seqItems hol hdl ?_)
  simp only [Int.toNat_natCast,hx]
  refine wpAny_bind (wpAny_rule (wpAny_bind (wpAny_setField ho hd (by simp) ?_)))
  show wpAny _ _ (newExc (.type "StopIteration") [] >>= _) _ _ _
  refine wpAny_bind ?_
  simp only [newExc,newTuple]
  refine wpAny_bind (wpAny_newObj_type ?_ (by size_fits))
  refine wpAny_bind (m:=firstArgMember _ _) (wpAny_of_eq (a:=Value.none) (by first | rfl | (simp only [firstArgMember]; rfl)) ?_)
  refine wpAny_newObj_type ?_ (by size_fits)
  simp only [raiseNew]
  refine wpAny_bind (wpAny_handled ?_)
  first | rw [show A.in1.handled=none from hh] | rw [hh]
  refine wpAny_bind (wpAny_pure (wpAny_throw ?_))
  exact hE _ _ (((Heap.SameBut.update ..).extBut.push _).push _) ⟨_,O7 _ rfl,rfl⟩
theorem nextOf_item {t:Bool} {it l:Addr} {i:Nat} {items:Array Value} {x:Value} {Q:Value->Shared->Prop} (hit:IterAt t s.heap it l i)
    (hl:HasItems t s.heap l items) (hx:items[i]?=some x)
    (hQ:∀ h',IterAt t h' it l (i + 1)->Heap.SameBut it s.heap h'->Q x { s with heap:=h' }) :
    wpAny (model prog w) A (Builtin.SmallTypes.nextOf (.ref it)) Q E s:=by
  cases t
  · exact wpAny_nextOf_list_item hit hl hx hQ
  · exact nextOf_tuple_item hit hl hx hQ
theorem nextOf_end {t:Bool} {it l:Addr} {i:Nat} {items:Array Value} {Q:Value->Shared->Prop} (hh:A.handled=none)
    (hit:IterAt t s.heap it l i) (hl:HasItems t s.heap l items) (hx:items[i]?=none)
    (hE:∀ h' e,Heap.ExtBut it s.heap h'->(∃ o,h'.get? e=some o/\o.cls=.type "StopIteration")->E (.ref e) { s with heap:=h' }) :
    wpAny (model prog w) A (Builtin.SmallTypes.nextOf (.ref it)) Q E s:=by
  cases t
  · exact wpAny_nextOf_list_end hh hit hl hx hE
  · exact nextOf_tuple_end hh hit hl hx hE
def iterObj (t:Bool) (l:Addr):Obj:=if t=true then { cls:=.type "tuple_iterator",data:=.fields #[.ref l,.int 0 0] } else { cls:=.type "list_iterator",data:=.fields #[.ref l,.int 0 0] }
theorem pyIter_seq {t:Bool} {l:Addr} {items:Array Value} {Q:Value->Shared->Prop} (hl:HasItems t s.heap l items)
    (hQ:Q (.ref s.heap.objs.size) { s with heap:=s.heap.push (iterObj t l) }):wpAny (model prog w) A (pyIter (.ref l)) Q E s:=by
  cases t
  · exact wpAny_pyIter_list hl hQ
  · exact wpAny_pyIter_tuple hl hQ
theorem iterObj_at {t:Bool} {h:Heap} {it l:Addr} (e:h.get? it=some (iterObj t l)):IterAt t h it l 0:=by
  cases t
  · exact ⟨_,e,rfl,rfl⟩
  · exact ⟨_,e,rfl,rfl⟩
theorem iterObj_free (t:Bool) (l:Addr):(iterObj t l).isFreed=false:=by cases t <;> rfl
theorem zipG_item {t1 t2:Bool} {z TI TO i1 i2 l1 l2:Addr} {k1 k2:Nat} {xs ys:Array Value} {x y a b:Value} {Q:Value->Shared->Prop} (D:ZipApart z TI TO i1 i2 l1 l2)
    (hz:IsZip s.heap z TI TO .none) (hTI:IsPair s.heap TI (.ref i1) (.ref i2)) (hTO:IsPair s.heap TO a b)
    (h1:IterAt t1 s.heap i1 l1 k1) (h2:IterAt t2 s.heap i2 l2 k2) (hl1:HasItems t1 s.heap l1 xs) (hl2:HasItems t2 s.heap l2 ys) (hx:xs[k1]?=some x) (hy:ys[k2]?=some y)
    (hQ:∀ h',IsZip h' z TI TO (rawInt s.heap.objs.size)->IsPair h' TO x y->IterAt t1 h' i1 l1 (k1 + 1)->IterAt t2 h' i2 l2 (k2 + 1)->IsPair h' s.heap.objs.size x y->h'.objs.size=s.heap.objs.size + 1 ->
      (∀ c o,c≠z->c≠TO->c≠i1->c≠i2->s.heap.get? c=some o->h'.get? c=some o)->Q (.ref s.heap.objs.size) { s with heap:=h' }) :
    wpAny (model prog w) A (Builtin.«zip.__next__» ⟨[.ref z],[]⟩) (fun fin s'=>∃ v,fin=.done (.ret v)/\Q v s') E s:=by
  show wpAny _ _ (field (.ref z) 2 >>= _) _ _ _
  refine wpAny_bind (wpAny_field hz rfl (x:=.bool false) rfl ?_)
  show wpAny _ _ (field (.ref z) 3 >>= _) _ _ _
  refine wpAny_bind (wpAny_field hz rfl (x:=.ref TI) rfl ?_)
  refine wpAny_bind (wpAny_seqItems hTI rfl ?_)
  show wpAny _ _ (Builtin.SmallTypes.ownedTupleIsFree (.ref z) >>= _) _ _ _
  refine wpAny_bind ?_
  unfold Builtin.SmallTypes.ownedTupleIsFree
  refine wpAny_bind (wpAny_field hz rfl (x:=.none) rfl (wpAny_pure ?_))
  simp only [if_true]
  refine wpAny_bind (wpAny_rule ?_)
  refine wpAny_bind (wpAny_field hz rfl (x:=.ref TO) rfl ?_)
  refine wpAny_bind (wpAny_setField_rec hz (by simp) fun h₁ hz₁ hs₁=>?_)
  replace hz₁:IsZip h₁ z TI TO .ellipsis:=hz₁
  refine wpAny_bind ?_
  simp only [List.zipIdx_cons,List.zipIdx_nil,List.forIn_cons,List.forIn_nil]
  refine wpAny_bind (wpAny_bind (wpAny_onRaise ?_))
  show wpAny _ _ (Builtin.SmallTypes.nextOf (.ref i1) >>= _) _ _ _
  refine wpAny_bind (nextOf_item (h1.at fun o e=>hs₁.extBut _ _ D.i1z e) (hl1.at fun o e=>hs₁.extBut _ _ D.l1z e) hx fun h₂ h1₂ hs₂=>wpAny_pure ?_)
  have hTO₂:IsPair h₂ TO a b:=hs₂.extBut _ _ D.TOi1 (hs₁.extBut _ _ D.TOz hTO)
  refine wpAny_bind (wpAny_seqItems hTO₂ rfl ?_)
  refine wpAny_bind (wpAny_updateSeq_pair hTO₂ fun h₃ hTO₃ hs₃=>?_)
  replace hTO₃:IsPair h₃ TO x b:=hTO₃
  refine wpAny_bind (wpAny_letGo (wpAny_pure ?_))
  refine wpAny_bind (wpAny_bind (wpAny_onRaise ?_))
  show wpAny _ _ (Builtin.SmallTypes.nextOf (.ref i2) >>= _) _ _ _
  refine wpAny_bind (nextOf_item (h2.at fun o e=>hs₃.extBut _ _ D.TOi2.symm (hs₂.extBut _ _ D.i12.symm (hs₁.extBut _ _ D.i2z e)))
    (hl2.at fun o e=>hs₃.extBut _ _ D.l2TO (hs₂.extBut _ _ D.l2i1 (hs₁.extBut _ _ D.l2z e))) hy fun h₄ h2₄ hs₄=>wpAny_pure ?_)
  have hTO₄:IsPair h₄ TO x b:=hs₄.extBut _ _ D.TOi2 hTO₃
  refine wpAny_bind (wpAny_seqItems hTO₄ rfl ?_)
  refine wpAny_bind (wpAny_updateSeq_pair hTO₄ fun h₅ hTO₅ hs₅=>?_)
  replace hTO₅:IsPair h₅ TO x y:=hTO₅
  refine wpAny_bind (wpAny_letGo (wpAny_pure (wpAny_pure ?_)))
  refine wpAny_bind (wpAny_seqItems hTO₅ rfl ?_)
  refine wpAny_bind (wpAny_newTuple ?_)
  have hsz:h₅.objs.size=s.heap.objs.size:=by rw [hs₅.1,hs₄.1,hs₃.1,hs₂.1,hs₁.1]
  have hz₅:IsZip h₅ z TI TO .ellipsis:=hs₅.extBut _ _ D.TOz.symm (hs₄.extBut _ _ D.i2z.symm (hs₃.extBut _ _ D.TOz.symm (hs₂.extBut _ _ D.i1z.symm hz₁)))
  have hk₅:∀ c o,c≠z->c≠TO->c≠i1->c≠i2->s.heap.get? c=some o->h₅.get? c=some o:=fun c o c1 c2 c3 c4 e=>
    hs₅.extBut _ _ c2 (hs₄.extBut _ _ c4 (hs₃.extBut _ _ c2 (hs₂.extBut _ _ c3 (hs₁.extBut _ _ c1 e))))
  have h1₅:IterAt t1 h₅ i1 l1 (k1 + 1):=h1₂.at fun o e=>hs₅.extBut _ _ D.TOi1.symm (hs₄.extBut _ _ D.i12 (hs₃.extBut _ _ D.TOi1.symm e))
  have h2₅:IterAt t2 h₅ i2 l2 (k2 + 1):=h2₄.at fun o e=>hs₅.extBut _ _ D.TOi2.symm e
  have hzlt:z < h₅.objs.size:=O6 hz₅
  show wpAny _ _ (Builtin.SmallTypes.ownedTupleHandOut (.ref z) (.ref h₅.objs.size) >>= _) _ _ _
  refine wpAny_bind ?_
  unfold Builtin.SmallTypes.ownedTupleHandOut
  have hz₆:IsZip (h₅.push { cls:=.type "tuple",data:=.seq #[x,y] }) z TI TO .ellipsis:=O0 _ hz₅
  refine wpAny_bind (wpAny_setField_rec hz₆ (by simp) fun h₇ hz₇ hs₇=>?_)
  replace hz₇:IsZip h₇ z TI TO (rawInt h₅.objs.size):=hz₇
  refine wpAny_setField_rec hz₇ (by simp) fun h₈ hz₈ hs₈=>?_
  replace hz₈:IsZip h₈ z TI TO (rawInt h₅.objs.size):=hz₈
  have up:∀ c o,c≠z->h₅.get? c=some o->h₈.get? c=some o:=fun c o c1 e=>hs₈.extBut _ _ c1 (hs₇.extBut _ _ c1 (O0 _ e))
  have hT₈:IsPair h₈ h₅.objs.size x y:=hs₈.extBut _ _ (Nat.ne_of_gt hzlt) (hs₇.extBut _ _ (Nat.ne_of_gt hzlt) (O7 _ rfl))
  have hz8:h₈.objs.size=h₅.objs.size + 1:=by rw [hs₈.1,hs₇.1,E7]
  rw [hsz] at hz₈ hT₈ hz8
  refine wpAny_pure ⟨_,rfl,?_⟩
  show Q (.ref h₅.objs.size) _
  rw [hsz]
  exact hQ h₈ hz₈ (up _ _ D.TOz hTO₅) (h1₅.at fun o e=>up _ o D.i1z e) (h2₅.at fun o e=>up _ o D.i2z e) hT₈ hz8 fun c o c1 c2 c3 c4 e=>up c o c1 (hk₅ c o c1 c2 c3 c4 e)
theorem zipG_end {t1 t2:Bool} {z TI TO i1 i2 l1 l2:Addr} {k1 k2:Nat} {xs ys:Array Value} {a b:Value} {Q:Fin->Shared->Prop} (hh:A.handled=none) (D:ZipApart z TI TO i1 i2 l1 l2)
    (hz:IsZip s.heap z TI TO .none) (hTI:IsPair s.heap TI (.ref i1) (.ref i2)) (hTO:IsPair s.heap TO a b)
    (h1:IterAt t1 s.heap i1 l1 k1) (h2:IterAt t2 s.heap i2 l2 k2) (hl1:HasItems t1 s.heap l1 xs) (hl2:HasItems t2 s.heap l2 ys) (hend:xs[k1]?=none\/ys[k2]?=none)
    (hE:∀ h' e,(∀ c o,c≠z->c≠TO->c≠i1->c≠i2->s.heap.get? c=some o->h'.get? c=some o)->(∃ o,h'.get? e=some o/\o.cls=.type "StopIteration")->E (.ref e) { s with heap:=h' }) :
    wpAny (model prog w) A (Builtin.«zip.__next__» ⟨[.ref z],[]⟩) Q E s:=by
  show wpAny _ _ (field (.ref z) 2 >>= _) _ _ _
  refine wpAny_bind (wpAny_field hz rfl (x:=.bool false) rfl ?_)
  show wpAny _ _ (field (.ref z) 3 >>= _) _ _ _
  refine wpAny_bind (wpAny_field hz rfl (x:=.ref TI) rfl ?_)
  refine wpAny_bind (wpAny_seqItems hTI rfl ?_)
  show wpAny _ _ (Builtin.SmallTypes.ownedTupleIsFree (.ref z) >>= _) _ _ _
  refine wpAny_bind ?_
  unfold Builtin.SmallTypes.ownedTupleIsFree
  refine wpAny_bind (wpAny_field hz rfl (x:=.none) rfl (wpAny_pure ?_))
  simp only [if_true]
  refine wpAny_bind (wpAny_rule ?_)
  refine wpAny_bind (wpAny_field hz rfl (x:=.ref TO) rfl ?_)
  refine wpAny_bind (wpAny_setField_rec hz (by simp) fun h₁ hz₁ hs₁=>?_)
  replace hz₁:IsZip h₁ z TI TO .ellipsis:=hz₁
  refine wpAny_bind ?_
  simp only [List.zipIdx_cons,List.zipIdx_nil,List.forIn_cons,List.forIn_nil]
  refine wpAny_bind (wpAny_bind (wpAny_onRaise ?_))
  show wpAny _ _ (Builtin.SmallTypes.nextOf (.ref i1) >>= _) _ _ _
  cases hx:xs[k1]? with
  | none=>
    refine wpAny_bind (nextOf_end hh (h1.at fun o e=>hs₁.extBut _ _ D.i1z e) (hl1.at fun o e=>hs₁.extBut _ _ D.l1z e) hx fun h₂ e hs₂ he=>?_)
    obtain ⟨oe,hoe,hce⟩:=he
    have hz₂:IsZip h₂ z TI TO .ellipsis:=hs₂ _ _ D.i1z.symm hz₁
    have hez:e≠z:=fun x=>by subst x; rw [hz₂] at hoe; cases hoe; simp at hce
    refine wpAny_setField_rec hz₂ (by simp) fun h₃ _ hs₃=>hE h₃ e (fun c o c1 _ c3 _ x=>hs₃.extBut _ _ c1 (hs₂ _ _ c3 (hs₁.extBut _ _ c1 x))) ⟨oe,hs₃.extBut _ _ hez hoe,hce⟩
  | some x=>
    have hy:ys[k2]?=none:=by rcases hend with h | h; rw [hx] at h; cases h; exact h
    refine wpAny_bind (nextOf_item (h1.at fun o e=>hs₁.extBut _ _ D.i1z e) (hl1.at fun o e=>hs₁.extBut _ _ D.l1z e) hx fun h₂ h1₂ hs₂=>wpAny_pure ?_)
    have hTO₂:IsPair h₂ TO a b:=hs₂.extBut _ _ D.TOi1 (hs₁.extBut _ _ D.TOz hTO)
    refine wpAny_bind (wpAny_seqItems hTO₂ rfl ?_)
    refine wpAny_bind (wpAny_updateSeq_pair hTO₂ fun h₃ hTO₃ hs₃=>?_)
    refine wpAny_bind (wpAny_letGo (wpAny_pure ?_))
    refine wpAny_bind (wpAny_bind (wpAny_onRaise ?_))
    show wpAny _ _ (Builtin.SmallTypes.nextOf (.ref i2) >>= _) _ _ _
    refine wpAny_bind (nextOf_end hh (h2.at fun o e=>hs₃.extBut _ _ D.TOi2.symm (hs₂.extBut _ _ D.i12.symm (hs₁.extBut _ _ D.i2z e)))
      (hl2.at fun o e=>hs₃.extBut _ _ D.l2TO (hs₂.extBut _ _ D.l2i1 (hs₁.extBut _ _ D.l2z e))) hy fun h₄ e hs₄ he=>?_)
    obtain ⟨oe,hoe,hce⟩:=he
    have hz₄:IsZip h₄ z TI TO .ellipsis:=hs₄ _ _ D.i2z.symm (hs₃.extBut _ _ D.TOz.symm (hs₂.extBut _ _ D.i1z.symm hz₁))
    have hez:e≠z:=fun x=>by subst x; rw [hz₄] at hoe; cases hoe; simp at hce
    refine wpAny_setField_rec hz₄ (by simp) fun h₅ _ hs₅=>hE h₅ e (fun c o c1 c2 c3 c4 x=>hs₅.extBut _ _ c1 (hs₄ _ _ c4 (hs₃.extBut _ _ c2 (hs₂.extBut _ _ c3 (hs₁.extBut _ _ c1 x))))) ⟨oe,hs₅.extBut _ _ hez hoe,hce⟩
theorem next_zipG_item {t1 t2:Bool} {z TI TO i1 i2 l1 l2:Addr} {k1 k2:Nat} {xs ys:Array Value} {x y a b:Value} {Q:Option Value->Shared->Prop} (D:ZipApart z TI TO i1 i2 l1 l2)
    (hz:IsZip s.heap z TI TO .none) (hTI:IsPair s.heap TI (.ref i1) (.ref i2)) (hTO:IsPair s.heap TO a b)
    (h1:IterAt t1 s.heap i1 l1 k1) (h2:IterAt t2 s.heap i2 l2 k2) (hl1:HasItems t1 s.heap l1 xs) (hl2:HasItems t2 s.heap l2 ys) (hx:xs[k1]?=some x) (hy:ys[k2]?=some y)
    (hQ:∀ h',IsZip h' z TI TO (rawInt s.heap.objs.size)->IsPair h' TO x y->IterAt t1 h' i1 l1 (k1 + 1)->IterAt t2 h' i2 l2 (k2 + 1)->IsPair h' s.heap.objs.size x y->h'.objs.size=s.heap.objs.size + 1 ->
      (∀ c o,c≠z->c≠TO->c≠i1->c≠i2->s.heap.get? c=some o->h'.get? c=some o)->Q (some (.ref s.heap.objs.size)) { s with heap:=h' }) :
    wpAny (model prog w) A (pyNext (.ref z)) Q E s:=by
  have hT:s.TypeIs (.ref z) "zip" := ⟨_,hz,rfl⟩
  unfold pyNext
  exact wpAny_bind (wpAny_attempt (wpAny_callSpecial?_slot (name:=Str.ofString "__next__") hT F.slot_zip_next
    (wpAny_call_entry F.slot_zip_next hT F.entry_zip_next
      (zipG_item D hz hTI hTO h1 h2 hl1 hl2 hx hy fun h' a1 a2 a3 a4 a5 a6 a7=>wpAny_pure (hQ h' a1 a2 a3 a4 a5 a6 a7)) (F.args_zip_next_1 _))))
theorem next_zipG_end {t1 t2:Bool} {z TI TO i1 i2 l1 l2:Addr} {k1 k2:Nat} {xs ys:Array Value} {a b:Value} {Q:Option Value->Shared->Prop} (hh:A.handled=none) (D:ZipApart z TI TO i1 i2 l1 l2)
    (hz:IsZip s.heap z TI TO .none) (hTI:IsPair s.heap TI (.ref i1) (.ref i2)) (hTO:IsPair s.heap TO a b)
    (h1:IterAt t1 s.heap i1 l1 k1) (h2:IterAt t2 s.heap i2 l2 k2) (hl1:HasItems t1 s.heap l1 xs) (hl2:HasItems t2 s.heap l2 ys) (hend:xs[k1]?=none\/ys[k2]?=none)
    (hQ:∀ h',(∀ c o,c≠z->c≠TO->c≠i1->c≠i2->s.heap.get? c=some o->h'.get? c=some o)->Q none { s with heap:=h' }):wpAny (model prog w) A (pyNext (.ref z)) Q E s:=by
  have hT:s.TypeIs (.ref z) "zip" := ⟨_,hz,rfl⟩
  unfold pyNext
  refine wpAny_bind (wpAny_attempt (wpAny_callSpecial?_slot (name:=Str.ofString "__next__") hT F.slot_zip_next
    (wpAny_call_entry F.slot_zip_next hT F.entry_zip_next (zipG_end hh D hz hTI hTO h1 h2 hl1 hl2 hend fun h' e hk he=>?_) (F.args_zip_next_1 _))))
  obtain ⟨o,ho,hc⟩:=he
  refine wpAny_bind (wpAny_isInstance (T := "StopIteration") (b:=true) ⟨o,ho,hc⟩ isSubtype_stop ?_)
  exact wpAny_pure (hQ _ hk)
end
def zH1 (t1:Bool) (h:Heap) (l1:Addr):Heap:=h.push (iterObj t1 l1)
def zH2 (t1 t2:Bool) (h:Heap) (l1 l2:Addr):Heap:=(zH1 t1 h l1).push (iterObj t2 l2)
def zH3 (t1 t2:Bool) (h:Heap) (l1 l2:Addr):Heap:=(zH2 t1 t2 h l1 l2).push { cls:=.type "tuple",data:=.seq #[.ref h.objs.size,.ref (zH1 t1 h l1).objs.size] }
def zH4 (t1 t2:Bool) (h:Heap) (l1 l2:Addr):Heap:=(zH3 t1 t2 h l1 l2).push { cls:=.type "tuple",data:=.seq #[.none,.none] }
def zH5 (t1 t2:Bool) (h:Heap) (l1 l2:Addr):Heap:=(zH4 t1 t2 h l1 l2).push { cls:=.type "zip",data:=.fields #[.none,.bool false,.bool false,.ref (zH2 t1 t2 h l1 l2).objs.size,.ref (zH3 t1 t2 h l1 l2).objs.size] }
theorem meets_zipG_new (t1 t2:Bool) (l1 l2:Addr) (xs ys:Array Value) :
    Meets (Builtin.«zip.__new__» ⟨[.type "zip",.ref l1,.ref l2],[]⟩) (fun _ R s=>HasItems t1 s.heap l1 xs/\HasItems t2 s.heap l2 ys /\
      R (.ok (.ret (.ref (zH4 t1 t2 s.heap l1 l2).objs.size))) { s with heap:=zH5 t1 t2 s.heap l1 l2 }):=
  .of_wp fun prog w A R s h=>by
    obtain ⟨hp,g,d,tk,os⟩:=s; obtain ⟨hl1,hl2,h⟩:=h
    have hsub:=sub_zip
    have hL1:HasItems t1 (Shared.heap ⟨hp,g,d,tk,os⟩) l1 xs:=hl1
    have hL2:HasItems t2 (Shared.heap ⟨hp.push (iterObj t1 l1),g,d,tk,os⟩) l2 ys:=hl2.at fun o e=>O0 _ e
    wp_walk using pyIter_seq hL1,pyIter_seq hL2
    exact ⟨_,rfl,h⟩
section
variable {prog:Program} {w:World} {A:Around} {E:Value->Shared->Prop} {s:Shared}
theorem call_zipG {t1 t2:Bool} {l1 l2:Addr} {xs ys:Array Value} {Q:Value->Shared->Prop} (hl1:HasItems t1 s.heap l1 xs) (hl2:HasItems t2 s.heap l2 ys)
    (h:∀ h',IsZip h' (s.heap.objs.size + 4) (s.heap.objs.size + 2) (s.heap.objs.size + 3) .none->IsPair h' (s.heap.objs.size + 2) (.ref s.heap.objs.size) (.ref (s.heap.objs.size + 1)) ->
      IsPair h' (s.heap.objs.size + 3) .none .none->IterAt t1 h' s.heap.objs.size l1 0->IterAt t2 h' (s.heap.objs.size + 1) l2 0->h'.objs.size=s.heap.objs.size + 5 ->
      (∀ c o,s.heap.get? c=some o->h'.get? c=some o)->Q (.ref (s.heap.objs.size + 4)) { s with heap:=h' }) :
    wpAny (model prog w) A (call (.type "zip") [.ref l1,.ref l2]) Q E s:=by
  refine callType_new F.called_zip (by decide) (F.typeCall_zip_2 _ _) (F.newCall_zip_2 _ _) (fun obj=>F.args_object_init_3 obj _ _) F.entry_zip_new
    (meets_zipG_new t1 t2 l1 l2 xs ys) ⟨hl1,hl2,?_⟩
  have z1:(zH1 t1 s.heap l1).objs.size=s.heap.objs.size + 1:=E7 ..
  have z2:(zH2 t1 t2 s.heap l1 l2).objs.size=s.heap.objs.size + 2:=by unfold zH2; rw [E7,z1]
  have z3:(zH3 t1 t2 s.heap l1 l2).objs.size=s.heap.objs.size + 3:=by unfold zH3; rw [E7,z2]
  have z4:(zH4 t1 t2 s.heap l1 l2).objs.size=s.heap.objs.size + 4:=by unfold zH4; rw [E7,z3]
  have z5:(zH5 t1 t2 s.heap l1 l2).objs.size=s.heap.objs.size + 5:=by unfold zH5; rw [E7,z4]
  have g5:(zH5 t1 t2 s.heap l1 l2).get? (zH4 t1 t2 s.heap l1 l2).objs.size=some { cls:=.type "zip",data:=.fields #[.none,.bool false,.bool false,.ref (zH2 t1 t2 s.heap l1 l2).objs.size,.ref (zH3 t1 t2 s.heap l1 l2).objs.size] }:=O7 _ rfl
  have g4:(zH5 t1 t2 s.heap l1 l2).get? (zH3 t1 t2 s.heap l1 l2).objs.size=some { cls:=.type "tuple",data:=.seq #[.none,.none] }:=O0 _ (O7 _ rfl)
  have g3:(zH5 t1 t2 s.heap l1 l2).get? (zH2 t1 t2 s.heap l1 l2).objs.size=some { cls:=.type "tuple",data:=.seq #[.ref s.heap.objs.size,.ref (zH1 t1 s.heap l1).objs.size] }:=O0 _ (O0 _ (O7 _ rfl))
  have g2:(zH5 t1 t2 s.heap l1 l2).get? (zH1 t1 s.heap l1).objs.size=some (iterObj t2 l2):=O0 _ (O0 _ (O0 _ (O7 _ (iterObj_free _ _))))
  have g1:(zH5 t1 t2 s.heap l1 l2).get? s.heap.objs.size=some (iterObj t1 l1):=O0 _ (O0 _ (O0 _ (O0 _ (O7 _ (iterObj_free _ _)))))
  show _/\_
  rw [z2,z3,z4] at g5
  rw [z1,z2] at g3
  rw [z3] at g4
  rw [z1] at g2
  rw [z4]
  exact ⟨⟨_,g5,rfl⟩,h _ g5 g3 g4 (iterObj_at g1) (iterObj_at g2) z5 fun c o x=>
    O0 _ (O0 _ (O0 _ (O0 _ (O0 _ x))))⟩
end
def SqK (K:PySem.W.Frag) (t:Bool) (H:Hp) (a:Addr) (xs:List V):Prop:=if t=true then SqT K H a xs else SqL K H a xs
section
variable {X:Cx} {pins:List (Addr × Obj)} {σ:St} {H:Hp} {s:Shared}
theorem Inv.seqK {t:Bool} {a:Addr} {xs:List V} (I:Inv X pins σ H s) (h:SqK X.K t H a xs):∃ its:List Value,Vals xs its/\HasItems t s.heap a its.toArray/\xs.length<=sizeLine:=by
  cases t
  · obtain ⟨its,r,p,z⟩:=I.list h
    exact ⟨its,r,p.isList,z⟩
  · obtain ⟨its,r,p,z⟩:=I.tuple h
    exact ⟨its,r,p,z⟩
theorem Inv.seqK_inj {t:Bool} {a:Addr} {xs ys:List V} (I:Inv X pins σ H s) (h:SqK X.K t H a xs) (h':SqK X.K t H a ys):xs=ys:=by
  cases t
  · exact I.list_inj h h'
  · exact I.tuple_inj h h'
theorem Inv.turnedL {t':Nat} {its:List Addr} {h':Heap} (I:Inv X pins σ H s) (k:∀ b o,b∉its->s.heap.get? b=some o->h'.get? b=some o) (hf:∀ b∈its,FpOk X pins H b):Inv X pins σ H { s with heap:=h',toks:=t' }:=by
  have nit:∀ b u,H b=some u->b∉its:=fun b u e z=>by rw [(hf b z).1] at e; cases e
  refine I.step (g':=s.gens) (d':=s.drawn) (ch:=its) (fun b hb=>?_) (fun b o _ _ hc e _=>k b o hc e) (fun b o _ _ hc e _=>⟨o.slots,k b o hc e⟩) (fun _ _ _ _ n=>n)
    (fun b o hc e=>⟨o,k b o hc e⟩) (fun _ _ e=>e) (fun _ _ _ e=>e) (fun b ps e=>⟨#[],by rw [e]; simp⟩) (fun m hm=>?_) (fun b u e=>?_) I.bare
  · obtain ⟨f0,f1,f2,f3,f4,f5⟩:=hf b hb
    exact ⟨f3,f1,f4,f5⟩
  · obtain ⟨o,es,ep,ho,r⟩:=hm
    exact ⟨o,es,ep,k _ o (fun z=>(hf _ z).2.1 rfl) ho,r⟩
  · refine (I.hok b u e).stay (fun c v hc q=>k c v ?_ q) (fun _ q=>q) fun _ _ q=>q
    rcases hc with z | z
    · rw [z]; exact nit b u e
    · exact nit c _ z
end
def Itz (K:PySem.W.Frag) (t1 t2:Bool) (a b:Addr):It:=
  ⟨fun i H=>∃ xs ys x y,SqK K t1 H a xs/\SqK K t2 H b ys/\xs[i]?=some x/\ys[i]?=some y,
   fun i H v H'=>∃ p x y,H p=none/\v=.ref p/\H'=upd H p (.tup [x,y])/\∀ xs ys,SqK K t1 H a xs->SqK K t2 H b ys->xs[i]?=some x/\ys[i]?=some y,
   fun i H=>∃ xs ys,SqK K t1 H a xs/\SqK K t2 H b ys/\(xs.length<=i\/ys.length<=i)⟩
def zipSt (t1 t2:Bool) (z TI TO i1 i2 a b:Addr) (i:Nat) (h:Heap):Prop:=
  IsZip h z TI TO .none/\IsPair h TI (.ref i1) (.ref i2)/\(∃ u v,IsPair h TO u v)/\IterAt t1 h i1 a i/\IterAt t2 h i2 b i
theorem pair_cell {a b:Value}:∀ v,({ cls:=.type "tuple",data:=.seq #[a,b] }:Obj).data≠.cell v:=fun v z=>by cases z
theorem turn_zip {P:Program} {w:World} {K:PySem.W.Frag} {elts:List Expr} {k:Nat} {pos:Pos} {t1 t2:Bool} {z TI TO i1 i2 a b:Addr} (D:ZipApart z TI TO i1 i2 a b) :
    Turn P w K (.Tuple elts k pos) (Itz K t1 t2 a b) [z,TI,TO,i1,i2] z (zipSt t1 t2 z TI TO i1 i2 a b) where
  mem:=by simp
  obj:=fun i h st c hc=>by
    obtain ⟨hz,hTI,⟨u,v,hTO⟩,h1,h2⟩:=st
    simp at hc
    rcases hc with rfl | rfl | rfl | rfl | rfl
    · exact ⟨_,hz,fun v q=>by cases q⟩
    · exact ⟨_,hTI,pair_cell⟩
    · exact ⟨_,hTO,pair_cell⟩
    · exact h1.there
    · exact h2.there
  keep:=fun i h h' st kk=>by
    obtain ⟨hz,hTI,⟨u,v,hTO⟩,h1,h2⟩:=st
    exact ⟨kk z (by simp) _ hz,kk TI (by simp) _ hTI,⟨u,v,kk TO (by simp) _ hTO⟩,h1.at fun o e=>kk i1 (by simp) o e,h2.at fun o e=>kk i2 (by simp) o e⟩
  item:=by
    intro X hP hw hK hc i pins s σ H E I hf st hg
    subst hP hw hK
    obtain ⟨xs,ys,x,y,hq1,hq2,hx,hy⟩:=hg
    obtain ⟨hz,hTI,⟨u,v,hTO⟩,h1,h2⟩:=st
    obtain ⟨its,rv,p,_⟩:=I.seqK hq1
    obtain ⟨its2,rv2,p2,_⟩:=I.seqK hq2
    obtain ⟨ux,hux,rux⟩:=rv.get hx
    obtain ⟨uy,huy,ruy⟩:=rv2.get hy
    refine next_zipG_item D hz hTI hTO h1 h2 p p2 (x:=ux) (y:=uy) (by simpa using hux) (by simpa using huy) fun h' a1 a2 a3 a4 a5 a6 a7=>⟨_,rfl,?_⟩
    refine wpAny_letOwnedTupleGo_zip (s:={ s with heap:=h' }) a1 fun h'' b1 b2=>?_
    have hfr:H s.heap.objs.size=none:=I.fresh
    have zlt:z < s.heap.objs.size:=O6 hz
    have TIlt:TI < s.heap.objs.size:=O6 hTI
    have TOlt:TO < s.heap.objs.size:=O6 hTO
    have i1lt:i1 < s.heap.objs.size:=by obtain ⟨o,e,_⟩:=h1.there; exact O6 e
    have i2lt:i2 < s.heap.objs.size:=by obtain ⟨o,e,_⟩:=h2.there; exact O6 e
    have I1:Inv X pins σ H { s with heap:=h'' }:=I.turnedL (t':=s.toks) (its:=[z,TO,i1,i2]) (fun c o hc e=>(b2.2 c (fun q=>hc (by simp [q]))).trans (a7 c o (fun q=>hc (by simp [q])) (fun q=>hc (by simp [q])) (fun q=>hc (by simp [q])) (fun q=>hc (by simp [q])) e))
      fun c hc=>hf c (by simp at hc ⊢; rcases hc with rfl | rfl | rfl | rfl <;> simp)
    have tupAt:IsPair h'' s.heap.objs.size ux uy:=(b2.2 _ (Nat.ne_of_gt zlt)).trans a5
    have fsz:H s.heap.objs.size=none:=hfr
    have I2:Inv X pins σ (upd H s.heap.objs.size (.tup [x,y])) { s with heap:=h'' }:=by
      refine ⟨I1.ok,I1.os,I1.bare,?_,I1.loc,I1.cell,?_,?_,?_,?_,I1.len⟩
      · have u0:=I1.base
        have old:∀ c o,X.s₀.heap.get? c=some o->c≠s.heap.objs.size:=fun c o e=>O9 (D0 (O6 e) I.sz)
        exact ⟨u0.keep,u0.slot,fun c o e n hx=>by rw [Q7 (old c o e)]; exact u0.free c o e n hx,u0.there,
          fun c ts e=>by have:=u0.tups c ts e; rw [Q7 (Q8 this fsz)]; exact this,
          fun c o ts e=>by have:=u0.frzs c o ts e; rw [Q7 (Q8 this fsz)]; exact this,
          fun c ps e=>by obtain ⟨more,q⟩:=u0.tbls c ps e; exact ⟨more,by rw [Q7 (Q8 q fsz)]; exact q⟩⟩
      · rw [Q7 (O9 I.lt)]; exact I.free
      · intro x' c e
        obtain ⟨v',q⟩:=I.cell x' c e
        rw [Q7 (O9 q.lt)]; exact I.freeC x' c e
      · intro p' hp'
        obtain ⟨e,n,ne,nf,d⟩:=I1.pin p' hp'
        have e0:=(I.pin p' hp').1
        exact ⟨e,by rw [Q7 (O9 (O6 e0))]; exact n,ne,nf,d⟩
      · intro c o q
        by_cases hcs:c=s.heap.objs.size
        · subst hcs
          rw [Qu] at q; cases q
          exact ⟨by simp only [E8,List.length_nil]; rw [sizeLine_eq]; decide,[ux,uy],.cons rux (.cons ruy .nil),⟨_,tupAt,rfl,0,rfl⟩⟩
        · rw [Q7 hcs] at q
          exact (I1.hok c o q).stay (fun _ _ _ r=>r) (fun c' r=>by rw [Q7 (Q8 r fsz)]; exact r) fun c' ts r=>by rw [Q7 (Q8 r fsz)]; exact r
    refine ⟨.ref s.heap.objs.size,_,I2,rfl,⟨s.heap.objs.size,x,y,fsz,rfl,rfl,fun xs' ys' q1 q2=>?_⟩,?_,fun c hc=>?_⟩
    · rw [I.seqK_inj q1 hq1,I.seqK_inj q2 hq2]; exact ⟨hx,hy⟩
    · exact ⟨b1,b2.extBut _ _ D.TIz (a7 _ _ D.TIz D.TITO D.TIi1 D.TIi2 hTI),⟨_,_,b2.extBut _ _ D.TOz a2⟩,a3.at fun o e=>b2.extBut _ _ D.i1z e,a4.at fun o e=>b2.extBut _ _ D.i2z e⟩
    · have:=(hf c hc).1
      have clt:c < s.heap.objs.size:=by simp at hc; rcases hc with rfl | rfl | rfl | rfl | rfl <;> assumption
      rw [Q7 (O9 clt)]; exact this
  done:=by
    intro X hP hw hK hc i pins s σ H E I hf st hg
    subst hP hw hK
    obtain ⟨xs,ys,hq1,hq2,hend⟩:=hg
    obtain ⟨hz,hTI,⟨u,v,hTO⟩,h1,h2⟩:=st
    obtain ⟨its,rv,p,_⟩:=I.seqK hq1
    obtain ⟨its2,rv2,p2,_⟩:=I.seqK hq2
    have l1:=rv.length
    have l2:=rv2.length
    refine next_zipG_end (I.ok.hd hc) D hz hTI hTO h1 h2 p p2 (hend.elim (fun h=>.inl (by simp; omega)) fun h=>.inr (by simp; omega)) fun h' kk=>⟨rfl,?_⟩
    exact I.turnedL (t':=s.toks) (its:=[z,TO,i1,i2]) (fun c o hc e=>kk c o (fun q=>hc (by simp [q])) (fun q=>hc (by simp [q])) (fun q=>hc (by simp [q])) (fun q=>hc (by simp [q])) e)
      fun c hc=>hf c (by simp at hc ⊢; rcases hc with rfl | rfl | rfl | rfl <;> simp)
  self:=fun _ _ _ _ _ st h=>wpAny_pyIter_zip st.1 h
section
variable {X:Cx}
def iZip (K:PySem.W.Frag) (t1 t2:Bool) (ta:TA):TI:=fun σ H R=>ta σ H fun vs H1=>∃ a b xs ys,vs=[.ref a,.ref b]/\SqK K t1 H1 a xs/\SqK K t2 H1 b ys/\R (Itz K t1 t2 a b) H1
theorem boot_zip:bootBuiltins "zip" = some (.type "zip"):=by decide +kernel
theorem pi_zip (t1 t2:Bool) {a b:Expr} {ta:TA} {p pos:Pos} {elts:List Expr} {k:Nat} {tp:Pos} (hg:Gl X "zip") (hm:X.mg "zip" = none) (ha:PA X [a,b] ta) (hs:starEach [a,b] X.env=[(false,eval a X.env),(false,eval b X.env)]:=by rfl) (hs2:starEach [b] X.env=[(false,eval b X.env)]:=by rfl) :
    PI X (.Tuple elts k tp) (.Call (.Name "zip" p) [a,b] [] pos) (iZip X.K t1 t2 ta):=by
  intro pins s σ H R I h
  refine Call_ (ld_blt I hg hm boot_zip (PyProof.Rows.callWith_type1 (thn (ha pos pins s σ H _ I h) fun us s1 ⟨vs,H1,I1,r1,q1⟩=>?_) (by rw [hs,hs2]) (by rw [hs2]; rfl)))
  obtain ⟨a',b',xs,ys,e,q1,q2,q⟩:=q1
  subst e
  cases r1 with
  | cons r rr=>
    cases rr with
    | cons r' rr=>
      cases rr
      cases r
      cases r'
      obtain ⟨its,rv,p1,_⟩:=I1.seqK q1
      obtain ⟨its2,rv2,p2,_⟩:=I1.seqK q2
      refine call_zipG p1 p2 fun h' z1 z2 z3 z4 z5 z6 z7=>?_
      refine wpAny_pyIter_zip (s:={ s1 with heap:=h' }) z1 ?_
      have lta:a' < s1.heap.objs.size:=by obtain ⟨o,e⟩:=p1.there; exact O6 e
      have ltb:b' < s1.heap.objs.size:=by obtain ⟨o,e⟩:=p2.there; exact O6 e
      have D:ZipApart (s1.heap.objs.size + 4) (s1.heap.objs.size + 2) (s1.heap.objs.size + 3) s1.heap.objs.size (s1.heap.objs.size + 1) a' b':=by
        constructor <;> (intro z; unfold Addr at *; omega)
      refine ⟨_,[s1.heap.objs.size + 4,s1.heap.objs.size + 2,s1.heap.objs.size + 3,s1.heap.objs.size,s1.heap.objs.size + 1],_,_,H1,rfl,I1.kept (t':=s1.toks) z7,turn_zip (t1:=t1) (t2:=t2) D,⟨z1,z2,⟨_,_,z3⟩,z4,z5⟩,fun c hc=>?_,q⟩
      have hc':s1.heap.objs.size<=c:=by simp at hc; unfold Addr at *; omega
      exact I1.fpOk hc' (I1.hok.fresh hc')
end
end L2
namespace L2
open PySem PySem.Spec PyProof.Rows
theorem walksK {prog:Program} {w:World} {A:Around} (hh:A.handled=none) (t:Bool) (I ax:Addr) (hne:ax≠I) (items:Array Value) :
    Walks prog w A I [I,ax] [I] items.size (fun i v=>items[i]?=some v) (fun i h=>IterAt t h I ax i/\HasItems t h ax items):=by
  cases t
  · exact Walks.list hh I ax hne items
  · exact Walks.tuple hh I ax hne items
section
variable {X:Cx} {pins:List (Addr × Obj)} {σ:St} {H:Hp} {s:Shared}
theorem Inv.movedNew {s':Shared} (I:Inv X pins σ H s) {o:Obj} (m:Moved [s.heap.objs.size] (fun a b=>b=a) { s with heap:=s.heap.push o } s'):Inv X pins σ H s':=by
  obtain ⟨m1,m2,m3,m4,m5⟩:=m
  obtain ⟨h',g',d',t',o'⟩:=s'
  have e1:g'=s.gens:=m2
  have e2:d'=s.drawn:=m3
  have e3:o'=s.os:=m4
  subst e1 e2 e3
  refine I.kept (t':=t') fun b u e=>m1 b u (fun z=>?_) (O0 _ e)
  have:b=s.heap.objs.size:=by simpa using z
  exact absurd (O6 e) (by rw [this]; exact G9 _)
theorem bools_get {bs:List Bool} {its:List Value} (r:Vals (bs.map V.bl) its):∀ (i:Nat) (v:Value),its.toArray[i]?=some v->v=Value.bool (bs.getD i false):=fun i v e=>by
  have e':its[i]?=some v:=by simpa using e
  have hi:i < its.length:=(O3.mp e').1
  have hl:=r.length
  rw [O2] at hl
  have hn:(bs.map V.bl)[i]?=some (V.bl (bs.getD i false)):=by
    have:i < bs.length:=by omega
    simp [List.getD,this]
  obtain ⟨u,hu,ru⟩:=r.get hn
  rw [e'] at hu
  cases hu
  exact ru
theorem iterObj_walk {t:Bool} {l:Addr} {items:Array Value} (hl:HasItems t s.heap l items):l≠s.heap.objs.size /\
    (IterAt t (s.heap.push (iterObj t l)) s.heap.objs.size l 0/\HasItems t (s.heap.push (iterObj t l)) l items)/\∀ b∈[s.heap.objs.size,l],b < (s.heap.push (iterObj t l)).objs.size:=by
  obtain ⟨o,e⟩:=hl.there
  have hlt:=O6 e
  refine ⟨O9 hlt,⟨iterObj_at (O7 _ (iterObj_free _ _)),hl.at fun o e=>O0 _ e⟩,fun b hb=>?_⟩
  rw [E7]
  simp at hb
  rcases hb with rfl | rfl
  · exact Nat.lt_succ_self _
  · exact F4 hlt
end
section
variable {X:Cx}
theorem range_all (bs:List Bool):(List.range bs.length).all (fun i=>bs.getD i false)=bs.all id:=by
  induction bs with
  | nil=>rfl
  | cons b r ih=>
    rw [E8,List.range_succ_eq_map,List.all_cons,List.all_map,List.all_cons,<- ih]
    rfl
theorem range_any (bs:List Bool):(List.range bs.length).any (fun i=>bs.getD i false)=bs.any id:=by
  induction bs with
  | nil=>rfl
  | cons b r ih=>
    rw [E8,List.range_succ_eq_map,List.any_cons,List.any_map,List.any_cons,<- ih]
    rfl
theorem call_all (t:Bool) (hc:X.calm=true):CallR X (.builtin "all") (fun xs H Q=>∃ (a:Addr) (bs:List Bool),xs=[.ref a]/\SqK X.K t H a (bs.map V.bl)/\Q (.bl (bs.all id)) H):=by
  intro pins s σ H xs us Q I r h
  obtain ⟨a,bs,rfl,hq,q⟩:=h
  obtain ⟨u,rfl,r1⟩:=vals1 r
  cases r1
  obtain ⟨its,rv,p,_⟩:=I.seqK hq
  obtain ⟨w1,w2,w3⟩:=iterObj_walk p
  have hl:=rv.length
  rw [O2] at hl
  refine call_all_walkS (pyIter_seq p ⟨_,_,_,_,_,_,_,fun j=>bs.getD j false,rfl,(walksK (A:=X.A.in1) (I.ok.hd hc) t _ a w1 its.toArray).toS,w2,fun i v s' Q' E' hv hQ=>?_,fun s' m=>?_⟩)
  · rw [bools_get rv i v hv]
    exact wpAny_truthy_bool hQ
  · refine ⟨.bl (bs.all id),H,I.movedNew m,?_,q⟩
    show Value.bool _=_
    rw [O5,<- hl,range_all]
theorem call_any (t:Bool) (hc:X.calm=true):CallR X (.builtin "any") (fun xs H Q=>∃ (a:Addr) (bs:List Bool),xs=[.ref a]/\SqK X.K t H a (bs.map V.bl)/\Q (.bl (bs.any id)) H):=by
  intro pins s σ H xs us Q I r h
  obtain ⟨a,bs,rfl,hq,q⟩:=h
  obtain ⟨u,rfl,r1⟩:=vals1 r
  cases r1
  obtain ⟨its,rv,p,_⟩:=I.seqK hq
  obtain ⟨w1,w2,w3⟩:=iterObj_walk p
  have hl:=rv.length
  rw [O2] at hl
  refine call_any_walkS (pyIter_seq p ⟨_,_,_,_,_,_,_,fun j=>bs.getD j false,rfl,(walksK (A:=X.A.in1) (I.ok.hd hc) t _ a w1 its.toArray).toS,w2,fun i v s' Q' E' hv hQ=>?_,fun s' m=>?_⟩)
  · rw [bools_get rv i v hv]
    exact wpAny_truthy_bool hQ
  · refine ⟨.bl (bs.any id),H,I.movedNew m,?_,q⟩
    show Value.bool _=_
    rw [O5,<- hl,range_any]
end
section
variable {prog:Program} {w:World} {A:Around} {E:Value->Shared->Prop} {s:Shared}
end
section
variable {X:Cx}
end
end L2
namespace L2
open PySem PySem.Spec PyProof.Rows
theorem same_new {H:Hp} {a:Addr} {o:HO} (h:H a=none):Same H (upd H a o):=fun b u e=>by rw [Q7 (Q8 e h)]; exact e
section
variable {K:PySem.W.Frag} {cap:List (Option Nat)} {te:TE} {σ:St} {H1:Hp} {Q:VK}
abbrev g2 (K:PySem.W.Frag):TG:=gTup K 2 (gCons (gName 0) (gCons (gName 1) gNil))
end
def clsV:V->Option Value
  | .ty n=>some (.type n)
  | .ref a=>some (.ref a)
  | _=>none
theorem clsV_rel {c:V} {cv u:Value} (e:clsV c=some cv) (r:RelV c u):u=cv:=by
  cases c with
  | ty n=>cases e; exact r
  | ref a=>cases e; exact r
  | _=>cases e
section
variable {X:Cx}
theorem call_isinst:CallR X (.builtin "isinstance") (fun xs H Q=>∃ x c cv t b,xs=[x,c]/\clsV c=some cv/\TyOf X.K H x t/\PySem.W.kitOne X.K t cv=some b/\Q (.bl b) H):=by
  intro pins s σ H xs us Q I r h
  obtain ⟨x,c,cv,t,b,rfl,hc,ty,e,q⟩:=h
  obtain ⟨u,w',rfl,r1,r2⟩:=vals2 r
  rw [clsV_rel hc r2]
  exact isinst_ok I r1 ty e fun tk=>⟨.bl b,H,I.tok tk,rfl,q⟩
theorem boot_isinstance:bootBuiltins "isinstance" = some (.builtin "isinstance"):=by decide +kernel
theorem boot_all:bootBuiltins "all" = some (.builtin "all"):=by decide +kernel
theorem boot_any:bootBuiltins "any" = some (.builtin "any"):=by decide +kernel
theorem boot_tuple:bootBuiltins "tuple" = some (.type "tuple"):=by decide +kernel
theorem boot_int:bootBuiltins "int" = some (.type "int"):=by decide +kernel
theorem boot_bool:bootBuiltins "bool" = some (.type "bool"):=by decide +kernel
end
section
variable {X:Cx} (K:PySem.W.Frag)
end
end L2
namespace L2
open PySem PySem.Spec PyProof.Rows PySem.W PySem.Builtin.Getset_descriptor
section
variable {prog:Program} {w:World} {A:Around} {E:Value->Shared->Prop} {h:Heap} {g:Array GenState} {d:Drawn} {t:Nat} {os:OsState} {K:Frag} {x C:Addr}
end
end L2
namespace L2
open PySem PySem.Spec PyProof.Rows
theorem ObjOk.there {P:Program} {w:World} {H:Hp} {h:Heap} {a:Addr} {o:HO} (x:ObjOk P w H h a o):∃ u,h.get? a=some u:=by
  cases o with
  | lst xs=>obtain ⟨_,_,_,_,e⟩:=x; exact ⟨_,e⟩
  | tup xs=>obtain ⟨_,_,_,o,e,_⟩:=x; exact ⟨o,e⟩
  | dK kvs=>obtain ⟨_,_,_,_,o,_,_,e,_⟩:=x; exact ⟨o,e⟩
  | dT kvs=>obtain ⟨_,_,_,_,o,_,_,e,_⟩:=x; exact ⟨o,e⟩
  | set S n=>obtain ⟨o,_,_,_,e,_⟩:=x; exact ⟨o,e⟩
  | ins C dx fs=>obtain ⟨_,_,_,e,_⟩:=x; exact ⟨_,e⟩
  | own y=>exact x
  | xd fs=>obtain ⟨_,⟨o,_,_,e,_⟩,_⟩:=x; exact ⟨o,e⟩
  | rng lo hi=>obtain ⟨_,_,_,e⟩:=x; exact ⟨_,e⟩
  | frz ob u=>obtain ⟨e,_⟩:=x; exact ⟨_,e⟩
  | tbl ps=>exact ⟨_,x⟩
  | met f y=>exact ⟨_,x⟩
  | ext φ=>exact x.2.1
theorem HOk.none_of {P:Program} {w:World} {H:Hp} {h:Heap} {a:Addr} (x:HOk P w H h) (e:h.get? a=none):H a=none:=by
  cases q:H a with
  | none=>rfl
  | some o=>
    obtain ⟨u,z⟩:=(x a o q).there
    rw [e] at z
    cases z
structure Fly (P:Program) (w:World) (outer:List Env) (H H':Hp) (s s':Shared) (a:Addr) (cls a0:Value) (B:Heap):Prop where
  os:s'.os=s.os
  bare:AllBare s'.gens
  fl:Heap.FlyingW B outer a cls a0 s'.heap
  hokB:HOk P w H' B
  keep:∀ b o,s.heap.get? b=some o->H b=none->b∉frs outer->B.get? b=some o
  there:∀ b o,s.heap.get? b=some o->b∉frs outer->∃ o',B.get? b=some o'
  slot:∀ b o,s.heap.get? b=some o->b∈frs outer->∃ sl,s'.heap.get? b=some { o with slots:=sl }
  free:∀ b o,s.heap.get? b=some o->H b=none->H' b=none
  tups:∀ b xs,H b=some (.tup xs)->H' b=some (.tup xs)
  frzs:∀ b o u,H b=some (.frz o u)->H' b=some (.frz o u)
  tbls:∀ b ps,H b=some (.tbl ps)->∃ more,H' b=some (.tbl (ps ++ more))
section
variable {P:Program} {w:World} {K:PySem.W.Frag} {mg:Str->Option Value} {base:Heap} {N:List Str} {qual:Str} {scope:Scope} {f:Addr} {cd:Value} {A:Around} {outer:List Env} {s:Shared} {H:Hp} {E:XK}
end
abbrev bmVE:List Value:=[.type "ValueError",.type "Exception",.type "BaseException",.type "object"]
theorem own_obj {K:PySem.W.Frag} {h:Heap} {C:Addr} {bmB:List Value} {newId:String} {x:Str} {mg:Str->Option Value} (X:K.In h) (m:mg x=some (.ref C)) (q:PySem.W.excIn K C bmB newId=true):OwnCls x C bmB newId mg h:=by
  refine ⟨m,?_⟩
  unfold PySem.W.excIn at q
  split at q
  · rename_i dd cd sl ho
    split at q
    · rename_i C' bm k0 k1 k2 k3 n k5 hm hs
      simp only [L0,beq_iff_eq,Bool.not_eq_true'] at q
      obtain ⟨⟨⟨⟨⟨rfl,rfl⟩,hdel⟩,ht⟩,hok⟩,hni⟩:=q
      obtain ⟨nm,bs,mro,ns,qn,hd,sn,sub,ab,col,del⟩:=cd
      dsimp only at hm hdel hok hni
      subst hm hdel
      have hsl:sl=#[k0,k1,k2,k3,some (.builtin n),k5]:=by
        obtain ⟨l⟩:=sl
        simp only at hs
        rw [hs]
      subst hsl
      exact ⟨bm,ns,nm,qn,bs,hd,sn,sub,ab,col,dd,k0,k1,k2,k3,k5,_,X _ _ ho,.of_isNs (PySem.W.isNs_of_in X hok),PySem.W.nsMap_none_of_in X hok hni,PySem.W.tail_of_in X ht⟩
    · cases q
  · cases q
section
variable {X:Cx}
def tRaise (C:Addr) (E:XK) (t:TA):TS:=fun _ σ H=>t σ H fun vs H1=>vs.length<=sizeLine/\E (.ref C) none H1
end
end L2
namespace L2
open PySem PySem.Spec PyProof.Rows
section
variable {X:Cx} {pins:List (Addr × Obj)} {σ:St} {H H':Hp} {s s':Shared} {a C:Addr}
end
section
variable {X:Cx}
end
section
variable {X:Cx}
end
end L2
namespace L2
open PySem PySem.Spec PyProof.Rows
theorem tuple_mul_same (l:Addr) (items:Array Value) (n:Nat) (dd:Option Addr) (sl:Array (Option Value)) (t:Tok) :
    Meets (Builtin.«tuple.__mul__» ⟨[.ref l,.int 1 t],[]⟩) (fun _ R s=>s.heap.get? l=some { cls:=.type "tuple",dict:=dd,data:=.seq items n,slots:=sl }/\R (.ok (.ret (.ref l))) s):=
  .of_wp fun prog w A R s h=>by
    obtain ⟨hp,g,d,tk,os⟩:=s; obtain ⟨hl,h⟩:=h
    wp_walk using wpAny_loadPart' hl
    exact ⟨_,rfl,h⟩
theorem tuple_mul_many (l:Addr) (items:Array Value) (n:Nat) (dd:Option Addr) (sl:Array (Option Value)) (x:Int) (t:Tok) (h1:¬ (decide (x < -(2 ^ 63)) || decide (x>=2 ^ 63))=true) (h2:¬ (items.isEmpty || x == 1)=true) (h3:¬ (decide (x<=0) || items.isEmpty)=true) (h4:¬ (items.size:Int) * x > (2 ^ 63 - 1) / 8) (h5:¬ Builtin.Tuple.tupleTooMany ((items.size:Int) * x)=true)
    (h6:((List.replicate x.toNat items).foldl (fun x1 x2=>x1 ++ x2) #[]).size<=sizeLine) :
    Meets (Builtin.«tuple.__mul__» ⟨[.ref l,.int x t],[]⟩) (fun _ R s=>s.heap.get? l=some { cls:=.type "tuple",dict:=dd,data:=.seq items n,slots:=sl } /\
      R (.ok (.ret (Value.ref s.heap.objs.size))) { s with heap:=s.heap.push { cls:=Value.type "tuple",data:=Data.seq ((List.replicate x.toNat items).foldl (fun x1 x2=>x1 ++ x2) #[]) } }):=
  .of_wp fun prog w A R s h=>by
    obtain ⟨hp,g,d,tk,os⟩:=s; obtain ⟨hl,h⟩:=h
    wp_walk using wpAny_loadPart' hl
    refine wpAny_ite_false (decide_eq_false h1) ?_
    wp_walk using wpAny_loadPart' hl
    refine wpAny_ite_false (decide_eq_false h4) ?_
    wp_walk using wpAny_loadPart' hl
    all_goals first | exact ⟨_,rfl,h⟩ | (refine wpAny_ite_false (decide_eq_false h5) ?_; wp_walk) | skip
    all_goals first | exact ⟨_,rfl,h⟩ | (refine wpAny_ite_false (decide_eq_false (Nat.not_lt.mpr h6)) ?_; wp_walk; exact ⟨_,rfl,h⟩)
theorem int_rmul_tuple (a:Int) (t:Tok) (l:Addr) (items:Array Value) (n:Nat) (dd:Option Addr) (sl:Array (Option Value)) :
    Meets (Builtin.«int.__rmul__» ⟨[.int a t,.ref l],[]⟩) (fun _ R s=>s.heap.get? l=some { cls:=.type "tuple",dict:=dd,data:=.seq items n,slots:=sl }/\R (.ok (.ret Value.notImplemented)) s):=
  .of_wp fun prog w A R s h=>by obtain ⟨hp,g,d,tk,os⟩:=s; obtain ⟨hl,h⟩:=h; wp_walk using wpAny_loadPart' hl; exact ⟨_,rfl,h⟩
theorem noFill_tuple_mul:fillsNumberSlot (.type "tuple") "mul" = pure false:=
  PySem.fillsNumberSlot_seq (id := "tuple.__mul__") (r:=some (.builtin "tuple.__rmul__")) F.slot_tuple_mul.lookup (by decide +kernel) F.slot_tuple_rmul.lookup (by decide +kernel)
theorem repeat_tuple:seqRepeat? (.type "tuple")=pure (some (.builtin "tuple.__mul__")):=by
  unfold seqRepeat?
  rw [PySem.seqSlot_of (T := "tuple") (name := "__mul__") (id := "tuple.__mul__") F.slot_tuple_mul.lookup (by decide +kernel),PySem.seqSlot_of (T := "tuple") (name := "__rmul__") (id := "tuple.__rmul__") F.slot_tuple_rmul.lookup (by decide +kernel)]
  rfl
section
variable {X:Cx}
def rRepT (K:PySem.W.Frag):R2:=fun x y H Q=>∃ a k xs,x=.ref a/\y=.int k/\SqT K H a xs/\xs≠[]/\1<=k/\xs.length * k.toNat<=4096 /\
  (k=1->Q (.ref a) H)/\(k≠1->∀ p,H p=none->Q (.ref p) (upd H p (.tup (List.replicate k.toNat xs).flatten)))
theorem op_repT:OpR X (binaryOp .Mult) (rRepT X.K):=by
  intro pins s σ H x y v u Q I rx ry h
  obtain ⟨a,k,xs,rfl,rfl,ha,hne,hk,hz,q1,q2⟩:=h
  cases rx
  obtain ⟨t,rfl⟩:=ry
  obtain ⟨its,r,p1,hs⟩:=I.tuple ha
  obtain ⟨⟨cls,dd,data,sl⟩,ho,hc,n,hd⟩:=id p1
  simp only at hc hd
  subst hc hd
  have hl:its.length=xs.length:=r.length.symm
  have hpos:0 < its.length:=by rw [hl]; exact List.length_pos_iff.mpr hne
  have hkz:k.toNat<=4096:=by
    have:1 * k.toNat<=xs.length * k.toNat:=Nat.mul_le_mul_right _ (by omega)
    omega
  refine wpAny_binaryOp_repeat_ref (T := "tuple") (U := "int") (by decide) ⟨_,ho,rfl⟩ (fun s'=>typeIs_int s' k t) noFill_tuple_mul F.fills_int_mul F.slot_int_rmul repeat_tuple F.slot_int_index.lookup
    (call_meets F.slot_int_rmul (typeIs_int s k t) F.entry_int_rmul (F.args_int_rmul_2 _ _) (int_rmul_tuple k t a its.toArray n dd sl)
      ⟨ho,rfl,⟨_,ho,rfl⟩,?_⟩)
  by_cases h1:k=1
  · subst h1
    exact call_meets F.slot_tuple_mul ⟨_,ho,rfl⟩ F.entry_tuple_mul (F.args_tuple_mul_2 _ _) (tuple_mul_same a its.toArray n dd sl t) ⟨ho,⟨.ref a,H,I,rfl,q1 rfl⟩⟩
  · have f0:List.foldl (fun x1 x2=>x1 ++ x2) #[] (List.replicate k.toNat its.toArray)=(List.replicate k.toNat its).flatten.toArray:=by
      have:=foldl_rep its k.toNat []
      rw [List.nil_append] at this
      exact this
    have hlen:(its.toArray.size:Int) * k=((its.length * k.toNat:Nat):Int):=by
      rw [O5,Int.natCast_mul,Int.toNat_of_nonneg (by omega)]
    have hfl:(List.replicate k.toNat its).flatten.length<=4096:=by rw [len_rep,hl,Nat.mul_comm]; exact hz
    have hb:its.length * k.toNat<=4096:=by rw [hl]; exact hz
    refine call_meets F.slot_tuple_mul ⟨_,ho,rfl⟩ F.entry_tuple_mul (F.args_tuple_mul_2 _ _) (tuple_mul_many a its.toArray n dd sl k t ?_ ?_ ?_ ?_ ?_ ?_) ⟨ho,?_⟩
    · rw [decide_eq_false (by omega),decide_eq_false (by omega)]; exact D6
    · intro z
      rcases Bool.or_eq_true_iff.mp z with z | z
      · rw [List.isEmpty_toArray,List.isEmpty_iff] at z; rw [z] at hpos; simp at hpos
      · exact h1 (eq_of_beq z)
    · intro z
      rcases Bool.or_eq_true_iff.mp z with z | z
      · have:=of_decide_eq_true z; omega
      · rw [List.isEmpty_toArray,List.isEmpty_iff] at z; rw [z] at hpos; simp at hpos
    · rw [hlen]; omega
    · rw [hlen]
      have:(4096:Int)<=sizeLine:=by decide
      show ¬ decide (((its.length * k.toNat:Nat):Int) > (sizeLine:Int))=true
      rw [decide_eq_false (by omega)]; exact D6
    · rw [f0,O5]; exact D3 hfl (by decide)
    · rw [f0]
      refine ⟨.ref s.heap.objs.size,_,I.laid (t':=s.toks) (o:=.tup (List.replicate k.toNat xs).flatten) (fun b ob q=>O0 _ q) (O4 _) ?_,rfl,q2 h1 _ (I.hok.fresh (O4 _))⟩
      exact ⟨by rw [len_rep,Nat.mul_comm]; exact D3 hz (by decide),_,r.rep k.toNat,IsTup.new _ _⟩
end
section
variable {X:Cx} {pins:List (Addr × Obj)} {s:Shared} {σ:St} {H:Hp}
open PySem.SeqAt
theorem op_is_bl:OpR X (compareOp .Is) (fun x y H Q=>∃ b c,x=.bl b/\y=.bl c/\Q (.bl (b == c)) H):=by
  intro pins s σ H x y v u Q I rx ry h
  obtain ⟨b,c,rfl,rfl,q⟩:=h
  cases rx
  cases ry
  exact PyProof.Rows.is_bool ⟨.bl _,H,I,rfl,q⟩
theorem op_isnot_bl:OpR X (compareOp .IsNot) (fun x y H Q=>∃ b c,x=.bl b/\y=.bl c/\Q (.bl (b != c)) H):=by
  intro pins s σ H x y v u Q I rx ry h
  obtain ⟨b,c,rfl,rfl,q⟩:=h
  cases rx
  cases ry
  exact PyProof.Rows.isnot_bool ⟨.bl _,H,I,rfl,q⟩
end
end L2
namespace L2
open PySem PySem.Spec PyProof.Rows
end L2
namespace L2
open PySem PySem.Spec PyProof.Rows
section
variable {K:PySem.W.Frag} {cap:List (Option Nat)} {te:TE} {σ:St} {H1:Hp} {Q:VK}
end
section
variable {X:Cx} {pos:Pos}
end
end L2
namespace L2
open PySem PySem.Spec PyProof.Rows
theorem cellsFrom_look:∀ (names:List (Str × NameKind)) (h:Heap) (acc:List (Str × Addr)) (x:Str) (c:Addr),(cellsFrom h.objs.size names acc).lookup x=some c ->
    acc.lookup x=some c\/((x,NameKind.cell)∈names/\h.objs.size<=c/\(pushCells h names).IsCell c none)
  | [],_,_,_,_,e=>.inl e
  | (name,kind) :: r,h,acc,x,c,e=>by
    unfold cellsFrom at e
    unfold pushCells
    by_cases hk:(kind == NameKind.cell)=true
    · rw [if_pos hk] at e ⊢
      have hk':kind=.cell:=by simpa using hk
      have ih:=cellsFrom_look r (h.push { cls:=.type "cell",data:=.cell none }) ((name,h.objs.size) :: acc) x c (by rw [E7]; exact e)
      rw [E7] at ih
      rcases ih with z | ⟨z1,z2,z3⟩
      · rw [List.lookup_cons] at z
        cases hb:x == name with
        | true=>
          rw [hb] at z; cases z
          exact .inr ⟨by rw [beq_iff_eq.mp hb,hk']; exact E4,O4 _,⟨_,pushCells_keeps _ _ _ _ (O7 _ rfl),rfl⟩⟩
        | false=>rw [hb] at z; exact .inl z
      · exact .inr ⟨O8 _ z1,by omega,z3⟩
    · rw [if_neg hk] at e ⊢
      rcases cellsFrom_look r h acc x c e with z | ⟨z1,z2,z3⟩
      · exact .inl z
      · exact .inr ⟨O8 _ z1,z2,z3⟩
theorem cellsFrom_old {x:Str}:∀ (names:List (Str × NameKind)) (n:Nat) (acc:List (Str × Addr)),(x,NameKind.cell)∉names->(cellsFrom n names acc).lookup x=acc.lookup x
  | [],_,_,_=>rfl
  | (name,kind) :: r,n,acc,h=>by
    unfold cellsFrom
    have hr:(x,NameKind.cell)∉r:=fun z=>h (O8 _ z)
    by_cases hk:(kind == NameKind.cell)=true
    · rw [if_pos hk,cellsFrom_old r _ _ hr,List.lookup_cons]
      cases hb:x == name with
      | true=>exact absurd (by rw [beq_iff_eq.mp hb,show kind=.cell by simpa using hk]; exact E4) h
      | false=>rfl
    · rw [if_neg hk,cellsFrom_old r _ _ hr]
theorem cellsFrom_new {x:Str} {c:Addr}:∀ (names:List (Str × NameKind)) (n:Nat) (acc:List (Str × Addr)),(x,NameKind.cell)∈names->(cellsFrom n names acc).lookup x=some c->n<=c
  | [],_,_,h,_=>by cases h
  | (name,kind) :: r,n,acc,h,e=>by
    unfold cellsFrom at e
    by_cases hr:(x,NameKind.cell)∈r
    · by_cases hk:(kind == NameKind.cell)=true
      · rw [if_pos hk] at e
        exact Nat.le_of_succ_le (cellsFrom_new r _ _ hr e)
      · rw [if_neg hk] at e
        exact cellsFrom_new r _ _ hr e
    · rcases D1.mp h with q | q
      · cases q
        rw [if_pos (by decide),cellsFrom_old r _ _ hr,List.lookup_cons] at e
        simp at e
        exact Nat.le_of_eq e
      · exact absurd q hr
theorem cellsFrom_inj:∀ (names:List (Str × NameKind)) (n:Nat) (acc:List (Str × Addr)),(∀ x c,acc.lookup x=some c->c < n)->(∀ x y c,acc.lookup x=some c->acc.lookup y=some c->x=y) ->
    ∀ x y c,(cellsFrom n names acc).lookup x=some c->(cellsFrom n names acc).lookup y=some c->x=y
  | [],_,_,_,h=>h
  | (name,kind) :: r,n,acc,h1,h2=>by
    unfold cellsFrom
    by_cases hk:(kind == NameKind.cell)=true
    · rw [if_pos hk]
      refine cellsFrom_inj r (n + 1) _ (fun x c e=>?_) (fun x y c e e'=>?_)
      · rw [List.lookup_cons] at e
        cases hb:x == name with
        | true=>rw [hb] at e; cases e; exact Nat.lt_succ_self _
        | false=>rw [hb] at e; exact F4 (h1 x c e)
      · rw [List.lookup_cons] at e e'
        cases hb:x == name with
        | true=>
          rw [hb] at e; cases e
          cases hb':y == name with
          | true=>rw [beq_iff_eq.mp hb,beq_iff_eq.mp hb']
          | false=>rw [hb'] at e'; exact absurd (h1 y _ e') (G9 _)
        | false=>
          rw [hb] at e
          cases hb':y == name with
          | true=>rw [hb'] at e'; cases e'; exact absurd (h1 x _ e) (G9 _)
          | false=>rw [hb'] at e'; exact h2 x y c e e'
    · rw [if_neg hk]
      exact cellsFrom_inj r n acc h1 h2
theorem wpAny_newEnvC {M:Model} {A:Around} {E:Value->Shared->Prop} {s:Shared} {scope:Scope} {globals:Addr} {cl:List (Str × Addr)} {qual:Str} {func:Option Addr} {code:Value} {env:Env} {builtins:Addr} {Q:Env->Shared->Prop}
    (hQ:Q (newEnv scope s.heap.objs.size globals (cellsFrom (s.heap.objs.size + 1) scope.names cl) qual func code (some env) builtins) { s with heap:=pushCells (s.heap.push { cls:=.type "dict",data:=.dict #[] }) scope.names }) :
    wpAny M A (newFunctionEnv scope globals cl [] qual func code (some env) builtins) Q E s:=by
  simp only [newFunctionEnv,Option.isSome_some,if_true]
  refine wpAny_bind (wpAny_alloc ?_)
  refine wpAny_bind (wpAny_layCells _ (fun name kind cells=>by cases hkc:kind == NameKind.cell <;> simp [hkc]) _ _ _ _ ?_)
  rw [show ({ s with heap:=s.heap.push { cls:=.type "dict",data:=.dict #[] } }:Shared).heap.objs.size=s.heap.objs.size + 1 from E7 ..]
  refine wpAny_bind ?_
  rw [List.forIn_nil]
  exact wpAny_pure (wpAny_pure hQ)
def compOkC (N N':List Str) (sc scE:Scope) (cap:List (Option Nat)):Bool:=
  sc.kind == .function && sc.names.all (fun x=>x.2 != .cell || sc.names.lookup x.1 == some .cell) && sc.names.all (fun x=>x.2 != .local || sc.names.lookup x.1 == some .local) &&
  sc.names.all (fun x=>x.2 != .free || scE.names.lookup x.1 == some .cell || scE.names.lookup x.1 == some .free) && cap.length == N'.length &&
  (List.range cap.length).all (fun i=>match cap[i]? with
    | some (some j)=>(match N'[i]?,N[j]? with | some a,some b=>a == b && sc.names.lookup a == some .free | _,_=>false)
    | _=>true)
structure CompOkC (N N':List Str) (sc scE:Scope) (cap:List (Option Nat)):Prop where
  kind:sc.kind=.function
  cel:∀ x∈sc.names,x.2=.cell->sc.names.lookup x.1=some .cell
  loc:∀ x∈sc.names,x.2=.local->sc.names.lookup x.1=some .local
  fre:∀ x∈sc.names,x.2=.free->scE.names.lookup x.1=some .cell\/scE.names.lookup x.1=some .free
  len:cap.length=N'.length
  at_:∀ (i j:Nat),cap[i]?=some (some j)->∃ x,N'[i]?=some x/\N[j]?=some x/\sc.names.lookup x=some .free
theorem compOkC.of {N N':List Str} {sc scE:Scope} {cap:List (Option Nat)} (h:compOkC N N' sc scE cap=true):CompOkC N N' sc scE cap:=by
  unfold compOkC at h
  simp only [L0,L1,beq_iff_eq,Bool.or_eq_true,bne_iff_ne] at h
  obtain ⟨⟨⟨⟨⟨h1,h2⟩,h3⟩,h4⟩,h5⟩,h6⟩:=h
  refine ⟨h1,fun x hx e=>?_,fun x hx e=>?_,fun x hx e=>?_,h5,fun i j e=>?_⟩
  · rcases h2 x hx with z | z
    · exact absurd e z
    · exact z
  · rcases h3 x hx with z | z
    · exact absurd e z
    · exact z
  · rcases h4 x hx with (z | z) | z
    · exact absurd e z
    · exact .inl z
    · exact .inr z
  · have hi:i < cap.length:=(O3.mp e).1
    have:=h6 i (List.mem_range.mpr hi)
    rw [e] at this
    simp only at this
    cases e1:N'[i]? with
    | none=>rw [e1] at this; cases this
    | some a=>
      cases e2:N[j]? with
      | none=>rw [e1,e2] at this; cases this
      | some b=>
        rw [e1,e2] at this
        simp only [L0,beq_iff_eq] at this
        obtain ⟨rfl,z⟩:=this
        exact ⟨a,rfl,rfl,z⟩
def blkC (X:Cx) (N':List Str) (sc:Scope) (cl:List (Str × Addr)) (C:Addr) (s0:Shared) (H0:Hp) (ex:List Addr):Cx:=
  { X with N:=N',s₀:=s0,H₀:=H0,env:=compEnvC sc cl C X.env,outer:=X.stack,ex:=ex,fn:=fun x=>sc.names.lookup x == some .cell,pn:=[],xe:=fun _ _=>False }
section
variable {X:Cx}
theorem blk_invC {pins:List (Addr × Obj)} {σ:St} {H:Hp} {s:Shared} {N N':List Str} {sc scE:Scope} {cap:List (Option Nat)} {cl:List (Str × Addr)} {fp:List Addr}
    (I:Inv X pins σ H s) (hN:X.N=N) (hE:X.env.scope=scE) (ck:CompOkC N N' sc scE cap) (c1:∀ x c,cl.lookup x=some c->X.env.cells.lookup x=some c) (c2:∀ x∈sc.names,x.2=.free->∃ c,cl.lookup x.1=some c)
    (hf:∀ b∈fp,FpOk X pins H b) (hfs:∀ b∈fp,b < s.heap.objs.size) :
    Inv (blkC X N' sc (cellsFrom (s.heap.objs.size + 1) sc.names cl) s.heap.objs.size s H fp) [] (capOf cap σ) H { s with heap:=pushCells (s.heap.push { cls:=.type "dict",data:=.dict #[] }) sc.names }:=by
  obtain ⟨h₁,hh₁⟩:∃ h₁,pushCells (s.heap.push { cls:=.type "dict",data:=.dict #[] }) sc.names=h₁:=⟨_,rfl⟩
  obtain ⟨cl',hcl'⟩:∃ cl',cellsFrom (s.heap.objs.size + 1) sc.names cl=cl':=⟨_,rfl⟩
  rw [hh₁,hcl']
  have keep:∀ b o,s.heap.get? b=some o->h₁.get? b=some o:=fun b o e=>by rw [<- hh₁]; exact pushCells_keeps _ _ b o (O0 _ e)
  have hns:h₁.Ns s.heap.objs.size (fun _=>none):=by rw [<- hh₁]; exact (Heap.Ns.new s.heap (.type "dict")).keeps (pushCells_keeps _ _)
  have look:∀ x c,cl'.lookup x=some c->cl.lookup x=some c\/(s.heap.objs.size + 1<=c/\h₁.IsCell c none):=fun x c e=>by
    rw [<- hcl'] at e
    have:=cellsFrom_look (sc.names) (s.heap.push { cls:=.type "dict",data:=.dict #[] }) cl x c (by rw [E7]; exact e)
    rw [E7,hh₁] at this
    rcases this with z | ⟨_,z,z'⟩
    · exact .inl z
    · exact .inr ⟨z,z'⟩
  have cellLt:∀ x c,cl.lookup x=some c->c < s.heap.objs.size:=fun x c e=>by
    obtain ⟨v,o,ho,_⟩:=I.cell x c (c1 x c e)
    exact O6 ho
  have inj:∀ x y c,cl'.lookup x=some c->cl'.lookup y=some c->x=y:=by
    rw [<- hcl']
    exact cellsFrom_inj _ _ _ (fun x c e=>F4 (cellLt x c e)) fun x y c a b=>I.ok.inj x y c (c1 x c a) (c1 y c b)
  have isC:∀ x,sc.names.lookup x=some .cell->∃ c,cl'.lookup x=some c:=fun x e=>by
    rw [<- hcl']
    exact Option.isSome_iff_exists.mp (PySem.W.cellsFrom_some _ _ _ (.inl e))
  have isF:∀ x,sc.names.lookup x=some .free->cl'.lookup x=cl.lookup x:=fun x e=>by
    rw [<- hcl']
    refine cellsFrom_old _ _ _ fun z=>?_
    have:=ck.cel _ z rfl
    rw [e] at this; cases this
  have kindOf:∀ x k,(compEnvC sc cl' s.heap.objs.size X.env).kindOf x=some k->k=.cell\/k=.free->sc.names.lookup x=some .free\/sc.names.lookup x=some .cell:=fun x k e hk=>by
    have e':(relabel sc X.env).names.lookup x=some k:=e
    rw [relabel_lookup] at e'
    cases q:sc.names.lookup x with
    | none=>rw [q] at e'; cases e'
    | some k'=>
      rw [q] at e'
      have e'':(if (k' == NameKind.free && X.env.scope.kind == .function && X.env.kindOf x == some .cell)=true then NameKind.cell else k')=k:=Option.some.inj e'
      by_cases hc:(k' == NameKind.free && X.env.scope.kind == .function && X.env.kindOf x == some .cell)=true
      · simp only [L0,beq_iff_eq] at hc
        rw [hc.1.1]; exact .inl rfl
      · rw [if_neg hc] at e''
        subst e''
        rcases hk with z | z
        · rw [z]; exact .inr rfl
        · rw [z]; exact .inl rfl
  have cellAt:∀ x c,X.env.cells.lookup x=some c->∀ v,s.heap.IsCell c v->h₁.IsCell c v:=fun x c e v ⟨o,ho,hd⟩=>⟨o,keep c o ho,hd⟩
  have Hnew:∀ c,s.heap.objs.size<=c->H c=none:=fun c hc=>I.hok.fresh hc
  refine ⟨⟨I.ok.mod,ck.kind,I.ok.glob,I.ok.blt,O4 _,inj,fun x hx=>?_,fun x c h1 h2=>?_,I.ok.hd,I.ok.frames,.inl rfl,fun b hb=>?_,I.bs,
    D3 I.ok.bsz I.sz,fun b o e hb=>?_,fun b hb hz=>?_,I.stack,I.stkFree⟩,rfl,I.bare,Un.kept keep,⟨_,hns,fun i x v e1 e2 e3=>?_⟩,fun x c e=>?_,Hnew _ (O4 _),fun x c e=>?_,fun p hp=>(by cases hp),I.hok.kept keep,?_⟩
  · have hx:(compEnvC sc cl' s.heap.objs.size X.env).kindOf x=some .cell\/(compEnvC sc cl' s.heap.objs.size X.env).kindOf x=some .free:=hx
    have q:sc.names.lookup x=some .free\/sc.names.lookup x=some .cell:=by
      rcases hx with z | z
      · exact kindOf x _ z (.inl rfl)
      · exact kindOf x _ z (.inr rfl)
    rcases q with q | q
    · obtain ⟨c,hc⟩:=c2 _ (PySem.mem_of_lookup q) rfl
      exact ⟨c,(isF x q).trans hc⟩
    · exact isC x q
  · have h1:sc.names.lookup x=some .cell:=by simpa [blkC] using h1
    have h2:cl'.lookup x=some c:=h2
    rw [<- hcl'] at h2
    exact D3 (Nat.le_succ _) (cellsFrom_new _ _ _ (PySem.mem_of_lookup h1) h2)
  · refine ⟨O9 (hfs b hb),fun x c e=>?_⟩
    rcases look x c e with z | ⟨z,_⟩
    · exact (hf b hb).2.2.2.2.1 x c (c1 x c z)
    · exact fun q=>absurd (D0 (hfs b hb) (D3 (Nat.le_succ _) (q ▸ z))) (G9 _)
  · rcases (hf b hb).2.2.2.1 with z | z
    · exact I.ok.noex b o e z
    · exact absurd (D0 (O6 e) (D3 I.ok.bsz z)) (G9 _)
  · rcases D1.mp (I.stkSub b hz) with e | z
    · exact (hf b hb).2.1 e
    · exact (hf b hb).2.2.1 z
  · have e1:N'[i]?=some x:=e1
    have e2:(capOf cap σ)[i]?=some (some v):=e2
    unfold capOf at e2
    rw [E1] at e2
    cases q:cap[i]? with
    | none=>rw [q] at e2; cases e2
    | some oj=>
      rw [q] at e2
      cases oj with
      | none=>cases e2
      | some j=>
        obtain ⟨y,z1,z2,z3⟩:=ck.at_ i j q
        rw [e1] at z1; cases z1
        have ev:σ[j]?=some (some v):=by
          have e2':(σ[j]?).join=some v:=Option.some.inj e2
          cases r:σ[j]? with
          | none=>rw [r] at e2'; cases e2'
          | some o=>rw [r] at e2'; exact congrArg some e2'
        obtain ⟨m',hm',hl⟩:=I.loc
        have sK:X.env.scope.names.lookup x=some .cell\/X.env.scope.names.lookup x=some .free:=by rw [hE]; exact ck.fre _ (PySem.mem_of_lookup z3) rfl
        obtain ⟨u,ru,l⟩:=hl j x v (by rw [hN]; exact z2) ev (sK.elim (fun z=>.inr (.inl z)) fun z=>.inr (.inr z))
        refine ⟨u,ru,?_⟩
        obtain ⟨c,hc⟩:=c2 _ (PySem.mem_of_lookup z3) rfl
        rcases l with ⟨k,_⟩ | ⟨k,c',hc',hcell⟩
        · have k:X.env.scope.names.lookup x=some .local:=k
          rcases sK with z | z <;> (rw [k] at z; cases z)
        · have:c=c':=by
            have q1:=c1 x c hc
            rw [hc'] at q1
            exact (Option.some.inj q1).symm
          subst this
          refine .inr ⟨?_,c,(isF x z3).trans hc,cellAt x c hc' _ hcell⟩
          show (relabel sc X.env).names.lookup x=some .cell\/(relabel sc X.env).names.lookup x=some .free
          rw [relabel_lookup,z3]
          show some (if _ then NameKind.cell else NameKind.free)=_\/some (if _ then NameKind.cell else NameKind.free)=_
          split
          · exact .inl rfl
          · exact .inr rfl
  · rcases look x c e with z | ⟨_,z⟩
    · obtain ⟨v,q⟩:=I.cell x c (c1 x c z)
      exact ⟨v,cellAt x c (c1 x c z) v q⟩
    · exact ⟨_,z⟩
  · rcases look x c e with z | ⟨z,_⟩
    · exact I.freeC x c (c1 x c z)
    · exact Hnew c (by omega)
  · unfold capOf
    show _=N'.length
    rw [O2]
    exact ck.len
end
end L2
namespace L2
open PySem PySem.Spec PyProof.Rows
section
variable {X:Cx}
end
end L2
namespace PySem
open Sem (wp)
section
variable {prog:Program} {w:World} {A:Around} {E:Value->Shared->Prop} {hp:Heap} {gs:Array GenState} {dr:Drawn} {tk:Nat} {sy:OsState}
variable {cn cq:Str} {kC kN:Addr} {bas tl tB:List Value} {hd:Bool} {sns:List Str} {subs:List Value} {abb:Bool} {coll:Option Bool} {dic:Option Addr} {j0 j1 j2 j3 j5:Option Value} {BB Bn newI nI initI inN:String} {tN:List Value}
end
section
variable {M:Model} {A:Around} {E:Value->Shared->Prop} {env:Env}
variable {cn cq:Str} {kC kN:Addr} {bas tl:List Value} {hd:Bool} {sns:List Str} {subs:List Value} {abb:Bool} {coll:Option Bool} {dic:Option Addr} {j0 j1 j2 j3 j5:Option Value} {newI:String}
end
end PySem
namespace L2
open PySem PySem.Spec PyProof.Rows PySem.W PySem.Builtin.ObjectAttr
section
variable {prog:Program} {w:World} {A:Around} {E:Value->Shared->Prop} {s:Shared} {K:Frag} {x C W:Addr} {name:Str} {v:Value}
end
end L2
namespace L2
open PySem PySem.Spec PyProof.Rows PySem.W
section
variable {prog:Program} {w:World} {A:Around} {E:Value->Shared->Prop} {s:Shared} {K:Frag} {x C W f:Addr}
end
section
variable {X:Cx} {x C W f:Addr}
end
end L2
namespace PySem
open Sem (wp)
def fld2 (o:Obj):Option Value:=match o.data with | .fields vs=>vs[2]? | _=>none
theorem fld2_map {o:Obj} {vs:Array Value} {x:Value} (od:o.data=.fields vs):fld2 (Obj.mapFields (·.setIfInBounds 1 x) o)=fld2 o:=by
  have d:=Obj.data_mapFields od (·.setIfInBounds 1 x)
  unfold fld2
  rw [d,od]
  exact Array.getElem?_setIfInBounds_ne (by decide)
section
variable {M:Model} {A:Around} {E:Value->Shared->Prop} {s:Shared} {bs:Heap} {en:Env} {ou:List Env} {L e:Addr} {ob:Obj} {vs:Array Value} {a0:Value} {Q:Unit->Shared->Prop}
theorem entry_dict {head:Value} {nx:Bool} (fr:A.frames=some (en :: ou)) (ff:s.heap.FunFrames bs (en :: ou)) (ef:en.frame=some L) (oe:s.heap.get? e=some ob) (kb:bs.StaysIn s.heap) (ne:bs.get? e=none)
    (od:ob.data=.fields vs) (z1:1 < vs.size) (z0:vs[0]?=some a0)
    (h:∀ h',Heap.LeftW bs (en :: ou) e ob.cls a0 s.heap h'->(∃ o',h'.get? e=some o'/\o'.dict=ob.dict/\fld2 o'=fld2 ob)->Q () { s with heap:=h' }) :
    wpAny M A (do
      let a <- frameOf en
      let pl <- entryPlaceOf L nx
      let b <- EntryCells.newEntry head a .none (rawInt L) .none pl
      setField (.ref e) 1 b) (fun _ s'=>wpAny M A (setFlight (.ref e) none) Q E s') E s:=by
  have nf:e∉(en :: ou).filterMap (·.frame):=fun m=>by
    obtain ⟨_,o,q,n⟩:=ff.mem m
    rw [oe] at q
    cases q
    exact n vs od
  refine wpAny_bind (wpAny_frameOf_fun fr ff ef fun g gs=>?_)
  refine wpAny_bind (wpAny_entryPlaceOf fun pl hp=>?_)
  unfold EntryCells.newEntry newFields
  refine wpAny_bind (wpAny_newObj_type ?_ (hp.sizeOk5 _ _ _ _ _))
  have ge:g.get? e=some ob:=(gs.2.1 e nf).trans oe
  have gb:bs.StaysIn g:=fun b o q=>(gs.2.1 b fun m=>by
    rw [(ff.mem m).1] at q
    cases q).trans (kb b o q)
  obtain ⟨tb,etb⟩:∃ tb:List Value,[head,.ref L,.none,rawInt L,.none] ++ (if pl.isEmpty then List.replicate 6 Value.none else pl)=tb:=⟨_,rfl⟩
  have l5:3 < tb.length/\tb[3]?=some (rawInt L):=by
    rw [<- etb]
    exact ⟨by simp,by simp⟩
  rw [etb]
  have ge2:=O0 (h:=g) { cls:=.type "traceback",dict:=none,data:=.fields tb.toArray } ge
  refine wpAny_setField ge2 od z1 ?_
  have te:g.objs.size≠e:=Nat.ne_of_gt (O6 ge)
  have d3:=Obj.data_mapFields od (·.setIfInBounds 1 (Value.ref g.objs.size))
  have ge3:=L4 (Obj.mapFields (·.setIfInBounds 1 (Value.ref g.objs.size))) ge2 (Obj.isFreed_of_fields d3)
  have gt3:=(F7 (g.push { cls:=.type "traceback",dict:=none,data:=.fields tb.toArray })
    (Obj.mapFields (·.setIfInBounds 1 (Value.ref g.objs.size))) te.symm).trans
    (O7 g rfl)
  unfold setFlight
  refine wpAny_bind (wpAny_field ge3 d3 (x:=.ref g.objs.size) (by simp [z1]) ?_)
  rw [if_pos (show (Value.ref g.objs.size != Value.none)=true by simp)]
  refine wpAny_setField gt3 rfl (by simpa using l5.1) (h _ ?_ ?_)
  all_goals
    obtain ⟨g3,eg3⟩:∃ g3,((g.push { cls:=.type "traceback",dict:=none,data:=.fields tb.toArray }).update e (Obj.mapFields (·.setIfInBounds 1 (Value.ref g.objs.size))))=g3:=⟨_,rfl⟩
    rw [eg3] at ge3 gt3 ⊢
  · have kp:∀ b o,b≠e->g.get? b=some o->(g3.update g.objs.size (Obj.mapFields (·.setIfInBounds 3 ((none:Option Addr).elim Value.none fun f=>rawInt f)))).get? b=some o:=fun b o n q=>by
      rw [F7 _ _ (Nat.ne_of_gt (O6 q)),<- eg3,F7 _ _ n.symm]
      exact O0 _ q
    have nr:∀ b o,s.heap.get? b=some o->(∀ ws,o.data≠.fields ws)->b≠e:=fun b o q n z=>by
      rw [z,oe] at q
      cases q
      exact n vs od
    refine ⟨fun b o q=>kp b o (fun z=>by rw [z,ne] at q; cases q) (gb b o q),ff.of_keeps fun b o q n=>?_,?_,fun b o q n=>?_⟩
    · obtain ⟨sl,z⟩:=gs.2.2 b o q
      exact ⟨_,kp b _ (nr b o q n) z,rfl⟩
    · refine ⟨_,_,g.objs.size,_,_,?_,⟨Obj.cls_mapFields _ _,?_⟩,d3,by simp [z1],gb.fresh,te,L4 _ gt3 (Obj.isFreed_of_fields (Obj.data_mapFields rfl _)),Obj.data_mapFields rfl _,?_⟩
      · rw [F7 _ _ te]
        exact ge3
      · rw [Array.getElem?_setIfInBounds_ne (by decide)]
        exact z0
      · have:=l5.1
        simp [this]
    · obtain ⟨sl,z⟩:=gs.2.2 b o q
      exact ⟨sl,kp b _ (nr b o q n) z⟩
  · refine ⟨_,(F7 _ _ te).trans ge3,?_,fld2_map od⟩
    cases ob with
    | mk c d dt sl=>cases dt <;> first | rfl | cases od
theorem leave1_dict (fr:A.frames=some (en :: ou)) (ff:s.heap.FunFrames bs (en :: ou)) (ef:en.frame=some L) (oe:s.heap.get? e=some ob) (kb:bs.StaysIn s.heap) (ne:bs.get? e=none)
    (od:ob.data=.fields vs) (z1:vs[1]?=some .none) (z0:vs[0]?=some a0)
    (h:∀ h',Heap.LeftW bs (en :: ou) e ob.cls a0 s.heap h'->(∃ o',h'.get? e=some o'/\o'.dict=ob.dict/\fld2 o'=fld2 ob)->Q () { s with heap:=h' }):wpAny M A (leaving en (.ref e)) Q E s:=by
  unfold leaving noteFrame
  simp only [ef]
  refine wpAny_bind (wpAny_bind (wpAny_field oe od z1 ?_))
  rw [if_neg (by decide)]
  exact entry_dict fr ff ef oe kb ne od (Array.getElem?_eq_some_iff.mp z1).1 z0 h
theorem leave2_dict {cls:Value} {dv:Option Addr} (fr:A.frames=some (en :: ou)) (ef:en.frame=some L) (fl:Heap.FlyingW bs (en :: ou) e cls a0 s.heap) (dd:∃ o',s.heap.get? e=some o'/\o'.dict=dv/\fld2 o'=some .none)
    (h:∀ h',Heap.FlyingW bs ou e cls a0 h'->(∃ o',h'.get? e=some o'/\o'.dict=dv/\fld2 o'=some .none)->s.heap.UpToSlots h'->Q () { s with heap:=h' }):wpAny M A (leaving en (.ref e)) Q E s:=by
  obtain ⟨kb,ne,ff,oe,ws,T,oT,ts,he,⟨hc,z0⟩,od,z1,nT,Te,hT,dT,z3⟩:=fl
  obtain ⟨o',ho',hdv,hfl⟩:=dd
  rw [he] at ho'
  cases ho'
  unfold leaving noteFrame
  simp only [ef]
  refine wpAny_bind (wpAny_bind (wpAny_field he od z1 ?_))
  rw [if_pos (show (Value.ref T != Value.none)=true by simp)]
  refine wpAny_bind (wpAny_field hT dT z3 ?_)
  rw [if_neg (show ¬ ((Value.none == rawInt L)=true) by simp [rawInt])]
  refine wpAny_bind (wpAny_setField hT dT (Array.getElem?_eq_some_iff.mp z3).1 ?_)
  have ot:∀ b,b≠T->(s.heap.update T (Obj.mapFields (·.setIfInBounds 3 Value.none))).get? b=s.heap.get? b:=fun b n=>F7 _ _ n.symm
  have nr:∀ b o,s.heap.get? b=some o->(∀ ws,o.data≠.fields ws)->b≠T:=fun b o q n z=>by
    rw [z,hT] at q
    cases q
    exact n ts dT
  refine entry_dict fr (ff.of_keeps fun b o q n=>⟨o,(ot b (nr b o q n)).trans q,rfl⟩) ef ((ot e Te.symm).trans he) (fun b o q=>(ot b fun z=>by rw [z,nT] at q; cases q).trans (kb b o q)) ne od (Array.getElem?_eq_some_iff.mp z1).1 z0 fun h' lf d'=>?_
  obtain ⟨k1,⟨_,_,k2⟩,k3,k4⟩:=lf
  rw [hc] at k3
  exact h h' ⟨k1,ne,k2,k3⟩ (d'.imp fun o q=>⟨q.1,q.2.1.trans hdv,q.2.2.trans hfl⟩) fun b o q n=>k4 b o ((ot b (nr b o q n)).trans q) n
end
end PySem
namespace L2
open PySem PySem.Spec PyProof.Rows
def CXD (P:Program) (w:World):CXT:=fun outer H s E e s'=>∃ a cls a0 dv H' B,e=Value.ref a/\Fly P w outer H H' s s' a cls a0 B/\(∃ o',s'.heap.get? a=some o'/\o'.dict=dv/\fld2 o'=some .none)/\E cls dv H'
theorem pass00D {P:Program} {w:World} {X:Cx}:Passes (CXD P w) X E0:=fun _ _ _ _ _ _ _ h=>by
  obtain ⟨_,_,_,_,_,_,_,_,_,z⟩:=h
  exact z.elim
section
variable {P:Program} {w:World} {K:PySem.W.Frag} {mg:Str->Option Value} {base:Heap} {N:List Str} {qual:Str} {scope:Scope} {f:Addr} {cd:Value} {A:Around} {outer:List Env} {s:Shared} {H:Hp} {E:XK}
abbrev cxD (P:Program) (w:World) (K:PySem.W.Frag) (mg:Str->Option Value) (base:Heap) (N:List Str) (qual:Str) (scope:Scope) (f:Addr) (cd:Value) (A:Around) (outer:List Env) (s:Shared) (H:Hp) (E:XK):Cx:=cxOf (CXD P w) P w K mg base N qual scope f cd A outer s H E
theorem stk_neD {pins:List (Addr × Obj)} {σ:St} {H1:Hp} {s1:Shared} (I:Inv (cxD P w K mg base N qual scope f cd A outer s H E) pins σ H1 s1) {b:Addr} {o:Obj} (e:s.heap.get? b=some o) (n:b∉frs outer):b∉frs (cxD P w K mg base N qual scope f cd A outer s H E).stack:=fun hb=>by
  rcases D1.mp (I.stkSub b hb) with z | z
  · have h1:b < s.heap.objs.size:=O6 e
    have h2:s.heap.objs.size<=(cxD P w K mg base N qual scope f cd A outer s H E).env.locals:=I.ok.above
    rw [<- z] at h2
    exact absurd (D0 h1 h2) (G9 _)
  · exact n z
theorem frs_subD {b:Addr} (h:b∈frs outer):b∈frs (cxD P w K mg base N qual scope f cd A outer s H E).stack:=by
  show b∈frs (_ :: outer)
  unfold frs at h ⊢
  rw [List.filterMap_cons]
  split
  · exact h
  · exact O8 _ h
theorem raiseD {pins:List (Addr × Obj)} {σ:St} {H1:Hp} {s1:Shared} {hx:Heap} {e C t:Addr} {dv:Option Addr} (I:Inv (cxD P w K mg base N qual scope f cd A outer s H E) pins σ H1 s1)
    (hk:∀ b o,b≠e->s1.heap.get? b=some o->hx.get? b=some o) (he1:∀ o,s1.heap.get? e=some o->∃ vs,o.data=.fields vs) (new:s.heap.get? e=none) (hH:H1 e=none)
    (oe:hx.get? e=some { cls:=.ref C,dict:=dv,data:=.fields #[.ref t,.none,.none,.none,.bool false,.none] }) (hE:E (.ref C) dv H1) :
    (cxD P w K mg base N qual scope f cd A outer s H E).xe (.ref e) { s1 with heap:=hx }:=by
  have hin:∀ en∈(cxD P w K mg base N qual scope f cd A outer s H E).stack,∀ b,en.frame=some b->b∈e :: frs (cxD P w K mg base N qual scope f cd A outer s H E).stack:=fun en he b hb=>O8 _ (List.mem_filterMap.mpr ⟨en,he,hb⟩)
  have ff:=PySem.W.funFrames_hide I.stack hin
  have nee:∀ b o,s1.heap.get? b=some o->(∀ vs,o.data≠.fields vs)->b≠e:=fun b o q n z=>by
    subst z
    obtain ⟨vs,d⟩:=he1 o q
    exact n vs d
  have hid:(PySem.W.hideAll s1.heap (e :: frs (cxD P w K mg base N qual scope f cd A outer s H E).stack)).get? e=none:=PySem.W.hideAll_none _ E4
  have kb:(PySem.W.hideAll s1.heap (e :: frs (cxD P w K mg base N qual scope f cd A outer s H E).stack)).StaysIn hx:=fun b o q=>hk b o (fun z=>by rw [z,hid] at q; cases q) (PySem.W.of_hideAll _ q)
  show wpAny (model P w) _ (leaving _ (.ref e)) _ _ _
  refine leave1_dict (bs:=PySem.W.hideAll s1.heap (e :: frs (cxD P w K mg base N qual scope f cd A outer s H E).stack)) (a0:=.ref t) (s:={ s1 with heap:=hx }) I.ok.frames (ff.of_keeps fun b o q n=>⟨o,hk b o (nee b o q n) q,rfl⟩) rfl oe kb hid rfl rfl rfl fun h2 lf dd=>?_
  obtain ⟨k1,⟨_,_,k2⟩,k3,k4⟩:=lf
  have noex:∀ b:Addr,b∉(cxD P w K mg base N qual scope f cd A outer s H E).ex:=fun b z=>absurd (show b∈([]:List Addr) from z) (by simp)
  have nse:∀ b o,s.heap.get? b=some o->b≠e:=fun b o q z=>by rw [z,new] at q; cases q
  have out:∀ b o,s.heap.get? b=some o->b∉frs outer->b∉e :: frs (cxD P w K mg base N qual scope f cd A outer s H E).stack:=fun b o q n m=>by
    rcases D1.mp m with z | z
    · exact nse b o q z
    · exact stk_neD I q n z
  refine ⟨e,.ref C,.ref t,dv,H1,_,rfl,⟨I.os,I.bare,⟨k1,hid,k2,k3⟩,fun b u q=>?_,fun b o q n hb=>?_,fun b o q hb=>?_,fun b o q hb=>?_,fun b o q n=>I.base.free b o q n (noex b),I.base.tups,I.base.frzs,I.base.tbls⟩,dd,hE⟩
  · have ne:∀ c v,H1 c=some v->c∉e :: frs (cxD P w K mg base N qual scope f cd A outer s H E).stack:=fun c v z m=>by
      rcases D1.mp m with m | m
      · rw [m,hH] at z; cases z
      · rw [I.stkFree c m] at z; cases z
    refine (I.hok b u q).stay (fun c v hc r=>PySem.W.hideAll_get _ r ?_) (fun _ r=>r) fun _ _ r=>r
    rcases hc with rfl | hc
    · exact ne c u q
    · exact ne c _ hc
  · exact PySem.W.hideAll_get _ (I.base.keep b o q n hb (noex b)) (out b o q hb)
  · obtain ⟨o',z⟩:=I.base.there b o q (noex b)
    exact ⟨o',PySem.W.hideAll_get _ z (out b o q hb)⟩
  · obtain ⟨sl,z⟩:=I.base.slot b o q (I.ok.frf b hb) hb (noex b)
    obtain ⟨_,o',ho',hnf⟩:=I.ok.funs.mem hb
    have ho2:s.heap.get? b=some o':=ho'
    rw [q] at ho2
    cases ho2
    obtain ⟨sl',z'⟩:=k4 b _ (hk b _ (nse b o q) z) hnf
    exact ⟨sl',z'⟩
theorem pass_onD:Passes (CXD P w) (cxD P w K mg base N qual scope f cd A outer s H E) E:=by
  intro pins σ H1 s1 e s' I h
  obtain ⟨a,cls,a0,dv,H',B,rfl,F,dd,hE⟩:=h
  show wpAny (model P w) _ (leaving _ (.ref a)) _ _ _
  have noex:∀ b:Addr,b∉(cxD P w K mg base N qual scope f cd A outer s H E).ex:=fun b z=>absurd (show b∈([]:List Addr) from z) (by simp)
  refine leave2_dict I.ok.frames rfl F.fl dd fun h2 x1 d2 x2=>?_
  refine ⟨a,cls,a0,dv,H',B,rfl,⟨F.os.trans I.os,F.bare,x1,F.hokB,fun b o q n hb=>?_,fun b o q hb=>?_,fun b o q hb=>?_,fun b o q n=>?_,fun b xs q=>F.tups b xs (I.base.tups b xs q),fun b o u q=>F.frzs b o u (I.base.frzs b o u q),fun b ps q=>?_⟩,d2,hE⟩
  · exact F.keep b o (I.base.keep b o q n hb (noex b)) (I.base.free b o q n (noex b)) (stk_neD I q hb)
  · obtain ⟨o',z⟩:=I.base.there b o q (noex b)
    exact F.there b o' z (stk_neD I q hb)
  · obtain ⟨sl,z⟩:=I.base.slot b o q (I.ok.frf b hb) hb (noex b)
    obtain ⟨_,o',ho',hnf⟩:=I.ok.funs.mem hb
    have ho2:s.heap.get? b=some o':=ho'
    rw [q] at ho2
    cases ho2
    obtain ⟨sl',z'⟩:=F.slot b _ z (frs_subD hb)
    obtain ⟨sl2,z2⟩:=x2 b _ z' hnf
    exact ⟨sl2,z2⟩
  · obtain ⟨o',z⟩:=I.base.there b o q (noex b)
    exact F.free b o' z (I.base.free b o q n (noex b))
  · obtain ⟨m1,e1⟩:=I.base.tbls b ps q
    obtain ⟨m2,e2⟩:=F.tbls b _ e1
    exact ⟨m1 ++ m2,by rw [e2,Array.append_assoc]⟩
end
section
variable {X:Cx}
def RaiseD (X:Cx) (E:XK):Prop:=∀ (pins:List (Addr × Obj)) (σ:St) (H0 H1:Hp) (s0 s1:Shared) (hx:Heap) (e C t:Addr) (dv:Option Addr),Inv X pins σ H0 s0->s0.heap.get? e=none->Inv X pins σ H1 s1->(∀ b o,b≠e->s1.heap.get? b=some o->hx.get? b=some o) ->
  (∀ o,s1.heap.get? e=some o->∃ vs,o.data=.fields vs)->H1 e=none->hx.get? e=some { cls:=.ref C,dict:=dv,data:=.fields #[.ref t,.none,.none,.none,.bool false,.none] }->E (.ref C) dv H1->X.xe (.ref e) { s1 with heap:=hx }
theorem ps_raiseD {x:Str} {C:Addr} {e:Expr} {t:TA} {E:XK} {np cpos pos:Pos} (hcalm:X.calm=true) (RO:RaiseD X E) (hg:Gl X x) (hm:X.mg x=some (.ref C)) (q:PySem.W.excIn X.K C bmVE "ValueError.__new__" = true) (ha:PA X [e] t)
    (hdb:(x == ("__debug__" : Str))=false:=by decide) (he:starEach [e] X.env=[(false,eval e X.env)]:=by rfl):PS X (.Raise (some (.Call (.Name x np) [e] [] cpos)) none pos) (tRaise C E t):=by
  intro pins s σ H D I h
  obtain ⟨tl,N,nm,qn,bs,hdct,sn,sub,ab,col,dd,k0,k1,k2,k3,k5,mN,hC,hN,hni,T⟩:=(own_obj I.mod.kin hm q).obj
  refine wpAny_Raise_call_subU (C:=C) (nm:=nm) (q:=qn) (N:=N) (bs:=bs) (bm:=tl) (hdct:=hdct) (sn:=sn) (sub:=sub) (ab:=ab) (col:=col) (dd:=dd) (k0:=k0) (k1:=k1) (k2:=k2) (k3:=k3) (k5:=k5)
    PySem.F.excBase_ValueError (by decide +kernel) PySem.F.excBase_ValueError (mN:=mN) (T.hasType (by decide +kernel)) (I.ok.hd hcalm) (by rw [he]; rfl) hni (ld_glob I hg hm ⟨rfl,?_⟩ hdb)
  have ha':=ha cpos pins s σ H _ I h
  rw [he] at ha' ⊢
  refine Calls.evalArgs_plain (wpAny_mono ha' (fun us s1 ⟨vs,H1,I1,r,z,hE⟩=>?_) fun _ _ y=>y)
  refine ⟨rfl,by rw [<- r.length]; exact z,I1.bk _ _ hC,hN.keeps I1.bk,T.keeps I1.bk,fun h' e' hx=>?_⟩
  obtain ⟨t,oe,_,_⟩:=hx.there
  exact RO pins σ H1 H1 s1 s1 h' e' C t none I1 hx.new I1 (fun b o _ k=>hx.keeps b o k) (fun o k=>by rw [hx.new] at k; cases k) (I1.hok.none_of hx.new) oe hE
end
theorem raiseDok {P:Program} {w:World} {K:PySem.W.Frag} {mg:Str->Option Value} {base:Heap} {N:List Str} {qual:Str} {scope:Scope} {f:Addr} {cd:Value} {A:Around} {outer:List Env} {s:Shared} {H:Hp} {E:XK} :
    RaiseD (cxD P w K mg base N qual scope f cd A outer s H E) E:=fun pins σ H0 H1 s0 s1 hx e C t dv I0 g0 I hk he1 hH oe hE=>by
  refine raiseD I hk he1 ?_ hH oe hE
  cases q:s.heap.get? e with
  | none=>rfl
  | some o=>
    obtain ⟨o',z⟩:=I0.base.there e o q (fun z=>absurd (show e∈([]:List Addr) from z) (by simp))
    rw [g0] at z; cases z
theorem Fun.okD {P:Program} {w:World} {K:PySem.W.Frag} {mg:Str->Option Value} {base:Heap} {x qual:Str} {st:Stmt} {f:Addr} {fd:FuncData} {N ps:List Str} {k:Nat} {sp:Sp} (F:Fun K x qual st f fd) (S:FnScope N ps (Q6 st)) (len:∀ vs H Q E,sp vs H Q E->vs.length=ps.length)
    (hbody:∀ (cdv:Value) (A:Around) (outer:List Env) (s:Shared) (H:Hp) (vs:List V) (Q:VK) (E:XK),Room k (A.deeper (envOfC qual (Q6 st) s.heap.objs.size f cdv))->sp vs H Q E ->
      ∃ t,PSs (cxD P w K mg base N qual (Q6 st) f cdv A outer s H E) (Jr st) t/\t { nx:=fun _ H'=>Q .non H',rt:=Q } (start N vs) H):FnOk P w K mg base (CXD P w) (k + 1) f fd ps sp:=by
  obtain ⟨oc,od,kV,doc,pm,an,cdv,ct,osl,rfl,lk,hcd⟩:=F.ex
  exact fn_of lk hcd S len fun A outer s H vs Q E hr hsp=>hbody cdv A outer s H vs Q E hr hsp
end L2
namespace L2
open PySem PySem.Spec PyProof.Rows PySem.W PySem.Builtin.Getset_descriptor
section
variable {prog:Program} {w:World} {A:Around} {E:Value->Shared->Prop} {h:Heap} {g:Array GenState} {d:Drawn} {t:Nat} {os:OsState} {K:Frag} {x C dx:Addr} {name:Str} {v:Value} {m:Str->Option Value}
end
section
variable {X:Cx}
end
section
variable {X:Cx} {pins:List (Addr × Obj)} {σ:St} {H H':Hp} {s s':Shared} {a C:Addr}
end
end L2
namespace L2
open PySem PySem.Spec PyProof.Rows
section
variable {X:Cx}
end
section
variable {X:Cx}
end
end L2
namespace L2
open PySem PySem.Spec PyProof.Rows PySem.W PySem.Builtin.Getset_descriptor
section
variable {X:Cx} {pins:List (Addr × Obj)} {σ:St} {H H':Hp} {s s':Shared} {a C:Addr}
end
end L2
namespace L2
open PySem PySem.Spec PyProof.Rows
section
variable {X:Cx}
end
end L2
namespace L2
open PySem PySem.Spec PyProof.Rows PySem.W PySem.Builtin.Getset_descriptor
section
variable {X:Cx} {pins:List (Addr × Obj)} {σ:St} {H H':Hp} {s s':Shared} {a C:Addr}
end
section
variable {X:Cx}
end
end L2
namespace L2
open PySem PySem.Spec PyProof.Rows PySem.SeqAt
section
variable {prog:Program} {w:World} {A:Around} {E:Value->Shared->Prop} {s:Shared}
end
section
variable {X:Cx}
end
end L2
namespace L2
open PySem PySem.Spec PyProof.Rows PySem.SeqAt
section
variable {X:Cx}
end
end L2
namespace L2
open PySem PySem.Spec PyProof.Rows
section
variable {X:Cx}
def rCatT0 (K:PySem.W.Frag):R2:=fun x y H Q=>∃ a b ys,x=.ref a/\y=.ref b/\SqT K H a []/\SqT K H b ys/\Q (.ref b) H
theorem op_catT0:OpR X (binaryOp .Add) (rCatT0 X.K):=by
  intro pins s σ H x y v u Q I rx ry h
  obtain ⟨a,b,ys,rfl,rfl,ha,hb,q⟩:=h
  cases rx
  cases ry
  obtain ⟨its,r1,p1,_⟩:=I.tuple ha
  obtain ⟨its2,r2,p2,_⟩:=I.tuple hb
  have e1:its=[]:=r1.nil_iff.mpr rfl
  subst e1
  obtain ⟨⟨cls,dd,data,sl⟩,ho,hc,n,hd⟩:=id p1
  obtain ⟨⟨cls2,dd2,data2,sl2⟩,ho2,hc2,n2,hd2⟩:=id p2
  simp only at hc hd hc2 hd2
  subst hc hd hc2 hd2
  exact concat_meets ⟨_,ho,rfl⟩ ⟨_,ho2,rfl⟩ noFill_tuple_add seq_tuple_add PySem.F.slot_tuple_add PySem.F.entry_tuple_add (PySem.F.args_tuple_add_2 _ _)
    (tuple_addW0 a b ([]:List Value).toArray its2.toArray n n2 dd dd2 sl sl2 (by simp)) ⟨ho,ho2,⟨.ref b,H,I,rfl,q⟩⟩
abbrev rCat2 (K:PySem.W.Frag):R2:=fun x y H Q=>rCatT K x y H Q\/rCatT0 K x y H Q
theorem op_cat2:OpR X (binaryOp .Add) (rCat2 X.K):=op_catT.or op_catT0
end
end L2
namespace L2
open PySem PySem.Spec PyProof.Rows
def PTs (X:Cx) (ifs:List Expr) (t:TT):Prop:=
  ∀ (pins:List (Addr × Obj)) (s:Shared) (σ:St) (H:Hp) (Q:Bool->Hp->Prop),Inv X pins σ H s->t σ H Q ->
    wpAny (model X.prog X.w) X.A (forIn ifs true fun c r=>if r=true then do let ok <- isTrue c X.env (eval c X.env); pure (ForInStep.yield ok) else pure (ForInStep.yield r)) (TP X pins σ Q) X.xe s
def tTrue:TT:=fun _ H Q=>Q true H
theorem pts_nil {X:Cx}:PTs X [] tTrue:=fun _ _ _ H _ I h=>wpAny_tests_nil ⟨H,I,h⟩
theorem pts_one {X:Cx} {c:Expr} {t:TT} (h:PT X c t):PTs X [c] t:=fun pins s σ H Q I q=>wpAny_tests_one (h pins s σ H Q I q)
def compBodyT (J:It) (cap:List (Option Nat)) (g:TG) (tt:TT) (te:TE) (σ:St) (H1:Hp) (Q:VK):Prop:=∀ acc,H1 acc=none ->
  ∃ W:Nat->Nat->List V->St->Hp->Prop,(∃ m,W 0 m [] (capOf cap σ) (upd H1 acc (.lst [])))/\∀ i m ys σ' H',W i m ys σ' H'->H' acc=some (.lst ys) /\
    ((J.stop i H'/\Q (.ref acc) H')\/(J.go i H'/\ys.length < sizeLine/\∀ x H2,J.yld i H' x H2->g x σ' H2 fun σ3 H3=>tt σ3 H3 fun b H4=>
      if b=true then te σ3 H4 fun y H5=>H5 acc=some (.lst ys)/\∃ m',m' < m/\W (i + 1) m' (ys ++ [y]) σ3 (upd H5 acc (.lst (ys ++ [y])))
      else ∃ m',m' < m/\W (i + 1) m' ys σ3 H4))
def tCompT (cap:List (Option Nat)) (wi:TI) (g:TG) (tt:TT) (te:TE):TE:=fun σ H Q=>wi σ H fun J H1=>compBodyT J cap g tt te σ H1 Q
section
variable {prog:Program} {w:World} {A:Around} {R:Result->Shared->Prop} {s:Shared}
theorem compLoop_anyT {elt target iter:Expr} {ifs:List Expr} {scope:Scope} {pos:Pos} {it acc:Value} {env:Env} (I:Nat->Shared->Prop)
    (turn:∀ n s,I n s->wpAny (model prog w) A (pyNext it) (fun r s₁=>match r with
      | none=>R (.ok .next) s₁
      | some v=>wpAny (model prog w) A (letOwnedTupleGo target it v) (fun _ s₁'=>wpAny (model prog w) A (assign target env v) (fun _ s₂=>
          wpAny (model prog w) A (forIn ifs true fun c r=>if r=true then do let ok <- isTrue c env (eval c env); pure (ForInStep.yield ok) else pure (ForInStep.yield r)) (fun ok s₃=>
            if ok=true then wpAny (model prog w) A (eval elt env) (fun x s₄=>
              wpAny (model prog w) A (call (.builtin "list.append") [acc,x]) (fun _ s₅=>∃ m,m < n/\I m s₅) (fun _ _=>False) s₄) (fun _ _=>False) s₃
            else ∃ m,m < n/\I m s₃) (fun _ _=>False) s₂)
          (fun _ _=>False) s₁') (fun _ _=>False) s₁) (fun _ _=>False) s)
    (n:Nat) (h:I n s):codeAny (model prog w) A (.compLoop (.ListComp elt [⟨target,iter,ifs,0⟩] scope pos) 0 it acc env) R s:=by
  refine codeAny_loop rfl I (fun n s hI=>?_) n h
  show wpAny _ A ((compTurn (.ListComp elt [⟨target,iter,ifs,0⟩] scope pos) 0 it acc env).onRaise (fun x=>do noteFrame x env; theTreesLotGoes x)) _ _ s
  refine wpAny_noted ?_
  rw [compTurn_list]
  refine wpAny_bind (wpAny_standAt (wpAny_bind (wpAny_mono (turn n s hI) (fun r s₁ h₁=>?_) fun _ _ h'=>h'.elim)))
  cases r with
  | none=>exact wpAny_pure h₁
  | some v=>
    refine wpAny_bind (wpAny_mono h₁ (fun _ s₁' h₁'=>?_) fun _ _ h'=>h'.elim)
    refine wpAny_bind (wpAny_mono h₁' (fun _ s₂ h₂=>wpAny_bind (wpAny_mono h₂ (fun ok s₃ h₃=>?_) fun _ _ h'=>h'.elim)) fun _ _ h'=>h'.elim)
    cases ok with
    | true=>
      rw [if_pos rfl] at h₃
      exact wpAny_bind (wpAny_bind (wpAny_mono h₃ (fun x s₄ h₄=>wpAny_bind (wpAny_mono h₄ (fun _ s₅ h₅=>wpAny_pure (wpAny_pure ⟨rfl,h₅⟩)) fun _ _ h'=>h'.elim)) fun _ _ h'=>h'.elim))
    | false=>
      rw [if_neg D6] at h₃
      exact wpAny_bind (wpAny_pure (wpAny_pure ⟨rfl,h₃⟩))
end
section
variable {X:Cx}
theorem comp_coreT {elt tg iter:Expr} {ifs:List Expr} {tt:TT} {pos:Pos} {N N':List Str} {sc scE:Scope} {cap:List (Option Nat)} {wi:TI} {g:TG} {te:TE} {use:Option (Value->Sem Unit)} {QQ:Value->Shared->Prop} (hcalm:X.calm=true) (hi:PI X tg iter wi)
    (hg:∀ cl C s0 H0 ex,PG (blkC X N' sc cl C s0 H0 ex) tg g) (he:∀ cl C s0 H0 ex,PE (blkC X N' sc cl C s0 H0 ex) elt te) (htt:∀ cl C s0 H0 ex,PTs (blkC X N' sc cl C s0 H0 ex) ifs tt)
    (hN:X.N=N) (hE:X.env.scope=scE) (hc:compOkC N N' sc scE cap=true) (hs:∀ x,foldedSetIterable iter X.env x=pure x)
    {pins:List (Addr × Obj)} {s:Shared} {σ:St} {H:Hp} {Q:VK} (I:Inv X pins σ H s) (h:tCompT cap wi g tt te σ H Q)
    (fin:∀ acc C H' s' m,Inv X pins σ H' s'->s'.heap.Ns C m->FpOk X pins H' C->Q (.ref acc) H'->compPost (model X.prog X.w) X.A X.xe use QQ (.ref acc) C (.ok .next) s') {pos':Pos} :
    wpAny (model X.prog X.w) X.A (comprehension (.ListComp elt [⟨tg,iter,ifs,0⟩] sc pos) sc X.env pos' (newList []) false (eval iter X.env) use) QQ X.xe s:=by
  have ck:=compOkC.of hc
  obtain ⟨cl,hcl,c1,c2⟩:=closure_of (scope:=sc) (env:=X.env) fun x hx hf=>I.ok.has x.1 (by
    have:=ck.fre x hx hf
    rw [<- hE] at this
    exact this)
  refine wpAny_comprehension_free (use:=use) rfl hs hcl ck.kind ck.loc (thn (hi pins s σ H _ I h) fun v s1 h1=>thn h1 fun itv s2 h2=>?_)
  obtain ⟨it,fp,tn,J,H2,e,I2,T,st2,f2,hw⟩:=h2
  subst e
  have fsz:∀ b∈fp,b < s2.heap.objs.size:=fun b hb=>by
    obtain ⟨o,e,_⟩:=T.obj _ _ st2 b hb
    exact O6 e
  obtain ⟨W,⟨m0,w0⟩,turn⟩:=hw s2.heap.objs.size I2.fresh
  refine wpAny_newObj_type (wpAny_newEnvC ?_)
  dsimp only
  have I3:Inv X pins σ (upd H2 s2.heap.objs.size (.lst [])) { s2 with heap:=s2.heap.push { cls:=.type "list",data:=.seq ([]:List Value).toArray } }:=
    I2.lnew (its:=[]) (ys:=[]) (t':=s2.toks) .nil (G8 _)
  generalize hs3:({ s2 with heap:=s2.heap.push { cls:=.type "list",data:=.seq ([]:List Value).toArray } }:Shared)=s3 at I3
  have hh3:s3.heap=s2.heap.push { cls:=.type "list",data:=.seq ([]:List Value).toArray }:=by rw [<- hs3]
  have hsz:s3.heap.objs.size=s2.heap.objs.size + 1:=by rw [hh3,E7]
  have f3:∀ b∈fp,FpOk X pins (upd H2 s2.heap.objs.size (.lst [])) b:=fun b hb=>by
    obtain ⟨g0,g1⟩:=f2 b hb
    exact ⟨by rw [Q7 (O9 (fsz b hb))]; exact g0,g1⟩
  have k3:∀ b o,s2.heap.get? b=some o->s3.heap.get? b=some o:=fun b o e=>by rw [hh3]; exact O0 _ e
  obtain ⟨cl',hcl'⟩:∃ cl',cellsFrom (s3.heap.objs.size + 1) sc.names cl=cl':=⟨_,rfl⟩
  obtain ⟨h₁,hh₁⟩:∃ h₁,pushCells (s3.heap.push { cls:=.type "dict",data:=.dict #[] }) sc.names=h₁:=⟨_,rfl⟩
  have k1:∀ b o,s3.heap.get? b=some o->h₁.get? b=some o:=fun b o e=>by rw [<- hh₁]; exact pushCells_keeps _ _ b o (O0 _ e)
  have c1':∀ x c,cl'.lookup x=some c->cl.lookup x=some c\/s3.heap.objs.size + 1<=c:=fun x c e=>by
    rw [<- hcl'] at e
    have:=cellsFrom_look (sc.names) (s3.heap.push { cls:=.type "dict",data:=.dict #[] }) cl x c (by rw [E7]; exact e)
    rcases this with z | ⟨_,z,_⟩
    · exact .inl z
    · rw [E7] at z; exact .inr z
  have I4:Inv (blkC X N' sc cl' s3.heap.objs.size s3 (upd H2 s2.heap.objs.size (.lst [])) fp) [] (capOf cap σ) (upd H2 s2.heap.objs.size (.lst [])) { s3 with heap:=h₁ }:=by
    rw [<- hcl',<- hh₁]
    exact blk_invC I3 hN hE ck c1 c2 f3 (fun b hb=>D0 (fsz b hb) (by rw [hsz]; exact Nat.le_succ _))
  have st4:tn 0 h₁:=T.keep _ _ _ st2 fun b hb o e=>k1 b o (k3 b o e)
  generalize hX':blkC X N' sc cl' s3.heap.objs.size s3 (upd H2 s2.heap.objs.size (.lst [])) fp=X' at I4
  have hxe:X'.xe=fun _ _=>False:=by rw [<- hX']; rfl
  have hprog:X'.prog=X.prog:=by rw [<- hX']; rfl
  have hww:X'.w=X.w:=by rw [<- hX']; rfl
  have hKK:X'.K=X.K:=by rw [<- hX']; rfl
  have hAA:X'.A=X.A:=by rw [<- hX']; rfl
  have hcc:X'.calm=true:=by rw [<- hX']; exact hcalm
  have henv:X'.env=compEnvC sc cl' s3.heap.objs.size X.env:=by rw [<- hX']; rfl
  have hloc:X'.env.locals=s3.heap.objs.size:=by rw [henv]; rfl
  have hg':PG X' tg g:=by rw [<- hX']; exact hg _ _ _ _ _
  have he':PE X' elt te:=by rw [<- hX']; exact he _ _ _ _ _
  have htt':PTs X' ifs tt:=by rw [<- hX']; exact htt _ _ _ _ _
  have stat:∀ {H':Hp},(∀ b∈fp,H' b=none)->∀ b∈fp,FpOk X' [] H' b:=fun {H'} hn b hb=>by
    obtain ⟨_,g1,g2,g3,g4,g5⟩:=f3 b hb
    refine ⟨hn b hb,by rw [hloc,hsz]; exact O9 (F4 (fsz b hb)),?_,?_,?_,fun p hp=>?_⟩
    · rw [<- hX']
      intro z
      rcases D1.mp (I3.stkSub b z) with e | z
      · exact g1 e
      · exact g2 z
    · left
      rw [<- hX']
      exact hb
    · intro x c e
      rw [henv] at e
      rcases c1' x c e with z | z
      · exact g4 x c (c1 x c z)
      · exact fun q=>absurd (D0 (fsz b hb) (D3 (D3 (Nat.le_succ _) (hsz ▸ Nat.le_succ _)) (q ▸ z))) (G9 _)
    · rw [<- hX'] at hp
      cases hp
  have fin':∀ {σ':St} {H':Hp} {s':Shared},Inv X' [] σ' H' s'->Q (.ref s2.heap.objs.size) H'->compPost (model X.prog X.w) X.A X.xe use QQ (.ref s2.heap.objs.size) s3.heap.objs.size (.ok .next) s':=fun {σ' H' s'} J q=>by
    obtain ⟨mm,hmm,_⟩:=J.loc
    rw [hloc] at hmm
    have hfree:H' s3.heap.objs.size=none:=by have:=J.free; rw [hloc] at this; exact this
    have hok:=J.hok
    rw [hprog,hww] at hok
    have u1:Un (frs X.stack) fp (upd H2 s2.heap.objs.size (.lst [])) H' s3.heap s'.heap:=by
      have:=J.base
      rw [<- hX'] at this
      exact this
    have hos:s'.os=s3.os:=by have:=J.os; rw [<- hX'] at this; exact this
    refine fin _ _ H' s' mm (I3.call' (s':=s') hos u1 hok J.bare fun b hb=>?_) hmm (I3.fpOk (O4 _) hfree) q
    obtain ⟨_,g1,g2,g3,g4,g5⟩:=f3 b hb
    exact ⟨g3,g1,g4,g5⟩
  have loop:codeAny (model X.prog X.w) X.A (.compLoop (.ListComp elt [⟨tg,iter,ifs,0⟩] sc pos) 0 (.ref it) (.ref s2.heap.objs.size) X'.env)
      (compPost (model X.prog X.w) X.A X.xe use QQ (.ref s2.heap.objs.size) s3.heap.objs.size) { s3 with heap:=h₁ }:=by
    refine compLoop_anyT (fun n s'=>∃ i ys σ' H',Inv X' [] σ' H' s'/\tn i s'.heap/\(∀ b∈fp,H' b=none)/\W i n ys σ' H') ?_ m0 ⟨0,[],_,_,I4,st4,fun b hb=>(f3 b hb).1,w0⟩
    rintro n s5 ⟨i,ys,σ5,H5,I5,st5,fr5,w5⟩
    obtain ⟨hacc,q⟩:=turn i n ys σ5 H5 w5
    rcases q with ⟨stop,q⟩ | ⟨go,hlen,step⟩
    · refine thn (hAA ▸ T.done X' hprog hww hKK hcc i [] s5 σ5 H5 _ I5 (stat fr5) st5 stop) fun r s6 ⟨hr,I6⟩=>?_
      subst hr
      exact fin' I6 q
    · refine thn (hAA ▸ T.item X' hprog hww hKK hcc i [] s5 σ5 H5 _ I5 (stat fr5) st5 go) fun r s6 ⟨u,hr,h6⟩=>?_
      subst hr
      refine thn h6 fun _ s7 ⟨x,H7,I7,r7,y7,st7,fr7⟩=>?_
      have I7':=I7.pinned (stat fr7) (T.obj _ _ st7)
      have g7:=hg' _ s7 σ5 H7 x u _ I7' r7 (step x H7 y7)
      rw [hprog,hww,hAA,hxe] at g7
      refine thn g7 fun _ s8 ⟨σ8,H8,I8,q8⟩=>?_
      have t8:=htt' _ s8 σ8 H8 _ I8 q8
      rw [hprog,hww,hAA,hxe] at t8
      refine thn t8 fun okb s8t ⟨H8t,I8t,q8t⟩=>?_
      cases okb with
      | false=>
        rw [if_neg D6] at q8t ⊢
        obtain ⟨m',hm',w9⟩:=q8t
        refine ⟨m',hm',i + 1,_,σ8,_,I8t.unpinned,T.keep _ _ _ st7 fun b hb o eo=>(I8t.pin (b,o) (D8 _ (D8 _ (mem_pinsAt hb eo)))).1,fun b hb=>?_,w9⟩
        obtain ⟨o,eo,d⟩:=T.obj _ _ st7 b hb
        exact (I8t.pin (b,o) (D8 _ (D8 _ (mem_pinsAt hb eo)))).2.1
      | true=>
      rw [if_pos rfl] at q8t ⊢
      have g8:=he' _ s8t σ8 H8t _ I8t q8t
      rw [hprog,hww,hAA,hxe] at g8
      refine thn g8 fun y s9 ⟨yv,H9,I9,r9,a9,m',hm',w9⟩=>?_
      obtain ⟨z,its,nn,rr,hl,e⟩:=I9.lstM a9
      refine call_meets F.slot_list_append ⟨_,e,rfl⟩ F.entry_list_append (F.args_list_append_2 _ _) (PySem.list_append _ its.toArray nn y (by rw [O5]; omega)) ⟨e,?_⟩
      have I10:Inv X' ([] ++ pinsAt fp s7.heap) σ8 (upd H9 s2.heap.objs.size (.lst (ys ++ [yv]))) { s9 with heap:=s9.heap.update s2.heap.objs.size (Obj.mapSeq fun a=>a.push y) }:=
        I9.lset (t':=s9.toks) (its':=its ++ [y]) a9 e (by simp) (rr.append (.cons r9 .nil)) (by rw [E5,List.length_singleton]; omega)
      refine ⟨m',hm',i + 1,_,σ8,_,I10.unpinned,T.keep _ _ _ st7 fun b hb o eo=>(I10.pin (b,o) (D8 _ (D8 _ (mem_pinsAt hb eo)))).1,fun b hb=>?_,w9⟩
      obtain ⟨o,eo,d⟩:=T.obj _ _ st7 b hb
      exact (I10.pin (b,o) (D8 _ (D8 _ (mem_pinsAt hb eo)))).2.1
  rw [henv] at loop
  have goal:=codeAny_compStart_list (rest:=[]) (ifs:=ifs) loop (T.self X.A 0 _ _ _ st4 loop)
  subst hs3
  rw [<- hcl',<- hh₁] at goal
  exact goal
theorem pe_compT {elt tg iter:Expr} {ifs:List Expr} {tt:TT} {pos:Pos} {N N':List Str} {sc scE:Scope} {cap:List (Option Nat)} {wi:TI} {g:TG} {te:TE} (hcalm:X.calm=true) (hi:PI X tg iter wi)
    (hg:∀ cl C s0 H0 ex,PG (blkC X N' sc cl C s0 H0 ex) tg g) (he:∀ cl C s0 H0 ex,PE (blkC X N' sc cl C s0 H0 ex) elt te) (htt:∀ cl C s0 H0 ex,PTs (blkC X N' sc cl C s0 H0 ex) ifs tt)
    (hN:X.N=N:=by rfl) (hE:X.env.scope=scE:=by rfl) (hc:compOkC N N' sc scE cap=true:=by decide +kernel) (hs:∀ x,foldedSetIterable iter X.env x=pure x:=by intro _; rfl) :
    PE X (.ListComp elt [⟨tg,iter,ifs,0⟩] sc pos) (tCompT cap wi g tt te):=by
  intro pins s σ H Q I h
  rw [eval_ListComp]
  refine comp_coreT (use:=none) hcalm hi hg he htt hN hE hc hs I h fun acc C H' s' m I' hm hf q=>⟨m,hm,fun h' hs'=>?_⟩
  obtain ⟨f0,f1,f2,f3,f4,f5⟩:=hf
  exact ⟨.ref acc,H',I'.turned (t':=s'.toks) (fun b o hb e=>(hs'.2 b hb).trans e) f0 f1 f3 f4 f5,rfl,q⟩
end
end L2
namespace L2
open PySem PySem.Spec PyProof.Rows
section
variable {X:Cx} {e e3:Expr} {te t3:TE} {pos p2:Pos}
end
end L2
namespace L2
open PySem PySem.Spec PyProof.Rows
section
variable {X:Cx} {a:Expr} {ta:TA} {p p' pos pos':Pos}
end
end L2
namespace L2
open PySem PySem.Spec PyProof.Rows
section
variable {X:Cx}
end
end L2
namespace L2
open PySem PySem.Spec PyProof.Rows
section
variable {κ:Type} [DecidableEq κ]
def valV (kvs:List (κ × V)) (k:κ):Option V:=(kvs.find? fun kv=>decide (kv.1=k)).map (·.2)
def putK (kvs:List (κ × V)) (k:κ) (v:V):List (κ × V):=
  if (kvs.any fun kv=>decide (kv.1=k))=true then kvs.map (fun kv=>if kv.1=k then (kv.1,v) else kv) else kvs ++ [(k,v)]
theorem valV_pos {p:κ × V} {r:List (κ × V)} {k:κ} (e:p.1=k):valV (p :: r) k=some p.2:=by simp [valV,List.find?_cons,e]
theorem valV_neg {p:κ × V} {r:List (κ × V)} {k:κ} (e:¬ p.1=k):valV (p :: r) k=valV r k:=by simp [valV,List.find?_cons,e]
theorem valV_any (k:κ):∀ kvs:List (κ × V),(kvs.any fun kv=>decide (kv.1=k))=(valV kvs k).isSome
  | []=>rfl
  | p :: r=>by
    rw [List.any_cons]
    by_cases e:p.1=k
    · simp only [valV_pos e,decide_eq_true e,Bool.true_or,Option.isSome_some]
    · rw [valV_neg e,decide_eq_false e,Bool.false_or]; exact valV_any k r
theorem length_putK (kvs:List (κ × V)) (k:κ) (v:V):(putK kvs k v).length<=kvs.length + 1:=by
  unfold putK
  split
  · rw [O2]; omega
  · rw [E5,E8,List.length_nil]; omega
theorem RelO.isSome_eq {o:Option V} {u:Option Value} (r:RelO o u):o.isSome=u.isSome:=by
  cases o with
  | none=>cases u with
    | none=>rfl
    | some _=>exact (show False from r).elim
  | some _=>cases u with
    | none=>exact (show False from r).elim
    | some _=>rfl
theorem KV.any {kvs:List (κ × V)} {vs:List (κ × Value)} (r:KV kvs vs) (k:κ):(kvs.any fun kv=>decide (kv.1=k))=vs.any fun kv=>decide (kv.1=k):=by
  unfold KV at r
  induction r with
  | nil=>rfl
  | cons h t ih=>rw [List.any_cons,List.any_cons,ih,h.1]
theorem KV.repl {kvs:List (κ × V)} {vs:List (κ × Value)} (r:KV kvs vs) (k:κ) {y:V} {u:Value} (ry:RelV y u) :
    KV (kvs.map fun kv=>if kv.1=k then (kv.1,y) else kv) (vs.map fun kv=>if kv.1=k then (kv.1,u) else kv):=by
  unfold KV at r ⊢
  induction r with
  | nil=>exact .nil
  | @cons p q ps qs h t ih=>
    rw [D5,D5]
    refine .cons ?_ ih
    obtain ⟨h1,h2⟩:=h
    by_cases e:p.1=k
    · rw [if_pos e,if_pos (h1.symm.trans e)]; exact ⟨h1,ry⟩
    · rw [if_neg e,if_neg (fun z=>e (h1.trans z))]; exact ⟨h1,h2⟩
theorem KV.put {kvs:List (κ × V)} {vs:List (κ × Value)} (r:KV kvs vs) (k:κ) {y:V} {u:Value} (ry:RelV y u):KV (putK kvs k y) (stored vs k u):=by
  unfold putK stored
  rw [r.any k]
  by_cases e:(vs.any fun kv=>decide (kv.1=k))=true
  · rw [if_pos e,if_pos e]; exact r.repl k ry
  · rw [if_neg e,if_neg e]; exact Paired.snoc r ⟨rfl,ry⟩
theorem KV.length {kvs:List (κ × V)} {vs:List (κ × Value)} (r:KV kvs vs):kvs.length=vs.length:=Paired.length r
end
theorem kV_is {P:Program} {w:World} {k:Key} {u:Value} (r:RelV (kV k) u):(mixKind P w).is k u=true:=by
  cases k with
  | inl i=>obtain ⟨t,e⟩:=(show ∃ t,u=Value.int i t from r); subst e; exact mixKind_int P w i t
  | inr x=>obtain ⟨t,e⟩:=(show ∃ t,u=Value.str x t from r); subst e; exact mixKind_str P w x t
theorem items_are {P:Program} {w:World}:∀ {ks:List Key} {us:List Value},Vals (ks.map kV) us->ItemsAre (mixKind P w) ks us
  | [],_,r=>by rw [List.map_nil] at r; cases r; exact .nil
  | k :: ks,_,r=>by
    rw [D5] at r
    cases r with
    | cons h t=>exact .cons (kV_is h) (items_are t)
abbrev KT (H:Hp):List (List Key × V)->List (List Key × Addr × Value)->Prop:=Paired fun p q=>p.1=q.1/\H q.2.1=some (.tup (p.1.map kV))/\RelV p.2 q.2.2
theorem KT.val {H:Hp} {kvs:List (List Key × V)} {xs:List (List Key × Addr × Value)} (r:KT H kvs xs) (k:List Key):RelO (valV kvs k) ((atKey xs k).map (·.2)):=by
  induction r with
  | nil=>exact True.intro
  | @cons p q ps qs h t ih=>
    obtain ⟨h1,_,h2⟩:=h
    by_cases e:p.1=k
    · have e':q.1=k:=h1.symm.trans e
      have b:atKey (q :: qs) k=some q.2:=by simp [atKey,List.find?_cons,e']
      rw [valV_pos e,b]; exact h2
    · have e':¬ q.1=k:=fun z=>e (h1.trans z)
      have b:atKey (q :: qs) k=atKey qs k:=by simp [atKey,List.find?_cons,e']
      rw [valV_neg e,b]; exact ih
theorem KT.repl {H:Hp} {kvs:List (List Key × V)} {xs:List (List Key × Addr × Value)} (r:KT H kvs xs) (k:List Key) {y:V} {u:Value} (ry:RelV y u) :
    KT H (kvs.map fun kv=>if kv.1=k then (kv.1,y) else kv) (xs.map (putAt k u)):=by
  induction r with
  | nil=>exact .nil
  | @cons p q ps qs h t ih=>
    rw [D5,D5]
    refine .cons ?_ ih
    obtain ⟨h1,h2,h3⟩:=h
    unfold putAt
    by_cases e:p.1=k
    · rw [if_pos e,if_pos (h1.symm.trans e)]; exact ⟨h1,h2,ry⟩
    · rw [if_neg e,if_neg (fun z=>e (h1.trans z))]; exact ⟨h1,h2,h3⟩
theorem KT.put {H:Hp} {kvs:List (List Key × V)} {xs:List (List Key × Addr × Value)} (r:KT H kvs xs) (k:List Key) {b:Addr} {y:V} {u:Value} (hb:H b=some (.tup (k.map kV))) (ry:RelV y u) :
    KT H (putK kvs k y) (storedH xs k b u):=by
  have e:(kvs.any fun kv=>decide (kv.1=k))=(atKey xs k).isSome:=by
    rw [valV_any,(r.val k).isSome_eq,Option.isSome_map]
  unfold putK storedH
  rw [e]
  by_cases q:(atKey xs k).isSome=true
  · rw [if_pos q,if_pos q]; exact r.repl k ry
  · rw [if_neg q,if_neg q]; exact Paired.snoc r ⟨rfl,hb,ry⟩
theorem KT.keeps {H H':Hp} {kvs:List (List Key × V)} {xs:List (List Key × Addr × Value)} (r:KT H kvs xs) (ht:∀ b ys,H b=some (.tup ys)->H' b=some (.tup ys)):KT H' kvs xs:=
  Paired.mapP r fun _ _ z=>⟨z.1,ht _ _ z.2.1,z.2.2⟩
section
variable {P:Program} {w:World} {H:Hp} {h:Heap} {a:Addr}
theorem rd_of {u:HO} (ok:HOk P w H h) (e:Rd H a u):ObjOk P w H h a u:=e.ok ok
theorem dk_rd {kvs:List (Key × V)} (ok:HOk P w H h) (e:Rd H a (.dK kvs)):kvs.length<=sizeLine/\(a == sysModules)=false/\∃ vs,KV kvs vs/\h.DictOf (mixKind P w) a vs:=
  show ObjOk P w H h a (.dK kvs) from rd_of ok e
theorem dk_of {kvs:List (Key × V)} (ok:HOk P w H h) (e:H a=some (.dK kvs)):kvs.length<=sizeLine/\(a == sysModules)=false/\∃ vs,KV kvs vs/\h.DictOf (mixKind P w) a vs:=dk_rd ok (.inl e)
theorem key_of {ks:List Key} (ok:HOk P w H h) (e:H a=some (.tup (ks.map kV))):(tupleKind (mixKind P w)).is h ks a:=by
  obtain ⟨_,its,r,o,h1,h2,n,h3⟩:=(show ObjOk P w H h a (.tup (ks.map kV)) from ok a _ e)
  exact ⟨o,its.toArray,n,h1,h2,h3,by simpa using items_are r⟩
theorem dt_rd {kvs:List (List Key × V)} (ok:HOk P w H h) (e:Rd H a (.dT kvs)):kvs.length<=sizeLine/\(a == sysModules)=false /\
    ∃ xs,KT H kvs xs/\h.DictOfH (tupleKind (mixKind P w)) a xs:=by
  obtain ⟨z,y,xs,r,o,es,ep,h1,h2,h3,h4,h5⟩:=(show ObjOk P w H h a (.dT kvs) from rd_of ok e)
  refine ⟨z,y,xs,r,o,es,ep,h1,h2,h3,h4,fun x hx=>?_,h5⟩
  have all:∀ {l:List (List Key × V)} {m:List (List Key × Addr × Value)},KT H l m->∀ x∈m,(tupleKind (mixKind P w)).is h x.1 x.2.1:=by
    intro l m q
    induction q with
    | nil=>intro x hx; exact nomatch hx
    | @cons p q ps qs hq t ih=>
      intro x hx
      rcases D1.mp hx with e | hx
      · subst e
        exact key_of ok (by rw [<- hq.1]; exact hq.2.1)
      · exact ih x hx
  exact all r x hx
theorem dt_of {kvs:List (List Key × V)} (ok:HOk P w H h) (e:H a=some (.dT kvs)):kvs.length<=sizeLine/\(a == sysModules)=false /\
    ∃ xs,KT H kvs xs/\h.DictOfH (tupleKind (mixKind P w)) a xs:=dt_rd ok (.inl e)
end
def DPut (H:Hp) (a:Addr) (y v:V) (H':Hp):Prop:=
  (∃ kvs k,H a=some (.dK kvs)/\y=kV k/\kvs.length < sizeLine/\H'=upd H a (.dK (putK kvs k v))) \/
  ∃ kvs k b,H a=some (.dT kvs)/\y=.ref b/\H b=some (.tup (k.map kV))/\kvs.length < sizeLine/\H'=upd H a (.dT (putK kvs k v))
theorem DPut.t {H:Hp} {a b:Addr} {kvs:List (List Key × V)} {k:List Key} {v:V} (e:H a=some (.dT kvs)) (eb:H b=some (.tup (k.map kV))) (hl:kvs.length < sizeLine) :
    DPut H a (.ref b) v (upd H a (.dT (putK kvs k v))):=.inr ⟨kvs,k,b,e,rfl,eb,hl,rfl⟩
section
variable {X:Cx} {pins:List (Addr × Obj)} {σ:St} {H:Hp} {s:Shared} {a:Addr} {y v:V} {u r:Value} {o:Option V} {A:Around} {E:Value->Shared->Prop}
theorem Inv.big (I:Inv X pins σ H s):sysModules < s.heap.objs.size:=by
  have h:mainGlobals < s.heap.objs.size:=(I.mod.glob.keeps I.bk).lt
  exact Nat.lt_trans (by decide) h
theorem d_write {h':Heap} {t':Nat} {ob:HO} (I:Inv X pins σ H s) (mu:Mut (H a)) (hs:Heap.SameBut a s.heap h') (he:∃ q,h'.get? a=some q) (new:ObjOk X.prog X.w (upd H a ob) h' a ob) :
    Inv X pins σ (upd H a ob) { s with heap:=h',toks:=t' }:=
  I.write (x:=a) (e:=a) mu (.inl rfl) (fun b q hb z=>(hs.2 b hb).trans z) he new
theorem dk_new {P:Program} {w:World} {H':Hp} {h':Heap} {kvs:List (Key × V)} {vs:List (Key × Value)} (z:kvs.length<=sizeLine) (hd:(a == sysModules)=false) (rel:KV kvs vs) (dd:h'.DictOf (mixKind P w) a vs) :
    ObjOk P w H' h' a (.dK kvs):=⟨z,hd,vs,rel,dd⟩
theorem d_setItem {H':Hp} {Q:Unit->Shared->Prop} (hu:A.units + 1 < cLine) (I:Inv X pins σ H s) (g:DPut H a y v H') (ry:RelV y u) (rv:RelV v r) (h:∀ s',Inv X pins σ H' s'->Q () s') :
    wpAny (model X.prog X.w) A (setItem (.ref a) u r) Q E s:=by
  rcases g with ⟨kvs,k,e,ey,l,eH⟩ | ⟨kvs,k,b,e,ey,eb,l,eH⟩
  · subst ey eH
    obtain ⟨z,hd,vs,rel,dd⟩:=dk_of I.hok e
    have hz:vs.length<=sizeLine:=by rw [<- rel.length]; exact z
    have hl:(putK kvs k v).length<=sizeLine:=by have:=length_putK kvs k v; omega
    refine wpAny_setItem_pairs (hsz:=hz) (kV_is ry) dd fun h' dd' hs=>h _ ?_
    have he:∃ q,h'.get? a=some q:=let ⟨q,_,_,hq,_⟩:=dd'; ⟨q,hq⟩
    exact d_write I (by rw [e]; exact True.intro) hs he (dk_new hl hd (rel.put k rv) dd')
  · subst ey eH
    cases (show u=Value.ref b from ry)
    obtain ⟨z,hd,xs,rel,dd⟩:=dt_of I.hok e
    have hz:xs.length<=sizeLine:=by rw [<- Paired.length rel]; exact z
    have hl:(putK kvs k v).length<=sizeLine:=by have:=length_putK kvs k v; omega
    refine wpAny_setItem_heap (hsz:=hz) (tupleKind_room_in1 hu) (key_of I.hok eb) dd fun h' dd' hs=>h _ ?_
    obtain ⟨q,es,ep,hq,h2,h3,h4,_,h5⟩:=dd'
    refine d_write I (by rw [e]; exact True.intro) hs ⟨q,hq⟩ ⟨hl,hd,_,(rel.put k eb rv).keeps fun c ys ec=>?_,q,es,ep,hq,h2,h3,h4,h5⟩
    rw [Q7 (ne_of ec e (fun z=>nomatch z))]
    exact ec
end
section
variable {X:Cx} {pins:List (Addr × Obj)} {σ:St} {H:Hp} {s:Shared} {a:Addr} {kvs:List (Key × V)} {k:Key} {u:Value} {A:Around} {E:Value->Shared->Prop}
end
def sDPut (td ty tv:TE):TS:=fun D σ H=>tv σ H fun v H1=>td σ H1 fun x H2=>ty σ H2 fun y H3=>∃ a H4,x=.ref a/\DPut H3 a y v H4/\D.nx σ H4
section
variable {X:Cx} {o i e value:Expr} {pos pos' tpos:Pos} {td ty tv:TE}
theorem ps_dput (hu:X.A.units + 1 < cLine) (ho:PE X o td) (hi:PE X i ty) (hv:PE X value tv) (hs:swapsWith value (some (.Subscript o i pos')) pos.line X.env=pure false) :
    PS X (.Assign [.Subscript o i pos'] value pos) (sDPut td ty tv):=by
  intro pins s σ H D I h
  refine wpAny_Assign_Subscript (thn (hv pins s σ H _ I h) fun r s1 ⟨v,H1,I1,rv,q1⟩=>thn (ho pins s1 σ H1 _ I1 q1) fun u s2 ⟨x,H2,I2,rx,q2⟩=>thn (hi pins s2 σ H2 _ I2 q2) fun iv s3 ⟨y,H3,I3,ry,a,H4,ex,g,q3⟩=>?_) hs
  subst ex
  obtain rfl:u=Value.ref a:=rx
  exact d_setItem hu I3 g ry rv fun s4 I4=>⟨σ,H4,I4,q3⟩
end
theorem dt_empty {P:Program} {w:World} {H:Hp} (h:Heap) (hb:sysModules < h.objs.size):ObjOk P w H (h.push { cls:=.type "dict",data:=.dict #[] }) h.objs.size (.dT []):=
  ⟨G8 _,beq_eq_false_iff_ne.mpr (Ne.symm (O9 hb)),[],.nil,_,#[],0,O7 _ rfl,⟨rfl,rfl,rfl⟩,rfl,rfl,List.nodup_nil⟩
def tDNewT:TE:=fun _ H Q=>∀ p,H p=none->Q (.ref p) (upd H p (.dT []))
section
variable {X:Cx} {pos:Pos}
theorem pe_dnewT:PE X (.Dict [] [] pos) tDNewT:=fun pins s σ H Q I h=>
  wpAny_Dict_empty ⟨.ref s.heap.objs.size,_,I.laid (a:=s.heap.objs.size) (o:=.dT []) (t':=s.toks) (fun _ _ q=>O0 _ q) (O4 _) (dt_empty s.heap I.big),rfl,h _ (I.hok.fresh (O4 _))⟩
end
def tPairs:List (TE × TE)->St->Hp->(List (V × V)->Hp->Prop)->Prop
  | [],_,H,Q=>Q [] H
  | (tk,tv) :: r,σ,H,Q=>tk σ H fun x H1=>tv σ H1 fun y H2=>tPairs r σ H2 fun ps H3=>Q ((x,y) :: ps) H3
abbrev VV:List (V × V)->List (Value × Value)->Prop:=Paired fun p q=>RelV p.1 q.1/\RelV p.2 q.2
def PPs (X:Cx) (pos:Pos) (keys:List (Option Expr)) (values:List Expr) (trs:List (TE × TE)):Prop:=
  ∀ (pins:List (Addr × Obj)) (s:Shared) (σ:St) (H:Hp) (Q:List (V × V)->Hp->Prop),Inv X pins σ H s->tPairs trs σ H Q ->
    wpAny (model X.prog X.w) X.A (evalPairs (pairTrees keys values X.env pos)) (fun vs s'=>∃ ps H',Inv X pins σ H' s'/\VV ps vs/\Q ps H') X.xe s
theorem pps_nil {X:Cx} {pos:Pos}:PPs X pos [] [] []:=fun pins s σ H Q I h=>pairTrees_nil_walk ⟨[],H,I,.nil,h⟩
theorem pps_cons {X:Cx} {pos:Pos} {k v:Expr} {ks:List (Option Expr)} {vs:List Expr} {tk tv:TE} {trs:List (TE × TE)} (hk:PE X k tk) (hv:PE X v tv) (hr:PPs X pos ks vs trs) :
    PPs X pos (some k :: ks) (v :: vs) ((tk,tv) :: trs):=fun pins s σ H Q I h=>
  pairTrees_cons_walk (thn (hk pins s σ H _ I h) fun u s1 ⟨x,H1,I1,rx,q1⟩=>thn (hv pins s1 σ H1 _ I1 q1) fun w2 s2 ⟨y,H2,I2,ry,q2⟩=>
    thn (hr pins s2 σ H2 _ I2 q2) fun ws s3 ⟨ps,H3,I3,rel,q3⟩=>⟨(x,y) :: ps,H3,I3,.cons ⟨rx,ry⟩ rel,q3⟩)
structure M1 (X:Cx) (o:Expr) (m:Str) (apos:Pos) (e:Expr) (cpos:Pos):Prop where
  base:attributeBase o m X.env (eval o X.env)=eval o X.env
  few:((backTo cpos (starEach [e] X.env)).all (fun x=>!x.1) && (backToKw cpos (keywordEach [] X.env)).all (fun x=>x.1.isSome)
    && decide (([e]:List Expr).length + ([]:List Keyword).length + (if ([]:List Keyword).isEmpty then 0 else 1) < 30))=true
  line:(apos.endLine == cpos.line)=true
  trees:backTo cpos (starEach [e] X.env)=[(false,eval e X.env)]
structure M2 (X:Cx) (o:Expr) (m:Str) (apos:Pos) (e f:Expr) (cpos:Pos):Prop where
  base:attributeBase o m X.env (eval o X.env)=eval o X.env
  few:((backTo cpos (starEach [e,f] X.env)).all (fun x=>!x.1) && (backToKw cpos (keywordEach [] X.env)).all (fun x=>x.1.isSome)
    && decide (([e,f]:List Expr).length + ([]:List Keyword).length + (if ([]:List Keyword).isEmpty then 0 else 1) < 30))=true
  line:(apos.endLine == cpos.line)=true
  trees:backTo cpos (starEach [e,f] X.env)=[(false,eval e X.env),(false,eval f X.env)]
section
variable {X:Cx} {pins:List (Addr × Obj)} {σ:St} {H:Hp} {s:Shared} {a:Addr} {y d:V} {u r:Value} {o:Option V} {A:Around} {E:Value->Shared->Prop}
end
section
variable {X:Cx} {o e f:Expr} {apos cpos:Pos} {td ty tx:TE}
end
section
variable {X:Cx} {pins:List (Addr × Obj)} {σ:St} {H:Hp} {s:Shared} {a:Addr} {kvs:List (Key × V)} {A:Around} {E:Value->Shared->Prop}
end
section
variable {X:Cx} {pins:List (Addr × Obj)} {σ:St} {H:Hp} {s:Shared} {a:Addr} {y:V} {u:Value} {A:Around} {E:Value->Shared->Prop}
end
section
variable {X:Cx}
end
end L2
namespace L2
open PySem PySem.Spec PyProof.Rows
open AutoSeq1 (wpAny_loadPart')
section
variable {prog:Program} {w:World} {A:Around} {E:Value->Shared->Prop} {s:Shared}
end
section
variable {prog:Program} {w:World} {A:Around} {E:Value->Shared->Prop} {s:Shared}
end
section
variable {X:Cx} {a:Expr} {ta:TA} {p p' pos pos':Pos}
end
end L2
namespace L2
open PySem PySem.Spec PyProof.Rows
section
variable {prog:Program} {w:World} {A:Around} {E:Value->Shared->Prop} {s:Shared}
end
section
variable {X:Cx} {e e3:Expr} {te t3:TE} {pos p2:Pos}
end
end L2
namespace L2
open PySem PySem.Spec PyProof.Rows
section
variable {prog:Program} {w:World} {K:Type} [DecidableEq K] {knd:KeyKind prog w K} {A:Around} {R:Result->Shared->Prop}
end
end L2
namespace L2
open PySem PySem.Spec PyProof.Rows
section
variable {X:Cx} {pins:List (Addr × Obj)} {σ:St} {H:Hp} {s:Shared} {a:Addr} {tg:Expr}
end
end L2
namespace L2
open PySem PySem.Spec PyProof.Rows PySem.W
def evT {α:Type} (c:Nat->Nat->Bool):KasT α->α
  | .ret a=>a
  | .ask i j k=>evT c (k (c i j))
theorem evT_bind {α β:Type} (c:Nat->Nat->Bool) (f:α->KasT β):∀ t:KasT α,evT c (t.bind f)=evT c (f (evT c t))
  | .ret _=>rfl
  | .ask i j k=>evT_bind c f (k (c i j))
section
variable (r:Nat->Nat)
def rk (p:Array Nat) (i:Nat):Nat:=r (p.getD i 0)
def cR:Nat->Nat->Bool:=fun i j=>decide (r i < r j)
variable {r}
theorem rk_of {p q:Array Nat} {i j:Nat} (h:p[i]?=q[j]?):rk r p i=rk r q j:=by
  unfold rk
  rw [Array.getD_eq_getD_getElem?,Array.getD_eq_getD_getElem?,h]
theorem rk_rev {p:Array Nat} {i j:Nat} (hj:j<=p.size) (k:Nat):rk r (kas_rev p i j) k=if i<=k/\k < j then rk r p (i + j - 1 - k) else rk r p k:=by
  have h:=getElem?_mirror_all (xs:=p) (i:=i) hj k
  by_cases q:i<=k/\k < j
  · rw [if_pos q] at h ⊢; exact rk_of h
  · rw [if_neg q] at h ⊢; exact rk_of h
theorem rk_bub {p:Array Nat} {src d:Nat} (hs:src < p.size) (hd:d<=src) (k:Nat):rk r (bubble p src d) k=if k=src - d then rk r p src else if src - d < k/\k<=src then rk r p (k - 1) else rk r p k:=by
  have h:=getElem?_bubble hs d hd k
  by_cases q:k=src - d
  · rw [if_pos q] at h ⊢; exact rk_of h
  · rw [if_neg q] at h ⊢
    by_cases q2:src - d < k/\k<=src
    · rw [if_pos q2] at h ⊢; exact rk_of h
    · rw [if_neg q2] at h ⊢; exact rk_of h
theorem rev_size {p:Array Nat} (i j:Nat):(kas_rev p i j).size=p.size:=mirror_size _ _ _ _
theorem rev_perm {p:Array Nat} (i j:Nat):(kas_rev p i j).Perm p:=mirror_perm _ _ _ _
theorem asc_ev (p:Array Nat):∀ f n,1<=n->n<=evT (cR r) (kas_asc p f n)/\evT (cR r) (kas_asc p f n)<=n + f/\(∀ i,n<=i->i < evT (cR r) (kas_asc p f n)->rk r p (i - 1)<=rk r p i)/\(evT (cR r) (kas_asc p f n) < n + f->rk r p (evT (cR r) (kas_asc p f n)) < rk r p (evT (cR r) (kas_asc p f n) - 1))
  | 0,n,_=>⟨O4 _,O4 _,fun i h1 h2=>absurd h2 (by show ¬ i < n; omega),fun h=>absurd h (by show ¬ n < n + 0; omega)⟩
  | f + 1,n,hn=>by
    have e:evT (cR r) (kas_asc p (f + 1) n)=if rk r p n < rk r p (n - 1) then n else evT (cR r) (kas_asc p f (n + 1)):=by
      show evT (cR r) (if decide (rk r p n < rk r p (n - 1))=true then KasT.ret n else kas_asc p f (n + 1))=_
      by_cases q:rk r p n < rk r p (n - 1)
      · rw [if_pos (by simpa using q),if_pos q]; rfl
      · rw [if_neg (by simpa using q),if_neg q]
    rw [e]
    by_cases q:rk r p n < rk r p (n - 1)
    · rw [if_pos q]
      exact ⟨O4 _,by omega,fun i h1 h2=>by omega,fun _=>q⟩
    · rw [if_neg q]
      obtain ⟨h1,h2,h3,h4⟩:=asc_ev p f (n + 1) (by omega)
      refine ⟨by omega,by omega,fun i g1 g2=>?_,fun g=>h4 (by omega)⟩
      by_cases z:i=n
      · subst z; omega
      · exact h3 i (by omega) g2
theorem rk_eqrev {p:Array Nat} {i j:Nat} (hj:j<=p.size) (h:∀ k,i<=k->k < j->rk r p k=rk r p (j - 1)) (k:Nat):rk r (kas_rev p i j) k=rk r p k:=by
  rw [rk_rev hj]
  by_cases q:i<=k/\k < j
  · rw [if_pos q,h (i + j - 1 - k) (by omega) (by omega),h k q.1 q.2]
  · rw [if_neg q]
structure Dsc (r:Nat->Nat) (p:Array Nat) (n q:Nat):Prop where
  n1:1<=n
  sz:n<=p.size
  qn:q + 1<=n
  de:∀ i,1<=i->i < n->rk r p i<=rk r p (i - 1)
  eq:∀ i,n - (q + 1)<=i->i < n->rk r p i=rk r p (n - 1)
theorem desc_ev:∀ f (p:Array Nat) n q,Dsc r p n q->n + f<=p.size->Dsc r (evT (cR r) (kas_desc f p n q)).1 (evT (cR r) (kas_desc f p n q)).2.1 (evT (cR r) (kas_desc f p n q)).2.2/\(evT (cR r) (kas_desc f p n q)).1.Perm p/\n<=(evT (cR r) (kas_desc f p n q)).2.1/\(evT (cR r) (kas_desc f p n q)).2.1<=n + f
  | 0,p,n,q,h,_=>⟨h,Array.Perm.refl _,O4 _,O4 _⟩
  | f + 1,p,n,q,h,hs=>by
    have e:evT (cR r) (kas_desc (f + 1) p n q)=if rk r p n < rk r p (n - 1) then (if q > 0 then evT (cR r) (kas_desc f (kas_rev p (n - (q + 1)) n) (n + 1) 0) else evT (cR r) (kas_desc f p (n + 1) 0)) else if rk r p (n - 1) < rk r p n then (p,n,q) else evT (cR r) (kas_desc f p (n + 1) (q + 1)):=by
      show evT (cR r) (if decide (rk r p n < rk r p (n - 1))=true then (if q > 0 then kas_desc f (kas_rev p (n - (q + 1)) n) (n + 1) 0 else kas_desc f p (n + 1) 0) else KasT.ask (p.getD (n - 1) 0) (p.getD n 0) fun d=>if d=true then .ret (p,n,q) else kas_desc f p (n + 1) (q + 1))=_
      by_cases z:rk r p n < rk r p (n - 1)
      · rw [if_pos (by simpa using z),if_pos z]
        split <;> rfl
      · rw [if_neg (by simpa using z),if_neg z]
        show evT (cR r) (if decide (rk r p (n - 1) < rk r p n)=true then KasT.ret (p,n,q) else kas_desc f p (n + 1) (q + 1))=_
        by_cases z2:rk r p (n - 1) < rk r p n
        · rw [if_pos (by simpa using z2),if_pos z2]; rfl
        · rw [if_neg (by simpa using z2),if_neg z2]
    rw [e]
    by_cases z:rk r p n < rk r p (n - 1)
    · rw [if_pos z]
      by_cases hq:q > 0
      · rw [if_pos hq]
        have he:=rk_eqrev (r:=r) (p:=p) (i:=n - (q + 1)) (j:=n) h.sz h.eq
        obtain ⟨h1,h2,h3,h4⟩:=desc_ev f (kas_rev p (n - (q + 1)) n) (n + 1) 0 ⟨by omega,by rw [rev_size]; omega,by omega,fun i g1 g2=>by
          rw [he,he]
          by_cases y:i=n
          · subst y; omega
          · exact h.de i g1 (by omega),fun i g1 g2=>by
          have:i=n:=by omega
          subst this; rfl⟩ (by rw [rev_size]; omega)
        exact ⟨h1,h2.trans (rev_perm _ _),by omega,by omega⟩
      · rw [if_neg hq]
        obtain ⟨h1,h2,h3,h4⟩:=desc_ev f p (n + 1) 0 ⟨by omega,by omega,by omega,fun i g1 g2=>by
          by_cases y:i=n
          · subst y; omega
          · exact h.de i g1 (by omega),fun i g1 g2=>by
          have:i=n:=by omega
          subst this; rfl⟩ (by omega)
        exact ⟨h1,h2,by omega,by omega⟩
    · rw [if_neg z]
      by_cases z2:rk r p (n - 1) < rk r p n
      · rw [if_pos z2]
        exact ⟨h,Array.Perm.refl _,O4 _,by show n<=n + (f + 1); omega⟩
      · rw [if_neg z2]
        have hn:=h.n1
        have hqn:=h.qn
        obtain ⟨h1,h2,h3,h4⟩:=desc_ev f p (n + 1) (q + 1) ⟨by omega,by omega,by omega,fun i g1 g2=>by
          by_cases y:i=n
          · subst y; omega
          · exact h.de i g1 (by omega),fun i g1 g2=>by
          show rk r p i=rk r p n
          by_cases y:i=n
          · rw [y]
          · rw [h.eq i (by omega) (by omega)]; omega⟩ (by omega)
        exact ⟨h1,h2,by omega,by omega⟩
def Srt (r:Nat->Nat) (p:Array Nat) (m:Nat):Prop:=∀ i,1<=i->i < m->rk r p (i - 1)<=rk r p i
theorem tail_ev {p:Array Nat} {n nrem:Nat} (hn:1<=n) (hnr:n<=nrem) (hs:nrem<=p.size) (hd:∀ i,1<=i->i < n->rk r p i<=rk r p (i - 1)) :
    1<=(evT (cR r) (kas_tail3 n nrem p)).1/\(evT (cR r) (kas_tail3 n nrem p)).1<=nrem/\Srt r (evT (cR r) (kas_tail3 n nrem p)).2 (evT (cR r) (kas_tail3 n nrem p)).1/\(evT (cR r) (kas_tail3 n nrem p)).2.Perm p:=by
  obtain ⟨h1,h2,h3,_⟩:=asc_ev (r:=r) (kas_rev p 0 n) (nrem - n) n hn
  unfold kas_tail3
  rw [evT_bind]
  show 1<=evT (cR r) (kas_asc (kas_rev p 0 n) (nrem - n) n)/\_/\Srt r (kas_rev p 0 n) _/\(kas_rev p 0 n).Perm p
  refine ⟨by omega,by show evT (cR r) (kas_asc (kas_rev p 0 n) (nrem - n) n)<=nrem; omega,fun i g1 g2=>?_,rev_perm _ _⟩
  by_cases z:i < n
  · rw [rk_rev (by omega),rk_rev (by omega),if_pos (by omega),if_pos (by omega)]
    have:=hd (0 + n - 1 - (i - 1)) (by omega) (by omega)
    rw [show 0 + n - 1 - (i - 1) - 1=0 + n - 1 - i by omega] at this
    exact this
  · exact h3 i (by omega) g2
theorem descPart_ev {p:Array Nat} {n nrem:Nat} (hn:1<=n) (hnr:n < nrem) (hs:nrem<=p.size) (heq:∀ i,i < n->rk r p i=rk r p (n - 1)) (hlt:rk r p n < rk r p (n - 1)) :
    1<=(evT (cR r) (kas_descPart n nrem p)).1/\(evT (cR r) (kas_descPart n nrem p)).1<=nrem/\Srt r (evT (cR r) (kas_descPart n nrem p)).2 (evT (cR r) (kas_descPart n nrem p)).1/\(evT (cR r) (kas_descPart n nrem p)).2.Perm p:=by
  obtain ⟨D,P,h3,h4⟩:=desc_ev (r:=r) (nrem - (n + 1)) p (n + 1) 0 ⟨by omega,by omega,by omega,fun i g1 g2=>by
    by_cases y:i=n
    · subst y; omega
    · rw [heq i (by omega),heq (i - 1) (by omega)]; exact O4 _,fun i g1 g2=>by
    have:i=n:=by omega
    subst this; rfl⟩ (by omega)
  unfold kas_descPart
  rw [evT_bind]
  generalize evT (cR r) (kas_desc (nrem - (n + 1)) p (n + 1) 0)=x at *
  obtain ⟨p1,m,q⟩:=x
  have sz:p1.size=p.size:=P.size_eq
  simp only at D P h3 h4
  dsimp only
  by_cases z:q > 0
  · rw [if_pos z]
    have he:=rk_eqrev (r:=r) (p:=p1) (i:=m - (q + 1)) (j:=m) D.sz D.eq
    obtain ⟨a,b,c,d⟩:=tail_ev (r:=r) (p:=kas_rev p1 (m - (q + 1)) m) (n:=m) (nrem:=nrem) D.n1 (by omega) (by rw [rev_size]; omega) (fun i g1 g2=>by rw [he,he]; exact D.de i g1 g2)
    exact ⟨a,b,c,(d.trans (rev_perm _ _)).trans P⟩
  · rw [if_neg z]
    obtain ⟨a,b,c,d⟩:=tail_ev (r:=r) (p:=p1) (n:=m) (nrem:=nrem) D.n1 (by omega) (by omega) D.de
    exact ⟨a,b,c,d.trans P⟩
theorem Srt.le {p:Array Nat} {m:Nat} (h:Srt r p m):∀ {i j:Nat},i<=j->j < m->rk r p i<=rk r p j:=by
  intro i j hij
  induction j with
  | zero => intro _; have : i = 0 := by omega
            subst this; exact O4 _
  | succ j ih=>
    intro hj
    by_cases z:i=j + 1
    · subst z; exact O4 _
    · have h1:=ih (by omega) (by omega)
      have h2:=h (j + 1) (by omega) hj
      rw [Nat.add_sub_cancel] at h2
      exact D3 h1 h2
theorem count_ev {p:Array Nat} {n:Nat} (hn:1<=n) (hs:n<=p.size) :
    1<=(evT (cR r) (kas_count n p)).1/\(evT (cR r) (kas_count n p)).1<=n/\Srt r (evT (cR r) (kas_count n p)).2 (evT (cR r) (kas_count n p)).1/\(evT (cR r) (kas_count n p)).2.Perm p:=by
  obtain ⟨h1,h2,h3,h4⟩:=asc_ev (r:=r) p (n - 1) 1 (O4 _)
  unfold kas_count
  rw [evT_bind]
  generalize evT (cR r) (kas_asc p (n - 1) 1)=m at *
  have S:Srt r p m:=fun i g1 g2=>h3 i g1 g2
  by_cases z:m=n
  · subst z
    rw [if_pos (by simp)]
    exact ⟨h1,O4 _,S,Array.Perm.refl _⟩
  · rw [if_neg (by simpa using z)]
    have hlt:=h4 (by omega)
    by_cases z2:m > 1
    · rw [if_pos z2]
      show 1<=(evT (cR r) (if decide (rk r p 0 < rk r p (m - 1))=true then KasT.ret (m,p) else kas_descPart m n (kas_rev p 0 m))).1/\(evT (cR r) (if decide (rk r p 0 < rk r p (m - 1))=true then KasT.ret (m,p) else kas_descPart m n (kas_rev p 0 m))).1<=n/\Srt r (evT (cR r) (if decide (rk r p 0 < rk r p (m - 1))=true then KasT.ret (m,p) else kas_descPart m n (kas_rev p 0 m))).2 (evT (cR r) (if decide (rk r p 0 < rk r p (m - 1))=true then KasT.ret (m,p) else kas_descPart m n (kas_rev p 0 m))).1/\(evT (cR r) (if decide (rk r p 0 < rk r p (m - 1))=true then KasT.ret (m,p) else kas_descPart m n (kas_rev p 0 m))).2.Perm p
      by_cases z3:rk r p 0 < rk r p (m - 1)
      · rw [if_pos (by simpa using z3)]
        exact ⟨h1,by show m<=n; omega,S,Array.Perm.refl _⟩
      · rw [if_neg (by simpa using z3)]
        have eq:∀ i,i < m->rk r p i=rk r p (m - 1):=fun i hi=>by
          have a:=S.le (i:=0) (j:=i) (by omega) hi
          have b:=S.le (i:=i) (j:=m - 1) (by omega) (by omega)
          omega
        have he:=rk_eqrev (r:=r) (p:=p) (i:=0) (j:=m) (by omega) (fun k _ hk=>eq k hk)
        obtain ⟨a,b,c,d⟩:=descPart_ev (r:=r) (p:=kas_rev p 0 m) (n:=m) (nrem:=n) h1 (by omega) (by rw [rev_size]; exact hs) (fun i hi=>by rw [he,he]; exact eq i hi) (by rw [he,he]; exact hlt)
        exact ⟨a,b,c,d.trans (rev_perm _ _)⟩
    · rw [if_neg z2]
      have:m=1:=by omega
      subst this
      exact descPart_ev (r:=r) (O4 _) (by omega) hs (fun i hi=>by rw [show i=0 by omega]) hlt
theorem place_ev {p:Array Nat} {k:Nat} (S:Srt r p k):∀ f l q,l<=q->q<=k->q - l<=f->(∀ i,i < l->rk r p i<=rk r p k)->(∀ i,q<=i->i < k->rk r p k < rk r p i) ->
    evT (cR r) (kas_place p k f l q)<=k/\(∀ i,i < evT (cR r) (kas_place p k f l q)->rk r p i<=rk r p k)/\(∀ i,evT (cR r) (kas_place p k f l q)<=i->i < k->rk r p k < rk r p i)
  | 0,l,q,h1,h2,h3,h4,h5=>by
    have:l=q:=by omega
    subst this
    exact ⟨h2,h4,h5⟩
  | f + 1,l,q,h1,h2,h3,h4,h5=>by
    by_cases z:l>=q
    · have:l=q:=by omega
      subst this
      have e:evT (cR r) (kas_place p k (f + 1) l l)=l:=by rw [kas_place,if_pos (O4 _)]; rfl
      rw [e]
      exact ⟨h2,h4,h5⟩
    · have e:evT (cR r) (kas_place p k (f + 1) l q)=if rk r p k < rk r p ((l + q) / 2) then evT (cR r) (kas_place p k f l ((l + q) / 2)) else evT (cR r) (kas_place p k f ((l + q) / 2 + 1) q):=by
        rw [kas_place,if_neg z]
        show evT (cR r) (if decide (rk r p k < rk r p ((l + q) / 2))=true then kas_place p k f l ((l + q) / 2) else kas_place p k f ((l + q) / 2 + 1) q)=_
        by_cases y:rk r p k < rk r p ((l + q) / 2)
        · rw [if_pos (by simpa using y),if_pos y]
        · rw [if_neg (by simpa using y),if_neg y]
      rw [e]
      have m1:l<=(l + q) / 2:=by omega
      have m2:(l + q) / 2 < q:=by omega
      generalize (l + q) / 2=mm at *
      by_cases y:rk r p k < rk r p mm
      · rw [if_pos y]
        exact place_ev S f l mm m1 (by omega) (by omega) h4 fun i g1 g2=>D0 y (S.le g1 g2)
      · rw [if_neg y]
        exact place_ev S f (mm + 1) q (by omega) h2 (by omega) (fun i g=>D3 (S.le (show i<=mm by omega) (by omega)) (by omega)) h5
theorem bin_ev:∀ f (p:Array Nat) k,1<=k->k + f<=p.size->Srt r p k->Srt r (evT (cR r) (kas_bin f p k)) (k + f)/\(evT (cR r) (kas_bin f p k)).Perm p
  | 0,p,k,_,_,S=>⟨S,Array.Perm.refl _⟩
  | f + 1,p,k,hk,hs,S=>by
    obtain ⟨h1,h2,h3⟩:=place_ev S k 0 k (G8 _) (O4 _) (by omega) (fun i g=>by omega) (fun i g1 g2=>by omega)
    have e:evT (cR r) (kas_bin (f + 1) p k)=evT (cR r) (kas_bin f (bubble p k (k - evT (cR r) (kas_place p k k 0 k))) (k + 1)):=by rw [kas_bin,evT_bind]
    rw [e]
    generalize evT (cR r) (kas_place p k k 0 k)=l at *
    have S2:Srt r (bubble p k (k - l)) (k + 1):=fun i g1 g2=>by
      rw [rk_bub (by omega) (by omega),rk_bub (by omega) (by omega),show k - (k - l)=l by omega]
      by_cases a:i=l
      · subst a
        rw [if_neg (by omega),if_neg (by omega),if_pos rfl]
        exact h2 (i - 1) (by omega)
      · by_cases b:i - 1=l
        · rw [if_pos b,if_neg a,if_pos (by omega),b]
          exact L5 (h3 l (O4 _) (by omega))
        · rw [if_neg b,if_neg a]
          by_cases c:l < i
          · rw [if_pos (by omega),if_pos (by omega)]
            exact S (i - 1) (by omega) (by omega)
          · rw [if_neg (by omega),if_neg (by omega)]
            exact S i g1 (by omega)
    obtain ⟨a,b⟩:=bin_ev f (bubble p k (k - l)) (k + 1) (by omega) (by rw [bubble_size]; omega) S2
    exact ⟨by rw [show k + (f + 1)=k + 1 + f by omega]; exact a,b.trans (bubble_perm _ _ _)⟩
theorem sort_ev {n:Nat} (hn:1<=n):Srt r (evT (cR r) (kas_sort n)) n/\(evT (cR r) (kas_sort n)).Perm (List.toArray (List.range n)):=by
  obtain ⟨h1,h2,h3,h4⟩:=count_ev (r:=r) (p:=List.toArray (List.range n)) (n:=n) hn (by simp)
  unfold kas_sort
  rw [evT_bind]
  generalize evT (cR r) (kas_count n (List.toArray (List.range n)))=x at *
  obtain ⟨m,p⟩:=x
  have sz:p.size=n:=by have:=h4.size_eq; simpa using this
  simp only at h1 h2 h3 h4
  dsimp only
  by_cases z:m < n
  · rw [if_pos z,show max m 1=m by omega]
    obtain ⟨a,b⟩:=bin_ev (r:=r) (n - m) p m h1 (by omega) h3
    rw [show m + (n - m)=n by omega] at a
    exact ⟨a,b.trans h4⟩
  · rw [if_neg z]
    have:m=n:=by omega
    subst this
    exact ⟨h3,h4⟩
end
def Asks {α:Type} (n:Nat):KasT α->(α->Prop)->Prop
  | .ret a,P=>P a
  | .ask i j k,P=>i < n/\j < n/\∀ b,Asks n (k b) P
theorem Asks.bind {α β:Type} {n:Nat} {P:α->Prop} {Q:β->Prop} {f:α->KasT β} (hf:∀ a,P a->Asks n (f a) Q):∀ {t:KasT α},Asks n t P->Asks n (t.bind f) Q
  | .ret a,h=>hf a h
  | .ask i j k,h=>⟨h.1,h.2.1,fun b=>Asks.bind hf (h.2.2 b)⟩
def AL (n:Nat) (p:Array Nat):Prop:=0 < n/\∀ x∈p.toList,x < n
theorem AL.get {n:Nat} {p:Array Nat} (h:AL n p) (i:Nat):p.getD i 0 < n:=by
  rw [Array.getD_eq_getD_getElem?]
  by_cases z:i < p.size
  · rw [Array.getElem?_eq_getElem z]
    exact h.2 _ (by simp)
  · rw [Array.getElem?_eq_none (by omega)]; exact h.1
theorem AL.perm {n:Nat} {p q:Array Nat} (h:AL n p) (e:q.Perm p):AL n q:=⟨h.1,fun x hx=>h.2 x ((Array.perm_iff_toList_perm.mp e).mem_iff.mp hx)⟩
theorem asks_if {α:Type} {n:Nat} {P:α->Prop} {c:Prop} [Decidable c] {t u:KasT α} (h1:Asks n t P) (h2:Asks n u P):Asks n (if c then t else u) P:=by
  split
  · exact h1
  · exact h2
theorem asks_asc {n:Nat} {p:Array Nat} (h:AL n p):∀ f m,Asks n (kas_asc p f m) (fun _=>True)
  | 0,m=>trivial
  | f + 1,m=>⟨h.get _,h.get _,fun b=>asks_if trivial (asks_asc h f (m + 1))⟩
theorem asks_desc {n:Nat}:∀ f (p:Array Nat) m q,AL n p->Asks n (kas_desc f p m q) (fun x=>AL n x.1)
  | 0,p,m,q,h=>h
  | f + 1,p,m,q,h=>⟨h.get _,h.get _,fun b=>asks_if (asks_if (asks_desc f _ _ _ (h.perm (rev_perm _ _))) (asks_desc f _ _ _ h)) ⟨h.get _,h.get _,fun d=>asks_if h (asks_desc f _ _ _ h)⟩⟩
theorem asks_tail {n:Nat} {p:Array Nat} (h:AL n p) (m k:Nat):Asks n (kas_tail3 m k p) (fun x=>AL n x.2):=by
  unfold kas_tail3
  refine Asks.bind (P:=fun _=>True) (fun a _=>?_) (asks_asc (h.perm (rev_perm _ _)) _ _)
  exact h.perm (rev_perm _ _)
theorem asks_descPart {n:Nat} {p:Array Nat} (h:AL n p) (m k:Nat):Asks n (kas_descPart m k p) (fun x=>AL n x.2):=
  Asks.bind (fun x hx=>asks_if (asks_tail (AL.perm hx (rev_perm _ _)) _ _) (asks_tail hx _ _)) (asks_desc _ _ _ _ h)
theorem asks_count {n:Nat} {p:Array Nat} (h:AL n p) (k:Nat):Asks n (kas_count k p) (fun x=>AL n x.2):=by
  unfold kas_count
  refine Asks.bind (P:=fun _=>True) (fun m _=>?_) (asks_asc h _ _)
  refine asks_if (show AL n p from h) (asks_if ?_ (asks_descPart h _ _))
  exact ⟨h.get _,h.get _,fun c=>asks_if (show AL n p from h) (asks_descPart (h.perm (rev_perm _ _)) _ _)⟩
theorem asks_place {n:Nat} {p:Array Nat} (h:AL n p) (k:Nat):∀ f l q,Asks n (kas_place p k f l q) (fun _=>True)
  | 0,_,_=>trivial
  | f + 1,l,q=>by
    rw [kas_place]
    exact asks_if trivial ⟨h.get _,h.get _,fun c=>asks_if (asks_place h k f _ _) (asks_place h k f _ _)⟩
theorem asks_bin {n:Nat}:∀ f (p:Array Nat) k,AL n p->Asks n (kas_bin f p k) (fun _=>True)
  | 0,_,_,_=>trivial
  | f + 1,p,k,h=>by
    rw [kas_bin]
    exact Asks.bind (fun l _=>asks_bin f _ _ (h.perm (bubble_perm _ _ _))) (asks_place h k _ _ _)
theorem asks_sort {n:Nat} (hn:1<=n):Asks n (kas_sort n) (fun _=>True):=by
  have h:AL n (List.toArray (List.range n)):=⟨hn,fun x hx=>by simpa using hx⟩
  unfold kas_sort
  refine Asks.bind (P:=fun x=>AL n x.2) (fun x hx=>?_) (asks_count h n)
  exact asks_if (asks_bin _ _ _ hx) (show True from trivial)
theorem kasWp_ev {α:Type} {cmp:Nat->Nat->(Bool->Shared->Prop)->Shared->Prop} {c:Nat->Nat->Bool} {n:Nat} {s:Shared} (h:∀ i j (C:Bool->Shared->Prop),i < n->j < n->C (c i j) s->cmp i j C s) :
    ∀ (t:KasT α) (P:α->Prop) (Q:α->Shared->Prop),Asks n t P->Q (evT c t) s->t.kasWp cmp Q s
  | .ret a,_,_,_,q=>q
  | .ask i j k,P,Q,a,q=>h i j _ a.1 a.2.1 (kasWp_ev h (k (c i j)) P Q (a.2.2 _) q)
end L2
namespace L2
open PySem PySem.Spec PyProof.Rows PySem.W
section
variable {prog:Program} {w:World} {A:Around} {E:Value->Shared->Prop} {s:Shared}
inductive TupsAre (h:Heap):List Value->List (List Int)->Prop
  | nil:TupsAre h [] []
  | cons {a:Addr} {o:Obj} {xs:Array Value} {n:Nat} {x:Int} {ns:List Int} {vs:List Value} {nss:List (List Int)} (ho:h.get? a=some o) (hc:o.cls=.type "tuple") (hd:o.data=.seq xs n) (hi:IntsAre xs.toList (x :: ns)) (r:TupsAre h vs nss):TupsAre h (.ref a :: vs) ((x :: ns) :: nss)
theorem TupsAre.keep {h h':Heap} (k:∀ b o,h.get? b=some o->h'.get? b=some o):∀ {vs:List Value} {nss:List (List Int)},TupsAre h vs nss->TupsAre h' vs nss
  | _,_,.nil=>.nil
  | _,_,.cons ho hc hd hi r=>.cons (k _ _ ho) hc hd hi (r.keep k)
theorem TupsAre.keepT {h h':Heap} (k:∀ b o,o.cls=.type "tuple" -> h.get? b=some o->h'.get? b=some o):∀ {vs:List Value} {nss:List (List Int)},TupsAre h vs nss->TupsAre h' vs nss
  | _,_,.nil=>.nil
  | _,_,.cons ho hc hd hi r=>.cons (k _ _ hc ho) hc hd hi (r.keepT k)
theorem TupsAre.length {h:Heap}:∀ {vs:List Value} {nss:List (List Int)},TupsAre h vs nss->vs.length=nss.length
  | _,_,.nil=>rfl
  | _,_,.cons _ _ _ _ r=>by rw [E8,E8,r.length]
theorem TupsAre.at {h:Heap}:∀ {vs:List Value} {nss:List (List Int)},TupsAre h vs nss->∀ i,i < vs.length->∃ a o xs n,vs.getD i Value.none=.ref a/\h.get? a=some o/\o.data=.seq xs n/\IntsAre xs.toList (nss.getD i [])
  | _,_,.nil,i,hi=>by simp at hi
  | _,_,.cons ho hc hd hi r,0,_=>⟨_,_,_,_,rfl,ho,hd,hi⟩
  | _,_,.cons ho hc hd hi r,i + 1,hl=>by
    obtain ⟨a,o,xs,n,h1,h2,h3,h4⟩:=r.at i (by simpa using hl)
    exact ⟨a,o,xs,n,by simpa using h1,h2,h3,by simpa using h4⟩
theorem TupsAre.firsts {M:Model} {h:Heap}:∀ {vs:List Value} {nss:List (List Int)},TupsAre h vs nss->∃ fs,KatTups h vs fs/\fs.length=vs.length/\∀ v∈fs,Looks M h (typeOf v) (.type "int")
  | _,_,.nil=>⟨[],.nil,rfl,fun v hv=>by cases hv⟩
  | _,_,.cons (xs:=xs) (x:=x0) ho hc hd hi r=>by
    obtain ⟨fs,h1,h2,h3⟩:=r.firsts (M:=M)
    have hi':=hi
    generalize hl:xs.toList=l at hi'
    cases hi' with
    | cons _ t hr=>
      refine ⟨.int x0 t :: fs,.cons ho hc hd ?_ h1,by simp [h2],fun v hv=>?_⟩
      · rw [<- Array.getElem?_toList,hl]; rfl
      · rcases D1.mp hv with rfl | hv
        · exact Looks.of_pure rfl
        · exact h3 v hv
def Jf:List Int->List Int->Bool
  | [],[]=>false
  | [],_ :: _=>true
  | _ :: _,[]=>false
  | a :: as,b :: bs=>if a=b then Jf as bs else decide (a < b)
theorem lex_run (b:Bool) {Q:Bool->Shared->Prop}:∀ {xs ys:List Value} {ns ms:List Int} (d:Bool) (i:Nat),IntsAre xs ns->IntsAre ys ms->d=decide (xs.length < ys.length)->Q (Jf ns ms) s->KatLex prog w A b d Q (xs.zip ys) i s
  | _,_,_,_,d,i,.nil,.nil,hd,q=>by
    have:d=false:=by rw [hd]; simp
    subst this
    exact q
  | _,_,_,_,d,i,.nil,.cons _ _ _,hd,q=>by
    have:d=true:=by rw [hd]; simp
    subst this
    exact q
  | _,_,_,_,d,i,.cons _ _ _,.nil,hd,q=>by
    have:d=false:=by rw [hd]; simp
    subst this
    exact q
  | _,_,_,_,d,i,.cons x t hr,.cons y u hq,hd,q=>by
    rw [List.zip_cons_cons]
    refine kat_cons (wpAny_eqBool_int ?_)
    by_cases z:x=y
    · subst z
      rw [beq_self_eq_true]
      refine kat_yes (lex_run b d (i + 1) hr hq (by rw [hd]; simp) ?_)
      rw [Jf,if_pos rfl] at q
      exact q
    · rw [beq_eq_false_iff_ne.mpr z]
      refine kat_no ?_
      rw [Jf,if_neg z] at q
      cases b && i == 0 with
      | true=>exact oneLt_int q
      | false=>exact kat_one _ _ (lt_int q)
def rankL (nss:List (List Int)) (i:Nat):Nat:=(nss.filter fun ms=>Jf ms (nss.getD i [])).length
theorem lexL_irr:∀ a:List Int,Jf a a=false
  | []=>rfl
  | a :: as=>by rw [Jf,if_pos rfl]; exact lexL_irr as
theorem lexL_trans:∀ {a b c:List Int},Jf a b=true->Jf b c=true->Jf a c=true
  | [],[],_,h,_=>by cases h
  | [],_ :: _,[],_,h=>by cases h
  | [],_ :: _,_ :: _,_,_=>rfl
  | _ :: _,[],_,h,_=>by cases h
  | _ :: _,_ :: _,[],_,h=>by cases h
  | a :: as,b :: bs,c :: cs,h1,h2=>by
    rw [Jf] at h1 h2 ⊢
    by_cases z1:a=b
    · subst z1
      rw [if_pos rfl] at h1
      by_cases z2:a=c
      · subst z2
        rw [if_pos rfl] at h2 ⊢
        exact lexL_trans h1 h2
      · rw [if_neg z2] at h2 ⊢; exact h2
    · rw [if_neg z1] at h1
      have h1':a < b:=by simpa using h1
      by_cases z2:b=c
      · subst z2
        rw [if_neg z1]; exact h1
      · rw [if_neg z2] at h2
        have h2':b < c:=by simpa using h2
        rw [if_neg (by omega)]
        simp; omega
theorem lexL_tot:∀ {a b:List Int},Jf a b=false->Jf b a=false->a=b
  | [],[],_,_=>rfl
  | [],_ :: _,h,_=>by cases h
  | _ :: _,[],_,h=>by cases h
  | a :: as,b :: bs,h1,h2=>by
    rw [Jf] at h1 h2
    by_cases z:a=b
    · subst z
      rw [if_pos rfl] at h1 h2
      rw [lexL_tot h1 h2]
    · rw [if_neg z] at h1
      rw [if_neg (fun e=>z e.symm)] at h2
      have h1':¬ a < b:=by simpa using h1
      have h2':¬ b < a:=by simpa using h2
      exact absurd (show a=b by omega) z
theorem filter_len_lt {α:Type} {p q:α->Bool}:∀ {l:List α},(∀ x∈l,p x=true->q x=true)->(∃ x∈l,p x=false/\q x=true)->(l.filter p).length < (l.filter q).length
  | [],_,h=>by obtain ⟨_,h,_⟩:=h; cases h
  | x :: l,h,hx=>by
    have hle:(l.filter p).length<=(l.filter q).length:=by
      clear hx
      induction l with
      | nil=>exact O4 _
      | cons y l ih=>
        have ih:=ih fun z hz=>h z (by rcases D1.mp hz with rfl | hz <;> simp [*])
        have hy:=h y (by simp)
        rw [List.filter_cons,List.filter_cons]
        by_cases a:p y=true
        · rw [if_pos a,if_pos (hy a)]; simp; exact ih
        · rw [if_neg a]
          split
          · simp; omega
          · exact ih
    rw [List.filter_cons,List.filter_cons]
    obtain ⟨y,hy,h1,h2⟩:=hx
    rcases D1.mp hy with rfl | hy
    · rw [h1,h2]; simp; omega
    · have ih:=filter_len_lt (fun z hz=>h z (O8 _ hz)) ⟨y,hy,h1,h2⟩
      by_cases a:p x=true
      · rw [if_pos a,if_pos (h x (by simp) a)]; simp; exact ih
      · rw [if_neg a]
        split
        · simp; omega
        · exact ih
theorem rank_lt {nss:List (List Int)} {i j:Nat} (hi:i < nss.length) (hj:j < nss.length):cR (rankL nss) i j=Jf (nss.getD i []) (nss.getD j []):=by
  have mem:∀ k,k < nss.length->nss.getD k []∈nss:=fun k hk=>by
    rw [D7,O1 hk]; exact List.getElem_mem hk
  unfold cR
  have key:∀ {i j:Nat},i < nss.length->j < nss.length->Jf (nss.getD i []) (nss.getD j [])=true->rankL nss i < rankL nss j:=fun {i j} hi hj h=>
    filter_len_lt (fun x _ hx=>lexL_trans hx h) ⟨nss.getD i [],mem i hi,lexL_irr _,h⟩
  cases z:Jf (nss.getD i []) (nss.getD j []) with
  | true=>exact decide_eq_true (key hi hj z)
  | false=>
    refine decide_eq_false ?_
    cases z2:Jf (nss.getD j []) (nss.getD i []) with
    | true=>have:=key hj hi z2; omega
    | false=>
      have e:=lexL_tot z z2
      unfold rankL
      rw [e]
      exact G9 _
theorem sort_tups {a:Addr} {vs:List Value} {nss:List (List Int)} {n:Nat} {P:PySem.Fin->Shared->Prop} (ho:s.heap.get? a=some (seqObj "list" vs.toArray n)) (hT:TupsAre s.heap vs nss) (h64:vs.length < 64)
    (h:∀ (p:List Nat) (h':Heap) (k:Nat),p.Perm (List.range vs.length)->(∀ i,1<=i->i < vs.length->Jf (nss.getD (p.getD i 0) []) (nss.getD (p.getD (i - 1) 0) [])=false)->h'.get? a=some (seqObj "list" (List.toArray (p.map fun i=>vs.getD i Value.none)) k)->(∀ b o,b≠a->s.heap.get? b=some o->h'.get? b=some o)->P (.done (.ret .none)) { s with heap:=h' }) :
    wpAny (model prog w) A (Builtin.«list.sort» ⟨[.ref a],[]⟩) P E s:=by
  have ha:a < s.heap.objs.size:=O6 ho
  obtain ⟨e1,ho1⟩:∃ e1,(s.heap.update a (Obj.mapSeq fun _=>(#[]:Array Value))).get? a=some (seqObj "list" #[] e1):=⟨_,get?_update_seq ho fun _=>#[]⟩
  have keep3:∀ b o,b≠a->s.heap.get? b=some o->(((s.heap.update a (Obj.mapSeq fun _=>(#[]:Array Value))).push (seqObj "tuple" vs.toArray 0)).push (seqObj "list" #[] 0)).get? b=some o:=fun b o hb e=>
    O0 _ (O0 _ (by rw [L3 _ _ _ _ hb]; exact e))
  have ho3:(((s.heap.update a (Obj.mapSeq fun _=>(#[]:Array Value))).push (seqObj "tuple" vs.toArray 0)).push (seqObj "list" #[] 0)).get? a=some (seqObj "list" #[] e1):=O0 _ (O0 _ ho1)
  rw [list_sort_plain]
  refine wpAny_bind (listItems_at ho rfl ?_)
  refine wpAny_bind (listUpdate_at ho rfl ?_ (by rw [O5,sizeLine_eq]; omega) (G8 _))
  refine wpAny_bind (seqEpoch_at ho1 rfl ?_)
  refine wpAny_bind (wpAny_newTuple ?_ (by show vs.length<=_; rw [sizeLine_eq]; omega))
  refine wpAny_bind (wpAny_newList ?_ (G8 _))
  refine wpAny_holding ?_
  show wpAny (model prog w) A _ P E { s with heap:=((s.heap.update a (Obj.mapSeq fun _=>(#[]:Array Value))).push (seqObj "tuple" vs.toArray 0)).push (seqObj "list" #[] 0) }
  dsimp only
  generalize hH:((s.heap.update a (Obj.mapSeq fun _=>(#[]:Array Value))).push (seqObj "tuple" vs.toArray 0)).push (seqObj "list" #[] 0)=H3 at *
  have fin:∀ (st:SortSt) (p:List Nat),p.Perm (List.range vs.length)->(arrOf st).map (·.2)=List.toArray (p.map fun i=>vs.getD i Value.none)->failedOf st=none->(∀ i,1<=i->i < vs.length->Jf (nss.getD (p.getD i 0) []) (nss.getD (p.getD (i - 1) 0) [])=false) ->
      wpAny (model prog w) A (do
        let sorted:=(arrOf st).map (·.2)
        let touched:=(<- seqEpoch a) != e1
        Builtin.List.listUpdate (.ref a) fun _=>sorted
        if let some e:=failedOf st then rule "list.sort.comparison-raised"; throw e
        if touched then rule "list.sort.modified"; raiseError "ValueError" "list modified during sort"
        ret .none) P E { s with heap:=H3 }:=fun st p hp ha2 hf hs=>by
    dsimp only
    have hl:(List.toArray (p.map fun i=>vs.getD i Value.none)).size=vs.length:=by rw [O5,O2,hp.length_eq,F0]
    obtain ⟨c2,hc2⟩:∃ c2,(H3.update a (Obj.mapSeq fun _=>List.toArray (p.map fun i=>vs.getD i Value.none))).get? a=some (seqObj "list" (List.toArray (p.map fun i=>vs.getD i Value.none)) c2):=⟨_,get?_update_seq ho3 fun _=>List.toArray (p.map fun i=>vs.getD i Value.none)⟩
    rw [ha2,hf]
    refine wpAny_bind (seqEpoch_at ho3 rfl ?_)
    refine wpAny_bind (listUpdate_at ho3 rfl ?_ (G8 _) (D3 (Nat.le_of_eq hl) (by rw [sizeLine_eq]; omega)))
    simp only [bne_self_eq_false,F3,if_false]
    exact wpAny_pure (h p _ c2 hp hs hc2 fun b o hb e=>by rw [L3 _ _ _ _ hb]; exact keep3 b o hb e)
  by_cases h2:vs.toArray.size < 2
  · rw [if_pos h2,if_pos h2]
    refine wpAny_bind (wpAny_pure ?_)
    rw [StateT.run_pure]
    refine wpAny_bind (wpAny_pure ?_)
    refine fin (SortSt.mk' general' (vs.toArray.zip vs.toArray) #[] 7 none) (List.range vs.length) (List.Perm.refl _) ?_ rfl (fun i g1 g2=>?_)
    · show (vs.toArray.zip vs.toArray).map (·.2)=_
      apply Array.toList_inj.mp
      apply List.ext_getElem?
      intro i
      by_cases z:i < vs.length
      · simp [z]
      · simp [z]
    · rw [O5] at h2; omega
  · rw [if_neg h2,if_neg h2]
    rw [O5] at h2
    have hT3:TupsAre H3 vs nss:=hT.keepT fun b o hc e=>keep3 b o (fun z=>by
      rw [z,ho] at e
      have e:=Option.some.inj e
      rw [<- e] at hc
      exact absurd (show Value.type "list" = .type "tuple" from hc) (by decide)) e
    obtain ⟨fs,k1,k2,k3⟩:=hT3.firsts (M:=model prog w)
    refine wpAny_bind (kat_kind (s:={ s with heap:=H3 }) (T:=.type "int") k1 (by omega) k3 (by decide) ?_)
    have hask:∀ i j (C:Bool->Shared->Prop),i < vs.length->j < vs.length->C (cR (rankL nss) i j) { s with heap:=H3 }->kas_ask prog w A (tuples' (Value.type "int" != Value.type "tuple")) vs i j C { s with heap:=H3 }:=fun i j C hi hj q=>by
      obtain ⟨ai,oi,xi,ni,e1,e2,e3,e4⟩:=hT3.at i hi
      obtain ⟨aj,oj,xj,nj,f1,f2,f3,f4⟩:=hT3.at j hj
      rw [rank_lt (by rw [<- hT.length]; exact hi) (by rw [<- hT.length]; exact hj)] at q
      unfold kas_ask
      rw [e1,f1]
      exact kat_lt e2 e3 f2 f3 (lex_run _ _ 0 e4 f4 (by simp) q)
    have hev:=sort_ev (r:=rankL nss) (n:=vs.length) (by omega)
    refine wpAny_bind (wpAny_mono (kat_run (vs:=vs) (ks:=vs) (Q:=fun st' s'=>s'={ s with heap:=H3 }/\arrOf st'=(evT (cR (rankL nss)) (kas_sort vs.length)).map (kas_item (vs.toArray.zip vs.toArray))/\failedOf st'=none)
      (G:=fun p s'=>s'={ s with heap:=H3 }/\p=evT (cR (rankL nss)) (kas_sort vs.length)) rfl (by omega) h64 (fun p' st' s' a1 a2 a3 a4=>⟨a4.1,by rw [<- a4.2]; exact a2,a3⟩) (kasWp_ev hask _ (fun _=>True) _ (asks_sort (by omega)) ⟨rfl,rfl⟩)) ?_ fun _ _ e=>e)
    rintro ⟨⟨⟩,st'⟩ s' ⟨rfl,har,hf⟩
    have hpl:(evT (cR (rankL nss)) (kas_sort vs.length)).toList.Perm (List.range vs.length):=by
      have:=Array.perm_iff_toList_perm.mp hev.2
      simpa using this
    refine fin st' _ hpl (kat_snds rfl har) hf fun i g1 g2=>?_
    have hr:=hev.1 i g1 g2
    have hin:∀ k,(evT (cR (rankL nss)) (kas_sort vs.length)).toList.getD k 0 < vs.length:=fun k=>by
      have hal:AL vs.length (evT (cR (rankL nss)) (kas_sort vs.length)):=AL.perm (p:=List.toArray (List.range vs.length)) ⟨by omega,fun x hx=>by simpa using hx⟩ hev.2
      have:=hal.get k
      rw [Array.getD_eq_getD_getElem?,<- Array.getElem?_toList] at this
      rw [D7]; exact this
    have hg:∀ k,(evT (cR (rankL nss)) (kas_sort vs.length)).getD k 0=(evT (cR (rankL nss)) (kas_sort vs.length)).toList.getD k 0:=fun k=>by
      rw [Array.getD_eq_getD_getElem?,<- Array.getElem?_toList,D7]
    unfold rk at hr
    rw [hg,hg] at hr
    have:=rank_lt (nss:=nss) (i:=(evT (cR (rankL nss)) (kas_sort vs.length)).toList.getD i 0) (j:=(evT (cR (rankL nss)) (kas_sort vs.length)).toList.getD (i - 1) 0) (by rw [<- hT.length]; exact hin _) (by rw [<- hT.length]; exact hin _)
    rw [<- this]
    exact decide_eq_false (Nat.not_lt.mpr hr)
theorem sorted_tups {l:Addr} {vs:List Value} {nss:List (List Int)} {Q:Value->Shared->Prop} (hl:s.heap.IsList l vs.toArray) (hT:TupsAre s.heap vs nss) (h64:vs.length < 64)
    (h:∀ (p:List Nat) (h':Heap) (D k:Nat),p.Perm (List.range vs.length)->(∀ i,1<=i->i < vs.length->Jf (nss.getD (p.getD i 0) []) (nss.getD (p.getD (i - 1) 0) [])=false)->s.heap.objs.size<=D->h'.get? D=some (seqObj "list" (List.toArray (p.map fun i=>vs.getD i Value.none)) k)->(∀ b o,s.heap.get? b=some o->h'.get? b=some o)->Q (.ref D) { s with heap:=h' }) :
    wpAny (model prog w) A (call (.builtin "sorted") [.ref l]) Q E s:=by
  refine Calls.call_function_entry kind_sorted plain_sorted entry_sorted (args_sorted1 _) ?_
  unfold Builtin.«sorted»
  refine wpAny_bind (m:=checkCount "sorted" 1 1 _) (wpAny_pure ?_)
  refine wpAny_bind (collect_list hl ?_ (by rw [sizeLine_eq]; omega))
  refine wpAny_bind (wpAny_newList ?_ (by rw [sizeLine_eq]; omega))
  have hsz:((s.heap.push (seqObj "list" #[] 0)).update s.heap.objs.size (Obj.mapSeq (· ++ vs.toArray))).objs.size=s.heap.objs.size + 1:=by
    rw [Heap.size_update,size_push']
  have hoL:(((s.heap.push (seqObj "list" #[] 0)).update s.heap.objs.size (Obj.mapSeq (· ++ vs.toArray))).push (seqObj "list" vs.toArray 0)).get? (s.heap.objs.size + 1)=some (seqObj "list" vs.toArray 0):=by
    rw [<- hsz]; exact O7 _ rfl
  have keep:∀ b o,s.heap.get? b=some o->(((s.heap.push (seqObj "list" #[] 0)).update s.heap.objs.size (Obj.mapSeq (· ++ vs.toArray))).push (seqObj "list" vs.toArray 0)).get? b=some o:=fun b o q=>by
    have hlt:b < s.heap.objs.size:=O6 q
    rw [Heap.get?_push_ne _ _ _ (by rw [hsz]; exact O9 (F4 hlt)),L3 _ _ _ _ (O9 hlt),Heap.get?_push_ne _ _ _ (O9 hlt)]
    exact q
  show wpAny _ _ _ _ _ { s with heap:=((s.heap.push (seqObj "list" #[] 0)).update s.heap.objs.size (Obj.mapSeq (· ++ vs.toArray))).push (seqObj "list" vs.toArray 0) }
  rw [hsz]
  refine wpAny_bind (wpAny_holding (wpAny_call_entry slot_list_sort ⟨_,hoL,rfl⟩ entry_list_sort ?body (args_list_sort _)))
  case body=>
    refine sort_tups (s:={ s with heap:=((s.heap.push (seqObj "list" #[] 0)).update s.heap.objs.size (Obj.mapSeq (· ++ vs.toArray))).push (seqObj "list" vs.toArray 0) }) hoL (hT.keep keep) h64 fun p h' k a1 a2 a3 a4=>?_
    exact ⟨_,rfl,wpAny_pure ⟨_,rfl,h p h' _ k a1 a2 (Nat.le_succ _) a3 fun b o e=>a4 b o (O9 (F4 (O6 e))) (keep b o e)⟩⟩
end
end L2
namespace L2
open PySem PySem.Spec PyProof.Rows
def insL (a:List Int):List (List Int)->List (List Int)
  | []=>[a]
  | b :: r=>if Jf b a=true then b :: insL a r else a :: b :: r
def Qi:List (List Int)->List (List Int)
  | []=>[]
  | a :: r=>insL a (Qi r)
def leL (a b:List Int):Prop:=Jf b a=false
theorem leL_iff (a b:List Int):leL a b <-> a=b\/Jf a b=true:=by
  unfold leL
  constructor
  · intro h
    cases z:Jf a b with
    | true=>exact .inr rfl
    | false=>exact .inl (lexL_tot z h)
  · rintro (rfl | h)
    · exact lexL_irr a
    · cases z:Jf b a with
      | false=>rfl
      | true=>have:=lexL_trans h z; rw [lexL_irr] at this; cases this
theorem leL_trans {a b c:List Int} (h1:leL a b) (h2:leL b c):leL a c:=by
  rw [leL_iff] at *
  rcases h1 with rfl | h1
  · exact h2
  · rcases h2 with rfl | h2
    · exact .inr h1
    · exact .inr (lexL_trans h1 h2)
theorem leL_anti {a b:List Int} (h1:leL a b) (h2:leL b a):a=b:=lexL_tot h2 h1
theorem insL_perm (a:List Int):∀ l,(insL a l).Perm (a :: l)
  | []=>List.Perm.refl _
  | b :: r=>by
    rw [insL]
    split
    · exact ((insL_perm a r).cons b).trans (List.Perm.swap a b r)
    · exact List.Perm.refl _
theorem Zg:∀ l,(Qi l).Perm l
  | []=>List.Perm.refl _
  | a :: r=>(insL_perm a (Qi r)).trans ((Zg r).cons a)
theorem insL_sorted {a:List Int}:∀ {l:List (List Int)},l.Pairwise leL->(insL a l).Pairwise leL
  | [],_=>by rw [insL]; exact List.pairwise_singleton _ _
  | b :: r,h=>by
    obtain ⟨h1,h2⟩:=F1.mp h
    rw [insL]
    split
    · rename_i q
      refine F1.mpr ⟨fun x hx=>?_,insL_sorted h2⟩
      rcases D1.mp ((insL_perm a r).mem_iff.mp hx) with rfl | hx
      · exact (leL_iff b x).mpr (.inr q)
      · exact h1 x hx
    · rename_i q
      have q':leL a b:=by unfold leL; simpa using q
      refine F1.mpr ⟨fun x hx=>?_,h⟩
      rcases D1.mp hx with rfl | hx
      · exact q'
      · exact leL_trans q' (h1 x hx)
theorem sortL_sorted:∀ l,(Qi l).Pairwise leL
  | []=>List.Pairwise.nil
  | a :: r=>insL_sorted (sortL_sorted r)
theorem sort_uniq:∀ {a b:List (List Int)},a.Perm b->a.Pairwise leL->b.Pairwise leL->a=b
  | [],b,h,_,_=>(List.nil_perm.mp h).symm
  | x :: a,[],h,_,_=>absurd (List.perm_nil.mp h) (by simp)
  | x :: a,y :: b,h,ha,hb=>by
    obtain ⟨a1,a2⟩:=F1.mp ha
    obtain ⟨b1,b2⟩:=F1.mp hb
    have e:x=y:=by
      rcases D1.mp (h.mem_iff.mp (E4 (a:=x) (l:=a))) with e | hx
      · exact e
      · rcases D1.mp (h.mem_iff.mpr (E4 (a:=y) (l:=b))) with e | hy
        · exact e.symm
        · exact leL_anti (a1 y hy) (b1 x hx)
    subst e
    rw [sort_uniq (List.Perm.cons_inv h) a2 b2]
theorem pair_of_chain {l:List (List Int)} (h:∀ i,1<=i->i < l.length->Jf (l.getD i []) (l.getD (i - 1) [])=false):l.Pairwise leL:=by
  rw [F5]
  have g:∀ k (hk:k < l.length),l.getD k []=l[k]:=fun k hk=>by rw [D7,O1 hk]; rfl
  have key:∀ d i (hi:i + d < l.length),leL (l.getD i []) (l.getD (i + d) []):=by
    intro d
    induction d with
    | zero=>intro i hi; exact (leL_iff _ _).mpr (.inl rfl)
    | succ d ih=>
      intro i hi
      have h1:=ih i (by omega)
      have h2:=h (i + d + 1) (by omega) (by omega)
      rw [Nat.add_sub_cancel] at h2
      exact leL_trans h1 h2
  intro i j hi hj hij
  have:=key (j - i) i (by omega)
  rw [show i + (j - i)=j by omega,g i hi,g j hj] at this
  exact this
theorem sort_perm {nss:List (List Int)} {p:List Nat} (hp:p.Perm (List.range nss.length)) (h:∀ i,1<=i->i < nss.length->Jf (nss.getD (p.getD i 0) []) (nss.getD (p.getD (i - 1) 0) [])=false):p.map (fun i=>nss.getD i [])=Qi nss:=by
  have hl:p.length=nss.length:=by rw [hp.length_eq,F0]
  have e1:(List.range nss.length).map (fun i=>nss.getD i [])=nss:=by
    apply List.ext_getElem?
    intro i
    by_cases z:i < nss.length
    · simp [z]
    · simp [z]
  have pm:(p.map fun i=>nss.getD i []).Perm nss:=by
    have:=hp.map (fun i=>nss.getD i [])
    rwa [e1] at this
  have gd:∀ k,k < p.length->(p.map fun i=>nss.getD i []).getD k []=nss.getD (p.getD k 0) []:=fun k hk=>by
    rw [D7,E1,O1 hk,D7 (l:=p),O1 hk]
    rfl
  refine sort_uniq (pm.trans (Zg nss).symm) (pair_of_chain fun i g1 g2=>?_) (sortL_sorted nss)
  rw [O2] at g2
  rw [gd i g2,gd (i - 1) (by omega)]
  exact h i g1 (by omega)
theorem tups_of {P:Program} {w:World} {H:Hp} {h:Heap} (ok:HOk P w H h):∀ {nss:List (List Int)} {vs:List V} {its:List Value},Paired (fun (v:V) (ns:List Int)=>ns≠[]/\∃ a,v=.ref a/\H a=some (.tup (ns.map V.int))) vs nss->Vals vs its->TupsAre h its nss
  | [],_,_,.nil,.nil=>.nil
  | [] :: _,v :: vs,u :: us,.cons ⟨z,_⟩ t,.cons ru tu=>absurd rfl z
  | (x :: ns) :: nss,v :: vs,u :: us,.cons ⟨_,a,ea,ha⟩ t,.cons ru tu=>by
    have r:=tups_of ok t tu
    subst ea
    cases ru
    obtain ⟨_,jts,rj,o,ho,hc,n,hd⟩:=ok a _ ha
    exact .cons ho hc hd (by simpa using intsAre_of rj) r
theorem call_sortedT {X:Cx}:CallR X (.builtin "sorted") (fun xs H Q=>∃ p vs,∃ nss:List (List Int),xs=[.ref p]/\SqL X.K H p vs/\vs.length < 64/\Paired (fun (v:V) (ns:List Int)=>ns≠[]/\∃ a,v=.ref a/\H a=some (.tup (ns.map V.int))) vs nss /\
    ∀ d (pp:List Nat),H d=none->pp.Perm (List.range vs.length)->pp.map (fun i=>nss.getD i [])=Qi nss->Q (.ref d) (upd H d (.lst (pp.map fun i=>vs.getD i .non)))):=by
  intro pins s σ H xs us Q I r h
  obtain ⟨p,vs,nss,rfl,hq,h64,hp,q⟩:=h
  obtain ⟨u,rfl,rx⟩:=vals1 r
  cases rx
  obtain ⟨its,r',pl,hz⟩:=I.list hq
  have hlen:=r'.length
  have T:=tups_of I.hok hp r'
  refine sorted_tups pl.isList T (by omega) fun pp h' D k a1 a2 a3 a4 a5=>?_
  have hln:its.length=nss.length:=T.length
  have e:=sort_perm (nss:=nss) (p:=pp) (by rw [<- hln]; exact a1) (fun i g1 g2=>a2 i g1 (by omega))
  have hpl:pp.length=its.length:=by rw [a1.length_eq,F0]
  have hv:Vals (pp.map fun i=>vs.getD i .non) (pp.map fun i=>its.getD i Value.none):=by
    have key:∀ l:List Nat,(∀ x∈l,x < vs.length)->Vals (l.map fun i=>vs.getD i .non) (l.map fun i=>its.getD i Value.none):=by
      intro l
      induction l with
      | nil=>intro _; exact .nil
      | cons x l ih=>
        intro hl
        have hx:=hl x (by simp)
        obtain ⟨u,hu,ru⟩:=r'.get (O1 hx)
        refine .cons ?_ (ih fun y hy=>hl y (O8 _ hy))
        show RelV (vs.getD x V.non) (its.getD x Value.none)
        rw [D7,O1 hx,D7,hu]
        exact ru
    exact key pp fun x hx=>by have:=a1.mem_iff.mp hx; rw [hlen]; simpa using this
  exact ⟨.ref D,_,I.laid (t':=s.toks) (o:=.lst (pp.map fun i=>vs.getD i .non)) a5 a3 ⟨by rw [O2]; omega,_,k,hv,a4⟩,rfl,q D pp (I.hok.fresh a3) (by rw [hlen]; exact a1) e⟩
end L2
namespace L2
open PySem PySem.Spec PyProof.Rows PySem.W
section
variable {prog:Program} {w:World} {A:Around} {E:Value->Shared->Prop} {s:Shared}
theorem sort_one {a:Addr} {vs:List Value} {n:Nat} {P:PySem.Fin->Shared->Prop} (ho:s.heap.get? a=some (seqObj "list" vs.toArray n)) (h64:vs.length < 2)
    (h:∀ (p:List Nat) (h':Heap) (k:Nat),p=List.range vs.length->h'.get? a=some (seqObj "list" (List.toArray (p.map fun i=>vs.getD i Value.none)) k)->(∀ b o,b≠a->s.heap.get? b=some o->h'.get? b=some o)->P (.done (.ret .none)) { s with heap:=h' }) :
    wpAny (model prog w) A (Builtin.«list.sort» ⟨[.ref a],[]⟩) P E s:=by
  have ha:a < s.heap.objs.size:=O6 ho
  obtain ⟨e1,ho1⟩:∃ e1,(s.heap.update a (Obj.mapSeq fun _=>(#[]:Array Value))).get? a=some (seqObj "list" #[] e1):=⟨_,get?_update_seq ho fun _=>#[]⟩
  have keep3:∀ b o,b≠a->s.heap.get? b=some o->(((s.heap.update a (Obj.mapSeq fun _=>(#[]:Array Value))).push (seqObj "tuple" vs.toArray 0)).push (seqObj "list" #[] 0)).get? b=some o:=fun b o hb e=>
    O0 _ (O0 _ (by rw [L3 _ _ _ _ hb]; exact e))
  have ho3:(((s.heap.update a (Obj.mapSeq fun _=>(#[]:Array Value))).push (seqObj "tuple" vs.toArray 0)).push (seqObj "list" #[] 0)).get? a=some (seqObj "list" #[] e1):=O0 _ (O0 _ ho1)
  rw [list_sort_plain]
  refine wpAny_bind (listItems_at ho rfl ?_)
  refine wpAny_bind (listUpdate_at ho rfl ?_ (by rw [O5,sizeLine_eq]; omega) (G8 _))
  refine wpAny_bind (seqEpoch_at ho1 rfl ?_)
  refine wpAny_bind (wpAny_newTuple ?_ (by show vs.length<=_; rw [sizeLine_eq]; omega))
  refine wpAny_bind (wpAny_newList ?_ (G8 _))
  refine wpAny_holding ?_
  show wpAny (model prog w) A _ P E { s with heap:=((s.heap.update a (Obj.mapSeq fun _=>(#[]:Array Value))).push (seqObj "tuple" vs.toArray 0)).push (seqObj "list" #[] 0) }
  dsimp only
  generalize hH:((s.heap.update a (Obj.mapSeq fun _=>(#[]:Array Value))).push (seqObj "tuple" vs.toArray 0)).push (seqObj "list" #[] 0)=H3 at *
  have fin:∀ (st:SortSt) (p:List Nat),p=List.range vs.length->(arrOf st).map (·.2)=List.toArray (p.map fun i=>vs.getD i Value.none)->failedOf st=none ->
      wpAny (model prog w) A (do
        let sorted:=(arrOf st).map (·.2)
        let touched:=(<- seqEpoch a) != e1
        Builtin.List.listUpdate (.ref a) fun _=>sorted
        if let some e:=failedOf st then rule "list.sort.comparison-raised"; throw e
        if touched then rule "list.sort.modified"; raiseError "ValueError" "list modified during sort"
        ret .none) P E { s with heap:=H3 }:=fun st p hp ha2 hf=>by
    dsimp only
    have hl:(List.toArray (p.map fun i=>vs.getD i Value.none)).size=vs.length:=by rw [O5,O2,hp,F0]
    obtain ⟨c2,hc2⟩:∃ c2,(H3.update a (Obj.mapSeq fun _=>List.toArray (p.map fun i=>vs.getD i Value.none))).get? a=some (seqObj "list" (List.toArray (p.map fun i=>vs.getD i Value.none)) c2):=⟨_,get?_update_seq ho3 fun _=>List.toArray (p.map fun i=>vs.getD i Value.none)⟩
    rw [ha2,hf]
    refine wpAny_bind (seqEpoch_at ho3 rfl ?_)
    refine wpAny_bind (listUpdate_at ho3 rfl ?_ (G8 _) (D3 (Nat.le_of_eq hl) (by rw [sizeLine_eq]; omega)))
    simp only [bne_self_eq_false,F3,if_false]
    exact wpAny_pure (h p _ c2 hp hc2 fun b o hb e=>by rw [L3 _ _ _ _ hb]; exact keep3 b o hb e)
  have h2:vs.toArray.size < 2:=by rw [O5]; exact h64
  rw [if_pos h2,if_pos h2]
  refine wpAny_bind (wpAny_pure ?_)
  rw [StateT.run_pure]
  refine wpAny_bind (wpAny_pure ?_)
  refine fin (SortSt.mk' general' (vs.toArray.zip vs.toArray) #[] 7 none) (List.range vs.length) rfl ?_ rfl
  show (vs.toArray.zip vs.toArray).map (·.2)=_
  apply Array.toList_inj.mp
  apply List.ext_getElem?
  intro i
  by_cases z:i < vs.length
  · simp [z]
  · simp [z]
theorem sorted_one {l:Addr} {vs:List Value} {Q:Value->Shared->Prop} (hl:s.heap.IsList l vs.toArray) (h64:vs.length < 2)
    (h:∀ (p:List Nat) (h':Heap) (D k:Nat),p=List.range vs.length->s.heap.objs.size<=D->h'.get? D=some (seqObj "list" (List.toArray (p.map fun i=>vs.getD i Value.none)) k)->(∀ b o,s.heap.get? b=some o->h'.get? b=some o)->Q (.ref D) { s with heap:=h' }) :
    wpAny (model prog w) A (call (.builtin "sorted") [.ref l]) Q E s:=by
  refine Calls.call_function_entry kind_sorted plain_sorted entry_sorted (args_sorted1 _) ?_
  unfold Builtin.«sorted»
  refine wpAny_bind (m:=checkCount "sorted" 1 1 _) (wpAny_pure ?_)
  refine wpAny_bind (collect_list hl ?_ (by rw [sizeLine_eq]; omega))
  refine wpAny_bind (wpAny_newList ?_ (by rw [sizeLine_eq]; omega))
  have hsz:((s.heap.push (seqObj "list" #[] 0)).update s.heap.objs.size (Obj.mapSeq (· ++ vs.toArray))).objs.size=s.heap.objs.size + 1:=by
    rw [Heap.size_update,size_push']
  have hoL:(((s.heap.push (seqObj "list" #[] 0)).update s.heap.objs.size (Obj.mapSeq (· ++ vs.toArray))).push (seqObj "list" vs.toArray 0)).get? (s.heap.objs.size + 1)=some (seqObj "list" vs.toArray 0):=by
    rw [<- hsz]; exact O7 _ rfl
  have keep:∀ b o,s.heap.get? b=some o->(((s.heap.push (seqObj "list" #[] 0)).update s.heap.objs.size (Obj.mapSeq (· ++ vs.toArray))).push (seqObj "list" vs.toArray 0)).get? b=some o:=fun b o q=>by
    have hlt:b < s.heap.objs.size:=O6 q
    rw [Heap.get?_push_ne _ _ _ (by rw [hsz]; exact O9 (F4 hlt)),L3 _ _ _ _ (O9 hlt),Heap.get?_push_ne _ _ _ (O9 hlt)]
    exact q
  show wpAny _ _ _ _ _ { s with heap:=((s.heap.push (seqObj "list" #[] 0)).update s.heap.objs.size (Obj.mapSeq (· ++ vs.toArray))).push (seqObj "list" vs.toArray 0) }
  rw [hsz]
  refine wpAny_bind (wpAny_holding (wpAny_call_entry slot_list_sort ⟨_,hoL,rfl⟩ entry_list_sort ?body (args_list_sort _)))
  case body=>
    refine sort_one (s:={ s with heap:=((s.heap.push (seqObj "list" #[] 0)).update s.heap.objs.size (Obj.mapSeq (· ++ vs.toArray))).push (seqObj "list" vs.toArray 0) }) hoL h64 fun p h' k a1 a3 a4=>?_
    exact ⟨_,rfl,wpAny_pure ⟨_,rfl,h p h' _ k a1 (Nat.le_succ _) a3 fun b o e=>a4 b o (O9 (F4 (O6 e))) (keep b o e)⟩⟩
end
theorem call_sorted1 {X:Cx}:CallR X (.builtin "sorted") (fun xs H Q=>∃ p vs,xs=[.ref p]/\SqL X.K H p vs/\vs.length < 2/\∀ d,H d=none->Q (.ref d) (upd H d (.lst vs))):=by
  intro pins s σ H xs us Q I r h
  obtain ⟨p,vs,rfl,hq,h2,q⟩:=h
  obtain ⟨u,rfl,rx⟩:=vals1 r
  cases rx
  obtain ⟨its,r',pl,hz⟩:=I.list hq
  have hlen:=r'.length
  refine sorted_one pl.isList (by omega) fun pp h' D k a1 a3 a4 a5=>?_
  have e:(pp.map fun i=>its.getD i Value.none)=its:=by
    rw [a1]
    apply List.ext_getElem?
    intro i
    by_cases z:i < its.length
    · simp [z]
    · simp [z]
  rw [e] at a4
  exact ⟨.ref D,_,I.laid (t':=s.toks) (o:=.lst vs) a5 a3 ⟨by omega,_,k,r',a4⟩,rfl,q D (I.hok.fresh a3)⟩
end L2
namespace L2
open PySem PySem.Spec PyProof.Rows PySem.W
def gal:Bool->Keyed->Array Keyed->Nat->Nat->Nat->StateT SortSt Sem (Option Nat):=sortPriv% PySem.Builtin.gallop
def mlo:Array Keyed->Array Keyed->StateT SortSt Sem (Array Keyed):=sortPriv% PySem.Builtin.mergeLo
def mhi:Array Keyed->Array Keyed->StateT SortSt Sem (Array Keyed):=sortPriv% PySem.Builtin.mergeHi
abbrev Qv (st:SortSt) (g:Nat):SortSt:=SortSt.mk' (kindOf st) (arrOf st) (pendingOf st) g (failedOf st)
def bey (L:Bool) (k:Keyed) (v:Array Keyed) (b i:Nat):StateT SortSt Sem (Option Bool):=do
  let x <- elem' v (b + i)
  if L then lt' x k else return (<- lt' k x).map (!·)
def galB (L:Bool) (k:Keyed) (v:Array Keyed) (b n l0 u0:Nat):StateT SortSt Sem (Option Nat):=do
  let mut l:=l0
  let mut u:=u0
  for _ in [0:n] do
    if l>=u then break
    let m:=l + (u - l) / 2
    let some y <- bey L k v b m | return none
    if y then l:=m + 1 else u:=m
  return some u
theorem gal_eq (L:Bool) (k:Keyed) (v:Array Keyed) (b n h:Nat):gal L k v b n h=(do
  let mut p:=0
  let mut q:=1
  let some t <- bey L k v b h | return none
  if t then
    for _ in [0:n] do
      if q>=n - h then break
      let some y <- bey L k v b (h + q) | return none
      if !y then break
      p:=q
      q:=2 * q + 1
    galB L k v b n (h + p + 1) (h + min q (n - h))
  else
    for _ in [0:n] do
      if q>=h + 1 then break
      let some y <- bey L k v b (h - q) | return none
      if y then break
      p:=q
      q:=2 * q + 1
    galB L k v b n (h + 1 - min q (h + 1)) (h - p)):=rfl
section
variable {prog:Program} {w:World} {A:Around} {E:Value->Shared->Prop} {s:Shared}
theorem wp_galB {L:Bool} {k:Keyed} {v:Array Keyed} {b n l u:Nat} {B:Nat->Bool} {st:SortSt} {Q:Option Nat->SortSt->Prop}
    (hb:∀ i,i < n->∀ Q:Option Bool->SortSt->Prop,Q (some (B i)) st->wpS (model prog w) A E s (bey L k v b i) Q st) (mono:∀ i j,i<=j->j < n->B j=true->B i=true)
    (hlu:l<=u) (hu:u<=n) (h1:∀ i,i < l->B i=true) (h2:∀ i,u<=i->i < n->B i=false)
    (hq:∀ u,u<=n->(∀ i,i < u->B i=true)->(∀ i,u<=i->i < n->B i=false)->Q (some u) st):wpS (model prog w) A E s (galB L k v b n l u) Q st:=by
  unfold galB
  refine wpS_bind (wpS_mono (wpS_forRange (I:=fun x c st'=>st'=st/\∃ l u,c=(none,l,u)/\l<=u/\u<=n/\u - l<=n - x/\(∀ i,i < l->B i=true)/\(∀ i,u<=i->i < n->B i=false))
    (Q:=fun c st'=>st'=st/\∃ l u,c=(none,l,u)/\u<=n/\(∀ i,i < u->B i=true)/\(∀ i,u<=i->i < n->B i=false)) ?step ?fin ⟨rfl,l,u,rfl,hlu,hu,by omega,h1,h2⟩) ?post)
  case step=>
    rintro x c st' - hx ⟨rfl,l,u,rfl,a1,a2,a3,a4,a5⟩
    dsimp only
    by_cases z:l>=u
    · rw [if_pos z]
      have:l=u:=by omega
      subst this
      exact wpS_pure ⟨rfl,l,l,rfl,a2,a4,a5⟩
    · rw [if_neg z]
      refine wpS_bind (hb _ (by omega) _ ?_)
      dsimp only
      cases y:B (l + (u - l) / 2) with
      | true=>
        rw [if_pos rfl]
        exact wpS_pure ⟨rfl,_,_,rfl,by omega,a2,by omega,fun i hi=>mono i _ (by omega) (by omega) y,a5⟩
      | false=>
        rw [if_neg (by decide)]
        refine wpS_pure ⟨rfl,_,_,rfl,by omega,by omega,by omega,a4,fun i g1 g2=>?_⟩
        cases y2:B i with
        | false=>rfl
        | true=>rw [mono _ i g1 g2 y2] at y; cases y
  case fin=>
    rintro c st' ⟨rfl,l,u,rfl,a1,a2,a3,a4,a5⟩
    have:l=u:=by omega
    subst this
    exact ⟨rfl,l,l,rfl,a2,a4,a5⟩
  case post=>
    rintro c st' ⟨rfl,l,u,rfl,a2,a4,a5⟩
    exact wpS_pure (hq u a2 a4 a5)
theorem wp_gal {L:Bool} {k:Keyed} {v:Array Keyed} {b n h:Nat} {B:Nat->Bool} {st:SortSt} {Q:Option Nat->SortSt->Prop} (hh:h < n)
    (hb:∀ i,i < n->∀ Q:Option Bool->SortSt->Prop,Q (some (B i)) st->wpS (model prog w) A E s (bey L k v b i) Q st) (mono:∀ i j,i<=j->j < n->B j=true->B i=true)
    (hq:∀ u,u<=n->(∀ i,i < u->B i=true)->(∀ i,u<=i->i < n->B i=false)->Q (some u) st):wpS (model prog w) A E s (gal L k v b n h) Q st:=by
  have off:∀ i j,i<=j->j < n->B i=false->B j=false:=fun i j g1 g2 e=>by
    cases y:B j with
    | false=>rfl
    | true=>rw [mono i j g1 g2 y] at e; cases e
  rw [gal_eq]
  dsimp only
  refine wpS_bind (hb h hh _ ?_)
  dsimp only
  cases y:B h with
  | true=>
    rw [if_pos rfl]
    refine wpS_bind (wpS_mono (wpS_forRange (I:=fun x c st'=>st'=st/\∃ p q,c=(none,p,q)/\x + 1<=q/\p < q/\h + p < n/\B (h + p)=true)
      (Q:=fun c st'=>st'=st/\∃ p q,c=(none,p,q)/\p < q/\h + p < n/\B (h + p)=true/\(h + q < n->B (h + q)=false)) ?step ?fin ⟨rfl,0,1,rfl,by omega,by omega,hh,y⟩) ?post)
    case step=>
      rintro x c st' - hx ⟨rfl,p,q,rfl,a1,a2,a3,a4⟩
      dsimp only
      by_cases z:q>=n - h
      · rw [if_pos z]
        exact wpS_pure ⟨rfl,p,q,rfl,a2,a3,a4,fun g=>by omega⟩
      · rw [if_neg z]
        refine wpS_bind (hb _ (by omega) _ ?_)
        dsimp only
        cases y2:B (h + q) with
        | false=>exact wpS_pure ⟨rfl,p,q,rfl,a2,a3,a4,fun _=>y2⟩
        | true=>exact wpS_pure ⟨rfl,q,2 * q + 1,rfl,by omega,by omega,by omega,y2⟩
    case fin=>
      rintro c st' ⟨rfl,p,q,rfl,a1,a2,a3,a4⟩
      exact ⟨rfl,p,q,rfl,a2,a3,a4,fun g=>by omega⟩
    case post=>
      rintro c st' ⟨rfl,p,q,rfl,a2,a3,a4,a5⟩
      dsimp only
      refine wp_galB hb mono (by omega) (by omega) (fun i hi=>mono i _ (by omega) a3 a4) (fun i g1 g2=>?_) hq
      exact off (h + q) i (by omega) g2 (a5 (by omega))
  | false=>
    rw [if_neg (by decide)]
    refine wpS_bind (wpS_mono (wpS_forRange (I:=fun x c st'=>st'=st/\∃ p q,c=(none,p,q)/\x + 1<=q/\p < q/\p<=h/\B (h - p)=false)
      (Q:=fun c st'=>st'=st/\∃ p q,c=(none,p,q)/\p < q/\p<=h/\B (h - p)=false/\(q<=h->B (h - q)=true)) ?step ?fin ⟨rfl,0,1,rfl,by omega,by omega,G8 _,y⟩) ?post)
    case step=>
      rintro x c st' - hx ⟨rfl,p,q,rfl,a1,a2,a3,a4⟩
      dsimp only
      by_cases z:q>=h + 1
      · rw [if_pos z]
        exact wpS_pure ⟨rfl,p,q,rfl,a2,a3,a4,fun g=>by omega⟩
      · rw [if_neg z]
        refine wpS_bind (hb _ (by omega) _ ?_)
        dsimp only
        cases y2:B (h - q) with
        | true=>exact wpS_pure ⟨rfl,p,q,rfl,a2,a3,a4,fun _=>y2⟩
        | false=>exact wpS_pure ⟨rfl,q,2 * q + 1,rfl,by omega,by omega,by omega,y2⟩
    case fin=>
      rintro c st' ⟨rfl,p,q,rfl,a1,a2,a3,a4⟩
      exact ⟨rfl,p,q,rfl,a2,a3,a4,fun g=>by omega⟩
    case post=>
      rintro c st' ⟨rfl,p,q,rfl,a2,a3,a4,a5⟩
      dsimp only
      refine wp_galB hb mono (by omega) (by omega) (fun i hi=>?_) (fun i g1 g2=>off (h - p) i g1 g2 a4) hq
      exact mono i (h - q) (by omega) (by omega) (a5 (by omega))
end
section
variable {r:Keyed->Nat}
abbrev So (r:Keyed->Nat) (l:List Keyed):Prop:=l.Pairwise fun a b=>r a<=r b
structure Mg (r:Keyed->Nat) (x y:List Keyed) (i j:Nat) (o:List Keyed):Prop where
  pm:o.Perm (x.take i ++ y.take j)
  so:So r o
  le:∀ z∈o,∀ u∈x.drop i ++ y.drop j,r z<=r u
theorem Mg.swap {x y:List Keyed} {i j:Nat} {o:List Keyed} (h:Mg r x y i j o):Mg r y x j i o:=
  ⟨h.pm.trans G7,h.so,fun z hz u hu=>h.le z hz u (G7.mem_iff.mp hu)⟩
theorem Mg.x {x y:List Keyed} {i j k:Nat} {o:List Keyed} (h:Mg r x y i j o) (hx:So r x) (hk:∀ z∈(x.drop i).take k,∀ u∈y.drop j,r z<=r u):Mg r x y (i + k) j (o ++ (x.drop i).take k):=by
  have sd:So r (x.drop i):=hx.sublist (List.drop_sublist _ _)
  have sp:=sd
  unfold So at sp
  rw [<- List.take_append_drop k (x.drop i),D9] at sp
  refine ⟨?_,?_,?_⟩
  · rw [List.take_add]
    refine (h.pm.append_right _).trans ?_
    rw [E9,E9]
    exact List.Perm.append_left _ G7
  · unfold So
    rw [D9]
    exact ⟨h.so,sp.1,fun a ha b hb=>h.le a ha b (E3 _ (List.mem_of_mem_take hb))⟩
  · intro z hz u hu
    rcases D4.mp hz with hz | hz
    · refine h.le z hz u ?_
      rcases D4.mp hu with hu | hu
      · rw [<- List.drop_drop] at hu
        exact E3 _ (List.mem_of_mem_drop hu)
      · exact D8 _ hu
    · rcases D4.mp hu with hu | hu
      · rw [<- List.drop_drop] at hu
        exact sp.2.2 z hz u hu
      · exact hk z hz u hu
theorem Mg.y {x y:List Keyed} {i j k:Nat} {o:List Keyed} (h:Mg r x y i j o) (hy:So r y) (hk:∀ z∈(y.drop j).take k,∀ u∈x.drop i,r z<=r u):Mg r x y i (j + k) (o ++ (y.drop j).take k):=(h.swap.x hy hk).swap
abbrev MP (r:Keyed->Nat) (x y o:List Keyed):Prop:=o.Perm (x ++ y)/\So r o
theorem Mg.perm {x y:List Keyed} {i j:Nat} {o:List Keyed} (h:Mg r x y i j o):(o ++ (x.drop i ++ y.drop j)).Perm (x ++ y):=by
  refine (h.pm.append_right _).trans ?_
  conv=>rhs; rw [<- List.take_append_drop i x,<- List.take_append_drop j y]
  rw [E9,E9]
  refine List.Perm.append_left _ ?_
  rw [<- E9,<- E9]
  exact List.Perm.append_right _ G7
theorem Mg.dx {x y:List Keyed} {i j:Nat} {o:List Keyed} (h:Mg r x y i j o) (hx:So r x) (hj:y.length<=j):MP r x y (o ++ (x.drop i ++ y.drop j)):=by
  refine ⟨h.perm,?_⟩
  unfold So
  rw [D9]
  refine ⟨h.so,?_,h.le⟩
  rw [List.drop_eq_nil_of_le hj,List.append_nil]
  exact hx.sublist (List.drop_sublist _ _)
theorem MP.swap {x y o:List Keyed} (h:MP r x y o):MP r y x o:=⟨h.1.trans G7,h.2⟩
theorem Mg.last {x y:List Keyed} {i j:Nat} {o:List Keyed} (h:Mg r x y i j o) (hx:So r x) (hy:So r y) (hl:∀ z∈y.drop j,∀ u∈x.drop i,r z<=r u):MP r x y (o ++ (y.drop j ++ x.drop i)):=by
  refine ⟨(List.Perm.append_left _ G7).trans h.perm,?_⟩
  unfold So
  rw [D9]
  refine ⟨h.so,?_,fun z hz u hu=>h.le z hz u (G7.mem_iff.mp hu)⟩
  rw [D9]
  exact ⟨hy.sublist (List.drop_sublist _ _),hx.sublist (List.drop_sublist _ _),hl⟩
end
end L2
namespace L2
open PySem PySem.Spec PyProof.Rows PySem.W
def dn (x y o:Array Keyed) (i j:Nat):Array Keyed:=o ++ x.extract i x.size ++ y.extract j y.size
def sg (g:Nat):StateT SortSt Sem Unit:=modify fun st=>Qv st g
abbrev L7:=Option (Array Keyed) × Array Keyed × Nat × Nat × Nat × Nat × Nat
abbrev L6:=Option (Array Keyed) × Array Keyed × Nat × Nat × Nat × Nat
def loA (x y:Array Keyed) (g:Nat) (o:Array Keyed) (i j c d:Nat):StateT SortSt Sem (ForInStep L6):=do
  let a <- elem' y j
  let b <- elem' x i
  let some t <- lt' a b | pure (.done (some (dn x y o i j),o,i,j,c,d))
  if t then
    let e <- elem' y j
    if j + 1 == y.size then pure (.done (some (dn x y (o.push e) i (j + 1)),o.push e,i,j + 1,0,d + 1))
    else if d + 1>=g then pure (.done (none,o.push e,i,j + 1,0,d + 1))
    else pure (.yield (none,o.push e,i,j + 1,0,d + 1))
  else
    let e <- elem' x i
    if i + 1 + 1 == x.size then pure (.done (some (dn y x (o.push e) j (i + 1)),o.push e,i + 1,j,c + 1,0))
    else if c + 1>=g then pure (.done (none,o.push e,i + 1,j,c + 1,0))
    else pure (.yield (none,o.push e,i + 1,j,c + 1,0))
def lo3 (x y o:Array Keyed) (i j g c d:Nat):StateT SortSt Sem (ForInStep L7):=do
  let e <- elem' x i
  if i + 1 + 1 == x.size then pure (.done (some (dn y x (o.push e) j (i + 1)),o.push e,i + 1,j,g,c,d))
  else if c < 7 && d < 7 then pure (.done (none,o.push e,i + 1,j,g,c,d))
  else pure (.yield (none,o.push e,i + 1,j,g,c,d))
def lo2 (x y o:Array Keyed) (i j g c d:Nat):StateT SortSt Sem (ForInStep L7):=do
  let e <- elem' y j
  if j + 1 == y.size then pure (.done (some (dn x y (o.push e) i (j + 1)),o.push e,i,j + 1,g,c,d))
  else
    let f <- elem' x i
    let some k <- gal true f y (j + 1) (y.size - (j + 1)) 0 | pure (.done (some (dn x y (o.push e) i (j + 1)),o.push e,i,j + 1,g,c,d))
    if k > 0 then
      if j + 1 + k == y.size then pure (.done (some (dn x y (o.push e ++ y.extract (j + 1) (j + 1 + k)) i (j + 1 + k)),o.push e ++ y.extract (j + 1) (j + 1 + k),i,j + 1 + k,g,c,k))
      else lo3 x y (o.push e ++ y.extract (j + 1) (j + 1 + k)) i (j + 1 + k) g c k
    else lo3 x y (o.push e) i (j + 1) g c k
def lo1 (x y o:Array Keyed) (i j g c d:Nat):StateT SortSt Sem (ForInStep L7):=do
  sg g
  let e <- elem' y j
  let some k <- gal false e x i (x.size - i) 0 | pure (.done (some (dn x y o i j),o,i,j,g,c,d))
  if k > 0 then
    if i + k + 1 == x.size then pure (.done (some (dn y x (o ++ x.extract i (i + k)) j (i + k)),o ++ x.extract i (i + k),i + k,j,g,k,d))
    else if i + k == x.size then pure (.done (some (dn x y (o ++ x.extract i (i + k)) (i + k) j),o ++ x.extract i (i + k),i + k,j,g,k,d))
    else lo2 x y (o ++ x.extract i (i + k)) (i + k) j g k d
  else lo2 x y o i j g k d
theorem mlo_eq (x y:Array Keyed):mlo x y=(do
  rule "list.sort.merge-lo"
  let mut o:Array Keyed:=#[<- elem' y 0]
  let mut i:=0
  let mut j:=1
  if j == y.size then return dn x y o i j
  if i + 1 == x.size then return dn y x o j i
  let mut g:=gallopOf (<- get)
  for _ in [0:x.size + y.size] do
    let mut c:=0
    let mut d:=0
    for _ in [0:x.size + y.size] do
      let some t <- lt' (<- elem' y j) (<- elem' x i) | return dn x y o i j
      if t then
        o:=o.push (<- elem' y j); j:=j + 1; d:=d + 1; c:=0
        if j == y.size then return dn x y o i j
        if d>=g then break
      else
        o:=o.push (<- elem' x i); i:=i + 1; c:=c + 1; d:=0
        if i + 1 == x.size then return dn y x o j i
        if c>=g then break
    rule "list.sort.gallop"
    g:=g + 1
    for _ in [0:x.size + y.size] do
      if g > 1 then g:=g - 1
      sg g
      let some k <- gal false (<- elem' y j) x i (x.size - i) 0 | return dn x y o i j
      c:=k
      if k > 0 then
        o:=o ++ x.extract i (i + k); i:=i + k
        if i + 1 == x.size then return dn y x o j i
        if i == x.size then return dn x y o i j
      o:=o.push (<- elem' y j); j:=j + 1
      if j == y.size then return dn x y o i j
      let some k <- gal true (<- elem' x i) y j (y.size - j) 0 | return dn x y o i j
      d:=k
      if k > 0 then
        o:=o ++ y.extract j (j + k); j:=j + k
        if j == y.size then return dn x y o i j
      o:=o.push (<- elem' x i); i:=i + 1
      if i + 1 == x.size then return dn y x o j i
      if c < 7 && d < 7 then break
    g:=g + 1
    sg g
  unsupported "internal:list.sort.merge-bound"):=rfl
section
variable {prog:Program} {w:World} {A:Around} {E:Value->Shared->Prop} {s:Shared} {r:Keyed->Nat} {κ:SortKind} {D:Keyed->Prop}
def LtOk (prog:Program) (w:World) (A:Around) (E:Value->Shared->Prop) (s:Shared) (r:Keyed->Nat) (κ:SortKind) (D:Keyed->Prop):Prop:=
  ∀ x y,D x->D y->∀ (st:SortSt) (Q:Option Bool->SortSt->Prop),kindOf st=κ->Q (some (decide (r x < r y))) st->wpS (model prog w) A E s (lt' x y) Q st
theorem wp_el {v:Array Keyed} {i:Nat} {Q:Keyed->SortSt->Prop} {st:SortSt} (hi:i < v.size) (h:Q v[i] st):wpS (model prog w) A E s (elem' v i) Q st:=by
  rw [elem'_eq,getElem?_pos v i hi]
  exact wpS_pure h
def RK (r:Keyed->Nat) (v:Array Keyed) (i:Nat):Nat:=match v[i]? with
  | some p=>r p
  | none=>0
theorem Zc {v:Array Keyed} {i:Nat} (hi:i < v.size):RK r v i=r v[i]:=by unfold RK; rw [getElem?_pos v i hi]
theorem wp_place {L:Bool} {k:Keyed} {v:Array Keyed} {b n h:Nat} {st:SortSt} {Q:Option Nat->SortSt->Prop} (O:LtOk prog w A E s r κ D) (hk:kindOf st=κ) (hD:D k) (hv:∀ z∈v.toList,D z) (hh:h < n) (hn:b + n<=v.size)
    (so:∀ i j,i<=j->j < n->RK r v (b + i)<=RK r v (b + j))
    (hq:∀ u,u<=n->(∀ i,i < u->if L=true then RK r v (b + i) < r k else RK r v (b + i)<=r k)->(∀ i,u<=i->i < n->if L=true then r k<=RK r v (b + i) else r k < RK r v (b + i))->Q (some u) st):wpS (model prog w) A E s (gal L k v b n h) Q st:=by
  refine wp_gal (B:=fun i=>if L then decide (RK r v (b + i) < r k) else !decide (r k < RK r v (b + i))) hh (fun i hi Q q=>?_) (fun i j g1 g2 e=>?_) (fun u g1 g2 g3=>hq u g1 (fun i hi=>?_) fun i h1 h2=>?_)
  · unfold bey
    have hb:b + i < v.size:=by omega
    have hm:D v[b + i]:=hv _ (by simp)
    refine wpS_bind (wp_el hb ?_)
    rw [Zc hb] at q
    cases L with
    | true=>exact O _ _ hm hD st _ hk q
    | false=>exact wpS_bind (O _ _ hD hm st _ hk (wpS_pure q))
  · have:=so i j g1 g2
    cases L with
    | true=>
      have e:RK r v (b + j) < r k:=by simpa using e
      show decide (RK r v (b + i) < r k)=true
      simp; omega
    | false=>
      have e:¬ r k < RK r v (b + j):=by simpa using e
      show (!decide (r k < RK r v (b + i)))=true
      simp; omega
  · have:=g2 i hi
    cases L with
    | true=>simpa using this
    | false=>simpa using this
  · have:=g3 i h1 h2
    cases L with
    | true=>simpa using this
    | false=>simpa using this
theorem mem_dt {l:List Keyed} {b u:Nat} {z:Keyed} (h:z∈(l.drop b).take u):∃ i,i < u/\l[b + i]?=some z:=by
  obtain ⟨i,hi,e⟩:=List.mem_iff_getElem.mp h
  rw [List.length_take] at hi
  refine ⟨i,by omega,?_⟩
  rw [<- e,List.getElem_take,List.getElem_drop,O1]
theorem mem_d {l:List Keyed} {b:Nat} {z:Keyed} (h:z∈l.drop b):∃ i,b<=i/\l[i]?=some z:=by
  obtain ⟨i,hi,e⟩:=List.mem_iff_getElem.mp h
  refine ⟨b + i,by omega,?_⟩
  rw [<- e,List.getElem_drop,O1]
theorem Jg {v:Array Keyed} {i:Nat} {z:Keyed} (h:v.toList[i]?=some z):i < v.size/\RK r v i=r z:=by
  rw [Array.getElem?_toList] at h
  exact ⟨(Array.getElem?_eq_some_iff.mp h).1,by unfold RK; rw [h]⟩
theorem So.rk {v:Array Keyed} (h:So r v.toList):∀ i j,i<=j->j < v.size->RK r v i<=RK r v j:=fun i j g1 g2=>by
  rw [Zc (by omega),Zc g2]
  by_cases z:i=j
  · subst z; exact O4 _
  · have:=F5.mp h i j (by simpa using (by omega:i < v.size)) (by simpa using g2) (by omega)
    simpa using this
theorem dn_list (x y o:Array Keyed) (i j:Nat):(dn x y o i j).toList=o.toList ++ (x.toList.drop i ++ y.toList.drop j):=by
  unfold dn
  simp [Array.toList_extract]
  rw [List.take_of_length_le (by simp),List.take_of_length_le (by simp)]
theorem drop1 {v:Array Keyed} {i:Nat} (h:i < v.size):(v.toList.drop i).take 1=[v[i]]:=by
  rw [List.drop_eq_getElem_cons (by simpa using h)]; simp
theorem Mg.d {x y:List Keyed} {i j:Nat} {o:List Keyed} (h:Mg r x y i j o) (hs:So r (x.drop i ++ y.drop j)):MP r x y (o ++ (x.drop i ++ y.drop j)):=by
  refine ⟨h.perm,?_⟩
  unfold So
  rw [D9]
  exact ⟨h.so,hs,h.le⟩
structure MO (r:Keyed->Nat) (D:Keyed->Prop) (x y:Array Keyed):Prop where
  sx:So r x.toList
  sy:So r y.toList
  dx:∀ z∈x.toList,D z
  dy:∀ z∈y.toList,D z
  la:∀ j,j < y.size->RK r y j<=RK r x (x.size - 1)
abbrev Jn (r:Keyed->Nat) (x y:Array Keyed) (i j:Nat) (o:Array Keyed):Prop:=Mg r x.toList y.toList i j o.toList
theorem Jn.end1 {x y o:Array Keyed} {i j:Nat} (M:MO r D x y) (h:Jn r x y i j o) (hj:j=y.size):MP r x.toList y.toList (dn x y o i j).toList:=by
  rw [dn_list]; exact h.dx M.sx (by simp [hj])
theorem Jn.end2 {x y o:Array Keyed} {i j:Nat} (M:MO r D x y) (h:Jn r x y i j o) (hi:i + 1=x.size):MP r x.toList y.toList (dn y x o j i).toList:=by
  rw [dn_list]
  refine h.last M.sx M.sy fun z hz u hu=>?_
  obtain ⟨a,h1,h2⟩:=mem_d hz
  obtain ⟨b,h3,h4⟩:=mem_d hu
  obtain ⟨k1,k2⟩:=Jg (r:=r) h2
  obtain ⟨k3,k4⟩:=Jg (r:=r) h4
  have:=M.la a k1
  rw [k2,show x.size - 1=b by omega,k4] at this
  exact this
theorem Jn.end3 {x y o:Array Keyed} {i j:Nat} (M:MO r D x y) (h:Jn r x y i j o) (hi:i=x.size):MP r x.toList y.toList (dn x y o i j).toList:=by
  rw [dn_list]
  refine h.d ?_
  rw [List.drop_eq_nil_of_le (by simp [hi]),List.nil_append]
  exact M.sy.sublist (List.drop_sublist _ _)
theorem Jn.xs {x y o:Array Keyed} {i j k:Nat} (M:MO r D x y) (h:Jn r x y i j o) (hk:∀ a,a < k->∀ b,j<=b->b < y.size->RK r x (i + a)<=RK r y b):Jn r x y (i + k) j (o ++ x.extract i (i + k)):=by
  have:=Mg.x (k:=k) h M.sx fun z hz u hu=>by
    obtain ⟨a,h1,h2⟩:=mem_dt hz
    obtain ⟨b,h3,h4⟩:=mem_d hu
    obtain ⟨k1,k2⟩:=Jg (r:=r) h2
    obtain ⟨k3,k4⟩:=Jg (r:=r) h4
    have:=hk a h1 b h3 k3
    rwa [k2,k4] at this
  unfold Jn
  simp only [Array.toList_append,Array.toList_extract,F2,Nat.add_sub_cancel_left]
  exact this
theorem Jn.ys {x y o:Array Keyed} {i j k:Nat} (M:MO r D x y) (h:Jn r x y i j o) (hk:∀ a,a < k->∀ b,i<=b->b < x.size->RK r y (j + a)<=RK r x b):Jn r x y i (j + k) (o ++ y.extract j (j + k)):=by
  have:=Mg.y (k:=k) h M.sy fun z hz u hu=>by
    obtain ⟨a,h1,h2⟩:=mem_dt hz
    obtain ⟨b,h3,h4⟩:=mem_d hu
    obtain ⟨k1,k2⟩:=Jg (r:=r) h2
    obtain ⟨k3,k4⟩:=Jg (r:=r) h4
    have:=hk a h1 b h3 k3
    rwa [k2,k4] at this
  unfold Jn
  simp only [Array.toList_append,Array.toList_extract,F2,Nat.add_sub_cancel_left]
  exact this
theorem push_ex {o v:Array Keyed} {i:Nat} (h:i < v.size):o.push v[i]=o ++ v.extract i (i + 1):=by
  apply Array.toList_inj.mp
  simp only [Array.toList_push,Array.toList_append,Array.toList_extract,F2,Nat.add_sub_cancel_left]
  rw [drop1 h]
theorem Jn.x1 {x y o:Array Keyed} {i j:Nat} (M:MO r D x y) (h:Jn r x y i j o) (hi:i < x.size) (hj:j < y.size) (hk:RK r x i<=RK r y j):Jn r x y (i + 1) j (o.push x[i]):=by
  rw [push_ex hi]
  refine h.xs M fun a ha b h1 h2=>?_
  have:a=0:=by omega
  subst this
  exact D3 hk (M.sy.rk j b h1 h2)
theorem Jn.y1 {x y o:Array Keyed} {i j:Nat} (M:MO r D x y) (h:Jn r x y i j o) (hi:i < x.size) (hj:j < y.size) (hk:RK r y j<=RK r x i):Jn r x y i (j + 1) (o.push y[j]):=by
  rw [push_ex hj]
  refine h.ys M fun a ha b h1 h2=>?_
  have:a=0:=by omega
  subst this
  exact D3 hk (M.sx.rk i b h1 h2)
end
end L2
namespace L2
open PySem PySem.Spec PyProof.Rows PySem.W
section
variable {prog:Program} {w:World} {A:Around} {E:Value->Shared->Prop} {s:Shared} {r:Keyed->Nat} {κ:SortKind} {D:Keyed->Prop}
theorem wp_loA {x y o:Array Keyed} {g i j c d:Nat} {st:SortSt} {R:ForInStep L6->SortSt->Prop} (O:LtOk prog w A E s r κ D) (hk:kindOf st=κ) (M:MO r D x y) (J:Jn r x y i j o) (hi:i + 1 < x.size) (hj:j < y.size)
    (fin:∀ q o i j c d,MP r x.toList y.toList q.toList->R (.done (some q,o,i,j,c,d)) st)
    (go:∀ o' i' j' c' d',Jn r x y i' j' o'->i' + 1 < x.size->j' < y.size->i + j + 1<=i' + j'->R (.done (none,o',i',j',c',d')) st/\R (.yield (none,o',i',j',c',d')) st):wpS (model prog w) A E s (loA x y g o i j c d) R st:=by
  have hi':i < x.size:=by omega
  unfold loA
  refine wpS_bind (wp_el hj (wpS_bind (wp_el hi' (wpS_bind (O _ _ (M.dy _ (by simp)) (M.dx _ (by simp)) st _ hk ?_)))))
  dsimp only
  by_cases t:r y[j] < r x[i]
  · rw [if_pos (by simpa using t)]
    have J':=J.y1 M hi' hj (by rw [Zc hi',Zc hj]; omega)
    refine wpS_bind (wp_el hj ?_)
    by_cases z:j + 1=y.size
    · rw [if_pos (by simpa using z)]
      exact wpS_pure (fin _ _ _ _ _ _ (J'.end1 M z))
    · rw [if_neg (by simpa using z)]
      have:=go _ _ _ 0 (d + 1) J' hi (by omega) (by omega)
      split
      · exact wpS_pure this.1
      · exact wpS_pure this.2
  · rw [if_neg (by simpa using t)]
    have J':=J.x1 M hi' hj (by rw [Zc hi',Zc hj]; omega)
    refine wpS_bind (wp_el hi' ?_)
    by_cases z:i + 1 + 1=x.size
    · rw [if_pos (by simpa using z)]
      exact wpS_pure (fin _ _ _ _ _ _ (J'.end2 M z))
    · rw [if_neg (by simpa using z)]
      have:=go _ _ _ (c + 1) 0 J' (by omega) hj (by omega)
      split
      · exact wpS_pure this.1
      · exact wpS_pure this.2
section
variable {x y:Array Keyed} {st:SortSt} {R:ForInStep L7->SortSt->Prop} (O:LtOk prog w A E s r κ D) (hk:kindOf st=κ) (M:MO r D x y) {m:Nat}
  (fin:∀ q o i j g c d,MP r x.toList y.toList q.toList->R (.done (some q,o,i,j,g,c,d)) st)
  (go:∀ o' i' j' g' c' d',Jn r x y i' j' o'->i' + 1 < x.size->j' < y.size->m<=i' + j'->R (.done (none,o',i',j',g',c',d')) st/\R (.yield (none,o',i',j',g',c',d')) st)
include M fin go
theorem wp_lo3 {o:Array Keyed} {i j g c d:Nat} (J:Jn r x y i j o) (hi:i + 1 < x.size) (hj:j < y.size) (hm:m<=i + j) (hl:RK r x i<=RK r y j):wpS (model prog w) A E s (lo3 x y o i j g c d) R st:=by
  have hi':i < x.size:=by omega
  unfold lo3
  have J':=J.x1 M hi' hj hl
  refine wpS_bind (wp_el hi' ?_)
  by_cases z:i + 1 + 1=x.size
  · rw [if_pos (by simpa using z)]
    exact wpS_pure (fin _ _ _ _ _ _ _ (J'.end2 M z))
  · rw [if_neg (by simpa using z)]
    have:=go _ _ _ g c d J' (by omega) hj (by omega)
    split
    · exact wpS_pure this.1
    · exact wpS_pure this.2
include O hk
theorem wp_lo2 {o:Array Keyed} {i j g c d:Nat} (J:Jn r x y i j o) (hi:i + 1 < x.size) (hj:j < y.size) (hm:m<=i + j) (hl:RK r y j<=RK r x i):wpS (model prog w) A E s (lo2 x y o i j g c d) R st:=by
  have hi':i < x.size:=by omega
  unfold lo2
  have J':=J.y1 M hi' hj hl
  refine wpS_bind (wp_el hj ?_)
  by_cases z:j + 1=y.size
  · rw [if_pos (by simpa using z)]
    exact wpS_pure (fin _ _ _ _ _ _ _ (J'.end1 M z))
  · rw [if_neg (by simpa using z)]
    refine wpS_bind (wp_el hi' (wpS_bind (wp_place O hk (M.dx _ (by simp)) M.dy (by omega) (by omega) (fun a b g1 g2=>M.sy.rk _ _ (by omega) (by omega)) fun u g1 g2 g3=>?_)))
    simp only [if_true,<- Zc (r:=r) hi'] at g2 g3
    dsimp only
    by_cases hu:u > 0
    · rw [if_pos hu]
      have J2:=Jn.ys (k:=u) M J' fun a ha b h1 h2=>D3 (L5 (g2 a ha)) (M.sx.rk i b h1 h2)
      by_cases z2:j + 1 + u=y.size
      · rw [if_pos (by simpa using z2)]
        exact wpS_pure (fin _ _ _ _ _ _ _ (J2.end1 M z2))
      · rw [if_neg (by simpa using z2)]
        exact wp_lo3 M fin go J2 hi (by omega) (by omega) (g3 u (O4 _) (by omega))
    · rw [if_neg hu]
      exact wp_lo3 M fin go J' hi (by omega) (by omega) (g3 0 (by omega) (by omega))
end
theorem wp_lo1 {x y:Array Keyed} {st:SortSt} {R:ForInStep L7->SortSt->Prop} (O:LtOk prog w A E s r κ D) (hk:kindOf st=κ) (M:MO r D x y) {m:Nat} {o:Array Keyed} {i j g c d:Nat}
    (fin:∀ q o i j g' c d,MP r x.toList y.toList q.toList->R (.done (some q,o,i,j,g',c,d)) (Qv st g))
    (go:∀ o' i' j' g' c' d',Jn r x y i' j' o'->i' + 1 < x.size->j' < y.size->m<=i' + j'->R (.done (none,o',i',j',g',c',d')) (Qv st g)/\R (.yield (none,o',i',j',g',c',d')) (Qv st g))
    (J:Jn r x y i j o) (hi:i + 1 < x.size) (hj:j < y.size) (hm:m<=i + j):wpS (model prog w) A E s (lo1 x y o i j g c d) R st:=by
  unfold lo1 sg
  have hk:kindOf (Qv st g)=κ:=hk
  refine wpS_bind (wpS_modify (wpS_bind (wp_el hj (wpS_bind (wp_place O hk (M.dy _ (by simp)) M.dx (by omega) (by omega) (fun a b g1 g2=>M.sx.rk _ _ (by omega) (by omega)) fun u g1 g2 g3=>?_)))))
  simp only [F3,if_false,<- Zc (r:=r) hj] at g2 g3
  dsimp only
  by_cases hu:u > 0
  · rw [if_pos hu]
    have J2:=Jn.xs (k:=u) M J fun a ha b h1 h2=>D3 (g2 a ha) (M.sy.rk j b h1 h2)
    by_cases z:i + u + 1=x.size
    · rw [if_pos (by simpa using z)]
      exact wpS_pure (fin _ _ _ _ _ _ _ (J2.end2 M z))
    · rw [if_neg (by simpa using z)]
      by_cases z2:i + u=x.size
      · rw [if_pos (by simpa using z2)]
        exact wpS_pure (fin _ _ _ _ _ _ _ (J2.end3 M z2))
      · rw [if_neg (by simpa using z2)]
        exact wp_lo2 O hk M fin go J2 (by omega) hj (by omega) (L5 (g3 u (O4 _) (by omega)))
  · rw [if_neg hu]
    exact wp_lo2 O hk M fin go J hi hj hm (L5 (g3 0 (by omega) (by omega)))
theorem wp_mlo {x y:Array Keyed} {st:SortSt} {Q:Array Keyed->SortSt->Prop} (O:LtOk prog w A E s r κ D) (hk:kindOf st=κ) (M:MO r D x y) (hx:0 < x.size) (hy:0 < y.size) (hf:RK r y 0<=RK r x 0)
    (hq:∀ o g,MP r x.toList y.toList o.toList->Q o (Qv st g)):wpS (model prog w) A E s (mlo x y) Q st:=by
  rw [mlo_eq]
  refine wpS_bind (wpS_lift (wpAny_rule ⟨rfl,wpS_bind (wp_el hy ?_)⟩))
  have J0:Jn r x y 0 0 #[]:=⟨by simp,List.Pairwise.nil,fun z hz=>by cases hz⟩
  have J1:Jn r x y 0 1 #[y[0]]:=J0.y1 M hx hy hf
  dsimp only
  by_cases z:1=y.size
  · rw [if_pos (by simpa using z)]
    exact wpS_pure (hq _ _ (J1.end1 M z))
  rw [if_neg (by simpa using z)]
  by_cases z2:0 + 1=x.size
  · rw [if_pos (by simpa using z2)]
    exact wpS_pure (hq _ _ (J1.end2 M z2))
  rw [if_neg (by simpa using z2)]
  refine wpS_bind (wpS_get (wpS_bind (wpS_mono (wpS_forRange (I:=fun t z st'=>(∃ g,st'=Qv st g)/\∃ o i j g,z=(none,o,i,j,g)/\Jn r x y i j o/\i + 1 < x.size/\j < y.size/\t + 1<=i + j)
    (Q:=fun z st'=>∃ q g,z.1=some q/\MP r x.toList y.toList q.toList/\st'=Qv st g) ?step ?fin ⟨⟨_,rfl⟩,_,_,_,_,rfl,J1,by omega,by omega,by omega⟩) ?post)))
  case post=>
    rintro ⟨a,b⟩ st' ⟨q,g,rfl,h1,rfl⟩
    exact wpS_pure (hq _ _ h1)
  case fin=>
    rintro z st' ⟨-,o,i,j,g,rfl,J,h1,h2,h3⟩
    omega
  case step=>
    rintro t z st' - ht ⟨⟨g0,rfl⟩,o,i,j,g,rfl,J,h1,h2,h3⟩
    dsimp only
    refine wpS_bind (wpS_mono (wpS_forRange (I:=fun v z st'=>st'=Qv st g0/\∃ o' i' j' c d,z=(none,o',i',j',c,d)/\Jn r x y i' j' o'/\i' + 1 < x.size/\j' < y.size/\i + j + v<=i' + j')
      (Q:=fun z st'=>st'=Qv st g0/\((∃ q b,z=(some q,b)/\MP r x.toList y.toList q.toList)\/∃ o' i' j' c d,z=(none,o',i',j',c,d)/\Jn r x y i' j' o'/\i' + 1 < x.size/\j' < y.size/\i + j + 1<=i' + j')) ?s1 ?f1 ⟨rfl,_,_,_,_,_,rfl,J,h1,h2,by omega⟩) ?p1)
    case s1=>
      rintro v z st' - hv ⟨rfl,o',i',j',c,d,rfl,J',h1',h2',h3'⟩
      show wpS _ _ _ _ (loA x y g o' i' j' c d) _ _
      exact wp_loA O hk M J' h1' h2' (fun q o i j c d hp=>⟨rfl,.inl ⟨q,_,rfl,hp⟩⟩) fun o2 i2 j2 c2 d2 k1 k2 k3 k4=>⟨⟨rfl,.inr ⟨_,_,_,_,_,rfl,k1,k2,k3,by omega⟩⟩,rfl,_,_,_,_,_,rfl,k1,k2,k3,by omega⟩
    case f1=>
      rintro z st' ⟨rfl,o',i',j',c,d,rfl,J',h1',h2',h3'⟩
      omega
    case p1=>
      rintro z st' ⟨rfl,⟨q,b,rfl,hp⟩ | ⟨o',i',j',c,d,rfl,J',h1',h2',h3'⟩⟩
      · exact wpS_pure ⟨q,_,rfl,hp,rfl⟩
      dsimp only
      refine wpS_bind (wpS_lift (wpAny_rule ⟨rfl,?_⟩))
      refine wpS_bind (wpS_mono (wpS_forRange (I:=fun v z st'=>(∃ g,st'=Qv st g)/\∃ o' i' j' g c d,z=(none,o',i',j',g,c,d)/\Jn r x y i' j' o'/\i' + 1 < x.size/\j' < y.size/\i + j + 1<=i' + j')
        (Q:=fun z st'=>(∃ g,st'=Qv st g)/\((∃ q b,z=(some q,b)/\MP r x.toList y.toList q.toList)\/∃ o' i' j' g c d,z=(none,o',i',j',g,c,d)/\Jn r x y i' j' o'/\i' + 1 < x.size/\j' < y.size/\i + j + 1<=i' + j')) ?s2 ?f2 ⟨⟨_,rfl⟩,_,_,_,_,_,_,rfl,J',h1',h2',h3'⟩) ?p2)
      case s2=>
        rintro v z st' - hv ⟨⟨g1,rfl⟩,o',i',j',g,c,d,rfl,J',h1',h2',h3'⟩
        show wpS _ _ _ _ (if g > 1 then lo1 x y o' i' j' (g - 1) c d else lo1 x y o' i' j' g c d) _ _
        split <;> exact wp_lo1 (st:=Qv st g1) O hk M (fun q o i j g c d hp=>⟨⟨_,rfl⟩,.inl ⟨q,_,rfl,hp⟩⟩) (fun o2 i2 j2 g2 c2 d2 k1 k2 k3 k4=>⟨⟨⟨_,rfl⟩,.inr ⟨_,_,_,_,_,_,rfl,k1,k2,k3,k4⟩⟩,⟨_,rfl⟩,_,_,_,_,_,_,rfl,k1,k2,k3,k4⟩) J' h1' h2' h3'
      case f2=>
        rintro z st' ⟨h0,o',i',j',g,c,d,rfl,J',h1',h2',h3'⟩
        exact ⟨h0,.inr ⟨_,_,_,_,_,_,rfl,J',h1',h2',h3'⟩⟩
      case p2=>
        rintro z st' ⟨⟨g1,rfl⟩,⟨q,b,rfl,hp⟩ | ⟨o',i',j',g,c,d,rfl,J',h1',h2',h3'⟩⟩
        · exact wpS_pure ⟨q,_,rfl,hp,rfl⟩
        · exact wpS_bind (wpS_modify (wpS_pure ⟨⟨_,rfl⟩,_,_,_,_,rfl,J',h1',h2',show t + 1 + 1<=i' + j' by omega⟩))
end
end L2
namespace L2
open PySem PySem.Spec PyProof.Rows PySem.W
def dh (x y o:Array Keyed) (i j:Nat):Array Keyed:=x.extract 0 i ++ y.extract 0 j ++ o.reverse
def hiA (x y:Array Keyed) (g:Nat) (i j:Nat) (o:Array Keyed) (c d:Nat):StateT SortSt Sem (ForInStep (Option (Array Keyed) × Nat × Nat × Array Keyed × Nat × Nat)):=do
  let a <- elem' y (j - 1)
  let b <- elem' x (i - 1)
  let some t <- lt' a b | pure (.done (some (dh x y o i j),i,j,o,c,d))
  if t then
    let e <- elem' x (i - 1)
    if i - 1 == 0 then pure (.done (some (dh x y (o.push e) (i - 1) j),i - 1,j,o.push e,c + 1,0))
    else if c + 1>=g then pure (.done (none,i - 1,j,o.push e,c + 1,0))
    else pure (.yield (none,i - 1,j,o.push e,c + 1,0))
  else
    let e <- elem' y (j - 1)
    if j - 1 == 1 then pure (.done (some (dh y x (o.push e) (j - 1) i),i,j - 1,o.push e,0,d + 1))
    else if d + 1>=g then pure (.done (none,i,j - 1,o.push e,0,d + 1))
    else pure (.yield (none,i,j - 1,o.push e,0,d + 1))
abbrev H7:=Option (Array Keyed) × Nat × Nat × Array Keyed × Nat × Nat × Nat
def hi3 (x y:Array Keyed) (i j:Nat) (o:Array Keyed) (g c d:Nat):StateT SortSt Sem (ForInStep H7):=do
  let e <- elem' x (i - 1)
  if i - 1 == 0 then pure (.done (some (dh x y (o.push e) (i - 1) j),i - 1,j,o.push e,g,c,d))
  else if c < 7 && d < 7 then pure (.done (none,i - 1,j,o.push e,g,c,d))
  else pure (.yield (none,i - 1,j,o.push e,g,c,d))
def hi2 (x y:Array Keyed) (i j:Nat) (o:Array Keyed) (g c d:Nat):StateT SortSt Sem (ForInStep H7):=do
  let e <- elem' y (j - 1)
  if j - 1 == 1 then pure (.done (some (dh y x (o.push e) (j - 1) i),i,j - 1,o.push e,g,c,d))
  else
    let f <- elem' x (i - 1)
    let some u <- gal true f y 0 (j - 1) (j - 1 - 1) | pure (.done (some (dh x y (o.push e) i (j - 1)),i,j - 1,o.push e,g,c,d))
    if j - 1 - u > 0 then
      if u == 1 then pure (.done (some (dh y x (o.push e ++ (y.extract u (j - 1)).reverse) u i),i,u,o.push e ++ (y.extract u (j - 1)).reverse,g,c,j - 1 - u))
      else if u == 0 then pure (.done (some (dh x y (o.push e ++ (y.extract u (j - 1)).reverse) i u),i,u,o.push e ++ (y.extract u (j - 1)).reverse,g,c,j - 1 - u))
      else hi3 x y i u (o.push e ++ (y.extract u (j - 1)).reverse) g c (j - 1 - u)
    else hi3 x y i (j - 1) (o.push e) g c (j - 1 - u)
def hi1 (x y:Array Keyed) (i j:Nat) (o:Array Keyed) (g c d:Nat):StateT SortSt Sem (ForInStep H7):=do
  sg g
  let e <- elem' y (j - 1)
  let some u <- gal false e x 0 i (i - 1) | pure (.done (some (dh x y o i j),i,j,o,g,c,d))
  if i - u > 0 then
    if u == 0 then pure (.done (some (dh x y (o ++ (x.extract u i).reverse) u j),u,j,o ++ (x.extract u i).reverse,g,i - u,d))
    else hi2 x y u j (o ++ (x.extract u i).reverse) g (i - u) d
  else hi2 x y i j o g (i - u) d
theorem mhi_eq (x y:Array Keyed):mhi x y=(do
  rule "list.sort.merge-hi"
  let mut i:=x.size - 1
  let mut j:=y.size
  let mut o:Array Keyed:=#[<- elem' x i]
  if i == 0 then return dh x y o i j
  if j == 1 then return dh y x o j i
  let mut g:=gallopOf (<- get)
  for _ in [0:x.size + y.size] do
    let mut c:=0
    let mut d:=0
    for _ in [0:x.size + y.size] do
      let some t <- lt' (<- elem' y (j - 1)) (<- elem' x (i - 1)) | return dh x y o i j
      if t then
        i:=i - 1; o:=o.push (<- elem' x i); c:=c + 1; d:=0
        if i == 0 then return dh x y o i j
        if c>=g then break
      else
        j:=j - 1; o:=o.push (<- elem' y j); d:=d + 1; c:=0
        if j == 1 then return dh y x o j i
        if d>=g then break
    rule "list.sort.gallop"
    g:=g + 1
    for _ in [0:x.size + y.size] do
      if g > 1 then g:=g - 1
      sg g
      let some u <- gal false (<- elem' y (j - 1)) x 0 i (i - 1) | return dh x y o i j
      let k:=i - u
      c:=k
      if k > 0 then
        o:=o ++ (x.extract u i).reverse; i:=u
        if i == 0 then return dh x y o i j
      j:=j - 1; o:=o.push (<- elem' y j)
      if j == 1 then return dh y x o j i
      let some u <- gal true (<- elem' x (i - 1)) y 0 j (j - 1) | return dh x y o i j
      let k:=j - u
      d:=k
      if k > 0 then
        o:=o ++ (y.extract u j).reverse; j:=u
        if j == 1 then return dh y x o j i
        if j == 0 then return dh x y o i j
      i:=i - 1; o:=o.push (<- elem' x i)
      if i == 0 then return dh x y o i j
      if c < 7 && d < 7 then break
    g:=g + 1
    sg g
  unsupported "internal:list.sort.merge-bound"):=rfl
section
variable {prog:Program} {w:World} {A:Around} {E:Value->Shared->Prop} {s:Shared} {r:Keyed->Nat} {κ:SortKind} {D:Keyed->Prop}
structure Mh (r:Keyed->Nat) (x y:List Keyed) (i j:Nat) (t:List Keyed):Prop where
  pm:t.Perm (x.drop i ++ y.drop j)
  so:So r t
  le:∀ z∈t,∀ u∈x.take i ++ y.take j,r u<=r z
theorem Mh.swap {x y:List Keyed} {i j:Nat} {t:List Keyed} (h:Mh r x y i j t):Mh r y x j i t:=
  ⟨h.pm.trans G7,h.so,fun z hz u hu=>h.le z hz u (G7.mem_iff.mp hu)⟩
theorem cut_drop {x:List Keyed} {a i:Nat} (h:a<=i):x.drop a=(x.drop a).take (i - a) ++ x.drop i:=by
  conv=>lhs; rw [<- List.take_append_drop (i - a) (x.drop a),List.drop_drop,show a + (i - a)=i by omega]
theorem cut_take {x:List Keyed} {a i:Nat} (h:a<=i):x.take i=x.take a ++ (x.drop a).take (i - a):=by
  conv=>lhs; rw [show i=a + (i - a) by omega,List.take_add]
theorem Mh.x {x y:List Keyed} {i j a:Nat} {t:List Keyed} (h:Mh r x y i j t) (hx:So r x) (ha:a<=i) (hk:∀ z∈(x.drop a).take (i - a),∀ u∈y.take j,r u<=r z):Mh r x y a j ((x.drop a).take (i - a) ++ t):=by
  have sp:So r (x.take i):=hx.sublist (List.take_sublist _ _)
  unfold So at sp
  rw [cut_take ha,D9] at sp
  refine ⟨?_,?_,?_⟩
  · rw [cut_drop ha,E9]
    conv=>lhs; rw [<- cut_drop ha]
    exact List.Perm.append_left _ h.pm
  · unfold So
    rw [D9]
    exact ⟨sp.2.1,h.so,fun b hb z hz=>h.le z hz b (E3 _ (by rw [cut_take ha]; exact D8 _ hb))⟩
  · intro z hz u hu
    rcases D4.mp hz with hz | hz
    · rcases D4.mp hu with hu | hu
      · exact sp.2.2 u hu z hz
      · exact hk z hz u hu
    · refine h.le z hz u ?_
      rcases D4.mp hu with hu | hu
      · exact E3 _ (by rw [cut_take ha]; exact E3 _ hu)
      · exact D8 _ hu
theorem Mh.perm {x y:List Keyed} {i j:Nat} {t:List Keyed} (h:Mh r x y i j t):((x.take i ++ y.take j) ++ t).Perm (x ++ y):=by
  refine (List.Perm.append_left _ h.pm).trans ?_
  conv=>rhs; rw [<- List.take_append_drop i x,<- List.take_append_drop j y]
  rw [E9,E9]
  refine List.Perm.append_left _ ?_
  rw [<- E9,<- E9]
  exact List.Perm.append_right _ G7
theorem Mh.d {x y:List Keyed} {i j:Nat} {t:List Keyed} (h:Mh r x y i j t) (hs:So r (x.take i ++ y.take j)):MP r x y ((x.take i ++ y.take j) ++ t):=by
  refine ⟨h.perm,?_⟩
  unfold So
  rw [D9]
  exact ⟨hs,h.so,fun u hu z hz=>h.le z hz u hu⟩
theorem dh_list (x y o:Array Keyed) (i j:Nat):(dh x y o i j).toList=(x.toList.take i ++ y.toList.take j) ++ o.toList.reverse:=by
  unfold dh
  simp [Array.toList_extract]
abbrev Jh (r:Keyed->Nat) (x y:Array Keyed) (i j:Nat) (o:Array Keyed):Prop:=Mh r x.toList y.toList i j o.toList.reverse
abbrev Fi (r:Keyed->Nat) (x y:Array Keyed):Prop:=∀ i,i < x.size->RK r y 0<=RK r x i
theorem Jh.end1 {x y o:Array Keyed} {i j:Nat} (M:MO r D x y) (h:Jh r x y i j o) (hi:i=0):MP r x.toList y.toList (dh x y o i j).toList:=by
  rw [dh_list]
  refine h.d ?_
  rw [hi,List.take_zero,List.nil_append]
  exact M.sy.sublist (List.take_sublist _ _)
theorem Jh.end3 {x y o:Array Keyed} {i j:Nat} (M:MO r D x y) (h:Jh r x y i j o) (hj:j=0):MP r x.toList y.toList (dh x y o i j).toList:=by
  rw [dh_list]
  refine h.d ?_
  rw [hj,List.take_zero,List.append_nil]
  exact M.sx.sublist (List.take_sublist _ _)
theorem mem_t {l:List Keyed} {i:Nat} {z:Keyed} (h:z∈l.take i):∃ a,a < i/\l[a]?=some z:=by
  obtain ⟨a,ha,e⟩:=List.mem_iff_getElem.mp h
  rw [List.length_take] at ha
  refine ⟨a,by omega,?_⟩
  rw [<- e,List.getElem_take,O1]
theorem Jh.end2 {x y o:Array Keyed} {i j:Nat} (M:MO r D x y) (F:Fi r x y) (h:Jh r x y i j o) (hj:j=1):MP r x.toList y.toList (dh y x o j i).toList:=by
  rw [dh_list]
  refine (Mh.d (Mh.swap h) ?_).swap
  unfold So
  rw [D9]
  refine ⟨M.sy.sublist (List.take_sublist _ _),M.sx.sublist (List.take_sublist _ _),fun z hz u hu=>?_⟩
  obtain ⟨a,h1,h2⟩:=mem_t hz
  obtain ⟨b,h3,h4⟩:=mem_t hu
  obtain ⟨k1,k2⟩:=Jg (r:=r) h2
  obtain ⟨k3,k4⟩:=Jg (r:=r) h4
  have:=F b k3
  rw [show a=0 by omega] at k2
  rw [k2,k4] at this
  exact this
theorem Jh.xs {x y o:Array Keyed} {i j a:Nat} (M:MO r D x y) (h:Jh r x y i j o) (ha:a<=i) (hk:∀ k,a<=k->k < i->k < x.size->∀ b,b < j->b < y.size->RK r y b<=RK r x k):Jh r x y a j (o ++ (x.extract a i).reverse):=by
  have:=Mh.x h M.sx ha fun z hz u hu=>by
    obtain ⟨k,h1,h2⟩:=mem_dt hz
    obtain ⟨b,h3,h4⟩:=mem_t hu
    obtain ⟨k1,k2⟩:=Jg (r:=r) h2
    obtain ⟨k3,k4⟩:=Jg (r:=r) h4
    have:=hk (a + k) (by omega) (by omega) k1 b h3 k3
    rwa [k2,k4] at this
  unfold Jh
  simp only [Array.toList_append,Array.toList_reverse,Array.toList_extract,F2,List.reverse_append,List.reverse_reverse]
  exact this
theorem Jh.ys {x y o:Array Keyed} {i j a:Nat} (M:MO r D x y) (h:Jh r x y i j o) (ha:a<=j) (hk:∀ k,a<=k->k < j->k < y.size->∀ b,b < i->b < x.size->RK r x b<=RK r y k):Jh r x y i a (o ++ (y.extract a j).reverse):=by
  have:=(Mh.x (Mh.swap h) M.sy ha fun z hz u hu=>by
    obtain ⟨k,h1,h2⟩:=mem_dt hz
    obtain ⟨b,h3,h4⟩:=mem_t hu
    obtain ⟨k1,k2⟩:=Jg (r:=r) h2
    obtain ⟨k3,k4⟩:=Jg (r:=r) h4
    have:=hk (a + k) (by omega) (by omega) k1 b h3 k3
    rwa [k2,k4] at this).swap
  unfold Jh
  simp only [Array.toList_append,Array.toList_reverse,Array.toList_extract,F2,List.reverse_append,List.reverse_reverse]
  exact this
theorem push_rv {o v:Array Keyed} {i:Nat} (h:i - 1 < v.size) (hi:0 < i):o.push v[i - 1]=o ++ (v.extract (i - 1) i).reverse:=by
  apply Array.toList_inj.mp
  simp only [Array.toList_push,Array.toList_append,Array.toList_reverse,Array.toList_extract,F2]
  rw [show i - (i - 1)=1 by omega,drop1 h]
  rfl
theorem Jh.x1 {x y o:Array Keyed} {i j:Nat} (M:MO r D x y) (h:Jh r x y i j o) (h0:0 < i) (hi:i - 1 < x.size) (hj:j<=y.size) (hk:0 < j->RK r y (j - 1)<=RK r x (i - 1)):Jh r x y (i - 1) j (o.push x[i - 1]):=by
  rw [push_rv hi h0]
  refine h.xs M (by omega) fun k g1 g2 g3 b g4 g5=>?_
  rw [show k=i - 1 by omega]
  exact D3 (M.sy.rk b (j - 1) (by omega) (by omega)) (hk (by omega))
theorem Jh.y1 {x y o:Array Keyed} {i j:Nat} (M:MO r D x y) (h:Jh r x y i j o) (h0:0 < j) (hj:j - 1 < y.size) (hi:i<=x.size) (hk:0 < i->RK r x (i - 1)<=RK r y (j - 1)):Jh r x y i (j - 1) (o.push y[j - 1]):=by
  rw [push_rv hj h0]
  refine h.ys M (by omega) fun k g1 g2 g3 b g4 g5=>?_
  rw [show k=j - 1 by omega]
  exact D3 (M.sx.rk b (i - 1) (by omega) (by omega)) (hk (by omega))
structure Hs (x y:Array Keyed) (i j m:Nat):Prop where
  i0:0 < i
  ix:i<=x.size
  j1:1 < j
  jy:j<=y.size
  ij:i + j<=m
theorem wp_hiA {x y o:Array Keyed} {g i j c d m:Nat} {st:SortSt} {R:ForInStep (Option (Array Keyed) × Nat × Nat × Array Keyed × Nat × Nat)->SortSt->Prop} (O:LtOk prog w A E s r κ D) (hk:kindOf st=κ) (M:MO r D x y) (F:Fi r x y) (J:Jh r x y i j o) (H:Hs x y i j (m + 1))
    (fin:∀ q o i j c d,MP r x.toList y.toList q.toList->R (.done (some q,i,j,o,c,d)) st)
    (go:∀ o' i' j' c' d',Jh r x y i' j' o'->Hs x y i' j' m->R (.done (none,i',j',o',c',d')) st/\R (.yield (none,i',j',o',c',d')) st):wpS (model prog w) A E s (hiA x y g i j o c d) R st:=by
  obtain ⟨h1,h2,h3,h4,h5⟩:=H
  have hi:i - 1 < x.size:=by omega
  have hj:j - 1 < y.size:=by omega
  unfold hiA
  refine wpS_bind (wp_el hj (wpS_bind (wp_el hi (wpS_bind (O _ _ (M.dy _ (by simp)) (M.dx _ (by simp)) st _ hk ?_)))))
  dsimp only
  by_cases t:r y[j - 1] < r x[i - 1]
  · rw [if_pos (by simpa using t)]
    have J':=J.x1 M h1 hi h4 (fun _=>by rw [Zc hi,Zc hj]; omega)
    refine wpS_bind (wp_el hi ?_)
    by_cases z:i - 1=0
    · rw [if_pos (by simpa using z)]
      exact wpS_pure (fin _ _ _ _ _ _ (J'.end1 M z))
    · rw [if_neg (by simpa using z)]
      have:=go _ _ _ (c + 1) 0 J' ⟨by omega,by omega,h3,h4,by omega⟩
      split
      · exact wpS_pure this.1
      · exact wpS_pure this.2
  · rw [if_neg (by simpa using t)]
    have J':=J.y1 M (by omega) hj h2 (fun _=>by rw [Zc hi,Zc hj]; omega)
    refine wpS_bind (wp_el hj ?_)
    by_cases z:j - 1=1
    · rw [if_pos (by simpa using z)]
      exact wpS_pure (fin _ _ _ _ _ _ (J'.end2 M F z))
    · rw [if_neg (by simpa using z)]
      have:=go _ _ _ 0 (d + 1) J' ⟨h1,h2,by omega,by omega,by omega⟩
      split
      · exact wpS_pure this.1
      · exact wpS_pure this.2
section
variable {x y:Array Keyed} {st:SortSt} {R:ForInStep H7->SortSt->Prop} (O:LtOk prog w A E s r κ D) (hk:kindOf st=κ) (M:MO r D x y) (F:Fi r x y) {m:Nat}
  (fin:∀ q o i j g c d,MP r x.toList y.toList q.toList->R (.done (some q,i,j,o,g,c,d)) st)
  (go:∀ o' i' j' g' c' d',Jh r x y i' j' o'->Hs x y i' j' m->R (.done (none,i',j',o',g',c',d')) st/\R (.yield (none,i',j',o',g',c',d')) st)
include M fin go
theorem wp_hi3 {o:Array Keyed} {i j g c d:Nat} (J:Jh r x y i j o) (H:Hs x y i j m) (hl:RK r y (j - 1)<=RK r x (i - 1)):wpS (model prog w) A E s (hi3 x y i j o g c d) R st:=by
  obtain ⟨h1,h2,h3,h4,h5⟩:=H
  have hi:i - 1 < x.size:=by omega
  unfold hi3
  have J':=J.x1 M h1 hi h4 fun _=>hl
  refine wpS_bind (wp_el hi ?_)
  by_cases z:i - 1=0
  · rw [if_pos (by simpa using z)]
    exact wpS_pure (fin _ _ _ _ _ _ _ (J'.end1 M z))
  · rw [if_neg (by simpa using z)]
    have:=go _ _ _ g c d J' ⟨by omega,by omega,h3,h4,by omega⟩
    split
    · exact wpS_pure this.1
    · exact wpS_pure this.2
include O hk F
theorem wp_hi2 {o:Array Keyed} {i j g c d:Nat} (J:Jh r x y i j o) (H:Hs x y i j m) (hl:RK r x (i - 1)<=RK r y (j - 1)):wpS (model prog w) A E s (hi2 x y i j o g c d) R st:=by
  obtain ⟨h1,h2,h3,h4,h5⟩:=H
  have hi:i - 1 < x.size:=by omega
  have hj:j - 1 < y.size:=by omega
  unfold hi2
  have J':=J.y1 M (by omega) hj h2 fun _=>hl
  refine wpS_bind (wp_el hj ?_)
  by_cases z:j - 1=1
  · rw [if_pos (by simpa using z)]
    exact wpS_pure (fin _ _ _ _ _ _ _ (J'.end2 M F z))
  · rw [if_neg (by simpa using z)]
    refine wpS_bind (wp_el hi (wpS_bind (wp_place O hk (M.dx _ (by simp)) M.dy (by omega) (by omega) (fun a b g1 g2=>M.sy.rk _ _ (by omega) (by omega)) fun u g1 g2 g3=>?_)))
    simp only [if_true,<- Zc (r:=r) hi,Nat.zero_add] at g2 g3
    dsimp only
    by_cases hu:j - 1 - u > 0
    · rw [if_pos hu]
      have J2:=Jh.ys (a:=u) M J' (by omega) fun k e1 e2 e3 b e4 e5=>D3 (M.sx.rk b (i - 1) (by omega) hi) (g3 k e1 e2)
      by_cases z2:u=1
      · rw [if_pos (by simpa using z2)]
        exact wpS_pure (fin _ _ _ _ _ _ _ (J2.end2 M F z2))
      · rw [if_neg (by simpa using z2)]
        by_cases z3:u=0
        · rw [if_pos (by simpa using z3)]
          exact wpS_pure (fin _ _ _ _ _ _ _ (J2.end3 M z3))
        · rw [if_neg (by simpa using z3)]
          exact wp_hi3 M fin go J2 ⟨h1,h2,by omega,by omega,by omega⟩ (L5 (g2 (u - 1) (by omega)))
    · rw [if_neg hu]
      exact wp_hi3 M fin go J' ⟨h1,h2,by omega,by omega,by omega⟩ (L5 (g2 _ (by omega)))
end
theorem wp_hi1 {x y:Array Keyed} {st:SortSt} {R:ForInStep H7->SortSt->Prop} (O:LtOk prog w A E s r κ D) (hk:kindOf st=κ) (M:MO r D x y) (F:Fi r x y) {m:Nat} {o:Array Keyed} {i j g c d:Nat}
    (fin:∀ q o i j g' c d,MP r x.toList y.toList q.toList->R (.done (some q,i,j,o,g',c,d)) (Qv st g))
    (go:∀ o' i' j' g' c' d',Jh r x y i' j' o'->Hs x y i' j' m->R (.done (none,i',j',o',g',c',d')) (Qv st g)/\R (.yield (none,i',j',o',g',c',d')) (Qv st g))
    (J:Jh r x y i j o) (H:Hs x y i j m):wpS (model prog w) A E s (hi1 x y i j o g c d) R st:=by
  have H':=H
  obtain ⟨h1,h2,h3,h4,h5⟩:=H
  have hj:j - 1 < y.size:=by omega
  unfold hi1 sg
  have hk:kindOf (Qv st g)=κ:=hk
  refine wpS_bind (wpS_modify (wpS_bind (wp_el hj (wpS_bind (wp_place O hk (M.dy _ (by simp)) M.dx (by omega) (by omega) (fun a b g1 g2=>M.sx.rk _ _ (by omega) (by omega)) fun u g1 g2 g3=>?_)))))
  simp only [F3,if_false,<- Zc (r:=r) hj,Nat.zero_add] at g2 g3
  dsimp only
  by_cases hu:i - u > 0
  · rw [if_pos hu]
    have J2:=Jh.xs (a:=u) M J (by omega) fun k e1 e2 e3 b e4 e5=>D3 (M.sy.rk b (j - 1) (by omega) hj) (L5 (g3 k e1 e2))
    by_cases z:u=0
    · rw [if_pos (by simpa using z)]
      exact wpS_pure (fin _ _ _ _ _ _ _ (J2.end1 M z))
    · rw [if_neg (by simpa using z)]
      exact wp_hi2 O hk M F fin go J2 ⟨by omega,by omega,h3,h4,by omega⟩ (g2 (u - 1) (by omega))
  · rw [if_neg hu]
    exact wp_hi2 O hk M F fin go J H' (g2 _ (by omega))
theorem wp_mhi {x y:Array Keyed} {st:SortSt} {Q:Array Keyed->SortSt->Prop} (O:LtOk prog w A E s r κ D) (hk:kindOf st=κ) (M:MO r D x y) (F:Fi r x y) (hx:0 < x.size) (hy:0 < y.size)
    (hq:∀ o g,MP r x.toList y.toList o.toList->Q o (Qv st g)):wpS (model prog w) A E s (mhi x y) Q st:=by
  rw [mhi_eq]
  have hx':x.size - 1 < x.size:=by omega
  refine wpS_bind (wpS_lift (wpAny_rule ⟨rfl,wpS_bind (wp_el hx' ?_)⟩))
  have J0:Jh r x y x.size y.size #[]:=⟨by simp,List.Pairwise.nil,fun z hz=>by cases hz⟩
  have J1:Jh r x y (x.size - 1) y.size #[x[x.size - 1]]:=J0.x1 M hx hx' (O4 _) fun _=>M.la _ (by omega)
  dsimp only
  by_cases z:x.size - 1=0
  · rw [if_pos (by simpa using z)]
    exact wpS_pure (hq _ _ (J1.end1 M z))
  rw [if_neg (by simpa using z)]
  by_cases z2:y.size=1
  · rw [if_pos (by simpa using z2)]
    exact wpS_pure (hq _ _ (J1.end2 M F z2))
  rw [if_neg (by simpa using z2)]
  refine wpS_bind (wpS_get (wpS_bind (wpS_mono (wpS_forRange (I:=fun t z st'=>(∃ g,st'=Qv st g)/\∃ o i j g,z=(none,i,j,o,g)/\Jh r x y i j o/\Hs x y i j (x.size + y.size - 1 - t))
    (Q:=fun z st'=>∃ q g,z.1=some q/\MP r x.toList y.toList q.toList/\st'=Qv st g) ?step ?fin ⟨⟨_,rfl⟩,_,_,_,_,rfl,J1,by omega,by omega,by omega,by omega,by omega⟩) ?post)))
  case post=>
    rintro ⟨a,b⟩ st' ⟨q,g,rfl,h1,rfl⟩
    exact wpS_pure (hq _ _ h1)
  case fin=>
    rintro z st' ⟨-,o,i,j,g,rfl,J,h1,h2,h3,h4,h5⟩
    omega
  case step=>
    rintro t z st' - ht ⟨⟨g0,rfl⟩,o,i,j,g,rfl,J,H⟩
    dsimp only
    refine wpS_bind (wpS_mono (wpS_forRange (I:=fun v z st'=>st'=Qv st g0/\∃ o' i' j' c d,z=(none,i',j',o',c,d)/\Jh r x y i' j' o'/\Hs x y i' j' (x.size + y.size - 1 - t - v))
      (Q:=fun z st'=>st'=Qv st g0/\((∃ q b,z=(some q,b)/\MP r x.toList y.toList q.toList)\/∃ o' i' j' c d,z=(none,i',j',o',c,d)/\Jh r x y i' j' o'/\Hs x y i' j' (x.size + y.size - 1 - t - 1))) ?s1 ?f1 ⟨rfl,_,_,_,_,_,rfl,J,H⟩) ?p1)
    case s1=>
      rintro v z st' - hv ⟨rfl,o',i',j',c,d,rfl,J',H'⟩
      show wpS _ _ _ _ (hiA x y g i' j' o' c d) _ _
      have H2:Hs x y i' j' (x.size + y.size - 1 - t - (v + 1) + 1):=⟨H'.1,H'.2,H'.3,H'.4,by have:=H'.5; have:=H'.1; omega⟩
      exact wp_hiA O hk M F J' H2 (fun q o i j c d hp=>⟨rfl,.inl ⟨q,_,rfl,hp⟩⟩) fun o2 i2 j2 c2 d2 k1 k2=>⟨⟨rfl,.inr ⟨_,_,_,_,_,rfl,k1,k2.1,k2.2,k2.3,k2.4,by have:=k2.5; omega⟩⟩,rfl,_,_,_,_,_,rfl,k1,k2⟩
    case f1=>
      rintro z st' ⟨rfl,o',i',j',c,d,rfl,J',h1,h2,h3,h4,h5⟩
      omega
    case p1=>
      rintro z st' ⟨rfl,⟨q,b,rfl,hp⟩ | ⟨o',i',j',c,d,rfl,J',H'⟩⟩
      · exact wpS_pure ⟨q,_,rfl,hp,rfl⟩
      dsimp only
      refine wpS_bind (wpS_lift (wpAny_rule ⟨rfl,?_⟩))
      refine wpS_bind (wpS_mono (wpS_forRange (I:=fun v z st'=>(∃ g,st'=Qv st g)/\∃ o' i' j' g c d,z=(none,i',j',o',g,c,d)/\Jh r x y i' j' o'/\Hs x y i' j' (x.size + y.size - 1 - t - 1))
        (Q:=fun z st'=>(∃ g,st'=Qv st g)/\((∃ q b,z=(some q,b)/\MP r x.toList y.toList q.toList)\/∃ o' i' j' g c d,z=(none,i',j',o',g,c,d)/\Jh r x y i' j' o'/\Hs x y i' j' (x.size + y.size - 1 - t - 1))) ?s2 ?f2 ⟨⟨_,rfl⟩,_,_,_,_,_,_,rfl,J',H'⟩) ?p2)
      case s2=>
        rintro v z st' - hv ⟨⟨g1,rfl⟩,o',i',j',g,c,d,rfl,J',H'⟩
        show wpS _ _ _ _ (if g > 1 then hi1 x y i' j' o' (g - 1) c d else hi1 x y i' j' o' g c d) _ _
        split <;> exact wp_hi1 (st:=Qv st g1) O hk M F (fun q o i j g c d hp=>⟨⟨_,rfl⟩,.inl ⟨q,_,rfl,hp⟩⟩) (fun o2 i2 j2 g2 c2 d2 k1 k2=>⟨⟨⟨_,rfl⟩,.inr ⟨_,_,_,_,_,_,rfl,k1,k2⟩⟩,⟨_,rfl⟩,_,_,_,_,_,_,rfl,k1,k2⟩) J' H'
      case f2=>
        rintro z st' ⟨h0,o',i',j',g,c,d,rfl,J',H'⟩
        exact ⟨h0,.inr ⟨_,_,_,_,_,_,rfl,J',H'⟩⟩
      case p2=>
        rintro z st' ⟨⟨g1,rfl⟩,⟨q,b,rfl,hp⟩ | ⟨o',i',j',g,c,d,rfl,J',H'⟩⟩
        · exact wpS_pure ⟨q,_,rfl,hp,rfl⟩
        · exact wpS_bind (wpS_modify (wpS_pure ⟨⟨_,rfl⟩,_,_,_,_,rfl,J',H'⟩))
end
end L2
namespace L2
open PySem PySem.Spec PyProof.Rows PySem.W
theorem mat_eq (i:Nat):mergeAt' i=(do
  let st <- get
  let (some (a,n,p),some (b,m,_)):=((pendingOf st)[i]?,(pendingOf st)[i + 1]?) | unsupported "internal:list.sort.pending"
  set (setPending st (((pendingOf st).setIfInBounds i (a,n + m,p)).eraseIdxIfInBounds (i + 1)))
  let some k <- gal false (<- elem' (arrOf st) b) (arrOf st) a n 0 | return false
  if n - k == 0 then return true
  let some u <- gal true (<- elem' (arrOf st) (a + k + (n - k) - 1)) (arrOf st) b m (m - 1) | return false
  if u == 0 then return true
  let z <- if n - k<=u then mlo ((arrOf st).extract (a + k) b) ((arrOf st).extract b (b + u)) else mhi ((arrOf st).extract (a + k) b) ((arrOf st).extract b (b + u))
  modify fun st=>setArr st (z.toList.zipIdx.foldl (fun v (p,j)=>v.setIfInBounds (a + k + j) p) (arrOf st))
  return (failedOf (<- get)).isNone):=rfl
section
variable {prog:Program} {w:World} {A:Around} {E:Value->Shared->Prop} {s:Shared} {r:Keyed->Nat} {κ:SortKind} {D:Keyed->Prop}
theorem wp_set {st st':SortSt} {Q:PUnit->SortSt->Prop} (h:Q ⟨⟩ st'):wpS (model prog w) A E s (set st':StateT SortSt Sem PUnit) Q st:=by
  unfold wpS; rw [StateT.run_set]; exact wpAny_pure ⟨rfl,h⟩
def Sg (r:Keyed->Nat) (v:Array Keyed) (a b:Nat):Prop:=∀ i j,a<=i->i<=j->j < b->RK r v i<=RK r v j
theorem So_of {v:Array Keyed} (h:Sg r v 0 v.size):So r v.toList:=by
  unfold So
  rw [F5]
  intro i j hi hj hij
  have hi:i < v.size:=by simpa using hi
  have hj:j < v.size:=by simpa using hj
  have:=h i j (G8 _) (by omega) hj
  rw [Zc hi,Zc hj] at this
  simpa using this
theorem RK_ex {v:Array Keyed} {a b i:Nat} (hb:b<=v.size) (h:i < b - a):RK r (v.extract a b) i=RK r v (a + i):=by
  have h1:i < (v.extract a b).size:=by rw [Array.size_extract]; omega
  rw [Zc h1,Zc (show a + i < v.size by omega),Array.getElem_extract]
theorem So_ex {v:Array Keyed} {a b:Nat} (hb:b<=v.size) (h:Sg r v a b):So r (v.extract a b).toList:=So_of fun i j _ g2 g3=>by
  rw [Array.size_extract] at g3
  rw [RK_ex hb (by omega),RK_ex hb (by omega)]
  exact h _ _ (by omega) (by omega) (by omega)
theorem set_all (c:Nat):∀ (l:List Keyed) (t:Nat) (v:Array Keyed),c + t + l.length<=v.size->((l.zipIdx t).foldl (fun v (p,j)=>v.setIfInBounds (c + j) p) v).toList=v.toList.take (c + t) ++ l ++ v.toList.drop (c + t + l.length)
  | [],t,v,_=>by simp
  | p :: l,t,v,h=>by
    rw [E8] at h
    have ih:=set_all c l (t + 1) (v.setIfInBounds (c + t) p) (by rw [Array.size_setIfInBounds]; omega)
    rw [List.zipIdx_cons,List.foldl_cons,ih,Array.toList_setIfInBounds,show c + (t + 1)=c + t + 1 by omega]
    have hl:c + t < v.toList.length:=by rw [Array.length_toList]; omega
    rw [List.take_add_one,List.take_set_of_le (by omega),F6 hl,List.drop_set_of_lt (by omega),E8]
    simp [show c + t + 1 + l.length=c + t + (l.length + 1) by omega]
theorem wp_mat {st:SortSt} {Q:Bool->SortSt->Prop} {m n p q:Nat} (O:LtOk prog w A E s r κ D) (hk:kindOf st=κ) (hf:failedOf st=none) (hD:∀ z∈(arrOf st).toList,D z) (hp:pendingOf st=#[(0,m,p),(m,n,q)]) (hm:0 < m) (hn:0 < n) (hs:(arrOf st).size=m + n)
    (s1:Sg r (arrOf st) 0 m) (s2:Sg r (arrOf st) m (m + n)) (hq:∀ st',(arrOf st').Perm (arrOf st)->So r (arrOf st').toList->failedOf st'=none->pendingOf st'=#[(0,m + n,p)]->Q true st'):wpS (model prog w) A E s (mergeAt' 0) Q st:=by
  rw [mat_eq]
  refine wpS_bind (wpS_get ?_)
  rw [hp,show (#[(0,m,p),(m,n,q)]:Array (Nat × Nat × Nat))[0]?=some (0,m,p) from rfl,show (#[(0,m,p),(m,n,q)]:Array (Nat × Nat × Nat))[0 + 1]?=some (m,n,q) from rfl]
  have ep:((#[(0,m,p),(m,n,q)]:Array (Nat × Nat × Nat)).setIfInBounds 0 (0,m + n,p)).eraseIdxIfInBounds (0 + 1)=#[(0,m + n,p)]:=by
    apply Array.toList_inj.mp
    simp [Array.eraseIdxIfInBounds_eq]
  dsimp only
  rw [ep]
  refine wpS_bind (wp_set ?_)
  have hm':m < (arrOf st).size:=by omega
  have hk':kindOf (setPending st #[(0,m + n,p)])=κ:=hk
  have mD:∀ i (h:i < (arrOf st).size),D (arrOf st)[i]:=fun i h=>hD _ (by simp)
  generalize hv:arrOf st=v at *
  have pend:∀ v',v'.Perm v->So r v'.toList->∀ g,Q true (SortSt.mk' (kindOf st) v' #[(0,m + n,p)] g (failedOf st)):=fun v' h1 h2 g=>hq _ h1 h2 hf rfl
  refine wpS_bind (wp_el hm' (wpS_bind (wp_place O hk' (mD m hm') hD hm (by omega) (fun i j g1 g2=>s1 _ _ (by omega) (by omega) (by omega)) fun k g1 g2 g3=>?_)))
  simp only [F3,if_false,<- Zc (r:=r) hm',Nat.zero_add] at g2 g3
  dsimp only
  by_cases z:m - k=0
  · rw [if_pos (by simpa using z)]
    refine wpS_pure ?_
    have e:setPending st #[(0,m + n,p)]=SortSt.mk' (kindOf st) v #[(0,m + n,p)] (gallopOf st) (failedOf st):=by rw [<- hv]
    rw [e]
    refine pend v (Array.Perm.refl _) (So_of fun i j _ g5 g6=>?_) _
    by_cases a:j < m
    · exact s1 i j (by omega) g5 a
    · by_cases b:i < m
      · exact D3 (g2 i (by omega)) (s2 m j (by omega) (by omega) (by omega))
      · exact s2 i j (by omega) g5 (by omega)
  rw [if_neg (by simpa using z)]
  have e1:0 + k + (m - k) - 1=m - 1:=by omega
  rw [e1]
  have hm1:m - 1 < v.size:=by omega
  refine wpS_bind (wp_el hm1 (wpS_bind (wp_place O hk' (mD _ hm1) hD (by omega) (by omega) (fun i j g1 g2=>s2 _ _ (by omega) (by omega) (by omega)) fun u g4 g5 g6=>?_)))
  simp only [if_true,<- Zc (r:=r) hm1] at g5 g6
  dsimp only
  by_cases zu:u=0
  · rw [if_pos (by simpa using zu)]
    refine wpS_pure ?_
    have e:setPending st #[(0,m + n,p)]=SortSt.mk' (kindOf st) v #[(0,m + n,p)] (gallopOf st) (failedOf st):=by rw [<- hv]
    rw [e]
    refine pend v (Array.Perm.refl _) (So_of fun i j _ g7 g8=>?_) _
    by_cases a:j < m
    · exact s1 i j (by omega) g7 a
    · by_cases b:i < m
      · have:=g6 (j - m) (by omega) (by omega)
        rw [show m + (j - m)=j by omega] at this
        exact D3 (s1 i (m - 1) (by omega) (by omega) (by omega)) this
      · exact s2 i j (by omega) g7 (by omega)
  rw [if_neg (by simpa using zu)]
  have sx:(v.extract (0 + k) m).size=m - k:=by rw [Array.size_extract]; omega
  have sy:(v.extract m (m + u)).size=u:=by rw [Array.size_extract]; omega
  have rx:∀ i,i < m - k->RK r (v.extract (0 + k) m) i=RK r v (k + i):=fun i hi=>by rw [RK_ex (by omega) (by omega),Nat.zero_add]
  have ry:∀ i,i < u->RK r (v.extract m (m + u)) i=RK r v (m + i):=fun i hi=>RK_ex (by omega) (by omega)
  have M:MO r D (v.extract (0 + k) m) (v.extract m (m + u)):=⟨So_ex (by omega) fun i j a1 a2 a3=>s1 i j (by omega) a2 a3,So_ex (by omega) fun i j a1 a2 a3=>s2 i j a1 a2 (by omega),
    fun z hz=>hD z (by rw [Array.toList_extract,F2] at hz; exact List.mem_of_mem_drop (List.mem_of_mem_take hz)),
    fun z hz=>hD z (by rw [Array.toList_extract,F2] at hz; exact List.mem_of_mem_drop (List.mem_of_mem_take hz)),
    fun j hj=>by
      rw [sy] at hj
      rw [sx,ry j hj,rx _ (by omega),show k + (m - k - 1)=m - 1 by omega]
      exact L5 (g5 j hj)⟩
  have F:Fi r (v.extract (0 + k) m) (v.extract m (m + u)):=fun i hi=>by
    rw [sx] at hi
    rw [rx i hi,ry 0 (by omega)]
    exact L5 (g3 (k + i) (by omega) (by omega))
  have fin:∀ (o:Array Keyed) (g:Nat),MP r (v.extract (0 + k) m).toList (v.extract m (m + u)).toList o.toList->wpS (model prog w) A E s (do
      modify fun st=>setArr st (o.toList.zipIdx.foldl (fun v (p,j)=>v.setIfInBounds (0 + k + j) p) (arrOf st))
      return (failedOf (<- get)).isNone) Q (Qv (setPending st #[(0,m + n,p)]) g):=fun o g ⟨h1,h2⟩=>by
    refine wpS_bind (wpS_modify (wpS_bind (wpS_get ?_)))
    have ef:(failedOf (setArr (Qv (setPending st #[(0,m + n,p)]) g) (o.toList.zipIdx.foldl (fun v (p,j)=>v.setIfInBounds (0 + k + j) p) (arrOf (Qv (setPending st #[(0,m + n,p)]) g))))).isNone=true:=by
      show (failedOf st).isNone=true
      rw [hf]; rfl
    rw [ef]
    refine wpS_pure ?_
    have ea:arrOf (Qv (setPending st #[(0,m + n,p)]) g)=v:=hv
    rw [ea]
    have ol:o.toList.length=m - k + u:=by rw [h1.length_eq,E5,Array.length_toList,Array.length_toList,sx,sy]
    have el:=set_all (0 + k) o.toList 0 v (by rw [ol]; omega)
    rw [Nat.add_zero,ol,Nat.zero_add,show k + (m - k + u)=m + u by omega] at el
    have xl:(v.extract (0 + k) m).toList=(v.toList.drop k).take (m - k):=by rw [Array.toList_extract,F2,Nat.zero_add]
    have yl:(v.extract m (m + u)).toList=(v.toList.drop m).take u:=by rw [Array.toList_extract,F2,show m + u - m=u by omega]
    rw [xl,yl] at h1
    have vl:v.toList=v.toList.take k ++ ((v.toList.drop k).take (m - k) ++ (v.toList.drop m).take u) ++ v.toList.drop (m + u):=by
      conv=>lhs; rw [<- List.take_append_drop k v.toList,cut_drop (x:=v.toList) (a:=k) (i:=m) (by omega),cut_drop (x:=v.toList) (a:=m) (i:=m + u) (by omega),show m + u - m=u by omega]
      simp
    refine pend _ (Array.perm_iff_toList_perm.mpr ?_) ?_ g
    · simp only [Nat.zero_add] at el ⊢
      rw [el]
      conv=>rhs; rw [vl]
      exact List.Perm.append_right _ (List.Perm.append_left _ h1)
    · simp only [Nat.zero_add] at el ⊢
      rw [el]
      have inX:∀ z,z∈o.toList->(∃ i,k<=i/\i < m/\v.toList[i]?=some z)\/∃ i,m<=i/\i < m + u/\v.toList[i]?=some z:=fun z hz=>by
        rcases D4.mp (h1.mem_iff.mp hz) with hz | hz
        · obtain ⟨i,a1,a2⟩:=mem_dt hz
          exact .inl ⟨k + i,by omega,by omega,a2⟩
        · obtain ⟨i,a1,a2⟩:=mem_dt hz
          exact .inr ⟨m + i,by omega,by omega,a2⟩
      have sv:So r (v.toList.take k):=by
        unfold So
        rw [F5]
        intro i j hi hj hij
        rw [List.length_take] at hi hj
        have hi':i < v.size:=by omega
        have hj':j < v.size:=by omega
        have:=s1 i j (by omega) (by omega) (by omega)
        rw [Zc hi',Zc hj'] at this
        rw [List.getElem_take,List.getElem_take]
        simpa using this
      have sw:So r (v.toList.drop (m + u)):=by
        unfold So
        rw [F5]
        intro i j hi hj hij
        rw [List.length_drop,Array.length_toList] at hi hj
        have hi':m + u + i < v.size:=by omega
        have hj':m + u + j < v.size:=by omega
        have:=s2 (m + u + i) (m + u + j) (by omega) (by omega) (by omega)
        rw [Zc hi',Zc hj'] at this
        rw [List.getElem_drop,List.getElem_drop]
        simpa using this
      have low:∀ i,i < k->∀ j,i<=j->j < m + n->RK r v i<=RK r v j:=fun i hi j a1 a2=>by
        by_cases a:j < m
        · exact s1 i j (by omega) a1 a
        · exact D3 (g2 i hi) (s2 m j (by omega) (by omega) a2)
      have high:∀ j,m + u<=j->j < m + n->∀ i,i<=j->RK r v i<=RK r v j:=fun j a1 a2 i a3=>by
        by_cases a:i < m
        · have:=g6 (j - m) (by omega) (by omega)
          rw [show m + (j - m)=j by omega] at this
          exact D3 (s1 i (m - 1) (by omega) (by omega) (by omega)) this
        · exact s2 i j (by omega) a3 a2
      unfold So
      rw [E9,D9,D9]
      refine ⟨sv,⟨h2,sw,fun a ha b hb=>?_⟩,fun a ha b hb=>?_⟩
      · obtain ⟨j,b1,b2⟩:=mem_d hb
        obtain ⟨c1,c2⟩:=Jg (r:=r) b2
        rcases inX a ha with ⟨i,a1,a2,a3⟩ | ⟨i,a1,a2,a3⟩
        · have:=high j b1 (by omega) i (by omega)
          rwa [(Jg (r:=r) a3).2,c2] at this
        · have:=high j b1 (by omega) i (by omega)
          rwa [(Jg (r:=r) a3).2,c2] at this
      · obtain ⟨i,a1,a2⟩:=mem_t ha
        obtain ⟨c1,c2⟩:=Jg (r:=r) a2
        rcases D4.mp hb with hb | hb
        · rcases inX b hb with ⟨j,b1,b2,b3⟩ | ⟨j,b1,b2,b3⟩
          · have:=low i a1 j (by omega) (by omega)
            rwa [c2,(Jg (r:=r) b3).2] at this
          · have:=low i a1 j (by omega) (by omega)
            rwa [c2,(Jg (r:=r) b3).2] at this
        · obtain ⟨j,b1,b2⟩:=mem_d hb
          obtain ⟨d1,d2⟩:=Jg (r:=r) b2
          have:=low i a1 j (by omega) (by omega)
          rwa [c2,d2] at this
  by_cases zz:m - k<=u
  · rw [if_pos zz]
    exact wpS_bind (wp_mlo O hk' M (by omega) (by omega) (F 0 (by omega)) fin)
  · rw [if_neg zz]
    exact wpS_bind (wp_mhi O hk' M F (by omega) (by omega) fin)
end
end L2
namespace L2
open PySem PySem.Spec PyProof.Rows PySem.W
section
variable {prog:Program} {w:World} {A:Around} {E:Value->Shared->Prop} {s:Shared} {r:Keyed->Nat} {κ:SortKind} {D:Keyed->Prop}
theorem wp_at {st:SortSt} {i j:Nat} {Q:Option Bool->SortSt->Prop} (O:LtOk prog w A E s r κ D) (hk:kindOf st=κ) (hD:∀ z∈(arrOf st).toList,D z) (hi:i < (arrOf st).size) (hj:j < (arrOf st).size)
    (h:Q (some (decide (RK r (arrOf st) i < RK r (arrOf st) j))) st):wpS (model prog w) A E s (ltAt' i j) Q st:=by
  rw [ltAt'_eq]
  rw [Zc hi,Zc hj] at h
  exact wpS_bind (wpS_get (wpS_bind (wp_el hi (wpS_bind (wp_el hj (O _ _ (hD _ (by simp)) (hD _ (by simp)) st _ hk h))))))
theorem wp_cnt {st:SortSt} {Q:Option Nat->SortSt->Prop} {lo n:Nat} (O:LtOk prog w A E s r κ D) (hk:kindOf st=κ) (hD:∀ z∈(arrOf st).toList,D z) (h2:2<=n) (hs:lo + n<=(arrOf st).size) (hr:RK r (arrOf st) lo < RK r (arrOf st) (lo + 1))
    (hq:∀ m,1<=m->m<=n->Sg r (arrOf st) lo (lo + m)->Q (some m) st):wpS (model prog w) A E s (countRun' lo n) Q st:=by
  rw [countRun'_eq]
  refine wpS_bind (wpS_mono (wpS_forRange (I:=fun x c st'=>st'=st/\∃ m,c=(none,m)/\m=x/\1<=m/\m<=n/\Sg r (arrOf st) lo (lo + m))
    (Q:=fun c st'=>st'=st/\∃ m,c=(none,m)/\2<=m/\m<=n/\Sg r (arrOf st) lo (lo + m)) ?step ?fin ⟨rfl,1,rfl,rfl,O4 _,by omega,fun i j a b c=>by rw [show j=i by omega]; exact O4 _⟩) ?post)
  case step=>
    rintro x c st' h1 h2 ⟨rfl,m,rfl,rfl,a1,a2,a3⟩
    refine wpS_bind (wp_at O hk hD (by show lo + m < _; omega) (by show lo + m - 1 < _; omega) ?_)
    dsimp only
    by_cases z:RK r (arrOf st') (lo + m) < RK r (arrOf st') (lo + m - 1)
    · rw [if_pos (by simpa using z)]
      refine wpS_pure ⟨rfl,m,rfl,?_,a2,a3⟩
      by_cases y:m=1
      · subst y
        rw [Nat.add_sub_cancel] at z
        omega
      · omega
    · rw [if_neg (by simpa using z)]
      refine wpS_pure ⟨rfl,m + 1,rfl,rfl,by omega,by omega,fun i j g1 g2 g3=>?_⟩
      by_cases y:j < lo + m
      · exact a3 i j g1 g2 y
      · by_cases y2:i=j
        · subst y2; exact O4 _
        · have:=a3 i (lo + m - 1) g1 (by omega) (by omega)
          rw [show j=lo + m by omega]
          omega
  case fin=>
    rintro c st' ⟨rfl,m,rfl,rfl,a1,a2,a3⟩
    exact ⟨rfl,_,rfl,by omega,a2,a3⟩
  case post=>
    rintro c st' ⟨rfl,m,rfl,a1,a2,a3⟩
    dsimp only
    by_cases z:m=n
    · rw [if_pos (by simpa using z)]
      exact wpS_pure (hq m (by omega) a2 a3)
    · rw [if_neg (by simpa using z),if_pos (show m > 1 by omega)]
      refine wpS_bind (wp_at O hk hD (by omega) (by omega) ?_)
      dsimp only
      have:=a3 (lo + 1) (lo + m - 1) (by omega) (by omega) (by omega)
      rw [if_pos (by simp; omega)]
      exact wpS_pure (hq m (by omega) a2 a3)
theorem Zn {v u:Array Keyed} {i j:Nat} (h:v[i]?=u[j]?):RK r v i=RK r u j:=by unfold RK; rw [h]
theorem wp_cntD {st:SortSt} {Q:Option Nat->SortSt->Prop} {lo n:Nat} (O:LtOk prog w A E s r κ D) (hk:kindOf st=κ) (hD:∀ z∈(arrOf st).toList,D z) (h2:3<=n) (hs:lo + n<=(arrOf st).size) (hr:RK r (arrOf st) (lo + 1) < RK r (arrOf st) lo) (hr2:RK r (arrOf st) (lo + 1) < RK r (arrOf st) (lo + 2))
    (hq:∀ m v,1<=m->m<=n->v.Perm (arrOf st)->(∀ i,i < lo\/lo + n<=i->v[i]?=(arrOf st)[i]?)->Sg r v lo (lo + m)->Q (some m) (setArr st v)):wpS (model prog w) A E s (countRun' lo n) Q st:=by
  rw [countRun'_eq]
  refine wpS_bind (wpS_mono (wpS_forRange (I:=fun x c st'=>st'=st/\x=1/\c=(none,1)) (Q:=fun c st'=>st'=st/\c=(none,1)) ?_ ?_ ⟨rfl,rfl,rfl⟩) ?_)
  · rintro x c st' h1 h2 ⟨rfl,rfl,rfl⟩
    refine wpS_bind (wp_at O hk hD (by show lo + 1 < _; omega) (by show lo + 1 - 1 < _; omega) ?_)
    dsimp only
    rw [if_pos (by simpa using hr)]
    exact wpS_pure ⟨rfl,rfl⟩
  · rintro c st' ⟨rfl,h,-⟩
    omega
  rintro c st' ⟨rfl,rfl⟩
  dsimp only
  rw [if_neg (by simp; omega),if_neg (by omega)]
  refine wpS_bind (wpS_lift (wpAny_rule ⟨rfl,?_⟩))
  refine wpS_bind (wpS_mono (wpS_forRange (I:=fun x c st''=>st''=st'/\x=2/\c=(none,2,0)) (Q:=fun c st''=>st''=st'/\c=(none,2,0)) ?_ ?_ ⟨rfl,rfl,rfl⟩) ?_)
  · rintro x c st'' h1 h2 ⟨rfl,rfl,rfl⟩
    refine wpS_bind (wp_at O hk hD (by show lo + 2 < _; omega) (by show lo + 2 - 1 < _; omega) ?_)
    dsimp only
    rw [if_neg (by rw [show lo + 2 - 1=lo + 1 by omega]; simp; omega)]
    refine wpS_bind (wp_at O hk hD (by show lo + 2 - 1 < _; omega) (by show lo + 2 < _; omega) ?_)
    dsimp only
    rw [if_pos (by rw [show lo + 2 - 1=lo + 1 by omega]; simpa using hr2)]
    exact wpS_pure ⟨rfl,rfl⟩
  · rintro c st'' ⟨rfl,h,-⟩
    omega
  rintro c st'' ⟨rfl,rfl⟩
  dsimp only
  rw [if_neg (by omega),reverseSlice'_eq]
  refine wpS_bind (wpS_modify ?_)
  generalize hv:mirror (arrOf st'') lo (lo + 2) ((lo + 2 - lo) / 2)=v
  have gm:∀ k,v[k]?=if lo<=k/\k < lo + 2 then (arrOf st'')[lo + (lo + 2) - 1 - k]? else (arrOf st'')[k]?:=fun k=>by rw [<- hv]; exact getElem?_mirror_all (by omega) k
  have pv:v.Perm (arrOf st''):=by rw [<- hv]; exact mirror_perm _ _ _ _
  have sz:v.size=(arrOf st'').size:=pv.size_eq
  have hD':∀ z∈(arrOf (setArr st'' v)).toList,D z:=fun z hz=>hD z ((Array.perm_iff_toList_perm.mp pv).mem_iff.mp hz)
  have r0:RK r v lo=RK r (arrOf st'') (lo + 1):=Zn (by rw [gm,if_pos (by omega),show lo + (lo + 2) - 1 - lo=lo + 1 by omega])
  have r1:RK r v (lo + 1)=RK r (arrOf st'') lo:=Zn (by rw [gm,if_pos (by omega),show lo + (lo + 2) - 1 - (lo + 1)=lo by omega])
  refine wpS_bind (wpS_mono (wpS_forRange (I:=fun x c st'=>st'=setArr st'' v/\∃ m,c=(none,m)/\m=x/\1<=m/\m<=n/\Sg r v lo (lo + m))
    (Q:=fun c st'=>st'=setArr st'' v/\∃ m,c=(none,m)/\1<=m/\m<=n/\Sg r v lo (lo + m)) ?_ ?_ ⟨rfl,2,rfl,rfl,by omega,by omega,fun i j a b c=>?_⟩) ?_)
  · rintro x c st' h1 h2 ⟨rfl,m,rfl,rfl,a1,a2,a3⟩
    refine wpS_bind (wp_at O hk hD' (by show lo + m < v.size; omega) (by show lo + m - 1 < v.size; omega) ?_)
    dsimp only
    by_cases z:RK r v (lo + m) < RK r v (lo + m - 1)
    · rw [if_pos (decide_eq_true z)]
      exact wpS_pure ⟨rfl,m,rfl,a1,a2,a3⟩
    · rw [if_neg (fun h=>z (of_decide_eq_true h))]
      refine wpS_pure ⟨rfl,m + 1,rfl,rfl,by omega,by omega,fun i j g1 g2 g3=>?_⟩
      by_cases y:j < lo + m
      · exact a3 i j g1 g2 y
      · by_cases y2:i=j
        · subst y2; exact O4 _
        · have:=a3 i (lo + m - 1) g1 (by omega) (by omega)
          rw [show j=lo + m by omega]
          omega
  · rintro c st' ⟨rfl,m,rfl,rfl,a1,a2,a3⟩
    exact ⟨rfl,_,rfl,by omega,a2,a3⟩
  · by_cases z:i=j
    · subst z; exact O4 _
    · rw [show i=lo by omega,show j=lo + 1 by omega,r0,r1]
      omega
  · rintro c st' ⟨rfl,m,rfl,a1,a2,a3⟩
    exact wpS_pure (hq m v a1 a2 pv (fun i hi=>by rw [gm,if_neg (by omega)]) a3)
theorem wp_bin {st:SortSt} {Q:Bool->SortSt->Prop} {lo n ok:Nat} (O:LtOk prog w A E s r κ D) (hk:kindOf st=κ) (hD:∀ z∈(arrOf st).toList,D z) (h1:1<=ok) (hn:ok<=n) (hs:lo + n<=(arrOf st).size) (so:Sg r (arrOf st) lo (lo + ok))
    (hq:∀ v,v.Perm (arrOf st)->Sg r v lo (lo + n)->(∀ i,i < lo\/lo + n<=i->v[i]?=(arrOf st)[i]?)->Q true (setArr st v)):wpS (model prog w) A E s (binarySort' lo n ok) Q st:=by
  rw [binarySort'_eq]
  refine wpS_bind (wpS_mono (wpS_forRange (I:=fun k c st'=>c=(none,())/\∃ v,st'=setArr st v/\v.Perm (arrOf st)/\Sg r v lo (lo + k)/\∀ i,i < lo\/lo + n<=i->v[i]?=(arrOf st)[i]?)
    (Q:=fun c st'=>c=(none,())/\∃ v,st'=setArr st v/\v.Perm (arrOf st)/\Sg r v lo (lo + n)/\∀ i,i < lo\/lo + n<=i->v[i]?=(arrOf st)[i]?) ?step ?fin ⟨rfl,arrOf st,rfl,Array.Perm.refl _,by rw [show max ok 1=ok by omega]; exact so,fun _ _=>rfl⟩) ?post)
  case post=>
    rintro c st' ⟨rfl,v,rfl,p,q,t⟩
    exact wpS_pure (hq v p q t)
  case fin=>
    rintro c st' ⟨hc,v,e,p,q,t⟩
    rw [show max (max ok 1) n=n by omega] at q
    exact ⟨hc,v,e,p,q,t⟩
  case step=>
    rintro k c st' ha hkn ⟨rfl,v,rfl,p,q,t⟩
    have sz:v.size=(arrOf st).size:=p.size_eq
    have hk0:1<=k:=by omega
    have hD':∀ z∈(arrOf (setArr st v)).toList,D z:=fun z hz=>hD z ((Array.perm_iff_toList_perm.mp p).mem_iff.mp hz)
    refine wpS_bind (wpS_mono (wpS_forRange (I:=fun x c st''=>st''=setArr st v/\∃ l u,c=(none,l,u)/\l<=u/\u<=k/\u - l<=k - x/\(∀ i,i < l->RK r v (lo + i)<=RK r v (lo + k))/\∀ i,u<=i->i < k->RK r v (lo + k) < RK r v (lo + i))
      (Q:=fun c st''=>st''=setArr st v/\∃ l u,c=(none,l,u)/\l<=k/\(∀ i,i < l->RK r v (lo + i)<=RK r v (lo + k))/\∀ i,l<=i->i < k->RK r v (lo + k) < RK r v (lo + i)) ?is ?ie ⟨rfl,0,k,rfl,by omega,by omega,by omega,fun i hi=>by omega,fun i g1 g2=>by omega⟩) ?ip)
    case ie=>
      rintro c st'' ⟨rfl,l,u,rfl,b1,b2,b3,b4,b5⟩
      have:l=u:=by omega
      subst this
      exact ⟨rfl,l,l,rfl,b2,b4,b5⟩
    case is=>
      rintro x c st'' - hx ⟨rfl,l,u,rfl,b1,b2,b3,b4,b5⟩
      dsimp only
      by_cases z:l>=u
      · rw [if_pos z]
        have:l=u:=by omega
        subst this
        exact wpS_pure ⟨rfl,l,l,rfl,b2,b4,b5⟩
      · rw [if_neg z]
        refine wpS_bind (wp_at O hk hD' (by show lo + k < v.size; omega) (by show lo + (l + u) / 2 < v.size; omega) ?_)
        dsimp only
        by_cases y:RK r v (lo + k) < RK r v (lo + (l + u) / 2)
        · rw [if_pos (decide_eq_true y)]
          exact wpS_pure ⟨rfl,l,_,rfl,by omega,by omega,by omega,b4,fun i g1 g2=>D0 y (q _ _ (by omega) (by omega) (by omega))⟩
        · rw [if_neg (fun h=>y (of_decide_eq_true h))]
          exact wpS_pure ⟨rfl,_,u,rfl,by omega,b2,by omega,fun i g1=>D3 (q (lo + i) (lo + (l + u) / 2) (by omega) (by omega) (by omega)) (Nat.not_lt.mp y),b5⟩
    case ip=>
      rintro c st'' ⟨rfl,l,u,rfl,b2,b4,b5⟩
      show wpS _ _ _ _ (do moveDown' (lo + k) (lo + l); pure (ForInStep.yield (none,()))) _ _
      rw [moveDown'_eq]
      have hks:lo + k < v.size:=by omega
      have gb:∀ i,RK r (bubble v (lo + k) (lo + k - (lo + l))) i=if i=lo + l then RK r v (lo + k) else if lo + l < i/\i<=lo + k then RK r v (i - 1) else RK r v i:=fun i=>by
        have e:=getElem?_bubble hks (lo + k - (lo + l)) (by omega) i
        rw [show lo + k - (lo + k - (lo + l))=lo + l by omega] at e
        split at e
        · rw [if_pos (by assumption)]; exact Zn e
        · rw [if_neg (by assumption)]
          split at e
          · rw [if_pos (by assumption)]; exact Zn e
          · rw [if_neg (by assumption)]; exact Zn e
      refine wpS_bind (wpS_modify (wpS_pure ⟨rfl,bubble v (lo + k) (lo + k - (lo + l)),rfl,(bubble_perm _ _ _).trans p,fun i j g1 g2 g3=>?_,fun i hi=>?_⟩))
      · rw [gb,gb]
        have L:∀ i,lo<=i->i < lo + l->RK r v i<=RK r v (lo + k):=fun i h1 h2=>by
          have:=b4 (i - lo) (by omega)
          rwa [show lo + (i - lo)=i by omega] at this
        have H:∀ i,lo + l<=i->i < lo + k->RK r v (lo + k) < RK r v i:=fun i h1 h2=>by
          have:=b5 (i - lo) (by omega) (by omega)
          rwa [show lo + (i - lo)=i by omega] at this
        repeat' split
        all_goals first
          | (exfalso; omega)
          | exact O4 _
          | exact L _ (by omega) (by omega)
          | exact L5 (H _ (by omega) (by omega))
          | exact q _ _ (by omega) (by omega) (by omega)
      · rw [getElem?_bubble hks _ (by omega),if_neg (by omega),if_neg (by omega)]
        exact t i hi
theorem run_two:∀ N,64<=N->N < 128->minRun' N N 0=(N + 1) / 2:=fun N h1 h2=>by
  obtain ⟨f,rfl⟩:∃ f,N=f + 2:=⟨N - 2,by omega⟩
  have e:minRun' (f + 1 + 1) (f + 2) 0=(f + 2) / 2 + max 0 ((f + 2) % 2):=by
    rw [minRun'_succ,if_neg (by omega),minRun'_succ,if_pos (by omega)]
  rw [show f + 1 + 1=f + 2 from rfl] at e
  rw [e]
  omega
theorem wp_two {st:SortSt} {Q:Unit->SortSt->Prop} {N:Nat} (O:LtOk prog w A E s r κ D) (hk:kindOf st=κ) (hf:failedOf st=none) (hp:pendingOf st=#[]) (hD:∀ z∈(arrOf st).toList,D z) (hN:(arrOf st).size=N) (h1:64<=N) (h2:N < 128)
    (r0:RK r (arrOf st) 0 < RK r (arrOf st) 1) (r1:RK r (arrOf st) ((N + 1) / 2) < RK r (arrOf st) ((N + 1) / 2 + 1)\/(RK r (arrOf st) ((N + 1) / 2 + 1) < RK r (arrOf st) ((N + 1) / 2)/\RK r (arrOf st) ((N + 1) / 2 + 1) < RK r (arrOf st) ((N + 1) / 2 + 2))) (rd:∃ t,1<=t/\t < (N + 1) / 2/\RK r (arrOf st) t < RK r (arrOf st) (t - 1))
    (hq:∀ st',(arrOf st').Perm (arrOf st)->So r (arrOf st').toList->failedOf st'=none->Q () st'):wpS (model prog w) A E s sortRuns' Q st:=by
  have hmr:=run_two N h1 h2
  generalize hm:(N + 1) / 2=m at *
  have m1:m + m<=N + 1:=by omega
  have m2:N<=m + m:=by omega
  rw [sortRuns'_eq]
  refine wpS_bind (wpS_get ?_)
  dsimp only
  simp only [hN,hmr]
  refine wpS_bind (wpS_mono (wpS_forRange
    (I:=fun x c st'=>(x=0/\c=(none,0)/\st'=st)\/(x=1/\c=(none,m)/\∃ v,v.Perm (arrOf st)/\Sg r v 0 m/\(∀ i,m<=i->v[i]?=(arrOf st)[i]?)/\st'=SortSt.mk' (kindOf st) v #[(0,m,0)] (gallopOf st) none) \/
      (2<=x/\c=(none,N)/\∃ v p,v.Perm (arrOf st)/\Sg r v 0 m/\Sg r v m N/\st'=SortSt.mk' (kindOf st) v #[(0,m,p),(m,N - m,0)] (gallopOf st) none))
    (Q:=fun c st'=>c=(none,N)/\∃ v p,v.Perm (arrOf st)/\Sg r v 0 m/\Sg r v m N/\st'=SortSt.mk' (kindOf st) v #[(0,m,p),(m,N - m,0)] (gallopOf st) none) ?step ?fin (.inl ⟨rfl,rfl,rfl⟩)) ?post)
  case fin=>
    rintro c st' (⟨h,-⟩ | ⟨h,-⟩ | ⟨-,h⟩)
    · omega
    · omega
    · exact h
  case step=>
    rintro x c st' - hx (⟨rfl,rfl,rfl⟩ | ⟨rfl,rfl,v,p,q,t,rfl⟩ | ⟨hx2,rfl,h⟩)
    · dsimp only
      rw [if_neg (by omega),Nat.sub_zero]
      refine wpS_bind (wp_cnt O hk hD (by omega) (by omega) r0 fun n a1 a2 a3=>?_)
      rw [Nat.zero_add] at a3
      have hlt:n < m:=by
        obtain ⟨t,t1,t2,t3⟩:=rd
        by_cases z:n < m
        · exact z
        · have:=a3 (t - 1) t (by omega) (by omega) (by omega)
          omega
      dsimp only
      rw [if_pos hlt,show min N m=m by omega]
      refine wpS_bind (wpS_lift (wpAny_rule ⟨rfl,?_⟩))
      refine wpS_bind (wp_bin O hk hD a1 (by omega) (by omega) (by rw [Nat.zero_add]; exact a3) fun v p q t=>?_)
      simp only [Bool.not_true,F3,if_false]
      refine wpS_bind (wpS_get ?_)
      have hb:(pendingOf (setArr st' v)).back?=none:=by show (pendingOf st').back?=none; rw [hp]; rfl
      rw [hb]
      dsimp only
      refine wpS_bind (wpS_modify (wpS_pure (.inr (.inl ⟨by first | rfl | trivial,by first | rfl | rw [Nat.zero_add] | trivial,v,p,by rw [Nat.zero_add] at q; exact q,fun i hi=>t i (.inr (by omega)),?_⟩))))
      show SortSt.mk' (kindOf st') v ((pendingOf st').push (0,m,0)) (gallopOf st') (failedOf st')=_
      rw [hp,hf]
      rfl
    · dsimp only
      rw [if_neg (by omega)]
      have sz:v.size=N:=by rw [p.size_eq,hN]
      have hD':∀ z∈v.toList,D z:=fun z hz=>hD z ((Array.perm_iff_toList_perm.mp p).mem_iff.mp hz)
      have e0:=Zn (r:=r) (t m (O4 _))
      have e1:=Zn (r:=r) (t (m + 1) (by omega))
      have e2:=Zn (r:=r) (t (m + 2) (by omega))
      rw [<- e0,<- e1,<- e2] at r1
      refine wpS_bind (wpS_mono (Q:=fun c st'=>∃ n v',c=some n/\st'=SortSt.mk' (kindOf st) v' #[(0,m,0)] (gallopOf st) none/\1<=n/\n<=N - m/\v'.Perm v/\(∀ i,i < m->v'[i]?=v[i]?)/\Sg r v' m (m + n)) ?_ ?_)
      · rcases r1 with r1 | ⟨r1,r2⟩
        · exact wp_cnt (st:=SortSt.mk' (kindOf st) v #[(0,m,0)] (gallopOf st) none) O hk hD' (by omega) (by show m + (N - m)<=v.size; omega) r1 fun n a1 a2 a3=>⟨n,v,rfl,rfl,a1,a2,Array.Perm.refl _,fun _ _=>rfl,a3⟩
        · exact wp_cntD (st:=SortSt.mk' (kindOf st) v #[(0,m,0)] (gallopOf st) none) O hk hD' (by omega) (by show m + (N - m)<=v.size; omega) r1 r2 fun n v' a1 a2 a3 a4 a5=>⟨n,v',rfl,rfl,a1,a2,a3,fun i hi=>a4 i (.inl hi),a5⟩
      rintro c st' ⟨n,v',rfl,rfl,a1,a2,p3,t3,a3⟩
      have q:Sg r v' 0 m:=fun i j g1 g2 g3=>by
        rw [Zn (t3 i (by omega)),Zn (t3 j g3)]
        exact q i j g1 g2 g3
      have p:=p3.trans p
      have sz:v'.size=N:=by rw [p.size_eq,hN]
      have hD':∀ z∈v'.toList,D z:=fun z hz=>hD z ((Array.perm_iff_toList_perm.mp p).mem_iff.mp hz)
      clear t t3 p3 e0 e1 e2
      clear r1
      generalize hvv:v'=v at *
      dsimp only
      have em:∀ pw,((#[(0,m,0)]:Array (Nat × Nat × Nat)).modify ((#[(0,m,0)]:Array (Nat × Nat × Nat)).size - 1) fun x=>(x.1,x.2.1,pw)).push (m,N - m,0)=#[(0,m,pw),(m,N - m,0)]:=fun pw=>by
        apply Array.toList_inj.mp
        simp
      by_cases z:n < m
      · rw [if_pos z]
        refine wpS_bind (wpS_lift (wpAny_rule ⟨rfl,?_⟩))
        refine wpS_bind (wp_bin (st:=SortSt.mk' (kindOf st) v #[(0,m,0)] (gallopOf st) none) O hk hD' a1 (by omega) (by show m + min (N - m) m<=v.size; omega) a3 fun u p' q' t'=>?_)
        simp only [Bool.not_true,F3,if_false]
        have q1:Sg r u 0 m:=fun i j g1 g2 g3=>by
          rw [Zn (t' i (.inl (by omega))),Zn (t' j (.inl g3))]
          exact q i j g1 g2 g3
        have q2:Sg r u m N:=by
          have:m + min (N - m) m=N:=by omega
          rw [this] at q'
          exact q'
        have p2:u.Perm (arrOf st):=p'.trans p
        refine wpS_bind (wpS_get (wpS_bind (wpS_mono (wpS_forRange (I:=fun x c st''=>x=0/\c=(none,())/\st''=SortSt.mk' (kindOf st) u #[(0,m,0)] (gallopOf st) none) (Q:=fun c st''=>c=(none,())/\st''=SortSt.mk' (kindOf st) u #[(0,m,0)] (gallopOf st) none) ?_ ?_ ⟨rfl,rfl,rfl⟩) ?_)))
        · rintro x c st'' - - ⟨rfl,rfl,rfl⟩
          exact wpS_bind (wpS_get (wpS_pure ⟨rfl,rfl⟩))
        · rintro c st'' ⟨h,-⟩
          omega
        · rintro c st'' ⟨rfl,rfl⟩
          refine wpS_bind (wpS_modify (wpS_bind (wpS_modify (wpS_pure (.inr (.inr ⟨by omega,?_,u,power' N (2 * 0 + m) (2 * 0 + m + m + min (N - m) m) N,p2,q1,q2,?_⟩))))))
          · show (none,m + min (N - m) m)=_
            rw [show m + min (N - m) m=N by omega]
          · rw [show min (N - m) m=N - m by omega] at *
            exact congrArg (fun x=>SortSt.mk' (kindOf st) u x (gallopOf st) none) (em _)
      · rw [if_neg z]
        have hn:n=N - m:=by omega
        subst hn
        have q2:Sg r v m N:=by
          rw [show m + (N - m)=N by omega] at a3
          exact a3
        refine wpS_bind (wpS_get (wpS_bind (wpS_mono (wpS_forRange (I:=fun x c st''=>x=0/\c=(none,())/\st''=SortSt.mk' (kindOf st) v #[(0,m,0)] (gallopOf st) none) (Q:=fun c st''=>c=(none,())/\st''=SortSt.mk' (kindOf st) v #[(0,m,0)] (gallopOf st) none) ?_ ?_ ⟨rfl,rfl,rfl⟩) ?_)))
        · rintro x c st'' - - ⟨rfl,rfl,rfl⟩
          exact wpS_bind (wpS_get (wpS_pure ⟨rfl,rfl⟩))
        · rintro c st'' ⟨h,-⟩
          omega
        · rintro c st'' ⟨rfl,rfl⟩
          refine wpS_bind (wpS_modify (wpS_bind (wpS_modify (wpS_pure (.inr (.inr ⟨by omega,?_,v,power' N (2 * 0 + m) (2 * 0 + m + m + (N - m)) N,p,q,q2,?_⟩))))))
          · show (none,m + (N - m))=_
            rw [show m + (N - m)=N by omega]
          · exact congrArg (fun x=>SortSt.mk' (kindOf st) v x (gallopOf st) none) (em _)
    · obtain ⟨v,p,h⟩:=h
      dsimp only
      rw [if_pos (O4 _)]
      exact wpS_pure ⟨rfl,v,p,h⟩
  case post=>
    rintro c st' ⟨rfl,v,p,pv,q1,q2,rfl⟩
    have sz:v.size=N:=by rw [pv.size_eq,hN]
    have hD':∀ z∈v.toList,D z:=fun z hz=>hD z ((Array.perm_iff_toList_perm.mp pv).mem_iff.mp hz)
    dsimp only
    refine wpS_bind (wpS_mono (wpS_forRange (I:=fun x c st'=>(x=0/\c=(none,())/\st'=SortSt.mk' (kindOf st) v #[(0,m,p),(m,N - m,0)] (gallopOf st) none)\/(1<=x/\c=(none,())/\(arrOf st').Perm (arrOf st)/\So r (arrOf st').toList/\failedOf st'=none/\pendingOf st'=#[(0,m + (N - m),p)]))
      (Q:=fun c st'=>c=(none,())/\(arrOf st').Perm (arrOf st)/\So r (arrOf st').toList/\failedOf st'=none) ?_ ?_ (.inl ⟨rfl,rfl,rfl⟩)) ?_)
    · rintro x c st' - - (⟨rfl,rfl,rfl⟩ | ⟨hx,rfl,b1,b2,b3,b4⟩)
      · refine wpS_bind (wpS_get ?_)
        show wpS _ _ _ _ (do if !(<- mergeAt' 0) then pure (ForInStep.done (some (),())) else pure (ForInStep.yield (none,()))) _ _
        refine wpS_bind (wp_mat (st:=SortSt.mk' (kindOf st) v #[(0,m,p),(m,N - m,0)] (gallopOf st) none) O hk rfl hD' rfl (by omega) (by omega) (by show v.size=_; omega) q1 (by rw [show m + (N - m)=N by omega]; exact q2) fun st' c1 c2 c3 c4=>?_)
        exact wpS_pure (.inr ⟨by omega,rfl,c1.trans pv,c2,c3,c4⟩)
      · refine wpS_bind (wpS_get ?_)
        rw [b4]
        exact wpS_pure ⟨rfl,b1,b2,b3⟩
    · rintro c st' (⟨h,-⟩ | ⟨-,h1,h2,h3,h4,-⟩)
      · omega
      · exact ⟨h1,h2,h3,h4⟩
    · rintro c st' ⟨rfl,b1,b2,b3⟩
      exact wpS_pure (hq _ b1 b2 b3)
end
end L2
namespace L2
open PySem PySem.Spec PyProof.Rows PySem.W
def twoR (nss:List (List Int)):Bool:=decide (64<=nss.length) && decide (nss.length < 128) && Jf (nss.getD 0 []) (nss.getD 1 []) && (Jf (nss.getD ((nss.length + 1) / 2) []) (nss.getD ((nss.length + 1) / 2 + 1) []) || Jf (nss.getD ((nss.length + 1) / 2 + 1) []) (nss.getD ((nss.length + 1) / 2) []) && Jf (nss.getD ((nss.length + 1) / 2 + 1) []) (nss.getD ((nss.length + 1) / 2 + 2) [])) && (List.range ((nss.length + 1) / 2)).any fun t=>decide (1<=t) && Jf (nss.getD t []) (nss.getD (t - 1) [])
theorem twoR_at {nss:List (List Int)} (h:twoR nss=true):64<=nss.length/\nss.length < 128/\Jf (nss.getD 0 []) (nss.getD 1 [])=true/\(Jf (nss.getD ((nss.length + 1) / 2) []) (nss.getD ((nss.length + 1) / 2 + 1) [])=true\/Jf (nss.getD ((nss.length + 1) / 2 + 1) []) (nss.getD ((nss.length + 1) / 2) [])=true/\Jf (nss.getD ((nss.length + 1) / 2 + 1) []) (nss.getD ((nss.length + 1) / 2 + 2) [])=true)/\∃ t,1<=t/\t < (nss.length + 1) / 2/\Jf (nss.getD t []) (nss.getD (t - 1) [])=true:=by
  unfold twoR at h
  simp only [L0,Bool.or_eq_true,decide_eq_true_eq,List.any_eq_true,List.mem_range] at h
  obtain ⟨⟨⟨⟨a,b⟩,c⟩,d⟩,t,t1,t2,t3⟩:=h
  exact ⟨a,b,c,d,t,t2,t1,t3⟩
theorem twoR_le {nss:List (List Int)} (h:twoR nss=true) {n:Nat} (e:n=nss.length):n < 128:=by have:=twoR_at h; omega
theorem perm_map {α β:Type} {f:α->β} {l:List β} {xs:List α} (h:l.Perm (xs.map f)):∃ ys:List α,ys.Perm xs/\l=ys.map f:=by
  generalize e:xs.map f=m at h
  induction h generalizing xs with
  | nil=>exact ⟨[],by rw [List.map_eq_nil_iff.mp e],rfl⟩
  | cons x _ ih=>
    obtain ⟨y,ys,rfl,rfl,e2⟩:=List.map_eq_cons_iff.mp e
    obtain ⟨zs,h1,h2⟩:=ih e2
    exact ⟨y :: zs,h1.cons _,by rw [h2]; rfl⟩
  | swap x y l=>
    obtain ⟨a,as,rfl,rfl,e2⟩:=List.map_eq_cons_iff.mp e
    obtain ⟨b,bs,rfl,rfl,e3⟩:=List.map_eq_cons_iff.mp e2
    exact ⟨b :: a :: bs,List.Perm.swap _ _ _,by rw [<- e3]; rfl⟩
  | trans _ _ ih1 ih2=>
    obtain ⟨ys,h1,h2⟩:=ih2 e
    obtain ⟨zs,h3,h4⟩:=ih1 h2.symm
    exact ⟨zs,h3.trans h1,h4⟩
theorem ints_uniq:∀ {xs:List Value} {a b:List Int},IntsAre xs a->IntsAre xs b->a=b
  | _,_,_,.nil,.nil=>rfl
  | _,_,_,.cons _ _ h1,.cons _ _ h2=>by rw [ints_uniq h1 h2]
theorem rank_ex {h:Heap} {vs:List Value} {nss:List (List Int)} (T:TupsAre h vs nss):∃ r:Keyed->Nat,∀ i,i < vs.length->r (vs.getD i Value.none,vs.getD i Value.none)=rankL nss i:=by
  classical
  refine ⟨fun p=>if h:∃ i,i < vs.length/\vs.getD i Value.none=p.1 then rankL nss h.choose else 0,fun i hi=>?_⟩
  have hx:∃ j,j < vs.length/\vs.getD j Value.none=(vs.getD i Value.none,vs.getD i Value.none).1:=⟨i,hi,rfl⟩
  show (if h:_ then _ else _)=_
  rw [dif_pos hx]
  obtain ⟨c1,c2⟩:=hx.choose_spec
  generalize hx.choose=j at *
  obtain ⟨ai,oi,xi,ni,e1,e2,e3,e4⟩:=T.at i hi
  obtain ⟨aj,oj,xj,nj,f1,f2,f3,f4⟩:=T.at j c1
  have c2:vs.getD j Value.none=vs.getD i Value.none:=c2
  rw [e1,f1] at c2
  obtain rfl:aj=ai:=by injection c2
  rw [e2] at f2
  obtain rfl:oi=oj:=Option.some.inj f2
  rw [e3] at f3
  injection f3 with f3
  subst f3
  have:=ints_uniq e4 f4
  unfold rankL
  rw [this]
section
variable {prog:Program} {w:World} {A:Around} {E:Value->Shared->Prop} {s:Shared}
theorem sort_two {a:Addr} {vs:List Value} {nss:List (List Int)} {n:Nat} {P:PySem.Fin->Shared->Prop} (ho:s.heap.get? a=some (seqObj "list" vs.toArray n)) (hT:TupsAre s.heap vs nss) (h64:twoR nss=true)
    (h:∀ (p:List Nat) (h':Heap) (k:Nat),p.Perm (List.range vs.length)->(∀ i,1<=i->i < vs.length->Jf (nss.getD (p.getD i 0) []) (nss.getD (p.getD (i - 1) 0) [])=false)->h'.get? a=some (seqObj "list" (List.toArray (p.map fun i=>vs.getD i Value.none)) k)->(∀ b o,b≠a->s.heap.get? b=some o->h'.get? b=some o)->P (.done (.ret .none)) { s with heap:=h' }) :
    wpAny (model prog w) A (Builtin.«list.sort» ⟨[.ref a],[]⟩) P E s:=by
  have ha:a < s.heap.objs.size:=O6 ho
  obtain ⟨e1,ho1⟩:∃ e1,(s.heap.update a (Obj.mapSeq fun _=>(#[]:Array Value))).get? a=some (seqObj "list" #[] e1):=⟨_,get?_update_seq ho fun _=>#[]⟩
  have keep3:∀ b o,b≠a->s.heap.get? b=some o->(((s.heap.update a (Obj.mapSeq fun _=>(#[]:Array Value))).push (seqObj "tuple" vs.toArray 0)).push (seqObj "list" #[] 0)).get? b=some o:=fun b o hb e=>
    O0 _ (O0 _ (by rw [L3 _ _ _ _ hb]; exact e))
  have ho3:(((s.heap.update a (Obj.mapSeq fun _=>(#[]:Array Value))).push (seqObj "tuple" vs.toArray 0)).push (seqObj "list" #[] 0)).get? a=some (seqObj "list" #[] e1):=O0 _ (O0 _ ho1)
  rw [list_sort_plain]
  refine wpAny_bind (listItems_at ho rfl ?_)
  refine wpAny_bind (listUpdate_at ho rfl ?_ (by rw [O5,sizeLine_eq]; have:=twoR_le h64 hT.length; omega) (G8 _))
  refine wpAny_bind (seqEpoch_at ho1 rfl ?_)
  refine wpAny_bind (wpAny_newTuple ?_ (by show vs.length<=_; rw [sizeLine_eq]; have:=twoR_le h64 hT.length; omega))
  refine wpAny_bind (wpAny_newList ?_ (G8 _))
  refine wpAny_holding ?_
  show wpAny (model prog w) A _ P E { s with heap:=((s.heap.update a (Obj.mapSeq fun _=>(#[]:Array Value))).push (seqObj "tuple" vs.toArray 0)).push (seqObj "list" #[] 0) }
  dsimp only
  generalize hH:((s.heap.update a (Obj.mapSeq fun _=>(#[]:Array Value))).push (seqObj "tuple" vs.toArray 0)).push (seqObj "list" #[] 0)=H3 at *
  have fin:∀ (st:SortSt) (p:List Nat),p.Perm (List.range vs.length)->(arrOf st).map (·.2)=List.toArray (p.map fun i=>vs.getD i Value.none)->failedOf st=none->(∀ i,1<=i->i < vs.length->Jf (nss.getD (p.getD i 0) []) (nss.getD (p.getD (i - 1) 0) [])=false) ->
      wpAny (model prog w) A (do
        let sorted:=(arrOf st).map (·.2)
        let touched:=(<- seqEpoch a) != e1
        Builtin.List.listUpdate (.ref a) fun _=>sorted
        if let some e:=failedOf st then rule "list.sort.comparison-raised"; throw e
        if touched then rule "list.sort.modified"; raiseError "ValueError" "list modified during sort"
        ret .none) P E { s with heap:=H3 }:=fun st p hp ha2 hf hs=>by
    dsimp only
    have hl:(List.toArray (p.map fun i=>vs.getD i Value.none)).size=vs.length:=by rw [O5,O2,hp.length_eq,F0]
    obtain ⟨c2,hc2⟩:∃ c2,(H3.update a (Obj.mapSeq fun _=>List.toArray (p.map fun i=>vs.getD i Value.none))).get? a=some (seqObj "list" (List.toArray (p.map fun i=>vs.getD i Value.none)) c2):=⟨_,get?_update_seq ho3 fun _=>List.toArray (p.map fun i=>vs.getD i Value.none)⟩
    rw [ha2,hf]
    refine wpAny_bind (seqEpoch_at ho3 rfl ?_)
    refine wpAny_bind (listUpdate_at ho3 rfl ?_ (G8 _) (D3 (Nat.le_of_eq hl) (by rw [sizeLine_eq]; have:=twoR_le h64 hT.length; omega)))
    simp only [bne_self_eq_false,F3,if_false]
    exact wpAny_pure (h p _ c2 hp hs hc2 fun b o hb e=>by rw [L3 _ _ _ _ hb]; exact keep3 b o hb e)
  by_cases h2:vs.toArray.size < 2
  · rw [if_pos h2,if_pos h2]
    refine wpAny_bind (wpAny_pure ?_)
    rw [StateT.run_pure]
    refine wpAny_bind (wpAny_pure ?_)
    refine fin (SortSt.mk' general' (vs.toArray.zip vs.toArray) #[] 7 none) (List.range vs.length) (List.Perm.refl _) ?_ rfl (fun i g1 g2=>?_)
    · show (vs.toArray.zip vs.toArray).map (·.2)=_
      apply Array.toList_inj.mp
      apply List.ext_getElem?
      intro i
      by_cases z:i < vs.length
      · simp [z]
      · simp [z]
    · rw [O5] at h2; omega
  · rw [if_neg h2,if_neg h2]
    rw [O5] at h2
    have hT3:TupsAre H3 vs nss:=hT.keepT fun b o hc e=>keep3 b o (fun z=>by
      rw [z,ho] at e
      have e:=Option.some.inj e
      rw [<- e] at hc
      exact absurd (show Value.type "list" = .type "tuple" from hc) (by decide)) e
    obtain ⟨fs,k1,k2,k3⟩:=hT3.firsts (M:=model prog w)
    refine wpAny_bind (kat_kind (s:={ s with heap:=H3 }) (T:=.type "int") k1 (by omega) k3 (by decide) ?_)
    have hln:=hT.length
    obtain ⟨c1,c2,c3,c4,c5⟩:=twoR_at h64
    obtain ⟨r,hr⟩:=rank_ex hT3
    have O:LtOk prog w A E { s with heap:=H3 } r (tuples' (Value.type "int" != Value.type "tuple")) (fun p=>∃ i,i < vs.length/\p=(vs.getD i Value.none,vs.getD i Value.none)):=fun x y hx hy st Q hk q=>by
      obtain ⟨i,hi,rfl⟩:=hx
      obtain ⟨j,hj,rfl⟩:=hy
      obtain ⟨ai,oi,xi,ni,e1,e2,e3,e4⟩:=hT3.at i hi
      obtain ⟨aj,oj,xj,nj,f1,f2,f3,f4⟩:=hT3.at j hj
      rw [hr i hi,hr j hj,show decide (rankL nss i < rankL nss j)=cR (rankL nss) i j from rfl,rank_lt (by omega) (by omega)] at q
      rw [lt'_eq]
      refine wpS_bind (wpS_get ?_)
      rw [hk,e1,f1]
      exact wpS_bind (wpS_lift (wpAny_attempt (kat_lt e2 e3 f2 f3 (lex_run _ _ 0 e4 f4 (by simp) ⟨rfl,wpS_pure q⟩))))
    have pl:(vs.toArray.zip vs.toArray).toList=(List.range vs.length).map fun i=>(vs.getD i Value.none,vs.getD i Value.none):=by
      apply List.ext_getElem?
      intro i
      by_cases z:i < vs.length
      · simp [z]
      · simp [z]
    have ra:∀ i,i < vs.length->RK r (vs.toArray.zip vs.toArray) i=rankL nss i:=fun i hi=>by
      unfold RK
      rw [<- Array.getElem?_toList,pl,E1,List.getElem?_range hi]
      exact hr i hi
    have lt2:∀ i j,i < nss.length->j < nss.length->Jf (nss.getD i []) (nss.getD j [])=true->RK r (vs.toArray.zip vs.toArray) i < RK r (vs.toArray.zip vs.toArray) j:=fun i j hi hj e=>by
      rw [ra i (by omega),ra j (by omega)]
      rw [<- rank_lt hi hj] at e
      exact of_decide_eq_true e
    refine wpAny_bind (wpAny_mono (wp_two (st:=SortSt.mk' (tuples' (Value.type "int" != Value.type "tuple")) (vs.toArray.zip vs.toArray) #[] 7 none) (N:=nss.length)
      (Q:=fun _ st'=>(arrOf st').Perm (vs.toArray.zip vs.toArray)/\So r (arrOf st').toList/\failedOf st'=none) O rfl rfl rfl (fun z hz=>?_) (by show (vs.toArray.zip vs.toArray).size=_; simp [hln]) c1 c2
      (lt2 _ _ (by omega) (by omega) c3) (c4.imp (lt2 _ _ (by omega) (by omega)) fun c4=>⟨lt2 _ _ (by omega) (by omega) c4.1,lt2 _ _ (by omega) (by omega) c4.2⟩) ?_ fun st' b1 b2 b3=>⟨b1,b2,b3⟩) ?_ fun _ _ e=>e)
    · have hz:z∈(vs.toArray.zip vs.toArray).toList:=hz
      rw [pl] at hz
      obtain ⟨i,hi,rfl⟩:=List.mem_map.mp hz
      exact ⟨i,by simpa using hi,rfl⟩
    · obtain ⟨t,t1,t2,t3⟩:=c5
      exact ⟨t,t1,t2,lt2 _ _ (by omega) (by omega) t3⟩
    rintro ⟨⟨⟩,st'⟩ s' ⟨rfl,b1,b2,b3⟩
    have b1:=Array.perm_iff_toList_perm.mp b1
    rw [pl] at b1
    obtain ⟨p,hp,ep⟩:=perm_map b1
    refine fin st' p hp ?_ b3 fun i g1 g2=>?_
    · apply Array.toList_inj.mp
      rw [Array.toList_map,ep,L8]
      rfl
    · have hl:p.length=vs.length:=by rw [hp.length_eq,F0]
      have hin:∀ k,k < vs.length->p.getD k 0 < vs.length:=fun k hk=>by
        rw [D7,O1 (by omega)]
        have:=hp.mem_iff.mp (List.getElem_mem (show k < p.length by omega))
        simpa using this
      have h0:=F5.mp b2 (i - 1) i (by rw [ep,O2]; omega) (by rw [ep,O2]; omega) (by omega)
      have at_:∀ k (hk:k < (arrOf st').toList.length),r ((arrOf st').toList[k])=rankL nss (p.getD k 0):=fun k hk=>by
        have hk':k < p.length:=by rw [ep,O2] at hk; exact hk
        have e:(arrOf st').toList[k]?=some (vs.getD (p.getD k 0) Value.none,vs.getD (p.getD k 0) Value.none):=by
          rw [ep,E1,D7 (l:=p),O1 hk']
          rfl
        rw [O1 hk] at e
        rw [Option.some.inj e]
        exact hr _ (hin k (by omega))
      rw [at_,at_] at h0
      have:=rank_lt (nss:=nss) (i:=p.getD i 0) (j:=p.getD (i - 1) 0) (by rw [<- hln]; exact hin _ g2) (by rw [<- hln]; exact hin _ (by omega))
      rw [<- this]
      exact decide_eq_false (Nat.not_lt.mpr h0)
theorem sorted_two {l:Addr} {vs:List Value} {nss:List (List Int)} {Q:Value->Shared->Prop} (hl:s.heap.IsList l vs.toArray) (hT:TupsAre s.heap vs nss) (h64:twoR nss=true)
    (h:∀ (p:List Nat) (h':Heap) (D k:Nat),p.Perm (List.range vs.length)->(∀ i,1<=i->i < vs.length->Jf (nss.getD (p.getD i 0) []) (nss.getD (p.getD (i - 1) 0) [])=false)->s.heap.objs.size<=D->h'.get? D=some (seqObj "list" (List.toArray (p.map fun i=>vs.getD i Value.none)) k)->(∀ b o,s.heap.get? b=some o->h'.get? b=some o)->Q (.ref D) { s with heap:=h' }) :
    wpAny (model prog w) A (call (.builtin "sorted") [.ref l]) Q E s:=by
  refine Calls.call_function_entry kind_sorted plain_sorted entry_sorted (args_sorted1 _) ?_
  unfold Builtin.«sorted»
  refine wpAny_bind (m:=checkCount "sorted" 1 1 _) (wpAny_pure ?_)
  refine wpAny_bind (collect_list hl ?_ (by rw [sizeLine_eq]; have:=twoR_le h64 hT.length; omega))
  refine wpAny_bind (wpAny_newList ?_ (by rw [sizeLine_eq]; have:=twoR_le h64 hT.length; omega))
  have hsz:((s.heap.push (seqObj "list" #[] 0)).update s.heap.objs.size (Obj.mapSeq (· ++ vs.toArray))).objs.size=s.heap.objs.size + 1:=by
    rw [Heap.size_update,size_push']
  have hoL:(((s.heap.push (seqObj "list" #[] 0)).update s.heap.objs.size (Obj.mapSeq (· ++ vs.toArray))).push (seqObj "list" vs.toArray 0)).get? (s.heap.objs.size + 1)=some (seqObj "list" vs.toArray 0):=by
    rw [<- hsz]; exact O7 _ rfl
  have keep:∀ b o,s.heap.get? b=some o->(((s.heap.push (seqObj "list" #[] 0)).update s.heap.objs.size (Obj.mapSeq (· ++ vs.toArray))).push (seqObj "list" vs.toArray 0)).get? b=some o:=fun b o q=>by
    have hlt:b < s.heap.objs.size:=O6 q
    rw [Heap.get?_push_ne _ _ _ (by rw [hsz]; exact O9 (F4 hlt)),L3 _ _ _ _ (O9 hlt),Heap.get?_push_ne _ _ _ (O9 hlt)]
    exact q
  show wpAny _ _ _ _ _ { s with heap:=((s.heap.push (seqObj "list" #[] 0)).update s.heap.objs.size (Obj.mapSeq (· ++ vs.toArray))).push (seqObj "list" vs.toArray 0) }
  rw [hsz]
  refine wpAny_bind (wpAny_holding (wpAny_call_entry slot_list_sort ⟨_,hoL,rfl⟩ entry_list_sort ?body (args_list_sort _)))
  case body=>
    refine sort_two (s:={ s with heap:=((s.heap.push (seqObj "list" #[] 0)).update s.heap.objs.size (Obj.mapSeq (· ++ vs.toArray))).push (seqObj "list" vs.toArray 0) }) hoL (hT.keep keep) h64 fun p h' k a1 a2 a3 a4=>?_
    exact ⟨_,rfl,wpAny_pure ⟨_,rfl,h p h' _ k a1 a2 (Nat.le_succ _) a3 fun b o e=>a4 b o (O9 (F4 (O6 e))) (keep b o e)⟩⟩
end
theorem call_sortedV {X:Cx}:CallR X (.builtin "sorted") (fun xs H Q=>∃ p vs,∃ nss:List (List Int),xs=[.ref p]/\SqL X.K H p vs/\twoR nss=true/\Paired (fun (v:V) (ns:List Int)=>ns≠[]/\∃ a,v=.ref a/\H a=some (.tup (ns.map V.int))) vs nss /\
    ∀ d (pp:List Nat),H d=none->pp.Perm (List.range vs.length)->pp.map (fun i=>nss.getD i [])=Qi nss->Q (.ref d) (upd H d (.lst (pp.map fun i=>vs.getD i .non)))):=by
  intro pins s σ H xs us Q I r h
  obtain ⟨p,vs,nss,rfl,hq,h64,hp,q⟩:=h
  obtain ⟨u,rfl,rx⟩:=vals1 r
  cases rx
  obtain ⟨its,r',pl,hz⟩:=I.list hq
  have hlen:=r'.length
  have T:=tups_of I.hok hp r'
  refine sorted_two pl.isList T h64 fun pp h' D k a1 a2 a3 a4 a5=>?_
  have hln:its.length=nss.length:=T.length
  have e:=sort_perm (nss:=nss) (p:=pp) (by rw [<- hln]; exact a1) (fun i g1 g2=>a2 i g1 (by omega))
  have hpl:pp.length=its.length:=by rw [a1.length_eq,F0]
  have hv:Vals (pp.map fun i=>vs.getD i .non) (pp.map fun i=>its.getD i Value.none):=by
    have key:∀ l:List Nat,(∀ x∈l,x < vs.length)->Vals (l.map fun i=>vs.getD i .non) (l.map fun i=>its.getD i Value.none):=by
      intro l
      induction l with
      | nil=>intro _; exact .nil
      | cons x l ih=>
        intro hl
        have hx:=hl x (by simp)
        obtain ⟨u,hu,ru⟩:=r'.get (O1 hx)
        refine .cons ?_ (ih fun y hy=>hl y (O8 _ hy))
        show RelV (vs.getD x V.non) (its.getD x Value.none)
        rw [D7,O1 hx,D7,hu]
        exact ru
    exact key pp fun x hx=>by have:=a1.mem_iff.mp hx; rw [hlen]; simpa using this
  exact ⟨.ref D,_,I.laid (t':=s.toks) (o:=.lst (pp.map fun i=>vs.getD i .non)) a5 a3 ⟨by rw [O2]; omega,_,k,hv,a4⟩,rfl,q D pp (I.hok.fresh a3) (by rw [hlen]; exact a1) e⟩
end L2
namespace L2
open PySem PySem.Spec PyProof.Rows
section
variable {X:Cx}
end
end L2
namespace L2
open PySem PySem.Spec PyProof.Rows
def RawD (h:Heap) (a:Addr) (es:Array DictEntry) (ep:Nat):Prop:=∃ o,h.get? a=some o/\o.ExactDict/\o.data=.dict es ep
section
variable {prog:Program} {w:World} {A:Around} {E:Value->Shared->Prop} {s:Shared}
theorem RawD.typeIs {a:Addr} {es:Array DictEntry} {ep:Nat} (h:RawD s.heap a es ep):s.TypeIs (.ref a) "dict" := let ⟨o,e,x,_⟩:=h; ⟨o,e,x.1⟩
theorem RawD.obj {h:Heap} {a:Addr} {es:Array DictEntry} {ep:Nat} (x:RawD h a es ep):h.get? a=some { cls:=.type "dict",dict:=none,data:=.dict es ep,slots:=#[] }:=by
  obtain ⟨⟨c,dct,dat,sl⟩,ho,⟨h1,h2,h3⟩,h4⟩:=x
  simp only at h1 h2 h3 h4
  subst h1 h2 h3 h4
  exact ho
theorem raw_iter {d:Addr} {es:Array DictEntry} {ep:Nat} {Q:Value->Shared->Prop} (hd:(d == sysModules)=false) (hm:RawD s.heap d es ep)
    (hQ:Q (.ref s.heap.objs.size) { s with heap:=s.heap.push { cls:=.type "dict_keyiterator",data:=.fields #[.ref d,.int 0 0,.int es.size 0,.int ep 0] } }) :
    wpAny (model prog w) A (pyIter (.ref d)) Q E s:=by
  have hT:=hm.typeIs
  have ho:=hm.obj
  obtain ⟨hp,g,dr,tk,os⟩:=s
  refine wpAny_pyIter_slot hT PySem.F.slot_dict_iter (wpAny_call_entry PySem.F.slot_dict_iter hT PySem.F.entry_dict_iter ?_ (PySem.F.args_dict_iter_1 _))
  unfold Builtin.«dict.__iter__» Builtin.Dict.dictSlotNone
  repeat (any_goals (first | assumption | wp_step))
  refine ⟨_,rfl, "dict_keyiterator",_,⟨_,O7 _ rfl,rfl⟩,PySem.F.slot_dict_keyiterator_next.lookup,hQ⟩
theorem key_owns:Builtin.Dict_items.ownsTuple ((Manifest.find? "dict_keyiterator").elim "dict_keyiterator" fun x=>x.tpName)=false:=by decide +kernel
theorem raw_item {it d:Addr} {i ep:Nat} {es:Array DictEntry} {e:DictEntry} {Q:Option Value->Shared->Prop} (hit:s.heap.IsKeyIter it d i es.size ep) (hm:RawD s.heap d es ep) (hx:es[i]?=some e)
    (hQ:∀ h',h'.IsKeyIter it d (i + 1) es.size ep->Heap.SameBut it s.heap h'->Q (some e.key) { s with heap:=h' }) :
    wpAny (model prog w) A (pyNext (.ref it)) Q E s:=by
  have hT:=hit.typeIs
  have ho:=hm.obj
  obtain ⟨⟨c,dct,dat,sl⟩,hoi,hci,hdi⟩:=hit
  simp only at hci hdi
  subst hci hdi
  obtain ⟨hp,g,dr,tk,os⟩:=s
  unfold pyNext
  refine wpAny_bind (wpAny_attempt (wpAny_callSpecial?_slot (name:=Str.ofString "__next__") hT PySem.F.slot_dict_keyiterator_next (wpAny_call_entry PySem.F.slot_dict_keyiterator_next hT PySem.F.entry_dict_keyiterator_next ?_ (PySem.F.args_dict_keyiterator_next_1 _))))
  repeat (any_goals (first | assumption | wp_step))
  simp only [key_owns,F3,if_false]
  simp only [show ¬ ((i:Int) < 0) by omega,if_false,Int.toNat_natCast,hx]
  repeat (any_goals (first | assumption | wp_step))
  simp only [key_owns,F3,if_false]
  rw [if_neg (show ¬ ((_:Bool)=true) by decide +kernel)]
  refine ⟨_,rfl,wpAny_pure (hQ _ ⟨_,L4 _ hoi rfl,rfl,?_⟩ (Heap.SameBut.update ..))⟩
  simp [Obj.mapFields,rawInt]
theorem raw_end {it d:Addr} {i ep:Nat} {es:Array DictEntry} {Q:Option Value->Shared->Prop} (hh:A.handled=none) (hit:s.heap.IsKeyIter it d i es.size ep) (hm:RawD s.heap d es ep) (hx:es[i]?=none)
    (hQ:∀ h',Heap.ExtBut it s.heap h'->Q none { s with heap:=h' }) :
    wpAny (model prog w) A (pyNext (.ref it)) Q E s:=by
  have hT:=hit.typeIs
  have ho:=hm.obj
  obtain ⟨⟨c,dct,dat,sl⟩,hoi,hci,hdi⟩:=hit
  simp only at hci hdi
  subst hci hdi
  obtain ⟨hp,g,dr,tk,os⟩:=s
  unfold pyNext
  refine wpAny_bind (wpAny_attempt (wpAny_callSpecial?_slot (name:=Str.ofString "__next__") hT PySem.F.slot_dict_keyiterator_next (wpAny_call_entry PySem.F.slot_dict_keyiterator_next hT PySem.F.entry_dict_keyiterator_next ?_ (PySem.F.args_dict_keyiterator_next_1 _))))
  repeat (any_goals (first | assumption | wp_step))
  simp only [key_owns,F3,if_false]
  simp only [show ¬ ((i:Int) < 0) by omega,if_false,Int.toNat_natCast,hx]
  have hsub:=isSubtype_stop
  repeat (any_goals (first | assumption | wp_step))
  unfold raiseNew
  refine wpAny_bind (wpAny_handled ?_)
  rw [show A.in1.handled=none from hh]
  refine wpAny_bind (wpAny_pure (wpAny_throw ?_))
  refine wpAny_bind (wpAny_isInstance (T := "StopIteration") (b:=true) ⟨_,O7 _ rfl,rfl⟩ isSubtype_stop ?_)
  exact wpAny_pure (hQ _ (((Heap.SameBut.update ..).extBut.push _).push _))
theorem RawD.at {h h':Heap} {a:Addr} {es:Array DictEntry} {ep:Nat} (x:RawD h a es ep) (k:∀ o,h.get? a=some o->h'.get? a=some o):RawD h' a es ep:=let ⟨o,e,r⟩:=x; ⟨o,k o e,r⟩
theorem RawD.lt {h:Heap} {a:Addr} {es:Array DictEntry} {ep:Nat} (x:RawD h a es ep):a < h.objs.size:=let ⟨_,e,_⟩:=x; O6 e
theorem walks_raw (hh:A.handled=none) (I d:Addr) (hne:d≠I) (es:Array DictEntry) (ep:Nat) :
    Walks prog w A I [I,d] [I] es.size (fun i v=>∃ e,es[i]?=some e/\v=e.key) (fun i h=>h.IsKeyIter I d i es.size ep/\RawD h d es ep) where
  sub:=fun b hb=>by simp at hb; simp [hb]
  frame:=fun _ _ _ st hk=>⟨st.1.at fun o e=>hk I (by simp) o e,st.2.at fun o e=>hk d (by simp) o e⟩
  item:=fun i s Q E hi st hQ=>by
    refine raw_item st.1 st.2 (Array.getElem?_eq_getElem hi) fun h' hit' hs'=>?_
    exact hQ _ h' s.toks ⟨_,Array.getElem?_eq_getElem hi,rfl⟩ ⟨hit',st.2.at fun o e=>(hs'.2 d hne).trans e⟩ fun b o hb e=>hs'.extBut b o (fun h=>hb (by simp [h])) e
  done:=fun s Q E st hQ=>raw_end hh st.1 st.2 (by simp) fun h' he'=>hQ h' s.toks fun b o hb e=>he' b o (fun h=>hb (by simp [h])) e
  self:=fun _ _ _ _ st hQ=>wpAny_pyIter_keyiter st.1 hQ
theorem src_raw {d:Addr} {es:Array DictEntry} {ep:Nat} (lo:(d == sysModules)=false):PySem.W.KdlSrc prog w "dict" d d es.size (fun i v=>∃ e,es[i]?=some e/\v=e.key) (fun h=>RawD h d es ep) where
  type:=fun _ hm=>hm.typeIs
  there:=fun _ hm=>⟨hm.lt,hm.lt⟩
  keep:=fun _ _ hm hk=>hm.at fun o e=>hk d (.inl rfl) o e
  notList:=by decide
  notTuple:=by decide
  hint:=fun _ _ _ _ hm hq=>PySem.W.kdl_hint_dict hm.typeIs hq
  iter:=fun _ _ hh hm=>⟨_,_,(fun _ _ hq=>raw_iter lo hm hq),walks_raw hh _ d (O9 hm.lt) es ep,⟨⟨_,O7 _ rfl,rfl,rfl⟩,hm.at fun o e=>O0 _ e⟩⟩
theorem collect_raw {d:Addr} {es:Array DictEntry} {ep:Nat} {Q:List Value->Shared->Prop} (lo:(d == sysModules)=false) (hh:A.handled=none) (hm:RawD s.heap d es ep) (hn:es.size<=sizeLine)
    (h:∀ h' tk,(∀ b o,s.heap.get? b=some o->h'.get? b=some o)->s.heap.objs.size<=h'.objs.size->Q (es.toList.map (·.key)) { s with heap:=h',toks:=tk }):wpAny (model prog w) A (collect (.ref d)) Q E s:=by
  unfold collect
  refine wpAny_bind (wpAny_runValue (codeAny_builtin PySem.F.entry_proto_collect ?_))
  rw [Around.under_plainId PySem.F.plain_proto_collect _]
  show wpAny _ A.in1 (newList [] >>= fun l=>again (.builtin "list.__iadd__" ⟨[l,.ref d],[]⟩)) _ _ s
  refine wpAny_bind (wpAny_newObj_type ?_)
  refine wpAny_pure ⟨plainId_quiet PySem.F.plain_list_iadd _,codeAny_builtin PySem.F.entry_list_iadd ?_⟩
  rw [Around.under_plainId PySem.F.plain_list_iadd _]
  have hS:(s.heap.push { cls:=.type "list",data:=.seq ([]:List Value).toArray }).get? s.heap.objs.size=some { cls:=.type "list",data:=.seq ([]:List Value).toArray }:=O7 _ rfl
  have hk0:∀ b o,s.heap.get? b=some o->(s.heap.push { cls:=.type "list",data:=.seq ([]:List Value).toArray }).get? b=some o:=fun b o e=>O0 _ e
  have hne:s.heap.objs.size≠d:=Nat.ne_of_gt hm.lt
  show wpAny _ A.in1 (Builtin.List.listExtendWith (.ref s.heap.objs.size) (.ref d) (.ref s.heap.objs.size)) _ _ _
  refine PySem.W.kdl_extend (prog:=prog) (w:=w) (A:=A) (R:=fun r s'=>match r with | .ok (.ret v)=>wpAny (model prog w) A (match v with | .ref a=>do { let o <- load a; match o.data with | .seq xs _=>pure xs.toList | _=>unsupported "internal:collect" } | _=>unsupported "internal:collect") Q E s' | .ok _=>False | .error e=>E e s') (s:={ s with heap:=s.heap.push { cls:=.type "list",data:=.seq ([]:List Value).toArray } }) (src_raw (es:=es) (ep:=ep) lo) hh (hm.at fun o e=>hk0 d o e) s.heap.objs.size hne hne _ _ hS (fun h' tk acc c hk hS' hacc=>?_) hn
  show wpAny _ A (load s.heap.objs.size >>= _) _ _ _
  refine wpAny_bind (wpAny_load hS' ?_)
  have e:acc.toList=es.toList.map (·.key):=by
    apply List.ext_getElem?
    intro i
    by_cases z:i < es.size
    · have hi:i < acc.size:=by rw [hacc.1]; exact z
      obtain ⟨e,h1,h2⟩:=hacc.2 i acc[i] (Array.getElem?_eq_getElem hi)
      rw [Array.getElem?_toList,Array.getElem?_eq_getElem hi,h2,E1,Array.getElem?_toList,h1]; rfl
    · rw [Array.getElem?_toList,Array.getElem?_eq_none (by rw [hacc.1]; omega),E1,Array.getElem?_toList,Array.getElem?_eq_none (by omega)]; rfl
  show wpAny _ _ (pure acc.toList) _ _ _
  rw [e]
  exact wpAny_pure (h h' tk (fun b o q=>hk b o (O9 (O6 q)) (hk0 b o q)) (L5 (O6 hS')))
end
end L2
namespace L2
open PySem PySem.Spec PyProof.Rows PySem.W
section
variable {prog:Program} {w:World} {A:Around} {E:Value->Shared->Prop} {s:Shared}
theorem sorted_raw {d:Addr} {es:Array DictEntry} {ep:Nat} {nss:List (List Int)} {Q:Value->Shared->Prop} (lo:(d == sysModules)=false) (hh:A.handled=none) (hm:RawD s.heap d es ep) (hT:TupsAre s.heap (es.toList.map (·.key)) nss) (h64:(es.toList.map (·.key)).length < 64)
    (h:∀ (p:List Nat) (h':Heap) (D k tk:Nat),p.Perm (List.range (es.toList.map (·.key)).length)->(∀ i,1<=i->i < (es.toList.map (·.key)).length->Jf (nss.getD (p.getD i 0) []) (nss.getD (p.getD (i - 1) 0) [])=false)->s.heap.objs.size<=D->h'.get? D=some (seqObj "list" (List.toArray (p.map fun i=>(es.toList.map (·.key)).getD i Value.none)) k)->(∀ b o,s.heap.get? b=some o->h'.get? b=some o)->Q (.ref D) { s with heap:=h',toks:=tk }) :
    wpAny (model prog w) A (call (.builtin "sorted") [.ref d]) Q E s:=by
  have hsz:es.size<=sizeLine:=by
    have:(es.toList.map (·.key)).length=es.size:=by simp
    rw [sizeLine_eq]; omega
  refine Calls.call_function_entry kind_sorted plain_sorted entry_sorted (args_sorted1 _) ?_
  unfold Builtin.«sorted»
  refine wpAny_bind (m:=checkCount "sorted" 1 1 _) (wpAny_pure ?_)
  refine wpAny_bind (collect_raw lo (by simpa using hh) hm hsz fun h1 tk1 keep1 hle=>?_)
  refine wpAny_bind (wpAny_newList ?_ (by rw [sizeLine_eq]; omega))
  generalize es.toList.map (·.key)=vs at *
  have hoL:(h1.push (seqObj "list" vs.toArray 0)).get? h1.objs.size=some (seqObj "list" vs.toArray 0):=O7 _ rfl
  have keep:∀ b o,s.heap.get? b=some o->(h1.push (seqObj "list" vs.toArray 0)).get? b=some o:=fun b o q=>O0 _ (keep1 b o q)
  show wpAny _ _ _ _ _ { s with heap:=h1.push (seqObj "list" vs.toArray 0),toks:=tk1 }
  refine wpAny_bind (wpAny_holding (wpAny_call_entry slot_list_sort ⟨_,hoL,rfl⟩ entry_list_sort ?body (args_list_sort _)))
  case body=>
    refine sort_tups (s:={ s with heap:=h1.push (seqObj "list" vs.toArray 0),toks:=tk1 }) hoL (hT.keep keep) h64 fun p h' k a1 a2 a3 a4=>?_
    exact ⟨_,rfl,wpAny_pure ⟨_,rfl,h p h' _ k tk1 a1 a2 hle a3 fun b o e=>a4 b o (O9 (O6 (keep1 b o e))) (keep b o e)⟩⟩
theorem call_len_raw {d:Addr} {es:Array DictEntry} {ep:Nat} {Q:Value->Shared->Prop} (lo:(d == sysModules)=false) (hm:RawD s.heap d es ep) (hfit:es.size < 1000000) (h:∀ t tk,Q (.int es.size t) { s with toks:=tk }):wpAny (model prog w) A (call (.builtin "len") [.ref d]) Q E s:=by
  have hT:=hm.typeIs
  have ho:=hm.obj
  have hb:((es.size:Int) < 2 ^ 63):=by omega
  obtain ⟨hp,g,dr,tk,os⟩:=s
  refine Calls.call_function_entry kind_len plain_len entry_len (args_len1 _) ?_
  unfold Builtin.«len»
  have f1:=PySem.F.slot_dict_len.lookup
  have f2:=PySem.F.slot_dict_len.bind (.ref d)
  repeat (any_goals (first | assumption | ((with_reducible show wpAny _ _ (call (Value.builtin "dict.__len__") _ _) _ _ _); refine wpAny_call_entry PySem.F.slot_dict_len hT PySem.F.entry_dict_len ?_ (PySem.F.args_dict_len_1 _)) | wp_step))
  refine ⟨_,rfl,?_⟩
  have e0:((es.size:Int) + ((0:Nat):Int))=(es.size:Int):=by omega
  rw [e0]
  have n1:¬ ((es.size:Int)>=2 ^ 63):=by omega
  have n2:¬ ((es.size:Int) < 0):=by omega
  repeat (any_goals (first | assumption | wp_step))
  rw [if_neg n1]
  repeat (any_goals (first | assumption | wp_step))
  exact ⟨_,rfl,h _ _⟩
end
theorem dt_raw {P:Program} {w:World} {H:Hp} {h:Heap} {a:Addr} {kvs:List (List Key × V)} (ok:HOk P w H h) (e:H a=some (.dT kvs)):kvs.length<=sizeLine/\(a == sysModules)=false/\∃ es ep as,RawD h a es ep/\es.toList.map (·.key)=as.map Value.ref/\Paired (fun (p:List Key × V) (b:Addr)=>H b=some (.tup (p.1.map kV))) kvs as:=by
  obtain ⟨z,hs,xs,rel,o,es,ep,ho,hx,hd,he,hn⟩:=ok a _ e
  refine ⟨z,hs,es,ep,xs.map (fun q=>q.2.1),⟨o,ho,hx,hd⟩,?_,?_⟩
  · rw [he,L8,L8]
    exact List.map_congr_left fun q _=>rfl
  · clear he hn z e
    induction rel with
    | nil=>exact .nil
    | cons hr _ ih=>exact .cons hr.2.1 ih
theorem tups_keys {P:Program} {w:World} {H:Hp} {h:Heap} (ok:HOk P w H h):∀ {kvs:List (List Key × V)} {as:List Addr} {nss:List (List Int)},Paired (fun (p:List Key × V) (b:Addr)=>H b=some (.tup (p.1.map kV))) kvs as->Paired (fun (p:List Key × V) (ns:List Int)=>ns≠[]/\p.1=ns.map Sum.inl) kvs nss->TupsAre h (as.map Value.ref) nss
  | [],_,_,.nil,.nil=>.nil
  | p :: kvs,a :: as,[] :: nss,.cons ha t,.cons hn u=>absurd rfl hn.1
  | p :: kvs,a :: as,(x :: ns) :: nss,.cons ha t,.cons hn u=>by
    have r:=tups_keys ok t u
    obtain ⟨_,jts,rj,o,ho,hc,n,hd⟩:=ok a _ ha
    have e:(p.1.map kV)=(x :: ns).map V.int:=by rw [hn.2,L8]; rfl
    rw [e] at rj
    exact .cons ho hc hd (by simpa using intsAre_of rj) r
section
variable {X:Cx}
theorem call_sortedDT (hcm:X.calm=true):CallR X (.builtin "sorted") (fun xs H Q=>∃ a,∃ kvs:List (List Key × V),∃ nss:List (List Int),xs=[.ref a]/\H a=some (.dT kvs)/\kvs.length < 64/\Paired (fun (p:List Key × V) (ns:List Int)=>ns≠[]/\p.1=ns.map Sum.inl) kvs nss /\
    ∀ d (pp:List Nat) (vs:List V),H d=none->Paired (fun (v:V) (ns:List Int)=>∃ b,v=.ref b/\H b=some (.tup (ns.map V.int))) vs nss->pp.Perm (List.range nss.length)->pp.map (fun i=>nss.getD i [])=Qi nss->Q (.ref d) (upd H d (.lst (pp.map fun i=>vs.getD i .non)))):=by
  intro pins s σ H xs us Q I r h
  obtain ⟨a,kvs,nss,rfl,ea,h64,hp,q⟩:=h
  obtain ⟨u,rfl,rx⟩:=vals1 r
  cases rx
  obtain ⟨z,hs,es,ep,as,hr,hk,hpa⟩:=dt_raw I.hok ea
  have T:=tups_keys I.hok hpa hp
  have l1:kvs.length=as.length:=Paired.length hpa
  have l2:kvs.length=nss.length:=Paired.length hp
  have hvs:Paired (fun (v:V) (ns:List Int)=>∃ b,v=.ref b/\H b=some (.tup (ns.map V.int))) (as.map V.ref) nss:=by
    clear q T l1 l2 hk h64 ea r z
    induction hpa generalizing nss with
    | nil=>cases hp; exact .nil
    | cons ha _ ih=>
      cases hp with
      | cons hn hp'=>
        refine .cons ⟨_,rfl,?_⟩ (ih _ hp')
        rw [ha,hn.2,L8]; rfl
  refine sorted_raw hs (I.ok.hd hcm) hr (by rw [hk]; exact T) (by rw [hk,O2]; omega) fun pp h' D k tk a1 a2 a3 a4 a5=>?_
  rw [hk] at a1 a2 a4
  rw [O2] at a1 a2
  have e:=sort_perm (nss:=nss) (p:=pp) (by rw [<- l2,l1]; exact a1) (fun i g1 g2=>a2 i g1 (by omega))
  have hpl:pp.length=as.length:=by rw [a1.length_eq,F0]
  have hv:Vals (pp.map fun i=>(as.map V.ref).getD i .non) (pp.map fun i=>(as.map Value.ref).getD i Value.none):=by
    have key:∀ l:List Nat,(∀ x∈l,x < as.length)->Vals (l.map fun i=>(as.map V.ref).getD i .non) (l.map fun i=>(as.map Value.ref).getD i Value.none):=by
      intro l
      induction l with
      | nil=>intro _; exact .nil
      | cons x l ih=>
        intro hl
        have hx:=hl x (by simp)
        refine .cons ?_ (ih fun y hy=>hl y (O8 _ hy))
        show RelV ((as.map V.ref).getD x .non) ((as.map Value.ref).getD x Value.none)
        rw [D7,E1,O1 hx,D7,E1,O1 hx]
        rfl
    exact key pp fun x hx=>by have:=a1.mem_iff.mp hx; simpa using this
  exact ⟨.ref D,_,I.laid (t':=tk) (o:=.lst (pp.map fun i=>(as.map V.ref).getD i .non)) a5 a3 ⟨by rw [O2]; rw [sizeLine_eq] at *; omega,_,k,hv,a4⟩,rfl,q D pp _ (I.hok.fresh a3) hvs (by rw [<- l2,l1]; exact a1) e⟩
theorem call_lenDT:CallR X (.builtin "len") (fun xs H Q=>∃ a,∃ kvs:List (List Key × V),xs=[.ref a]/\H a=some (.dT kvs)/\kvs.length < 1000000/\Q (.int kvs.length) H):=by
  intro pins s σ H xs us Q I r h
  obtain ⟨a,kvs,rfl,ea,hl,q⟩:=h
  obtain ⟨u,rfl,rx⟩:=vals1 r
  cases rx
  obtain ⟨z,hs,es,ep,as,hr,hk,hpa⟩:=dt_raw I.hok ea
  have l1:kvs.length=as.length:=Paired.length hpa
  have l2:es.size=kvs.length:=by
    have:=congrArg List.length hk
    simp at this
    omega
  refine call_len_raw hs hr (by omega) fun t tk=>?_
  exact ⟨.int kvs.length,H,I.tok _,⟨t,by rw [l2]⟩,q⟩
end
end L2
namespace L2
open PySem PySem.Spec PyProof.Rows
def tDispT (tk tv:TE):TE:=fun σ H Q=>∀ p,H p=none->tPairs [(tk,tv)] σ (upd H p (.dT [])) fun ps H2=>∃ (ks:List Key) (b:Addr) (y:V),ps=[(.ref b,y)]/\H2 b=some (.tup (ks.map kV))/\H2 p=some (.dT [])/\Q (.ref p) (upd H2 p (.dT [(ks,y)]))
theorem pe_disp1T {X:Cx} {pos:Pos} {k v:Expr} {tk tv:TE} (hu:X.A.units < cLine) (hk:PE X k tk) (hv:PE X v tv):PE X (.Dict [some k] [v] pos) (tDispT tk tv):=by
  intro pins s σ H Q I q
  have hn:=I.hok.fresh (O4 s.heap.objs.size)
  have I1:=I.laid (a:=s.heap.objs.size) (o:=.dT []) (h':=s.heap.push { cls:=.type "dict",data:=.dict #[] }) (t':=s.toks) (fun _ _ q=>O0 _ q) (O4 _) (dt_empty s.heap I.big)
  rw [arm_eval_Dict,zip_pairTrees [some k] [v] X.env pos rfl rfl,dictDisplay_pairs _ (by simp [pairTrees]) (by simp [pairTrees])]
  refine wpAny_bind (wpAny_standAt (wpAny_bind ?_))
  unfold subDict
  refine wpAny_bind (wpAny_alloc (wpAny_bind (wpAny_holding ?_)))
  rw [if_pos (by simp [pairTrees])]
  refine wpAny_bind (thn ((pps_cons hk hv pps_nil) pins _ σ _ _ I1 (q _ hn)) fun ws s2 ⟨ps,H2,I2,rel,ks,b,y,ep,eb,e,q2⟩=>?_)
  subst ep
  obtain ⟨⟨u,r⟩,rfl,r1,r2⟩:∃ p:Value × Value,ws=[p]/\RelV (.ref b) p.1/\RelV y p.2:=by
    cases rel with
    | @cons a c as bs h t=>
      cases t
      exact ⟨_,rfl,h.1,h.2⟩
  cases (show u=Value.ref b from r1)
  obtain ⟨z,hd,xs,rel,dd⟩:=dt_of I2.hok e
  cases rel
  refine wpAny_holding ?_
  refine wpAny_bind ?_
  rw [List.forIn_cons]
  refine wpAny_bind (wpAny_bind (wpAny_dictSet_heap (hsz:=by simp) (knd:=tupleKind (mixKind X.prog X.w)) hu (key_of I2.hok eb) dd fun h' dd' hs=>wpAny_pure ?_))
  dsimp only
  rw [List.forIn_nil]
  refine wpAny_pure (wpAny_pure (wpAny_pure (wpAny_pure ⟨.ref s.heap.objs.size,_,?_,rfl,q2⟩)))
  obtain ⟨o,es,ep,hq,h2,h3,h4,_,h5⟩:=dd'
  refine d_write I2 (by rw [e]; exact True.intro) hs ⟨o,hq⟩ ⟨by simp [sizeLine_eq],hd,[(ks,b,r)],.cons ⟨rfl,?_,r2⟩ .nil,o,es,ep,hq,h2,h3,by simpa [storedH,atKey] using h4,by simp⟩
  rw [Q7 (ne_of eb e (fun z=>nomatch z))]
  exact eb
end L2
namespace L2
open PySem PySem.Spec PyProof.Rows
end L2
namespace L2
open PySem PySem.Spec PyProof.Rows
def Rise (xs:Array Nat):Prop:=xs.toList.Pairwise (· < ·)
theorem Rise.lt {xs:Array Nat} (r:Rise xs) {i j a b:Nat} (hi:xs[i]?=some a) (hj:xs[j]?=some b) (h:i < j):a < b:=by
  have q:=F5.mp r
  obtain ⟨hi',ei⟩:=Array.getElem?_eq_some_iff.mp hi
  obtain ⟨hj',ej⟩:=Array.getElem?_eq_some_iff.mp hj
  have:=q i j (by simpa using hi') (by simpa using hj') h
  simp only [Array.getElem_toList] at this
  rw [<- ei,<- ej]; exact this
theorem below_go {xs:Array Nat} {j:Nat} (r:Rise xs):∀ fuel lo hi,hi - lo<=fuel->lo<=hi->hi<=xs.size->(∀ i v,xs[i]?=some v->i < lo->v < j)->(∀ i v,xs[i]?=some v->hi<=i->j<=v) ->
    SetTable.below.go xs j fuel lo hi<=xs.size/\∀ i v,xs[i]?=some v->(i < SetTable.below.go xs j fuel lo hi <-> v < j):=by
  intro fuel
  induction fuel with
  | zero=>
    intro lo hi h1 h2 h3 a b
    have e:lo=hi:=by omega
    rw [SetTable.below.go]
    refine ⟨by omega,fun i v hv=>⟨a i v hv,fun h=>?_⟩⟩
    by_cases z:i < lo
    · exact z
    · have:=b i v hv (by omega); omega
  | succ fuel ih=>
    intro lo hi h1 h2 h3 a b
    rw [SetTable.below.go]
    by_cases z:lo < hi
    · rw [if_pos z]
      dsimp only
      have hm:(lo + hi) / 2 < xs.size:=by omega
      have em:xs[(lo + hi) / 2]?=some xs[(lo + hi) / 2]:=Array.getElem?_eq_getElem hm
      have ed:xs.getD ((lo + hi) / 2) j=xs[(lo + hi) / 2]:=by simp [Array.getD,hm]
      rw [ed]
      by_cases y:xs[(lo + hi) / 2] < j
      · rw [if_pos y]
        refine ih _ _ (by omega) (by omega) h3 (fun i v hv hi'=>?_) b
        by_cases q:i=(lo + hi) / 2
        · subst q; rw [em] at hv; cases hv; exact y
        · have:=r.lt hv em (by omega); omega
      · rw [if_neg y]
        refine ih _ _ (by omega) (by omega) (by omega) a fun i v hv hi'=>?_
        by_cases q:i=(lo + hi) / 2
        · subst q; rw [em] at hv; cases hv; omega
        · have:=r.lt em hv (by omega); omega
    · rw [if_neg z]
      refine ⟨by omega,fun i v hv=>⟨a i v hv,fun h=>?_⟩⟩
      by_cases q:i < lo
      · exact q
      · have:=b i v hv (by omega); omega
theorem below_is {xs:Array Nat} {j:Nat} (r:Rise xs):SetTable.below xs j<=xs.size/\∀ i v,xs[i]?=some v->(i < SetTable.below xs j <-> v < j):=
  below_go r _ _ _ (by omega) (G8 _) (O4 _) (fun i v _ h=>absurd h (Nat.not_lt_zero _)) fun i v hv h=>by
    have:=(Array.getElem?_eq_some_iff.mp hv).1; omega
def Good (L:Bool) (t:SetTable):Prop:=Rise t.place/\t.dummies=#[]/\t.led=L
theorem rise_range (n:Nat):Rise (Array.range n):=by
  unfold Rise
  rw [Array.toList_range]
  exact List.pairwise_lt_range
theorem Good.standIn {L:Bool} {t:SetTable} (g:Good L t) (n:Nat):Good L (t.standIn n):=⟨rise_range n,rfl,g.2.2⟩
theorem Good.orStandIn {L:Bool} {t:SetTable} (g:Good L t) (n:Nat):Good L (t.orStandIn n):=by
  unfold SetTable.orStandIn
  split
  · exact g
  · exact g.standIn n
theorem Good.unplain {L:Bool} {t:SetTable} (g:Good L t):Good L { t with plain:=false }:=g
theorem rise_insert {xs:Array Nat} {j:Nat} (r:Rise xs) (h:j∉xs.toList):Rise (SetTable.insertAt xs (SetTable.below xs j) j):=by
  obtain ⟨_,b⟩:=below_is (j:=j) r
  unfold Rise
  rw [SetTable.toList_insertAt]
  have lo:∀ v∈xs.toList.take (SetTable.below xs j),v < j:=fun v hv=>by
    obtain ⟨i,hi,e⟩:=List.getElem_of_mem hv
    rw [List.length_take] at hi
    refine (b i v ?_).mp (by omega)
    rw [<- Array.getElem?_toList,<- e,List.getElem_take,O1]
  have hi:∀ v∈xs.toList.drop (SetTable.below xs j),j < v:=fun v hv=>by
    obtain ⟨i,hi,e⟩:=List.getElem_of_mem hv
    rw [List.length_drop] at hi
    have hv':xs[SetTable.below xs j + i]?=some v:=by
      rw [<- Array.getElem?_toList,<- e,List.getElem_drop,O1]
    have q:¬ v < j:=fun z=>by have:=(b _ v hv').mpr z; omega
    have ne:v≠j:=fun z=>h (by rw [<- z]; exact List.mem_of_mem_drop hv)
    omega
  refine D9.mpr ⟨List.Pairwise.sublist (List.take_sublist _ _) r,F1.mpr ⟨hi,List.Pairwise.sublist (List.drop_sublist _ _) r⟩,fun x hx y hy=>?_⟩
  rcases D1.mp hy with rfl | hy
  · exact lo x hx
  · exact Nat.lt_trans (lo x hx) (hi y hy)
theorem slot_empty {t:SetTable} {j:Nat} (r:Rise t.place) (h:t.slot j=.empty):j∉t.place.toList:=fun hm=>by
  obtain ⟨b0,b⟩:=below_is (j:=j) r
  obtain ⟨i,hi,e⟩:=List.getElem_of_mem hm
  have hv:t.place[i]?=some j:=by rw [<- Array.getElem?_toList,<- e,O1]
  have n1:¬ i < SetTable.below t.place j:=fun z=>by have:=(b i j hv).mp z; omega
  unfold SetTable.slot at h
  dsimp only at h
  by_cases z:i=SetTable.below t.place j
  · rw [<- z,hv] at h
    simp at h
  · have hb:SetTable.below t.place j < t.place.size:=by
      have:=(Array.getElem?_eq_some_iff.mp hv).1; omega
    have l:=r.lt (Array.getElem?_eq_getElem hb) hv (by omega)
    have:=(b _ _ (Array.getElem?_eq_getElem hb)).mpr l
    omega
theorem no_dummy {t:SetTable} {j:Nat} (h:t.dummies=#[]):t.slot j≠.dummy:=by
  unfold SetTable.slot SetTable.has
  dsimp only
  rw [h]
  split
  · exact fun z=>nomatch z
  · simp
theorem probe_go {t:SetTable} {h:Int} (hd:t.dummies=#[]):∀ fuel (p:SetTable.Probe) m,p.dummy=none->SetTable.probe.go t (fun _=>h + 1) h fuel p=some m->∃ j,m=.empty j none/\t.slot j=.empty:=by
  intro fuel
  induction fuel with
  | zero=>intro p m _ e; rw [SetTable.probe.go] at e; cases e
  | succ fuel ih=>
    intro p m hp e
    rw [SetTable.probe.go] at e
    have adv:∀ q:SetTable.Probe,q.dummy=none->(t.advance q).dummy=none:=fun q hq=>by
      unfold SetTable.advance
      split
      · exact hq
      · exact hq
    cases z:t.slot p.j with
    | empty=>rw [z] at e; cases e; exact ⟨p.j,by rw [hp],z⟩
    | dummy=>exact absurd z (no_dummy hd)
    | live i=>
      rw [z] at e
      have ne:¬ ((h + 1 == h)=true):=by simp; omega
      dsimp only at e
      rw [if_neg ne] at e
      exact ih _ m (adv p hp) e
theorem freeSlot_is {L:Bool} {t:SetTable} {h:Int} (g:Good L t) {j:Nat} {b:Bool} (e:t.freeSlot h=some (j,b)):j∉t.place.toList/\b=false:=by
  unfold SetTable.freeSlot at e
  cases z:t.probe (fun _=>h + 1) h (t.probeStart h) with
  | none=>rw [z] at e; cases e
  | some m=>
    obtain ⟨i,rfl,hs⟩:=probe_go g.2.1 _ _ m rfl z
    rw [z] at e
    cases e
    exact ⟨slot_empty g.1 hs,rfl⟩
theorem Good.put {L:Bool} {t:SetTable} (g:Good L t) {j:Nat} (h:j∉t.place.toList):Good L (t.put j).1:=by
  unfold SetTable.put
  refine ⟨rise_insert g.1 h,?_,g.2.2⟩
  show (if SetTable.has t.dummies j=true then _ else t.dummies)=#[]
  have:SetTable.has t.dummies j=false:=by unfold SetTable.has; rw [g.2.1]; simp
  rw [this,if_neg (by simp)]
  exact g.2.1
theorem Good.layNew {L:Bool} {t:SetTable} (g:Good L t) (es:Array (Int × Value)) (h:Int) (x:Value):Good L (layNew t es h x).2.1:=by
  unfold PySem.layNew
  cases z:t.freeSlot h with
  | none=>exact g.standIn _
  | some q=>
    obtain ⟨j,b⟩:=q
    exact (g.put (freeSlot_is g z).1).orStandIn _
theorem Good.relaid {L:Bool} {t t':SetTable} (g:Good L t) {hs:Array Int} {n:Nat} {o:Array Nat} (e:t.relaid hs n=some (t',o)):Good L t':=by
  unfold SetTable.relaid SetTable.laid at e
  cases z:SetTable.layClean (SetTable.sizeAbove n - 1) hs with
  | none=>rw [z] at e; cases e
  | some ow=>
    rw [z] at e
    cases e
    refine ⟨?_,rfl,g.2.2⟩
    show List.Pairwise (· < ·) (List.map _ _)
    rw [List.pairwise_map]
    have key:∀ l:List Nat,l.Pairwise (· < ·)->(l.filterMap fun j=>(ow.getD j none).map (j,·)).Pairwise fun a b=>a.1 < b.1:=by
      intro l
      induction l with
      | nil=>intro _; exact .nil
      | cons x l ih=>
        intro h
        obtain ⟨h1,h2⟩:=F1.mp h
        rw [List.filterMap_cons]
        cases ow.getD x none with
        | none=>exact ih h2
        | some k=>
          refine F1.mpr ⟨fun b hb=>?_,ih h2⟩
          obtain ⟨y,hy,ey⟩:=List.mem_filterMap.mp hb
          cases q:ow.getD y none with
          | none=>rw [q] at ey; cases ey
          | some k'=>rw [q] at ey; cases ey; exact h1 y hy
    exact key _ List.pairwise_lt_range
theorem Good.relayAll {L:Bool} {t:SetTable} (g:Good L t) (es:Array (Int × Value)) (n:Nat):Good L (relayAll t es n).2.1:=by
  unfold PySem.relayAll
  cases z:t.relaid (es.map (·.1)) n with
  | none=>exact g.standIn _
  | some q=>
    obtain ⟨t',o⟩:=q
    dsimp only
    split
    · exact g.relaid z
    · exact g.standIn _
theorem cons_erase {α:Type}:∀ {l:List α} {i:Nat} (h:i < l.length),([l[i]] ++ l.eraseIdx i).Perm l
  | [],_,h=>absurd h (Nat.not_lt_zero _)
  | a :: l,0,_=>List.Perm.refl _
  | a :: l,i + 1,h=>by
    have:=cons_erase (l:=l) (i:=i) (by simpa using h)
    rw [List.eraseIdx_cons_succ,List.getElem_cons_succ]
    exact (List.Perm.swap a _ _).trans (this.cons a)
theorem pick_go {α:Type} (next:Nat->Nat):∀ fuel k (left:List α) out,left.length=fuel->(pickOrder.go next fuel k left out).toList.Perm (out.toList ++ left):=by
  intro fuel
  induction fuel with
  | zero=>intro k left out h; rw [List.length_eq_zero_iff.mp h,pickOrder.go,List.append_nil]
  | succ fuel ih=>
    intro k left out h
    rw [pickOrder.go]
    have hlt:next k % left.length < left.length:=Nat.mod_lt _ (by omega)
    rw [O1 hlt]
    refine (ih (k + 1) _ _ (by rw [List.length_eraseIdx_of_lt hlt]; omega)).trans ?_
    rw [Array.toList_push,E9]
    refine List.Perm.append_left _ ?_
    exact cons_erase hlt
theorem pick_perm {α:Type} (next:Nat->Nat) (xs:Array α):(pickOrder next xs).toList.Perm xs.toList:=by
  have:=pick_go next xs.size 0 xs.toList #[] (by simp)
  simpa [pickOrder] using this
end L2
namespace L2
open PySem PySem.Spec PyProof.Rows
theorem paired_perm {α β:Type} {F:α->β->Prop} {l l':List α} (p:l'.Perm l):∀ {ks:List β},Paired F l ks->∃ ks',Paired F l' ks'/\ks'.Perm ks:=by
  induction p with
  | nil=>intro ks h; exact ⟨ks,h,List.Perm.refl _⟩
  | cons x _ ih=>
    intro ks h
    cases h with
    | cons r t=>
      obtain ⟨ks',h1,h2⟩:=ih t
      exact ⟨_,.cons r h1,h2.cons _⟩
  | swap x y l=>
    intro ks h
    cases h with
    | cons r t=>
      cases t with
      | cons r' t'=>exact ⟨_,.cons r' (.cons r t'),List.Perm.swap _ _ _⟩
  | trans _ _ ih1 ih2=>
    intro ks h
    obtain ⟨k1,h1,p1⟩:=ih2 h
    obtain ⟨k2,h2,p2⟩:=ih1 h1
    exact ⟨k2,h2,p2.trans p1⟩
theorem paired_snoc {α β:Type} {F:α->β->Prop} {a:α} {b:β} (r:F a b):∀ {l:List α} {ks:List β},Paired F l ks->Paired F (l ++ [a]) (ks ++ [b])
  | _,_,.nil=>.cons r .nil
  | _,_,.cons r' t=>.cons r' (paired_snoc r t)
theorem paired_mem {α β:Type} {F:α->β->Prop} {b:β}:∀ {l:List α} {ks:List β},Paired F l ks->b∈ks->∃ a∈l,F a b
  | _,_,.nil,h=>by cases h
  | _,_,.cons (a:=a) r t,h=>by
    rcases D1.mp h with rfl | h
    · exact ⟨a,by simp,r⟩
    · obtain ⟨x,hx,q⟩:=paired_mem t h
      exact ⟨x,O8 _ hx,q⟩
theorem paired_mem' {α β:Type} {F:α->β->Prop} {a:α}:∀ {l:List α} {ks:List β},Paired F l ks->a∈l->∃ b∈ks,F a b
  | _,_,.nil,h=>by cases h
  | _,_,.cons (b:=b) r t,h=>by
    rcases D1.mp h with rfl | h
    · exact ⟨b,by simp,r⟩
    · obtain ⟨x,hx,q⟩:=paired_mem' t h
      exact ⟨x,O8 _ hx,q⟩
section
variable {prog:Program} {w:World} {K:Type} [DecidableEq K]
def ElK (knd:KeyKind prog w K) (e:Int × Value) (k:K):Prop:=knd.is k e.2=true/\e.1=knd.hash k/\e.2.scannable=true
def GO (knd:KeyKind prog w K) (L:Bool) (o:Obj) (ks:List K):Prop:=
  o.ExactSet/\∃ es ep t,o.data=.set es ep t/\(∃ ks',ks'.Perm ks/\Paired (ElK knd) es.toList ks')/\es.size < scanBound/\t.fits es.size=true/\Good L t
def GS (knd:KeyKind prog w K) (L:Bool) (h:Heap) (a:Addr) (ks:List K):Prop:=∃ o,h.get? a=some o/\GO knd L o ks
variable {knd:KeyKind prog w K} {L:Bool} {A:Around} {E:Value->Shared->Prop} {s:Shared} {a:Addr}
theorem GS.at {h h':Heap} {ks:List K} (g:GS knd L h a ks) (k:∀ o,h.get? a=some o->h'.get? a=some o):GS knd L h' a ks:=let ⟨o,e,r⟩:=g; ⟨o,k o e,r⟩
theorem els_of {es:List (Int × Value)} {ks:List K} (r:Paired (ElK knd) es ks):ElemsOf knd es:=fun e he=>by
  obtain ⟨k,_,q⟩:=paired_mem' r he
  exact ⟨⟨k,q.1,q.2.1⟩,q.2.2⟩
theorem gs_store {h:Heap} {o:Obj} {es es':Array (Int × Value)} {ep:Nat} {t t':SetTable} {ks:List K} (ho:h.get? a=some o) (hx:o.ExactSet) (hd:o.data=.set es ep t) (hr:∃ ks',ks'.Perm ks/\Paired (ElK knd) es'.toList ks') (hb:es'.size < scanBound) (hf:t'.fits es'.size=true) (hg:Good L t') :
    (h.update a (Obj.putSet es' t')).get? a=some { o with data:=.set es' (ep + 1) t' }/\GS knd L (h.update a (Obj.putSet es' t')) a ks:=by
  have e:=L4 (Obj.putSet es' t') ho (by rw [putSet_of es' t' hd]; rfl)
  rw [putSet_of es' t' hd] at e
  exact ⟨e,_,e,hx,es',ep + 1,t',rfl,hr,hb,hf,hg⟩
theorem gs_tail {gv:Bool->Sem Unit} (hgv:∀ (b:Bool) (s':Shared) (Z:Unit->Shared->Prop),Z () s'->wpAny (model prog w) A (gv b) Z E s') {o:Obj} {es es1:Array (Int × Value)} {ep:Nat} {t t2:SetTable} {ks:List K} (ho:s.heap.get? a=some o) (hx:o.ExactSet) (hd:o.data=.set es ep t)
    (hr:∃ ks',ks'.Perm ks/\Paired (ElK knd) es1.toList ks') (hb:es1.size < scanBound) (hf:t2.fits es1.size=true) (hg:Good L t2) {wd:Bool} {R:Option Bool->Shared->Prop} (h:∀ h',Heap.SameBut a s.heap h'->GS knd L h' a ks->R (some true) { s with heap:=h' }) :
    wpAny (model prog w) A (do
        storeSet a es1 t2
        if (!wd && t2.tooFull)=true then do
            gv (relayAll t2 es1 (SetTable.grown es1.size)).2.2
            storeSet a (relayAll t2 es1 (SetTable.grown es1.size)).1 (relayAll t2 es1 (SetTable.grown es1.size)).2.1
            pure (some true)
          else pure (some true)) R E s:=by
  refine wpAny_bind (wpAny_storeSet_of ho hd ?_ (fits_of_scanBound hb))
  obtain ⟨o1,g1⟩:=gs_store (knd:=knd) (L:=L) ho hx hd hr hb hf hg
  have sb:=Heap.SameBut.update s.heap a (Obj.putSet es1 t2)
  split
  · have p:=relayAll_perm t2 es1 (SetTable.grown es1.size)
    have f:=relayAll_fits t2 es1 (SetTable.grown es1.size)
    have gg:=hg.relayAll es1 (SetTable.grown es1.size)
    generalize relayAll t2 es1 (SetTable.grown es1.size)=rl at p f gg ⊢
    obtain ⟨es2,t3,gave⟩:=rl
    dsimp only at p f gg ⊢
    have hz:es2.size=es1.size:=by rw [<- Array.length_toList,p.length_eq,Array.length_toList]
    have hr2:∃ ks',ks'.Perm ks/\Paired (ElK knd) es2.toList ks':=by
      obtain ⟨k1,p1,r1⟩:=hr
      obtain ⟨k2,r2,p2⟩:=paired_perm p r1
      exact ⟨k2,p2.trans p1,r2⟩
    refine wpAny_bind (hgv _ _ _ ?_)
    refine wpAny_bind (wpAny_storeSet_of o1 rfl ?_ (fits_of_scanBound (by rw [hz]; exact hb)))
    obtain ⟨_,g2⟩:=gs_store (knd:=knd) (L:=L) o1 hx rfl hr2 (by rw [hz]; exact hb) f gg
    exact wpAny_pure (h _ (sb.trans (Heap.SameBut.update _ a _)) g2)
  · exact wpAny_pure (h _ sb g1)
def addK (ks:List K) (k:K):List K:=if k∈ks then ks else ks ++ [k]
theorem gs_add {ks:List K} {k:K} {x:Value} {Q:Bool->Shared->Prop} (hk:knd.is k x=true) (hs:x.scannable=true) (g:GS knd L s.heap a ks) (room:ks.length + 1 < scanBound)
    (h:∀ b h',Heap.SameBut a s.heap h'->GS knd L h' a (addK ks k)->Q b { s with heap:=h' }):wpAny (model prog w) A (setAddHashed a x (knd.hash k)) Q E s:=by
  obtain ⟨o,ho,hx,es,ep,t,hd,⟨k0,p0,r0⟩,hb,hf,hg⟩:=g
  have hel:=els_of r0
  have hn:es.size=ks.length:=by rw [<- Array.length_toList,Paired.length r0,p0.length_eq]
  unfold setAddHashed setAddHashedIn
  refine wpAny_holding (wpAny_bind (wpAny_setState_of ho hd hf ?_))
  dsimp only
  rw [byScan_of hs hb hel,if_pos rfl]
  unfold setAddByScan
  refine wpAny_bind ?_
  refine wpAny_bind (wpAny_rule ?_)
  refine wpAny_bind (wpAny_setScan_of hk ho hd hf hel ?_)
  cases z:List.findIdx? (fun e=>knd.is k e.2) es.toList with
  | some j=>
    dsimp only
    obtain ⟨hj,pj,_⟩:=List.findIdx?_eq_some_iff_getElem.mp z
    have km:k∈ks:=by
      obtain ⟨k',hk',q⟩:=paired_mem' r0 (List.getElem_mem hj)
      have:=knd.inj _ k k' pj q.1
      rw [this]; exact p0.mem_iff.mp hk'
    refine wpAny_pure (wpAny_pure ?_)
    have e:s={ s with heap:=s.heap }:=by cases s; rfl
    rw [e]
    refine h _ s.heap (Heap.SameBut.refl a s.heap) ?_
    unfold addK
    rw [if_pos km]
    exact ⟨o,ho,hx,es,ep,t,hd,⟨k0,p0,r0⟩,hb,hf,hg⟩
  | none=>
    dsimp only
    have km:k∉ks:=fun hm=>by
      obtain ⟨e,he,q⟩:=paired_mem r0 (p0.mem_iff.mpr hm)
      have:=List.findIdx?_eq_none_iff.mp z e he
      rw [q.1] at this; exact Bool.noConfusion this
    have p:=layNew_perm t es (knd.hash k) x
    have f:=layNew_fits t es (knd.hash k) x
    have gg:=hg.layNew es (knd.hash k) x
    generalize layNew t es (knd.hash k) x=ly at p f gg ⊢
    obtain ⟨es1,t1,wd,gave⟩:=ly
    dsimp only at p f gg ⊢
    rw [Array.toList_push] at p
    have hr:∃ ks',ks'.Perm (addK ks k)/\Paired (ElK knd) es1.toList ks':=by
      obtain ⟨k1,r1,p1⟩:=paired_perm p (paired_snoc (F:=ElK knd) (a:=(knd.hash k,x)) (b:=k) ⟨hk,rfl,hs⟩ r0)
      refine ⟨k1,p1.trans ?_,r1⟩
      unfold addK
      rw [if_neg km]
      exact p0.append_right _
    have hz:es1.size=ks.length + 1:=by rw [<- Array.length_toList,p.length_eq,E5,Array.length_toList,hn]; rfl
    have hgv:∀ (b:Bool) (s':Shared) (Z:Unit->Shared->Prop),Z () s'->wpAny (model prog w) A (match b with | true=>rule "set.scan.the-table-gave-way" | false=>pure ()) Z E s':=fun b s' Z q=>by
      cases b
      · exact wpAny_pure q
      · exact wpAny_rule q
    refine wpAny_bind (hgv _ _ _ ?_)
    have fin:∀ h',Heap.SameBut a s.heap h'->GS knd L h' a (addK ks k)->wpAny (model prog w) A (match some true with | some added=>pure added | none=>setAddHashedIn a x (knd.hash k) 99999) Q E { s with heap:=h' }:=fun h' sb g=>wpAny_pure (h _ h' sb g)
    split
    · refine wpAny_bind ?_
      rw [hashByValue_scannable 8 hs]
      refine wpAny_pure ?_
      refine gs_tail (wd:=wd) hgv ho hx hd hr (by rw [hz]; exact room) ?_ ?_ fin
      · split
        · exact f
        · exact SetTable.fits_plain_off f
      · split
        · exact gg
        · exact gg.unplain
    · refine wpAny_bind (wpAny_pure ?_)
      simp only [↓reduceIte]
      exact gs_tail (wd:=wd) hgv ho hx hd hr (by rw [hz]; exact room) f gg fin
end
end L2
namespace L2
open PySem PySem.Spec PyProof.Rows
theorem entry_set_iter0:entryFor table "set.__iter__" = some Builtin.«frozenset.__iter__»:=entryFor_alias (id' := "frozenset.__iter__") (by kernel_rfl) rfl (by decide +kernel) (by kernel_rfl)
theorem slot_setit_next:Slot "set_iterator" "__next__" "set_iterator.__next__" :=
  .of (owner := "set_iterator") (n := "__next__") (by rw [typeLookup_type,builtinLookup_eq_fast]; kernel_rfl) (by decide +kernel) (by decide +kernel) (by decide +kernel) (by first | exact .inl (by decide +kernel) | exact .inr (by decide +kernel)) (by rw [isSubtype_type]; kernel_rfl)
theorem entry_setit_next:entryFor table "set_iterator.__next__" = some Builtin.«set_iterator.__next__»:=entryFor_of_tree (by kernel_rfl)
theorem owner_setit:Manifest.owners.lookup (String.ofList ['r','o','t','a','r','e','t','i','_','t','e','s'].reverse)=some Manifest.sig_set_iterator:=by kernel_rfl
theorem args_setit_next (a:Value):argsOk "set_iterator.__next__" ⟨[a],[]⟩:=by
  unfold argsOk; rw [signature?_of (id := "set_iterator.__next__") (n:=['_','_','t','x','e','n','_','_']) (o:=['r','o','t','a','r','e','t','i','_','t','e','s']) (by kernel_rfl) owner_setit]; kernel_rfl
def SetIt (h:Heap) (it:Addr) (f:Value) (i:Nat) (d:Addr) (n ep:Nat):Prop:=
  h.get? it=some { cls:=.type "set_iterator",dict:=none,data:=.fields #[f,rawInt i,.ref d,rawInt n,rawInt ep],slots:=#[] }
def RawS (h:Heap) (a:Addr) (es:Array (Int × Value)) (ep:Nat) (t:SetTable):Prop:=∃ o,h.get? a=some o/\o.ExactSet/\o.data=.set es ep t
theorem RawS.at {h h':Heap} {a:Addr} {es:Array (Int × Value)} {ep:Nat} {t:SetTable} (x:RawS h a es ep t) (k:∀ o,h.get? a=some o->h'.get? a=some o):RawS h' a es ep t:=let ⟨o,e,r⟩:=x; ⟨o,k o e,r⟩
theorem RawS.lt {h:Heap} {a:Addr} {es:Array (Int × Value)} {ep:Nat} {t:SetTable} (x:RawS h a es ep t):a < h.objs.size:=let ⟨_,e,_⟩:=x; O6 e
theorem SetIt.at {h h':Heap} {it d:Addr} {f:Value} {i n ep:Nat} (x:SetIt h it f i d n ep) (k:∀ o,h.get? it=some o->h'.get? it=some o):SetIt h' it f i d n ep:=k _ x
section
variable {prog:Program} {w:World} {A:Around} {E:Value->Shared->Prop} {s:Shared}
theorem RawS.typeIs {a:Addr} {es:Array (Int × Value)} {ep:Nat} {t:SetTable} (x:RawS s.heap a es ep t):s.TypeIs (.ref a) "set" := let ⟨o,e,r,_⟩:=x; ⟨o,e,r.1⟩
theorem SetIt.typeIs {it d:Addr} {f:Value} {i n ep:Nat} (x:SetIt s.heap it f i d n ep):s.TypeIs (.ref it) "set_iterator" := ⟨_,x,rfl⟩
theorem rs_state {a:Addr} {es:Array (Int × Value)} {ep:Nat} {t:SetTable} {Q:(Array (Int × Value) × Nat × SetTable)->Shared->Prop} (x:RawS s.heap a es ep t) (hf:t.fits es.size=true) (h:Q (es,ep,t) s):wpAny (model prog w) A (setState a) Q E s:=by
  obtain ⟨o,ho,_,hd⟩:=x
  exact wpAny_setState_of ho hd hf h
theorem choose_any {n:Nat} {Q:Nat->Shared->Prop} (hn:n≠0) (h:∀ i d',i < n->Q i { s with drawn:=d' }):wpAny (model prog w) A (choose .order n) Q E s:=fun Γ p _=>⟨hn,h _ _ (Nat.mod_lt _ (by omega))⟩
theorem draw_any {α:Type}:∀ (n:Nat) (xs:List α) (s:Shared) {Q:List α->Shared->Prop},xs.length=n->(∀ ys d',ys.Perm xs->Q ys { s with drawn:=d' })->wpAny (model prog w) A (drawOrder n xs) Q E s:=by
  intro n
  induction n with
  | zero=>
    intro xs s Q hl h
    rw [List.length_eq_zero_iff.mp hl] at h ⊢
    rw [drawOrder]
    exact wpAny_pure (h [] s.drawn (List.Perm.refl _))
  | succ n ih=>
    intro xs s Q hl h
    cases xs with
    | nil=>cases hl
    | cons x xs=>
      rw [drawOrder]
      · refine wpAny_bind (choose_any (by simp) fun i d' hi=>?_)
        rw [O1 hi]
        refine wpAny_bind (ih _ _ (by rw [List.length_eraseIdx_of_lt hi]; omega) fun ys d2 hp=>?_)
        exact wpAny_pure (h _ d2 ((hp.cons _).trans (cons_erase hi)))
      · simp
end
end L2
namespace L2
open PySem PySem.Spec PyProof.Rows
section
variable {prog:Program} {w:World} {A:Around} {E:Value->Shared->Prop} {s:Shared}
theorem rs_size {a:Addr} {es:Array (Int × Value)} {ep:Nat} {t:SetTable} {Q:Nat->Shared->Prop} (x:RawS s.heap a es ep t) (hf:t.fits es.size=true) (h:Q es.size s):wpAny (model prog w) A (Builtin.Frozenset.sizeOf a) Q E s:=by
  unfold Builtin.Frozenset.sizeOf setEntries
  exact wpAny_bind (wpAny_bind (rs_state x hf (wpAny_pure (wpAny_pure h))))
theorem rs_epoch {a:Addr} {es:Array (Int × Value)} {ep:Nat} {t:SetTable} {Q:Nat->Shared->Prop} (x:RawS s.heap a es ep t) (hf:t.fits es.size=true) (h:Q ep s):wpAny (model prog w) A (setEpoch a) Q E s:=by
  unfold setEpoch
  exact wpAny_bind (rs_state x hf (wpAny_pure h))
theorem rs_entries {a:Addr} {es:Array (Int × Value)} {ep:Nat} {t:SetTable} {Q:Array (Int × Value)->Shared->Prop} (x:RawS s.heap a es ep t) (hf:t.fits es.size=true) (h:Q es s):wpAny (model prog w) A (setEntries a) Q E s:=by
  unfold setEntries
  exact wpAny_bind (rs_state x hf (wpAny_pure h))
theorem rs_bytext {Q:Bool->Shared->Prop} (h:Q (w.params.followText "set-order") s):wpAny (model prog w) A setsByText Q E s:=by
  unfold setsByText
  exact wpAny_bind (wpAny_askSetting (wpAny_pure h))
def drw (w:World) (n:Nat) (t:SetTable):Bool:=!w.params.followText "set-order" && (!t.plain && decide (n > 1))
theorem rs_drawn {a:Addr} {es:Array (Int × Value)} {ep:Nat} {t:SetTable} {Q:Bool->Shared->Prop} (x:RawS s.heap a es ep t) (hf:t.fits es.size=true) (h:Q (drw w es.size t) s):wpAny (model prog w) A (setDrawn a) Q E s:=by
  unfold setDrawn
  exact wpAny_bind (rs_state x hf (wpAny_bind (rs_bytext (wpAny_pure h))))
theorem set_iter {a:Addr} {es:Array (Int × Value)} {ep:Nat} {t:SetTable} {Q:Value->Shared->Prop} (x:RawS s.heap a es ep t) (hf:t.fits es.size=true) (hz:es.size<=sizeLine)
    (h1:drw w es.size t=false->Q (.ref s.heap.objs.size) { s with heap:=s.heap.push { cls:=.type "set_iterator",data:=.fields #[rawInt 0,rawInt 0,.ref a,rawInt es.size,rawInt ep] } })
    (h2:drw w es.size t=true->∀ (ys:List Nat) (d':Drawn),ys.Perm (List.range es.size) ->
      Q (.ref (s.heap.objs.size + 1)) { s with heap:=(s.heap.push { cls:=.type "tuple",data:=.seq (ys.map fun (i:Nat)=>rawInt i).toArray }).push { cls:=.type "set_iterator",data:=.fields #[.ref s.heap.objs.size,rawInt 0,.ref a,rawInt es.size,rawInt ep] },drawn:=d' }) :
    wpAny (model prog w) A (pyIter (.ref a)) Q E s:=by
  refine wpAny_pyIter_slot x.typeIs PySem.F.slot_set_iter (wpAny_call_entry PySem.F.slot_set_iter x.typeIs entry_set_iter0 ?_ (PySem.F.args_set_iter_1 _))
  unfold Builtin.«frozenset.__iter__» Builtin.Frozenset.slot0 Builtin.Frozenset.addrOf slotArgs
  show wpAny _ _ (pure a >>= _) _ _ _
  refine wpAny_bind (wpAny_pure ?_)
  refine wpAny_bind (rs_size x hf ?_)
  refine wpAny_bind (rs_drawn x hf ?_)
  cases z:drw w es.size t with
  | false=>
    rw [if_neg D6]
    refine wpAny_bind (wpAny_pure ?_)
    refine wpAny_bind (rs_epoch x hf ?_)
    refine wpAny_bind (wpAny_newObj_type ?_)
    exact wpAny_pure ⟨_,rfl, "set_iterator",_,⟨_,O7 _ rfl,rfl⟩,slot_setit_next.lookup,h1 z⟩
  | true=>
    rw [if_pos rfl]
    refine wpAny_bind ?_
    refine draw_any _ _ _ F0 fun ys d' hp=>?_
    refine wpAny_bind (wpAny_newTuple ?_ (by rw [O2,hp.length_eq,F0]; exact hz))
    have x':RawS (s.heap.push { cls:=.type "tuple",data:=.seq (ys.map fun (i:Nat)=>rawInt i).toArray }) a es ep t:=x.at fun o e=>O0 _ e
    refine wpAny_bind (rs_epoch (s:={ s with heap:=s.heap.push { cls:=.type "tuple",data:=.seq (ys.map fun (i:Nat)=>rawInt i).toArray },drawn:=d' }) x' hf ?_)
    refine wpAny_bind (wpAny_newObj_type ?_)
    refine wpAny_pure ⟨_,rfl, "set_iterator",_,⟨_,O7 _ rfl,rfl⟩,slot_setit_next.lookup,?_⟩
    have:=h2 z ys d' hp
    rwa [show s.heap.objs.size + 1=(s.heap.push { cls:=.type "tuple",data:=.seq (ys.map fun (i:Nat)=>rawInt i).toArray }).objs.size from (E7 _ _).symm] at this
end
end L2
namespace L2
open PySem PySem.Spec PyProof.Rows
def byT (w:World):Bool:=!w.params.followText "set-order"
def J4 (w:World):Obj:={ cls:=.type "set",dict:=none,data:=.set #[] 0 (.fresh 0 0 (byT w)) }
def metK {K:Type} [DecidableEq K] (ks:List K):List K:=ks.foldl addK []
theorem metK_snoc {K:Type} [DecidableEq K] (ks:List K) (k:K):metK (ks ++ [k])=addK (metK ks) k:=by unfold metK; rw [List.foldl_append]; rfl
theorem foldl_addK_len {K:Type} [DecidableEq K]:∀ (ks acc:List K),(ks.foldl addK acc).length<=acc.length + ks.length
  | [],acc=>by simp
  | k :: ks,acc=>by
    have h1:=foldl_addK_len ks (addK acc k)
    have h2:(addK acc k).length<=acc.length + 1:=by unfold addK; split <;> simp
    rw [List.foldl_cons,E8]
    omega
theorem metK_len {K:Type} [DecidableEq K] (ks:List K):(metK ks).length<=ks.length:=by unfold metK; have:=foldl_addK_len ks []; simpa using this
section
variable {prog:Program} {w:World} {K:Type} [DecidableEq K] {knd:KeyKind prog w K} {A:Around} {R:Result->Shared->Prop}
theorem set_loop {I D:Addr} {fp:List Addr} {n:Nat} {P:Nat->Value->Prop} {St:Nat->Heap->Prop} {ks:List K} (W:Walks prog w A.in1 I fp [I] n P St) (hD:D∉fp) (hn:n=ks.length)
    (hv:∀ i v,P i v->∃ k,ks[i]?=some k/\knd.is k v=true/\v.scannable=true) (hb:ks.length + 1 < scanBound) :
    ∀ (k i:Nat) (s:Shared),n - i=k->i<=n->St i s.heap->GS knd (byT w) s.heap D (metK (ks.take i)) ->
      (∀ h' tk,GS knd (byT w) h' D (metK ks)->(∀ b o,b∉[D,I]->s.heap.get? b=some o->h'.get? b=some o)->R (.ok (.ret .none)) { s with heap:=h',toks:=tk }) ->
      codeAny (model prog w) A (.builtin "set.update.loop" ⟨[.ref D,.ref I],[]⟩) R s:=by
  have hDI:D≠I:=fun z=>hD (W.sub D (by simp [z]))
  intro k
  induction k with
  | zero=>
    intro i s hk hi hst g hR
    have e:i=n:=by omega
    subst e
    refine codeAny_builtin PyProof.Rows.F.entry_set_update_loop ?_
    rw [Around.under_plainId PyProof.Rows.F.plain_set_update_loop _]
    show wpAny _ A.in1 (pyNext (.ref I) >>= _) _ _ s
    refine wpAny_bind (W.done s _ _ hst fun h' tk hm=>?_)
    show wpAny _ A.in1 (ret Value.none) _ _ _
    rw [hn,List.take_length] at g
    exact wpAny_pure (hR h' tk (g.at fun o q=>hm D o (by simpa using hDI) q) fun b o hb' q=>hm b o (fun z=>hb' (O8 _ z)) q)
  | succ k ih=>
    intro i s hk hi hst g hR
    have hlt:i < n:=by omega
    refine codeAny_builtin PyProof.Rows.F.entry_set_update_loop ?_
    rw [Around.under_plainId PyProof.Rows.F.plain_set_update_loop _]
    show wpAny _ A.in1 (pyNext (.ref I) >>= _) _ _ s
    refine wpAny_bind (W.item i s _ _ hlt hst fun v h1 tk hP hst1 hm=>?_)
    obtain ⟨x,hx,h2,h3⟩:=hv i v hP
    have g1:GS knd (byT w) h1 D (metK (ks.take i)):=g.at fun o q=>hm D o (by simpa using hDI) q
    show wpAny _ A.in1 (holding [v] (setAdd D v) >>= _) _ _ _
    refine wpAny_bind (wpAny_holding ?_)
    unfold setAdd
    refine wpAny_holding (wpAny_bind (knd.pyHash (k:=x) h2 ?_))
    have room:(metK (ks.take i)).length + 1 < scanBound:=by
      have:=metK_len (ks.take i)
      have:(ks.take i).length<=ks.length:=by rw [List.length_take]; omega
      omega
    refine gs_add (knd:=knd) (s:={ s with heap:=h1,toks:=tk + 1 }) h2 h3 g1 room fun b h' sb g2=>?_
    have e1:ks.take (i + 1)=ks.take i ++ [x]:=by rw [List.take_succ,hx]; rfl
    rw [<- metK_snoc,<- e1] at g2
    refine wpAny_pure ⟨plainId_quiet PyProof.Rows.F.plain_set_update_loop _,ih (i + 1) _ (by omega) hlt (W.frame _ h1 h' hst1 fun b hb o q=>?_) g2 fun h' tk' g' k'=>hR h' tk' g' fun b o hb q=>k' b o hb ?_⟩
    · exact (sb.2 b fun z=>hD (by rw [<- z]; exact hb)).trans q
    · refine (sb.2 b fun z=>hb (by simp [z])).trans (hm b o (fun z=>hb (O8 _ z)) q)
theorem set_new {s:Shared} {E:Value->Shared->Prop} (a:Value) {Z:Value->Shared->Prop} (h:Z (.ref s.heap.objs.size) { s with heap:=s.heap.push (J4 w) }) :
    codeAny (model prog w) A (.call (.builtin "set.__new__") ⟨[.type "set",a],[]⟩) (wants Z E) s:=by
  refine codeAny_of_tree ?_
  show wpAny _ A.in1 (do checkBuiltinCall "set.__new__" ⟨[.type "set",a],[]⟩; again (.builtin "set.__new__" ⟨[.type "set",a],[]⟩)) _ _ s
  refine wpAny_bind (wpAny_of_eq (F.newCall_set_1 a) (wpAny_pure ⟨plainId_quiet F.plain_set_new _,codeAny_builtin F.entry_set_new ?_⟩))
  rw [Around.under_plainId F.plain_set_new _]
  unfold Builtin.«set.__new__» Builtin.Frozenset.newClass
  have hs:=sub_set_self
  unfold J4 byT at h
  obtain ⟨hp,g,d,tk,os⟩:=s
  dsimp only
  wp_walk
  refine wpAny_askSetting (wpAny_pure ?_)
  dsimp only
  simp only [newObj]
  refine wpAny_bind (wpAny_alloc (wpAny_pure ?_))
  exact wpAny_pure h
theorem sub_list_set0:isSubtype (.type "list") (.type "set")=pure false:=by rw [isSubtype_type]; kernel_rfl
theorem sub_list_fset0:isSubtype (.type "list") (.type "frozenset")=pure false:=by rw [isSubtype_type]; kernel_rfl
set_option maxHeartbeats 3200000 in
theorem set_of_list {s:Shared} {E:Value->Shared->Prop} {l:Addr} {items:Array Value} {ks:List K} {Q:Value->Shared->Prop} (hh:A.handled=none) (hl:s.heap.IsList l items) (hn:items.size=ks.length)
    (hv:∀ (i:Nat) (v:Value),items[i]?=some v->∃ k,ks[i]?=some k/\knd.is k v=true/\v.scannable=true) (hb:ks.length + 1 < scanBound)
    (h:∀ h' tk,GS knd (byT w) h' s.heap.objs.size (metK ks)->(∀ b o,s.heap.get? b=some o->h'.get? b=some o)->Q (.ref s.heap.objs.size) { s with heap:=h',toks:=tk }) :
    wpAny (model prog w) A (call (.type "set") [.ref l]) Q E s:=by
  obtain ⟨cc,tl,hmro⟩:=F.called_set.mro
  have m1:=F.called_set.made
  have m2:=F.called_set.sub
  refine wpAny_call (codeAny_of_tree ?_)
  show wpAny _ _ (callAny (.type "set") _) _ _ _
  refine wpAny_pure ⟨Code.quiet_builtin _ (by decide +kernel),codeAny_builtin F.entry_type_call ?_⟩
  rw [Around.under_plain (weight_type_call_type "set" [.ref l] []) rfl]
  have m3:=F.called_set.notType
  have m4:=F.called_set.canCreate
  have m5:=F.typeCall_set_1 (.ref l)
  repeat (any_goals (first | assumption | wp_step))
  refine codeAny_mono (set_new (.ref l) (E:=E) (Z:=fun ob s1=>ob=.ref s.heap.objs.size/\s1={ s with heap:=s.heap.push (J4 w) }) ⟨rfl,rfl⟩) fun rr s1 q=>?_
  cases rr with
  | error e=>exact q
  | ok fl=>
    cases fl with
    | ret ob=>
      obtain ⟨rfl,rfl⟩:=q
      have o1:(s.heap.push (J4 w)).get? s.heap.objs.size=some (J4 w):=O7 _ rfl
      have hT:Shared.TypeIs { s with heap:=s.heap.push (J4 w) } (.ref s.heap.objs.size) "set" := ⟨_,o1,rfl⟩
      have n1:=F.called_set.init.lookup
      have n2:=F.called_set.init.bind (.ref s.heap.objs.size)
      repeat (any_goals (first | assumption | wp_step))
      refine codeAny_mono (codeAny_call_builtin (R:=wants (fun r s2=>r=.none/\∃ h' tk,s2={ s with heap:=h',toks:=tk }/\GS knd (byT w) h' s.heap.objs.size (metK ks)/\∀ b o,s.heap.get? b=some o->h'.get? b=some o) E) F.called_set.init.plain F.entry_set_init (check_set_init_1 hT ?_)) fun r2 s2 q2=>?_
      · obtain ⟨ol,hol,hcl,nl,hdl⟩:=hl
        obtain ⟨ocls,odict,odata,oslots⟩:=ol
        simp only at hcl hdl
        subst hcl; subst hdl
        have hol':(s.heap.push (J4 w)).get? l=some { cls:=.type "list",dict:=odict,data:=.seq items nl,slots:=oslots }:=O0 _ hol
        have a1:=sub_list_set0
        have a2:=sub_list_fset0
        have a3:(Value.type "list" == Value.type "dict")=false:=by decide
        have hl1:(s.heap.push (J4 w)).IsList l items:=⟨_,hol',rfl,nl,rfl⟩
        unfold J4 at o1 hT hol' hl1 ⊢
        unfold Builtin.«set.__init__» noKeywords Builtin.Frozenset.updateFrom
        generalize hPI:pyIter=PI
        wp_walk
        subst hPI
        refine wpAny_pyIter_list hl1 ?_
        refine wpAny_bind (wpAny_runValue ?_)
        have b0:l < s.heap.objs.size:=O6 hol
        have b1:l≠(s.heap.push (J4 w)).objs.size:=by rw [E7]; exact O9 (F4 b0)
        have b2:s.heap.objs.size≠(s.heap.push (J4 w)).objs.size:=by rw [E7]; exact O9 (Nat.lt_succ_self _)
        have W:=Walks.list (prog:=prog) (w:=w) (A:=A.in1.in1.in1) (by simpa using hh) (s.heap.push (J4 w)).objs.size l b1 items
        refine set_loop (knd:=knd) W (by simp only [D1,List.not_mem_nil,or_false,not_or]; exact ⟨b2,Nat.ne_of_gt b0⟩) hn (fun i v hP=>hv i v hP) hb items.size 0 _ (by omega) (G8 _) ⟨⟨_,O7 _ rfl,rfl,rfl⟩,hl1.push _⟩ ?g0 fun h' tk g' k'=>?gR
        case g0=>
          refine ⟨_,O0 _ o1,⟨rfl,rfl,rfl⟩,#[],0,_,rfl,⟨[],by simp [metK],.nil⟩,by unfold scanBound; simp,by rfl,?_,rfl,rfl⟩
          exact List.Pairwise.nil
        case gR=>
          show wpAny _ _ _ _ _ _
          refine wpAny_pure ?_
          show wpAny _ _ (ret Value.none) _ _ _
          refine wpAny_pure ⟨rfl,h',tk,rfl,g',fun b o e=>?_⟩
          have c0:=O6 e
          refine k' b o ?_ (O0 _ (O0 _ e))
          simp only [D1,List.not_mem_nil,or_false,not_or]
          exact ⟨O9 c0,O9 (by rw [E7]; exact F4 c0)⟩
      · cases r2 with
        | error e=>exact q2
        | ok fl2=>
          cases fl2 with
          | ret r=>
            obtain ⟨rfl,h',tk,rfl,g',k'⟩:=q2
            repeat (any_goals (first | assumption | wp_step))
            exact h h' tk g' k'
          | _=>exact q2.elim
    | _=>exact q.elim
theorem sub_tuple_set0:isSubtype (.type "tuple") (.type "set")=pure false:=by rw [isSubtype_type]; kernel_rfl
theorem sub_tuple_fset0:isSubtype (.type "tuple") (.type "frozenset")=pure false:=by rw [isSubtype_type]; kernel_rfl
set_option maxHeartbeats 3200000 in
theorem set_of_tuple {s:Shared} {E:Value->Shared->Prop} {l:Addr} {items:Array Value} {ks:List K} {Q:Value->Shared->Prop} (hh:A.handled=none) (hl:s.heap.IsTuple l items) (hn:items.size=ks.length)
    (hv:∀ (i:Nat) (v:Value),items[i]?=some v->∃ k,ks[i]?=some k/\knd.is k v=true/\v.scannable=true) (hb:ks.length + 1 < scanBound)
    (h:∀ h' tk,GS knd (byT w) h' s.heap.objs.size (metK ks)->(∀ b o,s.heap.get? b=some o->h'.get? b=some o)->Q (.ref s.heap.objs.size) { s with heap:=h',toks:=tk }) :
    wpAny (model prog w) A (call (.type "set") [.ref l]) Q E s:=by
  obtain ⟨cc,tl,hmro⟩:=F.called_set.mro
  have m1:=F.called_set.made
  have m2:=F.called_set.sub
  refine wpAny_call (codeAny_of_tree ?_)
  show wpAny _ _ (callAny (.type "set") _) _ _ _
  refine wpAny_pure ⟨Code.quiet_builtin _ (by decide +kernel),codeAny_builtin F.entry_type_call ?_⟩
  rw [Around.under_plain (weight_type_call_type "set" [.ref l] []) rfl]
  have m3:=F.called_set.notType
  have m4:=F.called_set.canCreate
  have m5:=F.typeCall_set_1 (.ref l)
  repeat (any_goals (first | assumption | wp_step))
  refine codeAny_mono (set_new (.ref l) (E:=E) (Z:=fun ob s1=>ob=.ref s.heap.objs.size/\s1={ s with heap:=s.heap.push (J4 w) }) ⟨rfl,rfl⟩) fun rr s1 q=>?_
  cases rr with
  | error e=>exact q
  | ok fl=>
    cases fl with
    | ret ob=>
      obtain ⟨rfl,rfl⟩:=q
      have o1:(s.heap.push (J4 w)).get? s.heap.objs.size=some (J4 w):=O7 _ rfl
      have hT:Shared.TypeIs { s with heap:=s.heap.push (J4 w) } (.ref s.heap.objs.size) "set" := ⟨_,o1,rfl⟩
      have n1:=F.called_set.init.lookup
      have n2:=F.called_set.init.bind (.ref s.heap.objs.size)
      repeat (any_goals (first | assumption | wp_step))
      refine codeAny_mono (codeAny_call_builtin (R:=wants (fun r s2=>r=.none/\∃ h' tk,s2={ s with heap:=h',toks:=tk }/\GS knd (byT w) h' s.heap.objs.size (metK ks)/\∀ b o,s.heap.get? b=some o->h'.get? b=some o) E) F.called_set.init.plain F.entry_set_init (check_set_init_1 hT ?_)) fun r2 s2 q2=>?_
      · obtain ⟨ol,hol,hcl,nl,hdl⟩:=hl
        obtain ⟨ocls,odict,odata,oslots⟩:=ol
        simp only at hcl hdl
        subst hcl; subst hdl
        have hol':(s.heap.push (J4 w)).get? l=some { cls:=.type "tuple",dict:=odict,data:=.seq items nl,slots:=oslots }:=O0 _ hol
        have a1:=sub_tuple_set0
        have a2:=sub_tuple_fset0
        have a3:(Value.type "tuple" == Value.type "dict")=false:=by decide
        have hl1:(s.heap.push (J4 w)).IsTuple l items:=⟨_,hol',rfl,nl,rfl⟩
        unfold J4 at o1 hT hol' hl1 ⊢
        unfold Builtin.«set.__init__» noKeywords Builtin.Frozenset.updateFrom
        generalize hPI:pyIter=PI
        wp_walk
        subst hPI
        refine wpAny_pyIter_tuple hl1 ?_
        refine wpAny_bind (wpAny_runValue ?_)
        have b0:l < s.heap.objs.size:=O6 hol
        have b1:l≠(s.heap.push (J4 w)).objs.size:=by rw [E7]; exact O9 (F4 b0)
        have b2:s.heap.objs.size≠(s.heap.push (J4 w)).objs.size:=by rw [E7]; exact O9 (Nat.lt_succ_self _)
        have W:=Walks.tuple (prog:=prog) (w:=w) (A:=A.in1.in1.in1) (by simpa using hh) (s.heap.push (J4 w)).objs.size l b1 items
        refine set_loop (knd:=knd) W (by simp only [D1,List.not_mem_nil,or_false,not_or]; exact ⟨b2,Nat.ne_of_gt b0⟩) hn (fun i v hP=>hv i v hP) hb items.size 0 _ (by omega) (G8 _) ⟨⟨_,O7 _ rfl,rfl,rfl⟩,hl1.push _⟩ ?g0 fun h' tk g' k'=>?gR
        case g0=>
          refine ⟨_,O0 _ o1,⟨rfl,rfl,rfl⟩,#[],0,_,rfl,⟨[],by simp [metK],.nil⟩,by unfold scanBound; simp,by rfl,?_,rfl,rfl⟩
          exact List.Pairwise.nil
        case gR=>
          show wpAny _ _ _ _ _ _
          refine wpAny_pure ?_
          show wpAny _ _ (ret Value.none) _ _ _
          refine wpAny_pure ⟨rfl,h',tk,rfl,g',fun b o e=>?_⟩
          have c0:=O6 e
          refine k' b o ?_ (O0 _ (O0 _ e))
          simp only [D1,List.not_mem_nil,or_false,not_or]
          exact ⟨O9 c0,O9 (by rw [E7]; exact F4 c0)⟩
      · cases r2 with
        | error e=>exact q2
        | ok fl2=>
          cases fl2 with
          | ret r=>
            obtain ⟨rfl,h',tk,rfl,g',k'⟩:=q2
            repeat (any_goals (first | assumption | wp_step))
            exact h h' tk g' k'
          | _=>exact q2.elim
    | _=>exact q.elim
end
end L2
namespace L2
open PySem PySem.Spec PyProof.Rows
def slotAt (w:World) (t:SetTable) (i:Nat):Nat:=if w.params.followText "set-order" = true then 0 else if i=0 then 0 else t.place.getD (i - 1) 0 + 1
def ordN (w:World) (a:Addr) (ep:Nat) (es:Array (Int × Value)):Array (Int × Value):=if w.params.followText "set-order" = true then pickOrder (w.params.setOrder a ep) es else es
theorem ordN_perm (w:World) (a:Addr) (ep:Nat) (es:Array (Int × Value)):(ordN w a ep es).toList.Perm es.toList:=by
  unfold ordN
  split
  · exact pick_perm _ _
  · exact List.Perm.refl _
theorem ordN_size (w:World) (a:Addr) (ep:Nat) (es:Array (Int × Value)):(ordN w a ep es).size=es.size:=by
  have:=(ordN_perm w a ep es).length_eq
  simpa using this
theorem below_slot {xs:Array Nat} (r:Rise xs) {i:Nat} (h:i < xs.size):SetTable.below xs (xs.getD i 0 + 1)=i + 1:=by
  obtain ⟨b0,b⟩:=below_is (j:=xs.getD i 0 + 1) r
  have ei:xs[i]?=some (xs.getD i 0):=by rw [Array.getElem?_eq_getElem h]; simp [Array.getD,h]
  have h1:i < SetTable.below xs (xs.getD i 0 + 1):=(b i _ ei).mpr (by omega)
  by_cases z:SetTable.below xs (xs.getD i 0 + 1)=i + 1
  · exact z
  · have h2:i + 1 < xs.size:=by omega
    have e2:xs[i + 1]?=some xs[i + 1]:=Array.getElem?_eq_getElem h2
    have:=(b (i + 1) _ e2).mp (by omega)
    have:=r.lt ei e2 (by omega)
    omega
theorem below_zero {xs:Array Nat} (r:Rise xs):SetTable.below xs 0=0:=by
  obtain ⟨b0,b⟩:=below_is (j:=0) r
  by_cases z:SetTable.below xs 0=0
  · exact z
  · have h2:0 < xs.size:=by omega
    have:=(b 0 _ (Array.getElem?_eq_getElem h2)).mp (by omega)
    omega
section
variable {prog:Program} {w:World} {A:Around} {E:Value->Shared->Prop} {s:Shared}
theorem next_n {a:Addr} {es:Array (Int × Value)} {ep i:Nat} {t:SetTable} {Q:Option (Value × Nat)->Shared->Prop} (x:RawS s.heap a es ep t) (hf:t.fits es.size=true) (g:Good (byT w) t) (hd:drw w es.size t=false) (hi:i<=es.size)
    (h:Q (((ordN w a ep es)[i]?).map fun e=>(e.2,slotAt w t (i + 1))) s):wpAny (model prog w) A (setNext a (slotAt w t i) i ep) Q E s:=by
  have hp:t.place.size=es.size:=by
    simp only [SetTable.fits,L0,beq_iff_eq,decide_eq_true_eq] at hf
    exact hf.1
  unfold setNext
  refine wpAny_bind (rs_state x hf ?_)
  dsimp only
  refine wpAny_bind (rs_bytext ?_)
  cases z:w.params.followText "set-order" with
  | true=>
    rw [if_pos rfl,if_neg (by simp)]
    refine wpAny_bind ?_
    unfold setWalk
    refine wpAny_bind (rs_state x hf ?_)
    dsimp only
    refine wpAny_bind (rs_bytext ?_)
    rw [z,if_pos rfl]
    refine wpAny_bind (wpAny_askSetting (wpAny_pure (wpAny_pure ?_)))
    unfold ordN slotAt at h
    rw [if_pos z,if_pos z] at h
    unfold slotAt
    rw [if_pos z]
    exact h
  | false=>
    rw [if_neg D6]
    have hdr:(!t.plain && decide (es.size > 1))=false:=by
      unfold drw at hd
      rw [z] at hd
      simpa using hd
    have hl:t.led=true:=by rw [g.2.2]; unfold byT; rw [z]; rfl
    unfold ordN slotAt at h
    rw [z,if_neg D6,if_neg D6,if_neg (by omega),Nat.add_sub_cancel] at h
    have hb:SetTable.below t.place (slotAt w t i)=i:=by
      unfold slotAt
      rw [z,if_neg D6]
      by_cases q:i=0
      · rw [if_pos q,q]; exact below_zero g.1
      · rw [if_neg q,below_slot g.1 (by omega)]; omega
    show wpAny _ _ (if (!t.plain && decide (es.size > 1))=true then _ else _) _ _ _
    rw [hdr,if_neg D6]
    show wpAny _ _ ((if (!t.led && !es.isEmpty)=true then _ else _) >>= _) _ _ _
    rw [hl]
    simp only [Bool.not_true,Bool.false_and,F3,if_false]
    refine wpAny_bind (wpAny_pure ?_)
    rw [hb]
    refine wpAny_pure ?_
    by_cases q:i < es.size
    · have e1:es[i]?=some es[i]:=Array.getElem?_eq_getElem q
      have e2:t.place[i]?=some (t.place.getD i 0):=by rw [Array.getElem?_eq_getElem (by omega)]; simp [Array.getD,hp,q]
      rw [e1] at h ⊢
      rw [e2]
      exact h
    · have e1:es[i]?=none:=Array.getElem?_eq_none (by omega)
      rw [e1] at h ⊢
      exact h
end
end L2
namespace L2
open PySem PySem.Spec PyProof.Rows
section
variable {prog:Program} {w:World} {A:Around} {E:Value->Shared->Prop} {s:Shared}
theorem slot_setit_iter:Slot "set_iterator" "__iter__" "set_iterator.__iter__" :=
  .of (owner := "set_iterator") (n := "__iter__") (by rw [typeLookup_type,builtinLookup_eq_fast]; kernel_rfl) (by decide +kernel) (by decide +kernel) (by decide +kernel) (by first | exact .inl (by decide +kernel) | exact .inr (by decide +kernel)) (by rw [isSubtype_type]; kernel_rfl)
theorem entry_setit_iter:entryFor table "set_iterator.__iter__" = some Builtin.«dict_keyiterator.__iter__»:=entryFor_alias (id' := "dict_keyiterator.__iter__") (by kernel_rfl) rfl (by decide +kernel) (by kernel_rfl)
theorem args_setit_iter (a:Value):argsOk "set_iterator.__iter__" ⟨[a],[]⟩:=by
  unfold argsOk; rw [signature?_of (id := "set_iterator.__iter__") (n:=['_','_','r','e','t','i','_','_']) (o:=['r','o','t','a','r','e','t','i','_','t','e','s']) (by kernel_rfl) owner_setit]; kernel_rfl
theorem pyIter_setit {it d:Addr} {f:Value} {i n ep:Nat} {Q:Value->Shared->Prop} (hit:SetIt s.heap it f i d n ep) (h:Q (.ref it) s):wpAny (model prog w) A (pyIter (.ref it)) Q E s:=by
  refine wpAny_pyIter_slot hit.typeIs slot_setit_iter (wpAny_call_entry slot_setit_iter hit.typeIs entry_setit_iter ?_ (args_setit_iter _))
  show wpAny _ _ (ret (.ref it)) _ _ s
  exact wpAny_pure ⟨_,rfl, "set_iterator",_,hit.typeIs,slot_setit_next.lookup,h⟩
def HeadAt (w:World) (t:SetTable) (h:Heap) (ys:Option (Addr × List Nat)) (i:Nat) (f:Value):Prop:=match ys with
  | none=>f=rawInt (slotAt w t i)
  | some (tp,ys)=>f=.ref tp/\h.get? tp=some { cls:=.type "tuple",data:=.seq (ys.map fun (i:Nat)=>rawInt i).toArray }
def ordA (w:World) (a:Addr) (ep:Nat) (es:Array (Int × Value)) (ys:Option (Addr × List Nat)):List (Int × Value):=match ys with
  | none=>(ordN w a ep es).toList
  | some (_,ys)=>ys.filterMap fun i=>es[i]?
theorem ordA_perm {w:World} {a:Addr} {ep:Nat} {es:Array (Int × Value)} {ys:Option (Addr × List Nat)} (h:∀ tp l,ys=some (tp,l)->l.Perm (List.range es.size)):(ordA w a ep es ys).Perm es.toList:=by
  unfold ordA
  cases ys with
  | none=>exact ordN_perm _ _ _ _
  | some q=>
    obtain ⟨tp,l⟩:=q
    refine ((h tp l rfl).filterMap _).trans ?_
    rw [filterMap_getElem?_range]
theorem ordA_at {w:World} {a:Addr} {ep:Nat} {es:Array (Int × Value)} {tp:Addr} {l:List Nat} (h:l.Perm (List.range es.size)) (i:Nat):(ordA w a ep es (some (tp,l)))[i]?=(l[i]?).bind fun j=>es[j]?:=by
  have hl:∀ j∈l,j < es.size:=fun j hj=>by have:=h.mem_iff.mp hj; simpa using this
  show (l.filterMap fun i=>es[i]?)[i]?=_
  clear h
  induction l generalizing i with
  | nil=>rfl
  | cons x l ih=>
    have hx:=hl x (by simp)
    rw [List.filterMap_cons_some (b:=es[x]) (Array.getElem?_eq_getElem hx)]
    cases i with
    | zero=>simp [Array.getElem?_eq_getElem hx]
    | succ i=>simpa using ih i (fun j hj=>hl j (O8 _ hj))
theorem set_item {it a:Addr} {es:Array (Int × Value)} {ep i:Nat} {t:SetTable} {ys:Option (Addr × List Nat)} {f v:Value} {e:Int} {Q:Option Value->Shared->Prop} (hne:a≠it) (hit:SetIt s.heap it f i a es.size ep) (x:RawS s.heap a es ep t) (hf:t.fits es.size=true) (g:Good (byT w) t)
    (hy:HeadAt w t s.heap ys i f) (hn:ys=none->drw w es.size t=false) (hp:∀ tp l,ys=some (tp,l)->l.Perm (List.range es.size)/\tp≠it) (hv:(ordA w a ep es ys)[i]?=some (e,v))
    (hQ:∀ f' h',SetIt h' it f' (i + 1) a es.size ep->HeadAt w t h' ys (i + 1) f'->Heap.SameBut it s.heap h'->Q (some v) { s with heap:=h' }):wpAny (model prog w) A (pyNext (.ref it)) Q E s:=by
  have hT:=hit.typeIs
  unfold pyNext
  refine wpAny_bind (wpAny_attempt (wpAny_callSpecial?_slot (name:=Str.ofString "__next__") hT slot_setit_next (wpAny_call_entry slot_setit_next hT entry_setit_next ?_ (args_setit_next _))))
  unfold Builtin.«set_iterator.__next__» slotArgs
  show wpAny _ _ (fieldsOf (.ref it) >>= _) _ _ _
  refine wpAny_bind (wpAny_fieldsOf hit rfl ?_)
  show wpAny _ _ (setEntries a >>= _) _ _ _
  refine wpAny_bind (rs_entries x hf ?_)
  rw [if_neg (by simp)]
  cases ys with
  | none=>
    cases hy
    show wpAny _ _ (setNext a (slotAt w t i:Int).toNat (i:Int).toNat (ep:Int).toNat >>= _) _ _ _
    rw [Int.toNat_natCast,Int.toNat_natCast,Int.toNat_natCast]
    have hi:i < es.size:=by
      obtain ⟨q,_⟩:=O3.mp hv
      have:=(ordA_perm (w:=w) (a:=a) (ep:=ep) (es:=es) (ys:=none) (fun _ _ z=>nomatch z)).length_eq
      rw [this] at q; simpa using q
    refine wpAny_bind (next_n x hf g (hn rfl) (by omega) ?_)
    have e0:(ordN w a ep es)[i]?=some (e,v):=by rw [<- Array.getElem?_toList]; exact hv
    rw [e0]
    show wpAny _ _ (setField (.ref it) 0 (rawInt (slotAt w t (i + 1))) >>= _) _ _ _
    refine wpAny_bind (wpAny_setField_rec hit (by simp) fun h1 o1 sb1=>?_)
    refine wpAny_bind (wpAny_setField_rec (s:={ s with heap:=h1 }) o1 (by simp) fun h2 o2 sb2=>?_)
    exact wpAny_pure ⟨_,rfl,wpAny_pure (hQ _ h2 o2 rfl (sb1.trans sb2))⟩
  | some q=>
    obtain ⟨tp,l⟩:=q
    obtain ⟨rfl,ht⟩:=hy
    obtain ⟨hl,htp⟩:=hp tp l rfl
    rw [ordA_at hl] at hv
    cases zl:l[i]? with
    | none=>rw [zl] at hv; cases hv
    | some j=>
      rw [zl] at hv
      have hv:es[j]?=some (e,v):=hv
      show wpAny _ _ (seqItems? (.ref tp) >>= _) _ _ _
      refine wpAny_bind (wpAny_seqItems ht rfl ?_)
      show wpAny _ _ (match ((l.map fun (i:Nat)=>rawInt i).toArray)[(i:Int).toNat]? with | some (.int place _)=>_ | some _=>_ | none=>_) _ _ _
      rw [Int.toNat_natCast,List.getElem?_toArray,E1,zl]
      show wpAny _ _ (setNextDrawn a (j:Int).toNat (ep:Int).toNat >>= _) _ _ _
      rw [Int.toNat_natCast,Int.toNat_natCast]
      refine wpAny_bind ?_
      unfold setNextDrawn
      refine wpAny_bind (rs_state x hf ?_)
      dsimp only
      rw [if_neg (by simp),hv]
      refine wpAny_pure ?_
      refine wpAny_bind (wpAny_setField_rec hit (by simp) fun h1 o1 sb1=>?_)
      exact wpAny_pure ⟨_,rfl,wpAny_pure (hQ _ h1 o1 ⟨rfl,(sb1.2 tp htp).trans ht⟩ sb1)⟩
theorem stop_next {it:Addr} {Q:Option Value->Shared->Prop} (hh:A.handled=none) {ho:Heap} (k:Heap.ExtBut it s.heap ho) (hQ:∀ h',Heap.ExtBut it s.heap h'->Q none { s with heap:=h' }) :
    wpAny (model prog w) A.in1 (newExc (.type "StopIteration") [] >>= fun e=>raiseNew e) (fun (fin:Fin) s'=>∃ v,fin=.done (.ret v)/\wpAny (model prog w) A (pure (some v)) Q E s') (fun e s'=>wpAny (model prog w) A (do if <- isInstance e (.type "StopIteration") then pure none else throw e) Q E s') { s with heap:=ho }:=by
  refine wpAny_bind ?_
  simp only [newExc,newTuple]
  refine wpAny_bind (wpAny_newObj_type ?_ (by size_fits))
  refine wpAny_bind (m:=firstArgMember _ _) (wpAny_of_eq (a:=Value.none) (by first | rfl | (simp only [firstArgMember]; rfl)) ?_)
  refine wpAny_newObj_type ?_ (by size_fits)
  simp only [raiseNew]
  refine wpAny_bind (wpAny_handled ?_)
  rw [show A.in1.handled=none from hh]
  refine wpAny_bind (wpAny_pure (wpAny_throw ?_))
  refine wpAny_bind (wpAny_isInstance (T := "StopIteration") (b:=true) ⟨_,O7 _ rfl,rfl⟩ isSubtype_stop ?_)
  exact wpAny_pure (hQ _ ((k.push _).push _))
theorem set_end {it a:Addr} {es:Array (Int × Value)} {ep:Nat} {t:SetTable} {ys:Option (Addr × List Nat)} {f:Value} {Q:Option Value->Shared->Prop} (hh:A.handled=none) (hit:SetIt s.heap it f es.size a es.size ep) (x:RawS s.heap a es ep t) (hf:t.fits es.size=true) (g:Good (byT w) t)
    (hy:HeadAt w t s.heap ys es.size f) (hn:ys=none->drw w es.size t=false) (hp:∀ tp l,ys=some (tp,l)->l.Perm (List.range es.size)/\tp≠it)
    (hQ:∀ h',Heap.ExtBut it s.heap h'->Q none { s with heap:=h' }):wpAny (model prog w) A (pyNext (.ref it)) Q E s:=by
  have hT:=hit.typeIs
  unfold pyNext
  refine wpAny_bind (wpAny_attempt (wpAny_callSpecial?_slot (name:=Str.ofString "__next__") hT slot_setit_next (wpAny_call_entry slot_setit_next hT entry_setit_next ?_ (args_setit_next _))))
  unfold Builtin.«set_iterator.__next__» slotArgs
  show wpAny _ _ (fieldsOf (.ref it) >>= _) _ _ _
  refine wpAny_bind (wpAny_fieldsOf hit rfl ?_)
  show wpAny _ _ (setEntries a >>= _) _ _ _
  refine wpAny_bind (rs_entries x hf ?_)
  rw [if_neg (by simp)]
  cases ys with
  | none=>
    cases hy
    show wpAny _ _ (setNext a (slotAt w t es.size:Int).toNat (es.size:Int).toNat (ep:Int).toNat >>= _) _ _ _
    rw [Int.toNat_natCast,Int.toNat_natCast,Int.toNat_natCast]
    refine wpAny_bind (next_n x hf g (hn rfl) (O4 _) ?_)
    have e0:(ordN w a ep es)[es.size]?=none:=Array.getElem?_eq_none (by rw [ordN_size]; exact O4 _)
    rw [e0]
    show wpAny _ _ (setField (.ref it) 2 .none >>= _) _ _ _
    refine wpAny_bind (wpAny_setField_rec hit (by simp) fun h1 o1 sb1=>?_)
    exact stop_next (s:=s) hh sb1.extBut hQ
  | some q=>
    obtain ⟨tp,l⟩:=q
    obtain ⟨rfl,ht⟩:=hy
    obtain ⟨hl,htp⟩:=hp tp l rfl
    have hz:l[es.size]?=none:=List.getElem?_eq_none (by rw [hl.length_eq,F0]; exact O4 _)
    show wpAny _ _ (seqItems? (.ref tp) >>= _) _ _ _
    refine wpAny_bind (wpAny_seqItems ht rfl ?_)
    show wpAny _ _ (match ((l.map fun (i:Nat)=>rawInt i).toArray)[(es.size:Int).toNat]? with | some (.int place _)=>_ | some _=>_ | none=>_) _ _ _
    rw [Int.toNat_natCast,List.getElem?_toArray,E1,hz]
    show wpAny _ _ (setField (.ref it) 0 (rawInt 0) >>= _) _ _ _
    refine wpAny_bind (wpAny_setField_rec hit (by simp) fun h1 o1 sb1=>?_)
    refine wpAny_bind (wpAny_setField_rec (s:={ s with heap:=h1 }) o1 (by simp) fun h2 o2 sb2=>?_)
    exact stop_next (s:=s) hh (sb1.trans sb2).extBut hQ
def fpOf (it a:Addr) (ys:Option (Addr × List Nat)):List Addr:=match ys with
  | none=>[it,a]
  | some (tp,_)=>[it,a,tp]
theorem walks_set {it a:Addr} {es:Array (Int × Value)} {ep:Nat} {t:SetTable} {ys:Option (Addr × List Nat)} (hh:A.handled=none) (hne:a≠it) (hf:t.fits es.size=true) (g:Good (byT w) t) (hn:ys=none->drw w es.size t=false) (hp:∀ tp l,ys=some (tp,l)->l.Perm (List.range es.size)/\tp≠it) :
    Walks prog w A it (fpOf it a ys) [it] es.size (fun i v=>∃ e,(ordA w a ep es ys)[i]?=some e/\v=e.2) (fun i h=>RawS h a es ep t/\∃ f,SetIt h it f i a es.size ep/\HeadAt w t h ys i f) where
  sub:=fun b hb=>by
    have:b=it:=by simpa using hb
    subst this
    unfold fpOf
    cases ys <;> simp
  frame:=fun i h h' st hk=>by
    obtain ⟨x,f,h1,h2⟩:=st
    have m1:it∈fpOf it a ys:=by unfold fpOf; cases ys <;> simp
    have m2:a∈fpOf it a ys:=by unfold fpOf; cases ys <;> simp
    refine ⟨x.at fun o e=>hk a m2 o e,f,h1.at fun o e=>hk it m1 o e,?_⟩
    cases ys with
    | none=>exact h2
    | some q=>exact ⟨h2.1,hk q.1 (by unfold fpOf; simp) _ h2.2⟩
  item:=fun i s Q E hi st hQ=>by
    obtain ⟨x,f,h1,h2⟩:=st
    have hl:(ordA w a ep es ys).length=es.size:=by
      have:=(ordA_perm (w:=w) (a:=a) (ep:=ep) (es:=es) (ys:=ys) fun tp l z=>(hp tp l z).1).length_eq
      simpa using this
    have hlt:i < (ordA w a ep es ys).length:=by omega
    refine set_item hne h1 x hf g h2 hn hp (e:=(ordA w a ep es ys)[i].1) (v:=(ordA w a ep es ys)[i].2) (O1 hlt) fun f' h' i1 i2 sb=>?_
    exact hQ _ h' s.toks ⟨_,O1 hlt,rfl⟩ ⟨x.at fun o e=>(sb.2 a hne).trans e,f',i1,i2⟩ fun b o hb e=>sb.extBut b o (fun z=>hb (by simp [z])) e
  done:=fun s Q E st hQ=>by
    obtain ⟨x,f,h1,h2⟩:=st
    exact set_end hh h1 x hf g h2 hn hp fun h' k=>hQ h' s.toks fun b o hb e=>k b o (fun z=>hb (by simp [z])) e
  self:=fun i s Q E st hQ=>by
    obtain ⟨x,f,h1,h2⟩:=st
    exact pyIter_setit h1 hQ
theorem hint_set {r:Addr} {Q:Bool->Shared->Prop} (hT:s.TypeIs (.ref r) "set") (h:Q false s):wpAny (model prog w) A (Builtin.List.listLengthHint (.ref r)) Q E s:=by
  unfold Builtin.List.listLengthHint
  refine wpAny_bind (wpAny_specialOf hT PySem.F.slot_set_len.lookup ?_)
  generalize hid:("set.__len__" : String)=id0
  wp_delta
  rw [show splitId id0=some ("set", "__len__") from by subst hid; decide +kernel]
  subst hid
  refine wpAny_bind (wpAny_isInstance (T := "set") (b:=true) hT (by rw [isSubtype_type]; kernel_rfl) ?_)
  refine wpAny_ite_split (fun z=>absurd z (by decide)) (fun _=>?_)
  refine wpAny_ite_split (fun _=>?_) (fun z=>absurd (by decide +kernel) z)
  exact wpAny_bind (wpAny_typeOf hT (wpAny_pure h))
end
end L2
namespace L2
open PySem PySem.Spec PyProof.Rows
section
variable {prog:Program} {w:World} {A:Around} {E:Value->Shared->Prop} {s:Shared}
theorem ext_set {R:Result->Shared->Prop} {r:Addr} {es:Array (Int × Value)} {ep:Nat} {t:SetTable} (hh:A.handled=none) (x:RawS s.heap r es ep t) (hf:t.fits es.size=true) (g:Good (byT w) t) (S:Addr) (hSr:S≠r) (res:Value) (c₀:Nat) (hS:s.heap.get? S=some { cls:=.type "list",data:=.seq #[] c₀ })
    (hR:∀ h' d' tk (acc:Array Value) c',acc.toList.Perm (es.toList.map (·.2))->(∀ b o,b≠S->s.heap.get? b=some o->h'.get? b=some o)->h'.get? S=some { cls:=.type "list",dict:=none,data:=.seq acc c',slots:=#[] }->R (.ok (.ret res)) { s with heap:=h',drawn:=d',toks:=tk }) (hn:es.size<=sizeLine) :
    wpAny (model prog w) A.in1 (Builtin.List.listExtendWith (.ref S) (.ref r) res)
      (fun fin s'=>match fin with | .done f=>R (.ok f) s' | .again c'=>c'.quiet=true/\codeAny (model prog w) A c' R s') (fun e s'=>R (.error e) s') s:=by
  have hS0:=O6 hS
  have key:∀ (ys:Option (Addr × List Nat)) (I:Addr) (h:Heap) (d':Drawn) (c₁ tk:Nat),s.heap.objs.size<=I->(ys=none->drw w es.size t=false)->(∀ tp l,ys=some (tp,l)->l.Perm (List.range es.size)/\tp≠I/\s.heap.objs.size<=tp) ->
      RawS h r es ep t->(∃ f,SetIt h I f 0 r es.size ep/\HeadAt w t h ys 0 f)->(∀ b o,b≠S->s.heap.get? b=some o->h.get? b=some o) ->
      h.get? S=some { cls:=.type "list",data:=.seq #[] c₁ }->codeAny (model prog w) A (.builtin "list.extend.loop" ⟨[.ref S,.ref I,res],[]⟩) R { s with heap:=h,drawn:=d',toks:=tk }:=by
    intro ys I h d' c₁ tk hI hn0 hp0 hx hst hk hS₁
    have hSI:S≠I:=O9 (D0 hS0 hI)
    have hrI:r≠I:=O9 (D0 x.lt hI)
    have W:=walks_set (prog:=prog) (A:=A.in1) (it:=I) (a:=r) (es:=es) (ep:=ep) (t:=t) (ys:=ys) (by simpa using hh) hrI hf g hn0 fun tp l z=>⟨(hp0 tp l z).1,(hp0 tp l z).2.1⟩
    have hSf:S∉fpOf I r ys:=by
      unfold fpOf
      cases ys with
      | none=>simp only [D1,List.not_mem_nil,or_false,not_or]; exact ⟨hSI,hSr⟩
      | some q=>simp only [D1,List.not_mem_nil,or_false,not_or]; exact ⟨hSI,hSr,O9 (D0 hS0 (hp0 q.1 q.2 rfl).2.2)⟩
    refine codeAny_extend_loopS W.toS hn S hSf res es.size 0 _ #[] c₁ rfl (G8 _) ⟨hx,hst⟩ hS₁ (ItemsOf.nil _) fun s' acc c' hm hS' hacc=>?_
    rw [Moved.eq_with hm]
    have pm:=ordA_perm (w:=w) (a:=r) (ep:=ep) (es:=es) (ys:=ys) fun tp l z=>(hp0 tp l z).1
    have hl:=pm.length_eq
    simp only [Array.length_toList] at hl
    have e:acc.toList=(ordA w r ep es ys).map (·.2):=by
      apply List.ext_getElem?
      intro i
      by_cases z:i < es.size
      · have hi:i < acc.size:=by rw [hacc.1]; exact z
        obtain ⟨e,h1,h2⟩:=hacc.2 i acc[i] (Array.getElem?_eq_getElem hi)
        rw [Array.getElem?_toList,Array.getElem?_eq_getElem hi,h2,E1,h1]; rfl
      · rw [Array.getElem?_toList,Array.getElem?_eq_none (by rw [hacc.1]; omega),E1,List.getElem?_eq_none (by omega)]; rfl
    refine hR s'.heap d' s'.toks acc c' (by rw [e]; exact pm.map _) (fun b o hb q=>hm.heap b o (fun hmem=>?_) (hk b o hb q)) hS'
    rcases D1.mp hmem with z | hmem
    · exact hb z
    · have:=O6 q
      rw [E6.mp hmem] at this
      exact absurd (D0 this hI) (G9 _)
  have main:∀ (bf:Bool->Bool) (ys:Option (Addr × List Nat)) (I:Addr) (h:Heap) (d':Drawn),s.heap.objs.size<=I->(ys=none->drw w es.size t=false)->(∀ tp l,ys=some (tp,l)->l.Perm (List.range es.size)/\tp≠I/\s.heap.objs.size<=tp) ->
      RawS h r es ep t->(∃ f,SetIt h I f 0 r es.size ep/\HeadAt w t h ys 0 f)->(∀ b o,s.heap.get? b=some o->h.get? b=some o) ->
      wpAny (model prog w) A.in1 (do
          let room <- holding [.ref I] (Builtin.List.listLengthHint (.ref r))
          if bf room then
            rule "list.extend.makes-room"
            Builtin.List.listTouch (.ref S)
          again (.builtin "list.extend.loop" ⟨[.ref S,.ref I,res],[]⟩))
        (fun fin s'=>match fin with | .done f=>R (.ok f) s' | .again c'=>c'.quiet=true/\codeAny (model prog w) A c' R s') (fun e s'=>R (.error e) s') { s with heap:=h,drawn:=d' }:=by
    intro bf ys I h d' hI hn0 hp0 hx hst hk
    refine wpAny_bind (wpAny_holding (hint_set (s:={ s with heap:=h,drawn:=d' }) hx.typeIs ?_))
    refine wpAny_ite_split (fun _=>?_) (fun _=>wpAny_pure ⟨plainId_quiet PySem.F.plain_extend_loop _,key ys I h d' c₀ s.toks hI hn0 hp0 hx hst (fun b o _ q=>hk b o q) (hk _ _ hS)⟩)
    refine wpAny_bind (wpAny_rule (wpAny_bind ?_))
    show wpAny _ _ (updateSeq S (·.push .none) >>= fun _=>updateSeq S (·.pop)) _ _ _
    have s1:=hk _ _ hS
    refine wpAny_bind (wpAny_updateSeq (s:={ s with heap:=h,drawn:=d' }) s1 rfl ?_)
    have s2:=L4 (Obj.mapSeq (·.push Value.none)) s1 rfl
    refine wpAny_updateSeq (hz:=by seq_fits) s2 rfl ?_
    have s3:=L4 (Obj.mapSeq (·.pop)) s2 rfl
    have oth:∀ b o,b≠S->h.get? b=some o->((h.update S (Obj.mapSeq (·.push Value.none))).update S (Obj.mapSeq (·.pop))).get? b=some o:=fun b o hb q=>(F7 _ _ (Ne.symm hb)).trans ((F7 _ _ (Ne.symm hb)).trans q)
    have nI:I≠S:=Nat.ne_of_gt (D0 hS0 hI)
    refine wpAny_pure ⟨plainId_quiet PySem.F.plain_extend_loop _,key ys I _ d' _ s.toks hI hn0 hp0 (hx.at fun o q=>oth r o (Ne.symm hSr) q) ?_ (fun b o hb q=>oth b o hb (hk b o q)) s3⟩
    obtain ⟨f,i1,i2⟩:=hst
    refine ⟨f,i1.at fun o q=>oth I o nI q,?_⟩
    cases ys with
    | none=>exact i2
    | some q=>exact ⟨i2.1,oth q.1 _ (Nat.ne_of_gt (D0 hS0 (hp0 q.1 q.2 rfl).2.2)) i2.2⟩
  unfold Builtin.List.listExtendWith
  refine wpAny_bind (wpAny_typeOf (T := "set") x.typeIs ?_)
  have h1:Builtin.List.listSameRef (.ref S) (.ref r)=false:=by simp [Builtin.List.listSameRef,hSr]
  have e1:(Value.type "set" == Value.type "list")=false:=by decide
  have e2:(Value.type "set" == Value.type "tuple")=false:=by decide
  simp only [h1,e1,e2,Bool.or_false,F3,if_false]
  refine wpAny_bind (set_iter x hf hn (fun z=>?_) fun z ys d' hp=>?_)
  · exact main _ none s.heap.objs.size (s.heap.push { cls:=.type "set_iterator",data:=.fields #[rawInt 0,rawInt 0,.ref r,rawInt es.size,rawInt ep] }) s.drawn (O4 _) (fun _=>z) (fun _ _ q=>nomatch q) (x.at fun o q=>O0 _ q) ⟨_,O7 _ rfl,by unfold HeadAt slotAt; simp⟩ (fun b o q=>O0 _ q)
  · have hz:s.heap.objs.size + 1=(s.heap.push { cls:=.type "tuple",data:=.seq (ys.map fun (i:Nat)=>rawInt i).toArray }).objs.size:=(E7 _ _).symm
    exact main _ (some (s.heap.objs.size,ys)) (s.heap.objs.size + 1) ((s.heap.push { cls:=.type "tuple",data:=.seq (ys.map fun (i:Nat)=>rawInt i).toArray }).push { cls:=.type "set_iterator",data:=.fields #[.ref s.heap.objs.size,rawInt 0,.ref r,rawInt es.size,rawInt ep] }) d' (Nat.le_succ _) (fun q=>nomatch q)
      (fun tp l q=>by cases q; exact ⟨hp,O9 (Nat.lt_succ_self _),O4 _⟩) (x.at fun o q=>O0 _ (O0 _ q)) ⟨.ref s.heap.objs.size,by rw [hz]; exact O7 _ rfl,rfl,O0 _ (O7 _ rfl)⟩ (fun b o q=>O0 _ (O0 _ q))
theorem ints_perm {l l':List Value} (p:l'.Perm l):∀ {ns:List Int},IntsAre l ns->∃ ns',IntsAre l' ns'/\ns'.Perm ns:=by
  induction p with
  | nil=>intro ns h; exact ⟨ns,h,List.Perm.refl _⟩
  | cons x _ ih=>
    intro ns h
    cases h with
    | cons n t hr=>
      obtain ⟨ks,h1,h2⟩:=ih hr
      exact ⟨_,.cons n t h1,h2.cons _⟩
  | swap x y l=>
    intro ns h
    cases h with
    | cons n t hr=>
      cases hr with
      | cons n' t' hr'=>exact ⟨_,.cons n' t' (.cons n t hr'),List.Perm.swap _ _ _⟩
  | trans _ _ ih1 ih2=>
    intro ns h
    obtain ⟨k1,h1,p1⟩:=ih2 h
    obtain ⟨k2,h2,p2⟩:=ih1 h1
    exact ⟨k2,h2,p2.trans p1⟩
theorem collect_set {d:Addr} {es:Array (Int × Value)} {ep:Nat} {t:SetTable} {Q:List Value->Shared->Prop} (hh:A.handled=none) (x:RawS s.heap d es ep t) (hf:t.fits es.size=true) (g:Good (byT w) t) (hn:es.size<=sizeLine)
    (h:∀ vs h' d' tk,vs.Perm (es.toList.map (·.2))->(∀ b o,s.heap.get? b=some o->h'.get? b=some o)->s.heap.objs.size<=h'.objs.size->Q vs { s with heap:=h',drawn:=d',toks:=tk }):wpAny (model prog w) A (collect (.ref d)) Q E s:=by
  unfold collect
  refine wpAny_bind (wpAny_runValue (codeAny_builtin PySem.F.entry_proto_collect ?_))
  rw [Around.under_plainId PySem.F.plain_proto_collect _]
  show wpAny _ A.in1 (newList [] >>= fun l=>again (.builtin "list.__iadd__" ⟨[l,.ref d],[]⟩)) _ _ s
  refine wpAny_bind (wpAny_newObj_type ?_)
  refine wpAny_pure ⟨plainId_quiet PySem.F.plain_list_iadd _,codeAny_builtin PySem.F.entry_list_iadd ?_⟩
  rw [Around.under_plainId PySem.F.plain_list_iadd _]
  have hS:(s.heap.push { cls:=.type "list",data:=.seq ([]:List Value).toArray }).get? s.heap.objs.size=some { cls:=.type "list",data:=.seq ([]:List Value).toArray }:=O7 _ rfl
  have hk0:∀ b o,s.heap.get? b=some o->(s.heap.push { cls:=.type "list",data:=.seq ([]:List Value).toArray }).get? b=some o:=fun b o e=>O0 _ e
  have hne:s.heap.objs.size≠d:=Nat.ne_of_gt x.lt
  show wpAny _ A.in1 (Builtin.List.listExtendWith (.ref s.heap.objs.size) (.ref d) (.ref s.heap.objs.size)) _ _ _
  refine ext_set (prog:=prog) (w:=w) (A:=A) (R:=fun r s'=>match r with | .ok (.ret v)=>wpAny (model prog w) A (match v with | .ref a=>do { let o <- load a; match o.data with | .seq xs _=>pure xs.toList | _=>unsupported "internal:collect" } | _=>unsupported "internal:collect") Q E s' | .ok _=>False | .error e=>E e s') (s:={ s with heap:=s.heap.push { cls:=.type "list",data:=.seq ([]:List Value).toArray } }) hh (x.at fun o e=>hk0 d o e) hf g s.heap.objs.size hne _ _ hS (fun h' d' tk acc c pm hk hS'=>?_) hn
  show wpAny _ A (load s.heap.objs.size >>= _) _ _ _
  refine wpAny_bind (wpAny_load hS' ?_)
  exact wpAny_pure (h _ h' d' tk pm (fun b o q=>hk b o (O9 (O6 q)) (hk0 b o q)) (L5 (O6 hS')))
theorem sorted_set {d:Addr} {es:Array (Int × Value)} {ep:Nat} {t:SetTable} {ns:List Int} {Q:Value->Shared->Prop} (hh:A.handled=none) (x:RawS s.heap d es ep t) (hf:t.fits es.size=true) (g:Good (byT w) t) (hI:IntsAre (es.toList.map (·.2)) ns) (h64:es.size < 64)
    (h:∀ (out:Array Value) (ns':List Int) (h':Heap) (d':Drawn) (tk D k:Nat),IntsAre out.toList ns'->ns'.Perm ns->ns'.Pairwise (·<=·)->s.heap.objs.size<=D->h'.get? D=some (seqObj "list" out k)->(∀ b o,s.heap.get? b=some o->h'.get? b=some o)->Q (.ref D) { s with heap:=h',drawn:=d',toks:=tk }) :
    wpAny (model prog w) A (call (.builtin "sorted") [.ref d]) Q E s:=by
  have hsz:es.size<=sizeLine:=by rw [sizeLine_eq]; omega
  refine Calls.call_function_entry kind_sorted plain_sorted entry_sorted (args_sorted1 _) ?_
  unfold Builtin.«sorted»
  refine wpAny_bind (m:=checkCount "sorted" 1 1 _) (wpAny_pure ?_)
  refine wpAny_bind (collect_set (by simpa using hh) x hf g hsz fun vs h1 d1 tk1 pm keep1 hle=>?_)
  have hl:vs.length=es.size:=by rw [pm.length_eq]; simp
  obtain ⟨n1,i1,p1⟩:=ints_perm pm hI
  refine wpAny_bind (wpAny_newList ?_ (by rw [sizeLine_eq]; omega))
  have hoL:(h1.push (seqObj "list" vs.toArray 0)).get? h1.objs.size=some (seqObj "list" vs.toArray 0):=O7 _ rfl
  have keep:∀ b o,s.heap.get? b=some o->(h1.push (seqObj "list" vs.toArray 0)).get? b=some o:=fun b o q=>O0 _ (keep1 b o q)
  show wpAny _ _ _ _ _ { s with heap:=h1.push (seqObj "list" vs.toArray 0),drawn:=d1,toks:=tk1 }
  refine wpAny_bind (wpAny_holding (wpAny_call_entry slot_list_sort ⟨_,hoL,rfl⟩ entry_list_sort (list_sort_tree (s:={ s with heap:=h1.push (seqObj "list" vs.toArray 0),drawn:=d1,toks:=tk1 }) hoL i1 (by omega) fun out ns' a1 a2 a3=>⟨_,rfl,?_⟩) (args_list_sort _)))
  obtain ⟨k,hk⟩:=sortedHeap_at (out:=out) hoL
  refine wpAny_pure ⟨_,rfl,h out ns' _ d1 tk1 h1.objs.size k a1 (a2.trans p1) a3 hle hk fun b o q=>?_⟩
  have hb:=O6 (keep1 b o q)
  exact (sortedHeap_old (O9 hb) (D0 hb (by rw [E7]; exact Nat.le_succ _))).trans (keep b o q)
end
def insI (a:Int):List Int->List Int
  | []=>[a]
  | b :: r=>if a<=b then a :: b :: r else b :: insI a r
def sortI:List Int->List Int
  | []=>[]
  | a :: r=>insI a (sortI r)
theorem insI_perm (a:Int):∀ l,(insI a l).Perm (a :: l)
  | []=>List.Perm.refl _
  | b :: r=>by
    rw [insI]
    split
    · exact List.Perm.refl _
    · exact ((insI_perm a r).cons b).trans (List.Perm.swap a b r)
theorem sortI_perm:∀ l,(sortI l).Perm l
  | []=>List.Perm.refl _
  | a :: r=>(insI_perm a (sortI r)).trans ((sortI_perm r).cons a)
theorem insI_sorted {a:Int}:∀ {l:List Int},l.Pairwise (·<=·)->(insI a l).Pairwise (·<=·)
  | [],_=>by rw [insI]; exact List.pairwise_singleton _ _
  | b :: r,h=>by
    obtain ⟨h1,h2⟩:=F1.mp h
    rw [insI]
    split
    · rename_i q
      refine F1.mpr ⟨fun x hx=>?_,h⟩
      rcases D1.mp hx with rfl | hx
      · exact q
      · exact Int.le_trans q (h1 x hx)
    · rename_i q
      refine F1.mpr ⟨fun x hx=>?_,insI_sorted h2⟩
      rcases D1.mp ((insI_perm a r).mem_iff.mp hx) with rfl | hx
      · omega
      · exact h1 x hx
theorem sortI_sorted:∀ l,(sortI l).Pairwise (·<=·)
  | []=>List.Pairwise.nil
  | a :: r=>insI_sorted (sortI_sorted r)
theorem sortI_uniq:∀ {a b:List Int},a.Perm b->a.Pairwise (·<=·)->b.Pairwise (·<=·)->a=b
  | [],b,h,_,_=>(List.nil_perm.mp h).symm
  | x :: a,[],h,_,_=>absurd (List.perm_nil.mp h) (by simp)
  | x :: a,y :: b,h,ha,hb=>by
    obtain ⟨a1,a2⟩:=F1.mp ha
    obtain ⟨b1,b2⟩:=F1.mp hb
    have e:x=y:=by
      rcases D1.mp (h.mem_iff.mp (E4 (a:=x) (l:=a))) with e | hx
      · exact e
      · rcases D1.mp (h.mem_iff.mpr (E4 (a:=y) (l:=b))) with e | hy
        · exact e.symm
        · exact Int.le_antisymm (a1 y hy) (b1 x hx)
    subst e
    rw [sortI_uniq (List.Perm.cons_inv h) a2 b2]
def gset (P:Program) (w:World) (a:Addr) (ks:List Int):HO:=.ext fun h=>GS (intKind P w) (byT w) h a ks
theorem Inv.redraw {X:Cx} {pins:List (Addr × Obj)} {σ:List (Option V)} {H:Hp} {s:Shared} (I:Inv X pins σ H s) (d':Drawn):Inv X pins σ H { s with drawn:=d' }:=⟨I.ok,I.os,I.bare,I.base,I.loc,I.cell,I.free,I.freeC,I.pin,I.hok,I.len⟩
theorem ints_key {vs:List Value} {ns:List Int} (h:IntsAre vs ns) (i:Nat) (v:Value) (e:vs[i]?=some v):∃ k,ns[i]?=some k/\Value.isInt k v=true/\v.scannable=true:=by
  induction h generalizing i with
  | nil=>simp at e
  | cons n t hr ih=>
    cases i with
    | zero=>simp at e; subst e; exact ⟨n,rfl,by simp [Value.isInt],rfl⟩
    | succ i=>exact ih i (by simpa using e)
section
variable {X:Cx}
theorem call_setG (hc:X.calm=true):CallR X (.type "set") (fun xs H Q=>∃ p ns,xs=[.ref p]/\(SqL X.K H p (ns.map V.int)\/SqT X.K H p (ns.map V.int))/\ns.length<=4000/\∀ l,H l=none->Q (.ref l) (upd H l (gset X.prog X.w l (metK ns)))):=by
  intro pins s σ H xs us Q I r h
  obtain ⟨p,ns,rfl,hq,hl,q⟩:=h
  obtain ⟨u,rfl,rx⟩:=vals1 r
  cases rx
  have hb:ns.length + 1 < scanBound:=by unfold scanBound; omega
  have fin:∀ (h':Heap) (tk:Nat),GS (intKind X.prog X.w) (byT X.w) h' s.heap.objs.size (metK ns)->(∀ b o,s.heap.get? b=some o->h'.get? b=some o)->∃ x H',Inv X pins σ H' { s with heap:=h',toks:=tk }/\RelV x (.ref s.heap.objs.size)/\Q x H':=fun h' tk gs k=>by
    refine ⟨.ref s.heap.objs.size,upd H s.heap.objs.size (gset X.prog X.w s.heap.objs.size (metK ns)),I.laid (t':=tk) k (O4 _) ⟨gs,?_,fun h1 h2 z kk=>z.at kk⟩,rfl,q _ (I.hok.fresh (O4 _))⟩
    obtain ⟨o,ho,_⟩:=gs
    exact ⟨o,ho⟩
  rcases hq with hq | hq
  · obtain ⟨its,r',pl,hz⟩:=I.list hq
    have hi:=intsAre_of r'
    have hlen:its.length=ns.length:=by rw [<- r'.length,O2]
    exact set_of_list (knd:=intKind X.prog X.w) (ks:=ns) (I.ok.hd hc) pl.isList (by rw [O5,hlen]) (fun i v e=>ints_key hi i v (by simpa using e)) hb fin
  · obtain ⟨its,r',pl,hz⟩:=I.tuple hq
    have hi:=intsAre_of r'
    have hlen:its.length=ns.length:=by rw [<- r'.length,O2]
    exact set_of_tuple (knd:=intKind X.prog X.w) (ks:=ns) (I.ok.hd hc) pl (by rw [O5,hlen]) (fun i v e=>ints_key hi i v (by simpa using e)) hb fin
theorem ints_paired {P:Program} {w:World}:∀ {es:List (Int × Value)} {ks:List Int},Paired (ElK (intKind P w)) es ks->IntsAre (es.map (·.2)) ks
  | [],_,.nil=>.nil
  | e :: es,k :: ks,.cons r t=>by
    obtain ⟨tk,h⟩:=Value.isInt_shape r.1
    rw [D5,h]
    exact .cons k tk (ints_paired t)
theorem vals_intsA:∀ {vs:List Value} {ns:List Int},IntsAre vs ns->Vals (ns.map V.int) vs
  | _,_,.nil=>.nil
  | _,_,.cons n t hr=>.cons ⟨t,rfl⟩ (vals_intsA hr)
theorem call_sortedG (hc:X.calm=true):CallR X (.builtin "sorted") (fun xs H Q=>∃ p ks,xs=[.ref p]/\H p=some (gset X.prog X.w p ks)/\ks.length < 64/\∀ d,H d=none->Q (.ref d) (upd H d (.lst ((sortI ks).map V.int)))):=by
  intro pins s σ H xs us Q I r h
  obtain ⟨p,ks,rfl,hp,hl,q⟩:=h
  obtain ⟨u,rfl,rx⟩:=vals1 r
  cases rx
  obtain ⟨gs,_,_⟩:=I.hok p _ hp
  obtain ⟨o,ho,hx,es,ep,t,hd,⟨k0,p0,r0⟩,hb,hf,hg⟩:=gs
  have hz:es.size=ks.length:=by rw [<- Array.length_toList,Paired.length r0,p0.length_eq]
  refine sorted_set (I.ok.hd hc) ⟨o,ho,hx,hd⟩ hf hg (ints_paired r0) (by omega) fun out ns' h' d' tk D k a1 a2 a3 a4 a5 a6=>?_
  have e:ns'=sortI ks:=sortI_uniq ((a2.trans p0).trans (sortI_perm ks).symm) a3 (sortI_sorted ks)
  subst e
  refine ⟨.ref D,upd H D (.lst ((sortI ks).map V.int)),Inv.redraw (I.laid (t':=tk) (o:=.lst ((sortI ks).map V.int)) a6 a4 ⟨?_,out.toList,k,vals_intsA a1,?_⟩) d',rfl,q D (I.hok.fresh a4)⟩
  · rw [O2,(sortI_perm ks).length_eq,sizeLine_eq]; omega
  · rw [Array.toArray_toList]; exact a5
end
end L2
namespace L2
open PySem PySem.Spec PyProof.Rows
section
variable {prog:Program} {w:World} {A:Around} {E:Value->Shared->Prop} {s:Shared}
end
section
variable {X:Cx}
end
end L2
namespace L2
open PySem PySem.Spec PyProof.Rows SeqAt
section
variable {prog:Program} {w:World} {K:Type} [DecidableEq K] {knd:KeyKind prog w K} {A:Around} {E:Value->Shared->Prop} {s:Shared}
end
section
variable {prog:Program} {w:World} {K:Type} [DecidableEq K] {knd:KeyKind prog w K} {A:Around} {E:Value->Shared->Prop} {s:Shared}
end
section
variable {X:Cx}
end
end L2
namespace L2
open PySem PySem.Spec PyProof.Rows SeqAt
section
variable {X:Cx}
end
end L2
namespace Sm
open PySem PySem.Spec L2
inductive PV where
  | non | bl (b:Bool) | int (i:Int) | str (x:Str) | tup (xs:List PV) | lst (xs:List PV) | fro (xs:List PV) | ref (i:Nat) | dic
inductive Cell where
  | lst (xs:List PV) | dic (kvs:List (Key × PV)) | dtp (kvs:List (List Key × PV)) | frd (kvs:List (Key × PV))
  | obj (C:Addr) (fs:List (Str × PV))
abbrev Q0:=List Cell
structure Exc where
  cls:Str
  fs:Option (Str × PV):=none
inductive Res (α:Type) where
  | ok (a:α) (st:Q0) | exc (x:Exc) (st:Q0) | stuck
abbrev Gam:=List (Option PV)
abbrev ME:=Gam->Q0->Res PV
structure Tk where
  tr:List Addr
  hid:List Addr
instance:Membership Addr Tk:=⟨fun t a=>a∈t.tr\/a∈t.hid⟩
def Tk.nil:Tk:=⟨[],[]⟩
theorem Tk.not_nil (a:Addr):a∉Tk.nil:=fun z=>by rcases z with z | z <;> cases z
def Tk.add (t:Tk) (p:Addr):Tk:=⟨t.tr ++ [p],t.hid⟩
def Tk.hide (t:Tk) (p:Addr):Tk:=⟨t.tr,p :: t.hid⟩
mutual
def Rep (H:Hp) (ρ:Tk):PV->V->Prop
  | .non,v=>v=.non
  | .bl b,v=>v=.bl b
  | .int i,v=>v=.int i
  | .str x,v=>v=.str x
  | .tup ps,v=>∃ a vs,v=.ref a/\H a=some (.tup vs)/\a∉ρ/\RepL H ρ ps vs
  | .lst ps,v=>∃ a vs,v=.ref a/\H a=some (.lst vs)/\a∉ρ/\RepL H ρ ps vs
  | .fro ps,v=>∃ a vs,v=.ref a/\Rd H a (.lst vs)/\a∉ρ/\RepL H ρ ps vs
  | .ref i,v=>∃ a,ρ.tr[i]?=some a/\v=.ref a
  | .dic,v=>∃ a,v=.ref a/\H a=some (.dK [])/\a∉ρ
def RepL (H:Hp) (ρ:Tk):List PV->List V->Prop
  | [],vs=>vs=[]
  | p :: ps,vs=>∃ v r,vs=v :: r/\Rep H ρ p v/\RepL H ρ ps r
end
structure Ext (H:Hp) (ρ:Tk) (H':Hp) (ρ':Tk):Prop where
  pre:ρ.tr <+: ρ'.tr
  hidM:∀ a,a∈ρ.hid->a∈ρ'.hid
  hidN:∀ a,a∈ρ'.hid->a∈ρ.hid\/H a=none
  keep:∀ a o,H a=some o->a∉ρ.tr->H' a=some o
  new:∀ a,a∈ρ'.tr->a∈ρ.tr\/H a=none
  old:∀ a o,H a=some o->∃ o',H' a=some o'
  frz:∀ a o u,H a=some (.frz o u)->H' a=some (.frz o u)
theorem Ext.refl (H:Hp) (ρ:Tk):Ext H ρ H ρ:=⟨List.prefix_refl _,fun _ h=>h,fun _ h=>.inl h,fun _ _ h _=>h,fun _ h=>.inl h,fun _ o h=>⟨o,h⟩,fun _ _ _ h=>h⟩
theorem Ext.trans {H H1 H2:Hp} {ρ ρ1 ρ2:Tk} (a:Ext H ρ H1 ρ1) (b:Ext H1 ρ1 H2 ρ2):Ext H ρ H2 ρ2 where
  pre:=a.pre.trans b.pre
  hidM:=fun x h=>b.hidM x (a.hidM x h)
  hidN:=fun x h=>by
    rcases b.hidN x h with z | z
    · exact a.hidN x z
    · right
      cases q:H x with
      | none=>rfl
      | some o=>
        obtain ⟨o',e⟩:=a.old x o q
        rw [e] at z; cases z
  keep:=fun x o h n=>b.keep x o (a.keep x o h n) fun z=>by
    rcases a.new x z with z | z
    · exact n z
    · rw [h] at z; cases z
  new:=fun x h=>by
    rcases b.new x h with z | z
    · exact a.new x z
    · right
      cases q:H x with
      | none=>rfl
      | some o=>
        obtain ⟨o',e⟩:=a.old x o q
        rw [e] at z; cases z
  old:=fun x o h=>by
    obtain ⟨o',e⟩:=a.old x o h
    exact b.old x o' e
  frz:=fun x o u h=>b.frz x o u (a.frz x o u h)
theorem Ext.add {H:Hp} {ρ:Tk} {p:Addr} {o:HO} (h:H p=none):Ext H ρ (upd H p o) ρ where
  pre:=List.prefix_refl _
  hidM:=fun _ h=>h
  hidN:=fun _ h=>.inl h
  keep:=fun a u e _=>by rw [Q7 (Q8 e h)]; exact e
  new:=fun a e=>.inl e
  old:=fun a u e=>⟨u,by rw [Q7 (Q8 e h)]; exact e⟩
  frz:=fun a o u e=>by rw [Q7 (Q8 e h)]; exact e
theorem Ext.addT {H:Hp} {ρ:Tk} {p:Addr} {o:HO} (h:H p=none):Ext H ρ (upd H p o) (ρ.add p) where
  pre:=List.prefix_append _ _
  hidM:=fun _ h=>h
  hidN:=fun _ h=>.inl h
  keep:=fun a u e _=>by rw [Q7 (Q8 e h)]; exact e
  new:=fun a e=>by
    rcases D4.mp e with z | z
    · exact .inl z
    · right
      have:a=p:=by simpa using z
      rw [this]; exact h
  old:=fun a u e=>⟨u,by rw [Q7 (Q8 e h)]; exact e⟩
  frz:=fun a o u e=>by rw [Q7 (Q8 e h)]; exact e
theorem Ext.same {H H':Hp} {ρ:Tk} (h:Same H H'):Ext H ρ H' ρ:=⟨List.prefix_refl _,fun _ h=>h,fun _ h=>.inl h,fun a o e _=>h a o e,fun _ e=>.inl e,fun a o e=>⟨o,h a o e⟩,fun a o u e=>h a _ e⟩
section
variable {H H':Hp} {ρ ρ':Tk}
theorem fresh_not {a:Addr} {o:HO} (x:Ext H ρ H' ρ') (h:H a=some o) (n:a∉ρ):a∉ρ':=fun z=>by
  rcases z with z | z
  · rcases x.new a z with z | z
    · exact n (.inl z)
    · rw [h] at z; cases z
  · rcases x.hidN a z with z | z
    · exact n (.inr z)
    · rw [h] at z; cases z
theorem Ext.kp {a:Addr} {o:HO} (x:Ext H ρ H' ρ') (h:H a=some o) (n:a∉ρ):H' a=some o:=x.keep a o h fun z=>n (.inl z)
mutual
theorem Rep.ext (x:Ext H ρ H' ρ'):∀ {p:PV} {v:V},Rep H ρ p v->Rep H' ρ' p v
  | .non,_,h=>h
  | .bl _,_,h=>h
  | .int _,_,h=>h
  | .str _,_,h=>h
  | .tup ps,v,h=>by
    obtain ⟨a,vs,e,s,n,r⟩:=h
    exact ⟨a,vs,e,x.kp s n,fresh_not x s n,RepL.ext x r⟩
  | .lst ps,v,h=>by
    obtain ⟨a,vs,e,s,n,r⟩:=h
    exact ⟨a,vs,e,x.kp s n,fresh_not x s n,RepL.ext x r⟩
  | .fro ps,v,h=>by
    obtain ⟨a,vs,e,s,n,r⟩:=h
    rcases s with s | ⟨o,s⟩
    · exact ⟨a,vs,e,.inl (x.kp s n),fresh_not x s n,RepL.ext x r⟩
    · exact ⟨a,vs,e,.inr ⟨o,x.kp s n⟩,fresh_not x s n,RepL.ext x r⟩
  | .ref i,v,h=>by
    obtain ⟨a,e,rfl⟩:=h
    obtain ⟨t,et⟩:=x.pre
    refine ⟨a,?_,rfl⟩
    rw [<- et,D2 (O3.mp e).1]
    exact e
  | .dic,v,h=>by
    obtain ⟨a,e,s,n⟩:=h
    exact ⟨a,e,x.kp s n,fresh_not x s n⟩
theorem RepL.ext (x:Ext H ρ H' ρ'):∀ {ps:List PV} {vs:List V},RepL H ρ ps vs->RepL H' ρ' ps vs
  | [],_,h=>h
  | p :: ps,vs,h=>by
    obtain ⟨v,r,e,h1,h2⟩:=h
    exact ⟨v,r,e,Rep.ext x h1,RepL.ext x h2⟩
end
mutual
theorem Rep.hide {a:Addr} {o:HO} (h:H a=none):∀ {p:PV} {v:V},Rep H ρ p v->Rep (upd H a o) (ρ.hide a) p v
  | .non,_,r=>r
  | .bl _,_,r=>r
  | .int _,_,r=>r
  | .str _,_,r=>r
  | .tup ps,v,⟨b,vs,e,s,n,r⟩=>⟨b,vs,e,by rw [Q7 (Q8 s h)]; exact s,fun z=>by
      rcases z with z | z
      · exact n (.inl z)
      · rcases D1.mp z with z | z
        · exact Q8 s h z
        · exact n (.inr z),RepL.hide h r⟩
  | .lst ps,v,⟨b,vs,e,s,n,r⟩=>⟨b,vs,e,by rw [Q7 (Q8 s h)]; exact s,fun z=>by
      rcases z with z | z
      · exact n (.inl z)
      · rcases D1.mp z with z | z
        · exact Q8 s h z
        · exact n (.inr z),RepL.hide h r⟩
  | .fro ps,v,⟨b,vs,e,s,n,r⟩=>by
      have ne:b≠a:=by
        rcases s with s | ⟨_,s⟩
        · exact Q8 s h
        · exact Q8 s h
      refine ⟨b,vs,e,?_,fun z=>?_,RepL.hide h r⟩
      · rcases s with s | ⟨u,s⟩
        · exact .inl (by rw [Q7 ne]; exact s)
        · exact .inr ⟨u,by rw [Q7 ne]; exact s⟩
      · rcases z with z | z
        · exact n (.inl z)
        · rcases D1.mp z with z | z
          · exact ne z
          · exact n (.inr z)
  | .ref i,v,r=>r
  | .dic,v,⟨b,e,s,n⟩=>⟨b,e,by rw [Q7 (Q8 s h)]; exact s,fun z=>by
      rcases z with z | z
      · exact n (.inl z)
      · rcases D1.mp z with z | z
        · exact Q8 s h z
        · exact n (.inr z)⟩
theorem RepL.hide {a:Addr} {o:HO} (h:H a=none):∀ {ps:List PV} {vs:List V},RepL H ρ ps vs->RepL (upd H a o) (ρ.hide a) ps vs
  | [],_,r=>r
  | p :: ps,_,⟨v,t,e,r1,r2⟩=>⟨v,t,e,Rep.hide h r1,RepL.hide h r2⟩
end
mutual
theorem Rep.rehide {a:Addr} {o:HO} (h:a∈ρ.hid):∀ {p:PV} {v:V},Rep H ρ p v->Rep (upd H a o) ρ p v
  | .non,_,r=>r
  | .bl _,_,r=>r
  | .int _,_,r=>r
  | .str _,_,r=>r
  | .tup ps,v,⟨b,vs,e,s,n,r⟩=>⟨b,vs,e,by rw [Q7 (show b≠a from fun z=>n (.inr (by rw [z]; exact h)))]; exact s,n,RepL.rehide h r⟩
  | .lst ps,v,⟨b,vs,e,s,n,r⟩=>⟨b,vs,e,by rw [Q7 (show b≠a from fun z=>n (.inr (by rw [z]; exact h)))]; exact s,n,RepL.rehide h r⟩
  | .fro ps,v,⟨b,vs,e,s,n,r⟩=>by
      have ne:b≠a:=fun z=>n (.inr (by rw [z]; exact h))
      refine ⟨b,vs,e,?_,n,RepL.rehide h r⟩
      rcases s with s | ⟨u,s⟩
      · exact .inl (by rw [Q7 ne]; exact s)
      · exact .inr ⟨u,by rw [Q7 ne]; exact s⟩
  | .ref i,v,r=>r
  | .dic,v,⟨b,e,s,n⟩=>⟨b,e,by rw [Q7 (show b≠a from fun z=>n (.inr (by rw [z]; exact h)))]; exact s,n⟩
theorem RepL.rehide {a:Addr} {o:HO} (h:a∈ρ.hid):∀ {ps:List PV} {vs:List V},RepL H ρ ps vs->RepL (upd H a o) ρ ps vs
  | [],_,r=>r
  | p :: ps,_,⟨v,t,e,r1,r2⟩=>⟨v,t,e,Rep.rehide h r1,RepL.rehide h r2⟩
end
mutual
theorem Rep.retr {a:Addr} {o:HO} (h:a∈ρ.tr):∀ {p:PV} {v:V},Rep H ρ p v->Rep (upd H a o) ρ p v
  | .non,_,r=>r
  | .bl _,_,r=>r
  | .int _,_,r=>r
  | .str _,_,r=>r
  | .tup ps,v,⟨b,vs,e,s,n,r⟩=>⟨b,vs,e,by rw [Q7 (show b≠a from fun z=>n (.inl (by rw [z]; exact h)))]; exact s,n,RepL.retr h r⟩
  | .lst ps,v,⟨b,vs,e,s,n,r⟩=>⟨b,vs,e,by rw [Q7 (show b≠a from fun z=>n (.inl (by rw [z]; exact h)))]; exact s,n,RepL.retr h r⟩
  | .fro ps,v,⟨b,vs,e,s,n,r⟩=>by
      have ne:b≠a:=fun z=>n (.inl (by rw [z]; exact h))
      refine ⟨b,vs,e,?_,n,RepL.retr h r⟩
      rcases s with s | ⟨u,s⟩
      · exact .inl (by rw [Q7 ne]; exact s)
      · exact .inr ⟨u,by rw [Q7 ne]; exact s⟩
  | .ref i,v,r=>r
  | .dic,v,⟨b,e,s,n⟩=>⟨b,e,by rw [Q7 (show b≠a from fun z=>n (.inl (by rw [z]; exact h)))]; exact s,n⟩
theorem RepL.retr {a:Addr} {o:HO} (h:a∈ρ.tr):∀ {ps:List PV} {vs:List V},RepL H ρ ps vs->RepL (upd H a o) ρ ps vs
  | [],_,r=>r
  | p :: ps,_,⟨v,t,e,r1,r2⟩=>⟨v,t,e,Rep.retr h r1,RepL.retr h r2⟩
end
mutual
theorem Rep.unhide {hs:List Addr} (hh:∀ a,a∈hs->a∈ρ.hid):∀ {p:PV} {v:V},Rep H ρ p v->Rep H ⟨ρ.tr,hs⟩ p v
  | .non,_,r=>r
  | .bl _,_,r=>r
  | .int _,_,r=>r
  | .str _,_,r=>r
  | .tup ps,v,⟨b,vs,e,s,n,r⟩=>⟨b,vs,e,s,fun z=>n (z.imp id (hh _)),RepL.unhide hh r⟩
  | .lst ps,v,⟨b,vs,e,s,n,r⟩=>⟨b,vs,e,s,fun z=>n (z.imp id (hh _)),RepL.unhide hh r⟩
  | .fro ps,v,⟨b,vs,e,s,n,r⟩=>⟨b,vs,e,s,fun z=>n (z.imp id (hh _)),RepL.unhide hh r⟩
  | .ref i,v,r=>r
  | .dic,v,⟨b,e,s,n⟩=>⟨b,e,s,fun z=>n (z.imp id (hh _))⟩
theorem RepL.unhide {hs:List Addr} (hh:∀ a,a∈hs->a∈ρ.hid):∀ {ps:List PV} {vs:List V},RepL H ρ ps vs->RepL H ⟨ρ.tr,hs⟩ ps vs
  | [],_,r=>r
  | p :: ps,_,⟨v,t,e,r1,r2⟩=>⟨v,t,e,Rep.unhide hh r1,RepL.unhide hh r2⟩
end
theorem RepL.length:∀ {ps:List PV} {vs:List V},RepL H ρ ps vs->ps.length=vs.length
  | [],_,h=>by cases h; rfl
  | p :: ps,_,⟨v,r,rfl,_,h2⟩=>by rw [E8,E8,RepL.length h2]
theorem RepL.get:∀ {ps:List PV} {vs:List V} {i:Nat} {p:PV},RepL H ρ ps vs->ps[i]?=some p->∃ v,vs[i]?=some v/\Rep H ρ p v
  | [],_,_,_,_,e=>by simp at e
  | p :: ps,_,0,q,⟨v,r,rfl,h1,h2⟩,e=>by simp at e; subst e; exact ⟨v,rfl,h1⟩
  | p :: ps,_,i + 1,q,⟨v,r,rfl,h1,h2⟩,e=>by
    obtain ⟨u,e1,e2⟩:=RepL.get (i:=i) h2 (by simpa using e)
    exact ⟨u,by simpa using e1,e2⟩
theorem RepL.cons {p:PV} {v:V} {ps:List PV} {vs:List V} (h:Rep H ρ p v) (r:RepL H ρ ps vs):RepL H ρ (p :: ps) (v :: vs):=⟨v,vs,rfl,h,r⟩
theorem RepL.nil:RepL H ρ [] []:=rfl
theorem RepL.append:∀ {ps qs:List PV} {vs us:List V},RepL H ρ ps vs->RepL H ρ qs us->RepL H ρ (ps ++ qs) (vs ++ us)
  | [],_,_,_,h,g=>by cases h; exact g
  | p :: ps,_,_,_,⟨v,r,rfl,h1,h2⟩,g=>⟨v,_,rfl,h1,RepL.append h2 g⟩
theorem RepL.take:∀ {ps:List PV} {vs:List V} (n:Nat),RepL H ρ ps vs->RepL H ρ (ps.take n) (vs.take n)
  | _,_,0,_=>rfl
  | [],_,n + 1,h=>by cases h; rfl
  | p :: ps,_,n + 1,⟨v,r,rfl,h1,h2⟩=>⟨v,_,rfl,h1,RepL.take n h2⟩
theorem RepL.drop:∀ {ps:List PV} {vs:List V} (n:Nat),RepL H ρ ps vs->RepL H ρ (ps.drop n) (vs.drop n)
  | _,_,0,h=>h
  | [],_,n + 1,h=>by cases h; rfl
  | p :: ps,_,n + 1,⟨v,r,rfl,h1,h2⟩=>RepL.drop n h2
theorem RepL.set {p:PV} {v:V} (h:Rep H ρ p v):∀ {ps:List PV} {vs:List V} (i:Nat),RepL H ρ ps vs->RepL H ρ (ps.set i p) (vs.set i v)
  | [],_,_,g=>by cases g; rfl
  | q :: ps,_,0,⟨u,r,rfl,h1,h2⟩=>⟨v,r,rfl,h,h2⟩
  | q :: ps,_,i + 1,⟨u,r,rfl,h1,h2⟩=>⟨u,_,rfl,h1,RepL.set h i h2⟩
theorem RepL.rep {ps:List PV} {vs:List V} (h:RepL H ρ ps vs):∀ n,RepL H ρ (List.replicate n ps).flatten (List.replicate n vs).flatten
  | 0=>rfl
  | n + 1=>by rw [List.replicate_succ,List.replicate_succ,List.flatten_cons,List.flatten_cons]; exact h.append (RepL.rep h n)
theorem RepL.toInts:∀ {ns:List Int} {vs:List V},RepL H ρ (ns.map .int) vs->vs=ns.map V.int
  | [],_,h=>h
  | n :: ns,_,⟨v,r,rfl,h1,h2⟩=>by
    have e:v=V.int n:=h1
    rw [RepL.toInts h2,e]; rfl
theorem RepL.toBls:∀ {ns:List Bool} {vs:List V},RepL H ρ (ns.map .bl) vs->vs=ns.map V.bl
  | [],_,h=>h
  | n :: ns,_,⟨v,r,rfl,h1,h2⟩=>by
    have e:v=V.bl n:=h1
    rw [RepL.toBls h2,e]; rfl
end
def RepD {κ:Type} (H:Hp) (ρ:Tk) (kvs:List (κ × PV)) (vs:List (κ × V)):Prop:=vs.map Prod.fst=kvs.map Prod.fst/\RepL H ρ (kvs.map Prod.snd) (vs.map Prod.snd)
theorem RepD.ext {κ:Type} {H H':Hp} {ρ ρ':Tk} {kvs:List (κ × PV)} {vs:List (κ × V)} (x:Ext H ρ H' ρ') (r:RepD H ρ kvs vs):RepD H' ρ' kvs vs:=⟨r.1,r.2.ext x⟩
theorem RepD.length {κ:Type} {H:Hp} {ρ:Tk} {kvs:List (κ × PV)} {vs:List (κ × V)} (r:RepD H ρ kvs vs):kvs.length=vs.length:=by
  have:=congrArg List.length r.1
  rw [O2,O2] at this
  exact this.symm
def CellR (H:Hp) (ρ:Tk) (a:Addr):Cell->Prop
  | .lst ps=>∃ vs,H a=some (.lst vs)/\RepL H ρ ps vs
  | .dic kvs=>∃ vs,H a=some (.dK vs)/\RepD H ρ kvs vs
  | .dtp kvs=>∃ vs,H a=some (.dT vs)/\RepD H ρ kvs vs
  | .frd kvs=>∃ vs,(∃ o,H a=some (.frz o (.dK vs)))/\RepD H ρ kvs vs
  | .obj C fs=>∃ vs,(∃ dx,H a=some (.ins C dx vs))/\RepD H ρ fs vs
theorem CellR.dom {H:Hp} {ρ:Tk} {a:Addr}:∀ {c:Cell},CellR H ρ a c->∃ o,H a=some o
  | .lst _,⟨_,e,_⟩=>⟨_,e⟩
  | .dic _,⟨_,e,_⟩=>⟨_,e⟩
  | .dtp _,⟨_,e,_⟩=>⟨_,e⟩
  | .frd _,⟨_,⟨_,e⟩,_⟩=>⟨_,e⟩
  | .obj _ _,⟨_,⟨_,e⟩,_⟩=>⟨_,e⟩
theorem CellR.ext {H H':Hp} {ρ ρ':Tk} {a:Addr} (x:Ext H ρ H' ρ') (k:∀ o,H a=some o->H' a=some o):∀ {c:Cell},CellR H ρ a c->CellR H' ρ' a c
  | .lst _,⟨vs,e,r⟩=>⟨vs,k _ e,r.ext x⟩
  | .dic _,⟨vs,e,r⟩=>⟨vs,k _ e,r.ext x⟩
  | .dtp _,⟨vs,e,r⟩=>⟨vs,k _ e,r.ext x⟩
  | .frd _,⟨vs,⟨o,e⟩,r⟩=>⟨vs,⟨o,k _ e⟩,r.ext x⟩
  | .obj _ _,⟨vs,⟨o,e⟩,r⟩=>⟨vs,⟨o,k _ e⟩,r.ext x⟩
structure Rel (H:Hp) (ρ:Tk) (st:Q0):Prop where
  len:ρ.tr.length=st.length
  nd:ρ.tr.Nodup
  hd:∀ a∈ρ.hid,∃ o,H a=some o/\∀ xs,o≠.tup xs
  ap:∀ a∈ρ.hid,a∉ρ.tr
  cell:∀ (i:Nat) (a:Addr) (c:Cell),ρ.tr[i]?=some a->st[i]?=some c->CellR H ρ a c
section
variable {H H':Hp} {ρ ρ':Tk} {st st':Q0}
theorem Rel.lst (R:Rel H ρ st) {i:Nat} {ps:List PV} (h:st[i]?=some (.lst ps)):∃ a vs,ρ.tr[i]?=some a/\H a=some (.lst vs)/\RepL H ρ ps vs:=by
  have hi:i < ρ.tr.length:=by rw [R.len]; exact (O3.mp h).1
  have e:ρ.tr[i]?=some ρ.tr[i]:=O1 hi
  obtain ⟨vs,e1,e2⟩:=R.cell i _ _ e h
  exact ⟨_,vs,e,e1,e2⟩
theorem Rel.dtp (R:Rel H ρ st) {i:Nat} {kvs:List (List Key × PV)} (h:st[i]?=some (.dtp kvs)):∃ a vs,ρ.tr[i]?=some a/\H a=some (.dT vs)/\RepD H ρ kvs vs:=by
  have hi:i < ρ.tr.length:=by rw [R.len]; exact (O3.mp h).1
  have e:ρ.tr[i]?=some ρ.tr[i]:=O1 hi
  obtain ⟨vs,e1,e2⟩:=R.cell i _ _ e h
  exact ⟨_,vs,e,e1,e2⟩
theorem Rel.dom (R:Rel H ρ st) {a:Addr} (h:a∈ρ.tr):∃ o,H a=some o:=by
  obtain ⟨i,hi,e⟩:=List.getElem_of_mem h
  have hs:i < st.length:=by rw [<- R.len]; exact hi
  have q:=R.cell i a st[i] (by rw [O1 hi,e]) (O1 hs)
  exact q.dom
theorem Rel.fresh (R:Rel H ρ st) {p:Addr} (h:H p=none):p∉ρ:=fun z=>by
  rcases z with z | z
  · obtain ⟨vs,q⟩:=R.dom z
    rw [h] at q; cases q
  · obtain ⟨o,q,_⟩:=R.hd p z
    rw [h] at q; cases q
theorem Rel.later (R:Rel H ρ st) (x:Ext H ρ H' ρ) (k:∀ a o,a∈ρ.tr->H a=some o->H' a=some o):Rel H' ρ st where
  len:=R.len
  nd:=R.nd
  hd:=fun a ha=>let ⟨o,e,n⟩:=R.hd a ha; ⟨o,x.keep a o e (R.ap a ha),n⟩
  ap:=R.ap
  cell:=fun i a c h1 h2=>by
    exact (R.cell i a c h1 h2).ext x fun o e=>k a o (F9 h1) e
end
theorem Rel.add {H:Hp} {ρ:Tk} {st:Q0} (R:Rel H ρ st) {p:Addr} {o:HO} (h:H p=none):Rel (upd H p o) ρ st:=
  R.later (Ext.add h) fun a u hm e=>by rw [Q7 (Q8 e h)]; exact e
theorem Rel.same {H H':Hp} {ρ:Tk} {st:Q0} (R:Rel H ρ st) (h:Same H H'):Rel H' ρ st:=R.later (Ext.same h) fun a u _ e=>h a u e
theorem Rel.addC {H:Hp} {ρ:Tk} {st:Q0} (R:Rel H ρ st) {p:Addr} {cl:Cell} {o:HO} (h:H p=none) (r:CellR (upd H p o) (ρ.add p) p cl):Rel (upd H p o) (ρ.add p) (st ++ [cl]) where
  len:=by show (ρ.tr ++ [p]).length=_; rw [E5,E5,R.len]; rfl
  nd:=List.nodup_append.mpr ⟨R.nd,by simp,fun a ha b hb e=>by
    have:b=p:=by simpa using hb
    subst this; subst e
    exact R.fresh h (.inl ha)⟩
  hd:=fun a ha=>let ⟨o,e,n⟩:=R.hd a ha; ⟨o,by rw [Q7 (Q8 e h)]; exact e,n⟩
  ap:=fun a ha z=>by
    rcases D4.mp z with z | z
    · exact R.ap a ha z
    · have:a=p:=by simpa using z
      subst this
      exact R.fresh h (.inr ha)
  cell:=fun i a c h1 h2=>by
    have h1:(ρ.tr ++ [p])[i]?=some a:=h1
    by_cases hi:i < st.length
    · rw [D2 (by rw [R.len]; exact hi)] at h1
      rw [D2 hi] at h2
      exact (R.cell i a c h1 h2).ext (Ext.addT h) fun u e=>by rw [Q7 (Q8 e h)]; exact e
    · rw [E2 (by rw [R.len]; omega)] at h1
      rw [E2 (by omega)] at h2
      have e0:i - st.length=0:=by
        rcases Nat.eq_zero_or_pos (i - st.length) with z | z
        · exact z
        · rw [List.getElem?_eq_none (by simp; omega)] at h2; cases h2
      rw [R.len,e0] at h1
      rw [e0] at h2
      simp at h1 h2
      subst h1; subst h2
      exact r
theorem nodup_inj {α:Type} {l:List α} (h:l.Nodup) {i j:Nat} (hi:i < l.length) (hj:j < l.length) (e:l[i]=l[j]):i=j:=by
  rcases Nat.lt_trichotomy i j with z | z | z
  · exact absurd e ((F5.mp h) i j hi hj z)
  · exact z
  · exact absurd e.symm ((F5.mp h) j i hj hi z)
theorem Ext.put {H:Hp} {ρ:Tk} {a:Addr} {o o':HO} (h:a∈ρ.tr) (e:H a=some o) (nf:∀ q u,o≠.frz q u:=by intro _ _ z; cases z):Ext H ρ (upd H a o') ρ where
  pre:=List.prefix_refl _
  hidM:=fun _ h=>h
  hidN:=fun _ h=>.inl h
  keep:=fun b u q n=>by rw [Q7 (show b≠a from fun z=>n (by rw [z]; exact h))]; exact q
  new:=fun b q=>.inl q
  old:=fun b u q=>by
    by_cases z:b=a
    · exact ⟨o',by rw [z]; exact Qu⟩
    · exact ⟨u,by rw [Q7 z]; exact q⟩
  frz:=fun b q u k=>by
    by_cases z:b=a
    · rw [z,e] at k; cases k; exact absurd rfl (nf _ _)
    · rw [Q7 z]; exact k
theorem Rel.putC {H:Hp} {ρ:Tk} {st:Q0} (R:Rel H ρ st) {i:Nat} {a:Addr} {cl:Cell} {o o':HO} (hi:ρ.tr[i]?=some a) (e:H a=some o) (r:CellR (upd H a o') ρ a cl):Rel (upd H a o') ρ (st.set i cl) where
  len:=by rw [List.length_set]; exact R.len
  nd:=R.nd
  hd:=fun b hb=>let ⟨u,q,n⟩:=R.hd b hb; ⟨u,by rw [Q7 (show b≠a from fun z=>R.ap b hb (by rw [z]; exact F9 hi))]; exact q,n⟩
  ap:=R.ap
  cell:=fun j b c h1 h2=>by
    by_cases hj:i=j
    · subst hj
      rw [hi] at h1; cases h1
      rw [F6 (by rw [<- R.len]; exact (O3.mp hi).1)] at h2
      cases h2
      exact r
    · rw [F8 hj] at h2
      have q:=R.cell j b c h1 h2
      have hb:b≠a:=fun z=>by
        subst z
        have l1:=(O3.mp hi)
        have l2:=(O3.mp h1)
        exact hj (nodup_inj R.nd l1.1 l2.1 (l1.2.trans l2.2.symm))
      have hm:=F9 hi
      cases c with
      | lst ps=>
        obtain ⟨vs,e1,e2⟩:=q
        exact ⟨vs,by rw [Q7 hb]; exact e1,e2.retr hm⟩
      | dic ps=>
        obtain ⟨vs,e1,e2⟩:=q
        exact ⟨vs,by rw [Q7 hb]; exact e1,e2.1,e2.2.retr hm⟩
      | dtp ps=>
        obtain ⟨vs,e1,e2⟩:=q
        exact ⟨vs,by rw [Q7 hb]; exact e1,e2.1,e2.2.retr hm⟩
      | frd ps=>
        obtain ⟨vs,⟨oo,e1⟩,e2⟩:=q
        exact ⟨vs,⟨oo,by rw [Q7 hb]; exact e1⟩,e2.1,e2.2.retr hm⟩
      | obj C ps=>
        obtain ⟨vs,⟨oo,e1⟩,e2⟩:=q
        exact ⟨vs,⟨oo,by rw [Q7 hb]; exact e1⟩,e2.1,e2.2.retr hm⟩
theorem Rel.put {H:Hp} {ρ:Tk} {st:Q0} (R:Rel H ρ st) {i:Nat} {a:Addr} {ps:List PV} {vs:List V} {o:HO} (hi:ρ.tr[i]?=some a) (e:H a=some o) (r:RepL H ρ ps vs):Rel (upd H a (.lst vs)) ρ (st.set i (.lst ps)):=
  R.putC hi e ⟨vs,Qu,r.retr (F9 hi)⟩
theorem Rel.hide {H:Hp} {ρ:Tk} {st:Q0} (R:Rel H ρ st) {p:Addr} {o:HO} (h:H p=none) (nt:∀ xs,o≠.tup xs:=by intro _ z; cases z):Rel (upd H p o) (ρ.hide p) st:=by
  have x:Ext H ρ (upd H p o) ρ:=Ext.add h
  have R':=R.add (p:=p) (o:=o) h
  refine ⟨R'.len,R'.nd,fun a ha=>?_,fun a ha z=>?_,fun i a c h1 h2=>?_⟩
  · rcases D1.mp ha with rfl | ha
    · exact ⟨o,Qu,nt⟩
    · exact R'.hd a ha
  · rcases D1.mp ha with rfl | ha
    · exact R.fresh h (.inl z)
    · exact R.ap a ha z
  · have q:=R.cell i a c h1 h2
    cases c with
    | lst ps=>
      obtain ⟨vs,e1,e2⟩:=q
      exact ⟨vs,by rw [Q7 (Q8 e1 h)]; exact e1,e2.hide h⟩
    | dic ps=>
      obtain ⟨vs,e1,e2⟩:=q
      exact ⟨vs,by rw [Q7 (Q8 e1 h)]; exact e1,e2.1,e2.2.hide h⟩
    | dtp ps=>
      obtain ⟨vs,e1,e2⟩:=q
      exact ⟨vs,by rw [Q7 (Q8 e1 h)]; exact e1,e2.1,e2.2.hide h⟩
    | frd ps=>
      obtain ⟨vs,⟨oo,e1⟩,e2⟩:=q
      exact ⟨vs,⟨oo,by rw [Q7 (Q8 e1 h)]; exact e1⟩,e2.1,e2.2.hide h⟩
    | obj C ps=>
      obtain ⟨vs,⟨oo,e1⟩,e2⟩:=q
      exact ⟨vs,⟨oo,by rw [Q7 (Q8 e1 h)]; exact e1⟩,e2.1,e2.2.hide h⟩
theorem Rel.rehide {H:Hp} {ρ:Tk} {st:Q0} (R:Rel H ρ st) {p:Addr} {o:HO} (h:p∈ρ.hid) (nt:∀ xs,o≠.tup xs:=by intro _ z; cases z):Rel (upd H p o) ρ st:=by
  refine ⟨R.len,R.nd,fun a ha=>?_,R.ap,fun i a c h1 h2=>?_⟩
  · by_cases e:a=p
    · exact ⟨o,by rw [e]; exact Qu,nt⟩
    · obtain ⟨u,q,n⟩:=R.hd a ha
      exact ⟨u,by rw [Q7 e]; exact q,n⟩
  · have q:=R.cell i a c h1 h2
    have ne:a≠p:=fun z=>R.ap p h (by rw [<- z]; exact F9 h1)
    cases c with
    | lst ps=>
      obtain ⟨vs,e1,e2⟩:=q
      exact ⟨vs,by rw [Q7 ne]; exact e1,e2.rehide h⟩
    | dic ps=>
      obtain ⟨vs,e1,e2⟩:=q
      exact ⟨vs,by rw [Q7 ne]; exact e1,e2.1,e2.2.rehide h⟩
    | dtp ps=>
      obtain ⟨vs,e1,e2⟩:=q
      exact ⟨vs,by rw [Q7 ne]; exact e1,e2.1,e2.2.rehide h⟩
    | frd ps=>
      obtain ⟨vs,⟨oo,e1⟩,e2⟩:=q
      exact ⟨vs,⟨oo,by rw [Q7 ne]; exact e1⟩,e2.1,e2.2.rehide h⟩
    | obj C ps=>
      obtain ⟨vs,⟨oo,e1⟩,e2⟩:=q
      exact ⟨vs,⟨oo,by rw [Q7 ne]; exact e1⟩,e2.1,e2.2.rehide h⟩
theorem Rel.unhide {H:Hp} {ρ:Tk} {st:Q0} {hs:List Addr} (hh:∀ a,a∈hs->a∈ρ.hid) (R:Rel H ρ st):Rel H ⟨ρ.tr,hs⟩ st:=by
  refine ⟨R.len,R.nd,fun a ha=>R.hd a (hh a ha),fun a ha=>R.ap a (hh a ha),fun i a c h1 h2=>?_⟩
  have q:=R.cell i a c h1 h2
  cases c with
  | lst ps=>
    obtain ⟨vs,e1,e2⟩:=q
    exact ⟨vs,e1,RepL.unhide hh e2⟩
  | dic ps=>
    obtain ⟨vs,e1,e2⟩:=q
    exact ⟨vs,e1,e2.1,RepL.unhide hh e2.2⟩
  | dtp ps=>
    obtain ⟨vs,e1,e2⟩:=q
    exact ⟨vs,e1,e2.1,RepL.unhide hh e2.2⟩
  | frd ps=>
    obtain ⟨vs,e1,e2⟩:=q
    exact ⟨vs,e1,e2.1,RepL.unhide hh e2.2⟩
  | obj C ps=>
    obtain ⟨vs,e1,e2⟩:=q
    exact ⟨vs,e1,e2.1,RepL.unhide hh e2.2⟩
theorem Ext.hide {H:Hp} {ρ:Tk} {p:Addr} {o:HO} (h:H p=none):Ext H ρ (upd H p o) (ρ.hide p) where
  pre:=List.prefix_refl _
  hidM:=fun _ h=>O8 _ h
  hidN:=fun a ha=>by
    rcases D1.mp ha with rfl | ha
    · exact .inr h
    · exact .inl ha
  keep:=fun a u e _=>by rw [Q7 (Q8 e h)]; exact e
  new:=fun a e=>.inl e
  old:=fun a u e=>⟨u,by rw [Q7 (Q8 e h)]; exact e⟩
  frz:=fun a o u e=>by rw [Q7 (Q8 e h)]; exact e
theorem Ext.put0 {H H1:Hp} {ρ ρ1:Tk} {p:Addr} {o:HO} (x:Ext H ρ H1 ρ1) (h:H p=none):Ext H ρ (upd H1 p o) ρ1 where
  pre:=x.pre
  hidM:=x.hidM
  hidN:=x.hidN
  keep:=fun a u e n=>by rw [Q7 (Q8 e h)]; exact x.keep a u e n
  new:=x.new
  old:=fun a u e=>by rw [Q7 (Q8 e h)]; exact x.old a u e
  frz:=fun a o u e=>by rw [Q7 (Q8 e h)]; exact x.frz a o u e
theorem Ext.unhide {H H1:Hp} {ρ ρ1:Tk} (x:Ext H ρ H1 ρ1):Ext H ρ H1 ⟨ρ1.tr,ρ.hid⟩ where
  pre:=x.pre
  hidM:=fun _ h=>h
  hidN:=fun _ h=>.inl h
  keep:=x.keep
  new:=x.new
  old:=x.old
  frz:=x.frz
def EnvR (H:Hp) (ρ:Tk) (Γ:Gam) (σ:St):Prop:=Γ.length=σ.length/\∀ (i:Nat) (p:PV),Γ[i]?=some (some p)->∃ v,σ[i]?=some (some v)/\Rep H ρ p v
theorem EnvR.ext {H H':Hp} {ρ ρ':Tk} {Γ:Gam} {σ:St} (x:Ext H ρ H' ρ') (h:EnvR H ρ Γ σ):EnvR H' ρ' Γ σ:=
  ⟨h.1,fun i p e=>let ⟨v,a,b⟩:=h.2 i p e; ⟨v,a,b.ext x⟩⟩
theorem EnvR.hide {H:Hp} {ρ:Tk} {Γ:Gam} {σ:St} {a:Addr} {o:HO} (n:H a=none) (h:EnvR H ρ Γ σ):EnvR (upd H a o) (ρ.hide a) Γ σ:=⟨h.1,fun i p e=>let ⟨v,a,b⟩:=h.2 i p e; ⟨v,a,b.hide n⟩⟩
theorem EnvR.rehide {H:Hp} {ρ:Tk} {Γ:Gam} {σ:St} {a:Addr} {o:HO} (n:a∈ρ.hid) (h:EnvR H ρ Γ σ):EnvR (upd H a o) ρ Γ σ:=⟨h.1,fun i p e=>let ⟨v,a,b⟩:=h.2 i p e; ⟨v,a,b.rehide n⟩⟩
theorem EnvR.set {H:Hp} {ρ:Tk} {Γ:Gam} {σ:St} {p:PV} {v:V} (h:EnvR H ρ Γ σ) (r:Rep H ρ p v) (i:Nat):EnvR H ρ (Γ.set i (some p)) (σ.set i (some v)):=by
  refine ⟨by rw [List.length_set,List.length_set]; exact h.1,fun j q e=>?_⟩
  rw [List.getElem?_set] at e
  rw [List.getElem?_set]
  by_cases hj:i=j
  · subst hj
    simp only [if_true] at e ⊢
    by_cases hl:i < Γ.length
    · rw [if_pos hl] at e; cases e
      rw [if_pos (by rw [<- h.1]; exact hl)]
      exact ⟨v,rfl,r⟩
    · rw [if_neg hl] at e; cases e
  · rw [if_neg hj] at e ⊢
    exact h.2 j q e
end Sm
namespace Sm
open PySem PySem.Spec L2
def Res.bind {α β:Type} (r:Res α) (f:α->Q0->Res β):Res β:=match r with
  | .ok a st=>f a st
  | .exc x st=>.exc x st
  | .stuck=>.stuck
def okO {α:Type} (st:Q0):Option α->Res α
  | some a=>.ok a st
  | none=>.stuck
section
variable (X:Cx)
def WE (e:Expr):TE:=fun σ H Q=>∀ (pins:List (Addr × Obj)) (s:Shared),Inv X pins σ H s->wpAny (model X.prog X.w) X.A (eval e X.env) (EP X pins σ Q) X.xe s
def WT (e:Expr):TT:=fun σ H Q=>∀ (pins:List (Addr × Obj)) (s:Shared),Inv X pins σ H s->wpAny (model X.prog X.w) X.A (isTrue e X.env (eval e X.env)) (TP X pins σ Q) X.xe s
def WW (e:Expr):TT:=fun σ H Q=>∀ (wh:Sem Value) (pins:List (Addr × Obj)) (s:Shared),Inv X pins σ H s->wpAny (model X.prog X.w) X.A (isTrue e X.env wh) (TP X pins σ Q) X.xe s
def WA (es:List Expr):TA:=fun σ H Q=>∀ (pos:Pos) (pins:List (Addr × Obj)) (s:Shared),Inv X pins σ H s->wpAny (model X.prog X.w) X.A (spliced (backTo pos (starEach es X.env))) (AP X pins σ Q) X.xe s
def WS (st:Stmt):TS:=fun D σ H=>∀ (pins:List (Addr × Obj)) (s:Shared),Inv X pins σ H s->wpAny (model X.prog X.w) X.A (exec st X.env) (SP X pins D) X.xe s
def WB (st:List Stmt):TS:=fun D σ H=>∀ (pins:List (Addr × Obj)) (s:Shared),Inv X pins σ H s->wpAny (model X.prog X.w) X.A (execs st X.env) (SP X pins D) X.xe s
def WI (tg iter : Expr) : TI := fun σ H R => ∀ (pins : List (Addr × Obj)) (s : Shared), Inv X pins σ H s ->
    wpAny (model X.prog X.w) X.A (eval iter X.env) (fun v s1=>wpAny (model X.prog X.w) X.A (pyIter v) (PIE X pins σ tg R) X.xe s1) X.xe s
def WO (f:Value->Value->Sem Value):R2:=fun x y H Q=>∀ (pins:List (Addr × Obj)) (s:Shared) (σ:St) (v u:Value),Inv X pins σ H s->RelV x v->RelV y u->wpAny (model X.prog X.w) X.A (f v u) (EP X pins σ Q) X.xe s
def WC (f:Value):List V->Hp->VK->Prop:=fun xs H Q=>∀ (pins:List (Addr × Obj)) (s:Shared) (σ:St) (us:List Value),Inv X pins σ H s->Vals xs us->wpAny (model X.prog X.w) X.A (call f us) (EP X pins σ Q) X.xe s
end
section
variable {X:Cx}
theorem Zs {e:Expr}:PE X e (WE X e):=fun pins s _ _ _ I h=>h pins s I
theorem pt_w {e:Expr}:PT X e (WT X e):=fun pins s _ _ _ I h=>h pins s I
theorem pw_w {e:Expr}:PW X e (WW X e):=fun wh pins s _ _ _ I h=>h wh pins s I
theorem pa_w {es:List Expr}:PA X es (WA X es):=fun pos pins s _ _ _ I h=>h pos pins s I
theorem ps_w {st:Stmt}:PS X st (WS X st):=fun pins s _ _ _ I h=>h pins s I
theorem pss_w {st:List Stmt}:PSs X st (WB X st):=fun pins s _ _ _ I h=>h pins s I
theorem pi_w {tg iter:Expr}:PI X tg iter (WI X tg iter):=fun pins s _ _ _ I h=>h pins s I
theorem op_w {f:Value->Value->Sem Value}:OpR X f (WO X f):=fun pins s σ _ _ _ v u _ I r1 r2 h=>h pins s σ v u I r1 r2
theorem call_w {f:Value}:CallR X f (WC X f):=fun pins s σ _ _ us _ I r h=>h pins s σ us I r
theorem WE.of {e:Expr} {t:TE} {σ:St} {H:Hp} {Q:VK} (h:PE X e t) (q:t σ H Q):WE X e σ H Q:=fun pins s I=>h pins s σ H Q I q
theorem WT.of {e:Expr} {t:TT} {σ:St} {H:Hp} {Q:Bool->Hp->Prop} (h:PT X e t) (q:t σ H Q):WT X e σ H Q:=fun pins s I=>h pins s σ H Q I q
theorem WW.of {e:Expr} {t:TT} {σ:St} {H:Hp} {Q:Bool->Hp->Prop} (h:PW X e t) (q:t σ H Q):WW X e σ H Q:=fun wh pins s I=>h wh pins s σ H Q I q
theorem WA.of {es:List Expr} {t:TA} {σ:St} {H:Hp} {Q:List V->Hp->Prop} (h:PA X es t) (q:t σ H Q):WA X es σ H Q:=fun pos pins s I=>h pos pins s σ H Q I q
theorem WS.of {st:Stmt} {t:TS} {σ:St} {H:Hp} {D:Ends} (h:PS X st t) (q:t D σ H):WS X st D σ H:=fun pins s I=>h pins s σ H D I q
theorem WB.of {st:List Stmt} {t:TS} {σ:St} {H:Hp} {D:Ends} (h:PSs X st t) (q:t D σ H):WB X st D σ H:=fun pins s I=>h pins s σ H D I q
theorem WI.of {tg iter:Expr} {t:TI} {σ:St} {H:Hp} {R:It->Hp->Prop} (h:PI X tg iter t) (q:t σ H R):WI X tg iter σ H R:=fun pins s I=>h pins s σ H R I q
theorem WO.of {f:Value->Value->Sem Value} {r:R2} {x y:V} {H:Hp} {Q:VK} (h:OpR X f r) (q:r x y H Q):WO X f x y H Q:=fun pins s σ v u I r1 r2=>h pins s σ H x y v u Q I r1 r2 q
theorem WC.of {f:Value} {r:List V->Hp->VK->Prop} {xs:List V} {H:Hp} {Q:VK} (h:CallR X f r) (q:r xs H Q):WC X f xs H Q:=fun pins s σ us I r1=>h pins s σ H xs us Q I r1 q
end
def XFs (H:Hp) (ρ:Tk):Option (Str × PV)->Option Addr->Prop
  | none,dv=>dv=none
  | some (n,p),dv=>∃ dx v,dv=some dx/\H dx=some (.xd [(n,v)])/\dx∉ρ/\Rep H ρ p v
def Acc {α:Type} (mg:Str->Option Value) (E:XK) (H:Hp) (ρ:Tk) (P:α->Q0->Hp->Tk->Prop):Res α->Prop
  | .ok a st=>∀ H' ρ',Ext H ρ H' ρ'->Rel H' ρ' st->P a st H' ρ'
  | .exc x st=>∀ C dv H' ρ',mg x.cls=some (.ref C)->Ext H ρ H' ρ'->Rel H' ρ' st->XFs H' ρ' x.fs dv->E (.ref C) dv H'
  | .stuck=>False
section
variable {α β:Type} {mg:Str->Option Value} {E:XK} {H H1:Hp} {ρ ρ1:Tk}
theorem Acc.mono {P P':α->Q0->Hp->Tk->Prop} {r:Res α} (h:Acc mg E H ρ P r) (x:Ext H ρ H1 ρ1) (k:∀ a st H' ρ',P a st H' ρ'->P' a st H' ρ'):Acc mg E H1 ρ1 P' r:=by
  cases r with
  | ok a st=>exact fun H' ρ' x' R'=>k _ _ _ _ (h H' ρ' (x.trans x') R')
  | exc e st=>exact fun C dv H' ρ' m x' R' f=>h C dv H' ρ' m (x.trans x') R' f
  | stuck=>exact h
theorem Acc.later {P:α->Q0->Hp->Tk->Prop} {r:Res α} (h:Acc mg E H ρ P r) (x:Ext H ρ H1 ρ1):Acc mg E H1 ρ1 P r:=h.mono x fun _ _ _ _ p=>p
theorem Acc.bind {P:β->Q0->Hp->Tk->Prop} {r:Res α} {f:α->Q0->Res β} (h:Acc mg E H ρ P (r.bind f)):Acc mg E H ρ (fun a st1 H1 ρ1=>Acc mg E H1 ρ1 P (f a st1)) r:=by
  cases r with
  | ok a st=>exact fun H' ρ' x' R'=>Acc.later (show Acc mg E H ρ P (f a st) from h) x'
  | exc e st=>exact h
  | stuck=>exact h
end
abbrev QV (Q:VK):PV->Q0->Hp->Tk->Prop:=fun p _ H' ρ'=>∀ v,Rep H' ρ' p v->Q v H'
abbrev QL (Q:List V->Hp->Prop):List PV->Q0->Hp->Tk->Prop:=fun ps _ H' ρ'=>∀ vs,RepL H' ρ' ps vs->Q vs H'
abbrev QB (Q:Bool->Hp->Prop):Bool->Q0->Hp->Tk->Prop:=fun b _ H' _=>Q b H'
structure SimE (X:Cx) (E:XK) (e:Expr) (m:ME):Prop where
  run:∀ (Γ:Gam) (σ:St) (H:Hp) (ρ:Tk) (st:Q0) (Q:VK),Rel H ρ st->EnvR H ρ Γ σ->Acc X.mg E H ρ (QV Q) (m Γ st)->WE X e σ H Q
structure SimT (X:Cx) (E:XK) (e:Expr) (m:Gam->Q0->Res Bool):Prop where
  run:∀ (Γ:Gam) (σ:St) (H:Hp) (ρ:Tk) (st:Q0) (Q:Bool->Hp->Prop),Rel H ρ st->EnvR H ρ Γ σ->Acc X.mg E H ρ (QB Q) (m Γ st)->WT X e σ H Q
structure SimW (X:Cx) (E:XK) (e:Expr) (m:Gam->Q0->Res Bool):Prop where
  run:∀ (Γ:Gam) (σ:St) (H:Hp) (ρ:Tk) (st:Q0) (Q:Bool->Hp->Prop),Rel H ρ st->EnvR H ρ Γ σ->Acc X.mg E H ρ (QB Q) (m Γ st)->WW X e σ H Q
structure SimA (X:Cx) (E:XK) (es:List Expr) (m:Gam->Q0->Res (List PV)):Prop where
  run:∀ (Γ:Gam) (σ:St) (H:Hp) (ρ:Tk) (st:Q0) (Q:List V->Hp->Prop),Rel H ρ st->EnvR H ρ Γ σ->Acc X.mg E H ρ (QL Q) (m Γ st)->WA X es σ H Q
abbrev OP:=Q0->PV->PV->Res PV
structure OpS (X:Cx) (E:XK) (f:Value->Value->Sem Value) (o:OP):Prop where
  run:∀ (H:Hp) (ρ:Tk) (st:Q0) (p q:PV) (x y:V) (Q:VK),Rel H ρ st->Rep H ρ p x->Rep H ρ q y->Acc X.mg E H ρ (QV Q) (o st p q)->WO X f x y H Q
abbrev CF:=Q0->List PV->Res PV
structure CallS (X:Cx) (E:XK) (f:Value) (o:CF):Prop where
  run:∀ (H:Hp) (ρ:Tk) (st:Q0) (ps:List PV) (xs:List V) (Q:VK),Rel H ρ st->RepL H ρ ps xs->Acc X.mg E H ρ (QV Q) (o st ps)->WC X f xs H Q
section
variable {X:Cx} {E:XK} {Γ:Gam} {σ:St} {H:Hp} {ρ:Tk} {st:Q0}
theorem SimE.use {e:Expr} {m:ME} (s:SimE X E e m) {P:PV->Q0->Hp->Tk->Prop} {Q:VK} (R:Rel H ρ st) (G:EnvR H ρ Γ σ) (h:Acc X.mg E H ρ P (m Γ st))
    (k:∀ p st1 H1 ρ1 v,Ext H ρ H1 ρ1->Rel H1 ρ1 st1->EnvR H1 ρ1 Γ σ->Rep H1 ρ1 p v->P p st1 H1 ρ1->Q v H1):WE X e σ H Q:=by
  refine s.run Γ σ H ρ st Q R G ?_
  cases r:m Γ st with
  | ok p st1=>rw [r] at h; exact fun H' ρ' x' R' v rv=>k p st1 H' ρ' v x' R' (G.ext x') rv (h H' ρ' x' R')
  | exc e st=>rw [r] at h; exact h
  | stuck=>rw [r] at h; exact h
theorem SimE.use' {e:Expr} {m:ME} (s:SimE X E e m) {P:PV->Q0->Hp->Tk->Prop} {Q:VK} (R:Rel H ρ st) (G:EnvR H ρ Γ σ) (h:Acc X.mg E H ρ P (m Γ st))
    (k:∀ p st1 H1 ρ1 v,m Γ st=.ok p st1->Ext H ρ H1 ρ1->Rel H1 ρ1 st1->EnvR H1 ρ1 Γ σ->Rep H1 ρ1 p v->P p st1 H1 ρ1->Q v H1):WE X e σ H Q:=by
  refine s.run Γ σ H ρ st Q R G ?_
  cases r:m Γ st with
  | ok p st1=>rw [r] at h; exact fun H' ρ' x' R' v rv=>k p st1 H' ρ' v r x' R' (G.ext x') rv (h H' ρ' x' R')
  | exc e st=>rw [r] at h; exact h
  | stuck=>rw [r] at h; exact h
theorem SimA.use' {es:List Expr} {m:Gam->Q0->Res (List PV)} (s:SimA X E es m) {P:List PV->Q0->Hp->Tk->Prop} {Q:List V->Hp->Prop} (R:Rel H ρ st) (G:EnvR H ρ Γ σ) (h:Acc X.mg E H ρ P (m Γ st))
    (k:∀ ps st1 H1 ρ1 vs,m Γ st=.ok ps st1->Ext H ρ H1 ρ1->Rel H1 ρ1 st1->EnvR H1 ρ1 Γ σ->RepL H1 ρ1 ps vs->P ps st1 H1 ρ1->Q vs H1):WA X es σ H Q:=by
  refine s.run Γ σ H ρ st Q R G ?_
  cases r:m Γ st with
  | ok p st1=>rw [r] at h; exact fun H' ρ' x' R' v rv=>k p st1 H' ρ' v r x' R' (G.ext x') rv (h H' ρ' x' R')
  | exc e st=>rw [r] at h; exact h
  | stuck=>rw [r] at h; exact h
theorem SimT.use {e:Expr} {m:Gam->Q0->Res Bool} (s:SimT X E e m) {P:Bool->Q0->Hp->Tk->Prop} {Q:Bool->Hp->Prop} (R:Rel H ρ st) (G:EnvR H ρ Γ σ) (h:Acc X.mg E H ρ P (m Γ st))
    (k:∀ p st1 H1 ρ1,Ext H ρ H1 ρ1->Rel H1 ρ1 st1->EnvR H1 ρ1 Γ σ->P p st1 H1 ρ1->Q p H1):WT X e σ H Q:=by
  refine s.run Γ σ H ρ st Q R G ?_
  cases r:m Γ st with
  | ok p st1=>rw [r] at h; exact fun H' ρ' x' R'=>k p st1 H' ρ' x' R' (G.ext x') (h H' ρ' x' R')
  | exc e st=>rw [r] at h; exact h
  | stuck=>rw [r] at h; exact h
theorem SimT.use' {e:Expr} {m:Gam->Q0->Res Bool} (s:SimT X E e m) {P:Bool->Q0->Hp->Tk->Prop} {Q:Bool->Hp->Prop} (R:Rel H ρ st) (G:EnvR H ρ Γ σ) (h:Acc X.mg E H ρ P (m Γ st))
    (k:∀ p st1 H1 ρ1,m Γ st=.ok p st1->Ext H ρ H1 ρ1->Rel H1 ρ1 st1->EnvR H1 ρ1 Γ σ->P p st1 H1 ρ1->Q p H1):WT X e σ H Q:=by
  refine s.run Γ σ H ρ st Q R G ?_
  cases r:m Γ st with
  | ok p st1=>rw [r] at h; exact fun H' ρ' x' R'=>k p st1 H' ρ' r x' R' (G.ext x') (h H' ρ' x' R')
  | exc e st=>rw [r] at h; exact h
  | stuck=>rw [r] at h; exact h
theorem SimW.use {e:Expr} {m:Gam->Q0->Res Bool} (s:SimW X E e m) {P:Bool->Q0->Hp->Tk->Prop} {Q:Bool->Hp->Prop} (R:Rel H ρ st) (G:EnvR H ρ Γ σ) (h:Acc X.mg E H ρ P (m Γ st))
    (k:∀ p st1 H1 ρ1,Ext H ρ H1 ρ1->Rel H1 ρ1 st1->EnvR H1 ρ1 Γ σ->P p st1 H1 ρ1->Q p H1):WW X e σ H Q:=by
  refine s.run Γ σ H ρ st Q R G ?_
  cases r:m Γ st with
  | ok p st1=>rw [r] at h; exact fun H' ρ' x' R'=>k p st1 H' ρ' x' R' (G.ext x') (h H' ρ' x' R')
  | exc e st=>rw [r] at h; exact h
  | stuck=>rw [r] at h; exact h
theorem SimA.use {es:List Expr} {m:Gam->Q0->Res (List PV)} (s:SimA X E es m) {P:List PV->Q0->Hp->Tk->Prop} {Q:List V->Hp->Prop} (R:Rel H ρ st) (G:EnvR H ρ Γ σ) (h:Acc X.mg E H ρ P (m Γ st))
    (k:∀ ps st1 H1 ρ1 vs,Ext H ρ H1 ρ1->Rel H1 ρ1 st1->EnvR H1 ρ1 Γ σ->RepL H1 ρ1 ps vs->P ps st1 H1 ρ1->Q vs H1):WA X es σ H Q:=by
  refine s.run Γ σ H ρ st Q R G ?_
  cases r:m Γ st with
  | ok p st1=>rw [r] at h; exact fun H' ρ' x' R' v rv=>k p st1 H' ρ' v x' R' (G.ext x') rv (h H' ρ' x' R')
  | exc e st=>rw [r] at h; exact h
  | stuck=>rw [r] at h; exact h
theorem OpS.use {f:Value->Value->Sem Value} {o:OP} (s:OpS X E f o) {P:PV->Q0->Hp->Tk->Prop} {Q:VK} {p q:PV} {x y:V} (R:Rel H ρ st) (rp:Rep H ρ p x) (rq:Rep H ρ q y) (h:Acc X.mg E H ρ P (o st p q))
    (k:∀ p st1 H1 ρ1 v,Ext H ρ H1 ρ1->Rel H1 ρ1 st1->Rep H1 ρ1 p v->P p st1 H1 ρ1->Q v H1):WO X f x y H Q:=by
  refine s.run H ρ st p q x y Q R rp rq ?_
  cases r:o st p q with
  | ok p st1=>rw [r] at h; exact fun H' ρ' x' R' v rv=>k p st1 H' ρ' v x' R' rv (h H' ρ' x' R')
  | exc e st=>rw [r] at h; exact h
  | stuck=>rw [r] at h; exact h
end
end Sm
namespace Sm
open PySem PySem.Spec L2 SeqAt
mutual
def peq:PV->PV->Bool
  | .non,.non=>true
  | .bl a,.bl b=>a == b
  | .bl a,.int b=>(if a then 1 else 0) == b
  | .int a,.bl b=>a == (if b then 1 else 0)
  | .int a,.int b=>a == b
  | .str a,.str b=>a == b
  | .tup xs,.tup ys=>peqL xs ys
  | .lst xs,.lst ys=>peqL xs ys
  | .lst xs,.fro ys=>peqL xs ys
  | .fro xs,.lst ys=>peqL xs ys
  | .fro xs,.fro ys=>peqL xs ys
  | _,_=>false
def peqL:List PV->List PV->Bool
  | [],[]=>true
  | x :: xs,y :: ys=>peq x y && peqL xs ys
  | _,_=>false
end
def Jd:Nat->PV->Bool
  | _,.ref _=>false
  | _,.dic=>false
  | 0,.tup _=>false
  | 0,.lst _=>false
  | 0,.fro _=>false
  | n + 1,.tup xs=>xs.all (Jd n)
  | n + 1,.lst xs=>xs.all (Jd n)
  | n + 1,.fro xs=>xs.all (Jd n)
  | _,_=>true
theorem peqL_len:∀ {xs ys:List PV},xs.length≠ys.length->peqL xs ys=false
  | [],[],h=>absurd rfl h
  | [],_ :: _,_=>by simp [peqL]
  | _ :: _,[],_=>by simp [peqL]
  | x :: xs,y :: ys,h=>by
    rw [peqL,peqL_len (xs:=xs) (ys:=ys) fun e=>h (by simp [e]),Bool.and_false]
theorem peqL_all:∀ {xs ys:List PV},xs.length=ys.length->peqL xs ys=(List.range xs.length).all fun j=>peq (xs.getD j .non) (ys.getD j .non)
  | [],[],_=>by simp [peqL]
  | [],_ :: _,h=>by simp at h
  | _ :: _,[],h=>by simp at h
  | x :: xs,y :: ys,h=>by
    rw [peqL,peqL_all (xs:=xs) (ys:=ys) (by simpa using h),E8,List.range_succ_eq_map,List.all_cons,List.all_map]
    rfl
section
variable {X:Cx} {pins:List (Addr × Obj)} {σ:St} {H:Hp} {s:Shared} {ρ:Tk}
mutual
theorem rep_same:∀ {p q:PV} {x:V} {n:Nat},Jd n p=true->Jd n q=true->Rep H ρ p x->Rep H ρ q x->peq p q=true
  | .non,q,x,n,_,gq,h1,h2=>by
    cases h1
    cases q <;> first | rfl | (cases n <;> cases gq; done) | (cases h2; done) | (obtain ⟨_,_,e,_⟩:=h2; cases e) | (obtain ⟨_,_,e⟩:=h2; cases e)
  | .bl b,q,x,n,_,gq,h1,h2=>by
    cases h1
    cases q <;> first | (cases n <;> cases gq; done) | (cases h2; simp [peq]; done) | (obtain ⟨_,_,e,_⟩:=h2; done) | (obtain ⟨_,_,e,_⟩:=h2; cases e; done) | (obtain ⟨_,_,e⟩:=h2; cases e)
  | .int b,q,x,n,_,gq,h1,h2=>by
    cases h1
    cases q <;> first | (cases n <;> cases gq; done) | (cases h2; simp [peq]; done) | (obtain ⟨_,_,e,_⟩:=h2; done) | (obtain ⟨_,_,e,_⟩:=h2; cases e; done) | (obtain ⟨_,_,e⟩:=h2; cases e)
  | .str b,q,x,n,_,gq,h1,h2=>by
    cases h1
    cases q <;> first | (cases n <;> cases gq; done) | (cases h2; simp [peq]; done) | (obtain ⟨_,_,e,_⟩:=h2; done) | (obtain ⟨_,_,e,_⟩:=h2; cases e; done) | (obtain ⟨_,_,e⟩:=h2; cases e)
  | .tup ps,q,x,0,gp,_,_,_=>by cases gp
  | .tup ps,q,x,n + 1,gp,gq,⟨a,vs,e,ha,_,r⟩,h2=>by
    subst e
    cases q with
    | tup qs=>
      obtain ⟨b,us,e,hb,_,r2⟩:=h2
      cases e
      rw [ha] at hb; cases hb
      rw [peq]
      exact repL_same gp gq r r2
    | lst qs=>obtain ⟨b,us,e,hb,_⟩:=h2; cases e; rw [ha] at hb; cases hb
    | fro qs=>obtain ⟨b,us,e,hb,_⟩:=h2; cases e; rcases hb with hb | ⟨o,hb⟩ <;> (rw [ha] at hb; cases hb)
    | ref i=>cases gq
    | dic=>cases gq
    | _=>cases h2
  | .lst ps,q,x,0,gp,_,_,_=>by cases gp
  | .lst ps,q,x,n + 1,gp,gq,⟨a,vs,e,ha,_,r⟩,h2=>by
    subst e
    cases q with
    | lst qs=>
      obtain ⟨b,us,e,hb,_,r2⟩:=h2
      cases e
      rw [ha] at hb; cases hb
      rw [peq]
      exact repL_same gp gq r r2
    | tup qs=>obtain ⟨b,us,e,hb,_⟩:=h2; cases e; rw [ha] at hb; cases hb
    | fro qs=>
      obtain ⟨b,us,e,hb,_,r2⟩:=h2
      cases e
      rcases hb with hb | ⟨o,hb⟩
      · rw [ha] at hb; cases hb
        rw [peq]
        exact repL_same gp gq r r2
      · rw [ha] at hb; cases hb
    | ref i=>cases gq
    | dic=>cases gq
    | _=>cases h2
  | .fro ps,q,x,0,gp,_,_,_=>by cases gp
  | .fro ps,q,x,n + 1,gp,gq,⟨a,vs,e,ha,_,r⟩,h2=>by
    subst e
    cases q with
    | lst qs=>
      obtain ⟨b,us,e,hb,_,r2⟩:=h2
      cases e
      rcases ha with ha | ⟨o,ha⟩
      · rw [ha] at hb; cases hb
        rw [peq]
        exact repL_same gp gq r r2
      · rw [ha] at hb; cases hb
    | tup qs=>obtain ⟨b,us,e,hb,_⟩:=h2; cases e; rcases ha with ha | ⟨o,ha⟩ <;> (rw [ha] at hb; cases hb)
    | fro qs=>
      obtain ⟨b,us,e,hb,_,r2⟩:=h2
      cases e
      have:vs=us:=by
        rcases ha with ha | ⟨o,ha⟩ <;> rcases hb with hb | ⟨o',hb⟩ <;> (rw [ha] at hb; cases hb) <;> rfl
      subst this
      rw [peq]
      exact repL_same gp gq r r2
    | ref i=>cases gq
    | dic=>cases gq
    | _=>cases h2
  | .ref i,_,_,n,gp,_,_,_=>by cases n <;> cases gp
  | .dic,_,_,n,gp,_,_,_=>by cases n <;> cases gp
theorem repL_same:∀ {ps qs:List PV} {vs:List V} {n:Nat},ps.all (Jd n)=true->qs.all (Jd n)=true->RepL H ρ ps vs->RepL H ρ qs vs->peqL ps qs=true
  | [],qs,vs,n,_,_,h1,h2=>by
    cases h1
    cases qs with
    | nil=>rfl
    | cons q qs=>obtain ⟨_,_,e,_⟩:=h2; cases e
  | p :: ps,qs,vs,n,g1,g2,⟨v,r,e,h1,h1'⟩,h2=>by
    subst e
    cases qs with
    | nil=>cases h2
    | cons q qs=>
      obtain ⟨_,_,e,h2,h2'⟩:=h2
      cases e
      rw [List.all_cons,L0] at g1 g2
      rw [peqL,rep_same g1.1 g2.1 h1 h2,repL_same g1.2 g2.2 h1' h2']; rfl
end
inductive Kd (H:Hp) (ρ:Tk) (s:Shared):PV->Value->Prop where
  | non:Kd H ρ s .non .none
  | bl (b):Kd H ρ s (.bl b) (.bool b)
  | int (i t):Kd H ρ s (.int i) (.int i t)
  | str (x t):Kd H ρ s (.str x) (.str x t)
  | tup (ps a) (vs:List V) (its:List Value):H a=some (.tup vs)->RepL H ρ ps vs->Vals vs its->s.heap.IsTuple a its.toArray->Kd H ρ s (.tup ps) (.ref a)
  | lst (p ps a) (vs:List V) (its:List Value):(p=.lst ps\/p=.fro ps)->RepL H ρ ps vs->Vals vs its->s.heap.IsList a its.toArray->Kd H ρ s p (.ref a)
theorem kd_of {p:PV} {x:V} {u:Value} {n:Nat} (I:Inv X pins σ H s) (g:Jd n p=true) (r:Rep H ρ p x) (ru:RelV x u):Kd H ρ s p u:=by
  cases p with
  | non=>cases r; cases ru; exact .non
  | bl b=>cases r; cases ru; exact .bl b
  | int i=>cases r; obtain ⟨t,rfl⟩:=ru; exact .int i t
  | str i=>cases r; obtain ⟨t,rfl⟩:=ru; exact .str i t
  | tup ps=>
    obtain ⟨a,vs,rfl,ha,_,rr⟩:=r
    cases ru
    obtain ⟨its,v1,p1,_⟩:=I.tuple (SqT.of (K:=X.K) ha)
    exact .tup ps a vs its ha rr v1 p1
  | lst ps=>
    obtain ⟨a,vs,rfl,ha,_,rr⟩:=r
    cases ru
    obtain ⟨its,v1,p1,_⟩:=I.list (SqL.of (K:=X.K) ha)
    exact .lst _ ps a vs its (.inl rfl) rr v1 p1.isList
  | fro ps=>
    obtain ⟨a,vs,rfl,ha,_,rr⟩:=r
    cases ru
    obtain ⟨its,v1,p1,_⟩:=I.list (show SqL X.K H a vs from .inl ha)
    exact .lst _ ps a vs its (.inr rfl) rr v1 p1.isList
  | ref i=>cases n <;> cases g
  | dic=>cases n <;> cases g
theorem getD_of {ps:List PV} {vs:List V} {its:List Value} (r:RepL H ρ ps vs) (v:Vals vs its) {j:Nat} (h:j < its.length):∃ x,Rep H ρ (ps.getD j .non) x/\RelV x its[j]:=by
  have l1:=r.length
  have l2:=v.length
  have hj:j < ps.length:=by omega
  obtain ⟨x,e1,e2⟩:=r.get (O1 hj)
  obtain ⟨u,e3,e4⟩:=v.get e1
  rw [O1 h] at e3; cases e3
  refine ⟨x,?_,e4⟩
  rw [List.getD,O1 hj]
  exact e2
theorem good_getD {ps:List PV} {n:Nat} (g:ps.all (Jd n)=true) (j:Nat) (hj:j < ps.length):Jd n (ps.getD j .non)=true:=by
  rw [List.getD,O1 hj]
  exact (L1.mp g) _ (List.getElem_mem hj)
theorem peqL_range {ps qs:List PV}:((List.range (min ps.length qs.length)).all (fun j=>peq (ps.getD j .non) (qs.getD j .non)) && ps.length == qs.length)=peqL ps qs:=by
  by_cases e:ps.length=qs.length
  · rw [peqL_all e,<- e,Nat.min_self,beq_self_eq_true,Bool.and_true]
  · rw [peqL_len e,beq_eq_false_iff_ne.mpr e,Bool.and_false]
theorem eqAts:∀ (n:Nat) {A:Around} {p q:PV} {x y:V} {u v:Value},Inv X pins σ H s->Jd n p=true->Jd n q=true->A.units + n < cLine->Rep H ρ p x->RelV x u->Rep H ρ q y->RelV y v ->
    EqAt A s u v (peq p q)/\RcAt A s u v (peq p q)/\RcNeAt A s u v (!peq p q):=by
  intro n
  induction n with
  | zero=>
    intro A p q x y u v I gp gq hu rp ru rq rv
    have k1:=kd_of I gp rp ru
    have k2:=kd_of I gq rq rv
    have hu:A.units < cLine:=by omega
    cases k1 with
    | tup=>cases gp
    | lst p ps a vs its h=>rcases h with rfl | rfl <;> cases gp
    | non=>cases k2 with
      | tup=>cases gq
      | lst p ps a vs its h=>rcases h with rfl | rfl <;> cases gq
      | non=>exact ⟨EqAt.same _,RcAt.none_none,RcNeAt.none_none⟩
      | bl b=>exact ⟨EqAt.none_bool _,RcAt.none_bool _,RcNeAt.none_bool _⟩
      | int i t=>exact ⟨EqAt.none_int _ _,RcAt.none_int _ _,RcNeAt.none_int _ _⟩
      | str i t=>exact ⟨EqAt.none_str _ _,RcAt.none_str _ _,RcNeAt.none_str _ _⟩
    | bl a=>cases k2 with
      | tup=>cases gq
      | lst p ps a vs its h=>rcases h with rfl | rfl <;> cases gq
      | non=>exact ⟨EqAt.bool_none _,RcAt.bool_none _,RcNeAt.bool_none _⟩
      | bl b=>exact ⟨EqAt.bool_bool _ _,RcAt.bool_bool _ _,RcNeAt.bool_bool _ _⟩
      | int i t=>exact ⟨EqAt.bool_int _ _ _,RcAt.bool_int _ _ _,RcNeAt.bool_int _ _ _⟩
      | str i t=>exact ⟨EqAt.bool_str _ _ _,RcAt.bool_str _ _ _,RcNeAt.bool_str _ _ _⟩
    | int a at'=>cases k2 with
      | tup=>cases gq
      | lst p ps a vs its h=>rcases h with rfl | rfl <;> cases gq
      | non=>exact ⟨EqAt.int_none _ _,RcAt.int_none _ _,RcNeAt.int_none _ _⟩
      | bl b=>exact ⟨EqAt.int_bool _ _ _,RcAt.int_bool _ _ _,RcNeAt.int_bool _ _ _⟩
      | int i t=>exact ⟨EqAt.int_int _ _ _ _,RcAt.int_int _ _ _ _,RcNeAt.int_int _ _ _ _⟩
      | str i t=>exact ⟨EqAt.int_str _ _ _ _,RcAt.int_str _ _ _ _,RcNeAt.int_str _ _ _ _⟩
    | str a at'=>cases k2 with
      | tup=>cases gq
      | lst p ps a vs its h=>rcases h with rfl | rfl <;> cases gq
      | non=>exact ⟨EqAt.str_none _ _,RcAt.str_none _ _,RcNeAt.str_none _ _⟩
      | bl b=>exact ⟨EqAt.str_bool _ _ _,RcAt.str_bool _ _ _,RcNeAt.str_bool _ _ _⟩
      | int i t=>exact ⟨EqAt.str_int _ _ _ _,RcAt.str_int _ _ _ _,RcNeAt.str_int _ _ _ _⟩
      | str i t=>exact ⟨EqAt.str_str _ _ _ _,RcAt.str_str _ _ _ _,RcNeAt.str_str _ _ _ _⟩
  | succ n ih=>
    intro A p q x y u v I gp gq hu rp ru rq rv
    have k1:=kd_of I gp rp ru
    have k2:=kd_of I gq rq rv
    have hu0:A.units < cLine:=by omega
    have hin:A.in1.units + n < cLine:=by show A.units + 1 + n < cLine; omega
    cases k1 with
    | non=>cases k2 with
      | non=>exact ⟨EqAt.same _,RcAt.none_none,RcNeAt.none_none⟩
      | bl b=>exact ⟨EqAt.none_bool _,RcAt.none_bool _,RcNeAt.none_bool _⟩
      | int i t=>exact ⟨EqAt.none_int _ _,RcAt.none_int _ _,RcNeAt.none_int _ _⟩
      | str i t=>exact ⟨EqAt.none_str _ _,RcAt.none_str _ _,RcNeAt.none_str _ _⟩
      | tup ps a vs its ha r v1 p1=>exact ⟨EqAt.none_tuple p1 hu0,RcAt.none_tuple p1 hu0,RcNeAt.none_tuple p1 hu0⟩
      | lst p ps a vs its h r v1 p1=>rcases h with rfl | rfl <;> exact ⟨EqAt.none_list p1 hu0,RcAt.none_list p1 hu0,RcNeAt.none_list p1 hu0⟩
    | bl a=>cases k2 with
      | non=>exact ⟨EqAt.bool_none _,RcAt.bool_none _,RcNeAt.bool_none _⟩
      | bl b=>exact ⟨EqAt.bool_bool _ _,RcAt.bool_bool _ _,RcNeAt.bool_bool _ _⟩
      | int i t=>exact ⟨EqAt.bool_int _ _ _,RcAt.bool_int _ _ _,RcNeAt.bool_int _ _ _⟩
      | str i t=>exact ⟨EqAt.bool_str _ _ _,RcAt.bool_str _ _ _,RcNeAt.bool_str _ _ _⟩
      | tup ps a vs its ha r v1 p1=>exact ⟨EqAt.bool_tuple _ p1 hu0,RcAt.bool_tuple _ p1 hu0,RcNeAt.bool_tuple _ p1 hu0⟩
      | lst p ps a vs its h r v1 p1=>rcases h with rfl | rfl <;> exact ⟨EqAt.bool_list _ p1 hu0,RcAt.bool_list _ p1 hu0,RcNeAt.bool_list _ p1 hu0⟩
    | int a at'=>cases k2 with
      | non=>exact ⟨EqAt.int_none _ _,RcAt.int_none _ _,RcNeAt.int_none _ _⟩
      | bl b=>exact ⟨EqAt.int_bool _ _ _,RcAt.int_bool _ _ _,RcNeAt.int_bool _ _ _⟩
      | int i t=>exact ⟨EqAt.int_int _ _ _ _,RcAt.int_int _ _ _ _,RcNeAt.int_int _ _ _ _⟩
      | str i t=>exact ⟨EqAt.int_str _ _ _ _,RcAt.int_str _ _ _ _,RcNeAt.int_str _ _ _ _⟩
      | tup ps a vs its ha r v1 p1=>exact ⟨EqAt.int_tuple _ _ p1 hu0,RcAt.int_tuple _ _ p1 hu0,RcNeAt.int_tuple _ _ p1 hu0⟩
      | lst p ps a vs its h r v1 p1=>rcases h with rfl | rfl <;> exact ⟨EqAt.int_list _ _ p1 hu0,RcAt.int_list _ _ p1 hu0,RcNeAt.int_list _ _ p1 hu0⟩
    | str a at'=>cases k2 with
      | non=>exact ⟨EqAt.str_none _ _,RcAt.str_none _ _,RcNeAt.str_none _ _⟩
      | bl b=>exact ⟨EqAt.str_bool _ _ _,RcAt.str_bool _ _ _,RcNeAt.str_bool _ _ _⟩
      | int i t=>exact ⟨EqAt.str_int _ _ _ _,RcAt.str_int _ _ _ _,RcNeAt.str_int _ _ _ _⟩
      | str i t=>exact ⟨EqAt.str_str _ _ _ _,RcAt.str_str _ _ _ _,RcNeAt.str_str _ _ _ _⟩
      | tup ps a vs its ha r v1 p1=>exact ⟨EqAt.str_tuple _ _ p1 hu0,RcAt.str_tuple _ _ p1 hu0,RcNeAt.str_tuple _ _ p1 hu0⟩
      | lst p ps a vs its h r v1 p1=>rcases h with rfl | rfl <;> exact ⟨EqAt.str_list _ _ p1 hu0,RcAt.str_list _ _ p1 hu0,RcNeAt.str_list _ _ p1 hu0⟩
    | tup ps a vs its ha r v1 p1=>cases k2 with
      | non=>exact ⟨EqAt.tuple_none p1 hu0,RcAt.tuple_none p1 hu0,RcNeAt.tuple_none p1 hu0⟩
      | bl b=>exact ⟨EqAt.tuple_bool _ p1 hu0,RcAt.tuple_bool _ p1 hu0,RcNeAt.tuple_bool _ p1 hu0⟩
      | int i t=>exact ⟨EqAt.tuple_int _ _ p1 hu0,RcAt.tuple_int _ _ p1 hu0,RcNeAt.tuple_int _ _ p1 hu0⟩
      | str i t=>exact ⟨EqAt.tuple_str _ _ p1 hu0,RcAt.tuple_str _ _ p1 hu0,RcNeAt.tuple_str _ _ p1 hu0⟩
      | tup qs b us its2 hb r2 v2 p2=>
        have l1:its.toArray.size=ps.length:=by rw [O5,<- v1.length,r.length]
        have l2:its2.toArray.size=qs.length:=by rw [O5,<- v2.length,r2.length]
        have he:∀ j (h1:j < its.toArray.size) (h2:j < its2.toArray.size),EqAt A.in1 s its.toArray[j] its2.toArray[j] (peq (ps.getD j .non) (qs.getD j .non)):=fun j h1 h2=>by
          obtain ⟨x1,a1,b1⟩:=getD_of r v1 (j:=j) (by simpa using h1)
          obtain ⟨x2,a2,b2⟩:=getD_of r2 v2 (j:=j) (by simpa using h2)
          exact (ih I (good_getD gp j (by omega)) (good_getD gq j (by omega)) hin a1 b1 a2 b2).1
        have rc:=RcAt.tuples p1 p2 hu0 he
        have rn:=RcNeAt.tuples p1 p2 hu0 he
        rw [l1,l2,peqL_range] at rc rn
        refine ⟨?_,rc,rn⟩
        by_cases e:a=b
        · subst e
          have:peqL ps qs=true:=by
            rw [ha] at hb; cases hb
            exact repL_same gp gq r r2
          show EqAt A s _ _ (peqL ps qs)
          rw [this]
          exact EqAt.same _
        · exact EqAt.of_refs e rc
      | lst q qs b us its2 h r2 v2 p2=>rcases h with rfl | rfl <;> exact ⟨EqAt.tuple_list p1 p2 hu0,RcAt.tuple_list p1 p2 hu0,RcNeAt.tuple_list p1 p2 hu0⟩
    | lst p ps a vs its h r v1 p1=>cases k2 with
      | non=>rcases h with rfl | rfl <;> exact ⟨EqAt.list_none p1 hu0,RcAt.list_none p1 hu0,RcNeAt.list_none p1 hu0⟩
      | bl b=>rcases h with rfl | rfl <;> exact ⟨EqAt.list_bool _ p1 hu0,RcAt.list_bool _ p1 hu0,RcNeAt.list_bool _ p1 hu0⟩
      | int i t=>rcases h with rfl | rfl <;> exact ⟨EqAt.list_int _ _ p1 hu0,RcAt.list_int _ _ p1 hu0,RcNeAt.list_int _ _ p1 hu0⟩
      | str i t=>rcases h with rfl | rfl <;> exact ⟨EqAt.list_str _ _ p1 hu0,RcAt.list_str _ _ p1 hu0,RcNeAt.list_str _ _ p1 hu0⟩
      | tup qs b us its2 hb r2 v2 p2=>rcases h with rfl | rfl <;> exact ⟨EqAt.list_tuple p1 p2 hu0,RcAt.list_tuple p1 p2 hu0,RcNeAt.list_tuple p1 p2 hu0⟩
      | lst q qs b us its2 h2 r2 v2 p2=>
        have l1:its.toArray.size=ps.length:=by rw [O5,<- v1.length,r.length]
        have l2:its2.toArray.size=qs.length:=by rw [O5,<- v2.length,r2.length]
        have gp':ps.all (Jd n)=true:=by rcases h with rfl | rfl <;> exact gp
        have gq':qs.all (Jd n)=true:=by rcases h2 with rfl | rfl <;> exact gq
        have ep:peq p q=peqL ps qs:=by rcases h with rfl | rfl <;> rcases h2 with rfl | rfl <;> rfl
        have he:∀ j (h1:j < its.toArray.size) (h2:j < its2.toArray.size),EqAt A.in1 s its.toArray[j] its2.toArray[j] (peq (ps.getD j .non) (qs.getD j .non)):=fun j h1 h2=>by
          obtain ⟨x1,a1,b1⟩:=getD_of r v1 (j:=j) (by simpa using h1)
          obtain ⟨x2,a2,b2⟩:=getD_of r2 v2 (j:=j) (by simpa using h2)
          exact (ih I (good_getD gp' j (by omega)) (good_getD gq' j (by omega)) hin a1 b1 a2 b2).1
        rw [ep]
        have rcn:RcAt A s (.ref a) (.ref b) (peqL ps qs)/\RcNeAt A s (.ref a) (.ref b) (!peqL ps qs):=by
          by_cases e:ps.length=qs.length
          · have rc:=RcAt.lists p1 p2 (by rw [l1,l2,e]) hu0 he
            have rn:=RcNeAt.lists p1 p2 (by rw [l1,l2,e]) hu0 he
            rw [l1,<- peqL_all e] at rc rn
            exact ⟨rc,rn⟩
          · have e':(its.toArray.size != its2.toArray.size)=true:=by rw [l1,l2]; simpa using e
            rw [peqL_len e]
            exact ⟨RcAt.lists_lengths p1 p2 e' hu0,RcNeAt.lists_lengths p1 p2 e' hu0⟩
        refine ⟨?_,rcn.1,rcn.2⟩
        by_cases e:a=b
        · subst e
          have eq1:peq p q=true:=by
            have rp':=rp
            have rq':=rq
            have xa:x=.ref a:=by
              rcases h with rfl | rfl <;> (obtain ⟨b',_,rfl,_⟩:=rp; cases ru; rfl)
            have ya:y=.ref a:=by
              rcases h2 with rfl | rfl <;> (obtain ⟨b',_,rfl,_⟩:=rq; cases rv; rfl)
            subst xa; subst ya
            exact rep_same gp gq rp rq
          rw [<- ep,eq1]
          exact EqAt.same _
        · exact EqAt.of_refs e rcn.1
end
end Sm
namespace Sm
open PySem PySem.Spec L2
def lim:Nat:=1000000
theorem lim_le:lim<=sizeLine:=by decide
theorem le_lim {n:Nat} (h:n<=lim):n<=sizeLine:=D3 h lim_le
def lstOf (st:Q0):PV->Option (List PV)
  | .lst xs=>some xs
  | .ref i=>match st[i]? with
    | some (.lst xs)=>some xs
    | _=>none
  | _=>none
def listOf (st:Q0):PV->Option (List PV)
  | .fro xs=>some xs
  | p=>lstOf st p
def seqOf (st:Q0):PV->Option (List PV)
  | .tup xs=>some xs
  | p=>listOf st p
def der (st:Q0):PV->PV
  | .ref i=>match st[i]? with
    | some (.lst xs)=>.lst xs
    | _=>.ref i
  | p=>p
section
variable {H:Hp} {ρ:Tk} {st:Q0} {p:PV} {v:V} {xs:List PV}
theorem lst_at (R:Rel H ρ st) (r:Rep H ρ p v) (e:lstOf st p=some xs):∃ a vs,v=.ref a/\H a=some (.lst vs)/\RepL H ρ xs vs:=by
  cases p with
  | lst ys=>
    obtain ⟨a,vs,e1,e2,_,e3⟩:=r
    cases e
    exact ⟨a,vs,e1,e2,e3⟩
  | ref i=>
    obtain ⟨a,e1,e2⟩:=r
    simp only [lstOf] at e
    split at e
    · rename_i ys hs
      cases e
      obtain ⟨b,vs,f1,f2,f3⟩:=R.lst hs
      rw [e1] at f1; cases f1
      exact ⟨a,vs,e2,f2,f3⟩
    · cases e
  | _=>cases e
theorem list_at (R:Rel H ρ st) (r:Rep H ρ p v) (e:listOf st p=some xs):∃ a vs,v=.ref a/\Rd H a (.lst vs)/\RepL H ρ xs vs:=by
  cases p with
  | fro ys=>
    obtain ⟨a,vs,e1,e2,_,e3⟩:=r
    cases e
    exact ⟨a,vs,e1,e2,e3⟩
  | _=>
    obtain ⟨a,vs,e1,e2,e3⟩:=lst_at R r e
    exact ⟨a,vs,e1,.inl e2,e3⟩
theorem seq_at {K:PySem.W.Frag} (R:Rel H ρ st) (r:Rep H ρ p v) (e:seqOf st p=some xs):∃ (t:Bool) (a:Addr) (vs:List V),v=.ref a/\SqK K t H a vs/\RepL H ρ xs vs:=by
  cases p with
  | tup ys=>
    obtain ⟨a,vs,e1,e2,_,e3⟩:=r
    cases e
    exact ⟨true,a,vs,e1,show SqT K H a vs from SqT.of e2,e3⟩
  | _=>
    obtain ⟨a,vs,e1,e2,e3⟩:=list_at R r e
    exact ⟨false,a,vs,e1,show SqL K H a vs from .inl e2,e3⟩
theorem sqK_or {K:PySem.W.Frag} {t:Bool} {a:Addr} {vs:List V} (h:SqK K t H a vs):SqL K H a vs\/SqT K H a vs:=by
  cases t with
  | true=>exact .inr h
  | false=>exact .inl h
mutual
theorem rep_nil:∀ {n:Nat} {q:PV} {u:V},Jd n q=true->Rep H ρ q u->Rep H Tk.nil q u
  | _,.non,_,_,r=>r
  | _,.bl _,_,_,r=>r
  | _,.int _,_,_,r=>r
  | _,.str _,_,_,r=>r
  | 0,.tup _,_,g,_=>by cases g
  | 0,.lst _,_,g,_=>by cases g
  | 0,.fro _,_,g,_=>by cases g
  | n + 1,.tup _,_,g,⟨a,vs,e,h,_,r⟩=>⟨a,vs,e,h,Tk.not_nil _,repL_nil g r⟩
  | n + 1,.lst _,_,g,⟨a,vs,e,h,_,r⟩=>⟨a,vs,e,h,Tk.not_nil _,repL_nil g r⟩
  | n + 1,.fro _,_,g,⟨a,vs,e,h,_,r⟩=>⟨a,vs,e,h,Tk.not_nil _,repL_nil g r⟩
  | 0,.ref _,_,g,_=>by cases g
  | _ + 1,.ref _,_,g,_=>by cases g
  | 0,.dic,_,g,_=>by cases g
  | _ + 1,.dic,_,g,_=>by cases g
theorem repL_nil:∀ {n:Nat} {qs:List PV} {us:List V},qs.all (Jd n)=true->RepL H ρ qs us->RepL H Tk.nil qs us
  | _,[],_,_,r=>r
  | n,q :: qs,_,g,⟨v,r,e,h1,h2⟩=>by
    rw [List.all_cons,L0] at g
    exact ⟨v,r,e,rep_nil g.1 h1,repL_nil g.2 h2⟩
end
theorem der_rep (R:Rel H ρ st) {n:Nat} (g:Jd n (der st p)=true) (r:Rep H ρ p v):Rep H Tk.nil (der st p) v:=by
  cases p with
  | ref i=>
    obtain ⟨a,e1,e2⟩:=r
    simp only [der] at g ⊢
    split at g
    · rename_i ys hs
      obtain ⟨b,vs,f1,f2,f3⟩:=R.lst hs
      rw [e1] at f1; cases f1
      cases n with
      | zero=>cases g
      | succ n=>exact ⟨a,vs,e2,f2,Tk.not_nil _,repL_nil g f3⟩
    · cases n <;> cases g
  | _=>exact rep_nil g r
theorem new_tup {mg:Str->Option Value} {E:XK} {Q:VK} {ps:List PV} {vs:List V} (R:Rel H ρ st) (h:Acc mg E H ρ (QV Q) (.ok (.tup ps) st)) (r:RepL H ρ ps vs):∀ p,H p=none->Q (.ref p) (upd H p (.tup vs)):=
  fun p hp=>h _ ρ (Ext.add hp) (R.add hp) _ ⟨p,vs,rfl,Qu,R.fresh hp,r.ext (Ext.add hp)⟩
theorem new_lst {mg:Str->Option Value} {E:XK} {Q:VK} {ps:List PV} {vs:List V} (R:Rel H ρ st) (h:Acc mg E H ρ (QV Q) (.ok (.lst ps) st)) (r:RepL H ρ ps vs):∀ p,H p=none->Q (.ref p) (upd H p (.lst vs)):=
  fun p hp=>h _ ρ (Ext.add hp) (R.add hp) _ ⟨p,vs,rfl,Qu,R.fresh hp,r.ext (Ext.add hp)⟩
theorem now {mg:Str->Option Value} {E:XK} {Q:VK} {p:PV} (R:Rel H ρ st) (h:Acc mg E H ρ (QV Q) (.ok p st)) (r:Rep H ρ p v):Q v H:=h H ρ (Ext.refl _ _) R v r
end
section
variable {X:Cx} {E:XK} {pos:Pos}
def Q3 (i:Nat):ME:=fun Γ st=>match Γ[i]? with
  | some (some p)=>.ok p st
  | _=>.stuck
def mC (p:PV):ME:=fun _ st=>.ok p st
theorem se_var (i:Nat) {x:Str} (hN:X.N[i]?=some x:=by rfl) (hv:Vis X.env.scope x:=by first | exact Or.inl rfl | exact Or.inr (Or.inl rfl) | exact Or.inr (Or.inr rfl)) (hd:(x == ("__debug__" : Str))=false:=by decide)
    (hcd:(x == ("__classdict__" : Str))=false:=by decide):SimE X E (.Name x pos) (Q3 i):=⟨fun Γ σ H ρ st Q R G h=>WE.of (pe_var hN hv hd hcd) (by
  unfold Q3 at h
  split at h
  · rename_i p e
    obtain ⟨v,e1,r⟩:=G.2 i p e
    exact ⟨v,e1,now R h r⟩
  · exact h.elim)⟩
theorem se_int {i:Int} {j:Nat}:SimE X E (.Constant (.int i) j pos) (mC (.int i)):=⟨fun Γ σ H ρ st Q R G h=>WE.of pe_int (now R h rfl)⟩
theorem se_bl {b:Bool} {j:Nat}:SimE X E (.Constant (.bool b) j pos) (mC (.bl b)):=⟨fun Γ σ H ρ st Q R G h=>WE.of pe_bl (now R h rfl)⟩
theorem se_non {j:Nat}:SimE X E (.Constant .none j pos) (mC .non):=⟨fun Γ σ H ρ st Q R G h=>WE.of pe_non (now R h rfl)⟩
theorem se_str {x:Str} {j:Nat}:SimE X E (.Constant (.str x) j pos) (mC (.str x)):=⟨fun Γ σ H ρ st Q R G h=>WE.of pe_str (now R h rfl)⟩
theorem se_gint {x:Str} {i:Int} {t:Tok} (hg:Gl X x) (hm:X.mg x=some (.int i t)) (hd:(x == ("__debug__" : Str))=false:=by decide):SimE X E (.Name x pos) (mC (.int i)):=
  ⟨fun Γ σ H ρ st Q R G h=>WE.of (pe_glob hg hm (v:=.int i) ⟨t,rfl⟩ hd) (now R h rfl)⟩
variable {a b c:Expr} {ma mb mc:ME}
def mOp (o:OP) (ma mb:ME):ME:=fun Γ st=>(ma Γ st).bind fun x st1=>(mb Γ st1).bind fun y st2=>o st2 x y
theorem bin_run {f:Value->Value->Sem Value} {o:OP} {Γ:Gam} {σ:St} {H:Hp} {ρ:Tk} {st:Q0} {P:PV->Q0->Hp->Tk->Prop} {Q:VK} (ho:OpS X E f o) (ha:SimE X E a ma) (hb:SimE X E b mb) (R:Rel H ρ st) (G:EnvR H ρ Γ σ) (h:Acc X.mg E H ρ P (mOp o ma mb Γ st))
    (k:∀ p st1 H1 ρ1 v,Ext H ρ H1 ρ1->Rel H1 ρ1 st1->Rep H1 ρ1 p v->P p st1 H1 ρ1->Q v H1):tOp (WO X f) (WE X a) (WE X b) σ H Q:=by
  refine ha.use R G h.bind fun p st1 H1 ρ1 v x1 R1 G1 r1 h1=>?_
  refine hb.use R1 G1 h1.bind fun q st2 H2 ρ2 u x2 R2 G2 r2 h2=>?_
  exact ho.use R2 (r1.ext x2) r2 h2 fun w st3 H3 ρ3 z x3 R3 r3 p3=>k w st3 H3 ρ3 z (x1.trans (x2.trans x3)) R3 r3 p3
theorem se_op {op:Operator} {o:OP} (ho:OpS X E (binaryOp op) o) (ha:SimE X E a ma) (hb:SimE X E b mb):SimE X E (.BinOp a op b pos) (mOp o ma mb):=
  ⟨fun Γ σ H ρ st Q R G h=>WE.of (pe_op op_w Zs Zs) (bin_run ho ha hb R G h fun _ _ _ _ v _ _ r q=>q v r)⟩
theorem se_cmp {op:CmpOp} {o:OP} (ho:OpS X E (compareOp op) o) (ha:SimE X E a ma) (hb:SimE X E b mb) (hm:behindInMarks op b=false:=by first | exact nomark _ | rfl):SimE X E (.Compare a [op] [b] pos) (mOp o ma mb):=
  ⟨fun Γ σ H ρ st Q R G h=>WE.of (pe_cmpR op_w Zs Zs hm) (bin_run ho ha hb R G h fun _ _ _ _ v _ _ r q=>q v r)⟩
def asB (p:PV) (st:Q0):Res Bool:=match p with
  | .bl k=>.ok k st
  | _=>.stuck
def toB (m:ME):Gam->Q0->Res Bool:=fun Γ st=>(m Γ st).bind asB
theorem acc_b {mg:Str->Option Value} {H:Hp} {ρ:Tk} {st:Q0} {p:PV} {v:V} {P:Bool->Q0->Hp->Tk->Prop} (R:Rel H ρ st) (r:Rep H ρ p v) (h:Acc mg E H ρ P (asB p st)):∃ k,v=.bl k/\P k st H ρ:=by
  cases p with
  | bl k=>exact ⟨k,r,h H ρ (Ext.refl _ _) R⟩
  | _=>exact h.elim
theorem st_cmp {op:CmpOp} {o:OP} (ho:OpS X E (compareOp op) o) (ha:SimE X E a ma) (hb:SimE X E b mb) (hm:behindInMarks op b=false:=by first | exact nomark _ | rfl):SimT X E (.Compare a [op] [b] pos) (toB (mOp o ma mb)):=
  ⟨fun Γ σ H ρ st Q R G h=>WT.of (pt_cmpR op_w Zs Zs hm) (bin_run ho ha hb R G h.bind fun _ st1 _ _ v _ R1 r q=>by
    obtain ⟨k,e,z⟩:=acc_b R1 r q
    exact ⟨k,e,z⟩)⟩
theorem st_val {e:Expr} {m:ME} (h:SimE X E e m) (he:∀ whole,isTrue e X.env whole=(do let v <- whole; standAt e.pos; holding [v] (truthy v)):=by intro _; rfl):SimT X E e (toB m):=
  ⟨fun Γ σ H ρ st Q R G hq=>WT.of (pt_val Zs he) (h.use R G hq.bind fun p st1 H1 ρ1 v x1 R1 G1 r1 h1=>by
    obtain ⟨k,e,z⟩:=acc_b R1 r1 h1
    exact ⟨k,e,z⟩)⟩
def mChain (o o':OP) (ma mb mc:ME):ME:=fun Γ st=>(ma Γ st).bind fun x st1=>(mb Γ st1).bind fun y st2=>(o st2 x y).bind fun k st3=>match k with
  | .bl true=>(mc Γ st3).bind fun z st4=>o' st4 y z
  | .bl false=>.ok (.bl false) st3
  | _=>.stuck
theorem chain_run {op op':CmpOp} {o o':OP} {Γ:Gam} {σ:St} {H:Hp} {ρ:Tk} {st:Q0} {P:PV->Q0->Hp->Tk->Prop} {Q:VK} (ho:OpS X E (compareOp op) o) (ho':OpS X E (compareOp op') o') (ha:SimE X E a ma) (hb:SimE X E b mb) (hc:SimE X E c mc) (R:Rel H ρ st) (G:EnvR H ρ Γ σ) (h:Acc X.mg E H ρ P (mChain o o' ma mb mc Γ st))
    (k:∀ p st1 H1 ρ1 v,Ext H ρ H1 ρ1->Rel H1 ρ1 st1->Rep H1 ρ1 p v->P p st1 H1 ρ1->Q v H1):tChain (WO X (compareOp op)) (WO X (compareOp op')) (WE X a) (WE X b) (WE X c) σ H Q:=by
  refine ha.use R G h.bind fun p st1 H1 ρ1 v x1 R1 G1 r1 h1=>?_
  refine hb.use R1 G1 h1.bind fun q st2 H2 ρ2 u x2 R2 G2 r2 h2=>?_
  refine ho.use R2 (r1.ext x2) r2 h2.bind fun w st3 H3 ρ3 z x3 R3 r3 h3=>?_
  cases w with
  | bl b=>
    refine ⟨b,r3,?_⟩
    cases b with
    | true=>
      rw [if_pos rfl]
      refine hc.use R3 (G2.ext x3) h3.bind fun y st4 H4 ρ4 yv x4 R4 G4 r4 h4=>?_
      exact ho'.use R4 (r2.ext (x3.trans x4)) r4 h4 fun w st5 H5 ρ5 z x5 R5 r5 p5=>k w st5 H5 ρ5 z (x1.trans (x2.trans (x3.trans (x4.trans x5)))) R5 r5 p5
    | false=>
      rw [if_neg D6]
      exact k (.bl false) _ H3 ρ3 _ (x1.trans (x2.trans x3)) R3 rfl (h3 H3 ρ3 (Ext.refl _ _) R3)
  | _=>exact h3.elim
theorem se_chain {op op':CmpOp} {o o':OP} (ho:OpS X E (compareOp op) o) (ho':OpS X E (compareOp op') o') (ha:SimE X E a ma) (hb:SimE X E b mb) (hc:SimE X E c mc) (hm:lastMarks [op,op'] [b,c]=false:=by with_unfolding_all rfl):SimE X E (.Compare a [op,op'] [b,c] pos) (mChain o o' ma mb mc):=
  ⟨fun Γ σ H ρ st Q R G h=>WE.of (pe_chain op_w op_w Zs Zs Zs hm) (chain_run ho ho' ha hb hc R G h fun _ _ _ _ v _ _ r q=>q v r)⟩
variable {rest:List Expr}
def mAnd (ma mb:ME):ME:=fun Γ st=>(ma Γ st).bind fun x st1=>match x with
  | .bl true=>mb Γ st1
  | .bl false=>.ok (.bl false) st1
  | _=>.stuck
def mNot (ma:ME):ME:=fun Γ st=>(ma Γ st).bind fun x st1=>match x with
  | .bl k=>.ok (.bl (!k)) st1
  | _=>.stuck
theorem se_one {op:BoolOp} (ha:SimE X E a ma):SimE X E (.BoolOp op [a] pos) ma:=⟨fun Γ σ H ρ st Q R G h=>WE.of (pe_one Zs) (ha.use R G h fun _ _ _ _ v _ _ _ r q=>q v r)⟩
theorem se_and (ha:SimE X E a ma) (hb:SimE X E (.BoolOp .And (b :: rest) pos) mb):SimE X E (.BoolOp .And (a :: b :: rest) pos) (mAnd ma mb):=
  ⟨fun Γ σ H ρ st Q R G h=>WE.of (pe_and Zs Zs) (ha.use R G h.bind fun p st1 H1 ρ1 v x1 R1 G1 r1 h1=>by
    cases p with
    | bl k=>
      refine ⟨k,r1,?_⟩
      cases k with
      | true=>rw [if_pos rfl]; exact hb.use R1 G1 h1 fun _ _ _ _ v _ _ _ r q=>q v r
      | false=>rw [if_neg D6]; exact now R1 h1 rfl
    | _=>exact h1.elim)⟩
theorem se_not (ha:SimE X E a ma):SimE X E (.UnaryOp .Not a pos) (mNot ma):=
  ⟨fun Γ σ H ρ st Q R G h=>WE.of (pe_not Zs) (ha.use R G h.bind fun p st1 H1 ρ1 v x1 R1 G1 r1 h1=>by
    cases p with
    | bl k=>exact ⟨k,r1,now R1 h1 rfl⟩
    | _=>exact h1.elim)⟩
def mNeg (ma:ME):ME:=fun Γ st=>(ma Γ st).bind fun x st1=>match x with
  | .int k=>.ok (.int (-k)) st1
  | _=>.stuck
theorem se_neg (ha:SimE X E a ma):SimE X E (.UnaryOp .USub a pos) (mNeg ma):=
  ⟨fun Γ σ H ρ st Q R G h=>WE.of (pe_un un_neg Zs) (ha.use R G h.bind fun p st1 H1 ρ1 v x1 R1 G1 r1 h1=>by
    cases p with
    | int k=>exact ⟨k,r1,now R1 h1 rfl⟩
    | _=>exact h1.elim)⟩
abbrev MT:=Gam->Q0->Res Bool
variable {ta tb:MT}
def tAndM (ta tb:MT):MT:=fun Γ st=>(ta Γ st).bind fun k st1=>if k=true then tb Γ st1 else .ok false st1
def tOrM (ta tb:MT):MT:=fun Γ st=>(ta Γ st).bind fun k st1=>if k=true then .ok true st1 else tb Γ st1
def tNotM (ta:MT):MT:=fun Γ st=>(ta Γ st).bind fun k st1=>.ok (!k) st1
theorem SimW.t {e:Expr} (h:SimW X E e ta):SimT X E e ta:=⟨fun Γ σ H ρ st Q R G q pins s I=>h.run Γ σ H ρ st Q R G q _ pins s I⟩
theorem sw_and1 (ha:SimT X E a ta):SimW X E (.BoolOp .And [a] pos) ta:=⟨fun Γ σ H ρ st Q R G h=>WW.of (pw_and1 pt_w) (ha.use R G h fun _ _ _ _ _ _ _ q=>q)⟩
theorem sw_or1 (ha:SimT X E a ta):SimW X E (.BoolOp .Or [a] pos) ta:=⟨fun Γ σ H ρ st Q R G h=>WW.of (pw_or1 pt_w) (ha.use R G h fun _ _ _ _ _ _ _ q=>q)⟩
theorem sw_and (ha:SimT X E a ta) (hb:SimW X E (.BoolOp .And (b :: rest) pos) tb):SimW X E (.BoolOp .And (a :: b :: rest) pos) (tAndM ta tb):=
  ⟨fun Γ σ H ρ st Q R G h=>WW.of (pw_and pt_w pw_w) (ha.use R G h.bind fun k st1 H1 ρ1 x1 R1 G1 h1=>by
    cases k with
    | true=>rw [if_pos rfl] at h1 ⊢; exact hb.use R1 G1 h1 fun _ _ _ _ _ _ _ q=>q
    | false=>rw [if_neg D6] at h1 ⊢; exact h1 H1 ρ1 (Ext.refl _ _) R1)⟩
theorem sw_or (ha:SimT X E a ta) (hb:SimW X E (.BoolOp .Or (b :: rest) pos) tb):SimW X E (.BoolOp .Or (a :: b :: rest) pos) (tOrM ta tb):=
  ⟨fun Γ σ H ρ st Q R G h=>WW.of (pw_or pt_w pw_w) (ha.use R G h.bind fun k st1 H1 ρ1 x1 R1 G1 h1=>by
    cases k with
    | true=>rw [if_pos rfl] at h1 ⊢; exact h1 H1 ρ1 (Ext.refl _ _) R1
    | false=>rw [if_neg D6] at h1 ⊢; exact hb.use R1 G1 h1 fun _ _ _ _ _ _ _ q=>q)⟩
theorem st_not (ha:SimT X E a ta):SimT X E (.UnaryOp .Not a pos) (tNotM ta):=
  ⟨fun Γ σ H ρ st Q R G h=>WT.of (pt_not pt_w) (ha.use R G h.bind fun k st1 H1 ρ1 x1 R1 G1 h1=>h1 H1 ρ1 (Ext.refl _ _) R1)⟩
variable {e:Expr} {es:List Expr} {m:ME} {mr:Gam->Q0->Res (List PV)}
def Q9:Gam->Q0->Res (List PV):=fun _ st=>.ok [] st
def Q2 (m:ME) (mr:Gam->Q0->Res (List PV)):Gam->Q0->Res (List PV):=fun Γ st=>(m Γ st).bind fun p st1=>(mr Γ st1).bind fun ps st2=>.ok (p :: ps) st2
theorem sa_nil:SimA X E [] Q9:=⟨fun Γ σ H ρ st Q R G h=>WA.of pa_nil (h H ρ (Ext.refl _ _) R [] rfl)⟩
theorem sa_cons (ha:SimE X E e m) (hr:SimA X E es mr) (hs:starEach (e :: es) X.env=(false,eval e X.env) :: starEach es X.env:=by rfl):SimA X E (e :: es) (Q2 m mr):=
  ⟨fun Γ σ H ρ st Q R G h=>WA.of (pa_cons Zs pa_w hs) (ha.use R G h.bind fun p st1 H1 ρ1 v x1 R1 G1 r1 h1=>hr.use R1 G1 h1.bind fun ps st2 H2 ρ2 vs x2 R2 G2 r2 h2=>
    h2 H2 ρ2 (Ext.refl _ _) R2 (v :: vs) ⟨v,vs,rfl,r1.ext x2,r2⟩)⟩
def mTup (mr:Gam->Q0->Res (List PV)):ME:=fun Γ st=>(mr Γ st).bind fun ps st1=>if ps.length<=lim then .ok (.tup ps) st1 else .stuck
def mLst (mr:Gam->Q0->Res (List PV)):ME:=fun Γ st=>(mr Γ st).bind fun ps st1=>if ps.length<=lim then .ok (.lst ps) st1 else .stuck
theorem se_tup {k:Nat} (h:SimA X E es mr):SimE X E (.Tuple es k pos) (mTup mr):=
  ⟨fun Γ σ H ρ st Q R G hq=>WE.of (pe_tup pa_w) (h.use R G hq.bind fun ps st1 H1 ρ1 vs x1 R1 G1 r1 h1=>by
    by_cases hl:ps.length<=lim
    · rw [if_pos hl] at h1
      exact ⟨by rw [<- r1.length]; exact le_lim hl,new_tup R1 h1 r1⟩
    · rw [if_neg hl] at h1; exact h1.elim)⟩
theorem se_lst (h:SimA X E es mr):SimE X E (.List es pos) (mLst mr):=
  ⟨fun Γ σ H ρ st Q R G hq=>WE.of (pe_lst pa_w) (h.use R G hq.bind fun ps st1 H1 ρ1 vs x1 R1 G1 r1 h1=>by
    by_cases hl:ps.length<=lim
    · rw [if_pos hl] at h1
      exact ⟨by rw [<- r1.length]; exact le_lim hl,new_lst R1 h1 r1⟩
    · rw [if_neg hl] at h1; exact h1.elim)⟩
end
end Sm
namespace HT
open PySem PySem.Spec PyProof.Rows
section
variable {prog:Program} {w:World} {A:Around} {E:Value->Shared->Prop} {s:Shared}
theorem getItem_tuple_whole {t sl:Addr} {items:Array Value} {vl vu:Value} {lo hi:Option Int} {Q:Value->Shared->Prop} (ht:IsTup s.heap t items) (hs:s.heap.IsSliceOf sl vl vu .none) (pl:IsPart vl lo) (pu:IsPart vu hi)
    (hw:sIx items.size 0 lo=0/\sIx items.size items.size hi=items.size)
    (h:Q (.ref t) s):wpAny (model prog w) A (getItem (.ref t) (.ref sl)) Q E s:=by
  obtain ⟨os,hos,hcs,hds⟩:=id hs
  have hTs:s.TypeIs (.ref sl) "slice" := ⟨os,hos,hcs⟩
  unfold getItem
  try with_reducible refine wpAny_holding ?_
  first | refine wpAny_bind (wpAny_pure ?_) | skip
  refine wpAny_bind (wpAny_sequenceKey ht.typeIs (by decide) ?_)
  refine wpAny_bind (wpAny_callSpecial?_slot (name:=Str.ofString "__getitem__") ht.typeIs PyProof.Rows.slot_tuple_getitem
    (wpAny_call_entry PyProof.Rows.slot_tuple_getitem ht.typeIs entry_tuple_getitem ?_ (args_tuple_getitem _ _)))
  show wpAny _ _ (Builtin.Tuple.tupleItemsOf (.ref t) >>= _) _ _ s
  refine wpAny_bind (tupleItemsOf_ ht ?_)
  refine wpAny_bind (wpAny_typeOf hTs ?_)
  rw [if_pos (by decide)]
  refine wpAny_bind (sliceApplied_gen hs pl pu ?_)
  have hyes:(((sIx items.size 0 lo:Nat):Int) == 0 && (1:Int) == 1 && (sIx items.size items.size hi - sIx items.size 0 lo) == items.size)=true:=by
    rw [hw.1,hw.2]; simp
  show wpAny _ _ (if (((sIx items.size 0 lo:Nat):Int) == 0 && (1:Int) == 1 && (sIx items.size items.size hi - sIx items.size 0 lo) == items.size)=true then _ else _) _ _ s
  rw [if_pos hyes]
  refine wpAny_bind (wpAny_bind (wpAny_typeOf ht.typeIs (wpAny_pure ?_)))
  rw [if_pos (by rfl)]
  exact wpAny_bind (wpAny_rule (wpAny_pure ⟨_,rfl,wpAny_pure h⟩))
end
end HT
namespace L2
open PySem PySem.Spec PyProof.Rows
def rSlW (K:PySem.W.Frag):V->Option Int->Option Int->Hp->VK->Prop:=fun x lo hi H Q=>∃ a xs,x=.ref a/\SqT K H a xs /\
  (HT.sIx xs.length 0 lo=0/\HT.sIx xs.length xs.length hi=xs.length)/\Q (.ref a) H
theorem sl_whole {X:Cx}:SlR X (rSlW X.K):=by
  intro pins s σ H x v vl vu lo hi sl Q I rx hs pl pu h
  obtain ⟨a,xs,rfl,hx,hw,q⟩:=h
  cases rx
  obtain ⟨its,r,ht,hz⟩:=I.tuple hx
  have hlen:its.toArray.size=xs.length:=by rw [O5]; exact r.length.symm
  refine ⟨"tuple",_,PyProof.Rows.slot_tuple_getitem.lookup,ht.typeIs,?_⟩
  exact HT.getItem_tuple_whole ht hs pl pu (by rw [hlen]; exact hw) ⟨.ref a,H,I,rfl,q⟩
end L2
namespace Sm
open PySem PySem.Spec L2
section
variable {X:Cx} {E:XK} {pos:Pos}
def oI (g:Int->Int->PV):OP:=fun st p q=>match p,q with
  | .int a,.int b=>.ok (g a b) st
  | _,_=>.stuck
def oAdd:OP:=fun st p q=>match p,q with
  | .int a,.int b=>.ok (.int (a + b)) st
  | .str a,.str b=>if a.length + b.length<=lim then .ok (.str (a ++ b)) st else .stuck
  | .tup xs,.tup ys=>if xs.length + ys.length<=lim then .ok (.tup (xs ++ ys)) st else .stuck
  | p,q=>match lstOf st p,lstOf st q with
    | some xs,some ys=>if xs.length + ys.length<=lim then .ok (.lst (xs ++ ys)) st else .stuck
    | _,_=>.stuck
theorem os_add:OpS X E (binaryOp .Add) oAdd:=⟨fun H ρ st p q x y Q R rp rq h=>by
  unfold oAdd at h
  split at h
  · cases rp; cases rq
    exact WO.of op_add ⟨_,_,rfl,rfl,now R h rfl⟩
  · cases rp; cases rq
    split at h
    · rename_i hl
      exact WO.of op_add_str ⟨_,_,rfl,rfl,le_lim hl,now R h rfl⟩
    · exact h.elim
  · split at h
    · rename_i xs ys hl
      obtain ⟨a,vs,rfl,ha,na,ra⟩:=rp
      obtain ⟨b,us,rfl,hb,nb,rb⟩:=rq
      refine WO.of op_cat2 ?_
      by_cases e:xs=[]
      · subst e
        cases ra
        exact .inr ⟨a,b,us,rfl,rfl,SqT.of ha,SqT.of hb,now R h ⟨b,us,rfl,hb,nb,rb⟩⟩
      · refine .inl ⟨a,b,vs,us,rfl,rfl,SqT.of ha,SqT.of hb,fun z=>e ?_,by rw [<- ra.length,<- rb.length]; exact le_lim hl,fun z=>?_,fun z=>new_tup R h (ra.append rb)⟩
        · subst z
          cases xs with
          | nil=>rfl
          | cons _ _=>have:=ra.length; simp at this
        · subst z
          have:ys=[]:=by
            cases ys with
            | nil=>rfl
            | cons _ _=>have:=rb.length; simp at this
          subst this
          rw [List.append_nil] at h
          exact now R h ⟨a,vs,rfl,ha,na,ra⟩
    · exact h.elim
  · split at h
    · rename_i xs ys e1 e2
      split at h
      · rename_i hl
        obtain ⟨a,vs,rfl,ha,ra⟩:=lst_at R rp e1
        obtain ⟨b,us,rfl,hb,rb⟩:=lst_at R rq e2
        exact WO.of op_cat ⟨a,b,vs,us,rfl,rfl,ha,hb,by rw [<- ra.length,<- rb.length]; exact le_lim hl,new_lst R h (ra.append rb)⟩
      · exact h.elim
    · exact h.elim⟩
theorem os_sub:OpS X E (binaryOp .Sub) (oI fun a b=>.int (a - b)):=⟨fun H ρ st p q x y Q R rp rq h=>by
  unfold oI at h
  split at h
  · cases rp; cases rq
    exact WO.of op_sub ⟨_,_,rfl,rfl,now R h rfl⟩
  · exact h.elim⟩
def oMul:OP:=fun st p q=>match p,q with
  | .int a,.int b=>if (-(2 ^ 64) < a/\a < 2 ^ 64)\/(-(2 ^ 64) < b/\b < 2 ^ 64) then .ok (.int (a * b)) st else .stuck
  | .tup xs,.int b=>if xs≠[]/\1<=b/\xs.length * b.toNat<=4096 then .ok (.tup (List.replicate b.toNat xs).flatten) st else .stuck
  | p,.int b=>match lstOf st p with
    | some xs=>if -(2 ^ 63)<=b/\b < 2 ^ 63/\xs.length * b.toNat<=lim then .ok (.lst (List.replicate b.toNat xs).flatten) st else .stuck
    | none=>.stuck
  | _,_=>.stuck
theorem os_mul:OpS X E (binaryOp .Mult) oMul:=⟨fun H ρ st p q x y Q R rp rq h=>by
  unfold oMul at h
  split at h
  · cases rp; cases rq
    split at h
    · rename_i hc
      exact WO.of op_mul ⟨_,_,rfl,rfl,hc,now R h rfl⟩
    · exact h.elim
  · cases rq
    split at h
    · rename_i xs b hc
      obtain ⟨a,vs,rfl,ha,na,ra⟩:=rp
      refine WO.of op_repT ⟨a,b,vs,rfl,rfl,SqT.of ha,fun z=>hc.1 ?_,hc.2.1,by rw [<- ra.length]; exact hc.2.2,fun z=>?_,fun z=>new_tup R h (ra.rep _)⟩
      · subst z
        cases xs with
        | nil=>rfl
        | cons _ _=>have:=ra.length; simp at this
      · subst z
        have e1:(List.replicate (Int.toNat 1) xs).flatten=xs:=by simp
        rw [e1] at h
        exact now R h ⟨a,vs,rfl,ha,na,ra⟩
    · exact h.elim
  · cases rq
    split at h
    · rename_i xs e1
      split at h
      · rename_i hc
        obtain ⟨a,vs,rfl,ha,ra⟩:=lst_at R rp e1
        exact WO.of op_rep ⟨a,_,vs,rfl,rfl,ha,hc.1,hc.2.1,by rw [<- ra.length]; exact le_lim hc.2.2,new_lst R h (ra.rep _)⟩
      · exact h.elim
    · exact h.elim
  · exact h.elim⟩
def oMod:OP:=fun st p q=>match p,q with
  | .int a,.int b=>if 0 < b then .ok (.int (a % b)) st else .stuck
  | _,_=>.stuck
theorem os_mod:OpS X E (binaryOp .Mod) oMod:=⟨fun H ρ st p q x y Q R rp rq h=>by
  unfold oMod at h
  split at h
  · cases rp; cases rq
    split at h
    · rename_i hc
      exact WO.of op_mod ⟨_,_,rfl,rfl,hc,now R h rfl⟩
    · exact h.elim
  · exact h.elim⟩
def oDiv:OP:=fun st p q=>match p,q with
  | .int a,.int b=>if 0 < b/\b < 1073741824 then .ok (.int (a / b)) st else .stuck
  | _,_=>.stuck
theorem os_div:OpS X E (binaryOp .FloorDiv) oDiv:=⟨fun H ρ st p q x y Q R rp rq h=>by
  unfold oDiv at h
  split at h
  · cases rp; cases rq
    split at h
    · rename_i hc
      exact WO.of op_fdiv ⟨_,_,rfl,rfl,hc,now R h rfl⟩
    · exact h.elim
  · exact h.elim⟩
def oPow:OP:=fun st p q=>match p,q with
  | .int a,.int b=>if 0<=b/\b<=1000000/\a.natAbs < 2 ^ 64 then .ok (.int (a ^ b.toNat)) st else .stuck
  | _,_=>.stuck
theorem os_pow:OpS X E (binaryOp .Pow) oPow:=⟨fun H ρ st p q x y Q R rp rq h=>by
  unfold oPow at h
  split at h
  · cases rp; cases rq
    split at h
    · rename_i hc
      exact WO.of op_pow ⟨_,_,rfl,rfl,hc,now R h rfl⟩
    · exact h.elim
  · exact h.elim⟩
theorem oI_cmp {op:CmpOp} {g:Int->Int->Bool} (ho:OpR X (compareOp op) (rI0 fun i j=>.bl (g i j))):OpS X E (compareOp op) (oI fun a b=>.bl (g a b)):=⟨fun H ρ st p q x y Q R rp rq h=>by
  unfold oI at h
  split at h
  · cases rp; cases rq
    exact WO.of ho ⟨_,_,rfl,rfl,now R h rfl⟩
  · exact h.elim⟩
theorem os_le:OpS X E (compareOp .LtE) (oI fun a b=>.bl (decide (a<=b))):=oI_cmp op_le
theorem os_gt:OpS X E (compareOp .Gt) (oI fun a b=>.bl (decide (b < a))):=oI_cmp op_gt
theorem os_ge:OpS X E (compareOp .GtE) (oI fun a b=>.bl (decide (b<=a))):=oI_cmp op_ge
def intsOf:List PV->Option (List Int)
  | []=>some []
  | .int i :: ps=>(intsOf ps).map (i :: ·)
  | _ :: _=>none
def blsOf:List PV->Option (List Bool)
  | []=>some []
  | .bl i :: ps=>(blsOf ps).map (i :: ·)
  | _ :: _=>none
theorem bls_map (ns:List Bool):blsOf (ns.map .bl)=some ns:=by
  induction ns with
  | nil=>rfl
  | cons n ns ih=>rw [D5,blsOf,ih]; rfl
theorem ints_eq:∀ {ps:List PV} {ns:List Int},intsOf ps=some ns->ps=ns.map .int
  | [],ns,h=>by cases h; rfl
  | .int i :: ps,ns,h=>by
    rw [intsOf] at h
    cases e:intsOf ps with
    | none=>rw [e] at h; cases h
    | some ms=>rw [e] at h; cases h; rw [ints_eq e]; rfl
  | .non :: _,_,h | .bl _ :: _,_,h | .str _ :: _,_,h | .tup _ :: _,_,h | .lst _ :: _,_,h | .fro _ :: _,_,h | .ref _ :: _,_,h | .dic :: _,_,h=>by cases h
theorem bls_eq:∀ {ps:List PV} {ns:List Bool},blsOf ps=some ns->ps=ns.map .bl
  | [],ns,h=>by cases h; rfl
  | .bl i :: ps,ns,h=>by
    rw [blsOf] at h
    cases e:blsOf ps with
    | none=>rw [e] at h; cases h
    | some ms=>rw [e] at h; cases h; rw [bls_eq e]; rfl
  | .non :: _,_,h | .int _ :: _,_,h | .str _ :: _,_,h | .tup _ :: _,_,h | .lst _ :: _,_,h | .fro _ :: _,_,h | .ref _ :: _,_,h | .dic :: _,_,h=>by cases h
def oLt:OP:=fun st p q=>match p,q with
  | .int a,.int b=>.ok (.bl (decide (a < b))) st
  | .tup xs,.tup ys=>match intsOf xs,intsOf ys with
    | some ns,some ms=>.ok (.bl (HT.lexLt ns ms)) st
    | _,_=>.stuck
  | _,_=>.stuck
theorem os_lt (hu:X.A.units + 64 < cLine):OpS X E (compareOp .Lt) oLt:=⟨fun H ρ st p q x y Q R rp rq h=>by
  unfold oLt at h
  split at h
  · cases rp; cases rq
    exact WO.of op_lt ⟨_,_,rfl,rfl,now R h rfl⟩
  · split at h
    · rename_i ns ms e1 e2
      obtain ⟨a,vs,rfl,ha,na,ra⟩:=rp
      obtain ⟨b,us,rfl,hb,nb,rb⟩:=rq
      rw [ints_eq e1] at ra
      rw [ints_eq e2] at rb
      rw [ra.toInts] at ha
      rw [rb.toInts] at hb
      exact WO.of (op_ltT (by omega)) ⟨a,b,ns,ms,rfl,rfl,SqT.of ha,SqT.of hb,now R h rfl⟩
    · exact h.elim
  · exact h.elim⟩
def dep:Nat:=12
def oEq:OP:=fun st p q=>if Jd dep (der st p)=true/\Jd dep (der st q)=true then .ok (.bl (peq (der st p) (der st q))) st else .stuck
def oNe:OP:=fun st p q=>if Jd dep (der st p)=true/\Jd dep (der st q)=true then .ok (.bl (!peq (der st p) (der st q))) st else .stuck
theorem os_eq (hu:X.A.units + 64 < cLine):OpS X E (compareOp .Eq) oEq:=⟨fun H ρ st p q x y Q R rp rq h=>by
  unfold oEq at h
  split at h
  · rename_i g
    intro pins s σ v u I rv ru
    exact (eqAts dep I g.1 g.2 (by unfold dep; omega) (der_rep R g.1 rp) rv (der_rep R g.2 rq) ru).2.1 _ _ _ _ ⟨.bl _,H,I,rfl,now R h rfl⟩
  · exact h.elim⟩
theorem os_ne (hu:X.A.units + 64 < cLine):OpS X E (compareOp .NotEq) oNe:=⟨fun H ρ st p q x y Q R rp rq h=>by
  unfold oNe at h
  split at h
  · rename_i g
    intro pins s σ v u I rv ru
    exact (eqAts dep I g.1 g.2 (by unfold dep; omega) (der_rep R g.1 rp) rv (der_rep R g.2 rq) ru).2.2 _ _ _ _ ⟨.bl _,H,I,rfl,now R h rfl⟩
  · exact h.elim⟩
def isNon:PV->Bool
  | .non=>true
  | _=>false
theorem isNon_rep {H:Hp} {ρ:Tk} {p:PV} {x:V} (r:Rep H ρ p x):decide (x=.non)=isNon p:=by
  cases p with
  | non=>cases r; rfl
  | bl _=>cases r; rfl
  | int _=>cases r; rfl
  | str _=>cases r; rfl
  | tup _=>obtain ⟨_,_,rfl,_⟩:=r; rfl
  | lst _=>obtain ⟨_,_,rfl,_⟩:=r; rfl
  | fro _=>obtain ⟨_,_,rfl,_⟩:=r; rfl
  | ref _=>obtain ⟨_,_,rfl⟩:=r; rfl
  | dic=>obtain ⟨_,rfl,_⟩:=r; rfl
def oIs:OP:=fun st p q=>match q with
  | .non=>.ok (.bl (isNon p)) st
  | .bl c=>match p with
    | .bl b=>.ok (.bl (b == c)) st
    | _=>.stuck
  | _=>.stuck
def oIsNot:OP:=fun st p q=>match q with
  | .non=>.ok (.bl (!isNon p)) st
  | .bl c=>match p with
    | .bl b=>.ok (.bl (b != c)) st
    | _=>.stuck
  | _=>.stuck
theorem os_is:OpS X E (compareOp .Is) oIs:=⟨fun H ρ st p q x y Q R rp rq h=>by
  unfold oIs at h
  split at h
  · cases rq
    refine WO.of op_isN ⟨rfl,?_⟩
    rw [isNon_rep rp]
    exact now R h rfl
  · split at h
    · cases rp; cases rq
      exact WO.of op_is_bl ⟨_,_,rfl,rfl,now R h rfl⟩
    · exact h.elim
  · exact h.elim⟩
theorem os_isnot:OpS X E (compareOp .IsNot) oIsNot:=⟨fun H ρ st p q x y Q R rp rq h=>by
  unfold oIsNot at h
  split at h
  · cases rq
    refine WO.of op_notN ⟨rfl,?_⟩
    rw [isNon_rep rp]
    exact now R h rfl
  · split at h
    · cases rp; cases rq
      exact WO.of op_isnot_bl ⟨_,_,rfl,rfl,now R h rfl⟩
    · exact h.elim
  · exact h.elim⟩
def oIn (neg:Bool):OP:=fun st p q=>match seqOf st q with
  | some xs=>if Jd dep (der st p)=true/\xs.all (Jd dep)=true then .ok (.bl ((xs.any fun y=>peq y (der st p)) != neg)) st else .stuck
  | none=>.stuck
open Classical in
theorem in_items {pins:List (Addr × Obj)} {σ:St} {H:Hp} {ρ:Tk} {s:Shared} {A:Around} {st:Q0} {p:PV} {xs:List PV} {x:V} {v:Value} {vs:List V} {its:List Value} (I:Inv X pins σ H s) (hu:A.units + dep < cLine) (R:Rel H ρ st)
    (gp:Jd dep (der st p)=true) (gx:xs.all (Jd dep)=true) (rp:Rep H ρ p x) (rv:RelV x v) (ra:RepL H ρ xs vs) (vi:Vals vs its):∃ e:Value->Bool,(∀ u,u∈its.toArray->SeqAt.EqAt A s u v (e u))/\its.toArray.any e=xs.any fun y=>peq y (der st p):=by
  have key:∀ u∈its,∃ q∈xs,∃ y,Rep H Tk.nil q y/\RelV y u:=fun u hu=>by
    obtain ⟨j,hj,rfl⟩:=List.getElem_of_mem hu
    have l1:=vi.length
    have l2:=ra.length
    obtain ⟨y,e1,e2⟩:=(repL_nil gx ra).get (O1 (show j < xs.length by omega))
    obtain ⟨w,e3,e4⟩:=vi.get e1
    rw [O1 hj] at e3; cases e3
    exact ⟨_,List.getElem_mem _,y,e2,e4⟩
  refine ⟨fun u=>decide (∃ q∈xs,∃ y,Rep H Tk.nil q y/\RelV y u/\peq q (der st p)=true),fun u hm=>?_,?_⟩
  · have hm':u∈its:=by simpa using hm
    by_cases z:∃ q∈xs,∃ y,Rep H Tk.nil q y/\RelV y u/\peq q (der st p)=true
    · show SeqAt.EqAt A s u v (decide _)
      rw [decide_eq_true z]
      obtain ⟨q,hq,y,r1,r2,e⟩:=z
      have:=(eqAts dep I ((L1.mp gx) q hq) gp hu r1 r2 (der_rep R gp rp) rv).1
      rw [e] at this
      exact this
    · show SeqAt.EqAt A s u v (decide _)
      rw [decide_eq_false z]
      obtain ⟨q,hq,y,r1,r2⟩:=key u hm'
      have:=(eqAts dep I ((L1.mp gx) q hq) gp hu r1 r2 (der_rep R gp rp) rv).1
      cases e:peq q (der st p) with
      | true=>exact absurd ⟨q,hq,y,r1,r2,e⟩ z
      | false=>rw [e] at this; exact this
  · rw [Bool.eq_iff_iff,Array.any_eq_true,List.any_eq_true]
    constructor
    · rintro ⟨j,hj,e⟩
      obtain ⟨q,hq,y,r1,r2,e⟩:=of_decide_eq_true e
      exact ⟨q,hq,e⟩
    · rintro ⟨q,hq,e⟩
      obtain ⟨j,hj,rfl⟩:=List.getElem_of_mem hq
      have l1:=vi.length
      have l2:=ra.length
      have hj':j < its.length:=by omega
      obtain ⟨y,e1,e2⟩:=(repL_nil gx ra).get (O1 hj)
      obtain ⟨w,e3,e4⟩:=vi.get e1
      refine ⟨j,by simpa using hj',decide_eq_true ⟨_,hq,y,e2,?_,e⟩⟩
      rw [O1 hj'] at e3; cases e3
      simpa using e4
theorem os_in (hu:X.A.units + 64 < cLine):OpS X E (compareOp .In) (oIn false):=⟨fun H ρ st p q x y Q R rp rq h=>by
  unfold oIn at h
  split at h
  · rename_i xs es
    split at h
    · rename_i g
      obtain ⟨t,a,vs,rfl,hq,ra⟩:=seq_at (K:=X.K) R rq es
      intro pins s σ v u I rv ru
      cases ru
      rw [Bool.bne_false] at h
      cases t with
      | true=>
        obtain ⟨its,r,pl,hz⟩:=I.tuple hq
        obtain ⟨e,he,ea⟩:=in_items (A:=X.A.in1) I (by show X.A.units + 1 + dep < cLine; unfold dep; omega) R g.1 g.2 rp rv ra r
        refine SeqAt.in_tupleAt e pl he ⟨.bl _,H,I,rfl,?_⟩
        rw [ea]
        exact now R h rfl
      | false=>
        obtain ⟨its,r,pl,hz⟩:=I.list hq
        obtain ⟨e,he,ea⟩:=in_items (A:=X.A.in1) I (by show X.A.units + 1 + dep < cLine; unfold dep; omega) R g.1 g.2 rp rv ra r
        refine SeqAt.in_listAt e pl.isList he ⟨.bl _,H,I,rfl,?_⟩
        rw [ea]
        exact now R h rfl
    · exact h.elim
  · exact h.elim⟩
theorem os_notin (hu:X.A.units + 64 < cLine):OpS X E (compareOp .NotIn) (oIn true):=⟨fun H ρ st p q x y Q R rp rq h=>by
  unfold oIn at h
  split at h
  · rename_i xs es
    split at h
    · rename_i g
      obtain ⟨t,a,vs,rfl,hq,ra⟩:=seq_at (K:=X.K) R rq es
      intro pins s σ v u I rv ru
      cases ru
      rw [Bool.bne_true] at h
      cases t with
      | true=>
        obtain ⟨its,r,pl,hz⟩:=I.tuple hq
        obtain ⟨e,he,ea⟩:=in_items (A:=X.A.in1) I (by show X.A.units + 1 + dep < cLine; unfold dep; omega) R g.1 g.2 rp rv ra r
        refine SeqAt.notIn_tupleAt e pl he ⟨.bl _,H,I,rfl,?_⟩
        rw [ea]
        exact now R h rfl
      | false=>
        obtain ⟨its,r,pl,hz⟩:=I.list hq
        obtain ⟨e,he,ea⟩:=in_items (A:=X.A.in1) I (by show X.A.units + 1 + dep < cLine; unfold dep; omega) R g.1 g.2 rp rv ra r
        refine SeqAt.notIn_listAt e pl.isList he ⟨.bl _,H,I,rfl,?_⟩
        rw [ea]
        exact now R h rfl
    · exact h.elim
  · exact h.elim⟩
end
end Sm
namespace Sm
open PySem PySem.Spec L2
section
variable {H:Hp} {ρ:Tk}
theorem RepL.atI {ps:List PV} {vs:List V} {i:Int} {p:PV} (r:RepL H ρ ps vs) (e:atI ps i=some p):∃ v,L2.atI vs i=some v/\Rep H ρ p v:=by
  unfold L2.atI at e ⊢
  rw [<- r.length]
  cases q:ixN ps.length i with
  | none=>rw [q] at e; cases e
  | some j=>
    rw [q] at e
    exact r.get e
def cut {α:Type} (xs:List α) (lo hi:Option Int):List α:=(xs.drop (HT.sIx xs.length 0 lo)).take (HT.sIx xs.length xs.length hi - HT.sIx xs.length 0 lo)
theorem RepL.cut {ps:List PV} {vs:List V} (r:RepL H ρ ps vs) (lo hi:Option Int):RepL H ρ (Sm.cut ps lo hi) (cutV vs lo hi):=by
  unfold Sm.cut cutV
  rw [<- r.length]
  exact (r.drop _).take _
end
section
variable {X:Cx} {E:XK} {pos:Pos} {a b:Expr} {ma mb:ME}
def oIx:OP:=fun st p q=>match seqOf st p,q with
  | some xs,.int i=>okO st (atI xs i)
  | _,_=>.stuck
theorem se_ix (ha:SimE X E a ma) (hb:SimE X E b mb) (hs:PlainIx b:=by exact fun _ _=>rfl):SimE X E (.Subscript a b pos) (mOp oIx ma mb):=
  ⟨fun Γ σ H ρ st Q R G h=>WE.of (pe_ix ix_seq Zs Zs hs) (ha.use R G h.bind fun p st1 H1 ρ1 v x1 R1 G1 r1 h1=>hb.use R1 G1 h1.bind fun q st2 H2 ρ2 u x2 R2 G2 r2 h2=>by
    unfold oIx at h2
    split at h2
    · rename_i xs i e
      cases r2
      cases ea:atI xs i with
      | none=>rw [ea] at h2; exact h2.elim
      | some w=>
        rw [ea] at h2
        obtain ⟨t,b,vs,rfl,hq,ra⟩:=seq_at (K:=X.K) R2 (r1.ext x2) e
        obtain ⟨z,ez,rz⟩:=ra.atI ea
        cases t with
        | true=>exact .inr (.inl ⟨b,vs,i,z,rfl,rfl,hq,ez,now R2 h2 rz⟩)
        | false=>exact .inl ⟨b,vs,i,z,rfl,rfl,hq,ez,now R2 h2 rz⟩
    · exact h2.elim)⟩
structure SimO (X:Cx) (E:XK) (o:Option Expr) (m:Gam->Q0->Res (Option Int)):Prop where
  run:∀ (Γ:Gam) (σ:St) (H:Hp) (ρ:Tk) (st:Q0) (P:Option Int->Q0->Hp->Tk->Prop) (Q:Option Int->Hp->Prop),Rel H ρ st->EnvR H ρ Γ σ->Acc X.mg E H ρ P (m Γ st) ->
    (∀ i st1 H1 ρ1,Ext H ρ H1 ρ1->Rel H1 ρ1 st1->EnvR H1 ρ1 Γ σ->P i st1 H1 ρ1->Q i H1)->∃ t,PO X o t/\t σ H Q
def mNoPart:Gam->Q0->Res (Option Int):=fun _ st=>.ok none st
def mPart (m:ME):Gam->Q0->Res (Option Int):=fun Γ st=>(m Γ st).bind fun p st1=>match p with
  | .int i=>.ok (some i) st1
  | _=>.stuck
theorem so_none:SimO X E none mNoPart:=⟨fun Γ σ H ρ st P Q R G h k=>⟨_,po_none,k none st H ρ (Ext.refl _ _) R G (h H ρ (Ext.refl _ _) R)⟩⟩
theorem so_some (ha:SimE X E a ma):SimO X E (some a) (mPart ma):=⟨fun Γ σ H ρ st P Q R G h k=>⟨_,po_some Zs,ha.use R G h.bind fun p st1 H1 ρ1 v x1 R1 G1 r1 h1=>by
  cases p with
  | int i=>exact ⟨i,r1,k (some i) st1 H1 ρ1 x1 R1 G1 (h1 H1 ρ1 (Ext.refl _ _) R1)⟩
  | _=>exact h1.elim⟩⟩
def oSl (st:Q0) (p:PV) (lo hi:Option Int):Res PV:=match p with
  | .tup xs=>.ok (.tup (cut xs lo hi)) st
  | p=>match listOf st p with
    | some xs=>.ok (.lst (cut xs lo hi)) st
    | none=>.stuck
def mSl (ma:ME) (ml mh:Gam->Q0->Res (Option Int)):ME:=fun Γ st=>(ma Γ st).bind fun p st1=>(ml Γ st1).bind fun lo st2=>(mh Γ st2).bind fun hi st3=>oSl st3 p lo hi
def TO.w (X:Cx) (o:Option Expr):TO:=fun σ H Q=>∃ t,PO X o t/\t σ H Q
theorem po_w {o:Option Expr}:PO X o (TO.w X o):=fun pins s σ H Q I ⟨t,h,q⟩=>h pins s σ H Q I q
theorem se_slice {lo hi:Option Expr} {ml mh:Gam->Q0->Res (Option Int)} {p2:Pos} (ha:SimE X E a ma) (hl:SimO X E lo ml) (hh:SimO X E hi mh):SimE X E (.Subscript a (.Slice lo hi none p2) pos) (mSl ma ml mh):=
  ⟨fun Γ σ H ρ st Q R G h=>WE.of (pe_slice (sl_tup.or (sl_whole.or sl_list)) Zs po_w po_w) (ha.use R G h.bind fun p st1 H1 ρ1 v x1 R1 G1 r1 h1=>by
    refine hl.run Γ σ H1 ρ1 st1 _ _ R1 G1 h1.bind fun l st2 H2 ρ2 x2 R2 G2 h2=>?_
    refine hh.run Γ σ H2 ρ2 st2 _ _ R2 G2 h2.bind fun u st3 H3 ρ3 x3 R3 G3 h3=>?_
    have r3:=r1.ext (x2.trans x3)
    unfold oSl at h3
    split at h3
    · rename_i xs
      obtain ⟨a,vs,rfl,ha,na,ra⟩:=r3
      by_cases hw:HT.sIx vs.length 0 l=0/\HT.sIx vs.length vs.length u=vs.length
      · refine .inr (.inl ⟨a,vs,rfl,SqT.of ha,hw,?_⟩)
        have e:cut xs l u=xs:=by
          unfold cut
          rw [ra.length,hw.1,hw.2,List.drop_zero,Nat.sub_zero,<- ra.length,List.take_length]
        rw [e] at h3
        exact now R3 h3 ⟨a,vs,rfl,ha,na,ra⟩
      · exact .inl ⟨a,vs,rfl,SqT.of ha,hw,new_tup R3 h3 (ra.cut l u)⟩
    · split at h3
      · rename_i xs e
        obtain ⟨a,vs,rfl,ha,ra⟩:=list_at R3 r3 e
        exact .inr (.inr ⟨a,vs,rfl,.inl ha,new_lst R3 h3 (ra.cut l u)⟩)
      · exact h3.elim)⟩
variable {es:List Expr} {e:Expr} {mr:Gam->Q0->Res (List PV)}
def Qg (o:CF) (mr:Gam->Q0->Res (List PV)):ME:=fun Γ st=>(mr Γ st).bind fun ps st1=>o st1 ps
theorem CallS.use {f:Value} {o:CF} (s:CallS X E f o) {P:PV->Q0->Hp->Tk->Prop} {Q:VK} {H:Hp} {ρ:Tk} {st:Q0} {ps:List PV} {xs:List V} (R:Rel H ρ st) (rp:RepL H ρ ps xs) (h:Acc X.mg E H ρ P (o st ps))
    (k:∀ p st1 H1 ρ1 v,Ext H ρ H1 ρ1->Rel H1 ρ1 st1->Rep H1 ρ1 p v->P p st1 H1 ρ1->Q v H1):WC X f xs H Q:=by
  refine s.run H ρ st ps xs Q R rp ?_
  cases r:o st ps with
  | ok p st1=>rw [r] at h; exact fun H' ρ' x' R' v rv=>k p st1 H' ρ' v x' R' rv (h H' ρ' x' R')
  | exc e st=>rw [r] at h; exact h
  | stuck=>rw [r] at h; exact h
theorem se_callB {id:String} {x:Str} {p:Pos} {o:CF} (hc:CallS X E (.builtin id) o) (hg:Gl X x) (hm:X.mg x=none) (hv:bootBuiltins x=some (.builtin id)) (ha:SimA X E (e :: es) mr) (hn:x≠"__name__" := by decide) (hdb:(x == ("__debug__" : Str))=false:=by decide)
    (he:starEach (e :: es) X.env=(false,eval e X.env) :: starEach es X.env:=by rfl) (hpl:(backTo pos (starEach es X.env)).any (·.1)=false:=by rfl):SimE X E (.Call (.Name x p) (e :: es) [] pos) (Qg o mr):=
  ⟨fun Γ σ H ρ st Q R G h=>WE.of (pe_callB call_w hg hm hv pa_w hn hdb he hpl) (ha.use R G h.bind fun ps st1 H1 ρ1 vs x1 R1 G1 r1 h1=>hc.use R1 r1 h1 fun _ _ _ _ v _ _ r q=>q v r)⟩
theorem se_callT {T:String} {x:Str} {p:Pos} {o:CF} (hc:CallS X E (.type T) o) (hg:Gl X x) (hm:X.mg x=none) (hv:bootBuiltins x=some (.type T)) (ha:SimA X E (e :: es) mr) (hn:x≠"__name__" := by decide) (hdb:(x == ("__debug__" : Str))=false:=by decide)
    (he:starEach (e :: es) X.env=(false,eval e X.env) :: starEach es X.env:=by rfl) (hpl:(backTo pos (starEach es X.env)).any (·.1)=false:=by rfl):SimE X E (.Call (.Name x p) (e :: es) [] pos) (Qg o mr):=
  ⟨fun Γ σ H ρ st Q R G h=>WE.of (pe_callTy call_w hg hm hv pa_w hn hdb he hpl) (ha.use R G h.bind fun ps st1 H1 ρ1 vs x1 R1 G1 r1 h1=>hc.use R1 r1 h1 fun _ _ _ _ v _ _ r q=>q v r)⟩
theorem Zi {H:Hp} {ρ:Tk} {p:PV} {xs:List V} (r:RepL H ρ [p] xs):∃ v,xs=[v]/\Rep H ρ p v:=by
  obtain ⟨v,t,rfl,h1,h2⟩:=r
  cases h2
  exact ⟨v,rfl,h1⟩
theorem repL_two {H:Hp} {ρ:Tk} {p q:PV} {xs:List V} (r:RepL H ρ [p,q] xs):∃ v u,xs=[v,u]/\Rep H ρ p v/\Rep H ρ q u:=by
  obtain ⟨v,t,rfl,h1,h2⟩:=r
  obtain ⟨u,rfl,h3⟩:=Zi h2
  exact ⟨v,u,rfl,h1,h3⟩
def cLen:CF:=fun st ps=>match ps with
  | [p]=>match seqOf st p with
    | some xs=>.ok (.int xs.length) st
    | none=>match p with
      | .str x=>if x.length<=lim then .ok (.int x.length) st else .stuck
      | _=>.stuck
  | _=>.stuck
theorem cs_len:CallS X E (.builtin "len") cLen:=⟨fun H ρ st ps xs Q R rp h=>by
  unfold cLen at h
  split at h
  · rename_i p
    obtain ⟨v,rfl,r⟩:=Zi rp
    split at h
    · rename_i ys e
      obtain ⟨t,a,vs,rfl,hq,ra⟩:=seq_at (K:=X.K) R r e
      rw [ra.length] at h
      exact WC.of call_len_seq ⟨a,vs,rfl,sqK_or hq,now R h rfl⟩
    · split at h
      · cases r
        split at h
        · rename_i hl
          exact WC.of call_len_str ⟨_,rfl,le_lim hl,now R h rfl⟩
        · exact h.elim
      · exact h.elim
  · exact h.elim⟩
def cBls (g:List Bool->PV):CF:=fun st ps=>match ps with
  | [p]=>match (seqOf st p).bind blsOf with
    | some ns=>.ok (g ns) st
    | none=>.stuck
  | _=>.stuck
theorem bls_at' {K:PySem.W.Frag} {H:Hp} {ρ:Tk} {st:Q0} {p:PV} {v:V} {ns:List Bool} (R:Rel H ρ st) (r:Rep H ρ p v) (e:(seqOf st p).bind blsOf=some ns):∃ (t:Bool) (a:Addr),v=.ref a/\SqK K t H a (ns.map V.bl):=by
  cases q:seqOf st p with
  | none=>rw [q] at e; cases e
  | some xs=>
    rw [q] at e
    obtain ⟨t,a,vs,rfl,hq,ra⟩:=seq_at (K:=K) R r q
    rw [bls_eq e] at ra
    rw [ra.toBls] at hq
    exact ⟨t,a,rfl,hq⟩
theorem cs_all (hc:X.calm=true):CallS X E (.builtin "all") (cBls fun ns=>.bl (ns.all id)):=⟨fun H ρ st ps xs Q R rp h=>by
  unfold cBls at h
  split at h
  · obtain ⟨v,rfl,r⟩:=Zi rp
    split at h
    · rename_i ns e
      obtain ⟨t,a,rfl,hq⟩:=bls_at' (K:=X.K) R r e
      exact WC.of (call_all t hc) ⟨a,ns,rfl,hq,now R h rfl⟩
    · exact h.elim
  · exact h.elim⟩
theorem cs_any (hc:X.calm=true):CallS X E (.builtin "any") (cBls fun ns=>.bl (ns.any id)):=⟨fun H ρ st ps xs Q R rp h=>by
  unfold cBls at h
  split at h
  · obtain ⟨v,rfl,r⟩:=Zi rp
    split at h
    · rename_i ns e
      obtain ⟨t,a,rfl,hq⟩:=bls_at' (K:=X.K) R r e
      exact WC.of (call_any t hc) ⟨a,ns,rfl,hq,now R h rfl⟩
    · exact h.elim
  · exact h.elim⟩
def Za:CF:=fun st ps=>match ps with
  | [p]=>match seqOf st p with
    | some xs=>.ok (.tup xs) st
    | none=>.stuck
  | _=>.stuck
theorem cs_tuple:CallS X E (.type "tuple") Za:=⟨fun H ρ st ps xs Q R rp h=>by
  unfold Za at h
  split at h
  · rename_i p
    obtain ⟨v,rfl,r⟩:=Zi rp
    split at h
    · rename_i ys e
      cases p with
      | tup zs=>
        cases e
        obtain ⟨a,vs,rfl,ha,na,ra⟩:=r
        exact WC.of call_tuple_of ⟨a,vs,rfl,.inr ⟨SqT.of ha,now R h ⟨a,vs,rfl,ha,na,ra⟩⟩⟩
      | _=>
        obtain ⟨a,vs,rfl,ha,ra⟩:=list_at R r e
        exact WC.of call_tuple_of ⟨a,vs,rfl,.inl ⟨.inl ha,new_tup R h ra⟩⟩
    · exact h.elim
  · exact h.elim⟩
def tyN:PV->String
  | .non => "NoneType"
  | .bl _ => "bool"
  | .int _ => "int"
  | .str _ => "str"
  | .tup _ => "tuple"
  | .lst _ => "list"
  | .fro _ => "list"
  | .ref _ => "list"
  | .dic => "dict"
def dpv (st:Q0):PV->PV
  | .ref i=>match st[i]? with
    | some (.dic _)=>.dic
    | some (.dtp _)=>.dic
    | _=>.ref i
  | p=>p
def isI (T:String) (p:PV):Bool:=tyN p == T || (T == "int" && tyN p == "bool")
def frzd (st:Q0):PV->Bool
  | .ref i=>match st[i]? with
    | some (.frd _)=>true
    | some (.obj _ _)=>true
    | _=>false
  | _=>false
theorem ty_of {K:PySem.W.Frag} {H:Hp} {ρ:Tk} {st:Q0} {p:PV} {v:V} (nf:frzd st p=false) (R:Rel H ρ st) (r:Rep H ρ p v):TyOf K H v (.type (tyN (dpv st p))):=by
  cases p with
  | non=>cases r; exact .non
  | bl b=>cases r; exact .bl b
  | int i=>cases r; exact .int i
  | str x=>cases r; exact .str x
  | tup ps=>obtain ⟨a,vs,rfl,h,_⟩:=r; exact .tup h
  | lst ps=>obtain ⟨a,vs,rfl,h,_⟩:=r; exact .lst h
  | fro ps=>
    obtain ⟨a,vs,rfl,h,_⟩:=r
    rcases h with h | ⟨o,h⟩
    · exact .lst h
    · exact .frz h
  | ref i=>
    obtain ⟨a,e,rfl⟩:=r
    have hl:i < st.length:=by rw [<- R.len]; exact (O3.mp e).1
    have hs:=O1 hl
    have q:=R.cell i a st[i] e hs
    cases hc:st[i] with
    | lst xs=>rw [hc] at q hs; simp only [dpv,hs]; obtain ⟨vs,h,_⟩:=q; exact .lst h
    | dic xs=>rw [hc] at q hs; simp only [dpv,hs]; obtain ⟨vs,h,_⟩:=q; exact .dK h
    | dtp xs=>rw [hc] at q hs; simp only [dpv,hs]; obtain ⟨vs,h,_⟩:=q; exact .dT h
    | frd xs=>rw [hc] at hs; simp only [frzd,hs] at nf; cases nf
    | obj C xs=>rw [hc] at hs; simp only [frzd,hs] at nf; cases nf
  | dic=>obtain ⟨a,rfl,h,_⟩:=r; exact .dK h
def kitTypes:List String:=["int", "bool", "str", "tuple", "list", "dict"]
theorem kit_ok (K:PySem.W.Frag) {T:String} (hT:T∈kitTypes) (p:PV):PySem.W.kitOne K (.type (tyN p)) (.type T)=some (isI T p):=by
  have hT:T = "int" \/ T = "bool" \/ T = "str" \/ T = "tuple" \/ T = "list" \/ T = "dict" := by simpa [kitTypes] using hT
  rcases hT with rfl | rfl | rfl | rfl | rfl | rfl <;> cases p <;> first | rfl | kernel_rfl
def mIsI (T:String) (m:ME):ME:=fun Γ st=>(m Γ st).bind fun p st1=>if frzd st1 p=true then .stuck else .ok (.bl (isI T (dpv st1 p))) st1
theorem se_isi {T:String} {tx:Str} {a:Expr} {ma:ME} {p tp:Pos} (hT:T∈kitTypes) (ha:SimE X E a ma) (hg:Gl X "isinstance") (hm:X.mg "isinstance" = none) (hgT:Gl X tx) (hmT:X.mg tx=none) (hvT:bootBuiltins tx=some (.type T))
    (hn:tx≠"__name__" := by decide) (hd:(tx == ("__debug__" : Str))=false:=by decide)
    (he:starEach [a,.Name tx tp] X.env=(false,eval a X.env) :: starEach [.Name tx tp] X.env:=by rfl) (he2:starEach [.Name tx tp] X.env=(false,eval (.Name tx tp) X.env) :: starEach [] X.env:=by rfl) (hpl:(backTo pos (starEach [.Name tx tp] X.env)).any (·.1)=false:=by rfl) :
    SimE X E (.Call (.Name "isinstance" p) [a,.Name tx tp] [] pos) (mIsI T ma):=
  ⟨fun Γ σ H ρ st Q R G h=>WE.of (pe_callB call_isinst hg hm boot_isinstance (pa_cons Zs (pa_cons (pe_bltn hgT hmT hvT (v:=.ty T) rfl hn hd) pa_nil he2) he) (by decide) (by decide) he hpl)
    (ha.use R G h.bind fun q st1 H1 ρ1 v x1 R1 G1 r1 h1=>by
      by_cases nf:frzd st1 q=true
      · rw [if_pos nf] at h1; exact h1.elim
      · rw [if_neg nf] at h1
        exact ⟨v,.ty T,.type T,_,_,rfl,rfl,ty_of (by simpa using nf) R1 r1,kit_ok X.K hT (dpv st1 q),now R1 h1 rfl⟩)⟩
end
end Sm
namespace Sm
open PySem PySem.Spec L2
abbrev GA:=PV->Gam->Option Gam
abbrev GAs:=List PV->Gam->Option Gam
structure SimG (X:Cx) (tg:Expr) (ga:GA):Prop where
  run:∀ (Γ Γ':Gam) (σ:St) (H:Hp) (ρ:Tk) (p:PV) (v:V) (Q:St->Hp->Prop),EnvR H ρ Γ σ->Rep H ρ p v->ga p Γ=some Γ'->(∀ σ',EnvR H ρ Γ' σ'->Q σ' H)->∃ t,PG X tg t/\t v σ H Q
structure SimGs (X:Cx) (tgs:List Expr) (n:Nat) (ga:GAs):Prop where
  run:∀ (Γ Γ':Gam) (σ:St) (H:Hp) (ρ:Tk) (ps:List PV) (vs:List V) (Q:St->Hp->Prop),EnvR H ρ Γ σ->RepL H ρ ps vs->ga ps Γ=some Γ'->(∀ σ',EnvR H ρ Γ' σ'->Q σ' H)->∃ t,PGs X tgs t/\t vs σ H Q
  len:∀ ps Γ Γ',ga ps Γ=some Γ'->ps.length=n
def Qa (i:Nat):GA:=fun p Γ=>some (Γ.set i (some p))
def gaNil:GAs:=fun ps Γ=>match ps with
  | []=>some Γ
  | _=>none
def gaCons (g:GA) (gs:GAs):GAs:=fun ps Γ=>match ps with
  | p :: r=>(g p Γ).bind (gs r)
  | []=>none
def gaTup (gs:GAs):GA:=fun p Γ=>match p with
  | .tup ps=>gs ps Γ
  | _=>none
section
variable {X:Cx} {pos:Pos}
theorem sg_name {i:Nat} {x:Str} (hN:X.N.Nodup) (hi:X.N[i]?=some x:=by rfl) (hx:Loc X.env.scope x:=by first | exact Or.inl rfl | exact Or.inr rfl) (hf:X.fn x=true\/X.env.scope.names.lookup x=some .local:=by first | exact .inl rfl | exact .inr rfl):SimG X (.Name x pos) (Qa i):=
  ⟨fun Γ Γ' σ H ρ p v Q G r e k=>⟨_,pg_name hN hi hx hf,by cases e; exact k _ (G.set r i)⟩⟩
theorem sgs_nil:SimGs X [] 0 gaNil:=⟨fun Γ Γ' σ H ρ ps vs Q G r e k=>⟨_,pgs_nil,by
  cases ps with
  | nil=>cases e; cases r; exact ⟨rfl,k σ G⟩
  | cons _ _=>cases e⟩,fun ps Γ Γ' e=>by
  cases ps with
  | nil=>rfl
  | cons _ _=>cases e⟩
def WGx (X:Cx) (tg:Expr):TG:=fun v σ H Q=>∃ t,PG X tg t/\t v σ H Q
theorem pg_x {tg:Expr}:PG X tg (WGx X tg):=fun pins s σ H v u Q I r ⟨t,h,q⟩=>h pins s σ H v u Q I r q
def WGsx (X:Cx) (tgs:List Expr):TGs:=fun v σ H Q=>∃ t,PGs X tgs t/\t v σ H Q
theorem pgs_x {tgs:List Expr}:PGs X tgs (WGsx X tgs):=fun pins s σ H v u Q I r ⟨t,h,q⟩=>h pins s σ H v u Q I r q
theorem sgs_cons {e:Expr} {es:List Expr} {g:GA} {gs:GAs} {n:Nat} (h1:SimG X e g) (h2:SimGs X es n gs) (hs:(assignEach (e :: es) X.env).map (·.2)=assign e X.env :: (assignEach es X.env).map (·.2):=by rfl):SimGs X (e :: es) (n + 1) (gaCons g gs):=
  ⟨fun Γ Γ' σ H ρ ps vs Q G r eq k=>⟨_,pgs_cons pg_x pgs_x hs,by
    cases ps with
    | nil=>cases eq
    | cons p ps=>
      obtain ⟨v,t,rfl,r1,r2⟩:=r
      have eq:(g p Γ).bind (gs ps)=some Γ':=eq
      cases e1:g p Γ with
      | none=>rw [e1] at eq; cases eq
      | some Γ1=>
        rw [e1] at eq
        exact ⟨v,t,rfl,h1.run Γ Γ1 σ H ρ p v _ G r1 e1 fun σ1 G1=>h2.run Γ1 Γ' σ1 H ρ ps t _ G1 r2 eq k⟩⟩,fun ps Γ Γ' e=>by
    cases ps with
    | nil=>cases e
    | cons p ps=>
      have e:(g p Γ).bind (gs ps)=some Γ':=e
      cases e1:g p Γ with
      | none=>rw [e1] at e; cases e
      | some Γ1=>rw [e1] at e; rw [E8,h2.len ps Γ1 Γ' e]⟩
theorem sg_tup {es:List Expr} {k n:Nat} {gs:GAs} (hc:X.calm=true) (h:SimGs X es n gs) (hn:(assignEach es X.env).length=n:=by rfl) (hst:(assignEach es X.env).findIdx? (·.1)=none:=by rfl):SimG X (.Tuple es k pos) (gaTup gs):=
  ⟨fun Γ Γ' σ H ρ p v Q G r e q=>⟨_,pg_tup hc pgs_x hn hst,by
    cases p with
    | tup ps=>
      obtain ⟨a,vs,rfl,ha,na,ra⟩:=r
      exact ⟨a,vs,rfl,SqT.of ha,by rw [<- ra.length]; exact h.len ps Γ Γ' e,h.run Γ Γ' σ H ρ ps vs Q G ra e q⟩
    | _=>cases e⟩⟩
end
abbrev Wt:=List (Nat × Cell)
def wOk (w:Wt) (st:Q0):Prop:=∀ x∈w,st[x.1]?=some x.2
theorem wOk_nil (st:Q0):wOk [] st:=fun x h=>by cases h
structure Src (J:It) (items:List PV) (w:Wt) (H:Hp) (ρ:Tk):Prop where
  stop:∀ H2 ρ2 st2,Ext H ρ H2 ρ2->Rel H2 ρ2 st2->wOk w st2->J.stop items.length H2
  go:∀ H2 ρ2 st2,Ext H ρ H2 ρ2->Rel H2 ρ2 st2->wOk w st2->∀ i,i < items.length->J.go i H2
  yld:∀ H2 ρ2 st2,Ext H ρ H2 ρ2->Rel H2 ρ2 st2->wOk w st2->∀ i p,items[i]?=some p->∀ x H3,J.yld i H2 x H3->Same H2 H3/\Rep H3 ρ2 p x
abbrev MI:=Gam->Q0->Res (List PV × Wt)
structure SimI (X:Cx) (E:XK) (tg iter:Expr) (mi:MI):Prop where
  run:∀ (Γ:Gam) (σ:St) (H:Hp) (ρ:Tk) (st:Q0) (P:List PV × Wt->Q0->Hp->Tk->Prop) (R':It->Hp->Prop),Rel H ρ st->EnvR H ρ Γ σ->Acc X.mg E H ρ P (mi Γ st) ->
    (∀ iw st1 H1 ρ1 J,mi Γ st=.ok iw st1->Ext H ρ H1 ρ1->Rel H1 ρ1 st1->EnvR H1 ρ1 Γ σ->wOk iw.2 st1->iw.1.length<=sizeLine->Src J iw.1 iw.2 H1 ρ1->P iw st1 H1 ρ1->R' J H1)->WI X tg iter σ H R'
def srcOf (st:Q0):PV->Option (List PV × Wt)
  | .tup xs=>some (xs,[])
  | .lst xs=>some (xs,[])
  | .fro xs=>some (xs,[])
  | .ref i=>match st[i]? with
    | some (.lst xs)=>some (xs,[(i,.lst xs)])
    | _=>none
  | _=>none
theorem src_at {K:PySem.W.Frag} {H:Hp} {ρ:Tk} {st:Q0} {p:PV} {v:V} {xs:List PV} {w:Wt} (R:Rel H ρ st) (r:Rep H ρ p v) (e:srcOf st p=some (xs,w)) :
    wOk w st/\∃ (t:Bool) (a:Addr),v=.ref a/\(t=true->∃ ys,p=.tup ys)/\(t=false->∀ ys,p≠.tup ys)/\∀ H2 ρ2 st2,Ext H ρ H2 ρ2->Rel H2 ρ2 st2->wOk w st2->∃ vs,SqK K t H2 a vs/\RepL H2 ρ2 xs vs:=by
  cases p with
  | tup ys=>
    obtain ⟨a,vs,rfl,ha,na,ra⟩:=r
    cases e
    exact ⟨wOk_nil _,true,a,rfl,fun _=>⟨_,rfl⟩,(fun z=>by cases z),fun H2 ρ2 st2 x R2 _=>⟨vs,show SqT K H2 a vs from SqT.of (x.kp ha na),ra.ext x⟩⟩
  | lst ys=>
    obtain ⟨a,vs,rfl,ha,na,ra⟩:=r
    cases e
    exact ⟨wOk_nil _,false,a,rfl,(fun z=>by cases z),(fun _ _ z=>by cases z),fun H2 ρ2 st2 x R2 _=>⟨vs,show SqL K H2 a vs from SqL.of (x.kp ha na),ra.ext x⟩⟩
  | fro ys=>
    obtain ⟨a,vs,rfl,ha,na,ra⟩:=r
    cases e
    refine ⟨wOk_nil _,false,a,rfl,(fun z=>by cases z),(fun _ _ z=>by cases z),fun H2 ρ2 st2 x R2 _=>⟨vs,show SqL K H2 a vs from ?_,ra.ext x⟩⟩
    rcases ha with ha | ⟨o,ha⟩
    · exact .inl (.inl (x.kp ha na))
    · exact .inl (.inr ⟨o,x.kp ha na⟩)
  | ref i=>
    obtain ⟨a,ea,rfl⟩:=r
    simp only [srcOf] at e
    split at e
    · rename_i ys hs
      cases e
      refine ⟨fun x hx=>?_,false,a,rfl,(fun z=>by cases z),(fun _ _ z=>by cases z),fun H2 ρ2 st2 x R2 ok=>?_⟩
      · have:x=(i,.lst xs):=by simpa using hx
        subst this; exact hs
      · have hs2:=ok (i,.lst xs) (by simp)
        obtain ⟨b,vs,f1,f2,f3⟩:=R2.lst hs2
        obtain ⟨t,et⟩:=x.pre
        rw [<- et,D2 (O3.mp ea).1,ea] at f1
        cases f1
        exact ⟨vs,show SqL K H2 a vs from SqL.of f2,f3⟩
    · cases e
  | _=>cases e
section
variable {X:Cx} {E:XK} {pos:Pos} {tg:Expr} {e:Expr} {m:ME}
def mSeq (m:ME):MI:=fun Γ st=>(m Γ st).bind fun p st1=>match srcOf st1 p with
  | some (xs,w)=>if xs.length<=lim then .ok (xs,w) st1 else .stuck
  | none=>.stuck
theorem RepL.i {H:Hp} {ρ:Tk} {ps:List PV} {vs:List V} {i:Nat} {p:PV} {x:V} (r:RepL H ρ ps vs) (h:ps[i]?=some p) (h':vs[i]?=some x):Rep H ρ p x:=by
  obtain ⟨v,e,q⟩:=r.get h
  rw [h'] at e; cases e
  exact q
theorem src_seq {K:PySem.W.Frag} {H:Hp} {ρ:Tk} {t:Bool} {a:Addr} {xs:List PV} {w:Wt} (h:∀ H2 ρ2 st2,Ext H ρ H2 ρ2->Rel H2 ρ2 st2->wOk w st2->∃ vs,SqK K t H2 a vs/\RepL H2 ρ2 xs vs):Src (if t=true then Itt K a else Itl K a) xs w H ρ:=by
  cases t with
  | true=>
    rw [if_pos rfl]
    refine ⟨fun H2 ρ2 st2 x R ok=>?_,fun H2 ρ2 st2 x R ok i hi=>?_,fun H2 ρ2 st2 x R ok i p hp y H3 hy=>?_⟩
    · obtain ⟨vs,s,r⟩:=h H2 ρ2 st2 x R ok
      exact ⟨vs,s,by rw [r.length]; exact O4 _⟩
    · obtain ⟨vs,s,r⟩:=h H2 ρ2 st2 x R ok
      have hi':i < vs.length:=by rw [<- r.length]; exact hi
      exact ⟨vs,vs[i],s,O1 hi'⟩
    · obtain ⟨vs,s,r⟩:=h H2 ρ2 st2 x R ok
      obtain ⟨rfl,hv⟩:=hy
      exact ⟨Same.refl _,r.i hp (hv vs s)⟩
  | false=>
    rw [if_neg D6]
    refine ⟨fun H2 ρ2 st2 x R ok=>?_,fun H2 ρ2 st2 x R ok i hi=>?_,fun H2 ρ2 st2 x R ok i p hp y H3 hy=>?_⟩
    · obtain ⟨vs,s,r⟩:=h H2 ρ2 st2 x R ok
      exact ⟨vs,s,by rw [r.length]; exact O4 _⟩
    · obtain ⟨vs,s,r⟩:=h H2 ρ2 st2 x R ok
      have hi':i < vs.length:=by rw [<- r.length]; exact hi
      exact ⟨vs,vs[i],s,O1 hi'⟩
    · obtain ⟨vs,s,r⟩:=h H2 ρ2 st2 x R ok
      obtain ⟨rfl,hv⟩:=hy
      exact ⟨Same.refl _,r.i hp (hv vs s)⟩
theorem mSeq_in {mg:Str->Option Value} {H:Hp} {ρ:Tk} {st:Q0} {p:PV} {P:List PV × Wt->Q0->Hp->Tk->Prop} (R:Rel H ρ st) (h:Acc mg E H ρ P (match srcOf st p with | some (xs,w)=>if xs.length<=lim then .ok (xs,w) st else .stuck | none=>.stuck)) :
    ∃ xs w,srcOf st p=some (xs,w)/\xs.length<=lim/\P (xs,w) st H ρ:=by
  split at h
  · rename_i xs w e
    split at h
    · rename_i hl
      exact ⟨xs,w,e,hl,h H ρ (Ext.refl _ _) R⟩
    · exact h.elim
  · exact h.elim
theorem si_seq (ha:SimE X E e m):SimI X E tg e (mSeq m):=⟨fun Γ σ H ρ st P R' R G h k=>by
  have hb:Acc X.mg E H ρ _ (m Γ st):=Acc.bind h
  by_cases ht:∃ ys st1,m Γ st=.ok (.tup ys) st1
  · obtain ⟨ys,st0,e0⟩:=ht
    refine WI.of (pi_tup Zs) (ha.use' R G hb fun p st1 H1 ρ1 v eq x1 R1 G1 r1 h1=>?_)
    obtain ⟨xs,w,e,hl,hP⟩:=mSeq_in R1 h1
    obtain ⟨ok,t,a,rfl,t1,t2,sq⟩:=src_at (K:=X.K) R1 r1 e
    have ep:p=.tup ys:=by rw [eq] at e0; injection e0
    cases t with
    | false=>exact absurd ep (t2 rfl ys)
    | true=>
      obtain ⟨vs,s,_⟩:=sq H1 ρ1 st1 (Ext.refl _ _) R1 ok
      exact ⟨a,rfl,⟨vs,s⟩,k (xs,w) st1 H1 ρ1 _ (by simp only [mSeq,eq,Res.bind,e,if_pos hl]) x1 R1 G1 ok (le_lim hl) (src_seq sq) hP⟩
  · refine WI.of (pi_list Zs) (ha.use' R G hb fun p st1 H1 ρ1 v eq x1 R1 G1 r1 h1=>?_)
    obtain ⟨xs,w,e,hl,hP⟩:=mSeq_in R1 h1
    obtain ⟨ok,t,a,rfl,t1,t2,sq⟩:=src_at (K:=X.K) R1 r1 e
    cases t with
    | true=>
      obtain ⟨ys,rfl⟩:=t1 rfl
      exact absurd ⟨ys,st1,eq⟩ ht
    | false=>
      obtain ⟨vs,s,_⟩:=sq H1 ρ1 st1 (Ext.refl _ _) R1 ok
      exact ⟨a,rfl,⟨vs,s⟩,k (xs,w) st1 H1 ρ1 _ (by simp only [mSeq,eq,Res.bind,e,if_pos hl]) x1 R1 G1 ok (le_lim hl) (src_seq sq) hP⟩⟩
def rangeI (lo:Int) (n:Nat):List PV:=(List.range n).map fun (k:Nat)=>PV.int (lo + (k:Int))
theorem src_range {H:Hp} {ρ:Tk} {lo:Int} {n:Nat}:Src (Itr lo n) (rangeI lo n) [] H ρ:=by
  have hl:(rangeI lo n).length=n:=by unfold rangeI; rw [O2,F0]
  refine ⟨fun H2 ρ2 st2 x R ok=>?_,fun H2 ρ2 st2 x R ok i hi=>?_,fun H2 ρ2 st2 x R ok i p hp y H3 hy=>?_⟩
  · show n<=(rangeI lo n).length
    omega
  · show i < n
    omega
  · obtain ⟨rfl,rfl⟩:=hy
    have hi:i < n:=by rw [<- hl]; exact (O3.mp hp).1
    unfold rangeI at hp
    rw [E1,List.getElem?_range hi] at hp
    cases hp
    exact ⟨Same.refl _,rfl⟩
def Zh (mr:Gam->Q0->Res (List PV)):MI:=fun Γ st=>(mr Γ st).bind fun ps st1=>match ps with
  | [.int j]=>if -(lim:Int)<=j/\j<=lim then .ok (rangeI 0 j.toNat,[]) st1 else .stuck
  | _=>.stuck
variable {a b:Expr} {mr:Gam->Q0->Res (List PV)} {p:Pos}
theorem rangeI_len (lo:Int) (n:Nat):(rangeI lo n).length=n:=by unfold rangeI; rw [O2,F0]
theorem si_range1 (hg:Gl X "range") (hm:X.mg "range" = none) (ha:SimA X E [a] mr) (hs:starEach [a] X.env=[(false,eval a X.env)]:=by rfl):SimI X E tg (.Call (.Name "range" p) [a] [] pos) (Zh mr):=⟨fun Γ σ H ρ st P R' R G h k=>by
  refine WI.of (pi_range1 hg hm pa_w hs) (ha.use' R G h.bind fun ps st1 H1 ρ1 vs eq x1 R1 G1 r1 h1=>?_)
  split at h1
  · rename_i j
    split at h1
    · rename_i hj
      obtain ⟨v,rfl,rv⟩:=Zi r1
      cases rv
      have hl:(lim:Int)=1000000:=rfl
      refine ⟨j,rfl,by omega,by omega,k (rangeI 0 j.toNat,[]) st1 H1 ρ1 _ (by simp only [Zh,eq,Res.bind,if_pos hj]) x1 R1 G1 (wOk_nil _) ?_ src_range (h1 H1 ρ1 (Ext.refl _ _) R1)⟩
      show (rangeI 0 j.toNat).length<=sizeLine
      rw [rangeI_len]
      exact le_lim (by omega)
    · exact h1.elim
  · exact h1.elim⟩
def zipT:List PV->List PV->List PV
  | x :: xs,y :: ys=>.tup [x,y] :: zipT xs ys
  | _,_=>[]
theorem zipT_eq (xs ys:List PV):zipT xs ys=(xs.zip ys).map fun z=>.tup [z.1,z.2]:=by
  induction xs generalizing ys with
  | nil=>rfl
  | cons x xs ih=>
    cases ys with
    | nil=>rfl
    | cons y ys=>rw [zipT,ih]; rfl
theorem zipT_len (xs ys:List PV):(zipT xs ys).length=min xs.length ys.length:=by rw [zipT_eq,O2,List.length_zip]
theorem zipT_get {xs ys:List PV} {i:Nat} {p:PV} (h:(zipT xs ys)[i]?=some p):∃ x y,p=.tup [x,y]/\xs[i]?=some x/\ys[i]?=some y:=by
  rw [zipT_eq,E1] at h
  cases e:(xs.zip ys)[i]? with
  | none=>rw [e] at h; cases h
  | some z=>
    rw [e] at h; cases h
    rw [List.getElem?_zip_eq_some] at e
    exact ⟨z.1,z.2,rfl,e.1,e.2⟩
def mZip (mr:Gam->Q0->Res (List PV)):MI:=fun Γ st=>(mr Γ st).bind fun ps st1=>match ps with
  | [p,q]=>match srcOf st1 p,srcOf st1 q with
    | some (xs,w),some (ys,w')=>if xs.length<=lim then .ok (zipT xs ys,w ++ w') st1 else .stuck
    | _,_=>.stuck
  | _=>.stuck
theorem wOk_app {w w':Wt} {st:Q0} (h:wOk (w ++ w') st):wOk w st/\wOk w' st:=⟨fun x hx=>h x (E3 _ hx),fun x hx=>h x (D8 _ hx)⟩
theorem src_zip {K:PySem.W.Frag} {H:Hp} {ρ:Tk} {t1 t2:Bool} {a b:Addr} {xs ys:List PV} {w w':Wt} (h:∀ H2 ρ2 st2,Ext H ρ H2 ρ2->Rel H2 ρ2 st2->wOk w st2->∃ vs,SqK K t1 H2 a vs/\RepL H2 ρ2 xs vs)
    (h':∀ H2 ρ2 st2,Ext H ρ H2 ρ2->Rel H2 ρ2 st2->wOk w' st2->∃ vs,SqK K t2 H2 b vs/\RepL H2 ρ2 ys vs):Src (Itz K t1 t2 a b) (zipT xs ys) (w ++ w') H ρ:=by
  refine ⟨fun H2 ρ2 st2 x R ok=>?_,fun H2 ρ2 st2 x R ok i hi=>?_,fun H2 ρ2 st2 x R ok i p hp y H3 hy=>?_⟩
  · obtain ⟨vs,s,r⟩:=h H2 ρ2 st2 x R (wOk_app ok).1
    obtain ⟨us,s',r'⟩:=h' H2 ρ2 st2 x R (wOk_app ok).2
    refine ⟨vs,us,s,s',?_⟩
    rw [zipT_len,<- r.length,<- r'.length]
    omega
  · obtain ⟨vs,s,r⟩:=h H2 ρ2 st2 x R (wOk_app ok).1
    obtain ⟨us,s',r'⟩:=h' H2 ρ2 st2 x R (wOk_app ok).2
    rw [zipT_len,r.length,r'.length] at hi
    have h1:i < vs.length:=by omega
    have h2:i < us.length:=by omega
    exact ⟨vs,us,vs[i],us[i],s,s',O1 h1,O1 h2⟩
  · obtain ⟨vs,s,r⟩:=h H2 ρ2 st2 x R (wOk_app ok).1
    obtain ⟨us,s',r'⟩:=h' H2 ρ2 st2 x R (wOk_app ok).2
    obtain ⟨q,u,v,hn,rfl,rfl,hv⟩:=hy
    obtain ⟨e1,e2⟩:=hv vs us s s'
    obtain ⟨xp,yp,rfl,p1,p2⟩:=zipT_get hp
    have sm:Same H2 (upd H2 q (.tup [u,v])):=same_new hn
    exact ⟨sm,q,[u,v],rfl,Qu,R.fresh hn,RepL.cons ((r.i p1 e1).ext (Ext.same sm)) (RepL.cons ((r'.i p2 e2).ext (Ext.same sm)) RepL.nil)⟩
theorem si_zip {elts:List Expr} {kt:Nat} {tp:Pos} (hg:Gl X "zip") (hm:X.mg "zip" = none) (ha:SimA X E [a,b] mr) (hs:starEach [a,b] X.env=[(false,eval a X.env),(false,eval b X.env)]:=by rfl) (hs2:starEach [b] X.env=[(false,eval b X.env)]:=by rfl) :
    SimI X E (.Tuple elts kt tp) (.Call (.Name "zip" p) [a,b] [] pos) (mZip mr):=⟨fun Γ σ H ρ st P R' R G h k=>by
  have hb:Acc X.mg E H ρ _ (mr Γ st):=Acc.bind h
  have main:∀ t1 t2:Bool,(∀ p q st1,mr Γ st=.ok [p,q] st1->(t1=true <-> ∃ ys,p=.tup ys)/\(t2=true <-> ∃ ys,q=.tup ys))->WI X (.Tuple elts kt tp) (.Call (.Name "zip" p) [a,b] [] pos) σ H R':=fun t1 t2 ht=>by
    refine WI.of (pi_zip t1 t2 hg hm pa_w hs hs2) (ha.use' R G hb fun ps st1 H1 ρ1 vs eq x1 R1 G1 r1 h1=>?_)
    split at h1
    · rename_i p' q'
      split at h1
      · rename_i xs w ys w' e1 e2
        split at h1
        · rename_i hl
          obtain ⟨v,u,rfl,rv,ru⟩:=repL_two r1
          obtain ⟨ok1,b1,a1,rfl,z1,z1',sq1⟩:=src_at (K:=X.K) R1 rv e1
          obtain ⟨ok2,b2,a2,rfl,z2,z2',sq2⟩:=src_at (K:=X.K) R1 ru e2
          obtain ⟨g1,g2⟩:=ht _ _ _ eq
          have eb1:b1=t1:=by
            cases b1 with
            | true=>exact (g1.mpr (z1 rfl)).symm
            | false=>
              cases t1 with
              | false=>rfl
              | true=>obtain ⟨ys,e⟩:=g1.mp rfl; exact absurd e (z1' rfl ys)
          have eb2:b2=t2:=by
            cases b2 with
            | true=>exact (g2.mpr (z2 rfl)).symm
            | false=>
              cases t2 with
              | false=>rfl
              | true=>obtain ⟨ys,e⟩:=g2.mp rfl; exact absurd e (z2' rfl ys)
          subst eb1; subst eb2
          obtain ⟨vs1,s1,_⟩:=sq1 H1 ρ1 st1 (Ext.refl _ _) R1 ok1
          obtain ⟨vs2,s2,_⟩:=sq2 H1 ρ1 st1 (Ext.refl _ _) R1 ok2
          refine ⟨a1,a2,vs1,vs2,rfl,s1,s2,k (zipT xs ys,w ++ w') st1 H1 ρ1 _ (by simp only [mZip,eq,Res.bind,e1,e2,if_pos hl]) x1 R1 G1 (fun x hx=>?_) ?_ (src_zip sq1 sq2) (h1 H1 ρ1 (Ext.refl _ _) R1)⟩
          · rcases D4.mp hx with hx | hx
            · exact ok1 x hx
            · exact ok2 x hx
          · show (zipT xs ys).length<=sizeLine
            rw [zipT_len]
            exact le_lim (D3 (Nat.min_le_left _ _) hl)
        · exact h1.elim
      · exact h1.elim
    · exact h1.elim
  have tt:∀ p:PV,∃ t:Bool,t=true <-> ∃ ys,p=.tup ys:=fun p=>by
    cases p with
    | tup ys=>exact ⟨true,fun _=>⟨ys,rfl⟩,fun _=>rfl⟩
    | _=>exact ⟨false,⟨fun z=>(by cases z),fun ⟨_,z⟩=>(by cases z)⟩⟩
  by_cases hz:∃ p q st1,mr Γ st=.ok [p,q] st1
  · obtain ⟨p0,q0,st0,e0⟩:=hz
    obtain ⟨t1,g1⟩:=tt p0
    obtain ⟨t2,g2⟩:=tt q0
    refine main t1 t2 fun p q st1 e=>?_
    rw [e0] at e; cases e
    exact ⟨g1,g2⟩
  · exact main true true fun p q st1 e=>absurd ⟨p,q,st1,e⟩ hz⟩
end
end Sm
namespace Sm
open PySem PySem.Spec L2
abbrev ML:=Gam->Q0->Res (List PV)
structure SimN (X:Cx) (E:XK) (e:Expr) (m:ML):Prop where
  run:∀ (Γ:Gam) (σ:St) (H:Hp) (ρ:Tk) (st:Q0) (P:List PV->Q0->Hp->Tk->Prop) (Q:VK),Rel H ρ st->EnvR H ρ Γ σ->Acc X.mg E H ρ P (m Γ st) ->
    (∀ ps st1 H1 ρ1 a vs,m Γ st=.ok ps st1->Ext H ρ H1 ρ1->Rel H1 ρ1 st1->a∈ρ1.hid->H a=none->H1 a=some (.lst vs)->RepL H1 ρ1 ps vs->Q (.ref a) H1)->WE X e σ H Q
def mVal (m:ML):ME:=fun Γ st=>(m Γ st).bind fun ps st1=>.ok (.lst ps) st1
def mTrk (m:ML):ME:=fun Γ st=>(m Γ st).bind fun ps st1=>.ok (.ref st1.length) (st1 ++ [.lst ps])
section
variable {H0 H:Hp} {ρ0 ρ:Tk} {st:Q0} {a:Addr} {ps:List PV} {vs:List V}
theorem out_val (R0:Rel H0 ρ0 st) (x:Ext H0 ρ0 H ρ) {st1:Q0} (R:Rel H ρ st1) (hm:a∈ρ.hid) (hn:H0 a=none) (ha:H a=some (.lst vs)) (r:RepL H ρ ps vs) :
    Ext H0 ρ0 H ⟨ρ.tr,ρ0.hid⟩/\Rel H ⟨ρ.tr,ρ0.hid⟩ st1/\Rep H ⟨ρ.tr,ρ0.hid⟩ (.lst ps) (.ref a):=
  ⟨x.unhide,R.unhide x.hidM,a,vs,rfl,ha,(fun z=>by
    rcases z with z | z
    · exact R.ap a hm z
    · obtain ⟨o,e,_⟩:=R0.hd a z
      rw [hn] at e; cases e),r.unhide x.hidM⟩
mutual
theorem Rep.trk {b:Addr} {hs:List Addr} (hb:b∈ρ.hid) (hh:∀ c,c∈hs->c∈ρ.hid):∀ {p:PV} {v:V},Rep H ρ p v->Rep H ⟨ρ.tr ++ [b],hs⟩ p v
  | .non,_,r=>r
  | .bl _,_,r=>r
  | .int _,_,r=>r
  | .str _,_,r=>r
  | .tup ps,v,⟨c,vs,e,s,n,r⟩=>⟨c,vs,e,s,fun z=>by
      rcases z with z | z
      · rcases D4.mp z with z | z
        · exact n (.inl z)
        · have:c=b:=by simpa using z
          subst this; exact n (.inr hb)
      · exact n (.inr (hh _ z)),RepL.trk hb hh r⟩
  | .lst ps,v,⟨c,vs,e,s,n,r⟩=>⟨c,vs,e,s,fun z=>by
      rcases z with z | z
      · rcases D4.mp z with z | z
        · exact n (.inl z)
        · have:c=b:=by simpa using z
          subst this; exact n (.inr hb)
      · exact n (.inr (hh _ z)),RepL.trk hb hh r⟩
  | .fro ps,v,⟨c,vs,e,s,n,r⟩=>⟨c,vs,e,s,fun z=>by
      rcases z with z | z
      · rcases D4.mp z with z | z
        · exact n (.inl z)
        · have:c=b:=by simpa using z
          subst this; exact n (.inr hb)
      · exact n (.inr (hh _ z)),RepL.trk hb hh r⟩
  | .ref i,v,⟨c,e,e2⟩=>⟨c,by show (ρ.tr ++ [b])[i]?=some c; rw [D2 (O3.mp e).1]; exact e,e2⟩
  | .dic,v,⟨c,e,s,n⟩=>⟨c,e,s,fun z=>by
      rcases z with z | z
      · rcases D4.mp z with z | z
        · exact n (.inl z)
        · have:c=b:=by simpa using z
          subst this; exact n (.inr hb)
      · exact n (.inr (hh _ z))⟩
theorem RepL.trk {b:Addr} {hs:List Addr} (hb:b∈ρ.hid) (hh:∀ c,c∈hs->c∈ρ.hid):∀ {ps:List PV} {vs:List V},RepL H ρ ps vs->RepL H ⟨ρ.tr ++ [b],hs⟩ ps vs
  | [],_,r=>r
  | p :: ps,_,⟨v,t,e,r1,r2⟩=>⟨v,t,e,Rep.trk hb hh r1,RepL.trk hb hh r2⟩
end
theorem out_trk (R0:Rel H0 ρ0 st) (x:Ext H0 ρ0 H ρ) {st1:Q0} (R:Rel H ρ st1) (hm:a∈ρ.hid) (hn:H0 a=none) (ha:H a=some (.lst vs)) (r:RepL H ρ ps vs) :
    Ext H0 ρ0 H ⟨ρ.tr ++ [a],ρ0.hid⟩/\Rel H ⟨ρ.tr ++ [a],ρ0.hid⟩ (st1 ++ [.lst ps])/\Rep H ⟨ρ.tr ++ [a],ρ0.hid⟩ (.ref st1.length) (.ref a):=by
  have na0:a∉ρ0.hid:=fun z=>by
    obtain ⟨o,e,_⟩:=R0.hd a z
    rw [hn] at e; cases e
  refine ⟨⟨x.pre.trans (List.prefix_append _ _),fun _ h=>h,fun _ h=>.inl h,x.keep,fun b hb=>?_,x.old,x.frz⟩,⟨?_,?_,fun b hb=>R.hd b (x.hidM b hb),fun b hb z=>?_,fun i b c h1 h2=>?_⟩,a,?_,rfl⟩
  · rcases D4.mp hb with z | z
    · exact x.new b z
    · have:b=a:=by simpa using z
      subst this; exact .inr hn
  · show (ρ.tr ++ [a]).length=_
    rw [E5,E5,R.len]; rfl
  · show (ρ.tr ++ [a]).Nodup
    refine List.nodup_append.mpr ⟨R.nd,by simp,fun b hb c hc e=>?_⟩
    have:c=a:=by simpa using hc
    subst this; subst e
    exact R.ap b hm hb
  · rcases D4.mp z with z | z
    · exact R.ap b (x.hidM b hb) z
    · have:b=a:=by simpa using z
      subst this; exact na0 hb
  · have h1:(ρ.tr ++ [a])[i]?=some b:=h1
    by_cases hi:i < st1.length
    · rw [D2 (by rw [R.len]; exact hi)] at h1
      rw [D2 hi] at h2
      have q:=R.cell i b c h1 h2
      cases c with
      | lst qs=>
        obtain ⟨us,e1,e2⟩:=q
        exact ⟨us,e1,e2.trk hm x.hidM⟩
      | dic qs=>
        obtain ⟨us,e1,e2⟩:=q
        exact ⟨us,e1,e2.1,e2.2.trk hm x.hidM⟩
      | dtp qs=>
        obtain ⟨us,e1,e2⟩:=q
        exact ⟨us,e1,e2.1,e2.2.trk hm x.hidM⟩
      | frd qs=>
        obtain ⟨us,e1,e2⟩:=q
        exact ⟨us,e1,e2.1,e2.2.trk hm x.hidM⟩
      | obj C qs=>
        obtain ⟨us,e1,e2⟩:=q
        exact ⟨us,e1,e2.1,e2.2.trk hm x.hidM⟩
    · rw [E2 (by rw [R.len]; omega)] at h1
      rw [E2 (by omega)] at h2
      have e0:i - st1.length=0:=by
        rcases Nat.eq_zero_or_pos (i - st1.length) with z | z
        · exact z
        · rw [List.getElem?_eq_none (by simp; omega)] at h2; cases h2
      rw [R.len,e0] at h1
      rw [e0] at h2
      simp at h1 h2
      subst h1; subst h2
      exact ⟨vs,ha,r.trk hm x.hidM⟩
  · show (ρ.tr ++ [a])[st1.length]?=some a
    rw [<- R.len,E2 (O4 _),Nat.sub_self]; rfl
end
section
variable {X:Cx} {E:XK} {pos:Pos} {e:Expr} {m:ML}
theorem se_val (h:SimN X E e m):SimE X E e (mVal m):=⟨fun Γ σ H ρ st Q R G hq=>h.run Γ σ H ρ st _ Q R G hq.bind fun ps st1 H1 ρ1 a vs eq x R1 hm hn ha r=>by
  obtain ⟨x2,R2,r2⟩:=out_val R x R1 hm hn ha r
  unfold mVal at hq
  rw [eq] at hq
  exact hq _ _ x2 R2 _ r2⟩
theorem se_trk (h:SimN X E e m):SimE X E e (mTrk m):=⟨fun Γ σ H ρ st Q R G hq=>h.run Γ σ H ρ st _ Q R G hq.bind fun ps st1 H1 ρ1 a vs eq x R1 hm hn ha r=>by
  obtain ⟨x2,R2,r2⟩:=out_trk R x R1 hm hn ha r
  unfold mTrk at hq
  rw [eq] at hq
  exact hq _ _ x2 R2 _ r2⟩
variable {es:List Expr} {mr:Gam->Q0->Res (List PV)} {a b:Expr} {ma mb:ME}
theorem new_at {H1:Hp} {ρ1:Tk} {st1:Q0} {H:Hp} {ρ:Tk} {Q:VK} {ps:List PV} {vs:List V} (x:Ext H ρ H1 ρ1) (R1:Rel H1 ρ1 st1) (r:RepL H1 ρ1 ps vs)
    (k:∀ H1 ρ1 a vs,Ext H ρ H1 ρ1->Rel H1 ρ1 st1->a∈ρ1.hid->H a=none->H1 a=some (.lst vs)->RepL H1 ρ1 ps vs->Q (.ref a) H1):∀ p,H1 p=none->Q (.ref p) (upd H1 p (.lst vs)):=fun p hp=>by
  refine k _ (ρ1.hide p) p vs (x.trans (Ext.hide hp)) (R1.hide hp) E4 ?_ Qu (r.hide hp)
  cases e:H p with
  | none=>rfl
  | some o=>
    obtain ⟨o',e'⟩:=x.old p o e
    rw [hp] at e'; cases e'
def mLstN (mr:Gam->Q0->Res (List PV)):ML:=fun Γ st=>(mr Γ st).bind fun ps st1=>if ps.length<=lim then .ok ps st1 else .stuck
theorem sn_lst (h:SimA X E es mr):SimN X E (.List es pos) (mLstN mr):=
  ⟨fun Γ σ H ρ st P Q R G hq k=>WE.of (pe_lst pa_w) (h.use' R G hq.bind fun ps st1 H1 ρ1 vs eq x1 R1 G1 r1 h1=>by
    by_cases hl:ps.length<=lim
    · refine ⟨by rw [<- r1.length]; exact le_lim hl,new_at x1 R1 r1 fun H2 ρ2 a us=>k ps st1 H2 ρ2 a us ?_⟩
      unfold mLstN
      rw [eq]
      exact if_pos hl
    · rw [if_neg hl] at h1; exact h1.elim)⟩
end
end Sm
namespace Sm
open PySem PySem.Spec L2
def Jj (cap:List (Option Nat)) (Γ:Gam):Gam:=cap.map fun c=>c.bind fun j=>(Γ[j]?).join
theorem EnvR.cap {H:Hp} {ρ:Tk} {Γ:Gam} {σ:St} (h:EnvR H ρ Γ σ) (cap:List (Option Nat)):EnvR H ρ (Jj cap Γ) (capOf cap σ):=by
  refine ⟨by unfold Jj capOf; rw [O2,O2],fun i p e=>?_⟩
  unfold Jj at e
  unfold capOf
  rw [E1] at e ⊢
  cases q:cap[i]? with
  | none=>rw [q] at e; cases e
  | some c=>
    rw [q] at e
    cases c with
    | none=>cases e
    | some j=>
      have e':(Γ[j]?).join=some p:=Option.some.inj e
      cases r:Γ[j]? with
      | none=>rw [r] at e'; cases e'
      | some o=>
        rw [r] at e'
        have:o=some p:=e'
        subst this
        obtain ⟨v,e1,e2⟩:=h.2 j p r
        exact ⟨v,by show some ((σ[j]?).join)=some (some v); rw [e1]; rfl,e2⟩
def FreeT (cap:List (Option Nat)) (ga:GA):Prop:=∀ Γ p Γ1,ga p (Jj cap Γ)=some Γ1->Γ1.length=(Jj cap Γ).length/\∀ (i:Nat) (q:PV),(Jj cap Γ)[i]?=some (some q)->Γ1[i]?=some (some q)
theorem capG_none {cap:List (Option Nat)} {i:Nat} (h:cap[i]?=some none) (Γ:Gam):(Jj cap Γ)[i]?=some none:=by
  unfold Jj
  rw [E1,h]; rfl
theorem free_name {cap:List (Option Nat)} {i:Nat} (h:cap[i]?=some none:=by rfl):FreeT cap (Qa i):=fun Γ p Γ1 e=>by
  cases e
  refine ⟨List.length_set ..,fun j q hj=>?_⟩
  rw [F8 fun z=>?_]
  · exact hj
  · subst z; rw [capG_none h] at hj; cases hj
def FreeL (cap:List (Option Nat)) (ga:GAs):Prop:=∀ Γ ps Γ0 Γ1,(∀ (i:Nat) (q:PV),(Jj cap Γ)[i]?=some (some q)->Γ0[i]?=some (some q))->ga ps Γ0=some Γ1->Γ1.length=Γ0.length/\∀ (i:Nat) (q:PV),(Jj cap Γ)[i]?=some (some q)->Γ1[i]?=some (some q)
theorem free_nil {cap:List (Option Nat)}:FreeL cap gaNil:=fun Γ ps Γ0 Γ1 h e=>by
  cases ps with
  | nil=>cases e; exact ⟨rfl,h⟩
  | cons _ _=>cases e
theorem free_cons {cap:List (Option Nat)} {i:Nat} {gs:GAs} (hs:FreeL cap gs) (h:cap[i]?=some none:=by rfl):FreeL cap (gaCons (Qa i) gs):=fun Γ ps Γ0 Γ1 h0 e=>by
  cases ps with
  | nil=>cases e
  | cons p ps=>
    obtain ⟨a,b⟩:=hs Γ ps (Γ0.set i (some p)) Γ1 (fun k r hk=>by
      rw [F8 fun z=>?_]
      · exact h0 k r hk
      · subst z; rw [capG_none h] at hk; cases hk) e
    exact ⟨by rw [a,List.length_set],b⟩
theorem free_tup {cap:List (Option Nat)} {gs:GAs} (hs:FreeL cap gs):FreeT cap (gaTup gs):=fun Γ p Γ1 e=>by
  cases p with
  | tup ps=>exact hs Γ ps _ Γ1 (fun _ _ h=>h) e
  | _=>cases e
open Classical in
def J6 (ga:GA) (mt:MT) (me:ME) (w:Wt) (Γ0:Gam):List PV->Q0->Res (List PV)
  | [],st=>if wOk w st then .ok [] st else .stuck
  | x :: xs,st=>if wOk w st then (match ga x Γ0 with
    | none=>.stuck
    | some Γ1=>(mt Γ1 st).bind fun b st1=>if b=true then (me Γ1 st1).bind fun y st2=>(J6 ga mt me w Γ0 xs st2).bind fun ys st3=>.ok (y :: ys) st3 else J6 ga mt me w Γ0 xs st1) else .stuck
def noX {α:Type}:Res α->Res α
  | .exc _ _=>.stuck
  | r=>r
def Z4 (cap:List (Option Nat)) (ga:GA) (mi:MI) (mt:MT) (me:ME):ML:=fun Γ st=>(mi Γ st).bind fun iw st1=>noX (J6 ga mt me iw.2 (Jj cap Γ) iw.1 st1)
structure SimTs (X:Cx) (ifs:List Expr) (m:MT):Prop where
  run:∀ (Γ:Gam) (σ:St) (H:Hp) (ρ:Tk) (st:Q0) (P:Bool->Q0->Hp->Tk->Prop) (Q:Bool->Hp->Prop),Rel H ρ st->EnvR H ρ Γ σ->Acc X.mg E0 H ρ P (m Γ st) ->
    (∀ b st1 H1 ρ1,m Γ st=.ok b st1->Ext H ρ H1 ρ1->Rel H1 ρ1 st1->EnvR H1 ρ1 Γ σ->Q b H1)->∃ t,PTs X ifs t/\t σ H Q
def mTrue:MT:=fun _ st=>.ok true st
theorem sts_nil {X:Cx}:SimTs X [] mTrue:=⟨fun Γ σ H ρ st P Q R G h k=>⟨_,pts_nil,k true st H ρ rfl (Ext.refl _ _) R G⟩⟩
theorem sts_one {X:Cx} {c:Expr} {m:MT} (hc:SimT X E0 c m):SimTs X [c] m:=⟨fun Γ σ H ρ st P Q R G h k=>⟨_,pts_one pt_w,hc.use' R G h fun b st1 H1 ρ1 e x1 R1 G1 p=>k b st1 H1 ρ1 e x1 R1 G1⟩⟩
theorem acc_noX {α:Type} {mg:Str->Option Value} {E E':XK} {H:Hp} {ρ:Tk} {P:α->Q0->Hp->Tk->Prop} {r:Res α} (h:Acc mg E H ρ P (noX r)):Acc mg E' H ρ P r:=by
  cases r with
  | ok a st=>exact h
  | exc x st=>exact h.elim
  | stuck=>exact h
theorem Res.assoc {α β γ:Type} (r:Res α) (f:α->Q0->Res β) (g:β->Q0->Res γ):(r.bind f).bind g=r.bind fun a st=>(f a st).bind g:=by cases r <;> rfl
theorem Acc.assoc {α β γ:Type} {mg:Str->Option Value} {E:XK} {H:Hp} {ρ:Tk} {P:γ->Q0->Hp->Tk->Prop} {r:Res α} {f:α->Q0->Res β} {g:β->Q0->Res γ} (h:Acc mg E H ρ P ((r.bind f).bind g)):Acc mg E H ρ P (r.bind fun a st=>(f a st).bind g):=by
  rw [<- Res.assoc]; exact h
theorem EnvR.le {H:Hp} {ρ:Tk} {Γ Γ':Gam} {σ:St} (h:EnvR H ρ Γ' σ) (hl:Γ.length=σ.length) (k:∀ (i:Nat) (q:PV),Γ[i]?=some (some q)->Γ'[i]?=some (some q)):EnvR H ρ Γ σ:=⟨hl,fun i p e=>h.2 i p (k i p e)⟩
section
variable {X:Cx} {E:XK} {pos:Pos} {tg iter elt:Expr} {ifs:List Expr} {N N':List Str} {sc scE:Scope} {cap:List (Option Nat)} {ga:GA} {mi:MI} {mt:MT} {me:ME}
def aE (X:Cx) (N':List Str) (sc:Scope) (e:Expr):TE:=fun σ H Q=>∀ cl C s0 H0 ex,WE (blkC X N' sc cl C s0 H0 ex) e σ H Q
def aG (X:Cx) (N':List Str) (sc:Scope) (tg:Expr):TG:=fun v σ H Q=>∀ cl C s0 H0 ex,WGx (blkC X N' sc cl C s0 H0 ex) tg v σ H Q
def aT (X:Cx) (N':List Str) (sc:Scope) (ifs:List Expr):TT:=fun σ H Q=>∀ cl C s0 H0 ex,∃ t,PTs (blkC X N' sc cl C s0 H0 ex) ifs t/\t σ H Q
theorem comp_body {Γ:Gam} {σ:St} {H1:Hp} {ρ1:Tk} {st1:Q0} {J:It} {items:List PV} {w:Wt} {Q:VK} {P:List PV->Q0->Hp->Tk->Prop} (hg:∀ cl C s0 H0 ex,SimG (blkC X N' sc cl C s0 H0 ex) tg ga) (he:∀ cl C s0 H0 ex,SimE (blkC X N' sc cl C s0 H0 ex) E0 elt me) (ht:∀ cl C s0 H0 ex,SimTs (blkC X N' sc cl C s0 H0 ex) ifs mt)
    (hf:FreeT cap ga) (R1:Rel H1 ρ1 st1) (G1:EnvR H1 ρ1 Γ σ) (src:Src J items w H1 ρ1) (hlen:items.length<=sizeLine) (h:Acc X.mg E0 H1 ρ1 P (J6 ga mt me w (Jj cap Γ) items st1))
    (k:∀ ys st2 H2 ρ2 acc vs,J6 ga mt me w (Jj cap Γ) items st1=.ok ys st2->Ext H1 ρ1 H2 ρ2->Rel H2 ρ2 st2->acc∈ρ2.hid->H1 acc=none->H2 acc=some (.lst vs)->RepL H2 ρ2 ys vs->Q (.ref acc) H2):compBodyT J cap (aG X N' sc tg) (aT X N' sc ifs) (aE X N' sc elt) σ H1 Q:=by
  intro acc hacc
  let W:Nat->Nat->List V->St->Hp->Prop:=fun i m vs σ' H'=>m=items.length - i/\i<=items.length/\vs.length<=i/\∃ ρ' st' ys,Ext H1 ρ1 H' ρ'/\acc∈ρ'.hid/\Rel H' ρ' st'/\EnvR H' ρ' (Jj cap Γ) σ'/\H' acc=some (.lst vs)/\RepL H' ρ' ys vs /\
    J6 ga mt me w (Jj cap Γ) items st1=(J6 ga mt me w (Jj cap Γ) (items.drop i) st').bind fun zs st3=>.ok (ys ++ zs) st3
  refine ⟨W,⟨_,rfl,G8 _,O4 _,ρ1.hide acc,st1,[],Ext.hide hacc,E4,R1.hide hacc,(G1.cap cap).hide hacc,Qu,rfl,?_⟩,?_⟩
  · rw [List.drop_zero]
    cases r:J6 ga mt me w (Jj cap Γ) items st1 with
    | ok zs st3=>rfl
    | exc x st3=>rfl
    | stuck=>rfl
  rintro i m vs σ' H' ⟨hm,hi,hvl,ρ',st',ys,x,hmem,R',G',ha,ry,hq⟩
  have hA:Acc X.mg E0 H1 ρ1 P ((J6 ga mt me w (Jj cap Γ) (items.drop i) st').bind fun zs st3=>.ok (ys ++ zs) st3):=by rw [<- hq]; exact h
  refine ⟨ha,?_⟩
  by_cases hlt:i < items.length
  · right
    have hd:items.drop i=items[i] :: items.drop (i + 1):=List.drop_eq_getElem_cons hlt
    rw [hd,J6] at hA hq
    by_cases hw:wOk w st'
    · rw [if_pos hw] at hA hq
      refine ⟨src.go H' _ st' x R' hw i hlt,by omega,fun y H2 hy=>?_⟩
      obtain ⟨sm,ry2⟩:=src.yld H' _ st' x R' hw i _ (O1 hlt) y H2 hy
      cases eg:ga items[i] (Jj cap Γ) with
      | none=>rw [eg] at hA; exact hA.elim
      | some Γ1=>
        rw [eg] at hA hq
        have x2:Ext H' ρ' H2 ρ':=Ext.same sm
        have R2:=R'.same sm
        intro cl C s0 H0 ex
        refine (hg cl C s0 H0 ex).run (Jj cap Γ) Γ1 σ' H2 ρ' _ y _ (G'.ext x2) ry2 eg fun σ3 G3=>?_
        intro cl C s0 H0 ex
        have hA2:=Acc.later hA (x.trans x2)
        refine (ht cl C s0 H0 ex).run Γ1 σ3 H2 ρ' st' _ _ R2 G3 (Acc.bind (Acc.assoc hA2)) fun b st4 H4 ρ4 e4 x4 R4 G4=>?_
        simp only [e4,Res.bind] at hA hq
        have G0:∀ {H'':Hp} {ρ'':Tk},EnvR H'' ρ'' Γ1 σ3->EnvR H'' ρ'' (Jj cap Γ) σ3:=fun {H'' ρ''} g=>g.le (by
          rw [<- G3.1]
          exact (hf Γ _ Γ1 eg).1.symm) (hf Γ _ Γ1 eg).2
        have x14:Ext H1 ρ1 H4 ρ4:=x.trans (x2.trans x4)
        have hm4:acc∈ρ4.hid:=x4.hidM acc hmem
        have na:acc∉ρ'.tr:=R'.ap acc hmem
        have ha4:H4 acc=some (.lst vs):=x4.keep acc _ (sm acc _ ha) na
        have ry4:RepL H4 ρ4 ys vs:=ry.ext (x2.trans x4)
        cases b with
        | false=>
          rw [if_neg D6] at hA hq ⊢
          exact ⟨_,show items.length - (i + 1) < m by omega,rfl,hlt,by omega,ρ4,st4,ys,x14,hm4,R4,G0 G4,ha4,ry4,hq⟩
        | true=>
          rw [if_pos rfl] at hA hq ⊢
          intro cl C s0 H0 ex
          have hA4:=Acc.later hA x14
          refine (he cl C s0 H0 ex).use' R4 G4 (Acc.bind (Acc.assoc hA4)) fun z st5 H5 ρ5 zv e5 x5 R5 G5 r5 h5=>?_
          simp only [e5,Res.bind] at hA hq
          have hm5:acc∈ρ5.hid:=x5.hidM acc hm4
          have ha5:H5 acc=some (.lst vs):=x5.keep acc _ ha4 (R4.ap acc hm4)
          have x15:Ext H1 ρ1 H5 ρ5:=x14.trans x5
          refine ⟨ha5,_,show items.length - (i + 1) < m by omega,rfl,hlt,by rw [E5]; simp; omega,ρ5,st5,ys ++ [z],x15.put0 hacc,hm5,R5.rehide hm5,(G0 G5).rehide hm5,Qu,((ry4.ext x5).append (RepL.cons r5 RepL.nil)).rehide hm5,?_⟩
          refine hq.trans ?_
          cases rr:J6 ga mt me w (Jj cap Γ) (items.drop (i + 1)) st5 with
          | ok zs st6=>
            show Res.ok (ys ++ z :: zs) st6=Res.ok ((ys ++ [z]) ++ zs) st6
            rw [E9]; rfl
          | exc x6 st6=>rfl
          | stuck=>rfl
    · rw [if_neg hw] at hA; exact hA.elim
  · left
    have ei:i=items.length:=by omega
    subst ei
    rw [List.drop_length,J6] at hA hq
    by_cases hw:wOk w st'
    · rw [if_pos hw] at hA hq
      refine ⟨src.stop H' _ st' x R' hw,?_⟩
      have hq:J6 ga mt me w (Jj cap Γ) items st1=.ok (ys ++ []) st':=hq
      rw [List.append_nil] at hq
      exact k ys st' H' ρ' acc vs hq x R' hmem hacc ha ry
    · rw [if_neg hw] at hA; exact hA.elim
theorem comp_run {Γ:Gam} {σ:St} {H:Hp} {ρ:Tk} {st:Q0} {Q:VK} {P:List PV->Q0->Hp->Tk->Prop} (hi:SimI X E tg iter mi) (hg:∀ cl C s0 H0 ex,SimG (blkC X N' sc cl C s0 H0 ex) tg ga) (he:∀ cl C s0 H0 ex,SimE (blkC X N' sc cl C s0 H0 ex) E0 elt me) (ht:∀ cl C s0 H0 ex,SimTs (blkC X N' sc cl C s0 H0 ex) ifs mt)
    (hf:FreeT cap ga) (R:Rel H ρ st) (G:EnvR H ρ Γ σ) (h:Acc X.mg E H ρ P (Z4 cap ga mi mt me Γ st)) (k:∀ ps st2 H2 ρ2 a vs,Z4 cap ga mi mt me Γ st=.ok ps st2->Ext H ρ H2 ρ2->Rel H2 ρ2 st2->a∈ρ2.hid->H a=none->H2 a=some (.lst vs)->RepL H2 ρ2 ps vs->Q (.ref a) H2):tCompT cap (WI X tg iter) (aG X N' sc tg) (aT X N' sc ifs) (aE X N' sc elt) σ H Q:=by
  refine hi.run Γ σ H ρ st _ _ R G h.bind fun iw st1 H1 ρ1 J eq x1 R1 G1 ok hl src h1=>?_
  refine comp_body hg he ht hf R1 G1 src hl (acc_noX (E':=E0) h1) fun ys st2 H2 ρ2 acc vs eq2 x2 R2 hm hn ha ry=>?_
  refine k ys st2 H2 ρ2 acc vs ?_ (x1.trans x2) R2 hm ?_ ha ry
  · unfold Z4
    rw [eq]
    show noX _=_
    rw [eq2]; rfl
  cases e:H acc with
  | none=>rfl
  | some o=>
    obtain ⟨o',e'⟩:=x1.old acc o e
    rw [hn] at e'; cases e'
theorem pg_a {N':List Str} {sc:Scope} {tg:Expr}:∀ cl C s0 H0 ex,PG (blkC X N' sc cl C s0 H0 ex) tg (aG X N' sc tg):=fun cl C s0 H0 ex pins s σ H v u Q I r h=>pg_x pins s σ H v u Q I r (h cl C s0 H0 ex)
theorem pe_a {N':List Str} {sc:Scope} {e:Expr}:∀ cl C s0 H0 ex,PE (blkC X N' sc cl C s0 H0 ex) e (aE X N' sc e):=fun cl C s0 H0 ex pins s σ H Q I h=>h cl C s0 H0 ex pins s I
theorem pts_a {N':List Str} {sc:Scope} {ifs:List Expr}:∀ cl C s0 H0 ex,PTs (blkC X N' sc cl C s0 H0 ex) ifs (aT X N' sc ifs):=fun cl C s0 H0 ex pins s σ H Q I h=>by
  obtain ⟨t,a,b⟩:=h cl C s0 H0 ex
  exact a pins s σ H Q I b
theorem sn_comp (cap:List (Option Nat)) (N':List Str) (hcalm:X.calm=true) (hi:SimI X E tg iter mi) (hg:∀ cl C s0 H0 ex,SimG (blkC X N' sc cl C s0 H0 ex) tg ga) (he:∀ cl C s0 H0 ex,SimE (blkC X N' sc cl C s0 H0 ex) E0 elt me) (ht:∀ cl C s0 H0 ex,SimTs (blkC X N' sc cl C s0 H0 ex) ifs mt)
    (hf:FreeT cap ga) (hN:X.N=N:=by rfl) (hE:X.env.scope=scE:=by rfl) (hc:compOkC N N' sc scE cap=true:=by kernel_rfl) (hs:∀ x,foldedSetIterable iter X.env x=pure x:=by intro _; rfl) :
    SimN X E (.ListComp elt [⟨tg,iter,ifs,0⟩] sc pos) (Z4 cap ga mi mt me):=
  ⟨fun Γ σ H ρ st P Q R G h k=>WE.of (pe_compT hcalm pi_w pg_a pe_a pts_a hN hE hc hs) (comp_run hi hg he ht hf R G h k)⟩
end
end Sm
namespace Sm
open PySem PySem.Spec L2
inductive SR where
  | nx (Γ:Gam) (st:Q0) | rt (v:PV) (st:Q0) | bk (Γ:Gam) (st:Q0) | ct (Γ:Gam) (st:Q0) | exc (x:Exc) (st:Q0) | stuck
abbrev MS:=Gam->Q0->SR
def Res.sbind {α:Type} (r:Res α) (f:α->Q0->SR):SR:=match r with
  | .ok a st=>f a st
  | .exc x st=>.exc x st
  | .stuck=>.stuck
def AccS (mg:Str->Option Value) (E:XK) (D:Ends) (H:Hp) (ρ:Tk):SR->Prop
  | .nx Γ st=>∀ σ' H' ρ',Ext H ρ H' ρ'->Rel H' ρ' st->EnvR H' ρ' Γ σ'->D.nx σ' H'
  | .bk Γ st=>∀ σ' H' ρ',Ext H ρ H' ρ'->Rel H' ρ' st->EnvR H' ρ' Γ σ'->D.bk σ' H'
  | .ct Γ st=>∀ σ' H' ρ',Ext H ρ H' ρ'->Rel H' ρ' st->EnvR H' ρ' Γ σ'->D.ct σ' H'
  | .rt p st=>∀ v H' ρ',Ext H ρ H' ρ'->Rel H' ρ' st->Rep H' ρ' p v->D.rt v H'
  | .exc x st=>∀ C dv H' ρ',mg x.cls=some (.ref C)->Ext H ρ H' ρ'->Rel H' ρ' st->XFs H' ρ' x.fs dv->E (.ref C) dv H'
  | .stuck=>False
section
variable {α:Type} {mg:Str->Option Value} {E:XK} {D:Ends} {H H1:Hp} {ρ ρ1:Tk}
theorem AccS.later {r:SR} (h:AccS mg E D H ρ r) (x:Ext H ρ H1 ρ1):AccS mg E D H1 ρ1 r:=by
  cases r with
  | nx Γ st=>exact fun σ' H' ρ' x'=>h σ' H' ρ' (x.trans x')
  | bk Γ st=>exact fun σ' H' ρ' x'=>h σ' H' ρ' (x.trans x')
  | ct Γ st=>exact fun σ' H' ρ' x'=>h σ' H' ρ' (x.trans x')
  | rt p st=>exact fun v H' ρ' x'=>h v H' ρ' (x.trans x')
  | exc y st=>exact fun C dv H' ρ' m x'=>h C dv H' ρ' m (x.trans x')
  | stuck=>exact h
theorem AccS.bind {r:Res α} {f:α->Q0->SR} (h:AccS mg E D H ρ (r.sbind f)):Acc mg E H ρ (fun a st1 H1 ρ1=>AccS mg E D H1 ρ1 (f a st1)) r:=by
  cases r with
  | ok a st=>exact fun H' ρ' x' R'=>AccS.later (show AccS mg E D H ρ (f a st) from h) x'
  | exc e st=>exact h
  | stuck=>exact h
end
structure SimS (X:Cx) (E:XK) (s:Stmt) (m:MS):Prop where
  run:∀ (Γ:Gam) (σ:St) (H:Hp) (ρ:Tk) (st:Q0) (D:Ends),Rel H ρ st->EnvR H ρ Γ σ->AccS X.mg E D H ρ (m Γ st)->WS X s D σ H
structure SimB (X:Cx) (E:XK) (ss:List Stmt) (m:MS):Prop where
  run:∀ (Γ:Gam) (σ:St) (H:Hp) (ρ:Tk) (st:Q0) (D:Ends),Rel H ρ st->EnvR H ρ Γ σ->AccS X.mg E D H ρ (m Γ st)->WB X ss D σ H
section
variable {X:Cx} {E:XK} {pos:Pos} {e:Expr} {m:ME}
def Qp:MS:=fun Γ st=>.nx Γ st
def Qb (m1 m2:MS):MS:=fun Γ st=>match m1 Γ st with
  | .nx Γ1 st1=>m2 Γ1 st1
  | r=>r
theorem sb_nil:SimB X E [] Qp:=⟨fun Γ σ H ρ st D R G h=>WB.of pss_nil (h σ H ρ (Ext.refl _ _) R G)⟩
theorem sb_cons {s:Stmt} {rest:List Stmt} {m1 m2:MS} (h1:SimS X E s m1) (h2:SimB X E rest m2):SimB X E (s :: rest) (Qb m1 m2):=
  ⟨fun Γ σ H ρ st D R G h=>WB.of (pss_cons ps_w pss_w) (h1.run Γ σ H ρ st _ R G (by
    unfold Qb at h
    cases r:m1 Γ st with
    | nx Γ1 st1=>rw [r] at h; exact fun σ' H' ρ' x' R' G'=>h2.run Γ1 σ' H' ρ' st1 D R' G' (AccS.later h x')
    | bk Γ1 st1=>rw [r] at h; exact h
    | ct Γ1 st1=>rw [r] at h; exact h
    | rt p st1=>rw [r] at h; exact h
    | exc x st1=>rw [r] at h; exact h
    | stuck=>rw [r] at h; exact h))⟩
theorem sb_one {s:Stmt} {m1:MS} (h1:SimS X E s m1):SimB X E [s] m1:=⟨fun Γ σ H ρ st D R G h=>WB.of (pss_one ps_w) (h1.run Γ σ H ρ st D R G h)⟩
def mBreak:MS:=fun Γ st=>.bk Γ st
theorem ss_break:SimS X E (.Break pos) mBreak:=⟨fun Γ σ H ρ st D R G h=>WS.of ps_break (h σ H ρ (Ext.refl _ _) R G)⟩
def mExpr (m:ME):MS:=fun Γ st=>(m Γ st).sbind fun _ st1=>.nx Γ st1
theorem ss_expr (he:SimE X E e m) (hs:swapsWith e none pos.line X.env=pure false:=by rfl):SimS X E (.Expr e pos) (mExpr m):=
  ⟨fun Γ σ H ρ st D R G h=>WS.of (ps_expr Zs hs) (he.use R G h.bind fun p st1 H1 ρ1 v x1 R1 G1 r1 h1=>h1 σ H1 ρ1 (Ext.refl _ _) R1 G1)⟩
def Qw (m:ME):MS:=fun Γ st=>(m Γ st).sbind fun p st1=>.rt p st1
theorem ss_ret (he:SimE X E e m):SimS X E (.Return (some e) pos) (Qw m):=
  ⟨fun Γ σ H ρ st D R G h=>WS.of (ps_ret Zs) (he.use R G h.bind fun p st1 H1 ρ1 v x1 R1 G1 r1 h1=>h1 v H1 ρ1 (Ext.refl _ _) R1 r1)⟩
def J7 (i:Nat) (m:ME):MS:=fun Γ st=>(m Γ st).sbind fun p st1=>.nx (Γ.set i (some p)) st1
theorem ss_set (i:Nat) {x:Str} {pos':Pos} (hN:X.N.Nodup) (he:SimE X E e m) (hi:X.N[i]?=some x:=by rfl) (hx:Loc X.env.scope x:=by first | exact Or.inl rfl | exact Or.inr rfl) (hs:swapsWith e (some (.Name x pos')) pos.line X.env=pure false:=by rfl) (hf:X.fn x=true\/X.env.scope.names.lookup x=some .local:=by first | exact .inl rfl | exact .inr rfl) :
    SimS X E (.Assign [.Name x pos'] e pos) (J7 i m):=
  ⟨fun Γ σ H ρ st D R G h=>WS.of (ps_set hN hi hx Zs hs hf) (he.use R G h.bind fun p st1 H1 ρ1 v x1 R1 G1 r1 h1=>h1 _ H1 ρ1 (Ext.refl _ _) R1 (G1.set r1 i))⟩
section
variable {tg iter elt:Expr} {ifs:List Expr} {N N':List Str} {sc scE:Scope} {ga:GA} {mi:MI} {mt:MT} {me:ME}
end
def setIx (st:Q0) (o i p:PV):Option Q0:=match o,i with
  | .ref k,.int j=>match st[k]? with
    | some (.lst xs)=>(ixN xs.length j).map fun n=>st.set k (.lst (xs.set n p))
    | _=>none
  | _,_=>none
def mSetIx (mo mi m:ME):MS:=fun Γ st=>(m Γ st).sbind fun p st1=>(mo Γ st1).sbind fun o st2=>(mi Γ st2).sbind fun i st3=>match setIx st3 o i p with
  | some st4=>.nx Γ st4
  | none=>.stuck
theorem set_run {H:Hp} {ρ:Tk} {st st':Q0} {o i p:PV} {x y z:V} (R:Rel H ρ st) (ro:Rep H ρ o x) (ri:Rep H ρ i y) (rp:Rep H ρ p z) (e:setIx st o i p=some st') :
    ∃ a vs k j,x=.ref a/\y=.int k/\H a=some (.lst vs)/\ixN vs.length k=some j/\Ext H ρ (upd H a (.lst (vs.set j z))) ρ/\Rel (upd H a (.lst (vs.set j z))) ρ st':=by
  unfold setIx at e
  split at e
  · rename_i k j
    split at e
    · rename_i xs hs
      cases ej:ixN xs.length j with
      | none=>rw [ej] at e; cases e
      | some n=>
        rw [ej] at e
        have e:st.set k (.lst (xs.set n p))=st':=Option.some.inj e
        subst e
        obtain ⟨a,ea,rfl⟩:=ro
        cases ri
        obtain ⟨b,vs,f1,f2,f3⟩:=R.lst hs
        rw [ea] at f1; cases f1
        exact ⟨a,vs,j,n,rfl,rfl,f2,by rw [<- f3.length]; exact ej,Ext.put (F9 ea) f2,R.put ea f2 (f3.set rp n)⟩
    · cases e
  · cases e
theorem ss_sub {o i:Expr} {mo mi:ME} {tpos:Pos} (he:SimE X E e m) (ho:SimE X E o mo) (hi:SimE X E i mi)
    (ha:∀ v,assign (.Subscript o i tpos) X.env v=(do
      let ov <- holding [v] (eval o X.env)
      let iv <- holding [v,ov] (eval i X.env)
      standAt tpos
      holding [v,ov,iv] (setItem ov iv v)
      release [v,ov,iv] []):=by intro _; rfl)
    (hs:swapsWithSole [.Subscript o i tpos] e pos.line X.env=pure false:=by rfl) (hw:swappedStores [.Subscript o i tpos] e X.env=pure none:=by rfl) (h1:(assignEach [.Subscript o i tpos] X.env).map (·.2)=[assign (.Subscript o i tpos) X.env]:=by rfl) :
    SimS X E (.Assign [.Subscript o i tpos] e pos) (mSetIx mo mi m):=
  ⟨fun Γ σ H ρ st D R G h=>WS.of (ps_asg Zs (pg_sub Zs Zs set_list ha) hs hw h1) (he.use R G h.bind fun p st1 H1 ρ1 z x1 R1 G1 r1 h1=>ho.use R1 G1 h1.bind fun ov st2 H2 ρ2 x x2 R2 G2 r2 h2=>hi.use R2 G2 h2.bind fun iv st3 H3 ρ3 y x3 R3 G3 r3 h3=>by
    cases es:setIx st3 ov iv p with
    | none=>rw [es] at h3; exact h3.elim
    | some st4=>
      rw [es] at h3
      obtain ⟨a,vs,k,j,rfl,rfl,f1,f2,x4,R4⟩:=set_run R3 (r2.ext x3) r3 (r1.ext (x2.trans x3)) es
      exact ⟨a,vs,k,j,rfl,rfl,f1,f2,h3 σ _ ρ3 x4 R4 (G3.ext x4)⟩)⟩
def Ja (mt:MT) (ma mb:MS):MS:=fun Γ st=>(mt Γ st).sbind fun b st1=>if b=true then ma Γ st1 else mb Γ st1
theorem ss_if {c:Expr} {a b:List Stmt} {mt:MT} {ma mb:MS} (hc:SimT X E c mt) (ha:SimB X E a ma) (hb:SimB X E b mb):SimS X E (.If c a b pos) (Ja mt ma mb):=
  ⟨fun Γ σ H ρ st D R G h=>WS.of (ps_if pt_w pss_w pss_w) (hc.use R G h.bind fun k st1 H1 ρ1 x1 R1 G1 h1=>by
    cases k with
    | true=>rw [if_pos rfl] at h1 ⊢; exact ha.run Γ σ H1 ρ1 st1 D R1 G1 h1
    | false=>rw [if_neg D6] at h1 ⊢; exact hb.run Γ σ H1 ρ1 st1 D R1 G1 h1)⟩
open Classical in
def forG (ga:GA) (body:MS) (w:Wt):List PV->Gam->Q0->SR
  | [],Γ,st=>if wOk w st then .nx Γ st else .stuck
  | x :: xs,Γ,st=>if wOk w st then (match ga x Γ with
    | none=>.stuck
    | some Γ1=>match body Γ1 st with
      | .nx Γ2 st2=>forG ga body w xs Γ2 st2
      | .ct Γ2 st2=>forG ga body w xs Γ2 st2
      | .bk Γ2 st2=>.nx Γ2 st2
      | .rt v st2=>.rt v st2
      | .exc x st2=>.exc x st2
      | .stuck=>.stuck) else .stuck
def mFor (ga:GA) (mi:MI) (body:MS):MS:=fun Γ st=>(mi Γ st).sbind fun iw st1=>forG ga body iw.2 iw.1 Γ st1
theorem ss_for {tg iter:Expr} {bd:List Stmt} {ga:GA} {mi:MI} {body:MS} (hp:PassesOwn (model X.prog X.w) X.A X.env X.xe) (hc:X.calm=true) (hi:SimI X E tg iter mi) (hg:SimG X tg ga) (hb:SimB X E bd body)
    (hs:∀ x,foldedSetIterable iter X.env x=pure x:=by intro _; rfl):SimS X E (.For tg iter bd [] pos) (mFor ga mi body):=
  ⟨fun Γ σ H ρ st D R G h=>WS.of (ps_for hp hc pi_w pg_x pss_w hs) (hi.run Γ σ H ρ st _ _ R G h.bind fun iw st1 H1 ρ1 J eq x1 R1 G1 ok hl src h1=>by
    let W:Nat->Nat->St->Hp->Prop:=fun i m σ' H'=>m=iw.1.length - i/\i<=iw.1.length/\∃ Γ' ρ' st',Ext H1 ρ1 H' ρ'/\Rel H' ρ' st'/\EnvR H' ρ' Γ' σ'/\AccS X.mg E D H' ρ' (forG ga body iw.2 (iw.1.drop i) Γ' st')
    refine ⟨W,⟨_,rfl,G8 _,Γ,ρ1,st1,Ext.refl _ _,R1,G1,by rw [List.drop_zero]; exact h1⟩,?_⟩
    rintro i m σ' H' ⟨hm,hi',Γ',ρ',st',x,R',G',hA⟩
    by_cases hlt:i < iw.1.length
    · right
      have hd:iw.1.drop i=iw.1[i] :: iw.1.drop (i + 1):=List.drop_eq_getElem_cons hlt
      rw [hd,forG] at hA
      by_cases hw:wOk iw.2 st'
      · rw [if_pos hw] at hA
        refine ⟨src.go H' ρ' st' x R' hw i hlt,fun σ2 H2=>W (i + 1) (iw.1.length - (i + 1)) σ2 H2,fun σ2 H2 z=>⟨_,by omega,z⟩,fun y H2 hy=>?_⟩
        obtain ⟨sm,ry⟩:=src.yld H' ρ' st' x R' hw i _ (O1 hlt) y H2 hy
        have x2:Ext H' ρ' H2 ρ':=Ext.same sm
        cases eg:ga iw.1[i] Γ' with
        | none=>rw [eg] at hA; exact hA.elim
        | some Γ1=>
          rw [eg] at hA
          refine hg.run Γ' Γ1 σ' H2 ρ' _ y _ (G'.ext x2) ry eg fun σ3 G3=>?_
          have hA2:=AccS.later hA x2
          simp only at hA2
          refine hb.run Γ1 σ3 H2 ρ' st' _ (R'.same sm) G3 ?_
          have again:∀ {Γ2:Gam} {st2:Q0},AccS X.mg E D H2 ρ' (forG ga body iw.2 (iw.1.drop (i + 1)) Γ2 st2)->∀ σ' H'' ρ'',Ext H2 ρ' H'' ρ''->Rel H'' ρ'' st2->EnvR H'' ρ'' Γ2 σ'->W (i + 1) (iw.1.length - (i + 1)) σ' H'':=fun {Γ2 st2} a σ4 H4 ρ4 x4 R4 G4=>
            ⟨rfl,hlt,Γ2,ρ4,st2,x.trans (x2.trans x4),R4,G4,AccS.later a x4⟩
          cases rb:body Γ1 st' with
          | nx Γ2 st2=>rw [rb] at hA2; exact again hA2
          | ct Γ2 st2=>rw [rb] at hA2; exact again hA2
          | bk Γ2 st2=>rw [rb] at hA2; exact hA2
          | rt v st2=>rw [rb] at hA2; exact hA2
          | exc y st2=>rw [rb] at hA2; exact hA2
          | stuck=>rw [rb] at hA2; exact hA2.elim
      · rw [if_neg hw] at hA; exact hA.elim
    · left
      have ei:i=iw.1.length:=by omega
      subst ei
      rw [List.drop_length,forG] at hA
      by_cases hw:wOk iw.2 st'
      · rw [if_pos hw] at hA
        exact ⟨src.stop H' ρ' st' x R' hw,hA σ' H' ρ' (Ext.refl _ _) R' G'⟩
      · rw [if_neg hw] at hA; exact hA.elim)⟩
def mRaise (x:Str) (m:ME):MS:=fun Γ st=>(m Γ st).sbind fun _ st1=>.exc ⟨x,none⟩ st1
theorem ss_raise {x:Str} {C:Addr} {np cpos:Pos} (hcalm:X.calm=true) (RO:RaiseD X E) (hg:Gl X x) (hm:X.mg x=some (.ref C)) (q:PySem.W.excIn X.K C bmVE "ValueError.__new__" = true) (he:SimE X E e m)
    (hdb:(x == ("__debug__" : Str))=false:=by decide) (hst:starEach [e] X.env=[(false,eval e X.env)]:=by rfl):SimS X E (.Raise (some (.Call (.Name x np) [e] [] cpos)) none pos) (mRaise x m):=
  ⟨fun Γ σ H ρ st D R G h=>WS.of (ps_raiseD hcalm RO hg hm q (pa_cons Zs pa_nil (by rw [hst]; rfl)) hdb hst) (he.use R G h.bind fun p st1 H1 ρ1 v x1 R1 G1 r1 h1=>⟨D3 (show 1<=lim by decide) lim_le,h1 C none H1 ρ1 hm (Ext.refl _ _) R1 rfl⟩)⟩
end
end Sm
namespace Sm
open PySem PySem.Spec L2
def WM (X:Cx) (id:String):V->List V->Hp->VK->Prop:=fun x xs H Q=>∀ (pins:List (Addr × Obj)) (s:Shared) (σ:St) (v:Value) (us:List Value),Inv X pins σ H s->RelV x v->Vals xs us->wpAny (model X.prog X.w) X.A (call (.builtin id) (v :: us)) (EP X pins σ Q) X.xe s
theorem mt_w {X:Cx} {id:String}:MtR X id (WM X id):=fun pins s σ _ _ _ v us _ I r rs h=>h pins s σ v us I r rs
theorem WM.of {X:Cx} {id:String} {r:V->List V->Hp->VK->Prop} {x:V} {xs:List V} {H:Hp} {Q:VK} (h:MtR X id r) (q:r x xs H Q):WM X id x xs H Q:=fun pins s σ v us I r1 r2=>h pins s σ H x xs v us Q I r1 r2 q
abbrev MF:=Q0->PV->List PV->Res PV
structure MtS (X:Cx) (E:XK) (id:String) (o:MF):Prop where
  run:∀ (H:Hp) (ρ:Tk) (st:Q0) (p:PV) (ps:List PV) (x:V) (xs:List V) (Q:VK),Rel H ρ st->Rep H ρ p x->RepL H ρ ps xs->Acc X.mg E H ρ (QV Q) (o st p ps)->WM X id x xs H Q
section
variable {X:Cx} {E:XK} {o e:Expr} {es:List Expr} {mo:ME} {mr:Gam->Q0->Res (List PV)} {name:Str} {apos cpos:Pos} {T id:String} {f:MF}
def mBM (f:MF) (mo:ME) (mr:Gam->Q0->Res (List PV)):ME:=fun Γ st=>(mo Γ st).bind fun p st1=>match listOf st1 p with
  | some _=>(mr Γ st1).bind fun ps st2=>f st2 p ps
  | none=>.stuck
theorem se_bm (pa:PlainAttrs "list") (slot:Slot "list" name id) (hty:typeOf (.builtin id)=pure (.type "method_descriptor")) (hm:MtS X E id f) (ho:SimE X E o mo) (ha:SimA X E (e :: es) mr)
    (hbase:attributeBase o name X.env (eval o X.env)=eval o X.env:=by rfl)
    (hfew:((backTo cpos (starEach (e :: es) X.env)).all (fun x=>!x.1) && (backToKw cpos (keywordEach [] X.env)).all (fun x=>x.1.isSome)
      && decide ((e :: es).length + ([]:List Keyword).length + (if ([]:List Keyword).isEmpty then 0 else 1) < 30))=true:=by rfl)
    (hline:(apos.endLine == cpos.line)=true:=by rfl) (hs:starEach (e :: es) X.env=(false,eval e X.env) :: starEach es X.env:=by rfl) (hplain:(backTo cpos (starEach es X.env)).any (·.1)=false:=by rfl) :
    SimE X E (.Call (.Attribute o name apos) (e :: es) [] cpos) (mBM f mo mr):=
  ⟨fun Γ σ H ρ st Q R G h=>WE.of (pe_bm pa slot hty mt_w Zs pa_w hbase hfew hline hs hplain) (ho.use R G h.bind fun p st1 H1 ρ1 v x1 R1 G1 r1 h1=>by
    split at h1
    · rename_i ys el
      obtain ⟨a,vs,rfl,hr,_⟩:=list_at R1 r1 el
      exact ⟨.inl ⟨rfl,vs,.inl hr⟩,ha.use R1 G1 h1.bind fun ps st2 H2 ρ2 us x2 R2 G2 r2 h2=>hm.run H2 ρ2 st2 p ps _ us Q R2 (r1.ext x2) r2 h2⟩
    · exact h1.elim)⟩
def chg (st:Q0) (p:PV) (g:List PV->Option (PV × List PV)):Res PV:=match p with
  | .ref i=>match st[i]? with
    | some (.lst xs)=>match g xs with
      | some (r,ys)=>.ok r (st.set i (.lst ys))
      | none=>.stuck
    | _=>.stuck
  | _=>.stuck
theorem chg_run {mg:Str->Option Value} {H:Hp} {ρ:Tk} {st:Q0} {p:PV} {x:V} {g:List PV->Option (PV × List PV)} {Q:VK} (R:Rel H ρ st) (rp:Rep H ρ p x) (h:Acc mg E H ρ (QV Q) (chg st p g)) :
    ∃ a xs vs r ys,x=.ref a/\H a=some (.lst vs)/\RepL H ρ xs vs/\g xs=some (r,ys)/\∀ us v,RepL H ρ ys us->Rep H ρ r v->Q v (upd H a (.lst us)):=by
  unfold chg at h
  split at h
  · rename_i i
    split at h
    · rename_i xs hs
      split at h
      · rename_i r ys hg
        obtain ⟨a,ea,rfl⟩:=rp
        obtain ⟨b,vs,f1,f2,f3⟩:=R.lst hs
        rw [ea] at f1; cases f1
        refine ⟨a,xs,vs,r,ys,rfl,f2,f3,hg,fun us v ru rv=>?_⟩
        have x:=Ext.put (o':=.lst us) (F9 ea) f2
        exact h _ ρ x (R.put ea f2 ru) v (rv.ext x)
      · exact h.elim
    · exact h.elim
  · exact h.elim
def mtAppend:MF:=fun st p ps=>match ps with
  | [y]=>chg st p fun xs=>if xs.length < lim then some (.non,xs ++ [y]) else none
  | _=>.stuck
def mtExtend:MF:=fun st p ps=>match ps with
  | [q]=>match lstOf st q with
    | some ys=>chg st p fun xs=>if xs.length + ys.length<=lim then some (.non,xs ++ ys) else none
    | none=>.stuck
  | _=>.stuck
theorem ms_extend:MtS X E "list.extend" mtExtend:=⟨fun H ρ st p ps x xs Q R rp rs h=>by
  unfold mtExtend at h
  split at h
  · obtain ⟨v,rfl,r⟩:=Zi rs
    split at h
    · rename_i ws ew
      obtain ⟨b,us,rfl,hb,rb⟩:=lst_at R r ew
      obtain ⟨a,ys,vs,r0,zs,rfl,f1,f2,f3,k⟩:=chg_run R rp h
      split at f3
      · rename_i hl
        cases f3
        exact WM.of mt_extend ⟨a,b,vs,us,rfl,rfl,f1,hb,by rw [<- f2.length,<- rb.length]; exact le_lim hl,k _ _ (f2.append rb) rfl⟩
      · cases f3
    · exact h.elim
  · exact h.elim⟩
theorem se_extend (ho:SimE X E o mo) (ha:SimA X E [e] mr) (hbase:attributeBase o "extend" X.env (eval o X.env)=eval o X.env:=by rfl)
    (hfew:((backTo cpos (starEach [e] X.env)).all (fun x=>!x.1) && (backToKw cpos (keywordEach [] X.env)).all (fun x=>x.1.isSome) && decide ([e].length + ([]:List Keyword).length + (if ([]:List Keyword).isEmpty then 0 else 1) < 30))=true:=by rfl)
    (hline:(apos.endLine == cpos.line)=true:=by rfl) (hs:starEach [e] X.env=(false,eval e X.env) :: starEach [] X.env:=by rfl):SimE X E (.Call (.Attribute o "extend" apos) [e] [] cpos) (mBM mtExtend mo mr):=
  se_bm PySem.F.plainAttrs_list PySem.F.slot_list_extend PySem.F.type_list_extend ms_extend ho ha hbase hfew hline hs
end
end Sm
namespace Sm
open PySem PySem.Spec L2
mutual
def fz (n:Nat) (st:Q0):Nat->PV->Option PV
  | 0,_=>none
  | _ + 1,.non=>some .non
  | _ + 1,.bl b=>some (.bl b)
  | _ + 1,.int i=>some (.int i)
  | _ + 1,.str x=>some (.str x)
  | k + 1,.tup xs=>(fzL n st k xs).map .tup
  | k + 1,.lst xs=>(fzL n st k xs).map .lst
  | k + 1,.fro xs=>(fzL n st k xs).map .fro
  | _ + 1,.dic=>some .dic
  | k + 1,.ref i=>if i < n then some (.ref i) else match st[i]? with
    | some (.lst xs)=>(fzL n st k xs).map .lst
    | _=>none
def fzL (n:Nat) (st:Q0):Nat->List PV->Option (List PV)
  | _,[]=>some []
  | k,x :: xs=>(fz n st k x).bind fun y=>(fzL n st k xs).map (y :: ·)
end
theorem fz_good {n:Nat} {st:Q0}:∀ {m k:Nat} {p:PV},Jd m p=true->m < k->fz n st k p=some p:=by
  intro m
  induction m with
  | zero=>
    intro k p g hk
    obtain ⟨k,rfl⟩:∃ j,k=j + 1:=⟨k - 1,by omega⟩
    cases p with
    | tup _=>cases g
    | lst _=>cases g
    | fro _=>cases g
    | ref _=>cases g
    | dic=>cases g
    | _=>rw [fz]
  | succ m ih=>
    intro k p g hk
    obtain ⟨k,rfl⟩:∃ j,k=j + 1:=⟨k - 1,by omega⟩
    have hL:∀ xs:List PV,xs.all (Jd m)=true->fzL n st k xs=some xs:=by
      intro xs
      induction xs with
      | nil=>intro _; rw [fzL]
      | cons x xs ihx=>
        intro g
        rw [List.all_cons,L0] at g
        rw [fzL,ih g.1 (by omega),ihx g.2]; rfl
    cases p with
    | tup xs=>rw [fz,hL xs g]; rfl
    | lst xs=>rw [fz,hL xs g]; rfl
    | fro xs=>rw [fz,hL xs g]; rfl
    | ref _=>cases g
    | dic=>cases g
    | _=>rw [fz]
section
variable {H:Hp} {ρ:Tk} {st:Q0} {tr0 rest hs:List Addr}
theorem fz_rep (R:Rel H ρ st) (ht:ρ.tr=tr0 ++ rest) (hh:∀ a,a∈hs->a∈ρ.hid):∀ (k:Nat) {p p':PV} {v:V},Rep H ρ p v->fz tr0.length st k p=some p'->Rep H ⟨tr0,hs⟩ p' v:=by
  have out:∀ a,a∉ρ->a∉(⟨tr0,hs⟩:Tk):=fun a n z=>by
    rcases z with z | z
    · exact n (.inl (by rw [ht]; exact E3 _ z))
    · exact n (.inr (hh a z))
  intro k
  induction k with
  | zero=>intro p p' v r e; rw [fz] at e; cases e
  | succ k ih=>
    have hL:∀ {ps ps':List PV} {vs:List V},RepL H ρ ps vs->fzL tr0.length st k ps=some ps'->RepL H ⟨tr0,hs⟩ ps' vs:=by
      intro ps
      induction ps with
      | nil=>intro ps' vs r e; rw [fzL] at e; cases e; exact r
      | cons x xs ihx=>
        intro ps' vs r e
        obtain ⟨v,t,rfl,r1,r2⟩:=r
        rw [fzL] at e
        cases e1:fz tr0.length st k x with
        | none=>rw [e1] at e; cases e
        | some y=>
          rw [e1] at e
          have e:(fzL tr0.length st k xs).map (y :: ·)=some ps':=e
          cases e2:fzL tr0.length st k xs with
          | none=>rw [e2] at e; cases e
          | some ys=>
            rw [e2] at e
            cases e
            exact ⟨v,t,rfl,ih r1 e1,ihx r2 e2⟩
    intro p p' v r e
    cases p with
    | non=>rw [fz] at e; cases e; exact r
    | bl b=>rw [fz] at e; cases e; exact r
    | int i=>rw [fz] at e; cases e; exact r
    | str x=>rw [fz] at e; cases e; exact r
    | tup xs=>
      rw [fz] at e
      obtain ⟨a,vs,e1,ha,na,ra⟩:=r
      cases e2:fzL tr0.length st k xs with
      | none=>rw [e2] at e; cases e
      | some ys=>rw [e2] at e; cases e; exact ⟨a,vs,e1,ha,out a na,hL ra e2⟩
    | lst xs=>
      rw [fz] at e
      obtain ⟨a,vs,e1,ha,na,ra⟩:=r
      cases e2:fzL tr0.length st k xs with
      | none=>rw [e2] at e; cases e
      | some ys=>rw [e2] at e; cases e; exact ⟨a,vs,e1,ha,out a na,hL ra e2⟩
    | fro xs=>
      rw [fz] at e
      obtain ⟨a,vs,e1,ha,na,ra⟩:=r
      cases e2:fzL tr0.length st k xs with
      | none=>rw [e2] at e; cases e
      | some ys=>rw [e2] at e; cases e; exact ⟨a,vs,e1,ha,out a na,hL ra e2⟩
    | dic=>
      rw [fz] at e
      cases e
      obtain ⟨a,e1,ha,na⟩:=r
      exact ⟨a,e1,ha,out a na⟩
    | ref i=>
      rw [fz] at e
      obtain ⟨a,ea,rfl⟩:=r
      by_cases hi:i < tr0.length
      · rw [if_pos hi] at e
        cases e
        rw [ht,D2 hi] at ea
        exact ⟨a,ea,rfl⟩
      · rw [if_neg hi] at e
        split at e
        · rename_i xs hs'
          obtain ⟨b,vs,f1,f2,f3⟩:=R.lst hs'
          rw [ea] at f1; cases f1
          cases e2:fzL tr0.length st k xs with
          | none=>rw [e2] at e; cases e
          | some ys=>
            rw [e2] at e; cases e
            refine ⟨a,vs,rfl,f2,fun z=>?_,hL f3 e2⟩
            rcases z with z | z
            · have z:a∈tr0:=z
              obtain ⟨j,hj,ej⟩:=List.getElem_of_mem z
              have g1:ρ.tr[j]?=some a:=by rw [ht,D2 hj,O1 hj,ej]
              have l1:=O3.mp g1
              have l2:=O3.mp ea
              have:=nodup_inj R.nd l1.1 l2.1 (l1.2.trans l2.2.symm)
              omega
            · exact R.ap a (hh a z) (F9 ea)
        · cases e
mutual
def bel (n:Nat):PV->Prop
  | .tup xs=>belL n xs
  | .lst xs=>belL n xs
  | .fro xs=>belL n xs
  | .ref i=>i < n
  | _=>True
def belL (n:Nat):List PV->Prop
  | []=>True
  | x :: xs=>bel n x/\belL n xs
end
mutual
theorem Rep.bel:∀ {p:PV} {v:V},Rep H ρ p v->bel ρ.tr.length p
  | .non,_,_=>by simp [Sm.bel]
  | .bl _,_,_=>by simp [Sm.bel]
  | .int _,_,_=>by simp [Sm.bel]
  | .str _,_,_=>by simp [Sm.bel]
  | .tup ps,_,⟨_,_,_,_,_,r⟩=>by rw [Sm.bel]; exact RepL.bel r
  | .lst ps,_,⟨_,_,_,_,_,r⟩=>by rw [Sm.bel]; exact RepL.bel r
  | .fro ps,_,⟨_,_,_,_,_,r⟩=>by rw [Sm.bel]; exact RepL.bel r
  | .ref i,_,⟨_,e,_⟩=>by rw [Sm.bel]; exact (O3.mp e).1
  | .dic,_,_=>by simp [Sm.bel]
theorem RepL.bel:∀ {ps:List PV} {vs:List V},RepL H ρ ps vs->belL ρ.tr.length ps
  | [],_,_=>by simp [belL]
  | p :: ps,_,⟨_,_,_,r1,r2⟩=>by rw [belL]; exact ⟨Rep.bel r1,RepL.bel r2⟩
end
mutual
theorem Rep.less (ht:ρ.tr=tr0 ++ rest) (hh:∀ a,a∈hs->a∈ρ.hid):∀ {p:PV} {v:V},Sm.bel tr0.length p->Rep H ρ p v->Rep H ⟨tr0,hs⟩ p v
  | .non,_,_,r=>r
  | .bl _,_,_,r=>r
  | .int _,_,_,r=>r
  | .str _,_,_,r=>r
  | .tup ps,_,b,⟨a,vs,e,ha,na,r⟩=>⟨a,vs,e,ha,fun z=>na (z.imp (fun z=>by rw [ht]; exact E3 _ z) (hh a)),RepL.less ht hh (by rw [Sm.bel] at b; exact b) r⟩
  | .lst ps,_,b,⟨a,vs,e,ha,na,r⟩=>⟨a,vs,e,ha,fun z=>na (z.imp (fun z=>by rw [ht]; exact E3 _ z) (hh a)),RepL.less ht hh (by rw [Sm.bel] at b; exact b) r⟩
  | .fro ps,_,b,⟨a,vs,e,ha,na,r⟩=>⟨a,vs,e,ha,fun z=>na (z.imp (fun z=>by rw [ht]; exact E3 _ z) (hh a)),RepL.less ht hh (by rw [Sm.bel] at b; exact b) r⟩
  | .ref i,_,b,⟨a,e,e2⟩=>⟨a,by rw [Sm.bel] at b; rw [ht,D2 b] at e; exact e,e2⟩
  | .dic,_,_,⟨a,e,ha,na⟩=>⟨a,e,ha,fun z=>na (z.imp (fun z=>by rw [ht]; exact E3 _ z) (hh a))⟩
theorem RepL.less (ht:ρ.tr=tr0 ++ rest) (hh:∀ a,a∈hs->a∈ρ.hid):∀ {ps:List PV} {vs:List V},belL tr0.length ps->RepL H ρ ps vs->RepL H ⟨tr0,hs⟩ ps vs
  | [],_,_,r=>r
  | p :: ps,_,b,⟨v,t,e,r1,r2⟩=>by
    rw [belL] at b
    exact ⟨v,t,e,Rep.less ht hh b.1 r1,RepL.less ht hh b.2 r2⟩
end
end
theorem rel_back {H H':Hp} {ρ ρ':Tk} {st st':Q0} (R:Rel H ρ st) (x:Ext H ρ H' ρ') (R':Rel H' ρ' st') (hp:st <+: st'):Ext H ρ H' ρ/\Rel H' ρ st:=by
  obtain ⟨rest,ht⟩:=x.pre
  obtain ⟨more,hm⟩:=hp
  refine ⟨⟨List.prefix_refl _,fun _ h=>h,fun _ h=>.inl h,x.keep,fun _ h=>.inl h,x.old,x.frz⟩,R.len,R.nd,fun a ha=>let ⟨o,e,n⟩:=R.hd a ha; ⟨o,x.keep a o e (R.ap a ha),n⟩,R.ap,fun i a c h1 h2=>?_⟩
  have hi:i < st.length:=(O3.mp h2).1
  have q:=R'.cell i a c (by rw [<- ht,D2 (O3.mp h1).1]; exact h1) (by rw [<- hm,D2 hi]; exact h2)
  have q0:=R.cell i a c h1 h2
  cases c with
  | lst ps=>
    obtain ⟨vs,e1,e2⟩:=q
    obtain ⟨us,_,f2⟩:=q0
    exact ⟨vs,e1,RepL.less (ρ:=ρ') (tr0:=ρ.tr) (hs:=ρ.hid) ht.symm x.hidM f2.bel e2⟩
  | dic ps=>
    obtain ⟨vs,e1,e2⟩:=q
    obtain ⟨us,_,f2⟩:=q0
    exact ⟨vs,e1,e2.1,RepL.less (ρ:=ρ') (tr0:=ρ.tr) (hs:=ρ.hid) ht.symm x.hidM f2.2.bel e2.2⟩
  | dtp ps=>
    obtain ⟨vs,e1,e2⟩:=q
    obtain ⟨us,_,f2⟩:=q0
    exact ⟨vs,e1,e2.1,RepL.less (ρ:=ρ') (tr0:=ρ.tr) (hs:=ρ.hid) ht.symm x.hidM f2.2.bel e2.2⟩
  | frd ps=>
    obtain ⟨vs,e1,e2⟩:=q
    obtain ⟨us,_,f2⟩:=q0
    exact ⟨vs,e1,e2.1,RepL.less (ρ:=ρ') (tr0:=ρ.tr) (hs:=ρ.hid) ht.symm x.hidM f2.2.bel e2.2⟩
  | obj C ps=>
    obtain ⟨vs,e1,e2⟩:=q
    obtain ⟨us,_,f2⟩:=q0
    exact ⟨vs,e1,e2.1,RepL.less (ρ:=ρ') (tr0:=ρ.tr) (hs:=ρ.hid) ht.symm x.hidM f2.2.bel e2.2⟩
abbrev FN:=List PV->Q0->Res PV
open Classical in
def fin (st:Q0) (v:PV) (st':Q0):Res PV:=if st <+: st' then okO st (fz st.length st' 16 v) else .ok v st'
open Classical in
def finX (st:Q0) (x:Exc) (st':Q0):Res PV:=if st <+: st' then (match x.fs with
  | none=>.exc x st
  | some (n,p)=>match fz st.length st' 16 p with
    | some q=>.exc ⟨x.cls,some (n,q)⟩ st
    | none=>.stuck) else .exc x st'
def Qd (body:MS) (nl:Nat):FN:=fun ps st=>match body (ps.map some ++ List.replicate (nl - ps.length) none) st with
  | .rt v st'=>fin st v st'
  | .nx _ st'=>fin st .non st'
  | .exc x st'=>finX st x st'
  | _=>.stuck
theorem fin_acc {mg:Str->Option Value} {E:XK} {H:Hp} {ρ:Tk} {st st':Q0} {Q:VK} {p:PV} (R:Rel H ρ st) (h:Acc mg E H ρ (QV Q) (fin st p st')):∀ v H' ρ',Ext H ρ H' ρ'->Rel H' ρ' st'->Rep H' ρ' p v->Q v H':=fun v H' ρ' x R' r=>by
  unfold fin at h
  by_cases hp:st <+: st'
  · rw [if_pos hp] at h
    cases e:fz st.length st' 16 p with
    | none=>rw [e] at h; exact h.elim
    | some q=>
      rw [e] at h
      obtain ⟨x2,R2⟩:=rel_back R x R' hp
      obtain ⟨rest,ht⟩:=x.pre
      rw [<- R.len] at e
      exact h H' ρ x2 R2 v (fz_rep (tr0:=ρ.tr) (hs:=ρ.hid) R' ht.symm x.hidM 16 r e)
  · rw [if_neg hp] at h
    exact h H' ρ' x R' v r
def spF (mg:Str->Option Value) (n:Nat) (F:FN):Sp:=fun vs H Q E=>vs.length=n/\∃ ρ st ps,Rel H ρ st/\RepL H ρ ps vs/\Acc mg E H ρ (QV Q) (F ps st)
theorem start_env {H:Hp} {ρ:Tk} {N:List Str} {ps:List PV} {vs:List V} (r:RepL H ρ ps vs):EnvR H ρ (ps.map some ++ List.replicate (N.length - ps.length) none) (L2.start N vs):=by
  have hl:=r.length
  unfold L2.start
  refine ⟨by simp [hl],fun i p e=>?_⟩
  by_cases hi:i < ps.length
  · rw [D2 (by simpa using hi),E1] at e
    rw [D2 (by simp; omega),E1]
    cases q:ps[i]? with
    | none=>rw [q] at e; cases e
    | some p'=>
      rw [q] at e
      cases e
      obtain ⟨v,e1,e2⟩:=r.get q
      exact ⟨v,by rw [e1]; rfl,e2⟩
  · rw [E2 (by simpa using hi),List.getElem?_replicate] at e
    split at e <;> cases e
section
variable {P:Program} {w:World} {K:PySem.W.Frag} {mg:Str->Option Value} {base:Heap}
theorem fun_ok {x qual:Str} {st:Stmt} {f:Addr} {fd:FuncData} {N ps:List Str} {k:Nat} {m:MS} (F:Fun K x qual st f fd) (S:FnScope N ps (Q6 st))
    (hb:∀ (cdv:Value) (A:Around) (outer:List PySem.Env) (s:Shared) (H:Hp) (E:XK),Room k (A.deeper (PyProof.Rows.envOfC qual (Q6 st) s.heap.objs.size f cdv))->SimB (cxD P w K mg base N qual (Q6 st) f cdv A outer s H E) E (Jr st) m) :
    FnOk P w K mg base (CXD P w) (k + 1) f fd ps (spF mg ps.length (Qd m N.length)):=by
  refine Fun.okD F S (fun vs H Q E h=>h.1) fun cdv A outer s H vs Q E hr hsp=>⟨_,pss_w,?_⟩
  obtain ⟨hl,ρ,st0,pvs,R,rl,hA⟩:=hsp
  refine (hb cdv A outer s H E hr).run _ (L2.start N vs) H ρ st0 _ R (start_env rl) ?_
  unfold Qd at hA
  cases rr:m (pvs.map some ++ List.replicate (N.length - pvs.length) none) st0 with
  | rt v st1=>rw [rr] at hA; exact fin_acc R hA
  | nx Γ st1=>rw [rr] at hA; exact fun σ' H' ρ' x' R' G'=>fin_acc R hA .non H' ρ' x' R' rfl
  | bk Γ st1=>rw [rr] at hA; exact hA.elim
  | ct Γ st1=>rw [rr] at hA; exact hA.elim
  | stuck=>rw [rr] at hA; exact hA.elim
  | exc y st1=>
    rw [rr] at hA
    have hA:Acc mg E H ρ (QV Q) (finX st0 y st1):=hA
    intro C dv H' ρ' hm x' R' hf
    unfold finX at hA
    by_cases hp:st0 <+: st1
    · rw [if_pos hp] at hA
      obtain ⟨x2,R2⟩:=rel_back R x' R' hp
      obtain ⟨cls,fs⟩:=y
      cases fs with
      | none=>exact hA C dv H' ρ hm x2 R2 hf
      | some np=>
        obtain ⟨nm,p⟩:=np
        simp only at hA
        cases e:fz st0.length st1 16 p with
        | none=>rw [e] at hA; exact hA.elim
        | some q=>
          rw [e] at hA
          obtain ⟨rest,ht⟩:=x'.pre
          rw [<- R.len] at e
          obtain ⟨dx,v,e1,e2,e3,e4⟩:=hf
          refine hA C dv H' ρ hm x2 R2 ⟨dx,v,e1,e2,fun z=>e3 (z.imp (fun z=>by rw [<- ht]; exact E3 _ z) (x'.hidM dx)),fz_rep (tr0:=ρ.tr) (hs:=ρ.hid) R' ht.symm x'.hidM 16 e4 e⟩
    · rw [if_neg hp] at hA
      exact hA C dv H' ρ' hm x' R' hf
end
theorem fun_ok2 {P:Program} {w:World} {K:PySem.W.Frag} {mg:Str->Option Value} {base:Heap} {x qual:Str} {st:Stmt} {f:Addr} {fd:FuncData} {N ps:List Str} {k n nl:Nat} {m:MS} {FF:FN} (F:Fun K x qual st f fd) (S:FnScope N ps (Q6 st)) (hn:ps.length=n) (hnl:N.length=nl) (hF:FF=Qd m nl)
    (hb:∀ (cdv:Value) (A:Around) (outer:List PySem.Env) (s:Shared) (H:Hp) (E:XK),Room k (A.deeper (PyProof.Rows.envOfC qual (Q6 st) s.heap.objs.size f cdv))->SimB (cxD P w K mg base N qual (Q6 st) f cdv A outer s H E) E (Jr st) m) :
    FnOk P w K mg base (CXD P w) (k + 1) f fd ps (spF mg n FF):=by
  subst hn; subst hnl; subst hF
  exact fun_ok F S hb
structure DefS (P:Program) (w:World) (K:PySem.W.Frag) (mg:Str->Option Value) (base:Heap) (k:Nat) (x:Str) (n:Nat) (F:FN):Prop where
  ex:∃ (f:Addr) (fd:FuncData) (ps:List Str),FnOk P w K mg base (CXD P w) k f fd ps (spF mg n F)/\mg x=some (.ref f)/\PySem.W.keepIn K (.ref f)=true/\Binds K fd ps []/\ps.length=n
def Qc (n:Nat) (F:FN) (mr:Gam->Q0->Res (List PV)):ME:=fun Γ st=>(mr Γ st).bind fun ps st1=>if ps.length=n then F ps st1 else .stuck
section
variable {X:Cx} {E:XK} {k n:Nat} {x:Str} {F:FN} {p pos:Pos} {e:Expr} {es:List Expr} {mr:Gam->Q0->Res (List PV)}
theorem se_call (D:DefS X.prog X.w X.K X.mg X.base k x n F) (hr:Room k X.A) (hx:Passes (CXD X.prog X.w) X E) (hg:Gl X x) (ha:SimA X E (e :: es) mr) (hdb:(x == ("__debug__" : Str))=false:=by decide)
    (he:starEach (e :: es) X.env=(false,eval e X.env) :: starEach es X.env:=by rfl) (hpl:(backTo pos (starEach es X.env)).any (·.1)=false:=by rfl):SimE X E (.Call (.Name x p) (e :: es) [] pos) (Qc n F mr):=by
  obtain ⟨f,fd,ps,hF,hm,hk,hb,hl⟩:=D.ex
  exact ⟨fun Γ σ H ρ st Q R G h=>WE.of (pe_call hF hr hg hm hk hb .nil hx pa_w hdb he hpl) (ha.use R G h.bind fun qs st1 H1 ρ1 vs x1 R1 G1 r1 h1=>by
    by_cases hq:qs.length=n
    · rw [if_pos hq] at h1
      show spF X.mg n F (vs ++ []) H1 Q E
      rw [List.append_nil]
      exact ⟨by rw [<- r1.length]; exact hq,ρ1,st1,qs,R1,r1,h1⟩
    · rw [if_neg hq] at h1; exact h1.elim)⟩
end
end Sm
namespace Sm
open PySem PySem.Spec L2
@[simp] theorem bind_ok {α β:Type} (a:α) (st:Q0) (f:α->Q0->Res β):(Res.ok a st).bind f=f a st:=rfl
@[simp] theorem bind_stuck {α β:Type} (f:α->Q0->Res β):(Res.stuck:Res α).bind f=.stuck:=rfl
@[simp] theorem bind_exc {α β:Type} (x:Exc) (st:Q0) (f:α->Q0->Res β):(Res.exc x st:Res α).bind f=.exc x st:=rfl
@[simp] theorem sbind_ok {α:Type} (a:α) (st:Q0) (f:α->Q0->SR):(Res.ok a st).sbind f=f a st:=rfl
@[simp] theorem sbind_stuck {α:Type} (f:α->Q0->SR):(Res.stuck:Res α).sbind f=.stuck:=rfl
@[simp] theorem sbind_exc {α:Type} (x:Exc) (st:Q0) (f:α->Q0->SR):(Res.exc x st:Res α).sbind f=.exc x st:=rfl
@[simp] theorem mVar_eq (i:Nat) (Γ:Gam) (st:Q0):Q3 i Γ st=(match Γ[i]? with | some (some p)=>.ok p st | _=>.stuck):=rfl
@[simp] theorem mC_eq (p:PV) (Γ:Gam) (st:Q0):mC p Γ st=.ok p st:=rfl
@[simp] theorem mOp_eq (o:OP) (a b:ME) (Γ:Gam) (st:Q0):mOp o a b Γ st=(a Γ st).bind fun x st1=>(b Γ st1).bind fun y st2=>o st2 x y:=rfl
@[simp] theorem asB_bl (b:Bool) (st:Q0):asB (.bl b) st=.ok b st:=rfl
@[simp] theorem toB_eq (m:ME) (Γ:Gam) (st:Q0):toB m Γ st=(m Γ st).bind asB:=rfl
def selB {α:Type} (x:PV) (A B:Res α):Res α:=match x with
  | .bl true=>A
  | .bl false=>B
  | _=>.stuck
@[simp] theorem selB_bl {α:Type} (b:Bool) (A B:Res α):selB (.bl b) A B=if b=true then A else B:=by cases b <;> rfl
@[simp] theorem mChain_eq (o o':OP) (a b c:ME) (Γ:Gam) (st:Q0):mChain o o' a b c Γ st=(a Γ st).bind fun x st1=>(b Γ st1).bind fun y st2=>(o st2 x y).bind fun k st3=>selB k ((c Γ st3).bind fun z st4=>o' st4 y z) (.ok (.bl false) st3):=by
  unfold mChain
  refine congrArg _ (funext fun x=>funext fun st1=>congrArg _ (funext fun y=>funext fun st2=>congrArg _ (funext fun k=>funext fun st3=>?_)))
  cases k with
  | bl b=>cases b <;> rfl
  | _=>rfl
@[simp] theorem mAnd_eq (a b:ME) (Γ:Gam) (st:Q0):mAnd a b Γ st=(a Γ st).bind fun x st1=>selB x (b Γ st1) (.ok (.bl false) st1):=by
  unfold mAnd
  refine congrArg _ (funext fun x=>funext fun st1=>?_)
  cases x with
  | bl b=>cases b <;> rfl
  | _=>rfl
@[simp] theorem mNot_eq (a:ME) (Γ:Gam) (st:Q0):mNot a Γ st=(a Γ st).bind fun x st1=>(match x with | .bl k=>.ok (.bl (!k)) st1 | _=>.stuck):=rfl
@[simp] theorem mNeg_eq (a:ME) (Γ:Gam) (st:Q0):mNeg a Γ st=(a Γ st).bind fun x st1=>(match x with | .int k=>.ok (.int (-k)) st1 | _=>.stuck):=rfl
@[simp] theorem tAndM_eq (a b:MT) (Γ:Gam) (st:Q0):tAndM a b Γ st=(a Γ st).bind fun k st1=>if k=true then b Γ st1 else .ok false st1:=rfl
@[simp] theorem tOrM_eq (a b:MT) (Γ:Gam) (st:Q0):tOrM a b Γ st=(a Γ st).bind fun k st1=>if k=true then .ok true st1 else b Γ st1:=rfl
@[simp] theorem tNotM_eq (a:MT) (Γ:Gam) (st:Q0):tNotM a Γ st=(a Γ st).bind fun k st1=>.ok (!k) st1:=rfl
@[simp] theorem mNil_eq (Γ:Gam) (st:Q0):Q9 Γ st=.ok [] st:=rfl
@[simp] theorem mCons_eq (m:ME) (mr:ML) (Γ:Gam) (st:Q0):Q2 m mr Γ st=(m Γ st).bind fun p st1=>(mr Γ st1).bind fun ps st2=>.ok (p :: ps) st2:=rfl
@[simp] theorem mTup_eq (mr:ML) (Γ:Gam) (st:Q0):mTup mr Γ st=(mr Γ st).bind fun ps st1=>if ps.length<=lim then .ok (.tup ps) st1 else .stuck:=rfl
@[simp] theorem mLst_eq (mr:ML) (Γ:Gam) (st:Q0):mLst mr Γ st=(mr Γ st).bind fun ps st1=>if ps.length<=lim then .ok (.lst ps) st1 else .stuck:=rfl
@[simp] theorem mLstN_eq (mr:ML) (Γ:Gam) (st:Q0):mLstN mr Γ st=(mr Γ st).bind fun ps st1=>if ps.length<=lim then .ok ps st1 else .stuck:=rfl
@[simp] theorem mSl_eq (m:ME) (l h:Gam->Q0->Res (Option Int)) (Γ:Gam) (st:Q0):mSl m l h Γ st=(m Γ st).bind fun p st1=>(l Γ st1).bind fun lo st2=>(h Γ st2).bind fun hi st3=>oSl st3 p lo hi:=rfl
@[simp] theorem mNoPart_eq (Γ:Gam) (st:Q0):mNoPart Γ st=.ok none st:=rfl
@[simp] theorem mPart_eq (m:ME) (Γ:Gam) (st:Q0):mPart m Γ st=(m Γ st).bind fun p st1=>(match p with | .int i=>.ok (some i) st1 | _=>.stuck):=rfl
@[simp] theorem mCall_eq (o:CF) (mr:ML) (Γ:Gam) (st:Q0):Qg o mr Γ st=(mr Γ st).bind fun ps st1=>o st1 ps:=rfl
@[simp] theorem mIsI_eq (T:String) (m:ME) (Γ:Gam) (st:Q0):mIsI T m Γ st=(m Γ st).bind fun p st1=>if frzd st1 p=true then .stuck else .ok (.bl (isI T (dpv st1 p))) st1:=rfl
@[simp] theorem frzd_non (st:Q0):frzd st .non=false:=rfl
@[simp] theorem frzd_bl (st:Q0) (b:Bool):frzd st (.bl b)=false:=rfl
@[simp] theorem frzd_int (st:Q0) (b:Int):frzd st (.int b)=false:=rfl
@[simp] theorem frzd_str (st:Q0) (b:Str):frzd st (.str b)=false:=rfl
@[simp] theorem frzd_tup (st:Q0) (b:List PV):frzd st (.tup b)=false:=rfl
@[simp] theorem frzd_lst (st:Q0) (b:List PV):frzd st (.lst b)=false:=rfl
@[simp] theorem frzd_fro (st:Q0) (b:List PV):frzd st (.fro b)=false:=rfl
@[simp] theorem frzd_dic (st:Q0):frzd st .dic=false:=rfl
@[simp] theorem frzd_ref (st:Q0) (i:Nat):frzd st (.ref i)=(match st[i]? with | some (.frd _)=>true | some (.obj _ _)=>true | _=>false):=rfl
@[simp] theorem dpv_non (st:Q0):dpv st .non=.non:=rfl
@[simp] theorem dpv_bl (st:Q0) (b:Bool):dpv st (.bl b)=(.bl b):=rfl
@[simp] theorem dpv_int (st:Q0) (b:Int):dpv st (.int b)=(.int b):=rfl
@[simp] theorem dpv_str (st:Q0) (b:Str):dpv st (.str b)=(.str b):=rfl
@[simp] theorem dpv_tup (st:Q0) (b:List PV):dpv st (.tup b)=(.tup b):=rfl
@[simp] theorem dpv_lst (st:Q0) (b:List PV):dpv st (.lst b)=(.lst b):=rfl
@[simp] theorem dpv_fro (st:Q0) (b:List PV):dpv st (.fro b)=(.fro b):=rfl
@[simp] theorem dpv_dc (st:Q0):dpv st .dic=.dic:=rfl
@[simp] theorem dpv_r (st:Q0) (i:Nat):dpv st (.ref i)=(match st[i]? with | some (.dic _)=>.dic | some (.dtp _)=>.dic | _=>.ref i):=rfl
@[simp] theorem mVal_eq (m:ML) (Γ:Gam) (st:Q0):mVal m Γ st=(m Γ st).bind fun ps st1=>.ok (.lst ps) st1:=rfl
@[simp] theorem mTrk_eq (m:ML) (Γ:Gam) (st:Q0):mTrk m Γ st=(m Γ st).bind fun ps st1=>.ok (.ref st1.length) (st1 ++ [.lst ps]):=rfl
@[simp] theorem mCompN_eq (cap:List (Option Nat)) (ga:GA) (mi:MI) (mt:MT) (me:ME) (Γ:Gam) (st:Q0):Z4 cap ga mi mt me Γ st=(mi Γ st).bind fun iw st1=>noX (J6 ga mt me iw.2 (Jj cap Γ) iw.1 st1):=rfl
@[simp] theorem mTrue_eq (Γ:Gam) (st:Q0):mTrue Γ st=.ok true st:=rfl
@[simp] theorem mCallF_eq (n:Nat) (F:FN) (mr:ML) (Γ:Gam) (st:Q0):Qc n F mr Γ st=(mr Γ st).bind fun ps st1=>if ps.length=n then F ps st1 else .stuck:=rfl
@[simp] theorem mNext_eq (Γ:Gam) (st:Q0):Qp Γ st=.nx Γ st:=rfl
@[simp] theorem Jx (a b:MS) (Γ:Gam) (st:Q0):Qb a b Γ st=(match a Γ st with | .nx Γ1 st1=>b Γ1 st1 | r=>r):=rfl
@[simp] theorem mExpr_eq (m:ME) (Γ:Gam) (st:Q0):mExpr m Γ st=(m Γ st).sbind fun _ st1=>.nx Γ st1:=rfl
@[simp] theorem mRet_eq (m:ME) (Γ:Gam) (st:Q0):Qw m Γ st=(m Γ st).sbind fun p st1=>.rt p st1:=rfl
@[simp] theorem mSet_eq (i:Nat) (m:ME) (Γ:Gam) (st:Q0):J7 i m Γ st=(m Γ st).sbind fun p st1=>.nx (Γ.set i (some p)) st1:=rfl
@[simp] theorem mIfS_eq (c:MT) (a b:MS) (Γ:Gam) (st:Q0):Ja c a b Γ st=(c Γ st).sbind fun k st1=>if k=true then a Γ st1 else b Γ st1:=rfl
@[simp] theorem mFor_eq (ga:GA) (mi:MI) (b:MS) (Γ:Gam) (st:Q0):mFor ga mi b Γ st=(mi Γ st).sbind fun iw st1=>forG ga b iw.2 iw.1 Γ st1:=rfl
@[simp] theorem mSeq_eq (m:ME) (Γ:Gam) (st:Q0):mSeq m Γ st=(m Γ st).bind fun p st1=>(match srcOf st1 p with | some (xs,w)=>if xs.length<=lim then .ok (xs,w) st1 else .stuck | none=>.stuck):=rfl
@[simp] theorem mRange1_eq (mr:ML) (Γ:Gam) (st:Q0):Zh mr Γ st=(mr Γ st).bind fun ps st1=>(match ps with | [.int j]=>if -(lim:Int)<=j/\j<=lim then .ok (rangeI 0 j.toNat,[]) st1 else .stuck | _=>.stuck):=rfl
@[simp] theorem mZip_eq (mr:ML) (Γ:Gam) (st:Q0):mZip mr Γ st=(mr Γ st).bind fun ps st1=>(match ps with | [p,q]=>(match srcOf st1 p,srcOf st1 q with | some (xs,w),some (ys,w')=>if xs.length<=lim then .ok (zipT xs ys,w ++ w') st1 else .stuck | _,_=>.stuck) | _=>.stuck):=rfl
@[simp] theorem mBM_eq (f:MF) (mo:ME) (mr:ML) (Γ:Gam) (st:Q0):mBM f mo mr Γ st=(mo Γ st).bind fun p st1=>(match listOf st1 p with | some _=>(mr Γ st1).bind fun ps st2=>f st2 p ps | none=>.stuck):=rfl
@[simp] theorem mSetIx_eq (mo mi m:ME) (Γ:Gam) (st:Q0):mSetIx mo mi m Γ st=(m Γ st).sbind fun p st1=>(mo Γ st1).sbind fun o st2=>(mi Γ st2).sbind fun i st3=>(match setIx st3 o i p with | some st4=>.nx Γ st4 | none=>.stuck):=rfl
@[simp] theorem mRaise_eq (x:Str) (m:ME) (Γ:Gam) (st:Q0):mRaise x m Γ st=(m Γ st).sbind fun _ st1=>.exc ⟨x,none⟩ st1:=rfl
@[simp] theorem gaName_eq (i:Nat) (p:PV) (Γ:Gam):Qa i p Γ=some (Γ.set i (some p)):=rfl
@[simp] theorem gaNil_eq (Γ:Gam):gaNil [] Γ=some Γ:=rfl
@[simp] theorem gaCons_eq (g:GA) (gs:GAs) (p:PV) (r:List PV) (Γ:Gam):gaCons g gs (p :: r) Γ=(g p Γ).bind (gs r):=rfl
@[simp] theorem gaTup_eq (gs:GAs) (ps:List PV) (Γ:Gam):gaTup gs (.tup ps) Γ=gs ps Γ:=rfl
@[simp] theorem noX_ok {α:Type} (a:α) (st:Q0):noX (Res.ok a st)=.ok a st:=rfl
@[simp] theorem noX_stuck {α:Type}:noX (Res.stuck:Res α)=.stuck:=rfl
@[simp] theorem okO_some {α:Type} (st:Q0) (a:α):okO st (some a)=.ok a st:=rfl
@[simp] theorem okO_none {α:Type} (st:Q0):okO st (none:Option α)=.stuck:=rfl
@[simp] theorem oI_eq (g:Int->Int->PV) (st:Q0) (a b:Int):oI g st (.int a) (.int b)=.ok (g a b) st:=rfl
@[simp] theorem oAdd_int (st:Q0) (a b:Int):oAdd st (.int a) (.int b)=.ok (.int (a + b)) st:=rfl
@[simp] theorem oAdd_tup (st:Q0) (a b:List PV):oAdd st (.tup a) (.tup b)=if a.length + b.length<=lim then .ok (.tup (a ++ b)) st else .stuck:=rfl
@[simp] theorem oMul_int (st:Q0) (a b:Int):oMul st (.int a) (.int b)=if (-(2 ^ 64) < a/\a < 2 ^ 64)\/(-(2 ^ 64) < b/\b < 2 ^ 64) then .ok (.int (a * b)) st else .stuck:=rfl
@[simp] theorem oMul_tup (st:Q0) (xs:List PV) (b:Int):oMul st (.tup xs) (.int b)=if xs≠[]/\1<=b/\xs.length * b.toNat<=4096 then .ok (.tup (List.replicate b.toNat xs).flatten) st else .stuck:=rfl
@[simp] theorem oMod_int (st:Q0) (a b:Int):oMod st (.int a) (.int b)=if 0 < b then .ok (.int (a % b)) st else .stuck:=rfl
@[simp] theorem oDiv_int (st:Q0) (a b:Int):oDiv st (.int a) (.int b)=if 0 < b/\b < 1073741824 then .ok (.int (a / b)) st else .stuck:=rfl
@[simp] theorem oPow_int (st:Q0) (a b:Int):oPow st (.int a) (.int b)=if 0<=b/\b<=1000000/\a.natAbs < 2 ^ 64 then .ok (.int (a ^ b.toNat)) st else .stuck:=rfl
@[simp] theorem oLt_int (st:Q0) (a b:Int):oLt st (.int a) (.int b)=.ok (.bl (decide (a < b))) st:=rfl
@[simp] theorem oEq_int (st:Q0) (a b:Int):oEq st (.int a) (.int b)=.ok (.bl (a == b)) st:=rfl
@[simp] theorem oNe_int (st:Q0) (a b:Int):oNe st (.int a) (.int b)=.ok (.bl (!(a == b))) st:=rfl
@[simp] theorem oEq_bl (st:Q0) (a b:Bool):oEq st (.bl a) (.bl b)=.ok (.bl (a == b)) st:=rfl
@[simp] theorem oNe_bl (st:Q0) (a b:Bool):oNe st (.bl a) (.bl b)=.ok (.bl (!(a == b))) st:=rfl
@[simp] theorem oEq_str (st:Q0) (a b:Str):oEq st (.str a) (.str b)=.ok (.bl (a == b)) st:=rfl
@[simp] theorem oNe_str (st:Q0) (a b:Str):oNe st (.str a) (.str b)=.ok (.bl (!(a == b))) st:=rfl
@[simp] theorem oIs_non (st:Q0) (p:PV):oIs st p .non=.ok (.bl (isNon p)) st:=rfl
@[simp] theorem oIs_bl (st:Q0) (a b:Bool):oIs st (.bl a) (.bl b)=.ok (.bl (a == b)) st:=rfl
@[simp] theorem oIsNot_non (st:Q0) (p:PV):oIsNot st p .non=.ok (.bl (!isNon p)) st:=rfl
@[simp] theorem oIsNot_bl (st:Q0) (a b:Bool):oIsNot st (.bl a) (.bl b)=.ok (.bl (a != b)) st:=rfl
@[simp] theorem lstOf_lst (st:Q0) (xs:List PV):lstOf st (.lst xs)=some xs:=rfl
@[simp] theorem listOf_lst (st:Q0) (xs:List PV):listOf st (.lst xs)=some xs:=rfl
@[simp] theorem listOf_fro (st:Q0) (xs:List PV):listOf st (.fro xs)=some xs:=rfl
@[simp] theorem seqOf_lst (st:Q0) (xs:List PV):seqOf st (.lst xs)=some xs:=rfl
@[simp] theorem seqOf_fro (st:Q0) (xs:List PV):seqOf st (.fro xs)=some xs:=rfl
@[simp] theorem seqOf_tup (st:Q0) (xs:List PV):seqOf st (.tup xs)=some xs:=rfl
@[simp] theorem srcOf_lst (st:Q0) (xs:List PV):srcOf st (.lst xs)=some (xs,[]):=rfl
@[simp] theorem srcOf_fro (st:Q0) (xs:List PV):srcOf st (.fro xs)=some (xs,[]):=rfl
@[simp] theorem srcOf_tup (st:Q0) (xs:List PV):srcOf st (.tup xs)=some (xs,[]):=rfl
theorem lstOf_ref {st:Q0} {i:Nat} {xs:List PV} (h:st[i]?=some (.lst xs)):lstOf st (.ref i)=some xs:=by simp only [lstOf,h]
theorem listOf_ref {st:Q0} {i:Nat} {xs:List PV} (h:st[i]?=some (.lst xs)):listOf st (.ref i)=some xs:=lstOf_ref h
theorem srcOf_ref {st:Q0} {i:Nat} {xs:List PV} (h:st[i]?=some (.lst xs)):srcOf st (.ref i)=some (xs,[(i,.lst xs)]):=by simp only [srcOf,h]
@[simp] theorem oIx_tup (st:Q0) (xs:List PV) (i:Int):oIx st (.tup xs) (.int i)=okO st (atI xs i):=rfl
@[simp] theorem oIx_lst (st:Q0) (xs:List PV) (i:Int):oIx st (.lst xs) (.int i)=okO st (atI xs i):=rfl
@[simp] theorem oIx_fro (st:Q0) (xs:List PV) (i:Int):oIx st (.fro xs) (.int i)=okO st (atI xs i):=rfl
@[simp] theorem oSl_tup (st:Q0) (xs:List PV) (l h:Option Int):oSl st (.tup xs) l h=.ok (.tup (cut xs l h)) st:=rfl
@[simp] theorem oSl_lst (st:Q0) (xs:List PV) (l h:Option Int):oSl st (.lst xs) l h=.ok (.lst (cut xs l h)) st:=rfl
@[simp] theorem oSl_fro (st:Q0) (xs:List PV) (l h:Option Int):oSl st (.fro xs) l h=.ok (.lst (cut xs l h)) st:=rfl
@[simp] theorem cLen_tup (st:Q0) (xs:List PV):cLen st [.tup xs]=.ok (.int xs.length) st:=rfl
@[simp] theorem cLen_lst (st:Q0) (xs:List PV):cLen st [.lst xs]=.ok (.int xs.length) st:=rfl
@[simp] theorem cLen_fro (st:Q0) (xs:List PV):cLen st [.fro xs]=.ok (.int xs.length) st:=rfl
@[simp] theorem cTuple_tup (st:Q0) (xs:List PV):Za st [.tup xs]=.ok (.tup xs) st:=rfl
@[simp] theorem cTuple_lst (st:Q0) (xs:List PV):Za st [.lst xs]=.ok (.tup xs) st:=rfl
@[simp] theorem cBls_lst (g:List Bool->PV) (st:Q0) (bs:List Bool):cBls g st [.lst (bs.map .bl)]=.ok (g bs) st:=by
  simp only [cBls,seqOf_lst,Option.bind_some,bls_map]
@[simp] theorem wOk_nil' (st:Q0):wOk [] st=True:=by simp [wOk]
@[simp] theorem fin_bl (st:Q0) (b:Bool):fin st (.bl b) st=.ok (.bl b) st:=by simp [fin,fz]
@[simp] theorem fin_int (st:Q0) (b:Int):fin st (.int b) st=.ok (.int b) st:=by simp [fin,fz]
@[simp] theorem fin_non (st:Q0):fin st .non st=.ok .non st:=by simp [fin,fz]
@[simp] theorem fin_str (st:Q0) (b:Str):fin st (.str b) st=.ok (.str b) st:=by simp [fin,fz]
theorem Qe:lim=1000000:=rfl
theorem compG_on {α:Type} (g f:α->PV) {ga:GA} {me:ME} {w:Wt} {Γ0:Gam} {st:Q0} (hw:wOk w st) {ys:List α} (h:∀ y∈ys,∃ Γ1,ga (g y) Γ0=some Γ1/\me Γ1 st=.ok (f y) st):J6 ga mTrue me w Γ0 (ys.map g) st=.ok (ys.map f) st:=by
  induction ys with
  | nil=>simp [J6,hw]
  | cons y ys ih=>
    obtain ⟨Γ1,h1,h2⟩:=h y E4
    have ih:=ih fun z hz=>h z (O8 _ hz)
    rw [D5,J6,if_pos hw,h1]
    simp [h2,ih]
theorem compG_onF {α:Type} (g f:α->PV) (t:α->Bool) {ga:GA} {mt:MT} {me:ME} {w:Wt} {Γ0:Gam} {st:Q0} (hw:wOk w st) {ys:List α} (h:∀ y∈ys,∃ Γ1,ga (g y) Γ0=some Γ1/\mt Γ1 st=.ok (t y) st/\(t y=true->me Γ1 st=.ok (f y) st)):J6 ga mt me w Γ0 (ys.map g) st=.ok ((ys.filter t).map f) st:=by
  induction ys with
  | nil=>simp [J6,hw]
  | cons y ys ih=>
    obtain ⟨Γ1,h1,h2,h3⟩:=h y E4
    have ih:=ih fun z hz=>h z (O8 _ hz)
    rw [D5,J6,if_pos hw,h1]
    simp only [h2,bind_ok,ih]
    cases tx:t y with
    | true=>simp [h3 tx,tx,ih]
    | false=>simp [tx]
@[simp] theorem cBls_map {α:Type} (g:List Bool->PV) (st:Q0) (ys:List α) (b:α->Bool):cBls g st [.lst (ys.map fun y=>.bl (b y))]=.ok (g (ys.map b)) st:=by
  rw [show (ys.map fun y=>PV.bl (b y))=(ys.map b).map .bl by rw [L8]; rfl,cBls_lst]
theorem forG_inv {α:Type} (g:α->PV) {xs:List α} (I:Nat->Gam->Q0->Prop) {ga:GA} {body:MS} {w:Wt} (hw:∀ i Γ st,I i Γ st->wOk w st)
    (h:∀ (i:Nat) x Γ st,xs[i]?=some x->I i Γ st->∃ Γ1,ga (g x) Γ=some Γ1/\∃ Γ2 st2,body Γ1 st=.nx Γ2 st2/\I (i + 1) Γ2 st2) {Γ:Gam} {st:Q0} (h0:I 0 Γ st):∃ Γ' st',forG ga body w (xs.map g) Γ st=.nx Γ' st'/\I xs.length Γ' st':=by
  induction xs generalizing I Γ st with
  | nil=>exact ⟨Γ,st,by simp [forG,hw 0 Γ st h0],h0⟩
  | cons x xs ih=>
    obtain ⟨Γ1,h1,Γ2,st2,e2,i2⟩:=h 0 x Γ st rfl h0
    obtain ⟨Γ',st',e3,i3⟩:=ih (fun i=>I (i + 1)) (fun i Γ st z=>hw (i + 1) Γ st z) (fun i y Γ st hy z=>h (i + 1) y Γ st (by simpa using hy) z) i2
    refine ⟨Γ',st',?_,i3⟩
    rw [D5,forG,if_pos (hw 0 Γ st h0),h1]
    simp only [e2]
    exact e3
theorem forG_invL {α:Type} (g:α->PV) {xs:List α} (I:List α->Gam->Q0->Prop) {ga:GA} {body:MS} {w:Wt} (hw:∀ pre Γ st,I pre Γ st->wOk w st)
    (h:∀ pre x post Γ st,xs=pre ++ x :: post->I pre Γ st->∃ Γ1,ga (g x) Γ=some Γ1/\∃ Γ2 st2,body Γ1 st=.nx Γ2 st2/\I (pre ++ [x]) Γ2 st2) {Γ:Gam} {st:Q0} (h0:I [] Γ st):∃ Γ' st',forG ga body w (xs.map g) Γ st=.nx Γ' st'/\I xs Γ' st':=by
  have key:∀ (post pre:List α) (Γ:Gam) (st:Q0),xs=pre ++ post->I pre Γ st->∃ Γ' st',forG ga body w (post.map g) Γ st=.nx Γ' st'/\I xs Γ' st':=by
    intro post
    induction post with
    | nil=>intro pre Γ st e i; exact ⟨Γ,st,by simp [forG,hw pre Γ st i],by rw [e,List.append_nil]; exact i⟩
    | cons x post ih=>
      intro pre Γ st e i
      obtain ⟨Γ1,h1,Γ2,st2,e2,i2⟩:=h pre x post Γ st e i
      obtain ⟨Γ',st',e3,i3⟩:=ih (pre ++ [x]) Γ2 st2 (by rw [e]; simp) i2
      refine ⟨Γ',st',?_,i3⟩
      rw [D5,forG,if_pos (hw pre Γ st i),h1]
      simp only [e2]
      exact e3
  exact key xs [] Γ st rfl h0
theorem zipT_map {α β:Type} (f:α->PV) (g:β->PV) (xs:List α) (ys:List β):zipT (xs.map f) (ys.map g)=(xs.zip ys).map fun z=>.tup [f z.1,g z.2]:=by
  rw [zipT_eq,List.zip_map,L8]; rfl
theorem atI_map {α:Type} (f:α->PV) (xs:List α) (i:Int):atI (xs.map f) i=(atI xs i).map f:=by
  unfold atI
  rw [O2]
  cases ixN xs.length i with
  | none=>rfl
  | some j=>simp [E1]
theorem atI_get {α:Type} {xs:List α} {i:Nat} {x:α} (h:xs[i]?=some x):atI xs (i:Int)=some x:=by
  have hl:=(O3.mp h).1
  unfold atI ixN
  rw [if_pos (by omega),if_pos (by omega)]
  simpa using h
theorem cut_map {α:Type} (f:α->PV) (xs:List α) (l h:Option Int):cut (xs.map f) l h=(cut xs l h).map f:=by
  unfold cut
  rw [O2,<- List.map_drop,<- List.map_take]
theorem rangeI0 (n:Nat):rangeI 0 n=(List.range n).map fun (k:Nat)=>PV.int (k:Int):=by
  unfold rangeI
  refine List.map_congr_left fun k _=>?_
  rw [Int.zero_add]
@[simp] theorem tr_get {α:Type} (st l:List α) (c:α):(st ++ c :: l)[st.length]?=some c:=by
  rw [E2 (O4 _),Nat.sub_self]; rfl
@[simp] theorem tr_get1 {α:Type} (st l:List α) (c d:α):(st ++ c :: d :: l)[st.length + 1]?=some d:=by
  rw [E2 (by omega)]
  rw [show st.length + 1 - st.length=1 by omega]; rfl
@[simp] theorem tr_set {α:Type} (st l:List α) (c d:α):(st ++ c :: l).set st.length d=st ++ d :: l:=by
  rw [List.set_append_right _ _ (O4 _),Nat.sub_self]; rfl
@[simp] theorem tr_set1 {α:Type} (st l:List α) (c c' d:α):(st ++ c :: c' :: l).set (st.length + 1) d=st ++ c :: d :: l:=by
  rw [List.set_append_right _ _ (by omega),show st.length + 1 - st.length=1 by omega]; rfl
@[simp] theorem chg_ref (st:Q0) (i:Nat) (g:List PV->Option (PV × List PV)):chg st (.ref i) g=(match st[i]? with | some (.lst xs)=>(match g xs with | some (r,ys)=>.ok r (st.set i (.lst ys)) | none=>.stuck) | _=>.stuck):=rfl
@[simp] theorem lstOf_r (st:Q0) (i:Nat):lstOf st (.ref i)=(match st[i]? with | some (.lst xs)=>some xs | _=>none):=rfl
@[simp] theorem listOf_r (st:Q0) (i:Nat):listOf st (.ref i)=(match st[i]? with | some (.lst xs)=>some xs | _=>none):=rfl
@[simp] theorem seqOf_r (st:Q0) (i:Nat):seqOf st (.ref i)=(match st[i]? with | some (.lst xs)=>some xs | _=>none):=rfl
@[simp] theorem srcOf_r (st:Q0) (i:Nat):srcOf st (.ref i)=(match st[i]? with | some (.lst xs)=>some (xs,[(i,.lst xs)]) | _=>none):=rfl
@[simp] theorem mtAppend_eq (st:Q0) (p y:PV):mtAppend st p [y]=chg st p fun xs=>if xs.length < lim then some (.non,xs ++ [y]) else none:=rfl
@[simp] theorem cTuple_r (st:Q0) (i:Nat):Za st [.ref i]=(match st[i]? with | some (.lst xs)=>.ok (.tup xs) st | _=>.stuck):=by
  unfold Za; simp only [seqOf_r]
  cases st[i]? with
  | none=>rfl
  | some c=>cases c <;> rfl
@[simp] theorem cLen_r (st:Q0) (i:Nat):cLen st [.ref i]=(match st[i]? with | some (.lst xs)=>.ok (.int xs.length) st | _=>.stuck):=by
  unfold cLen; simp only [seqOf_r]
  cases st[i]? with
  | none=>rfl
  | some c=>cases c <;> rfl
@[simp] theorem oIx_r (st:Q0) (i:Nat) (j:Int):oIx st (.ref i) (.int j)=(match st[i]? with | some (.lst xs)=>okO st (atI xs j) | _=>.stuck):=by
  unfold oIx; simp only [seqOf_r]
  cases st[i]? with
  | none=>rfl
  | some c=>cases c <;> rfl
@[simp] theorem setIx_r (st:Q0) (k:Nat) (j:Int) (p:PV):setIx st (.ref k) (.int j) p=(match st[k]? with | some (.lst xs)=>(ixN xs.length j).map fun n=>st.set k (.lst (xs.set n p)) | _=>none):=rfl
theorem cut_back {α:Type} (xs:List α) (k:Nat):cut xs (some (k:Int)) none=xs.drop k:=by
  unfold cut
  rw [HT.sIx_none,HT.sIx_nat]
  rcases Nat.le_total k xs.length with h | h
  · rw [Nat.min_eq_left h,List.take_of_length_le (by rw [List.length_drop]; omega)]
  · rw [Nat.min_eq_right h,List.drop_length,List.drop_of_length_le h]; simp
end Sm
namespace Sm
open PySem PySem.Spec L2
theorem getD_some {α:Type} {l:List α} {j:Nat} (h:j < l.length) (d:α):l[j]?=some (l.getD j d):=by
  rw [List.getD,O1 h]; rfl
def ListAt (st:Q0) (V:PV) (xs:List PV):Prop:=V=.lst xs\/V=.fro xs\/∃ i,V=.ref i/\st[i]?=some (.lst xs)
theorem ListAt.ix {st:Q0} {V:PV} {xs:List PV} (h:ListAt st V xs) (j:Int):oIx st V (.int j)=okO st (atI xs j):=by
  rcases h with rfl | rfl | ⟨i,rfl,e⟩
  · rfl
  · rfl
  · rw [oIx_r,e]
end Sm
namespace Sm
open PySem PySem.Spec L2
section
variable {X:Cx} {E:XK} {a b:Expr} {ma mb:ME} {pos:Pos}
theorem boot_set:bootBuiltins "set" = some (.type "set"):=by decide +kernel
end
end Sm
namespace Sm
open PySem PySem.Spec L2
def callK (body:MS) (nl:Nat):FN:=fun ps st=>match body (ps.map some ++ List.replicate (nl - ps.length) none) st with
  | .rt v st'=>.ok v st'
  | .nx _ st'=>.ok .non st'
  | .exc x st'=>.exc x st'
  | _=>.stuck
section
variable {P:Program} {w:World} {K:PySem.W.Frag} {mg:Str->Option Value} {base:Heap}
theorem fun_okK {x qual:Str} {st:Stmt} {f:Addr} {fd:FuncData} {N ps:List Str} {k:Nat} {m:MS} (F:Fun K x qual st f fd) (S:FnScope N ps (Q6 st))
    (hb:∀ (cdv:Value) (A:Around) (outer:List PySem.Env) (s:Shared) (H:Hp) (E:XK),Room k (A.deeper (PyProof.Rows.envOfC qual (Q6 st) s.heap.objs.size f cdv))->SimB (cxD P w K mg base N qual (Q6 st) f cdv A outer s H E) E (Jr st) m) :
    FnOk P w K mg base (CXD P w) (k + 1) f fd ps (spF mg ps.length (callK m N.length)):=by
  refine Fun.okD F S (fun vs H Q E h=>h.1) fun cdv A outer s H vs Q E hr hsp=>⟨_,pss_w,?_⟩
  obtain ⟨hl,ρ,st0,pvs,R,rl,hA⟩:=hsp
  refine (hb cdv A outer s H E hr).run _ (L2.start N vs) H ρ st0 _ R (start_env rl) ?_
  unfold callK at hA
  cases rr:m (pvs.map some ++ List.replicate (N.length - pvs.length) none) st0 with
  | rt v st1=>rw [rr] at hA; exact fun v H' ρ' x R' r=>hA H' ρ' x R' v r
  | nx Γ st1=>rw [rr] at hA; exact fun σ' H' ρ' x' R' G'=>hA H' ρ' x' R' .non rfl
  | bk Γ st1=>rw [rr] at hA; exact hA.elim
  | ct Γ st1=>rw [rr] at hA; exact hA.elim
  | stuck=>rw [rr] at hA; exact hA.elim
  | exc y st1=>rw [rr] at hA; exact hA
end
theorem fun_ok2K {P:Program} {w:World} {K:PySem.W.Frag} {mg:Str->Option Value} {base:Heap} {x qual:Str} {st:Stmt} {f:Addr} {fd:FuncData} {N ps:List Str} {k n nl:Nat} {m:MS} {FF:FN} (F:Fun K x qual st f fd) (S:FnScope N ps (Q6 st)) (hn:ps.length=n) (hnl:N.length=nl) (hF:FF=callK m nl)
    (hb:∀ (cdv:Value) (A:Around) (outer:List PySem.Env) (s:Shared) (H:Hp) (E:XK),Room k (A.deeper (PyProof.Rows.envOfC qual (Q6 st) s.heap.objs.size f cdv))->SimB (cxD P w K mg base N qual (Q6 st) f cdv A outer s H E) E (Jr st) m) :
    FnOk P w K mg base (CXD P w) (k + 1) f fd ps (spF mg n FF):=by
  subst hn; subst hnl; subst hF
  exact fun_okK F S hb
end Sm
namespace Sm
open PySem PySem.Spec PyProof.Rows L2
section
variable {X:Cx} {E:XK} {pos:Pos} {a b:Expr} {ma mb:ME}
end
end Sm
namespace Sm
open PySem PySem.Spec L2
section
variable {X:Cx} {E:XK} {pos:Pos} {e:Expr} {m:ME}
end
section
end
section
variable {X:Cx} {E:XK} {pos dpos:Pos} {e1 e2 e3 i:Expr} {m1 m2 m3 mi:ME} {k1 k2 k3:Str} {j1 j2 j3:Nat} {q1 q2 q3:Pos}
end
section
variable {X:Cx} {E:XK} {pos:Pos} {e:Expr} {m:ME}
end
theorem room_u1 {k:Nat} {A:Around} (r:Room k A):A.units + 1 < cLine:=by have:=r.un; omega
end Sm
namespace Sm
open PySem PySem.Spec L2
section
variable {X:Cx} {E:XK}
end
end Sm
namespace Sm
open PySem PySem.Spec L2
section
variable {H0 H:Hp} {ρ0 ρ:Tk} {st:Q0} {a:Addr} {ps:List (Key × PV)} {vs:List (Key × V)}
end
def keyOf:PV->Option Key
  | .int i=>some (.inl i)
  | .str x=>some (.inr x)
  | _=>none
theorem rep_key {H:Hp} {ρ:Tk} {p:PV} {v:V} {k:Key} (e:keyOf p=some k) (r:Rep H ρ p v):v=kV k:=by
  cases p with
  | int i=>cases e; exact r
  | str x=>cases e; exact r
  | _=>cases e
section
variable {X:Cx} {E:XK} {pos dpos apos cpos:Pos} {e e1 e2 e3 i o f:Expr} {m m1 m2 m3 mi mo mf:ME} {k1 k2 k3:Str} {j1 j2 j3:Nat} {q1 q2 q3:Pos}
end
end Sm
namespace Sm
open PySem PySem.Spec L2
section
variable {X:Cx} {E:XK} {pos dpos tpos:Pos} {e i o k:Expr} {m mi mo mk:ME}
end
end Sm
namespace Sm
open PySem PySem.Spec L2
section
variable {X:Cx} {E:XK} {pos dpos tpos:Pos} {e i o k:Expr} {m mi mo mk:ME} {tg:Expr}
end
end Sm
namespace Sm
open PySem PySem.Spec L2
def intsP:List PV->Option (List Int)
  | []=>some []
  | .int i :: xs=>(intsP xs).map (i :: ·)
  | _ :: _=>none
def tupsP:List PV->Option (List (List Int))
  | []=>some []
  | .tup ys :: xs=>match intsP ys with
    | some (n :: ns)=>(tupsP xs).map ((n :: ns) :: ·)
    | _=>none
  | _ :: _=>none
def Q1 (ns:List Int):PV:=.tup (ns.map .int)
theorem ints_rep {H:Hp} {ρ:Tk}:∀ {xs:List PV} {ns:List Int} {vs:List V},intsP xs=some ns->RepL H ρ xs vs->vs=ns.map V.int/\xs=ns.map PV.int
  | [],_,_,e,r=>by cases e; exact ⟨r,rfl⟩
  | .int i :: xs,ns,_,e,⟨v,t,e1,r1,r2⟩=>by
    have e:(intsP xs).map (i :: ·)=some ns:=e
    cases z:intsP xs with
    | none=>rw [z] at e; cases e
    | some ns'=>
      rw [z] at e
      cases e
      obtain ⟨h1,h2⟩:=ints_rep z r2
      have r1:v=.int i:=r1
      exact ⟨by rw [e1,r1,h1]; rfl,by rw [h2]; rfl⟩
  | .non :: _,_,_,e,_=>by cases e
  | .bl _ :: _,_,_,e,_=>by cases e
  | .str _ :: _,_,_,e,_=>by cases e
  | .tup _ :: _,_,_,e,_=>by cases e
  | .lst _ :: _,_,_,e,_=>by cases e
  | .fro _ :: _,_,_,e,_=>by cases e
  | .ref _ :: _,_,_,e,_=>by cases e
  | .dic :: _,_,_,e,_=>by cases e
theorem tups_rep {H:Hp} {ρ:Tk}:∀ {xs:List PV} {nss:List (List Int)} {vs:List V},tupsP xs=some nss->RepL H ρ xs vs->xs=nss.map Q1/\Paired (fun (v:V) (ns:List Int)=>ns≠[]/\∃ a,v=.ref a/\H a=some (.tup (ns.map V.int))) vs nss
  | [],_,_,e,r=>by cases e; cases r; exact ⟨rfl,.nil⟩
  | .tup ys :: xs,nss,vs,e,⟨v,t,e1,r1,r2⟩=>by
    have e:(match intsP ys with | some (n :: ns)=>(tupsP xs).map ((n :: ns) :: ·) | _=>none)=some nss:=e
    cases zi:intsP ys with
    | none=>rw [zi] at e; cases e
    | some ms=>
      cases ms with
      | nil=>rw [zi] at e; cases e
      | cons n ns=>
        rw [zi] at e
        cases z:tupsP xs with
        | none=>rw [z] at e; cases e
        | some nss'=>
          rw [z] at e
          cases e
          obtain ⟨h1,h2⟩:=tups_rep z r2
          obtain ⟨a,us,rfl,ha,_,ru⟩:=r1
          obtain ⟨g1,g2⟩:=ints_rep zi ru
          subst e1
          exact ⟨by rw [h1,g2]; rfl,.cons ⟨by simp,a,rfl,by rw [ha,g1]⟩ h2⟩
  | .int _ :: _,_,_,e,_=>by cases e
  | .non :: _,_,_,e,_=>by cases e
  | .bl _ :: _,_,_,e,_=>by cases e
  | .str _ :: _,_,_,e,_=>by cases e
  | .lst _ :: _,_,_,e,_=>by cases e
  | .fro _ :: _,_,_,e,_=>by cases e
  | .ref _ :: _,_,_,e,_=>by cases e
  | .dic :: _,_,_,e,_=>by cases e
theorem repL_pick {H:Hp} {ρ:Tk} {nss:List (List Int)} {vs:List V} (r:RepL H ρ (nss.map Q1) vs):∀ (pp:List Nat),(∀ x∈pp,x < vs.length)->RepL H ρ ((pp.map fun i=>nss.getD i []).map Q1) (pp.map fun i=>vs.getD i .non)
  | [],_=>rfl
  | x :: pp,h=>by
    have hx:=h x (by simp)
    have hl:=r.length
    rw [O2] at hl
    have e1:(nss.map Q1)[x]?=some (Q1 (nss.getD x [])):=by
      rw [E1,O1 (by omega),D7,O1 (by omega)]; rfl
    have e2:vs[x]?=some (vs.getD x .non):=by rw [D7,O1 hx]; rfl
    exact RepL.cons (r.i e1 e2) (repL_pick r pp fun y hy=>h y (O8 _ hy))
section
variable {X:Cx} {E:XK}
def cSortT:CF:=fun st ps=>match ps with
  | [p]=>match listOf st p with
    | some xs=>match tupsP xs with
      | some nss=>if nss.length < 64 then .ok (.lst ((Qi nss).map Q1)) st else .stuck
      | none=>.stuck
    | none=>.stuck
  | _=>.stuck
theorem cs_sortT:CallS X E (.builtin "sorted") cSortT:=⟨fun H ρ st ps xs Q R rp h=>by
  unfold cSortT at h
  split at h
  · rename_i p
    obtain ⟨v,rfl,r⟩:=Zi rp
    split at h
    · rename_i ys el
      split at h
      · rename_i nss en
        split at h
        · rename_i h64
          obtain ⟨a,vs,rfl,hr,rl⟩:=list_at R r el
          obtain ⟨g1,g2⟩:=tups_rep en rl
          subst g1
          have hl:=rl.length
          rw [O2] at hl
          refine WC.of call_sortedT ⟨a,vs,nss,rfl,.inl hr,by omega,g2,fun d pp hd hp he=>?_⟩
          have rr:=repL_pick rl pp fun x hx=>by have:=hp.mem_iff.mp hx; simpa using this
          rw [he] at rr
          exact new_lst R h rr d hd
        · exact h.elim
      · exact h.elim
    · exact h.elim
  · exact h.elim⟩
end
end Sm
namespace Sm
open PySem PySem.Spec PyProof.Rows L2
section
variable {X:Cx} {E:XK}
def cSortU:CF:=fun st ps=>match ps with
  | [p]=>match listOf st p with
    | some xs=>if xs.length < 2 then .ok (.lst xs) st else cSortT st [p]
    | none=>.stuck
  | _=>.stuck
theorem cs_sortU:CallS X E (.builtin "sorted") cSortU:=⟨fun H ρ st ps xs Q R rp h=>by
  unfold cSortU at h
  split at h
  · rename_i p
    split at h
    · rename_i ys el
      split at h
      · rename_i h2
        obtain ⟨v,rfl,r⟩:=Zi rp
        obtain ⟨a,vs,rfl,hr,rl⟩:=list_at R r el
        have hl:=rl.length
        exact WC.of call_sorted1 ⟨a,vs,rfl,.inl hr,by omega,fun d hd=>new_lst R h rl d hd⟩
      · exact cs_sortT.1 H ρ st _ xs Q R rp h
    · exact h.elim
  · exact h.elim⟩
end
end Sm
namespace Sm
open PySem PySem.Spec PyProof.Rows L2
section
variable {X:Cx} {E:XK}
def cSortV:CF:=fun st ps=>match ps with
  | [p]=>match listOf st p with
    | some xs=>match tupsP xs with
      | some nss=>if twoR nss=true then .ok (.lst ((Qi nss).map Q1)) st else cSortU st [p]
      | none=>cSortU st [p]
    | none=>.stuck
  | _=>.stuck
theorem cs_sortV:CallS X E (.builtin "sorted") cSortV:=⟨fun H ρ st ps xs Q R rp h=>by
  unfold cSortV at h
  split at h
  · rename_i p
    split at h
    · rename_i ys el
      split at h
      · rename_i nss en
        split at h
        · rename_i h64
          obtain ⟨v,rfl,r⟩:=Zi rp
          obtain ⟨a,vs,rfl,hr,rl⟩:=list_at R r el
          obtain ⟨g1,g2⟩:=tups_rep en rl
          subst g1
          have hl:=rl.length
          rw [O2] at hl
          refine WC.of call_sortedV ⟨a,vs,nss,rfl,.inl hr,h64,g2,fun d pp hd hp he=>?_⟩
          have rr:=repL_pick rl pp fun x hx=>by have:=hp.mem_iff.mp hx; simpa using this
          rw [he] at rr
          exact new_lst R h rr d hd
        · exact cs_sortU.1 H ρ st _ xs Q R rp h
      · exact cs_sortU.1 H ρ st _ xs Q R rp h
    · exact h.elim
  · exact h.elim⟩
end
end Sm
namespace Sm
open PySem PySem.Spec L2
theorem boot_sorted:bootBuiltins "sorted" = some (.builtin "sorted"):=by decide +kernel
section
variable {X:Cx} {E:XK} {pos apos tp:Pos} {e:Expr} {m:ME} {elts:List Expr} {kt:Nat}
end
end Sm
namespace Sm
open PySem PySem.Spec L2
def keysT:List PV->Option (List Key)
  | []=>some []
  | p :: ps=>match keyOf p with
    | some k=>(keysT ps).map (k :: ·)
    | none=>none
theorem keysT_rep {H:Hp} {ρ:Tk}:∀ {ps:List PV} {ks:List Key} {vs:List V},keysT ps=some ks->RepL H ρ ps vs->vs=ks.map kV
  | [],_,_,e,r=>by cases e; exact r
  | p :: ps,ks,_,e,⟨v,t,e1,r1,r2⟩=>by
    have e:(match keyOf p with | some k=>(keysT ps).map (k :: ·) | none=>none)=some ks:=e
    cases kk:keyOf p with
    | none=>rw [kk] at e; cases e
    | some k=>
      rw [kk] at e
      cases z:keysT ps with
      | none=>rw [z] at e; cases e
      | some ks'=>
        rw [z] at e
        cases e
        rw [e1,rep_key kk r1,keysT_rep z r2]; rfl
def putT (kvs:List (List Key × PV)) (k:List Key) (v:PV):List (List Key × PV):=
  if (kvs.any fun kv=>decide (kv.1=k))=true then kvs.map (fun kv=>if kv.1=k then (kv.1,v) else kv) else kvs ++ [(k,v)]
theorem repT_put {H:Hp} {ρ:Tk} {kvs:List (List Key × PV)} {vs:List (List Key × V)} (r:RepD H ρ kvs vs) (k:List Key) {p:PV} {v:V} (rp:Rep H ρ p v):RepD H ρ (putT kvs k p) (putK vs k v):=by
  have ha:(kvs.any fun kv=>decide (kv.1=k))=vs.any fun kv=>decide (kv.1=k):=by
    have e1:(kvs.any fun kv=>decide (kv.1=k))=(kvs.map Prod.fst).any fun x=>decide (x=k):=by rw [List.any_map]; rfl
    have e2:(vs.any fun kv=>decide (kv.1=k))=(vs.map Prod.fst).any fun x=>decide (x=k):=by rw [List.any_map]; rfl
    rw [e1,e2,r.1]
  unfold putT putK
  rw [<- ha]
  by_cases q:(kvs.any fun kv=>decide (kv.1=k))=true
  · rw [if_pos q,if_pos q]
    have key:∀ (kvs:List (List Key × PV)) (vs:List (List Key × V)),RepD H ρ kvs vs->RepD H ρ (kvs.map fun kv=>if kv.1=k then (kv.1,p) else kv) (vs.map fun kv=>if kv.1=k then (kv.1,v) else kv):=by
      intro kvs
      induction kvs with
      | nil=>
        intro vs r
        cases vs with
        | nil=>exact r
        | cons _ _=>have:=r.length; cases this
      | cons a kvs ih=>
        intro vs r
        cases vs with
        | nil=>have:=r.length; cases this
        | cons b vs=>
          obtain ⟨r1,x,t,e,r2,r3⟩:=r
          obtain ⟨e1,e2⟩:=List.cons.inj (show b.1 :: vs.map Prod.fst=a.1 :: kvs.map Prod.fst from r1)
          obtain ⟨e3,e4⟩:=List.cons.inj (show b.2 :: vs.map Prod.snd=x :: t from e)
          subst e3; subst e4
          obtain ⟨i1,i2⟩:=ih vs ⟨e2,r3⟩
          rw [D5,D5]
          by_cases z:a.1=k
          · have zb:b.1=k:=e1.trans z
            rw [if_pos z,if_pos zb]
            exact ⟨by rw [D5,D5,i1]; show b.1 :: _=a.1 :: _; rw [e1],RepL.cons rp i2⟩
          · have zb:¬ b.1=k:=fun h=>z (e1.symm.trans h)
            rw [if_neg z,if_neg zb]
            exact ⟨by rw [D5,D5,i1]; show b.1 :: _=a.1 :: _; rw [e1],RepL.cons r2 i2⟩
    exact key kvs vs r
  · rw [if_neg q,if_neg q]
    refine ⟨?_,?_⟩
    · rw [List.map_append,List.map_append,r.1]; rfl
    · rw [List.map_append,List.map_append]
      exact r.2.append (RepL.cons rp RepL.nil)
section
variable {X:Cx} {E:XK} {pos dpos tpos:Pos} {e i o k:Expr} {m mi mo mk:ME}
def mDispT:ME:=fun Γ st=>.ok (.ref st.length) (st ++ [.dtp []])
theorem se_dispT:SimE X E (.Dict [] [] dpos) mDispT:=⟨fun Γ σ H ρ st Q R G h=>WE.of pe_dnewT fun d hd=>by
  have x:Ext H ρ (upd H d (.dT [])) (ρ.add d):=Ext.addT hd
  refine h _ _ x (R.addC hd ⟨_,Qu,rfl,rfl⟩) _ ⟨d,?_,rfl⟩
  show (ρ.tr ++ [d])[st.length]?=some d
  rw [<- R.len,E2 (O4 _),Nat.sub_self]; rfl⟩
def dtpOf (st:Q0):PV->Option (List (List Key × PV))
  | .ref i=>match st[i]? with
    | some (.dtp kvs)=>some kvs
    | _=>none
  | _=>none
theorem dtpOf_at {H:Hp} {ρ:Tk} {st:Q0} {p:PV} {v:V} {kvs:List (List Key × PV)} (R:Rel H ρ st) (r:Rep H ρ p v) (e:dtpOf st p=some kvs):∃ i a vs,p=.ref i/\v=.ref a/\ρ.tr[i]?=some a/\st[i]?=some (.dtp kvs)/\H a=some (.dT vs)/\RepD H ρ kvs vs:=by
  cases p with
  | ref i=>
    obtain ⟨a,ea,rfl⟩:=r
    unfold dtpOf at e
    cases z:st[i]? with
    | none=>simp only [z] at e; cases e
    | some c=>
      simp only [z] at e
      cases c with
      | dtp kvs'=>
        cases e
        obtain ⟨b,vs,eb,hb,rd⟩:=R.dtp z
        rw [ea] at eb
        cases eb
        exact ⟨i,a,vs,rfl,rfl,ea,z,hb,rd⟩
      | lst xs=>cases e
      | dic xs=>cases e
      | frd xs=>cases e
      | obj C xs=>cases e
  | _=>cases e
def dputT (st:Q0) (p q v:PV):Option Q0:=match p,q with
  | .ref n,.tup ks=>match dtpOf st (.ref n),keysT ks with
    | some kvs,some k=>if kvs.length < lim then some (st.set n (.dtp (putT kvs k v))) else none
    | _,_=>none
  | _,_=>none
def mDPutT (mo mi m:ME):MS:=fun Γ st=>(m Γ st).sbind fun v st1=>(mo Γ st1).sbind fun p st2=>(mi Γ st2).sbind fun q st3=>match dputT st3 p q v with
  | some st4=>.nx Γ st4
  | none=>.stuck
theorem ss_dputT (hu:X.A.units + 1 < cLine) (he:SimE X E e m) (ho:SimE X E o mo) (hi:SimE X E i mi) (hs:swapsWith e (some (.Subscript o i tpos)) pos.line X.env=pure false:=by rfl):SimS X E (.Assign [.Subscript o i tpos] e pos) (mDPutT mo mi m):=
  ⟨fun Γ σ H ρ st D R G h=>WS.of (ps_dput hu Zs Zs Zs hs) (he.use R G h.bind fun v st1 H1 ρ1 z x1 R1 G1 r1 h1=>ho.use R1 G1 h1.bind fun p st2 H2 ρ2 x x2 R2 G2 r2 h2=>hi.use R2 G2 h2.bind fun q st3 H3 ρ3 y x3 R3 G3 r3 h3=>by
    cases es:dputT st3 p q v with
    | none=>rw [es] at h3; exact h3.elim
    | some st4=>
      rw [es] at h3
      unfold dputT at es
      split at es
      · rename_i n ks
        split at es
        · rename_i kvs k e1 e2
          split at es
          · rename_i hl
            cases es
            obtain ⟨n',a,vs,en,rfl,ea,hsx,hb,rd⟩:=dtpOf_at R3 (r2.ext x3) e1
            cases en
            obtain ⟨b,us,rfl,hbt,_,ru⟩:=r3
            have eus:=keysT_rep e2 ru
            subst eus
            have x4:Ext H3 ρ3 (upd H3 a (.dT (putK vs k z))) ρ3:=Ext.put (F9 ea) hb
            have rz:=(r1.ext (x2.trans x3)).ext x4
            have R4:Rel (upd H3 a (.dT (putK vs k z))) ρ3 (st3.set n (.dtp (putT kvs k v))):=R3.putC ea hb ⟨_,Qu,repT_put (rd.ext x4) k rz⟩
            refine ⟨a,_,rfl,DPut.t hb hbt (by rw [<- rd.length]; exact D0 hl lim_le),h3 σ _ ρ3 x4 R4 (G3.ext x4)⟩
          · cases es
        · cases es
      · cases es)⟩
def cLenT:CF:=fun st ps=>match ps with
  | [p]=>match dtpOf st p with
    | some kvs=>if kvs.length < 1000000 then .ok (.int (kvs.length:Nat)) st else .stuck
    | none=>.stuck
  | _=>.stuck
theorem cs_lenT:CallS X E (.builtin "len") cLenT:=⟨fun H ρ st ps xs Q R rp h=>by
  unfold cLenT at h
  split at h
  · rename_i p
    obtain ⟨v,rfl,r⟩:=Zi rp
    split at h
    · rename_i kvs e
      split at h
      · rename_i hl
        obtain ⟨n,a,vs,rfl,rfl,_,_,hb,rd⟩:=dtpOf_at R r e
        rw [rd.length] at h hl
        exact WC.of call_lenDT ⟨a,vs,rfl,hb,hl,now R h rfl⟩
      · exact h.elim
    · exact h.elim
  · exact h.elim⟩
def intK:List Key->Option (List Int)
  | []=>some []
  | .inl i :: ks=>(intK ks).map (i :: ·)
  | .inr _ :: _=>none
def keysI:List (List Key × PV)->Option (List (List Int))
  | []=>some []
  | (k,_) :: r=>match intK k with
    | some (n :: ns)=>(keysI r).map ((n :: ns) :: ·)
    | _=>none
theorem intK_eq:∀ {ks:List Key} {ns:List Int},intK ks=some ns->ks=ns.map Sum.inl
  | [],_,e=>by cases e; rfl
  | .inl i :: ks,ns,e=>by
    have e:(intK ks).map (i :: ·)=some ns:=e
    cases z:intK ks with
    | none=>rw [z] at e; cases e
    | some ns'=>rw [z] at e; cases e; rw [intK_eq z]; rfl
  | .inr _ :: _,_,e=>by cases e
theorem keysI_at {H:Hp} {ρ:Tk}:∀ {kvs:List (List Key × PV)} {vs:List (List Key × V)} {nss:List (List Int)},keysI kvs=some nss->RepD H ρ kvs vs->Paired (fun (p:List Key × V) (ns:List Int)=>ns≠[]/\p.1=ns.map Sum.inl) vs nss
  | [],[],_,e,_=>by cases e; exact .nil
  | [],_ :: _,_,_,r=>by have:=r.length; cases this
  | _ :: _,[],_,_,r=>by have:=r.length; cases this
  | (k,p) :: kvs,(k',v) :: vs,nss,e,r=>by
    obtain ⟨r1,x,t,e',r2,r3⟩:=r
    obtain ⟨e1,e2⟩:=List.cons.inj (show k' :: vs.map Prod.fst=k :: kvs.map Prod.fst from r1)
    obtain ⟨e3,e4⟩:=List.cons.inj (show v :: vs.map Prod.snd=x :: t from e')
    subst e3; subst e4
    have e:(match intK k with | some (n :: ns)=>(keysI kvs).map ((n :: ns) :: ·) | _=>none)=some nss:=e
    cases zi:intK k with
    | none=>rw [zi] at e; cases e
    | some ms=>
      cases ms with
      | nil=>rw [zi] at e; cases e
      | cons n ns=>
        rw [zi] at e
        cases z:keysI kvs with
        | none=>rw [z] at e; cases e
        | some nss'=>
          rw [z] at e
          cases e
          exact .cons ⟨by simp,by rw [show (k',v).1=k from e1]; exact intK_eq zi⟩ (keysI_at z ⟨e2,r3⟩)
theorem repL_tups {H:Hp} {ρ:Tk} (hn:∀ b xs,H b=some (.tup xs)->b∉ρ):∀ {vs:List V} {nss:List (List Int)},Paired (fun (v:V) (ns:List Int)=>∃ b,v=.ref b/\H b=some (.tup (ns.map V.int))) vs nss->RepL H ρ (nss.map Q1) vs
  | [],[],.nil=>rfl
  | v :: vs,ns :: nss,.cons ⟨b,e,hb⟩ t=>by
    subst e
    refine RepL.cons ⟨b,_,rfl,hb,hn b _ hb,?_⟩ (repL_tups hn t)
    clear hb t
    induction ns with
    | nil=>exact rfl
    | cons x ns ih=>exact RepL.cons rfl ih
def cSortD:CF:=fun st ps=>match ps with
  | [p]=>match dtpOf st p with
    | some kvs=>match keysI kvs with
      | some nss=>if nss.length < 64 then .ok (.lst ((Qi nss).map Q1)) st else .stuck
      | none=>.stuck
    | none=>.stuck
  | _=>.stuck
theorem tup_out {H:Hp} {ρ:Tk} {st:Q0} (R:Rel H ρ st) (b:Addr) (xs:List V) (h:H b=some (.tup xs)):b∉ρ:=fun z=>by
  rcases z with z | z
  · obtain ⟨i,hi,e⟩:=List.getElem_of_mem z
    have hs:i < st.length:=by rw [<- R.len]; exact hi
    have q:=R.cell i b st[i] (by rw [O1 hi,e]) (O1 hs)
    cases hc:st[i] with
    | lst xs=>rw [hc] at q; obtain ⟨vs,h1,_⟩:=q; rw [h] at h1; cases h1
    | dic xs=>rw [hc] at q; obtain ⟨vs,h1,_⟩:=q; rw [h] at h1; cases h1
    | dtp xs=>rw [hc] at q; obtain ⟨vs,h1,_⟩:=q; rw [h] at h1; cases h1
    | frd xs=>rw [hc] at q; obtain ⟨vs,⟨_,h1⟩,_⟩:=q; rw [h] at h1; cases h1
    | obj C xs=>rw [hc] at q; obtain ⟨vs,⟨_,h1⟩,_⟩:=q; rw [h] at h1; cases h1
  · obtain ⟨o,h1,h2⟩:=R.hd b z
    rw [h] at h1
    cases h1
    exact h2 xs rfl
theorem cs_sortD (hc:X.calm=true):CallS X E (.builtin "sorted") cSortD:=⟨fun H ρ st ps xs Q R rp h=>by
  unfold cSortD at h
  split at h
  · rename_i p
    obtain ⟨v,rfl,r⟩:=Zi rp
    split at h
    · rename_i kvs e
      split at h
      · rename_i nss en
        split at h
        · rename_i h64
          obtain ⟨n,a,vs,rfl,rfl,_,_,hb,rd⟩:=dtpOf_at R r e
          have pr:=keysI_at en rd
          have l2:vs.length=nss.length:=Paired.length pr
          refine WC.of (call_sortedDT hc) ⟨a,vs,nss,rfl,hb,by omega,pr,fun d pp us hd hu hp he=>?_⟩
          have rl:=repL_tups (tup_out R) hu
          have l3:us.length=nss.length:=Paired.length hu
          have rr:=repL_pick rl pp fun x hx=>by have:=hp.mem_iff.mp hx; rw [l3]; simpa using this
          rw [he] at rr
          exact new_lst R h rr d hd
        · exact h.elim
      · exact h.elim
    · exact h.elim
  · exact h.elim⟩
end
end Sm
namespace Sm
open PySem PySem.Spec L2
section
variable {H0 H:Hp} {ρ0 ρ:Tk} {st:Q0} {a:Addr} {ps:List (List Key × PV)} {vs:List (List Key × V)}
theorem out_trkT (R0:Rel H0 ρ0 st) (x:Ext H0 ρ0 H ρ) {st1:Q0} (R:Rel H ρ st1) (hm:a∈ρ.hid) (hn:H0 a=none) (ha:H a=some (.dT vs)) (r:RepD H ρ ps vs) :
    Ext H0 ρ0 H ⟨ρ.tr ++ [a],ρ0.hid⟩/\Rel H ⟨ρ.tr ++ [a],ρ0.hid⟩ (st1 ++ [.dtp ps])/\Rep H ⟨ρ.tr ++ [a],ρ0.hid⟩ (.ref st1.length) (.ref a):=by
  have na0:a∉ρ0.hid:=fun z=>by
    obtain ⟨o,e,_⟩:=R0.hd a z
    rw [hn] at e; cases e
  refine ⟨⟨x.pre.trans (List.prefix_append _ _),fun _ h=>h,fun _ h=>.inl h,x.keep,fun b hb=>?_,x.old,x.frz⟩,⟨?_,?_,fun b hb=>R.hd b (x.hidM b hb),fun b hb z=>?_,fun i b c h1 h2=>?_⟩,a,?_,rfl⟩
  · rcases D4.mp hb with z | z
    · exact x.new b z
    · have:b=a:=by simpa using z
      subst this; exact .inr hn
  · show (ρ.tr ++ [a]).length=_
    rw [E5,E5,R.len]; rfl
  · show (ρ.tr ++ [a]).Nodup
    refine List.nodup_append.mpr ⟨R.nd,by simp,fun b hb c hc e=>?_⟩
    have:c=a:=by simpa using hc
    subst this; subst e
    exact R.ap b hm hb
  · rcases D4.mp z with z | z
    · exact R.ap b (x.hidM b hb) z
    · have:b=a:=by simpa using z
      subst this; exact na0 hb
  · have h1:(ρ.tr ++ [a])[i]?=some b:=h1
    by_cases hi:i < st1.length
    · rw [D2 (by rw [R.len]; exact hi)] at h1
      rw [D2 hi] at h2
      have q:=R.cell i b c h1 h2
      cases c with
      | lst qs=>
        obtain ⟨us,e1,e2⟩:=q
        exact ⟨us,e1,e2.trk hm x.hidM⟩
      | dic qs=>
        obtain ⟨us,e1,e2⟩:=q
        exact ⟨us,e1,e2.1,e2.2.trk hm x.hidM⟩
      | dtp qs=>
        obtain ⟨us,e1,e2⟩:=q
        exact ⟨us,e1,e2.1,e2.2.trk hm x.hidM⟩
      | frd qs=>
        obtain ⟨us,e1,e2⟩:=q
        exact ⟨us,e1,e2.1,e2.2.trk hm x.hidM⟩
      | obj C qs=>
        obtain ⟨us,e1,e2⟩:=q
        exact ⟨us,e1,e2.1,e2.2.trk hm x.hidM⟩
    · rw [E2 (by rw [R.len]; omega)] at h1
      rw [E2 (by omega)] at h2
      have e0:i - st1.length=0:=by
        rcases Nat.eq_zero_or_pos (i - st1.length) with z | z
        · exact z
        · rw [List.getElem?_eq_none (by simp; omega)] at h2; cases h2
      rw [R.len,e0] at h1
      rw [e0] at h2
      simp at h1 h2
      subst h1; subst h2
      exact ⟨vs,ha,r.1,r.2.trk hm x.hidM⟩
  · show (ρ.tr ++ [a])[st1.length]?=some a
    rw [<- R.len,E2 (O4 _),Nat.sub_self]; rfl
end
section
variable {X:Cx} {E:XK} {k e:Expr} {mk m:ME} {dpos:Pos}
def disT (st:Q0) (pv:PV):PV->Res PV
  | .tup ps=>match keysT ps with
    | some ks=>.ok (.ref st.length) (st ++ [.dtp [(ks,pv)]])
    | none=>.stuck
  | _=>.stuck
def mDisp1T (mk m:ME):ME:=fun Γ st=>(mk Γ st).bind fun pk st1=>(m Γ st1).bind fun pv st2=>disT st2 pv pk
theorem se_disp1T (hu:X.A.units + 1 < cLine) (hk:SimE X E k mk) (he:SimE X E e m):SimE X E (.Dict [some k] [e] dpos) (mDisp1T mk m):=by
  refine ⟨fun Γ σ H ρ st Q R G h=>WE.of (pe_disp1T (by omega) Zs Zs) ?_⟩
  intro p hp
  have x0:Ext H ρ (upd H p (.dT [])) (ρ.hide p):=Ext.hide hp
  refine hk.use' (R.hide hp) (G.hide hp) (h.bind.later x0) fun a1 st1 H1 ρ1 v1 f1 x1 R1 G1 r1 _=>?_
  have h:=h
  unfold mDisp1T at h
  rw [f1] at h
  have h:Acc X.mg E H ρ (QV Q) ((m Γ st1).bind fun pv st2=>disT st2 pv a1):=h
  refine he.use' R1 G1 (h.bind.later (x0.trans x1)) fun a2 st2 H2 ρ2 v2 f2 x2 R2 G2 r2 _=>?_
  rw [f2] at h
  have h:Acc X.mg E H ρ (QV Q) (disT st2 a2 a1):=h
  unfold disT at h
  split at h
  · rename_i ps
    split at h
    · rename_i ks ek
      obtain ⟨b,vs,rfl,hb,nb,rl⟩:=r1
      have ev:=keysT_rep ek rl
      subst ev
      have hb2:H2 b=some (.tup (ks.map kV)):=x2.kp hb nb
      have xe:Ext (upd H p (.dT [])) (ρ.hide p) H2 ρ2:=x1.trans x2
      have pt0:p∉(ρ.hide p).tr:=fun z=>R.fresh hp (.inl z)
      have hp3:H2 p=some (.dT []):=xe.keep p _ Qu pt0
      have ph3:p∈ρ2.hid:=xe.hidM p E4
      refine ⟨ks,b,v2,rfl,hb2,hp3,?_⟩
      have y:Ext H ρ (upd H2 p (.dT [(ks,v2)])) ρ2:=(x0.trans xe).put0 hp
      have g2:=r2.rehide (o:=.dT [(ks,v2)]) ph3
      obtain ⟨x5,R5,r5⟩:=out_trkT (ps:=[(ks,a2)]) R y (R2.rehide ph3) ph3 hp Qu ⟨rfl,RepL.cons g2 RepL.nil⟩
      exact h _ _ x5 R5 _ r5
    · exact h.elim
  · exact h.elim
@[simp] theorem mDisp1T_eq (Γ:Gam) (st:Q0):mDisp1T mk m Γ st=(mk Γ st).bind fun pk st1=>(m Γ st1).bind fun pv st2=>disT st2 pv pk:=rfl
end
end Sm
namespace Sm
open PySem PySem.Spec L2
section
variable {X:Cx} {E:XK}
end
end Sm
namespace Sm
open PySem PySem.Spec L2
def setSrc (st:Q0):PV->Option (List Int)
  | .tup xs=>intsP xs
  | p=>(listOf st p).bind intsP
section
variable {X:Cx} {E:XK} {a:Expr} {ma:ME} {pos:Pos}
def mSortSet (ma:ME):ME:=fun Γ st=>(ma Γ st).bind fun p st1=>match setSrc st1 p with
  | some ns=>if ns.length<=4000/\(metK ns).length < 64 then .ok (.lst ((sortI (metK ns)).map PV.int)) st1 else .stuck
  | none=>.stuck
theorem lst_src {H:Hp} {ρ:Tk} {st:Q0} {p:PV} {v:V} {ns:List Int} {K:PySem.W.Frag} (R:Rel H ρ st) (r:Rep H ρ p v) (e:(listOf st p).bind intsP=some ns):∃ c,v=.ref c/\(SqL K H c (ns.map V.int)\/SqT K H c (ns.map V.int)):=by
  cases f1:listOf st p with
  | none=>rw [f1] at e; cases e
  | some xs=>
    rw [f1] at e
    obtain ⟨c,vs,rfl,hcl,rc⟩:=list_at R r f1
    obtain ⟨g1,_⟩:=ints_rep (show intsP xs=some ns from e) rc
    subst g1
    exact ⟨c,rfl,.inl (.inl hcl)⟩
theorem set_src {H:Hp} {ρ:Tk} {st:Q0} {p:PV} {v:V} {ns:List Int} {K:PySem.W.Frag} (R:Rel H ρ st) (r:Rep H ρ p v) (e:setSrc st p=some ns):∃ c,v=.ref c/\(SqL K H c (ns.map V.int)\/SqT K H c (ns.map V.int)):=by
  cases p with
  | tup xs=>
    obtain ⟨c,us,rfl,hc,_,ru⟩:=r
    obtain ⟨g1,_⟩:=ints_rep (show intsP xs=some ns from e) ru
    subst g1
    exact ⟨c,rfl,.inr (.inl (.inl hc))⟩
  | _=>exact lst_src R r e
theorem repL_intsS {H:Hp} {ρ:Tk}:∀ ns:List Int,RepL H ρ (ns.map PV.int) (ns.map V.int)
  | []=>rfl
  | n :: ns=>RepL.cons rfl (repL_intsS ns)
theorem se_sortset {p p' pos':Pos} (ha:SimE X E a ma) (hc:X.calm=true) (hg:Gl X "sorted") (hm:X.mg "sorted" = none) (hb0:bootBuiltins "sorted" = some (.builtin "sorted")) (hg':Gl X "set") (hm':X.mg "set" = none) (hb:bootBuiltins "set" = some (.type "set")) (he:starEach [a] X.env=(false,eval a X.env) :: starEach [] X.env:=by rfl)
    (he2:starEach [.Call (.Name "set" p') [a] [] pos'] X.env=(false,eval (.Call (.Name "set" p') [a] [] pos') X.env) :: starEach [] X.env:=by rfl):SimE X E (.Call (.Name "sorted" p) [.Call (.Name "set" p') [a] [] pos'] [] pos) (mSortSet ma):=
  ⟨fun Γ σ H ρ st Q R G hq=>WE.of (pe_callB (call_sortedG hc) hg hm hb0 (pa_cons (pe_callTy (call_setG hc) hg' hm' hb (pa_cons Zs pa_nil he) (by decide) (by decide) he rfl) pa_nil he2) (by decide) (by decide) he2 rfl) (ha.use' R G hq.bind fun q st1 H1 ρ1 v e1 x1 R1 G1 r1 h1=>by
    split at h1
    · rename_i ns f
      split at h1
      · rename_i hl
        obtain ⟨c,rfl,hs⟩:=set_src (K:=X.K) R1 r1 f
        refine ⟨c,ns,rfl,hs,hl.1,fun l hn=>⟨l,metK ns,rfl,Qu,hl.2,fun d hd=>?_⟩⟩
        have x2:Ext H1 ρ1 (upd H1 l (gset X.prog X.w l (metK ns))) (ρ1.hide l):=Ext.hide hn
        have R2:Rel (upd H1 l (gset X.prog X.w l (metK ns))) (ρ1.hide l) st1:=R1.hide hn (by intro _ z; unfold gset at z; cases z)
        exact h1 _ _ (x2.trans (Ext.add hd)) (R2.add hd) _ ⟨d,_,rfl,Qu,R2.fresh hd,repL_intsS _⟩
      · exact h1.elim
    · exact h1.elim)⟩
end
end Sm
namespace Sm
open PySem PySem.Spec PyProof.Rows L2
section
variable {X:Cx} {E:XK}
end
end Sm
namespace Sm
open PySem PySem.Spec L2 SeqAt
section
variable {X:Cx} {E:XK}
variable {o:Expr} {mo:ME} {apos cpos:Pos}
end
end Sm
namespace Sm
open PySem PySem.Spec L2 SeqAt
section
variable {X:Cx} {E:XK}
variable {e o i:Expr} {m mo mi:ME} {pos tpos:Pos}
end
end Sm
namespace L2
open PySem PySem.Spec PyProof.Rows
end L2
namespace Sm
open PySem PySem.Spec PyProof.Rows L2
section
variable {X:Cx} {E:XK} {pos:Pos} {e:Expr} {m:ME}
end
end Sm
namespace Sm
open PySem PySem.Spec PyProof.Rows L2
section
variable {X:Cx} {E:XK} {tg:Expr} {a b c:Expr} {mr:ML} {p pos:Pos}
end
end Sm
namespace Sm
open PySem PySem.Spec L2
section
variable {X:Cx} {E:XK} {o:Expr} {mo:ME} {apos cpos:Pos} {to:TE}
end
end Sm
namespace Sm
open PySem PySem.Spec L2
section
variable {X:Cx}
end
end Sm
namespace Sm
open PySem PySem.Spec L2
section
variable {H:Hp} {ρ:Tk}
end
section
variable {X:Cx} {E:XK} {o e:Expr} {es:List Expr} {mo m:ME} {mr:Gam->Q0->Res (List PV)} {C:Addr} {f:Str} {pos pos' apos p:Pos}
end
end Sm
namespace Sm
open PySem PySem.Spec L2
section
variable {X:Cx} {E:XK}
end
end Sm
namespace Sm
open PySem PySem.Spec L2
section
variable {X:Cx} {E:XK} {pos:Pos} {e:Expr} {m:ME}
end
section
end
end Sm
namespace Sm
open PySem PySem.Spec L2
section
variable {X:Cx} {E:XK}
end
end Sm
namespace Sm
open PySem PySem.Spec L2
section
variable {X:Cx} {pins pins':List (Addr × Obj)} {E:XK} {σ:St} {H:Hp} {s:Shared}
end
section
variable {X:Cx} {body:List Stmt} {mb:MS} {cn n:Str} {i:Nat} {CC:Addr} {np hpos pos:Pos} {b₀:Stmt} {suite:List Stmt} {ts:Addr->TS} {Γ:Gam} {σ:St} {H:Hp} {ρ:Tk} {st:Q0} {D:Ends}
end
section
variable {X:Cx} {E:XK}
end
end Sm
namespace Sm
open PySem PySem.Spec PyProof.Rows L2
section
variable {X:Cx} {E:XK}
end
end Sm
namespace Sm
open PySem PySem.Spec L2
def tgN:Expr->List Str
  | .Name x _=>[x]
  | .Tuple es _ _=>es.flatMap fun e=>match e with
    | .Name x _=>[x]
    | _=>[]
  | _=>[]
def compN (N:List Str) (tg:Expr) (cap:List (Option Nat)):List Str:=tgN tg ++ cap.filterMap fun o=>o.bind (N[·]?)
theorem nd_of {l:List Str} (h:decide l.Nodup=true):l.Nodup:=of_decide_eq_true h
structure KR (b:Bool):Prop where
  h:b=true
section
variable {X:Cx} {E:XK} {pos:Pos} {tg iter elt:Expr} {ifs:List Expr} {sc:Scope} {ga:GA} {mi:MI} {mt:MT} {me:ME} {cap:List (Option Nat)} {i:Nat} {x:Str} {px cpos:Pos}
theorem sn_compA (hcalm:X.calm=true) (hc:KR (compOkC X.N (compN X.N tg cap) sc X.env.scope cap)) (hs:∀ x,foldedSetIterable iter X.env x=pure x) (hf:FreeT cap ga) (hi:SimI X E tg iter mi) (hg:∀ cl C s0 H0 ex,SimG (blkC X (compN X.N tg cap) sc cl C s0 H0 ex) tg ga) (he:∀ cl C s0 H0 ex,SimE (blkC X (compN X.N tg cap) sc cl C s0 H0 ex) E0 elt me) (ht:∀ cl C s0 H0 ex,SimTs (blkC X (compN X.N tg cap) sc cl C s0 H0 ex) ifs mt):SimN X E (.ListComp elt [⟨tg,iter,ifs,0⟩] sc pos) (Z4 cap ga mi mt me):=
  sn_comp cap _ hcalm hi hg he ht hf rfl rfl hc.h hs
end
end Sm
namespace Sm
open PySem PySem.Spec L2
structure AtS (K:PySem.W.Frag) (mg:Str->Option Value) (name:Str) (st:Stmt) (ps:List Str) (f:Addr) (fd:FuncData):Prop where
  F:Fun K name name st f fd
  m:mg name=some (.ref f)
  b:Binds K fd ps []
theorem atS_mk {K:PySem.W.Frag} {mg:Str->Option Value} {h:Heap} {name:Str} {st:Stmt} {ps:List Str} {f:Addr} {oc:Value} {od an:Option Addr} {osl:Array (Option Value)} {kV doc pm cdv ct:Value} (X:K.In h) (G:h.Ns mainGlobals mg)
    (a:PySem.W.nsIn K mainGlobals name=some (some (.ref f))) (l:K.lookup f=some ⟨oc,od,.func (PySem.W.fnOf name name (defArgs st) (Jr st) (Q6 st) .none kV doc pm an cdv ct),osl⟩) (c:PySem.W.codeIn K cdv name=true) (k:PySem.W.keepIn K (.ref f)=true)
    (b:∀ (kV doc pm:Value) (an:Option Addr) (cdv ct:Value) (us:List Value),us.length=ps.length->bindArgs (PySem.W.fnOf name name (defArgs st) (Jr st) (Q6 st) .none kV doc pm an cdv ct) ⟨us,[]⟩=pure (ps.zip us)) :
    AtS K mg name st ps f (PySem.W.fnOf name name (defArgs st) (Jr st) (Q6 st) .none kV doc pm an cdv ct):=
  have F:=fun_mk (st:=st) l c k
  ⟨F,PySem.W.mg_of X G a,F.binds b⟩
theorem AtS.def {P:Program} {w:World} {K:PySem.W.Frag} {mg:Str->Option Value} {base:Heap} {name:Str} {st:Stmt} {ps:List Str} {f:Addr} {fd:FuncData} {k n:Nat} {F:FN} (a:AtS K mg name st ps f fd) (hn:ps.length=n) (G:FnOk P w K mg base (CXD P w) k f fd ps (spF mg n F)):DefS P w K mg base k name n F:=
  ⟨f,fd,ps,G,a.m,a.F.kp,a.b,hn⟩
def FL (K:PySem.W.Frag) (x ql:Str) (s:Stmt) (f:Addr):Prop:=∃ (oc:Value) (od:Option Addr) (kV dc pm:Value) (an:Option Addr) (cd ct:Value) (sl:Array (Option Value)),K.lookup f=some ⟨oc,od,.func (PySem.W.fnOf x ql (defArgs s) (Jr s) (Q6 s) .none kV dc pm an cd ct),sl⟩/\PySem.W.codeIn K cd ql=true/\PySem.W.keepIn K (.ref f)=true
theorem FL.fn {K:PySem.W.Frag} {x ql:Str} {s:Stmt} {f:Addr} (h:FL K x ql s f):∃ fd,Fun K x ql s f fd:=let ⟨_,_,_,_,_,_,_,_,_,l,c,k⟩:=h; ⟨_,fun_mk l c k⟩
def FA (K:PySem.W.Frag) (x:Str) (s:Stmt) (f:Addr):Prop:=PySem.W.nsIn K mainGlobals x=some (some (.ref f))/\FL K x x s f
theorem FA.mk {K:PySem.W.Frag} {x:Str} {s:Stmt} {f:Addr} {oc:Value} {od an:Option Addr} {sl:Array (Option Value)} {kV dc pm cd ct:Value} (a:PySem.W.nsIn K mainGlobals x=some (some (.ref f))) (l:K.lookup f=some ⟨oc,od,.func (PySem.W.fnOf x x (defArgs s) (Jr s) (Q6 s) .none kV dc pm an cd ct),sl⟩) (c:PySem.W.codeIn K cd x=true) (k:PySem.W.keepIn K (.ref f)=true):FA K x s f:=⟨a,_,_,_,_,_,_,_,_,_,l,c,k⟩
theorem ln1 {α:Type} {l:List α} (h:l.length=1):∃ a,l=[a]:=match l,h with | [_],_=>⟨_,rfl⟩
theorem ln2 {α:Type} {l:List α} (h:l.length=2):∃ a b,l=[a,b]:=match l,h with | [_,_],_=>⟨_,_,rfl⟩
theorem ln3 {α:Type} {l:List α} (h:l.length=3):∃ a b c,l=[a,b,c]:=match l,h with | [_,_,_],_=>⟨_,_,_,rfl⟩
theorem ln4 {α:Type} {l:List α} (h:l.length=4):∃ a b c d,l=[a,b,c,d]:=match l,h with | [_,_,_,_],_=>⟨_,_,_,_,rfl⟩
theorem ln5 {α:Type} {l:List α} (h:l.length=5):∃ a b c d e,l=[a,b,c,d,e]:=match l,h with | [_,_,_,_,_],_=>⟨_,_,_,_,_,rfl⟩
theorem ln6 {α:Type} {l:List α} (h:l.length=6):∃ a b c d e f,l=[a,b,c,d,e,f]:=match l,h with | [_,_,_,_,_,_],_=>⟨_,_,_,_,_,_,rfl⟩
theorem ln7 {α:Type} {l:List α} (h:l.length=7):∃ a b c d e f g,l=[a,b,c,d,e,f,g]:=match l,h with | [_,_,_,_,_,_,_],_=>⟨_,_,_,_,_,_,_,rfl⟩
theorem FL.bd {K:PySem.W.Frag} {x ql:Str} {s:Stmt} {f:Addr} {ps:List Str} (h:FL K x ql s f)
    (b:∀ (kV doc pm:Value) (an:Option Addr) (cdv ct:Value) (us:List Value),us.length=ps.length->bindArgs (PySem.W.fnOf x ql (defArgs s) (Jr s) (Q6 s) .none kV doc pm an cdv ct) ⟨us,[]⟩=pure (ps.zip us)):∃ fd,Fun K x ql s f fd/\Binds K fd ps []:=
  let ⟨_,F⟩:=h.fn
  ⟨_,F,F.binds b⟩
theorem atS2 {K:PySem.W.Frag} {mg:Str->Option Value} {h:Heap} {name:Str} {st:Stmt} {f:Addr} (ps:List Str) (X:K.In h) (G:h.Ns mainGlobals mg) (a:FA K name st f)
    (b:∀ (kV doc pm:Value) (an:Option Addr) (cdv ct:Value) (us:List Value),us.length=ps.length->bindArgs (PySem.W.fnOf name name (defArgs st) (Jr st) (Q6 st) .none kV doc pm an cdv ct) ⟨us,[]⟩=pure (ps.zip us):=by
      intro _ _ _ _ _ _ us hl
      first | (obtain ⟨_,rfl⟩:=ln1 hl; rfl) | (obtain ⟨_,_,rfl⟩:=ln2 hl; rfl) | (obtain ⟨_,_,_,rfl⟩:=ln3 hl; rfl) | (obtain ⟨_,_,_,_,rfl⟩:=ln4 hl; rfl) | (obtain ⟨_,_,_,_,_,rfl⟩:=ln5 hl; rfl) | (obtain ⟨_,_,_,_,_,_,rfl⟩:=ln6 hl; rfl) | (obtain ⟨_,_,_,_,_,_,_,rfl⟩:=ln7 hl; rfl)):∃ fd,AtS K mg name st ps f fd:=
  let ⟨a,l⟩:=a
  let ⟨_,F,B⟩:=l.bd b
  ⟨_,F,PySem.W.mg_of X G a,B⟩
theorem AtS.d {K:PySem.W.Frag} {mg:Str->Option Value} {name:Str} {st:Stmt} {ps:List Str} {f:Addr} {fd:FuncData} {k n:Nat} {F:FN} (a:AtS K mg name st ps f fd) (P:Program) (w:World) (base:Heap) (hn:ps.length=n) (G:FnOk P w K mg base (CXD P w) k f fd ps (spF mg n F)):DefS P w K mg base k name n F:=a.def hn G
def noL (K:PySem.W.Frag):Bool:=K.all fun p=>match p.2.data with
  | .seq _ _=>(match p.2.cls with
    | .type n=>!(n == ("list" : Str))
    | _=>true)
  | _=>true
theorem lookup_mem {K:PySem.W.Frag} {a:Addr} {o:Obj} (h:K.lookup a=some o):(a,o)∈K:=by
  induction K with
  | nil=>cases h
  | cons p K ih=>
    obtain ⟨b,u⟩:=p
    rw [List.lookup_cons] at h
    cases e:a == b with
    | true=>
      rw [e] at h
      have:a=b:=by simpa using e
      subst this
      cases h
      exact E4
    | false=>
      rw [e] at h
      exact O8 _ (ih h)
theorem noL_no {K:PySem.W.Frag} {a:Addr} {o:Obj} {its:Array Value} {n:Nat} (hL:noL K=true) (h:K.lookup a=some o) (hc:o.cls=.type "list") (hd:o.data=.seq its n):False:=by
  have:=L1.mp hL _ (lookup_mem h)
  simp [hc,hd] at this
theorem repL_ints {H:Hp} {ρ:Tk}:∀ ns:List Int,RepL H ρ (ns.map .int) (ns.map V.int)
  | []=>rfl
  | n :: ns=>⟨_,_,rfl,rfl,repL_ints ns⟩
theorem rel_nil (H:Hp):Rel H Tk.nil []:=⟨rfl,List.nodup_nil,fun a h=>(by cases h),fun a h=>(by cases h),fun i a c h=>(by simp [Tk.nil] at h)⟩
def spLawS (K:PySem.W.Frag):Sp:=fun vs H Q _=>∃ (a:Addr) (ns:List Int),vs=[.ref a]/\SqL K H a (ns.map V.int)/\ns.length<=63/\∀ H',Q (.bl true) H'
theorem law_imp {P:Program} {w:World} {K:PySem.W.Frag} {mg:Str->Option Value} {base:Heap} {CX:CXT} {k:Nat} {f:Addr} {fd:FuncData} {ps:List Str} {FL:FN} (hL:noL K=true) (F:FnOk P w K mg base CX k f fd ps (spF mg 1 FL)) (hlaw:∀ ns:List Int,ns.length<=63->∃ st',FL [.fro (ns.map .int)] []=.ok (.bl true) st'):FnOk P w K mg base CX k f fd ps (spLawS K):=F.imp fun vs H Q E ⟨a,ns,e,hS,hl,hQ⟩=>by
  subst e
  obtain ⟨st',hF⟩:=hlaw ns hl
  have hR:Rd H a (.lst (ns.map V.int)):=by
    rcases hS with h | ⟨o,its,n,h1,h2,h3,h4,_⟩
    · exact h
    · exact (noL_no hL h1 h2 h4).elim
  refine ⟨rfl,Tk.nil,[],[.fro (ns.map .int)],rel_nil H,⟨_,_,rfl,⟨a,_,rfl,hR,Tk.not_nil a,repL_ints ns⟩,rfl⟩,?_⟩
  rw [hF]
  intro H' ρ' x R v r
  have e:v=.bl true:=r
  subst e
  exact hQ H'
theorem cxd_none {P:Program} {w:World} {H:Hp} {s:Shared} {e:Value} {s':Shared} (h:CXD P w [] H s (fun _ _ _=>False) e s'):False:=by
  obtain ⟨_,_,_,_,_,_,_,_,_,z⟩:=h
  exact z
theorem walkS {l:PySem.W.OpenLaw} {k:Nat} {q:Program} {loose:List Str} {XP:(Str->Option Value)->Heap->Prop} {YP:World->Heap->Prop} {d:DefRec} {K:Params->PySem.W.Frag} (hn:l.most=some 63) (hr:Room k callerA) (hdf:d.params.defaults=[])
    (hY:∀ (w:World) (h:Heap),YP w h->(K w.params).In h)
    (F:∀ (w:World) (mg:Str->Option Value) (fa:Addr) (h:Heap),(K w.params).In h->h.Ns mainGlobals mg->mg d.name=some (.ref fa) ->
      ∃ fd:FuncData,(∀ (s:Shared) (u:Value),BindsTo s fd ⟨[u],[]⟩ [("script",u)])/\∀ base:Heap,(K w.params).In base->base.Ns mainGlobals mg->FnOk l.prog w (K w.params) mg base (CXD l.prog w) k fa fd ["script"] (spLawS (K w.params))) :
    PySem.W.WalkO q loose XP YP l.row.toRowW d [] (fun f vs=>PySem.call f vs):=
  L2.walk_of (n:=63) (k:=k) (x := "script") (CX:=fun w=>CXD l.prog w) (sp:=fun w=>spLawS (K w.params)) hn (by decide) hdf hr hY F (fun _ _ a ns hl _ hS=>⟨a,ns,rfl,hS,hl,fun _=>rfl⟩) fun _ _ _ _ _ z=>cxd_none z
end Sm
namespace Lw
open PySem PySem.Spec L2 Sm
def top (i:Nat):Stmt:=PySem.Challenge.pw_lendwharf_k55_falls_that_a_book_bears.main.body.getD i (.Pass ⟨0,0,0,0⟩)
abbrev s_is_whole:Stmt:=top 4
abbrev s_is_between:Stmt:=top 5
abbrev s_is_rising:Stmt:=top 6
abbrev s_is_sized_tuple:Stmt:=top 7
abbrev s_are_rising_houses:Stmt:=top 10
abbrev s_is_group:Stmt:=top 11
abbrev s_are_sets:Stmt:=top 12
abbrev s_is_book:Stmt:=top 13
abbrev s_need_book:Stmt:=top 14
abbrev s_meets:Stmt:=top 15
abbrev s_set_without:Stmt:=top 16
abbrev s_set_within:Stmt:=top 17
abbrev s_groups_of:Stmt:=top 18
abbrev s_paper_of:Stmt:=top 19
abbrev s_bears:Stmt:=top 20
abbrev s__law_e_stirred:Stmt:=top 22
abbrev s__law_e_digit:Stmt:=top 23
abbrev s__law_e_subset:Stmt:=top 24
abbrev s__law_e_sized:Stmt:=top 25
abbrev s__law_e_book:Stmt:=top 26
abbrev s__law_e_hit:Stmt:=top 27
abbrev s__law_e_within:Stmt:=top 28
abbrev s__law_e_is_stuck:Stmt:=top 29
abbrev s__law_e_houses:Stmt:=top 30
abbrev s__law_e_shows:Stmt:=top 31
abbrev s__law_e_bears:Stmt:=top 32
abbrev s__law_e_wide_book:Stmt:=top 33
abbrev s_law:Stmt:=top 34
structure Txt (mg:Str->Option Value):Prop where
  b_all:mg "all" = none
  b_any:mg "any" = none
  b_bool:mg "bool" = none
  b_int:mg "int" = none
  b_isinstance:mg "isinstance" = none
  b_len:mg "len" = none
  b_range:mg "range" = none
  b_set:mg "set" = none
  b_sorted:mg "sorted" = none
  b_tuple:mg "tuple" = none
  b_zip:mg "zip" = none
  c_MOST_HOUSES_OF_BOOK:∃ t,mg "MOST_HOUSES_OF_BOOK" = some (.int 9 t)
local macro_rules | `(tactic| fail "m")=>`(tactic| with_reducible first | apply se_var | apply sa_cons | apply sa_nil | apply se_int | apply sb_cons | apply sb_one | apply se_call | apply se_ix | apply ss_ret | apply se_op | apply st_cmp | apply sg_name | apply free_cons | apply free_name | apply free_nil | apply free_tup | apply sb_nil | apply se_and | apply se_bl | apply se_chain | apply se_cmp | apply se_disp1T | apply se_dispT | apply se_extend | apply se_gint | apply se_isi | apply se_lst | apply se_neg | apply se_non | apply se_not | apply se_one | apply se_slice | apply se_sortset | apply se_str | apply se_trk | apply se_tup | apply se_val | apply sg_tup | apply sgs_cons | apply sgs_nil | apply si_range1 | apply si_seq | apply si_zip | apply sn_lst | apply so_none | apply so_some | apply ss_break | apply ss_dputT | apply ss_expr | apply ss_for | apply ss_if | apply ss_raise | apply ss_sub | apply st_not | apply st_val | apply sts_nil | apply sts_one | apply sw_and | apply sw_and1 | apply sw_or | apply sw_or1 | refine se_callT (T := "tuple") (o:=Za) ?_ ?_ ?_ ?_ ?_ ?_ ?_ ?_ ?_ | apply se_callB | apply sn_compA | apply SimW.t)
local macro_rules | `(tactic| fail "o")=>`(tactic| first | (with_reducible first | apply cs_all | apply cs_any | apply cs_len | apply cs_lenT | apply cs_sortD | apply cs_sortV | apply cs_tuple | apply os_add | apply os_div | apply os_eq | apply os_ge | apply os_gt | apply os_in | apply os_is | apply os_isnot | apply os_le | apply os_lt | apply os_mod | apply os_mul | apply os_ne | apply os_notin | apply os_pow | apply os_sub))
local macro_rules | `(tactic| fail "r")=>`(tactic| first | rfl | assumption | decide | exact .inl rfl | exact .inr rfl | exact .inr (.inl rfl) | exact .inr (.inr rfl) | exact fun _=>rfl | exact fun _ _=>rfl | exact fun _ _ _=>rfl | exact ⟨by kernel_rfl⟩ | exact nomark _ | exact Room.mono ‹_› (by decide) | exact pass_onD | exact pass00D | exact PassesOwn.leaving | exact FnScope.nd ‹_› | exact nd_of (by kernel_rfl) | exact room_u1 ‹_› | exact Room.units ‹_› | exact raiseDok | with_unfolding_all rfl)
local macro_rules | `(tactic| fail "s")=>`(tactic| first | (with_reducible first | exact PySem.boot_len | exact boot_all | exact boot_any | exact boot_bool | exact boot_int | exact boot_set | exact boot_sorted | exact boot_tuple) | rfl | (fail "m" <;> fail "s") | (fail "o" <;> fail "r") | ((first | apply ss_compVA | apply ss_compTA | apply ss_set) <;> fail "s") | fail "r" | (intro _ _ _ _ _; fail "s"))
local macro_rules | `(tactic| fail "k")=>`(tactic| (refine fun_ok2 ‹_› ‹_› rfl rfl rfl ?_; fail "j"))
local macro_rules | `(tactic| fail "K")=>`(tactic| (refine fun_ok2K ‹_› ‹_› rfl rfl rfl ?_; fail "j"))
local macro_rules | `(tactic| fail "j")=>`(tactic| (intros; rcases ‹Txt _› with ⟨_,_,_,_,_,_,_,_,_,_,_,⟨_,_⟩⟩; show SimB _ _ (_ :: _) _; fail "s"))
local macro_rules | `(tactic| fail "c")=>`(tactic| exact ⟨rfl,rfl,rfl,by decide +kernel,rfl,by decide +kernel,by decide +kernel⟩)
section
variable {P:Program} {w:World} {K:PySem.W.Frag} {mg:Str->Option Value} {base:Heap}
def m_is_whole:MS:=(Qw (mAnd (mIsI "int" (Q3 0)) (mNot (mIsI "bool" (Q3 0)))))
def F_is_whole:FN:=Qd m_is_whole 1
theorem ok_is_whole {f:Addr} {fd:FuncData} (F:Fun K "is_whole" "is_whole" s_is_whole f fd) (T:Txt mg)   : FnOk P w K mg base (CXD P w) 1 f fd ["thing"] (spF mg 1 F_is_whole):=by
  have:FnScope ["thing"] ["thing"] (Q6 s_is_whole):=by fail "c"
  delta F_is_whole m_is_whole
  fail "k"
def m_is_between:MS:=(Qw (mAnd (Qc 1 F_is_whole (Q2 (Q3 0) Q9)) (mChain (oI fun a b=>.bl (decide (a<=b))) (oI fun a b=>.bl (decide (a<=b))) (Q3 1) (Q3 0) (Q3 2))))
def Z3:FN:=Qd m_is_between 3
theorem ok_is_between {f:Addr} {fd:FuncData} (F:Fun K "is_between" "is_between" s_is_between f fd) (T:Txt mg)  (D_is_whole:DefS P w K mg base 1 "is_whole" 1 F_is_whole):FnOk P w K mg base (CXD P w) 2 f fd ["thing", "least", "most"] (spF mg 3 Z3):=by
  have:FnScope ["thing", "least", "most"] ["thing", "least", "most"] (Q6 s_is_between):=by fail "c"
  delta Z3 m_is_between
  fail "k"
def e_is_rising_1:ME:=(mOp oLt (Q3 0) (Q3 1))
def m_is_rising:MS:=(Qw (Qg (cBls fun ns=>.bl (ns.all id)) (Q2 (mVal (Z4 [none,none] (gaTup (gaCons (Qa 0) (gaCons (Qa 1) gaNil))) (mZip (Q2 (Q3 0) (Q2 (mSl (Q3 0) (mPart (mC (.int 1))) mNoPart) Q9))) mTrue e_is_rising_1)) Q9)))
def Zf:FN:=Qd m_is_rising 1
theorem ok_is_rising {f:Addr} {fd:FuncData} (F:Fun K "is_rising" "is_rising" s_is_rising f fd) (T:Txt mg)   : FnOk P w K mg base (CXD P w) 1 f fd ["things"] (spF mg 1 Zf):=by
  have:FnScope ["things"] ["things"] (Q6 s_is_rising):=by fail "c"
  delta Zf m_is_rising e_is_rising_1
  fail "k"
def m_is_sized_tuple:MS:=(Qw (mAnd (mIsI "tuple" (Q3 0)) (mChain (oI fun a b=>.bl (decide (a<=b))) (oI fun a b=>.bl (decide (a<=b))) (Q3 1) (Qg cLen (Q2 (Q3 0) Q9)) (Q3 2))))
def Zd:FN:=Qd m_is_sized_tuple 3
theorem ok_is_sized_tuple {f:Addr} {fd:FuncData} (F:Fun K "is_sized_tuple" "is_sized_tuple" s_is_sized_tuple f fd) (T:Txt mg)   : FnOk P w K mg base (CXD P w) 1 f fd ["thing", "least", "most"] (spF mg 3 Zd):=by
  have:FnScope ["thing", "least", "most"] ["thing", "least", "most"] (Q6 s_is_sized_tuple):=by fail "c"
  delta Zd m_is_sized_tuple
  fail "k"
def Jq:ME:=(Qc 3 Z3 (Q2 (Q3 0) (Q2 (mC (.int 0)) (Q2 (mOp (oI fun a b=>.int (a - b)) (Q3 1) (mC (.int 1))) Q9))))
def m_are_rising_houses : MS := (Qb (Ja (tNotM (toB (mIsI "tuple" (Q3 1)))) (Qw (mC (.bl false))) Qp)
    (Qw (mAnd (Qg (cBls fun ns=>.bl (ns.all id)) (Q2 (mVal (Z4 [none,some 0] (Qa 0) (mSeq (Q3 1)) mTrue Jq)) Q9)) (Qc 1 Zf (Q2 (Q3 1) Q9)))))
def Qz:FN:=Qd m_are_rising_houses 2
theorem ok_are_rising_houses {f:Addr} {fd:FuncData} (F:Fun K "are_rising_houses" "are_rising_houses" s_are_rising_houses f fd) (T:Txt mg)  (D_is_between:DefS P w K mg base 2 "is_between" 3 Z3) (D_is_rising:DefS P w K mg base 1 "is_rising" 1 Zf):FnOk P w K mg base (CXD P w) 3 f fd ["n", "thing"] (spF mg 2 Qz):=by
  have:FnScope ["n", "thing"] ["n", "thing"] (Q6 s_are_rising_houses):=by fail "c"
  delta Qz m_are_rising_houses Jq
  fail "k"
def m_is_group:MS:=(Qw (mAnd (Qc 2 Qz (Q2 (Q3 0) (Q2 (Q3 1) Q9))) (mOp (oI fun a b=>.bl (decide (b < a))) (Qg cLen (Q2 (Q3 1) Q9)) (mC (.int 0)))))
def F_is_group:FN:=Qd m_is_group 2
theorem ok_is_group {f:Addr} {fd:FuncData} (F:Fun K "is_group" "is_group" s_is_group f fd) (T:Txt mg)  (D_are_rising_houses:DefS P w K mg base 3 "are_rising_houses" 2 Qz):FnOk P w K mg base (CXD P w) 4 f fd ["n", "thing"] (spF mg 2 F_is_group):=by
  have:FnScope ["n", "thing"] ["n", "thing"] (Q6 s_is_group):=by fail "c"
  delta F_is_group m_is_group
  fail "k"
def e_are_sets_1:ME:=(Qc 2 F_is_group (Q2 (Q3 1) (Q2 (Q3 0) Q9)))
def m_are_sets : MS := (Qb (Ja (tOrM (tNotM (toB (mIsI "tuple" (Q3 1)))) (toB (mOp oEq (Qg cLen (Q2 (Q3 1) Q9)) (mC (.int 0))))) (Qw (mC (.bl false))) Qp)
    (Qw (mAnd (Qg (cBls fun ns=>.bl (ns.all id)) (Q2 (mVal (Z4 [none,some 0] (Qa 0) (mSeq (Q3 1)) mTrue e_are_sets_1)) Q9)) (Qc 1 Zf (Q2 (Q3 1) Q9)))))
def F_are_sets:FN:=Qd m_are_sets 2
theorem ok_are_sets {f:Addr} {fd:FuncData} (F:Fun K "are_sets" "are_sets" s_are_sets f fd) (T:Txt mg)  (D_is_group:DefS P w K mg base 4 "is_group" 2 F_is_group) (D_is_rising:DefS P w K mg base 1 "is_rising" 1 Zf):FnOk P w K mg base (CXD P w) 5 f fd ["n", "thing"] (spF mg 2 F_are_sets):=by
  have:FnScope ["n", "thing"] ["n", "thing"] (Q6 s_are_sets):=by fail "c"
  delta F_are_sets m_are_sets e_are_sets_1
  fail "k"
def m_is_book : MS := (Qb (Ja (tNotM (toB (Qc 3 Zd (Q2 (Q3 0) (Q2 (mC (.int 2)) (Q2 (mC (.int 2)) Q9)))))) (Qw (mC (.bl false))) Qp)
    (Qw (mAnd (Qc 3 Z3 (Q2 (mOp oIx (Q3 0) (mC (.int 0))) (Q2 (mC (.int 1)) (Q2 (mC (.int 9)) Q9)))) (Qc 2 F_are_sets (Q2 (mOp oIx (Q3 0) (mC (.int 0))) (Q2 (mOp oIx (Q3 0) (mC (.int 1))) Q9))))))
def F_is_book:FN:=Qd m_is_book 1
theorem ok_is_book {f:Addr} {fd:FuncData} (F:Fun K "is_book" "is_book" s_is_book f fd) (T:Txt mg)  (D_is_sized_tuple:DefS P w K mg base 1 "is_sized_tuple" 3 Zd) (D_is_between:DefS P w K mg base 2 "is_between" 3 Z3) (D_are_sets:DefS P w K mg base 5 "are_sets" 2 F_are_sets):FnOk P w K mg base (CXD P w) 6 f fd ["thing"] (spF mg 1 F_is_book):=by
  have:FnScope ["thing"] ["thing"] (Q6 s_is_book):=by fail "c"
  delta F_is_book m_is_book
  fail "k"
def m_need_book:MS:=(Ja (tNotM (toB (Qc 1 F_is_book (Q2 (Q3 0) Q9)))) (mRaise "NoBook" (mC (.str "this is no book"))) Qp)
def F_need_book:FN:=Qd m_need_book 1
theorem ok_need_book {f:Addr} {fd:FuncData} (F:Fun K "need_book" "need_book" s_need_book f fd) (T:Txt mg) (C_NoBook:∃ C,mg "NoBook" = some (.ref C)/\PySem.W.excIn K C bmVE "ValueError.__new__" = true) (D_is_book:DefS P w K mg base 6 "is_book" 1 F_is_book):FnOk P w K mg base (CXD P w) 7 f fd ["book"] (spF mg 1 F_need_book):=by
  obtain ⟨_,_,_⟩:=C_NoBook
  have:FnScope ["book"] ["book"] (Q6 s_need_book):=by fail "c"
  delta F_need_book m_need_book
  fail "k"
def e_meets_1:ME:=(mOp (oIn false) (Q3 0) (Q3 1))
def m_meets:MS:=(Qw (Qg (cBls fun ns=>.bl (ns.any id)) (Q2 (mVal (Z4 [none,some 1] (Qa 0) (mSeq (Q3 0)) mTrue e_meets_1)) Q9)))
def F_meets:FN:=Qd m_meets 2
theorem ok_meets {f:Addr} {fd:FuncData} (F:Fun K "meets" "meets" s_meets f fd) (T:Txt mg)   : FnOk P w K mg base (CXD P w) 1 f fd ["houses", "one"] (spF mg 2 F_meets):=by
  have:FnScope ["houses", "one"] ["houses", "one"] (Q6 s_meets):=by fail "c"
  delta F_meets m_meets e_meets_1
  fail "k"
def Qh:MS:=(Ja (tNotM (toB (Qc 2 F_meets (Q2 (Q3 1) (Q2 (Q3 2) Q9))))) (Qw (Q3 2)) Qp)
def Zq : MS := (Qb (mFor (Qa 2) (mSeq (mOp oIx (Q3 0) (mC (.int 1)))) Qh)
    (Qw (mC .non)))
def Z7:FN:=Qd Zq 3
theorem ok_set_without {f:Addr} {fd:FuncData} (F:Fun K "set_without" "set_without" s_set_without f fd) (T:Txt mg)  (D_meets:DefS P w K mg base 1 "meets" 2 F_meets):FnOk P w K mg base (CXD P w) 2 f fd ["book", "houses"] (spF mg 2 Z7):=by
  have:FnScope ["book", "houses", "one"] ["book", "houses"] (Q6 s_set_without):=by fail "c"
  delta Z7 Zq Qh
  fail "k"
def e_set_within_1:ME:=(mOp (oIn false) (Q3 0) (Q3 1))
def Jm:MS:=(Ja (toB (Qg (cBls fun ns=>.bl (ns.all id)) (Q2 (mVal (Z4 [none,some 1] (Qa 0) (mSeq (Q3 2)) mTrue e_set_within_1)) Q9))) (Qw (Q3 2)) Qp)
def m_set_within : MS := (Qb (mFor (Qa 2) (mSeq (mOp oIx (Q3 0) (mC (.int 1)))) Jm)
    (Qw (mC .non)))
def F_set_within:FN:=Qd m_set_within 3
theorem ok_set_within {f:Addr} {fd:FuncData} (F:Fun K "set_within" "set_within" s_set_within f fd) (T:Txt mg)   : FnOk P w K mg base (CXD P w) 1 f fd ["book", "houses"] (spF mg 2 F_set_within):=by
  have:FnScope ["book", "houses", "one"] ["book", "houses"] (Q6 s_set_within):=by fail "c"
  delta F_set_within m_set_within Jm e_set_within_1
  fail "k"
def e_groups_of_1:ME:=(mOp oAdd (Q3 1) (mTup (Q2 (Q3 0) Q9)))
def t_groups_of_1:MT:=(tOrM (toB (mOp oEq (Qg cLen (Q2 (Q3 1) Q9)) (mC (.int 0)))) (toB (mOp (oI fun a b=>.bl (decide (b < a))) (Q3 0) (mOp oIx (Q3 1) (mNeg (mC (.int 1)))))))
def b_groups_of_2:MS:=(mExpr (mBM mtExtend (Q3 4) (Q2 (mVal (Z4 [none,some 5] (Qa 0) (Zh (Q2 (Q3 0) Q9)) t_groups_of_1 e_groups_of_1)) Q9)))
def b_groups_of_1 : MS := (Qb (J7 4 (mTrk (mLstN Q9)))
    (Qb (mFor (Qa 5) (mSeq (Q3 2)) b_groups_of_2)
    (J7 2 (Q3 4))))
def m_groups_of : MS := (Qb (J7 2 (mLst (Q2 (mTup Q9) Q9)))
    (Qb (mFor (Qa 3) (Zh (Q2 (Q3 1) Q9)) b_groups_of_1)
    (Qw (Q3 2))))
def F_groups_of:FN:=Qd m_groups_of 6
theorem ok_groups_of {f:Addr} {fd:FuncData} (F:Fun K "groups_of" "groups_of" s_groups_of f fd) (T:Txt mg)   : FnOk P w K mg base (CXD P w) 1 f fd ["n", "size"] (spF mg 2 F_groups_of):=by
  have:FnScope ["n", "size", "groups", "times", "longer", "group"] ["n", "size"] (Q6 s_groups_of):=by fail "c"
  delta F_groups_of m_groups_of b_groups_of_1 b_groups_of_2 t_groups_of_1 e_groups_of_1
  fail "k"
def Z0 : MS := (Qb (Ja (toB (mOp oIs (Qc 2 Z7 (Q2 (Q3 0) (Q2 (Q3 2) Q9))) (mC .non))) (Qw (mTup (Q2 (mC (.str "stuck")) (Q2 (Q3 2) Q9)))) Qp)
    (Qb (J7 3 (Qc 2 F_set_within (Q2 (Q3 0) (Q2 (Q3 2) Q9))))
    (Ja (toB (mOp oIsNot (Q3 3) (mC .non))) (Qw (mTup (Q2 (mC (.str "blind")) (Q2 (Q3 2) (Q2 (Q3 3) Q9))))) Qp)))
def m_paper_of : MS := (Qb (mFor (Qa 2) (mSeq (Qc 2 F_groups_of (Q2 (mOp oIx (Q3 0) (mC (.int 0))) (Q2 (Q3 1) Q9)))) Z0)
    (Qw (mTup (Q2 (mC (.str "bears")) (Q2 (Q3 1) Q9)))))
def F_paper_of:FN:=Qd m_paper_of 4
theorem ok_paper_of {f:Addr} {fd:FuncData} (F:Fun K "paper_of" "paper_of" s_paper_of f fd) (T:Txt mg)  (D_groups_of:DefS P w K mg base 1 "groups_of" 2 F_groups_of) (D_set_without:DefS P w K mg base 2 "set_without" 2 Z7) (D_set_within:DefS P w K mg base 1 "set_within" 2 F_set_within):FnOk P w K mg base (CXD P w) 3 f fd ["book", "f"] (spF mg 2 F_paper_of):=by
  have:FnScope ["book", "f", "gone", "unmet"] ["book", "f"] (Q6 s_paper_of):=by fail "c"
  delta F_paper_of m_paper_of Z0
  fail "k"
def m_bears : MS := (Qb (mExpr (Qc 1 F_need_book (Q2 (Q3 0) Q9)))
    (Qw (Qc 2 F_paper_of (Q2 (Q3 0) (Q2 (Q3 1) Q9)))))
def F_bears:FN:=Qd m_bears 2
theorem ok_bears {f:Addr} {fd:FuncData} (F:Fun K "bears" "bears" s_bears f fd) (T:Txt mg)  (D_need_book:DefS P w K mg base 7 "need_book" 1 F_need_book) (D_paper_of:DefS P w K mg base 3 "paper_of" 2 F_paper_of):FnOk P w K mg base (CXD P w) 8 f fd ["book", "f"] (spF mg 2 F_bears):=by
  have:FnScope ["book", "f"] ["book", "f"] (Q6 s_bears):=by fail "c"
  delta F_bears m_bears
  fail "k"
def m__law_e_stirred : MS := (Qb (Ja (toB (mOp (oI fun a b => .bl (decide (b <= a))) (Q3 0) (mOp oPow (mC (.int 10)) (mC (.int 18))))) (Qw (Q3 0)) Qp)
    (Qb (J7 2 (mOp oMod (mOp oAdd (mOp oAdd (mOp oMul (mOp oMod (Q3 0) (mC (.int 998244353))) (mC (.int 51749))) (mOp oMul (Q3 1) (mC (.int 7919)))) (mC (.int 3))) (mC (.int 1000000007))))
    (Qb (J7 3 (mOp oMod (mOp oAdd (mOp oAdd (mOp oAdd (mOp oMul (Q3 2) (Q3 2)) (mOp oMul (mC (.int 32749)) (Q3 2))) (Q3 1)) (mC (.int 5))) (mC (.int 2147483629))))
    (Qb (J7 4 (mOp oMod (mOp oAdd (mOp oAdd (mOp oMul (Q3 3) (Q3 3)) (mOp oMul (mC (.int 61)) (Q3 1))) (Q3 2)) (mC (.int 2147483587))))
    (Qw (mOp oAdd (mOp oMul (Q3 3) (mC (.int 2147483587))) (Q3 4)))))))
def Qt:FN:=Qd m__law_e_stirred 5
theorem ok__law_e_stirred {f:Addr} {fd:FuncData} (F:Fun K "_law_e_stirred" "_law_e_stirred" s__law_e_stirred f fd) (T:Txt mg)   : FnOk P w K mg base (CXD P w) 1 f fd ["cell", "place"] (spF mg 2 Qt):=by
  have:FnScope ["cell", "place", "first", "second", "third"] ["cell", "place"] (Q6 s__law_e_stirred):=by fail "c"
  delta Qt m__law_e_stirred
  fail "k"
def m__law_e_digit : MS := (Qb (Ja (toB (mOp oLt (mOp oIx (Q3 0) (mC (.int 2))) (Q3 1))) (Qb (J7 2 (mOp oIx (Q3 0) (mC (.int 1))))
    (Qb (J7 3 (Q3 2))
    (Qb (Ja (toB (mOp oLt (Q3 2) (Qg cLen (Q2 (mOp oIx (Q3 0) (mC (.int 0))) Q9)))) (J7 3 (mOp oIx (mOp oIx (Q3 0) (mC (.int 0))) (Q3 2))) (Ja (toB (mOp (oI fun a b=>.bl (decide (b < a))) (Qg cLen (Q2 (mOp oIx (Q3 0) (mC (.int 0))) Q9)) (mC (.int 0)))) (J7 3 (mOp oAdd (mOp oMod (mOp oIx (mOp oIx (Q3 0) (mC (.int 0))) (mOp oMod (mOp oMul (Q3 2) (mC (.int 3))) (Qg cLen (Q2 (mOp oIx (Q3 0) (mC (.int 0))) Q9)))) (mOp oPow (mC (.int 10)) (mC (.int 9)))) (mOp oMul (Q3 2) (mC (.int 1000000))))) Qp))
    (Qb (mSetIx (Q3 0) (mC (.int 1)) (mOp oAdd (Q3 2) (mC (.int 1))))
    (mSetIx (Q3 0) (mC (.int 2)) (Qc 2 Qt (Q2 (Q3 3) (Q2 (Q3 2) Q9)))))))) Qp)
    (Qb (J7 4 (mOp oMod (mOp oIx (Q3 0) (mC (.int 2))) (Q3 1)))
    (Qb (mSetIx (Q3 0) (mC (.int 2)) (mOp oDiv (mOp oIx (Q3 0) (mC (.int 2))) (Q3 1)))
    (Qw (Q3 4)))))
def Q5:FN:=Qd m__law_e_digit 5
theorem ok__law_e_digit {f:Addr} {fd:FuncData} (F:Fun K "_law_e_digit" "_law_e_digit" s__law_e_digit f fd) (T:Txt mg)  (D__law_e_stirred:DefS P w K mg base 1 "_law_e_stirred" 2 Qt):FnOk P w K mg base (CXD P w) 2 f fd ["tape", "many"] (spF mg 2 Q5):=by
  have:FnScope ["tape", "many", "place", "cell", "digit"] ["tape", "many"] (Q6 s__law_e_digit):=by fail "c"
  delta Q5 m__law_e_digit
  fail "k"
def Jz:ME:=(Q3 0)
def Jw:MT:=(toB (mOp oEq (Qc 2 Q5 (Q2 (Q3 1) (Q2 (mC (.int 2)) Q9))) (mC (.int 0))))
def Zj:MS:=(Qw (Qg Za (Q2 (mVal (Z4 [none,some 0] (Qa 0) (Zh (Q2 (Q3 1) Q9)) Jw Jz)) Q9)))
def J3:FN:=callK Zj 2
theorem ok__law_e_subset {f:Addr} {fd:FuncData} (F:Fun K "_law_e_subset" "_law_e_subset" s__law_e_subset f fd) (T:Txt mg)  (D__law_e_digit:DefS P w K mg base 2 "_law_e_digit" 2 Q5):FnOk P w K mg base (CXD P w) 3 f fd ["tape", "n"] (spF mg 2 J3):=by
  have:FnScope ["tape", "n"] ["tape", "n"] (Q6 s__law_e_subset):=by fail "c"
  delta J3 Zj Jw Jz
  fail "K"
def e__law_e_sized_1:ME:=(mOp oAdd (Q3 0) (mTup (Q2 (Q3 1) Q9)))
def Zb:MS:=(J7 2 (mOp oAdd (Q3 2) (mVal (Z4 [none,some 3] (Qa 0) (mSeq (Q3 2)) mTrue e__law_e_sized_1))))
def e__law_e_sized_2:ME:=(Q3 0)
def t__law_e_sized_2:MT:=(toB (mOp oEq (Qg cLen (Q2 (Q3 0) Q9)) (Q3 1)))
def m__law_e_sized : MS := (Qb (J7 2 (mLst (Q2 (mTup Q9) Q9)))
    (Qb (mFor (Qa 3) (Zh (Q2 (Q3 0) Q9)) Zb)
    (Qw (Qg cSortV (Q2 (mVal (Z4 [none,some 1] (Qa 0) (mSeq (Q3 2)) t__law_e_sized_2 e__law_e_sized_2)) Q9)))))
def Qx:FN:=Qd m__law_e_sized 4
theorem ok__law_e_sized {f:Addr} {fd:FuncData} (F:Fun K "_law_e_sized" "_law_e_sized" s__law_e_sized f fd) (T:Txt mg)   : FnOk P w K mg base (CXD P w) 1 f fd ["n", "many"] (spF mg 2 Qx):=by
  have:FnScope ["n", "many", "found", "house"] ["n", "many"] (Q6 s__law_e_sized):=by fail "c"
  delta Qx m__law_e_sized t__law_e_sized_2 e__law_e_sized_2 Zb e__law_e_sized_1
  fail "k"
def Jv:ME:=(Q3 0)
def Jt:MT:=(toB (mOp (oI fun a b=>.bl (decide (b < a))) (Qc 2 Q5 (Q2 (Q3 1) (Q2 (mC (.int 4)) Q9))) (mC (.int 0))))
def Jb : MS := (Qb (J7 6 (Qc 2 J3 (Q2 (Q3 0) (Q2 (Q3 2) Q9))))
    (Qb (Ja (toB (mOp oEq (Q3 3) (mC (.int 1)))) (J7 6 (Qg Za (Q2 (mVal (Z4 [none,some 0] (Qa 0) (Zh (Q2 (Q3 2) Q9)) Jt Jv)) Q9))) Qp)
    (Ja (toB (mOp oNe (Q3 6) (mTup Q9))) (mDPutT (Q3 4) (Q3 6) (mC (.bl true))) Qp)))
def Zr : MS := (Qb (J7 2 (mOp oAdd (mC (.int 1)) (Qc 2 Q5 (Q2 (Q3 0) (Q2 (Q3 1) Q9)))))
    (Qb (J7 3 (Qc 2 Q5 (Q2 (Q3 0) (Q2 (mC (.int 4)) Q9))))
    (Qb (Ja (toB (mOp oEq (Q3 3) (mC (.int 0)))) (Qw (mTup (Q2 (Q3 2) (Q2 (Qg Za (Q2 (Qc 2 Qx (Q2 (Q3 2) (Q2 (mOp oAdd (mC (.int 1)) (Qc 2 Q5 (Q2 (Q3 0) (Q2 (Q3 2) Q9)))) Q9))) Q9)) Q9)))) Qp)
    (Qb (J7 4 mDispT)
    (Qb (mFor (Qa 5) (Zh (Q2 (mOp oAdd (mC (.int 1)) (Qc 2 Q5 (Q2 (Q3 0) (Q2 (mC (.int 6)) Q9)))) Q9)) Jb)
    (Qb (Ja (toB (mOp oEq (Qg cLenT (Q2 (Q3 4) Q9)) (mC (.int 0)))) (mDPutT (Q3 4) (mTup (Q2 (mOp (oI fun a b=>.int (a - b)) (Q3 2) (mC (.int 1))) Q9)) (mC (.bl true))) Qp)
    (Qw (mTup (Q2 (Q3 2) (Q2 (Qg Za (Q2 (Qg cSortD (Q2 (Q3 4) Q9)) Q9)) Q9))))))))))
def Z8:FN:=callK Zr 7
theorem ok__law_e_book {f:Addr} {fd:FuncData} (F:Fun K "_law_e_book" "_law_e_book" s__law_e_book f fd) (T:Txt mg)  (D__law_e_digit:DefS P w K mg base 2 "_law_e_digit" 2 Q5) (D__law_e_sized:DefS P w K mg base 1 "_law_e_sized" 2 Qx) (D__law_e_subset:DefS P w K mg base 3 "_law_e_subset" 2 J3):FnOk P w K mg base (CXD P w) 4 f fd ["tape", "most"] (spF mg 2 Z8):=by
  have:FnScope ["tape", "most", "n", "way", "sets", "turn", "one"] ["tape", "most"] (Q6 s__law_e_book):=by fail "c"
  delta Z8 Zr Jb Jt Jv
  fail "K"
def b__law_e_hit_1:MS:=(Ja (toB (mOp (oIn false) (Q3 2) (Q3 1))) (Qw (mC (.bl true))) Qp)
def m__law_e_hit : MS := (Qb (mFor (Qa 2) (mSeq (Q3 0)) b__law_e_hit_1)
    (Qw (mC (.bl false))))
def F__law_e_hit:FN:=Qd m__law_e_hit 3
theorem ok__law_e_hit {f:Addr} {fd:FuncData} (F:Fun K "_law_e_hit" "_law_e_hit" s__law_e_hit f fd) (T:Txt mg)   : FnOk P w K mg base (CXD P w) 1 f fd ["one", "some"] (spF mg 2 F__law_e_hit):=by
  have:FnScope ["one", "some", "house"] ["one", "some"] (Q6 s__law_e_hit):=by fail "c"
  delta F__law_e_hit m__law_e_hit b__law_e_hit_1
  fail "k"
def Z1:MS:=(Ja (toB (mOp (oIn true) (Q3 2) (Q3 1))) (Qw (mC (.bl false))) Qp)
def Ju : MS := (Qb (mFor (Qa 2) (mSeq (Q3 0)) Z1)
    (Qw (mC (.bl true))))
def Jc:FN:=Qd Ju 3
theorem ok__law_e_within {f:Addr} {fd:FuncData} (F:Fun K "_law_e_within" "_law_e_within" s__law_e_within f fd) (T:Txt mg)   : FnOk P w K mg base (CXD P w) 1 f fd ["one", "some"] (spF mg 2 Jc):=by
  have:FnScope ["one", "some", "house"] ["one", "some"] (Q6 s__law_e_within):=by fail "c"
  delta Jc Ju Z1
  fail "k"
def Je:MS:=(Ja (tNotM (toB (Qc 2 F__law_e_hit (Q2 (Q3 2) (Q2 (Q3 1) Q9))))) (Qw (mC (.bl false))) Qp)
def J8 : MS := (Qb (mFor (Qa 2) (mSeq (mOp oIx (Q3 0) (mC (.int 1)))) Je)
    (Qw (mC (.bl true))))
def Qy:FN:=Qd J8 3
theorem ok__law_e_is_stuck {f:Addr} {fd:FuncData} (F:Fun K "_law_e_is_stuck" "_law_e_is_stuck" s__law_e_is_stuck f fd) (T:Txt mg)  (D__law_e_hit:DefS P w K mg base 1 "_law_e_hit" 2 F__law_e_hit):FnOk P w K mg base (CXD P w) 2 f fd ["book", "gone"] (spF mg 2 Qy):=by
  have:FnScope ["book", "gone", "one"] ["book", "gone"] (Q6 s__law_e_is_stuck):=by fail "c"
  delta Qy J8 Je
  fail "k"
def Z2:MS:=(Ja (tOrM (tNotM (toB (mIsI "int" (Q3 3)))) (tOrM (toB (mIsI "bool" (Q3 3))) (tOrM (toB (mOp oLt (Q3 3) (mC (.int 0)))) (toB (mOp (oI fun a b=>.bl (decide (b<=a))) (Q3 3) (Q3 0)))))) (Qw (mC (.bl false))) Qp)
def Zk : MS := (Qb (Ja (tOrM (tNotM (toB (mIsI "tuple" (Q3 1)))) (toB (mOp oNe (Qg cLen (Q2 (Q3 1) Q9)) (Q3 2)))) (Qw (mC (.bl false))) Qp)
    (Qb (mFor (Qa 3) (mSeq (Q3 1)) Z2)
    (Qw (mOp oEq (Q3 1) (Qg Za (Q2 (mSortSet (Q3 1)) Q9))))))
def Zp:FN:=Qd Zk 4
theorem ok__law_e_houses {f:Addr} {fd:FuncData} (F:Fun K "_law_e_houses" "_law_e_houses" s__law_e_houses f fd) (T:Txt mg)   : FnOk P w K mg base (CXD P w) 1 f fd ["n", "some", "many"] (spF mg 3 Zp):=by
  have:FnScope ["n", "some", "many", "house"] ["n", "some", "many"] (Q6 s__law_e_houses):=by fail "c"
  delta Zp Zk Z2
  fail "k"
def Jk : MS := (Qb (Ja (tOrM (tNotM (toB (mIsI "tuple" (Q3 2)))) (tOrM (toB (mOp oLt (Qg cLen (Q2 (Q3 2) Q9)) (mC (.int 2)))) (tNotM (toB (Qc 3 Zp (Q2 (mOp oIx (Q3 0) (mC (.int 0))) (Q2 (mOp oIx (Q3 2) (mC (.int 1))) (Q2 (Q3 1) Q9)))))))) (Qw (mC (.bl false))) Qp)
    (Qb (Ja (toB (mOp oEq (mOp oIx (Q3 2) (mC (.int 0))) (mC (.str "stuck")))) (Qw (mAnd (mOp oEq (Qg cLen (Q2 (Q3 2) Q9)) (mC (.int 2))) (Qc 2 Qy (Q2 (Q3 0) (Q2 (mOp oIx (Q3 2) (mC (.int 1))) Q9))))) Qp)
    (Qb (Ja (tOrM (toB (mOp oNe (mOp oIx (Q3 2) (mC (.int 0))) (mC (.str "blind")))) (tOrM (toB (mOp oNe (Qg cLen (Q2 (Q3 2) Q9)) (mC (.int 3)))) (tNotM (toB (mIsI "tuple" (mOp oIx (Q3 2) (mC (.int 2)))))))) (Qw (mC (.bl false))) Qp)
    (Qw (mAnd (mOp (oIn false) (mOp oIx (Q3 2) (mC (.int 2))) (mOp oIx (Q3 0) (mC (.int 1)))) (Qc 2 Jc (Q2 (mOp oIx (Q3 2) (mC (.int 2))) (Q2 (mOp oIx (Q3 2) (mC (.int 1))) Q9))))))))
def F__law_e_shows:FN:=Qd Jk 3
theorem ok__law_e_shows {f:Addr} {fd:FuncData} (F:Fun K "_law_e_shows" "_law_e_shows" s__law_e_shows f fd) (T:Txt mg)  (D__law_e_houses:DefS P w K mg base 1 "_law_e_houses" 3 Zp) (D__law_e_is_stuck:DefS P w K mg base 2 "_law_e_is_stuck" 2 Qy) (D__law_e_within:DefS P w K mg base 1 "_law_e_within" 2 Jc):FnOk P w K mg base (CXD P w) 3 f fd ["book", "f", "paper"] (spF mg 3 F__law_e_shows):=by
  have:FnScope ["book", "f", "paper"] ["book", "f", "paper"] (Q6 s__law_e_shows):=by fail "c"
  delta F__law_e_shows Jk
  fail "k"
def J5:MS:=(Ja (toB (Qc 2 Jc (Q2 (Q3 3) (Q2 (Q3 2) Q9)))) (Qw (mC (.bl false))) Qp)
def Qs : MS := (Qb (Ja (toB (Qc 2 Qy (Q2 (Q3 0) (Q2 (Q3 2) Q9)))) (Qw (mC (.bl false))) Qp)
    (mFor (Qa 3) (mSeq (mOp oIx (Q3 0) (mC (.int 1)))) J5))
def Z9 : MS := (Qb (mFor (Qa 2) (mSeq (Qc 2 Qx (Q2 (mOp oIx (Q3 0) (mC (.int 0))) (Q2 (Q3 1) Q9)))) Qs)
    (Qw (mC (.bl true))))
def Jp:FN:=Qd Z9 4
theorem ok__law_e_bears {f:Addr} {fd:FuncData} (F:Fun K "_law_e_bears" "_law_e_bears" s__law_e_bears f fd) (T:Txt mg)  (D__law_e_sized:DefS P w K mg base 1 "_law_e_sized" 2 Qx) (D__law_e_is_stuck:DefS P w K mg base 2 "_law_e_is_stuck" 2 Qy) (D__law_e_within:DefS P w K mg base 1 "_law_e_within" 2 Jc):FnOk P w K mg base (CXD P w) 3 f fd ["book", "f"] (spF mg 2 Jp):=by
  have:FnScope ["book", "f", "gone", "one"] ["book", "f"] (Q6 s__law_e_bears):=by fail "c"
  delta Jp Z9 Qs J5
  fail "k"
def Qn : MS := (Qb (J7 4 (Qc 2 J3 (Q2 (Q3 0) (Q2 (Q3 1) Q9))))
    (Ja (toB (mOp (oI fun a b=>.bl (decide (b < a))) (Qg cLen (Q2 (Q3 4) Q9)) (mC (.int 1)))) (mDPutT (Q3 2) (Q3 4) (mC (.bl true))) Qp))
def Qm:ME:=(Q3 0)
def Qk:MT:=(toB (mOp (oI fun a b=>.bl (decide (b < a))) (Qg cLen (Q2 (Q3 0) Q9)) (mC (.int 1))))
def Qq : MS := (Qb (J7 1 (mOp oAdd (mC (.int 7)) (Qc 2 Q5 (Q2 (Q3 0) (Q2 (mC (.int 3)) Q9)))))
    (Qb (J7 2 (mDisp1T (mTup (Q2 (Qc 2 Q5 (Q2 (Q3 0) (Q2 (Q3 1) Q9))) Q9)) (mC (.bl true))))
    (Qb (mFor (Qa 3) (Zh (Q2 (Qc 2 Q5 (Q2 (Q3 0) (Q2 (mC (.int 6)) Q9))) Q9)) Qn)
    (Qb (Ja (tAndM (toB (mOp (oI fun a b=>.bl (decide (b < a))) (Qg cLenT (Q2 (Q3 2) Q9)) (mC (.int 1)))) (toB (mOp (oI fun a b=>.bl (decide (b < a))) (Qc 2 Q5 (Q2 (Q3 0) (Q2 (mC (.int 4)) Q9))) (mC (.int 0))))) (Qw (mTup (Q2 (Q3 1) (Q2 (Qg Za (Q2 (mVal (Z4 [none] (Qa 0) (mSeq (Qg cSortD (Q2 (Q3 2) Q9))) Qk Qm)) Q9)) Q9)))) Qp)
    (Qw (mTup (Q2 (Q3 1) (Q2 (Qg Za (Q2 (Qg cSortD (Q2 (Q3 2) Q9)) Q9)) Q9))))))))
def Qr:FN:=callK Qq 5
theorem ok__law_e_wide_book {f:Addr} {fd:FuncData} (F:Fun K "_law_e_wide_book" "_law_e_wide_book" s__law_e_wide_book f fd) (T:Txt mg)  (D__law_e_digit:DefS P w K mg base 2 "_law_e_digit" 2 Q5) (D__law_e_subset:DefS P w K mg base 3 "_law_e_subset" 2 J3):FnOk P w K mg base (CXD P w) 4 f fd ["tape"] (spF mg 1 Qr):=by
  have:FnScope ["tape", "n", "sets", "turn", "one"] ["tape"] (Q6 s__law_e_wide_book):=by fail "c"
  delta Qr Qq Qk Qm Qn
  fail "K"
def b_law_2 : MS := (Qb (J7 7 (mOp oMod (mOp oAdd (Q3 6) (Q3 5)) (mOp oAdd (Q3 4) (mC (.int 1)))))
    (Qb (J7 8 (Qc 2 F_bears (Q2 (Q3 3) (Q2 (Q3 7) Q9))))
    (Qb (J7 9 (Qc 2 Jp (Q2 (Q3 3) (Q2 (Q3 7) Q9))))
    (Qb (Ja (tOrM (tAndM (toB (mOp oEq (Q3 7) (mC (.int 0)))) (tNotM (toB (Q3 9)))) (tAndM (toB (mOp oEq (Q3 7) (Q3 4))) (toB (Q3 9)))) (Qw (mC (.bl false))) Qp)
    (Ja (toB (Q3 9)) (Ja (tOrM (tNotM (toB (mIsI "tuple" (Q3 8)))) (tOrM (toB (mOp oNe (Q3 8) (mTup (Q2 (mC (.str "bears")) (Q2 (Q3 7) Q9))))) (toB (mIsI "bool" (mOp oIx (Q3 8) (mC (.int 1))))))) (Qw (mC (.bl false))) Qp) (Ja (tNotM (toB (Qc 3 F__law_e_shows (Q2 (Q3 3) (Q2 (Q3 7) (Q2 (Q3 8) Q9)))))) (Qw (mC (.bl false))) Qp))))))
def b_law_1 : MS := (Qb (Ja (tAndM (toB (mOp (oI fun a b => .bl (decide (b < a))) (Q3 2) (mC (.int 1)))) (toB (mOp (oI fun a b => .bl (decide (b <= a))) (mOp oIx (Q3 1) (mC (.int 1))) (Qg cLen (Q2 (Q3 0) Q9))))) mBreak Qp)
    (Qb (J7 3 (Qc 2 Z8 (Q2 (Q3 1) (Q2 (mC (.int 5)) Q9))))
    (Qb (Ja (tAndM (toB (mOp oEq (Q3 2) (mC (.int 0)))) (toB (mOp oEq (Qc 2 Q5 (Q2 (Q3 1) (Q2 (mC (.int 3)) Q9))) (mC (.int 0))))) (J7 3 (Qc 1 Qr (Q2 (Q3 1) Q9))) Qp)
    (Qb (J7 4 (mOp oIx (Q3 3) (mC (.int 0))))
    (Qb (J7 5 (Qc 2 Q5 (Q2 (Q3 1) (Q2 (mOp oAdd (Q3 4) (mC (.int 1))) Q9))))
    (mFor (Qa 6) (Zh (Q2 (mOp oAdd (Q3 4) (mC (.int 2))) Q9)) b_law_2))))))
def m_law : MS := (Qb (J7 1 (mTrk (mLstN (Q2 (Q3 0) (Q2 (mC (.int 0)) (Q2 (mC (.int 0)) Q9))))))
    (Qb (mFor (Qa 2) (Zh (Q2 (mC (.int 4)) Q9)) b_law_1)
    (Qw (mC (.bl true)))))
def F_law:FN:=Qd m_law 10
theorem ok_law {f:Addr} {fd:FuncData} (F:Fun K "law" "law" s_law f fd) (T:Txt mg)  (D__law_e_book:DefS P w K mg base 4 "_law_e_book" 2 Z8) (D__law_e_digit:DefS P w K mg base 2 "_law_e_digit" 2 Q5) (D__law_e_wide_book:DefS P w K mg base 4 "_law_e_wide_book" 1 Qr) (D_bears:DefS P w K mg base 8 "bears" 2 F_bears) (D__law_e_bears:DefS P w K mg base 3 "_law_e_bears" 2 Jp) (D__law_e_shows:DefS P w K mg base 3 "_law_e_shows" 3 F__law_e_shows):FnOk P w K mg base (CXD P w) 9 f fd ["script"] (spF mg 1 F_law):=by
  have:FnScope ["script", "tape", "k", "book", "n", "turned", "turn", "f", "found", "due"] ["script"] (Q6 s_law):=by fail "c"
  delta F_law m_law b_law_1 b_law_2
  fail "k"
end
end Lw
namespace Lw
open PySem PySem.Spec L2 Sm
theorem emod_lt (a:Int) {b:Int} (h:0 < b):0<=a % b/\a % b < b:=⟨Int.emod_nonneg a (by omega),Int.emod_lt_of_pos a h⟩
theorem modN (x:Int) {n:Nat} (h:1<=n):∃ k:Nat,k < n/\x % (n:Int)=(k:Int):=by
  have:=emod_lt x (b:=(n:Int)) (by omega)
  exact ⟨(x % (n:Int)).toNat,by omega,by omega⟩
theorem stir_ok (c:Int) (p:Nat) (st:Q0):∃ z:Int,Qt [.int c,.int p] st=.ok (.int z) st:=by
  by_cases q:1000000000000000000<=c
  · refine ⟨c,?_⟩
    simp -implicitDefEqProofs [Qt,Qd,m__law_e_stirred,q]
  · obtain ⟨f,hf⟩:∃ f,(c % 998244353 * 51749 + p * 7919 + 3) % 1000000007=f:=⟨_,rfl⟩
    have f1:=emod_lt (c % 998244353 * 51749 + p * 7919 + 3) (b:=1000000007) (by decide)
    rw [hf] at f1
    obtain ⟨g,hg⟩:∃ g:Int,(f * f + 32749 * f + p + 5) % 2147483629=g:=⟨_,rfl⟩
    have g1:=emod_lt (f * f + 32749 * f + p + 5) (b:=2147483629) (by decide)
    rw [hg] at g1
    have fb:-18446744073709551616 < f/\f < 18446744073709551616:=by omega
    have gb:-18446744073709551616 < g/\g < 18446744073709551616:=by omega
    refine ⟨g * 2147483587 + (g * g + 61 * p + f) % 2147483587,?_⟩
    simp -implicitDefEqProofs [Qt,Qd,m__law_e_stirred,q,hf,hg,fb,gb]
def TapeAt (S:Q0) (L:Nat) (ns:List Int):Prop:=∃ (p:Nat) (c:Int),S[L]?=some (.lst [.fro (ns.map .int),.int p,.int c])
theorem TapeAt.lt {S:Q0} {L:Nat} {ns:List Int} (h:TapeAt S L ns):L < S.length:=let ⟨_,_,e⟩:=h; (O3.mp e).1
theorem tape_set {S:Q0} {L:Nat} {a b c x:PV} (h:S[L]?=some (.lst [a,b,c])):setIx S (.ref L) (.int 1) x=some (S.set L (.lst [a,x,c]))/\setIx S (.ref L) (.int 2) x=some (S.set L (.lst [a,b,x])):=by
  unfold setIx
  simp only [h]
  exact ⟨rfl,rfl⟩
theorem tape_ix {S:Q0} {L:Nat} {a b c:PV} (h:S[L]?=some (.lst [a,b,c])):oIx S (.ref L) (.int 0)=.ok a S/\oIx S (.ref L) (.int 1)=.ok b S/\oIx S (.ref L) (.int 2)=.ok c S:=by
  have hV:ListAt S (.ref L) [a,b,c]:=.inr (.inr ⟨L,rfl,h⟩)
  rw [hV.ix,hV.ix,hV.ix]
  exact ⟨rfl,rfl,rfl⟩
theorem cell_ok (ns:List Int) (p:Nat) {S:Q0} {L:Nat} {c:PV} (hS:S[L]?=some (.lst [.fro (ns.map .int),.int p,c])) (a1 a4:Option PV):∃ z:Int,(Ja (toB (mOp oLt (Q3 2) (Qg cLen (Q2 (mOp oIx (Q3 0) (mC (.int 0))) Q9)))) (J7 3 (mOp oIx (mOp oIx (Q3 0) (mC (.int 0))) (Q3 2))) (Ja (toB (mOp (oI fun a b=>.bl (decide (b < a))) (Qg cLen (Q2 (mOp oIx (Q3 0) (mC (.int 0))) Q9)) (mC (.int 0)))) (J7 3 (mOp oAdd (mOp oMod (mOp oIx (mOp oIx (Q3 0) (mC (.int 0))) (mOp oMod (mOp oMul (Q3 2) (mC (.int 3))) (Qg cLen (Q2 (mOp oIx (Q3 0) (mC (.int 0))) Q9)))) (mOp oPow (mC (.int 10)) (mC (.int 9)))) (mOp oMul (Q3 2) (mC (.int 1000000))))) Qp)) [some (.ref L),a1,some (.int p),some (.int p),a4] S=.nx [some (.ref L),a1,some (.int p),some (.int z),a4] S:=by
  obtain ⟨i0,_,_⟩:=tape_ix hS
  have hl:(ns.map PV.int).length=ns.length:=O2 _
  by_cases q:p < ns.length
  · have e:atI (ns.map PV.int) (p:Int)=some (.int (ns.getD p 0)):=by rw [atI_map,Sm.atI_get (getD_some q 0)]; rfl
    refine ⟨ns.getD p 0,?_⟩
    generalize ns.getD p 0=x at *
    generalize ns.length=len at *
    generalize ns.map PV.int=nv at *
    simp -implicitDefEqProofs [i0,hl,q,e,-oIx_r]
  · by_cases q2:ns.length=0
    · refine ⟨p,?_⟩
      generalize ns.map PV.int=nv at *
      rw [q2] at hl
      have q0:¬ (p:Int) < 0:=by omega
      simp -implicitDefEqProofs [i0,hl,q0,-oIx_r]
    · have hp:0 < ns.length:=by omega
      obtain ⟨m,hm,em⟩:=modN ((p:Int) * 3) hp
      have e:atI (ns.map PV.int) (m:Int)=some (.int (ns.getD m 0)):=by rw [atI_map,Sm.atI_get (getD_some hm 0)]; rfl
      refine ⟨ns.getD m 0 % 1000000000 + p * 1000000,?_⟩
      have q':¬ (p:Int) < (ns.length:Int):=by omega
      generalize ns.getD m 0=x at *
      generalize ns.length=len at *
      generalize ns.map PV.int=nv at *
      simp -implicitDefEqProofs [i0,hl,q,q',hp,em,e,-oIx_r]
theorem fin_eq {st st':Q0} (h:st'.length=st.length) (d:Int):fin st (.int d) st'=.ok (.int d) st':=by
  unfold fin
  by_cases q:st <+: st'
  · rw [if_pos q]
    have:st=st':=q.eq_of_length h.symm
    rw [<- this,fz]; rfl
  · rw [if_neg q]
structure Mv (L:Nat) (S S':Q0):Prop where
  len:S'.length=S.length
  keep:∀ t,t≠L->S'[t]?=S[t]?
theorem Zm {ns:List Int} {S:Q0} {L:Nat} (T:TapeAt S L ns) (m:Nat) (h1:1<=m) (hm:m < 1000000):∃ (d:Nat) (S':Q0),d < m/\TapeAt S' L ns/\Mv L S S'/\Q5 [.ref L,.int m] S=.ok (.int d) S':=by
  obtain ⟨p,c,hS⟩:=T
  have hL:=(O3.mp hS).1
  obtain ⟨p1,c1,S1,a2,a3,hS1,M1,e1⟩:∃ (p1:Nat) (c1:Int) (S1:Q0) (a2 a3:Option PV),S1[L]?=some (.lst [.fro (ns.map .int),.int p1,.int c1])/\Mv L S S1/\(Ja (toB (mOp oLt (mOp oIx (Q3 0) (mC (.int 2))) (Q3 1))) (Qb (J7 2 (mOp oIx (Q3 0) (mC (.int 1))))
    (Qb (J7 3 (Q3 2))
    (Qb (Ja (toB (mOp oLt (Q3 2) (Qg cLen (Q2 (mOp oIx (Q3 0) (mC (.int 0))) Q9)))) (J7 3 (mOp oIx (mOp oIx (Q3 0) (mC (.int 0))) (Q3 2))) (Ja (toB (mOp (oI fun a b=>.bl (decide (b < a))) (Qg cLen (Q2 (mOp oIx (Q3 0) (mC (.int 0))) Q9)) (mC (.int 0)))) (J7 3 (mOp oAdd (mOp oMod (mOp oIx (mOp oIx (Q3 0) (mC (.int 0))) (mOp oMod (mOp oMul (Q3 2) (mC (.int 3))) (Qg cLen (Q2 (mOp oIx (Q3 0) (mC (.int 0))) Q9)))) (mOp oPow (mC (.int 10)) (mC (.int 9)))) (mOp oMul (Q3 2) (mC (.int 1000000))))) Qp))
    (Qb (mSetIx (Q3 0) (mC (.int 1)) (mOp oAdd (Q3 2) (mC (.int 1))))
    (mSetIx (Q3 0) (mC (.int 2)) (Qc 2 Qt (Q2 (Q3 3) (Q2 (Q3 2) Q9)))))))) Qp) [some (.ref L),some (.int m),none,none,none] S=.nx [some (.ref L),some (.int m),a2,a3,none] S1:=by
    obtain ⟨i0,i1,i2⟩:=tape_ix hS
    by_cases q:c < (m:Int)
    · obtain ⟨z,ez⟩:=cell_ok ns p hS (some (.int m)) none
      obtain ⟨t1,_⟩:=tape_set (x:=.int ((p:Int) + 1)) hS
      obtain ⟨S2,hS2⟩:∃ S2,S.set L (.lst [.fro (ns.map .int),.int ((p:Int) + 1),.int c])=S2:=⟨_,rfl⟩
      have h2:S2[L]?=some (.lst [.fro (ns.map .int),.int ((p:Int) + 1),.int c]):=by rw [<- hS2,F6 hL]
      rw [hS2] at t1
      obtain ⟨y,ey⟩:=stir_ok z p S2
      obtain ⟨_,t2⟩:=tape_set (x:=.int y) h2
      have hL2:=(O3.mp h2).1
      refine ⟨p + 1,y,S2.set L (.lst [.fro (ns.map .int),.int ((p:Int) + 1),.int y]),some (.int p),some (.int z),?_,⟨?_,fun t ht=>?_⟩,?_⟩
      · rw [F6 hL2]; push_cast; rfl
      · rw [List.length_set,<- hS2,List.length_set]
      · rw [F8 (fun u=>ht u.symm),<- hS2,F8 (fun u=>ht u.symm)]
      · have ht:(toB (mOp oLt (mOp oIx (Q3 0) (mC (.int 2))) (Q3 1))) [some (.ref L),some (.int m),none,none,none] S=.ok true S:=by
          simp -implicitDefEqProofs [i2,q,-oIx_r]
        have s1:∀ X:MS,(Qb (J7 2 (mOp oIx (Q3 0) (mC (.int 1)))) (Qb (J7 3 (Q3 2)) X)) [some (.ref L),some (.int m),none,none,none] S=X [some (.ref L),some (.int m),some (.int p),some (.int p),none] S:=fun X=>by
          simp -implicitDefEqProofs [i1,-oIx_r]
        rw [mIfS_eq,ht,sbind_ok,if_pos rfl,s1,Jx,ez]
        show Qb _ _ _ _=_
        simp -implicitDefEqProofs [t1,ey,t2,-setIx_r]
    · refine ⟨p,c,S,none,none,hS,⟨rfl,fun _ _=>rfl⟩,?_⟩
      simp -implicitDefEqProofs [i2,q,-oIx_r]
  obtain ⟨_,_,j2⟩:=tape_ix hS1
  obtain ⟨d,hd,ed⟩:=modN c1 h1
  obtain ⟨_,t2⟩:=tape_set (x:=.int (c1 / (m:Int))) hS1
  have hL1:=(O3.mp hS1).1
  obtain ⟨S3,hS3⟩:∃ S3,S1.set L (.lst [.fro (ns.map .int),.int p1,.int (c1 / (m:Int))])=S3:=⟨_,rfl⟩
  have h3:S3[L]?=some (.lst [.fro (ns.map .int),.int p1,.int (c1 / (m:Int))]):=by rw [<- hS3,F6 hL1]
  have M3:Mv L S S3:=⟨by rw [<- hS3,List.length_set,M1.len],fun t ht=>by rw [<- hS3,F8 (fun u=>ht u.symm),M1.keep t ht]⟩
  rw [hS3] at t2
  refine ⟨d,S3,hd,⟨p1,_,h3⟩,M3,?_⟩
  have hm0:0 < m:=h1
  have hm1:(m:Int) < 1073741824:=by omega
  have step:m__law_e_digit [some (.ref L),some (.int m),none,none,none] S=.rt (.int d) S3:=by
    unfold m__law_e_digit
    rw [Jx,e1]
    show Qb _ _ _ _=_
    simp -implicitDefEqProofs [j2,hm0,hm1,ed,t2,-oIx_r,-setIx_r]
  show Qd m__law_e_digit 5 _ S=_
  unfold Qd
  rw [show (([PV.ref L,.int m]:List PV).map some ++ List.replicate (5 - [PV.ref L,.int m].length) none)=[some (.ref L),some (.int m),none,none,none] from rfl,step]
  exact fin_eq M3.len d
theorem is_whole_int (i:Int) (st:Q0):F_is_whole [.int i] st=.ok (.bl true) st:=by
  simp [F_is_whole,Qd,m_is_whole,isI,tyN]
theorem compG_invF {α:Type} (g:α->PV) {xs:List α} (I:Nat->List PV->Q0->Prop) {ga:GA} {mt:MT} {me:ME} {w:Wt} {Γ0:Gam} (hw:∀ i out st,I i out st->wOk w st)
    (h:∀ (i:Nat) x out st,xs[i]?=some x->I i out st->∃ Γ1,ga (g x) Γ0=some Γ1/\∃ b st1,mt Γ1 st=.ok b st1/\(b=true->∃ v st2,me Γ1 st1=.ok v st2/\I (i + 1) (out ++ [v]) st2)/\(b=false->I (i + 1) out st1)) {st:Q0} (h0:I 0 [] st):∃ out st',J6 ga mt me w Γ0 (xs.map g) st=.ok out st'/\I xs.length out st':=by
  have key:∀ (ys:List α) (k:Nat) (pre:List PV) (st:Q0),(∀ i,ys[i]?=xs[k + i]?)->k + ys.length=xs.length->I k pre st->∃ out st',J6 ga mt me w Γ0 (ys.map g) st=.ok out st'/\I xs.length (pre ++ out) st':=by
    intro ys
    induction ys with
    | nil=>
      intro k pre st e e2 i
      refine ⟨[],st,by simp [J6,hw k pre st i],?_⟩
      rw [List.append_nil,<- e2]; exact i
    | cons y ys ih=>
      intro k pre st e e2 i
      obtain ⟨Γ1,h1,b,st1,h2,h3,h4⟩:=h k y pre st (by have:=e 0; simpa using this.symm) i
      have e':∀ i,ys[i]?=xs[k + 1 + i]?:=fun i=>by have:=e (i + 1); rw [List.getElem?_cons_succ] at this; rw [this]; congr 1; omega
      have e2':k + 1 + ys.length=xs.length:=by rw [<- e2,E8]; omega
      rw [D5,J6,if_pos (hw k pre st i),h1]
      simp only [h2,bind_ok]
      cases b with
      | true=>
        obtain ⟨v,st2,h5,h6⟩:=h3 rfl
        obtain ⟨out,st',h7,h8⟩:=ih (k + 1) (pre ++ [v]) st2 e' e2' h6
        refine ⟨v :: out,st',?_,by rw [E9] at h8; exact h8⟩
        rw [if_pos rfl,h5]
        simp only [bind_ok,h7]
      | false=>
        obtain ⟨out,st',h7,h8⟩:=ih (k + 1) pre st1 e' e2' (h4 rfl)
        refine ⟨out,st',?_,h8⟩
        rw [if_neg (by simp),h7]
  obtain ⟨out,st',h1,h2⟩:=key xs 0 [] st (fun i=>by simp) (by simp) h0
  exact ⟨out,st',h1,h2⟩
theorem btw_int (x a b:Int) (st:Q0):Z3 [.int x,.int a,.int b] st=.ok (.bl (decide (a<=x) && decide (x<=b))) st:=by
  have:=is_whole_int x st
  by_cases q:a<=x <;> simp [Z3,Qd,m_is_between,this,q]
theorem intsOf_ints (ns:List Int):intsOf (ns.map PV.int)=some ns:=by
  induction ns with
  | nil=>rfl
  | cons n ns ih=>rw [D5,intsOf,ih]; rfl
theorem lex_eq:∀ a b:List Int,HT.lexLt a b=Jf a b
  | [],[]=>rfl
  | [],_ :: _=>rfl
  | _ :: _,[]=>rfl
  | x :: a,y :: b=>by rw [HT.lexLt_cons,Jf,lex_eq a b]
theorem lt_tup (a b:List Int) (st:Q0):oLt st (Q1 a) (Q1 b)=.ok (.bl (Jf a b)) st:=by
  unfold oLt Q1
  simp only [intsOf_ints,lex_eq]
def chainB {α:Type} (lt:α->α->Bool) (xs:List α):Bool:=(xs.zip (xs.drop 1)).all fun z=>lt z.1 z.2
theorem riseG {α:Type} (f:α->PV) (lt:α->α->Bool) (h:∀ a b st,oLt st (f a) (f b)=.ok (.bl (lt a b)) st) (xs:List α) (hl:xs.length<=1000) (st:Q0):Zf [.tup (xs.map f)] st=.ok (.bl (chainB lt xs)) st:=by
  have hsl:cut (xs.map f) (some 1) none=(xs.drop 1).map f:=by
    rw [cut_map]
    exact congrArg _ (cut_back xs 1)
  have hc:J6 (gaTup (gaCons (Qa 0) (gaCons (Qa 1) gaNil))) mTrue e_is_rising_1 [] (Jj [none,none] [some (.tup (xs.map f))]) ((xs.zip (xs.drop 1)).map fun z=>.tup [f z.1,f z.2]) st=.ok (((xs.zip (xs.drop 1)).map fun z=>lt z.1 z.2).map .bl) st:=by
    rw [L8]
    refine compG_on _ _ (by simp) fun z hz=>⟨_,rfl,?_⟩
    have:=h z.1 z.2 st
    show _=Res.ok (PV.bl (lt z.1 z.2)) st
    generalize f z.1=v1 at *
    generalize f z.2=v2 at *
    simp [Jj,e_is_rising_1,this]
  have ha:chainB lt xs=((xs.zip (xs.drop 1)).map fun z=>lt z.1 z.2).all id:=by unfold chainB; rw [List.all_map]; rfl
  have hl':(xs.map f).length<=1000000:=by rw [O2]; omega
  rw [ha]
  rw [<- zipT_map] at hc
  generalize ((xs.zip (xs.drop 1)).map fun z=>lt z.1 z.2)=bs at *
  generalize (xs.drop 1).map f=ds at *
  generalize xs.map f=rv at *
  simp -implicitDefEqProofs [Zf,Qd,m_is_rising,hsl,hl',Qe,hc]
theorem chain_of {α:Type} {lt:α->α->Bool}:∀ {xs:List α},xs.Pairwise (fun a b=>lt a b=true)->chainB lt xs=true
  | [],_=>rfl
  | [_],_=>rfl
  | x :: y :: t,h=>by
    show (lt x y && chainB lt (y :: t))=true
    rw [chain_of (F1.mp h).2,(F1.mp h).1 y (by simp)]; rfl
structure GOk (n:Int) (g:List Int):Prop where
  rng:∀ h∈g,0<=h/\h < n
  inc:g.Pairwise (· < ·)
  len:g.length<=20
structure BOk (n:Int) (gs:List (List Int)):Prop where
  n1:1<=n
  n9:n<=9
  ne:gs≠[]
  ok:∀ g∈gs,GOk n g/\g≠[]
  inc:gs.Pairwise fun a b=>Jf a b=true
  len:gs.length<=64
def setsV (gs:List (List Int)):PV:=.tup (gs.map Q1)
def Q4 (n:Int) (gs:List (List Int)):PV:=.tup [.int n,setsV gs]
theorem rising_houses {n:Int} {g:List Int} (h:GOk n g) (st:Q0):Qz [.int n,Q1 g] st=.ok (.bl true) st:=by
  have hc:J6 (Qa 0) mTrue Jq [] (Jj [none,some 0] [some (.int n),some (Q1 g)]) (g.map PV.int) st=.ok ((g.map fun _=>true).map .bl) st:=by
    rw [L8]
    refine compG_on PV.int (fun _=>PV.bl true) (by simp) fun x hx=>⟨_,rfl,?_⟩
    obtain ⟨h1,h2⟩:=h.rng x hx
    have hb:=btw_int x 0 (n - 1) st
    rw [show (decide ((0:Int)<=x) && decide (x<=n - 1))=true by simp; omega] at hb
    generalize Q1 g=gv at *
    simp [Jj,Jq,hb]
  have hr:=riseG PV.int (fun a b=>decide (a < b)) (fun a b st=>rfl) g (by have:=h.len; omega) st
  rw [chain_of (h.inc.imp fun h=>by simpa using h)] at hr
  have hal:((g.map fun _=>true)).all id=true:=by simp
  have hl:(g.map PV.int).length<=1000000:=by rw [O2]; have:=h.len; omega
  unfold Q1 at hc ⊢
  generalize (g.map fun _=>true)=bs at *
  generalize g.map PV.int=gv at *
  simp -implicitDefEqProofs [Qz,Qd,m_are_rising_houses,isI,tyN,hl,Qe,hc,hal,hr]
theorem group_ok {n:Int} {g:List Int} (h:GOk n g) (hne:g≠[]) (st:Q0):F_is_group [.int n,Q1 g] st=.ok (.bl true) st:=by
  have h1:=rising_houses h st
  have h2:0 < g.length:=List.length_pos_iff.mpr hne
  have h3:cLen st [Q1 g]=.ok (.int (g.length:Nat)) st:=by
    have:(g.map PV.int).length=g.length:=O2 _
    simp [Q1]
  generalize Q1 g=gv at *
  simp -implicitDefEqProofs [F_is_group,Qd,m_is_group,h1,h3,h2]
theorem sets_ok {n:Int} {gs:List (List Int)} (h:BOk n gs) (st:Q0):F_are_sets [.int n,setsV gs] st=.ok (.bl true) st:=by
  have hc:J6 (Qa 0) mTrue e_are_sets_1 [] (Jj [none,some 0] [some (.int n),some (setsV gs)]) (gs.map Q1) st=.ok ((gs.map fun _=>true).map .bl) st:=by
    rw [L8]
    refine compG_on Q1 (fun _=>PV.bl true) (by simp) fun x hx=>⟨_,rfl,?_⟩
    have:=group_ok (h.ok x hx).1 (h.ok x hx).2 st
    generalize setsV gs=sv at *
    generalize Q1 x=xv at *
    simp [Jj,e_are_sets_1,this]
  have hr:=riseG Q1 Jf lt_tup gs (by have:=h.len; omega) st
  rw [chain_of h.inc] at hr
  have hal:((gs.map fun _=>true)).all id=true:=by simp
  have hl:(gs.map Q1).length<=1000000:=by rw [O2]; have:=h.len; omega
  have hlen:(gs.map Q1).length=gs.length:=O2 _
  have h0:¬ ((gs.length:Int)=0):=by have:=List.length_pos_iff.mpr h.ne; omega
  have h0':¬ (gs.length=0):=by omega
  have hl2:gs.length<=1000000:=by have:=h.len; omega
  unfold setsV at hc ⊢
  generalize (gs.map fun _=>true)=bs at *
  generalize gs.length=gl at *
  generalize gs.map Q1=gv at *
  have h0'':¬ gv=[]:=fun z=>by rw [z] at hlen; exact h0' hlen.symm
  simp -implicitDefEqProofs [F_are_sets,Qd,m_are_sets,isI,tyN,hlen,h0,h0',h0'',hl,hl2,Qe,hc,hal,hr]
theorem book_ok {n:Int} {gs:List (List Int)} (h:BOk n gs) (st:Q0):F_is_book [Q4 n gs] st=.ok (.bl true) st:=by
  have h1:=sets_ok h st
  have hb:=btw_int n 1 9 st
  have h9:=h.n9
  have h11:=h.n1
  rw [show (decide ((1:Int)<=n) && decide (n<=9))=true by simp; omega] at hb
  unfold Q4
  generalize setsV gs=sv at *
  simp -implicitDefEqProofs [F_is_book,Qd,m_is_book,Zd,m_is_sized_tuple,isI,tyN,atI,ixN,hb,h1]
theorem need_book_ok {n:Int} {gs:List (List Int)} (h:BOk n gs) (st:Q0):F_need_book [Q4 n gs] st=.ok .non st:=by
  have h1:=book_ok h st
  generalize Q4 n gs=bv at *
  simp -implicitDefEqProofs [F_need_book,Qd,m_need_book,h1]
theorem Mv.refl (L:Nat) (S:Q0):Mv L S S:=⟨rfl,fun _ _=>rfl⟩
theorem Mv.trans {L:Nat} {S S1 S2:Q0} (a:Mv L S S1) (b:Mv L S1 S2):Mv L S S2:=⟨b.len.trans a.len,fun t ht=>(b.keep t ht).trans (a.keep t ht)⟩
theorem TapeAt.of {S S':Q0} {L:Nat} {ns:List Int} (h:TapeAt S L ns) (e:S'[L]?=S[L]?):TapeAt S' L ns:=let ⟨p,c,q⟩:=h; ⟨p,c,by rw [e]; exact q⟩
theorem oAdd_lstL (st:Q0) (xs ys:List PV):oAdd st (.lst xs) (.lst ys)=if xs.length + ys.length<=lim then .ok (.lst (xs ++ ys)) st else .stuck:=rfl
theorem filt_ok {ns:List Int} {L:Nat} {mt:MT} {me:ME} (hmt:∀ (k:Nat) (st:Q0),TapeAt st L ns->∃ b st2,mt [some (.int k),some (.ref L)] st=.ok b st2/\TapeAt st2 L ns/\Mv L st st2) (hme:∀ (k:Nat) (st:Q0),me [some (.int k),some (.ref L)] st=.ok (.int k) st) {S:Q0} (T:TapeAt S L ns) (n:Nat) (hn:n<=9) :
    ∃ (g:List Int) (S':Q0),TapeAt S' L ns/\Mv L S S'/\GOk n g/\J6 (Qa 0) mt me [] [none,some (.ref L)] (rangeI 0 n) S=.ok (g.map PV.int) S':=by
  rw [rangeI0]
  obtain ⟨out,S',e,g,rfl,T',M',h1,h2,h3⟩:=compG_invF (fun k:Nat=>PV.int (k:Int)) (xs:=List.range n) (ga:=Qa 0) (mt:=mt) (me:=me) (w:=[]) (Γ0:=[none,some (.ref L)]) (st:=S)
    (fun k out st'=>∃ g:List Int,out=g.map PV.int/\TapeAt st' L ns/\Mv L S st'/\(∀ h∈g,0<=h/\h < (k:Int))/\g.Pairwise (· < ·)/\g.length<=k)
    (fun _ _ _ _=>by simp)
    (fun k x out st' hx ⟨g,e1,T',M',h1,h2,h3⟩=>by
      have hkn:k < n:=by simpa using (O3.mp hx).1
      have hxk:x=k:=by
        rw [List.getElem?_range hkn] at hx
        exact (Option.some.inj hx).symm
      subst hxk
      subst e1
      obtain ⟨b,st2,e2,T2,M2⟩:=hmt x st' T'
      have wide:∀ h∈g,0<=h/\h < ((x + 1:Nat):Int):=fun h hh=>⟨(h1 h hh).1,by have:=(h1 h hh).2; omega⟩
      refine ⟨_,rfl,b,st2,e2,fun _=>⟨.int x,st2,hme x st2,g ++ [(x:Int)],by rw [List.map_append]; rfl,T2,M'.trans M2,fun h hh=>?_,?_,by simp; omega⟩,fun _=>⟨g,rfl,T2,M'.trans M2,wide,h2,by omega⟩⟩
      · rcases D4.mp hh with hh | hh
        · exact wide h hh
        · rw [E6.mp hh]; omega
      · rw [D9]
        refine ⟨h2,by simp,fun a ha b hb=>?_⟩
        rw [E6.mp hb]
        exact (h1 a ha).2)
    ⟨[],rfl,T,Mv.refl L S,fun j hj=>(by cases hj),List.Pairwise.nil,by simp⟩
  rw [F0] at h1 h3
  exact ⟨g,S',T',M',⟨h1,h2,by omega⟩,e⟩
theorem subset_ok {ns:List Int} {S:Q0} {L:Nat} (T:TapeAt S L ns) (n:Nat) (hn:n<=9):∃ (g:List Int) (S':Q0),TapeAt S' L ns/\Mv L S S'/\GOk n g/\J3 [.ref L,.int n] S=.ok (Q1 g) S':=by
  obtain ⟨g,S',T',M',G,e⟩:=filt_ok (mt:=Jw) (me:=Jz) (fun k st Tk=>by
    obtain ⟨d,S2,hd,T2,M2,e2⟩:=Zm Tk 2 (by decide) (by decide)
    rw [show ((2:Nat):Int)=2 from rfl] at e2
    exact ⟨(d:Int) == 0,S2,by simp -implicitDefEqProofs [Jw,e2],T2,M2⟩) (fun k st=>by simp [Jz]) T n hn
  refine ⟨g,S',T',M',G,?_⟩
  have hb:-1000000<=(n:Int)/\(n:Int)<=1000000:=by omega
  have step:Zj [some (.ref L),some (.int n)] S=.rt (Q1 g) S':=by
    unfold Q1
    have e':J6 (Qa 0) Jw Jz [] (Jj [none,some 0] [some (.ref L),some (.int n)]) (rangeI 0 n) S=.ok (g.map PV.int) S':=e
    generalize g.map PV.int=gv at *
    simp -implicitDefEqProofs [Zj,Qe,hb,e']
  show callK Zj 2 _ S=_
  unfold callK
  rw [show (([PV.ref L,.int n]:List PV).map some ++ List.replicate (2 - [PV.ref L,.int n].length) none)=[some (.ref L),some (.int n)] from rfl,step]
def Ji:Nat->List (List Int)
  | 0=>[[]]
  | k + 1=>Ji k ++ (Ji k).map (· ++ [(k:Int)])
theorem subL_len:∀ k,(Ji k).length=2 ^ k
  | 0=>rfl
  | k + 1=>by rw [Ji,E5,O2,subL_len k,Nat.pow_succ]; omega
theorem subL_ok:∀ k,∀ g∈Ji k,(∀ h∈g,0<=h/\h < (k:Int))/\g.Pairwise (· < ·)/\g.length<=k
  | 0,g,hg=>by
    have:g=[]:=by simpa [Ji] using hg
    subst this
    exact ⟨fun h hh=>(by cases hh),List.Pairwise.nil,by simp⟩
  | k + 1,g,hg=>by
    rw [Ji] at hg
    rcases D4.mp hg with hg | hg
    · obtain ⟨a,b,c⟩:=subL_ok k g hg
      exact ⟨fun h hh=>⟨(a h hh).1,by have:=(a h hh).2; omega⟩,b,by omega⟩
    · obtain ⟨q,hq,rfl⟩:=List.mem_map.mp hg
      obtain ⟨a,b,c⟩:=subL_ok k q hq
      refine ⟨fun h hh=>?_,?_,by simp; omega⟩
      · rcases D4.mp hh with hh | hh
        · exact ⟨(a h hh).1,by have:=(a h hh).2; omega⟩
        · rw [E6.mp hh]; omega
      · rw [D9]
        refine ⟨b,by simp,fun x hx y hy=>?_⟩
        rw [E6.mp hy]; exact (a x hx).2
theorem subL_nodup:∀ k,(Ji k).Nodup
  | 0=>by simp [Ji]
  | k + 1=>by
    rw [Ji,List.nodup_append]
    refine ⟨subL_nodup k,List.Pairwise.map _ (fun a b hab e=>hab (List.append_cancel_right e)) (subL_nodup k),fun a ha b hb e=>?_⟩
    obtain ⟨q,hq,rfl⟩:=List.mem_map.mp hb
    have:=(subL_ok k a ha).1 (k:Int) (by rw [e]; simp)
    omega
theorem subL_has:∀ k m,m<=k->∃ g∈Ji k,g.length=m
  | 0,m,h=>⟨[],by simp [Ji],by simp; omega⟩
  | k + 1,m,h=>by
    by_cases z:m<=k
    · obtain ⟨g,h1,h2⟩:=subL_has k m z
      exact ⟨g,by rw [Ji]; exact E3 _ h1,h2⟩
    · obtain ⟨g,h1,h2⟩:=subL_has k k (O4 _)
      refine ⟨g ++ [(k:Int)],by rw [Ji]; exact D8 _ (List.mem_map.mpr ⟨g,h1,rfl⟩),by simp; omega⟩
def Qj (n m:Nat):List (List Int):=(Ji n).filter fun g=>decide ((g.length:Int)=(m:Int))
theorem strict_sort {l:List (List Int)} (h:l.Nodup):(Qi l).Pairwise fun a b=>Jf a b=true:=by
  have nd:(Qi l).Nodup:=(Zg l).nodup_iff.mpr h
  refine ((sortL_sorted l).and nd).imp fun {a b} ⟨h1,h2⟩=>?_
  rcases (leL_iff a b).mp h1 with e | e
  · exact absurd e h2
  · exact e
theorem size_book {n m:Nat} (hn1:1<=n) (hn:n<=6) (hm1:1<=m) (hm:m<=n):BOk n (Qi (Qj n m))/\(Qj n m).length < 64/\∀ g∈Qj n m,g≠[]:=by
  have mem:∀ g,g∈Qj n m <-> g∈Ji n/\g.length=m:=fun g=>by
    unfold Qj
    rw [List.mem_filter]
    constructor
    · rintro ⟨a,b⟩; exact ⟨a,by simp at b; omega⟩
    · rintro ⟨a,b⟩; exact ⟨a,by simp; omega⟩
  have hpw:2 ^ n<=64:=D3 (Nat.pow_le_pow_right (by decide) hn) (by decide)
  have hlt:(Qj n m).length < 64:=by
    have h0:([]:List Int)∈Ji n:=by
      obtain ⟨g,h1,h2⟩:=subL_has n 0 (G8 _)
      rw [List.length_eq_zero_iff.mp h2] at h1
      exact h1
    have:(Qj n m).length < (Ji n).length:=by
      unfold Qj
      exact List.length_filter_lt_length_iff_exists.mpr ⟨[],h0,by simp; omega⟩
    rw [subL_len] at this
    omega
  have hp:=Zg (Qj n m)
  refine ⟨⟨by omega,by omega,fun z=>?_,fun g hg=>?_,strict_sort (List.Nodup.sublist List.filter_sublist (subL_nodup n)),by rw [hp.length_eq]; omega⟩,hlt,fun g hg z=>?_⟩
  · obtain ⟨g,h1,h2⟩:=subL_has n m hm
    have:g∈Qi (Qj n m):=hp.mem_iff.mpr ((mem g).mpr ⟨h1,h2⟩)
    rw [z] at this; cases this
  · obtain ⟨h1,h2⟩:=(mem g).mp (hp.mem_iff.mp hg)
    obtain ⟨a,b,c⟩:=subL_ok n g h1
    exact ⟨⟨a,b,by omega⟩,fun z=>by rw [z] at h2; simp at h2; omega⟩
  · obtain ⟨h1,h2⟩:=(mem g).mp hg
    rw [z] at h2; simp at h2; omega
theorem tups_tupI:∀ {l:List (List Int)},(∀ g∈l,g≠[])->tupsP (l.map Q1)=some l
  | [],_=>rfl
  | [] :: l,h=>absurd rfl (h [] (by simp))
  | (x :: g) :: l,h=>by
    have ih:=tups_tupI (l:=l) fun g hg=>h g (O8 _ hg)
    have hi:∀ ns:List Int,intsP (ns.map PV.int)=some ns:=fun ns=>by
      induction ns with
      | nil=>rfl
      | cons n ns ih=>rw [D5,intsP,ih]; rfl
    rw [D5]
    show (match intsP ((x :: g).map PV.int) with | some (n :: ns)=>(tupsP (l.map Q1)).map ((n :: ns) :: ·) | _=>none)=_
    rw [hi,ih]; rfl
theorem tups_len:∀ {xs:List PV} {nss:List (List Int)},tupsP xs=some nss->nss.length=xs.length
  | [],_,h=>by cases h; rfl
  | x :: xs,nss,h=>by
    cases x with
    | tup ys=>
      rw [tupsP] at h
      split at h
      · cases z:tupsP xs with
        | none=>rw [z] at h; cases h
        | some m=>
          rw [z] at h
          cases h
          rw [E8,E8,tups_len z]
      · cases h
    | _=>cases h
theorem sized_okU {n m:Nat} (hn:n<=9) (h64:(Qj n m).length < 64\/twoR (Qj n m)=true) (hm:1<=m\/(Qj n m).length < 2) (S:Q0):Qx [.int n,.int m] S=.ok (.lst ((Qi (Qj n m)).map Q1)) S:=by
  have hne:1<=m->∀ g∈Qj n m,g≠[]:=fun hm1 g hg z=>by
    unfold Qj at hg
    rw [z] at hg
    have:=(List.mem_filter.mp hg).2
    simp at this
    omega
  have hpw:∀ i,i<=9->2 ^ i<=512:=fun i hi=>D3 (Nat.pow_le_pow_right (by decide) hi) (by decide)
  obtain ⟨Γ',st',e,b3,rfl,rfl⟩:=forG_inv (g:=fun k:Nat=>PV.int (k:Int)) (xs:=List.range n) (ga:=Qa 3) (body:=Zb) (w:=[]) (Γ:=[some (.int n),some (.int m),some (.lst ((Ji 0).map Q1)),none]) (st:=S)
    (fun i Γ st'=>∃ b3,Γ=[some (.int n),some (.int m),some (.lst ((Ji i).map Q1)),b3]/\st'=S)
    (fun _ _ _ _=>by simp)
    (fun i x Γ st' hx ⟨b3,e1,e2⟩=>by
      subst e1; subst e2
      have hi:i < n:=by simpa using (O3.mp hx).1
      have hxi:x=i:=by
        rw [List.getElem?_range hi] at hx
        exact (Option.some.inj hx).symm
      subst hxi
      have hc:J6 (Qa 0) mTrue e__law_e_sized_1 [] (Jj [none,some 3] [some (.int n),some (.int m),some (.lst ((Ji x).map Q1)),some (.int x)]) ((Ji x).map Q1) st'=.ok (((Ji x).map (· ++ [(x:Int)])).map Q1) st':=by
        rw [L8]
        refine compG_on Q1 (fun g=>Q1 (g ++ [(x:Int)])) (by simp) fun g hg=>⟨_,rfl,?_⟩
        have hgl:=(subL_ok x g hg).2.2
        have hl:(g.map PV.int).length + 1<=1000000:=by rw [O2]; omega
        have ha:Q1 (g ++ [(x:Int)])=.tup (g.map PV.int ++ [.int x]):=by unfold Q1; rw [List.map_append]; rfl
        rw [ha]
        generalize (Ji x).map Q1=sv at *
        unfold Q1
        generalize g.map PV.int=gv at *
        simp [Jj,e__law_e_sized_1,Qe,hl]
      have hlen:((Ji x).map Q1).length + (((Ji x).map (· ++ [(x:Int)])).map Q1).length<=1000000:=by
        rw [O2,O2,O2,subL_len]
        have:=hpw x (by omega)
        omega
      have hl2:((Ji x).map Q1).length<=1000000:=by omega
      have hs:(Ji (x + 1)).map Q1=(Ji x).map Q1 ++ ((Ji x).map (· ++ [(x:Int)])).map Q1:=by rw [Ji,List.map_append]
      have ha:=oAdd_lstL st' ((Ji x).map Q1) (((Ji x).map (· ++ [(x:Int)])).map Q1)
      rw [if_pos (show _<=lim from hlen)] at ha
      refine ⟨_,rfl,[some (.int n),some (.int m),some (.lst ((Ji (x + 1)).map Q1)),some (.int x)],st',?_,_,rfl,rfl⟩
      rw [hs]
      show Zb [some (.int n),some (.int m),some (.lst ((Ji x).map Q1)),some (.int x)] st'=_
      generalize ((Ji x).map (· ++ [(x:Int)])).map Q1=tv at *
      generalize (Ji x).map Q1=sv at *
      simp -implicitDefEqProofs [Zb,Qe,hl2,hc,ha])
    ⟨_,rfl,rfl⟩
  rw [F0,<- rangeI0] at *
  have hc2:J6 (Qa 0) t__law_e_sized_2 e__law_e_sized_2 [] (Jj [none,some 1] [some (.int n),some (.int m),some (.lst ((Ji n).map Q1)),b3]) ((Ji n).map Q1) st'=.ok ((Qj n m).map Q1) st':=by
    unfold Qj
    refine compG_onF Q1 Q1 (fun g=>decide ((g.length:Int)=(m:Int))) (by simp) fun g hg=>⟨_,rfl,?_,fun _=>?_⟩
    · have hll:cLen st' [Q1 g]=.ok (.int (g.length:Nat)) st':=by simp [Q1]
      generalize (Ji n).map Q1=sv at *
      generalize Q1 g=gv at *
      simp [Jj,t__law_e_sized_2,hll]
      by_cases q:(g.length:Int)=(m:Int) <;> simp [q]
    · generalize (Ji n).map Q1=sv at *
      generalize Q1 g=gv at *
      simp [Jj,e__law_e_sized_2]
  have hso:cSortV st' [.lst ((Qj n m).map Q1)]=.ok (.lst ((Qi (Qj n m)).map Q1)) st':=by
    have small:(Qj n m).length < 64->cSortU st' [.lst ((Qj n m).map Q1)]=.ok (.lst ((Qi (Qj n m)).map Q1)) st':=fun h64=>by
      unfold cSortU
      simp only [listOf_lst]
      by_cases q:((Qj n m).map Q1).length < 2
      · rw [if_pos q]
        rw [O2] at q
        have:∀ l:List (List Int),l.length < 2->Qi l=l:=fun l hl=>by
          match l,hl with
          | [],_=>rfl
          | [x],_=>rfl
        rw [this _ q]
      · rw [if_neg q]
        rw [O2] at q
        unfold cSortT
        simp only [listOf_lst,tups_tupI (hne (by omega))]
        rw [if_pos h64]
    unfold cSortV
    simp only [listOf_lst]
    rcases hm with hm | hm
    · simp only [tups_tupI (hne hm)]
      by_cases z:twoR (Qj n m)=true
      · rw [if_pos z]
      · rw [if_neg z]
        exact small (h64.resolve_right z)
    · split
      · rename_i nss e
        split
        · rename_i z
          have h1:=tups_len e
          rw [O2] at h1
          have:=(twoR_at z).1
          omega
        · exact small (by omega)
      · exact small (by omega)
  have hl3:((Ji n).map Q1).length<=1000000:=by rw [O2,subL_len]; have:=hpw n hn; omega
  have hb:-1000000<=(n:Int)/\(n:Int)<=1000000:=by omega
  have hg:Jd 12 (.lst ((Qi (Qj n m)).map Q1))=true:=by simp [Jd,Q1]
  have hz:=fz_good (n:=st'.length) (st:=st') (k:=16) hg (by decide)
  have h00:(Ji 0).map Q1=[.tup []]:=rfl
  rw [h00] at e
  have step:m__law_e_sized [some (.int n),some (.int m),none,none] st'=.rt (.lst ((Qi (Qj n m)).map Q1)) st':=by
    generalize (Qi (Qj n m)).map Q1=ov at *
    generalize (Qj n m).map Q1=zv at *
    generalize (Ji n).map Q1=sv at *
    simp -implicitDefEqProofs [m__law_e_sized,Qe,hb,e,hl3,hc2,hso]
  show Qd m__law_e_sized 4 _ st'=_
  unfold Qd
  rw [show (([PV.int n,.int m]:List PV).map some ++ List.replicate (4 - [PV.int n,.int m].length) none)=[some (.int n),some (.int m),none,none] from rfl,step]
  generalize (Qi (Qj n m)).map Q1=ov at *
  show fin st' (.lst ov) st'=_
  unfold fin
  rw [if_pos (List.prefix_refl _),hz]; rfl
theorem sized_ok {n m:Nat} (hn1:1<=n) (hn:n<=6) (hm1:1<=m) (hm:m<=n) (S:Q0):Qx [.int n,.int m] S=.ok (.lst ((Qi (Qj n m)).map Q1)) S:=sized_okU (by omega) (.inl (size_book hn1 hn hm1 hm).2.1) (.inl hm1) S
def Z6 (gs:List (List Int)):List (List Key × PV):=gs.map fun g=>(g.map Sum.inl,.bl true)
theorem inl_inj {a b:List Int} (h:(a.map Sum.inl:List Key)=b.map Sum.inl):a=b:=by
  induction a generalizing b with
  | nil=>cases b with
    | nil=>rfl
    | cons _ _=>cases h
  | cons x a ih=>cases b with
    | nil=>cases h
    | cons y b=>
      rw [D5,D5] at h
      obtain ⟨h1,h2⟩:=List.cons.inj h
      rw [Sum.inl.inj h1,ih h2]
open Classical in
def addG (gs:List (List Int)) (g:List Int):List (List Int):=if g∈gs then gs else gs ++ [g]
theorem put_enc (gs:List (List Int)) (g:List Int):putT (Z6 gs) (g.map Sum.inl) (.bl true)=Z6 (addG gs g):=by
  classical
  have hany:((Z6 gs).any fun kv=>decide (kv.1=g.map Sum.inl))=decide (g∈gs):=by
    unfold Z6
    rw [List.any_map]
    by_cases h:g∈gs
    · rw [decide_eq_true h,List.any_eq_true]
      exact ⟨g,h,by simp⟩
    · rw [decide_eq_false h,List.any_eq_false]
      intro x hx z
      simp at z
      exact h (by rw [<- inl_inj z]; exact hx)
  unfold putT addG
  rw [hany]
  by_cases h:g∈gs
  · rw [if_pos (decide_eq_true h),if_pos h]
    unfold Z6
    rw [L8]
    refine List.map_congr_left fun x hx=>?_
    show (if (x.map Sum.inl:List Key)=g.map Sum.inl then _ else _)=_
    split <;> rfl
  · rw [if_neg (by simpa using h),if_neg h]
    unfold Z6
    rw [List.map_append]; rfl
theorem keyOf_int' (i:Int):keyOf (.int i)=some (.inl i):=rfl
theorem keysT_ints (g:List Int):keysT (g.map PV.int)=some (g.map Sum.inl):=by
  induction g with
  | nil=>rfl
  | cons x g ih=>rw [D5,keysT,keyOf_int']; simp [ih]
theorem intK_inl (g:List Int):intK (g.map Sum.inl)=some g:=by
  induction g with
  | nil=>rfl
  | cons x g ih=>rw [D5,intK,ih]; rfl
theorem keysI_enc:∀ {gs:List (List Int)},(∀ g∈gs,g≠[])->keysI (Z6 gs)=some gs
  | [],_=>rfl
  | [] :: gs,h=>absurd rfl (h [] (by simp))
  | (x :: g) :: gs,h=>by
    have ih:=keysI_enc (gs:=gs) fun g hg=>h g (O8 _ hg)
    show (match intK ((x :: g).map Sum.inl) with | some (n :: ns)=>(keysI (Z6 gs)).map ((n :: ns) :: ·) | _=>none)=_
    rw [intK_inl,ih]; rfl
theorem dputT_at {S:Q0} {D:Nat} {gs:List (List Int)} (h:S[D]?=some (.dtp (Z6 gs))) (hl:gs.length < 1000000) (g:List Int):dputT S (.ref D) (Q1 g) (.bl true)=some (S.set D (.dtp (Z6 (addG gs g)))):=by
  have h1:dtpOf S (.ref D)=some (Z6 gs):=by simp only [dtpOf,h]
  have h2:(Z6 gs).length < lim:=by unfold Z6; rw [O2]; exact hl
  unfold dputT Q1
  simp only [h1,keysT_ints,if_pos h2,put_enc]
@[simp] theorem mDPutT_eq (mo mi m:ME) (Γ:Gam) (st:Q0):mDPutT mo mi m Γ st=(m Γ st).sbind fun v st1=>(mo Γ st1).sbind fun p st2=>(mi Γ st2).sbind fun q st3=>match dputT st3 p q v with
  | some st4=>.nx Γ st4
  | none=>.stuck:=rfl
@[simp] theorem mDispT_eq (Γ:Gam) (st:Q0):mDispT Γ st=.ok (.ref st.length) (st ++ [.dtp []]):=rfl
structure GsOk (n:Int) (gs:List (List Int)):Prop where
  ok:∀ g∈gs,GOk n g/\g≠[]
  nd:gs.Nodup
theorem GsOk.add {n:Int} {gs:List (List Int)} (h:GsOk n gs) {g:List Int} (hg:GOk n g) (hne:g≠[]):GsOk n (addG gs g)/\(addG gs g).length<=gs.length + 1/\addG gs g≠[]:=by
  classical
  unfold addG
  by_cases z:g∈gs
  · rw [if_pos z]
    exact ⟨h,by omega,fun e=>by rw [e] at z; cases z⟩
  · rw [if_neg z]
    refine ⟨⟨fun q hq=>?_,?_⟩,by simp,by simp⟩
    · rcases D4.mp hq with hq | hq
      · exact h.ok q hq
      · rw [E6.mp hq]; exact ⟨hg,hne⟩
    · rw [List.nodup_append]
      exact ⟨h.nd,by simp,fun a ha b hb e=>z (by rw [<- E6.mp hb,<- e]; exact ha)⟩
abbrev bkΓ (L n w D:Nat) (a5 a6:Option PV):Gam:=[some (.ref L),some (.int 5),some (.int n),some (.int w),some (.ref D),a5,a6]
theorem ne_nil_ok (g:List Int) (st:Q0):oNe st (Q1 g) (.tup [])=.ok (.bl (!g.isEmpty)) st:=by
  cases g with
  | nil=>simp [Q1,oNe,oEq,der,Jd,peq,peqL,dep]
  | cons x g=>simp [Q1,oNe,oEq,der,Jd,peq,peqL,dep]
theorem bkturn {ns:List Int} {S:Q0} {L D n w:Nat} (T:TapeAt S L ns) (hLD:L≠D) (hn:n<=6) {gs:List (List Int)} (h:S[D]?=some (.dtp (Z6 gs))) (G:GsOk n gs) (hl:gs.length<=1000) (a5 a6:Option PV) :
    ∃ b6 S' gs',TapeAt S' L ns/\S'[D]?=some (.dtp (Z6 gs'))/\GsOk n gs'/\gs'.length<=gs.length + 1/\Jb (bkΓ L n w D a5 a6) S=.nx (bkΓ L n w D a5 b6) S':=by
  obtain ⟨g1,S1,T1,M1,G1,e1⟩:=subset_ok T n (by omega)
  have hb:-1000000<=(n:Int)/\(n:Int)<=1000000:=by omega
  have mid:∃ g S2,TapeAt S2 L ns/\Mv L S S2/\GOk n g/\∀ Y:MS,(Qb (J7 6 (Qc 2 J3 (Q2 (Q3 0) (Q2 (Q3 2) Q9))))
    (Qb (Ja (toB (mOp oEq (Q3 3) (mC (.int 1)))) (J7 6 (Qg Za (Q2 (mVal (Z4 [none,some 0] (Qa 0) (Zh (Q2 (Q3 2) Q9)) Jt Jv)) Q9))) Qp) Y)) (bkΓ L n w D a5 a6) S=Y (bkΓ L n w D a5 (some (Q1 g))) S2:=by
    by_cases hw:w=1
    · subst hw
      obtain ⟨g,S2,T2,M2,G2,e2⟩:=filt_ok (mt:=Jt) (me:=Jv) (fun k st Tk=>by
        obtain ⟨d,S2,hd,T2,M2,e2⟩:=Zm Tk 4 (by decide) (by decide)
        rw [show ((4:Nat):Int)=4 from rfl] at e2
        exact ⟨decide ((0:Int) < d),S2,by simp -implicitDefEqProofs [Jt,e2],T2,M2⟩) (fun k st=>by simp [Jv]) T1 n (by omega)
      refine ⟨g,S2,T2,M1.trans M2,G2,fun Y=>?_⟩
      have e2':J6 (Qa 0) Jt Jv [] (Jj [none,some 0] [some (.ref L),some (.int 5),some (.int n),some (.int 1),some (.ref D),a5,some (Q1 g1)]) (rangeI 0 n) S1=.ok (g.map PV.int) S2:=e2
      unfold bkΓ
      generalize Q1 g1=v1 at *
      unfold Q1
      generalize g.map PV.int=gv at *
      simp -implicitDefEqProofs [e1,Qe,hb,e2']
    · have hw':¬ ((w:Int)=1):=by omega
      refine ⟨g1,S1,T1,M1,G1,fun Y=>?_⟩
      unfold bkΓ
      generalize Q1 g1=v1 at *
      simp -implicitDefEqProofs [e1,hw,hw']
  obtain ⟨g,S2,T2,M2,G2,hY⟩:=mid
  have h2:S2[D]?=some (.dtp (Z6 gs)):=by rw [M2.keep D (fun z=>hLD z.symm)]; exact h
  have hD:D < S2.length:=(O3.mp h2).1
  have nn:=ne_nil_ok g S2
  by_cases hg:g=[]
  · refine ⟨some (Q1 g),S2,gs,T2,h2,G,by omega,?_⟩
    have nn:oNe S2 (Q1 g) (.tup [])=.ok (.bl false) S2:=by rw [nn,hg]; rfl
    unfold Jb
    rw [hY]
    unfold bkΓ
    generalize Q1 g=gv at *
    simp -implicitDefEqProofs [Qe,nn]
  · have dp:=dputT_at h2 (by omega) g
    obtain ⟨k1,k2,_⟩:=G.add G2 hg
    refine ⟨some (Q1 g),S2.set D (.dtp (Z6 (addG gs g))),addG gs g,T2.of (by rw [F8 (fun z=>hLD z.symm)]),by rw [F6 hD],k1,k2,?_⟩
    have nn:oNe S2 (Q1 g) (.tup [])=.ok (.bl true) S2:=by
      rw [nn]
      cases g with
      | nil=>exact absurd rfl hg
      | cons _ _=>rfl
    unfold Jb
    rw [hY]
    unfold bkΓ
    generalize Q1 g=gv at *
    simp -implicitDefEqProofs [Qe,nn,dp]
theorem book_drawn {ns:List Int} {S:Q0} {L:Nat} (T:TapeAt S L ns):∃ (n:Nat) (gs:List (List Int)) (S':Q0),1<=n/\n<=6/\BOk n gs/\TapeAt S' L ns/\Z8 [.ref L,.int 5] S=.ok (Q4 n gs) S':=by
  obtain ⟨d,S1,hd,T1,M1,e1⟩:=Zm T 5 (by decide) (by decide)
  obtain ⟨w,S2,hw,T2,M2,e2⟩:=Zm T1 4 (by decide) (by decide)
  rw [show ((5:Nat):Int)=5 from rfl] at e1
  rw [show ((4:Nat):Int)=4 from rfl] at e2
  obtain ⟨n,hn⟩:∃ n:Nat,1 + (d:Int)=n:=⟨1 + d,by push_cast; rfl⟩
  have hn1:1<=n:=by omega
  have hn6:n<=6:=by omega
  have ret:∀ {v:PV} {S':Q0},Zr [some (.ref L),some (.int 5),none,none,none,none,none] S=.rt v S'->Z8 [.ref L,.int 5] S=.ok v S':=fun {v S'} h=>by
    show callK Zr 7 _ S=_
    unfold callK
    rw [show (([PV.ref L,.int 5]:List PV).map some ++ List.replicate (7 - [PV.ref L,.int 5].length) none)=[some (.ref L),some (.int 5),none,none,none,none,none] from rfl,h]
  by_cases w0:w=0
  · subst w0
    obtain ⟨m,S3,hm,T3,M3,e3⟩:=Zm T2 n hn1 (by omega)
    obtain ⟨q,hq⟩:∃ q:Nat,1 + (m:Int)=q:=⟨1 + m,by push_cast; rfl⟩
    have e4:=sized_ok hn1 hn6 (show 1<=q by omega) (show q<=n by omega) S3
    refine ⟨n,Qi (Qj n q),S3,hn1,hn6,(size_book hn1 hn6 (by omega) (by omega)).1,T3,ret ?_⟩
    rw [show ((0:Nat):Int)=0 from rfl] at e2
    unfold Q4 setsV
    generalize (Qi (Qj n q)).map Q1=ov at *
    simp -implicitDefEqProofs [Zr,e1,e2,hn,e3,hq,e4,Qe]
  · have w0':¬ ((w:Int)=0):=by omega
    have T3:TapeAt (S2 ++ [.dtp []]) L ns:=T2.of (by rw [D2 T2.lt])
    obtain ⟨k,S4,hk,T4,M4,e4⟩:=Zm T3 6 (by decide) (by decide)
    rw [show ((6:Nat):Int)=6 from rfl] at e4
    have hLD:L≠S2.length:=O9 T2.lt
    have h4:S4[S2.length]?=some (.dtp (Z6 [])):=by rw [M4.keep _ (fun z=>hLD z.symm)]; simp [Z6]
    obtain ⟨kk,hkk⟩:∃ kk:Nat,1 + (k:Int)=kk:=⟨1 + k,by push_cast; rfl⟩
    obtain ⟨Γ',S5,e5,b5,b6,gs,rfl,T5,h5,G5,l5⟩:=forG_inv (g:=fun k:Nat=>PV.int (k:Int)) (xs:=List.range kk) (ga:=Qa 5) (body:=Jb) (w:=[]) (Γ:=bkΓ L n w S2.length none none) (st:=S4)
      (fun i Γ st'=>∃ b5 b6 gs,Γ=bkΓ L n w S2.length b5 b6/\TapeAt st' L ns/\st'[S2.length]?=some (.dtp (Z6 gs))/\GsOk n gs/\gs.length<=i)
      (fun _ _ _ _=>by simp)
      (fun i x Γ st' hx ⟨b5,b6,gs,g1,T',h',G',l'⟩=>by
        subst g1
        have hi:i < kk:=by simpa using (O3.mp hx).1
        obtain ⟨c6,S',gs',T6,h6,G6,l6,e6⟩:=bkturn T' hLD hn6 h' G' (by omega) (some (.int x)) b6 (w:=w)
        exact ⟨_,rfl,_,S',e6,_,_,gs',rfl,T6,h6,G6,by omega⟩)
      ⟨_,_,[],rfl,T4,h4,⟨fun g hg=>(by cases hg),List.nodup_nil⟩,by simp⟩
    rw [<- rangeI0] at e5
    rw [F0] at l5
    have hkb:-1000000<=(kk:Int)/\(kk:Int)<=1000000:=by omega
    have hD5:S2.length < S5.length:=(O3.mp h5).1
    have hlt:∀ (S':Q0) gs',S'[S2.length]?=some (.dtp (Z6 gs'))->gs'.length < 1000->cLenT S' [.ref S2.length]=.ok (.int (gs'.length:Nat)) S':=fun S' gs' h hl=>by
      unfold cLenT
      have h1:dtpOf S' (.ref S2.length)=some (Z6 gs'):=by simp only [dtpOf,h]
      have h2:(Z6 gs').length=gs'.length:=by unfold Z6; rw [O2]
      simp only [h1,h2]
      rw [if_pos (by omega)]
    have mid:∃ gs' S6,GsOk n gs'/\gs'≠[]/\gs'.length < 60/\TapeAt S6 L ns/\S6[S2.length]?=some (.dtp (Z6 gs'))/\(Ja (toB (mOp oEq (Qg cLenT (Q2 (Q3 4) Q9)) (mC (.int 0)))) (mDPutT (Q3 4) (mTup (Q2 (mOp (oI fun a b=>.int (a - b)) (Q3 2) (mC (.int 1))) Q9)) (mC (.bl true))) Qp) (bkΓ L n w S2.length b5 b6) S5=.nx (bkΓ L n w S2.length b5 b6) S6:=by
      have hl:=hlt S5 gs h5 (by omega)
      by_cases hg:gs=[]
      · subst hg
        have hgk:GOk n [(n:Int) - 1]:=⟨fun h hh=>by rw [E6.mp hh]; omega,by simp,by simp⟩
        obtain ⟨k1,k2,k3⟩:=G5.add hgk (by simp)
        have dp:=dputT_at h5 (by simp) [(n:Int) - 1]
        refine ⟨addG [] [(n:Int) - 1],S5.set S2.length (.dtp (Z6 (addG [] [(n:Int) - 1]))),k1,k3,by simp at k2; omega,T5.of (by rw [F8 (fun z=>hLD z.symm)]),by rw [F6 hD5],?_⟩
        have hl:cLenT S5 [.ref S2.length]=.ok (.int 0) S5:=hl
        have dp:dputT S5 (.ref S2.length) (.tup [.int ((n:Int) - 1)]) (.bl true)=some (S5.set S2.length (.dtp (Z6 (addG [] [(n:Int) - 1])))):=dp
        unfold bkΓ
        generalize S5.set S2.length (Cell.dtp (Z6 (addG [] [(n:Int) - 1])))=S6 at *
        simp -implicitDefEqProofs [hl,Qe,dp]
      · refine ⟨gs,S5,G5,hg,by omega,T5,h5,?_⟩
        have h0:¬ ((gs.length:Int)=0):=by have:=List.length_pos_iff.mpr hg; omega
        have h0':¬ gs=[]:=hg
        unfold bkΓ
        simp -implicitDefEqProofs [hl,h0,h0']
    obtain ⟨gs',S6,k1,k2,k3,T6,h6,e6⟩:=mid
    have hso:cSortD S6 [.ref S2.length]=.ok (.lst ((Qi gs').map Q1)) S6:=by
      unfold cSortD
      have h1:dtpOf S6 (.ref S2.length)=some (Z6 gs'):=by simp only [dtpOf,h6]
      simp only [h1,keysI_enc fun g hg=>(k1.ok g hg).2]
      rw [if_pos (by omega)]
    have hp:=Zg gs'
    refine ⟨n,Qi gs',S6,hn1,hn6,⟨by omega,by omega,fun z=>?_,fun g hg=>k1.ok g (hp.mem_iff.mp hg),strict_sort k1.nd,by rw [hp.length_eq]; omega⟩,T6,ret ?_⟩
    · rw [z] at hp
      exact k2 (List.nil_perm.mp hp)
    · have s1:∀ Y:MS,(Qb (J7 2 (mOp oAdd (mC (.int 1)) (Qc 2 Q5 (Q2 (Q3 0) (Q2 (Q3 1) Q9)))))
        (Qb (J7 3 (Qc 2 Q5 (Q2 (Q3 0) (Q2 (mC (.int 4)) Q9))))
        (Qb (Ja (toB (mOp oEq (Q3 3) (mC (.int 0)))) (Qw (mTup (Q2 (Q3 2) (Q2 (Qg Za (Q2 (Qc 2 Qx (Q2 (Q3 2) (Q2 (mOp oAdd (mC (.int 1)) (Qc 2 Q5 (Q2 (Q3 0) (Q2 (Q3 2) Q9)))) Q9))) Q9)) Q9)))) Qp)
        (Qb (J7 4 mDispT)
        (Qb (mFor (Qa 5) (Zh (Q2 (mOp oAdd (mC (.int 1)) (Qc 2 Q5 (Q2 (Q3 0) (Q2 (mC (.int 6)) Q9)))) Q9)) Jb) Y))))) [some (.ref L),some (.int 5),none,none,none,none,none] S=Y (bkΓ L n w S2.length b5 b6) S5:=fun Y=>by
        unfold bkΓ at e5 ⊢
        simp -implicitDefEqProofs [e1,e2,hn,w0,w0',e4,hkk,Qe,hkb,e5]
      unfold Zr
      rw [s1,Jx,e6]
      show Qw _ _ _=_
      unfold Q4 setsV bkΓ
      generalize (Qi gs').map Q1=ov at *
      simp -implicitDefEqProofs [hso,Qe]
theorem in_grp (x:Int) (g:List Int) (st:Q0) (neg:Bool):oIn neg st (.int x) (Q1 g)=.ok (.bl (decide (x∈g) != neg)) st:=by
  have h1:(g.map PV.int).all (Jd dep)=true:=by simp [Jd]
  have h2:((g.map PV.int).any fun y=>peq y (.int x))=decide (x∈g):=by
    rw [List.any_map]
    by_cases h:x∈g
    · rw [decide_eq_true h,List.any_eq_true]
      exact ⟨x,h,by simp [peq]⟩
    · rw [decide_eq_false h,List.any_eq_false]
      intro y hy z
      simp [peq] at z
      exact h (by rw [<- z]; exact hy)
  unfold oIn Q1
  simp only [seqOf_tup]
  have hd:der st (.int x)=.int x:=rfl
  rw [hd,if_pos ⟨rfl,h1⟩,h2]
def Ze (a b:List Int):Bool:=a.any fun x=>decide (x∈b)
theorem meetB_comm (a b:List Int):Ze a b=Ze b a:=by
  have key:∀ a b:List Int,Ze a b=true->Ze b a=true:=fun a b h=>by
    unfold Ze at *
    rw [List.any_eq_true] at *
    obtain ⟨x,h1,h2⟩:=h
    exact ⟨x,by simpa using h2,by simpa using h1⟩
  cases h:Ze a b with
  | true=>rw [key a b h]
  | false=>
    cases h2:Ze b a with
    | false=>rfl
    | true=>rw [key b a h2] at h; cases h
theorem meets_ok {n:Int} {a b:List Int} (ha:a.length<=20) (st:Q0):F_meets [Q1 a,Q1 b] st=.ok (.bl (Ze a b)) st:=by
  have hc:J6 (Qa 0) mTrue e_meets_1 [] (Jj [none,some 1] [some (Q1 a),some (Q1 b)]) (a.map PV.int) st=.ok ((a.map fun x=>decide (x∈b)).map .bl) st:=by
    rw [L8]
    refine compG_on PV.int (fun x=>PV.bl (decide (x∈b))) (by simp) fun x hx=>⟨_,rfl,?_⟩
    have:=in_grp x b st false
    rw [Bool.bne_false] at this
    generalize Q1 a=av at *
    generalize Q1 b=bv at *
    simp [Jj,e_meets_1,this]
  have hm:Ze a b=(a.map fun x=>decide (x∈b)).any id:=by unfold Ze; rw [List.any_map]; rfl
  have hl:(a.map PV.int).length<=1000000:=by rw [O2]; omega
  rw [hm]
  have hta:Q1 a=.tup (a.map PV.int):=rfl
  rw [hta] at hc ⊢
  generalize (a.map fun x=>decide (x∈b))=bs at *
  generalize a.map PV.int=av at *
  generalize Q1 b=bv at *
  simp -implicitDefEqProofs [F_meets,Qd,m_meets,hl,Qe,hc]
def Z5 (gs:List (List Int)) (a:List Int):Option (List Int):=gs.find? fun g=>!Ze a g
def optV:Option (List Int)->PV
  | none=>.non
  | some g=>Q1 g
theorem without_ok {n:Int} {gs:List (List Int)} (hl:gs.length<=100) {a:List Int} (ha:a.length<=20) (st:Q0):Z7 [Q4 n gs,Q1 a] st=.ok (optV (Z5 gs a)) st:=by
  have key:∀ (l:List (List Int)) (b2:Option PV),(∃ c2,forG (Qa 2) Qh [] (l.map Q1) [some (Q4 n gs),some (Q1 a),b2] st=.nx [some (Q4 n gs),some (Q1 a),c2] st/\Z5 l a=none)\/(∃ g,forG (Qa 2) Qh [] (l.map Q1) [some (Q4 n gs),some (Q1 a),b2] st=.rt (Q1 g) st/\Z5 l a=some g):=by
    intro l
    induction l with
    | nil=>intro b2; exact .inl ⟨b2,by simp [forG],rfl⟩
    | cons x l ih=>
      intro b2
      have hx:=meets_ok (n:=n) (a:=a) (b:=x) ha st
      have hb:Qh [some (Q4 n gs),some (Q1 a),some (Q1 x)] st=if Ze a x=true then .nx [some (Q4 n gs),some (Q1 a),some (Q1 x)] st else .rt (Q1 x) st:=by
        generalize Q4 n gs=bv at *
        generalize Q1 a=av at *
        generalize Q1 x=xv at *
        cases q:Ze a x <;> (rw [q] at hx; simp -implicitDefEqProofs [Qh,hx])
      rw [D5,forG,if_pos (by simp)]
      show (∃ c2,(match Qh [some (Q4 n gs),some (Q1 a),some (Q1 x)] st with
        | .nx Γ2 st2=>forG (Qa 2) Qh [] (l.map Q1) Γ2 st2
        | .ct Γ2 st2=>forG (Qa 2) Qh [] (l.map Q1) Γ2 st2
        | .bk Γ2 st2=>.nx Γ2 st2
        | .rt v st2=>.rt v st2
        | .exc x st2=>.exc x st2
        | .stuck=>.stuck)=.nx [some (Q4 n gs),some (Q1 a),c2] st/\_)\/(∃ g,(match Qh [some (Q4 n gs),some (Q1 a),some (Q1 x)] st with
        | .nx Γ2 st2=>forG (Qa 2) Qh [] (l.map Q1) Γ2 st2
        | .ct Γ2 st2=>forG (Qa 2) Qh [] (l.map Q1) Γ2 st2
        | .bk Γ2 st2=>.nx Γ2 st2
        | .rt v st2=>.rt v st2
        | .exc x st2=>.exc x st2
        | .stuck=>.stuck)=.rt (Q1 g) st/\_)
      rw [hb]
      cases q:Ze a x with
      | true=>
        have hf:Z5 (x :: l) a=Z5 l a:=by unfold Z5; rw [List.find?_cons,q]; rfl
        rw [if_pos rfl,hf]
        exact ih _
      | false=>
        rw [if_neg (by simp)]
        exact .inr ⟨x,rfl,by unfold Z5; rw [List.find?_cons,q]; rfl⟩
  have hll:(gs.map Q1).length<=1000000:=by rw [O2]; omega
  have hix:oIx st (Q4 n gs) (.int 1)=.ok (.tup (gs.map Q1)) st:=rfl
  rcases key gs none with ⟨c2,e,hf⟩ | ⟨g,e,hf⟩
  · rw [hf]
    generalize Q4 n gs=bv at *
    generalize gs.map Q1=gv at *
    generalize Q1 a=av at *
    simp -implicitDefEqProofs [Z7,Qd,Zq,hix,hll,Qe,e,optV]
  · rw [hf]
    have hg:Jd 12 (Q1 g)=true:=by simp [Jd,Q1]
    have hz:=fz_good (n:=st.length) (st:=st) (k:=16) hg (by decide)
    show _=Res.ok (Q1 g) st
    have step:Zq [some (Q4 n gs),some (Q1 a),none] st=.rt (Q1 g) st:=by
      generalize Q4 n gs=bv at *
      generalize gs.map Q1=gv at *
      generalize Q1 a=av at *
      generalize Q1 g=gg at *
      simp -implicitDefEqProofs [Zq,hix,hll,Qe,e]
    show Qd Zq 3 _ st=_
    unfold Qd
    rw [show (([Q4 n gs,Q1 a]:List PV).map some ++ List.replicate (3 - [Q4 n gs,Q1 a].length) none)=[some (Q4 n gs),some (Q1 a),none] from rfl,step]
    show fin st (Q1 g) st=_
    unfold fin
    rw [if_pos (List.prefix_refl _),hz]; rfl
theorem ret_opt {F:FN} {m:MS} {n:Nat} (hF:F=Qd m n) {ps:List PV} {st:Q0} {o:Option (List Int)} (h:m (ps.map some ++ List.replicate (n - ps.length) none) st=.rt (optV o) st):F ps st=.ok (optV o) st:=by
  have hg:Jd 12 (optV o)=true:=by cases o <;> simp [Jd,Q1,optV]
  have hz:=fz_good (n:=st.length) (st:=st) (k:=16) hg (by decide)
  rw [hF]
  unfold Qd
  rw [h]
  show fin st (optV o) st=_
  unfold fin
  rw [if_pos (List.prefix_refl _),hz]; rfl
theorem peq_tup (a b:List Int):peq (Q1 a) (Q1 b)=decide (a=b):=by
  unfold Q1
  rw [peq]
  induction a generalizing b with
  | nil=>cases b <;> simp [peqL]
  | cons x a ih=>cases b with
    | nil=>simp [peqL]
    | cons y b=>
      rw [D5,D5,peqL,ih b]
      by_cases h1:x=y <;> by_cases h2:a=b <;> simp [peq,h1,h2]
def lastLt (g:List Int) (h:Nat):Bool:=g.isEmpty || decide (g.getLastD 0 < (h:Int))
def Qf (n:Nat) (g:List Int):List (List Int):=((List.range n).filter (lastLt g)).map fun h:Nat=>g ++ [(h:Int)]
def grpL (n:Nat):Nat->List (List Int)
  | 0=>[[]]
  | k + 1=>(grpL n k).flatMap (Qf n)
theorem grp_len:∀ n,n<=9->∀ k,k<=10->(grpL n k).length<=126:=by decide +kernel
theorem last_le {g:List Int} (h:g.Pairwise (· < ·)) {x:Int} (hx:x∈g):x<=g.getLastD 0:=by
  induction g generalizing x with
  | nil=>cases hx
  | cons a g ih=>
    obtain ⟨h1,h2⟩:=F1.mp h
    cases g with
    | nil=>rw [E6.mp hx]; simp
    | cons b g=>
      have e:(a :: b :: g).getLastD 0=(b :: g).getLastD 0:=by simp [List.getLastD]
      rw [e]
      rcases D1.mp hx with rfl | hx
      · have:=h1 b (by simp)
        have:=ih h2 (by simp:b∈b :: g)
        omega
      · exact ih h2 hx
theorem last_mem {g:List Int} (h:g≠[]):g.getLastD 0∈g:=by
  have:g.getLastD 0=g.getLast h:=by
    rw [List.getLastD_eq_getLast?,List.getLast?_eq_some_getLast h]; rfl
  rw [this]; exact List.getLast_mem h
theorem mem_grpL {n:Nat}:∀ {k:Nat} {g:List Int},g∈grpL n k <-> (g.length=k/\g.Pairwise (· < ·)/\∀ h∈g,0<=h/\h < (n:Int))
  | 0,g=>by
    rw [grpL,E6]
    constructor
    · rintro rfl; exact ⟨rfl,List.Pairwise.nil,fun h hh=>by cases hh⟩
    · rintro ⟨h,_⟩; exact List.length_eq_zero_iff.mp h
  | k + 1,g=>by
    rw [grpL,List.mem_flatMap]
    constructor
    · rintro ⟨a,ha,hg⟩
      obtain ⟨h1,h2,h3⟩:=mem_grpL.mp ha
      unfold Qf at hg
      obtain ⟨h,hh,rfl⟩:=List.mem_map.mp hg
      obtain ⟨hr,hl⟩:=List.mem_filter.mp hh
      have hr:h < n:=by simpa using hr
      have lt:∀ x∈a,x < (h:Int):=fun x hx=>by
        unfold lastLt at hl
        have hne:a.isEmpty=false:=by cases a with | nil=>cases hx | cons _ _=>rfl
        rw [hne,Bool.false_or,decide_eq_true_eq] at hl
        have:=last_le h2 hx
        omega
      refine ⟨by simp [h1],D9.mpr ⟨h2,by simp,fun x hx y hy=>by rw [E6.mp hy]; exact lt x hx⟩,fun x hx=>?_⟩
      rcases D4.mp hx with hx | hx
      · exact h3 x hx
      · rw [E6.mp hx]; omega
    · rintro ⟨h1,h2,h3⟩
      have hne:g≠[]:=fun z=>by rw [z] at h1; cases h1
      obtain ⟨a,h,rfl⟩:∃ a h,g=a ++ [h]:=⟨g.dropLast,g.getLast hne,(List.dropLast_concat_getLast hne).symm⟩
      obtain ⟨p1,_,p3⟩:=D9.mp h2
      have hh:=h3 h (by simp)
      refine ⟨a,mem_grpL.mpr ⟨by simpa using h1,p1,fun x hx=>h3 x (E3 _ hx)⟩,?_⟩
      unfold Qf
      refine List.mem_map.mpr ⟨h.toNat,List.mem_filter.mpr ⟨by simp; omega,?_⟩,by rw [Int.toNat_of_nonneg hh.1]⟩
      unfold lastLt
      cases z:a.isEmpty with
      | true=>rfl
      | false=>
        rw [Bool.false_or,decide_eq_true_eq,Int.toNat_of_nonneg hh.1]
        exact p3 _ (last_mem (by intro q; rw [q] at z; cases z)) h (by simp)
theorem last_ix {g:List Int} (h:g≠[]) (st:Q0):oIx st (Q1 g) (.int (-1))=.ok (.int (g.getLastD 0)) st:=by
  unfold Q1
  rw [oIx_tup]
  obtain ⟨a,x,rfl⟩:∃ a x,g=a ++ [x]:=⟨g.dropLast,g.getLast h,(List.dropLast_concat_getLast h).symm⟩
  have e1:(a ++ [x]).getLastD 0=x:=by simp [List.getLastD_eq_getLast?]
  have e2:atI ((a ++ [x]).map PV.int) (-1)=some (.int x):=by
    unfold L2.atI
    have hl:((a ++ [x]).map PV.int).length=a.length + 1:=by simp
    have:ixN ((a ++ [x]).map PV.int).length (-1)=some a.length:=by
      rw [hl]
      unfold ixN
      have h1:((-1:Int) < 0):=by omega
      have h2:(0:Int)<=-1 + ((a.length + 1:Nat):Int)/\-1 + ((a.length + 1:Nat):Int) < ((a.length + 1:Nat):Int):=by omega
      simp [h1]
      omega
    rw [this]
    show ((a ++ [x]).map PV.int)[a.length]?=_
    simp
  rw [e2,e1]; rfl
abbrev goΓ (n k:Int) (G:PV) (a3 a4 a5:Option PV):Gam:=[some (.int n),some (.int k),some G,a3,a4,a5]
theorem go_comp {n:Nat} (hn:n<=9) {g:List Int} (hl:g.length<=20) (k:Int) (G:PV) (a3 a4:Option PV) (st:Q0):J6 (Qa 0) t_groups_of_1 e_groups_of_1 [] (Jj [none,some 5] (goΓ n k G a3 a4 (some (Q1 g)))) (rangeI 0 n) st=.ok ((Qf n g).map Q1) st:=by
  rw [rangeI0]
  unfold Qf
  rw [L8]
  refine compG_onF (fun h:Nat=>PV.int (h:Int)) (fun h:Nat=>Q1 (g ++ [(h:Int)])) (lastLt g) (by simp) fun h _=>⟨_,rfl,?_,fun _=>?_⟩
  · have hc:cLen st [Q1 g]=.ok (.int (g.length:Nat)) st:=by simp [Q1]
    unfold lastLt
    by_cases z:g=[]
    · subst z
      simp -implicitDefEqProofs [Jj,t_groups_of_1,Q1]
    · have h0:¬ (g.length=0):=fun q=>z (List.length_eq_zero_iff.mp q)
      have h0':¬ ((g.length:Int)=0):=by omega
      have hlx:=last_ix z st
      have he:g.isEmpty=false:=by cases g with | nil=>exact absurd rfl z | cons _ _=>rfl
      rw [he]
      generalize g.getLastD 0=la at *
      generalize Q1 g=gv at *
      generalize g.length=gl at *
      simp -implicitDefEqProofs [Jj,t_groups_of_1,hc,h0,h0',hlx]
  · have hz:(g.map PV.int).length + 1<=1000000:=by rw [O2]; omega
    unfold Q1
    rw [List.map_append]
    generalize g.map PV.int=gv at *
    simp -implicitDefEqProofs [Jj,e_groups_of_1,Qe,hz]
theorem src_grow {st0:Q0} {G:PV} {xs:List PV} (h:ListAt st0 G xs):∃ w,∀ T,srcOf (st0 ++ T) G=some (xs,w)/\wOk w (st0 ++ T):=by
  rcases h with rfl | rfl | ⟨i,rfl,e⟩
  · exact ⟨[],fun T=>⟨rfl,by simp⟩⟩
  · exact ⟨[],fun T=>⟨rfl,by simp⟩⟩
  · refine ⟨[(i,.lst xs)],fun T=>?_⟩
    have e':(st0 ++ T)[i]?=some (.lst xs):=by rw [D2 (O3.mp e).1]; exact e
    refine ⟨srcOf_ref e',fun x hx=>?_⟩
    have:x=(i,.lst xs):=by simpa using hx
    subst this
    exact e'
theorem go_in {n:Nat} (hn:n<=9) {gs:List (List Int)} (hgs:∀ g∈gs,g.length<=20) (htot:(gs.flatMap (Qf n)).length<=126) {st0:Q0} {w:Wt} (hw:∀ T,wOk w (st0 ++ T)) (k:Int) (G:PV) (a3 a5:Option PV) :
    ∃ b5,forG (Qa 5) b_groups_of_2 w (gs.map Q1) (goΓ n k G a3 (some (.ref st0.length)) a5) (st0 ++ [.lst []])=.nx (goΓ n k G a3 (some (.ref st0.length)) b5) (st0 ++ [.lst ((gs.flatMap (Qf n)).map Q1)]):=by
  obtain ⟨Γ',st',e,b5,rfl,rfl⟩:=forG_invL (g:=Q1) (xs:=gs) (ga:=Qa 5) (body:=b_groups_of_2) (w:=w) (Γ:=goΓ n k G a3 (some (.ref st0.length)) a5) (st:=st0 ++ [.lst []])
    (fun pre Γ st'=>∃ b5,Γ=goΓ n k G a3 (some (.ref st0.length)) b5/\st'=st0 ++ [.lst ((pre.flatMap (Qf n)).map Q1)])
    (fun _ _ _ ⟨_,_,e⟩=>by rw [e]; exact hw _)
    (fun pre g post Γ st' hx ⟨b5,e1,e2⟩=>by
      subst e1; subst e2
      have hg:g∈gs:=by rw [hx]; simp
      have hc:=go_comp hn (hgs g hg) k G a3 (some (.ref st0.length)) (st0 ++ [.lst ((pre.flatMap (Qf n)).map Q1)])
      have hb:-1000000<=(n:Int)/\(n:Int)<=1000000:=by omega
      have hM:(st0 ++ [Cell.lst ((pre.flatMap (Qf n)).map Q1)])[st0.length]?=some (.lst ((pre.flatMap (Qf n)).map Q1)):=by simp
      have hlo:listOf (st0 ++ [Cell.lst ((pre.flatMap (Qf n)).map Q1)]) (.ref st0.length)=some ((pre.flatMap (Qf n)).map Q1):=listOf_ref hM
      have hll:((pre.flatMap (Qf n)).map Q1).length + ((Qf n g).map Q1).length<=1000000:=by
        rw [O2,O2]
        have:(gs.flatMap (Qf n)).length=(pre.flatMap (Qf n)).length + ((Qf n g).length + (post.flatMap (Qf n)).length):=by
          rw [hx,List.flatMap_append,List.flatMap_cons,E5,E5]
        omega
      have hset:(st0 ++ [Cell.lst ((pre.flatMap (Qf n)).map Q1)]).set st0.length (.lst ((pre.flatMap (Qf n)).map Q1 ++ (Qf n g).map Q1))=st0 ++ [.lst (((pre ++ [g]).flatMap (Qf n)).map Q1)]:=by
        rw [tr_set,List.flatMap_append,List.map_append]; simp
      refine ⟨_,rfl,goΓ n k G a3 (some (.ref st0.length)) (some (Q1 g)),_,?_,_,rfl,hset⟩
      rw [show List.set (goΓ n k G a3 (some (.ref st0.length)) b5) 5 (some (Q1 g))=goΓ n k G a3 (some (.ref st0.length)) (some (Q1 g)) from rfl]
      have hmt:mtExtend (st0 ++ [Cell.lst ((pre.flatMap (Qf n)).map Q1)]) (.ref st0.length) [.lst ((Qf n g).map Q1)]=.ok .non ((st0 ++ [Cell.lst ((pre.flatMap (Qf n)).map Q1)]).set st0.length (.lst ((pre.flatMap (Qf n)).map Q1 ++ (Qf n g).map Q1))):=by
        unfold mtExtend chg
        simp only [lstOf,hM]
        rw [if_pos (show _<=lim from hll)]
      clear hset hM
      unfold goΓ at hc ⊢
      generalize (st0 ++ [Cell.lst ((pre.flatMap (Qf n)).map Q1)]).set st0.length (.lst ((pre.flatMap (Qf n)).map Q1 ++ (Qf n g).map Q1))=S2 at *
      generalize st0 ++ [Cell.lst ((pre.flatMap (Qf n)).map Q1)]=S1 at *
      generalize (pre.flatMap (Qf n)).map Q1=pv at *
      generalize (Qf n g).map Q1=gv at *
      simp -implicitDefEqProofs [b_groups_of_2,hlo,hb,Qe,hc,hmt,-listOf_r])
    ⟨_,rfl,rfl⟩
  exact ⟨b5,e⟩
theorem fzL_tups (n:Nat) (st:Q0):∀ gs:List (List Int),fzL n st 15 (gs.map Q1)=some (gs.map Q1)
  | []=>by rw [List.map_nil,fzL]
  | g :: gs=>by
    have h1:fz n st 15 (Q1 g)=some (Q1 g):=fz_good (m:=1) (by simp [Jd,Q1]) (by decide)
    rw [D5,fzL,h1,fzL_tups n st gs]; rfl
theorem groups_ok {n k:Nat} (hn:n<=9) (hk:k<=10) (S:Q0):F_groups_of [.int n,.int k] S=.ok (.lst ((grpL n k).map Q1)) S:=by
  obtain ⟨Γ',st',e,G,b3,b4,b5,T,rfl,rfl,hG⟩:=forG_inv (g:=fun k:Nat=>PV.int (k:Int)) (xs:=List.range k) (ga:=Qa 3) (body:=b_groups_of_1) (w:=[]) (Γ:=goΓ n k (.lst [.tup []]) none none none) (st:=S)
    (fun i Γ st'=>∃ G b3 b4 b5 T,Γ=goΓ n k G b3 b4 b5/\st'=S ++ T/\(G=.lst ((grpL n i).map Q1)\/∃ r,G=.ref r/\S.length<=r/\(S ++ T)[r]?=some (.lst ((grpL n i).map Q1))))
    (fun _ _ _ _=>by simp)
    (fun i x Γ st' hx ⟨G,b3,b4,b5,T,e1,e2,hG⟩=>by
      subst e1; subst e2
      have hi:i < k:=by simpa using (O3.mp hx).1
      have hA:ListAt (S ++ T) G ((grpL n i).map Q1):=by
        rcases hG with rfl | ⟨r,rfl,_,h⟩
        · exact .inl rfl
        · exact .inr (.inr ⟨r,rfl,h⟩)
      obtain ⟨w,hw⟩:=src_grow hA
      have hl1:=grp_len n hn i (by omega)
      have hl2:=grp_len n hn (i + 1) (by omega)
      obtain ⟨c5,e3⟩:=go_in hn (gs:=grpL n i) (fun g hg=>by have:=(mem_grpL.mp hg).1; omega) (by rw [grpL] at hl2; exact hl2) (w:=w) (fun T'=>(hw T').2) k G (some (.int x)) b5
      have so:=(hw [.lst []]).1
      have hlm:((grpL n i).map Q1).length<=1000000:=by rw [O2]; omega
      refine ⟨_,rfl,goΓ n k (.ref (S ++ T).length) (some (.int x)) (some (.ref (S ++ T).length)) c5,S ++ T ++ [.lst ((grpL n (i + 1)).map Q1)],?_,_,_,_,_,T ++ [.lst ((grpL n (i + 1)).map Q1)],rfl,by rw [E9],.inr ⟨_,rfl,by simp,by rw [<- E9]; simp⟩⟩
      rw [show List.set (goΓ n k G b3 b4 b5) 3 (some (PV.int x))=goΓ n k G (some (.int x)) b4 b5 from rfl]
      rw [show ((grpL n i).flatMap (Qf n))=grpL n (i + 1) from rfl] at e3
      unfold goΓ at e3 ⊢
      generalize (grpL n (i + 1)).map Q1=g2 at *
      generalize (grpL n i).map Q1=g1 at *
      generalize S ++ T=S1 at *
      simp -implicitDefEqProofs [b_groups_of_1,so,hlm,Qe,e3,-srcOf_r])
    ⟨_,_,_,_,[],rfl,by simp,.inl rfl⟩
  rw [F0] at hG
  rw [<- rangeI0] at e
  have hb:-1000000<=(k:Int)/\(k:Int)<=1000000:=by omega
  have step:m_groups_of [some (.int n),some (.int k),none,none,none,none] S=.rt G (S ++ T):=by
    unfold goΓ at e
    generalize S ++ T=S1 at *
    simp -implicitDefEqProofs [m_groups_of,Qe,hb,e]
  show Qd m_groups_of 6 _ S=_
  unfold Qd
  rw [show (([.int n,.int k]:List PV).map some ++ List.replicate (6 - [PV.int n,.int k].length) none)=[some (.int n),some (.int k),none,none,none,none] from rfl,step]
  show fin S G (S ++ T)=_
  unfold fin
  rw [if_pos (List.prefix_append S T)]
  have:fz S.length (S ++ T) 16 G=some (.lst ((grpL n k).map Q1)):=by
    rcases hG with rfl | ⟨r,rfl,hr,h⟩
    · rw [fz,fzL_tups]; rfl
    · rw [fz,if_neg (by omega),h]
      show (fzL S.length (S ++ T) 15 _).map PV.lst=_
      rw [fzL_tups]; rfl
  rw [this]; rfl
theorem nodup_short:∀ {n:Nat} {L:List Nat},L.Nodup->(∀ x∈L,x < n)->L.length<=n
  | 0,[],_,_=>O4 _
  | 0,x :: L,_,h=>absurd (h x (by simp)) (Nat.not_lt_zero _)
  | n + 1,L,nd,h=>by
    by_cases z:n∈L
    · have h1:=nodup_short (n:=n) (L:=L.erase n) (nd.erase n) fun x hx=>by
        have:=h x (List.mem_of_mem_erase hx)
        have:x≠n:=fun e=>by rw [e] at hx; exact (List.Nodup.not_mem_erase nd) hx
        omega
      rw [List.length_erase_of_mem z] at h1
      omega
    · have:=nodup_short (n:=n) nd fun x hx=>by
        have:=h x hx
        have:x≠n:=fun e=>z (e ▸ hx)
        omega
      omega
theorem forG_find {α:Type} (g:α->PV) (J:Gam->Prop) (Pd:α->Bool) (v:α->PV) {ga:GA} {body:MS} {w:Wt} {st:Q0} (hw:wOk w st):∀ {xs:List α},(∀ x∈xs,∀ Γ,J Γ->∃ Γ1,ga (g x) Γ=some Γ1/\(Pd x=false->∃ Γ2,J Γ2/\body Γ1 st=.nx Γ2 st)/\(Pd x=true->body Γ1 st=.rt (v x) st)) ->
    ∀ Γ,J Γ->(xs.find? Pd=none->∃ Γ',J Γ'/\forG ga body w (xs.map g) Γ st=.nx Γ' st)/\(∀ x,xs.find? Pd=some x->forG ga body w (xs.map g) Γ st=.rt (v x) st)
  | [],_,Γ,hJ=>⟨fun _=>⟨Γ,hJ,by simp [forG,hw]⟩,fun x h=>by simp at h⟩
  | x :: xs,h,Γ,hJ=>by
    obtain ⟨Γ1,h1,h2,h3⟩:=h x E4 Γ hJ
    rw [D5,forG,if_pos hw,h1,List.find?_cons]
    cases px:Pd x with
    | false=>
      obtain ⟨Γ2,j2,e2⟩:=h2 px
      simp only [e2]
      exact forG_find g J Pd v hw (fun y hy=>h y (O8 _ hy)) Γ2 j2
    | true=>
      simp only [h3 px]
      exact ⟨fun z=>(by cases z),fun y z=>(by cases z; rfl)⟩
def inG (a g:List Int):Bool:=g.all fun x=>decide (x∈a)
def withinG (gs:List (List Int)) (a:List Int):Option (List Int):=gs.find? (inG a)
theorem within_ok {n:Int} {gs:List (List Int)} (hl:gs.length<=100) (hg:∀ g∈gs,g.length<=20) {a:List Int} (st:Q0):F_set_within [Q4 n gs,Q1 a] st=.ok (optV (withinG gs a)) st:=by
  have key:=forG_find (g:=Q1) (J:=fun Γ=>∃ b2,Γ=[some (Q4 n gs),some (Q1 a),b2]) (Pd:=inG a) (v:=Q1) (ga:=Qa 2) (body:=Jm) (w:=[]) (st:=st) (by simp) (xs:=gs) (fun g hg' Γ ⟨b2,e⟩=>by
    subst e
    have hc:J6 (Qa 0) mTrue e_set_within_1 [] (Jj [none,some 1] [some (Q4 n gs),some (Q1 a),some (Q1 g)]) (g.map PV.int) st=.ok ((g.map fun x=>decide (x∈a)).map .bl) st:=by
      rw [L8]
      refine compG_on PV.int (fun x=>PV.bl (decide (x∈a))) (by simp) fun x hx=>⟨_,rfl,?_⟩
      have:=in_grp x a st false
      rw [show (decide (x∈a) != false)=decide (x∈a) by simp] at this
      generalize Q4 n gs=bv at *
      generalize Q1 g=gv at *
      generalize Q1 a=av at *
      simp [Jj,e_set_within_1,this]
    have hal:(g.map fun x=>decide (x∈a)).all id=inG a g:=by unfold inG; rw [List.all_map]; rfl
    have hgl:(g.map PV.int).length<=1000000:=by rw [O2]; have:=hg g hg'; omega
    refine ⟨_,rfl,fun z=>⟨[some (Q4 n gs),some (Q1 a),some (Q1 g)],⟨_,rfl⟩,?_⟩,fun z=>?_⟩
    · rw [z] at hal
      show Jm [some (Q4 n gs),some (Q1 a),some (Q1 g)] st=_
      unfold Q1 at hc ⊢
      generalize (g.map fun x=>decide (x∈a))=bs at *
      generalize g.map PV.int=gv at *
      generalize Q4 n gs=bv at *
      generalize a.map PV.int=av at *
      simp -implicitDefEqProofs [Jm,hgl,Qe,hc,hal]
    · rw [z] at hal
      show Jm [some (Q4 n gs),some (Q1 a),some (Q1 g)] st=_
      unfold Q1 at hc ⊢
      generalize (g.map fun x=>decide (x∈a))=bs at *
      generalize g.map PV.int=gv at *
      generalize Q4 n gs=bv at *
      generalize a.map PV.int=av at *
      simp -implicitDefEqProofs [Jm,hgl,Qe,hc,hal]) [some (Q4 n gs),some (Q1 a),none] ⟨_,rfl⟩
  refine ret_opt rfl ?_
  show m_set_within [some (Q4 n gs),some (Q1 a),none] st=_
  have hix:oIx st (Q4 n gs) (.int 1)=.ok (.tup (gs.map Q1)) st:=by simp [Q4,setsV,atI,ixN]
  have hgl:(gs.map Q1).length<=1000000:=by rw [O2]; omega
  unfold withinG
  cases z:gs.find? (inG a) with
  | none=>
    obtain ⟨Γ',⟨b2,rfl⟩,e⟩:=key.1 z
    generalize gs.map Q1=gv at *
    generalize Q4 n gs=bv at *
    generalize Q1 a=av at *
    simp -implicitDefEqProofs [m_set_within,hix,hgl,Qe,e,optV]
  | some g=>
    have e:=key.2 g z
    show _=SR.rt (Q1 g) st
    generalize gs.map Q1=gv at *
    generalize Q4 n gs=bv at *
    generalize Q1 a=av at *
    generalize Q1 g=gg at *
    simp -implicitDefEqProofs [m_set_within,hix,hgl,Qe,e]
def badG (gs:List (List Int)) (a:List Int):Bool:=(Z5 gs a).isNone || (withinG gs a).isSome
def papV (gs:List (List Int)) (a:List Int):PV:=match Z5 gs a with
  | none=>.tup [.str "stuck",Q1 a]
  | some _=>.tup [.str "blind",Q1 a,optV (withinG gs a)]
def J9 (n:Nat) (gs:List (List Int)) (f:Nat):PV:=match (grpL n f).find? (badG gs) with
  | none=>.tup [.str "bears",.int f]
  | some a=>papV gs a
theorem opt_non (o:Option (List Int)):isNon (optV o)=o.isNone:=by cases o <;> rfl
theorem fin_pap (S:Q0) (n:Nat) (gs:List (List Int)) (f:Nat):fin S (J9 n gs f) S=.ok (J9 n gs f) S:=by
  have hg:∀ a,Jd 2 (papV gs a)=true:=fun a=>by
    unfold papV
    split
    · simp [Jd,Q1]
    · cases withinG gs a <;> simp [Jd,Q1,optV]
  have:Jd 2 (J9 n gs f)=true:=by
    unfold J9
    split
    · simp [Jd]
    · exact hg _
  unfold fin
  rw [if_pos (List.prefix_refl S),fz_good this (by decide)]; rfl
theorem paper_ok {n f:Nat} (hn:n<=9) (hf:f<=10) {gs:List (List Int)} (hl:gs.length<=100) (hg:∀ g∈gs,g.length<=20) (st:Q0):F_paper_of [Q4 n gs,.int f] st=.ok (J9 n gs f) st:=by
  have key:=forG_find (g:=Q1) (J:=fun Γ=>∃ b2 b3,Γ=[some (Q4 n gs),some (.int f),b2,b3]) (Pd:=badG gs) (v:=papV gs) (ga:=Qa 2) (body:=Z0) (w:=[]) (st:=st) (by simp) (xs:=grpL n f) (fun a ha Γ ⟨b2,b3,e⟩=>by
    subst e
    have hal:=(mem_grpL.mp ha).1
    have e1:=without_ok (n:=n) hl (a:=a) (by omega) st
    have e2:=within_ok (n:=n) hl hg (a:=a) st
    have i1:=opt_non (Z5 gs a)
    have i2:=opt_non (withinG gs a)
    refine ⟨_,rfl,fun z=>⟨[some (Q4 n gs),some (.int f),some (Q1 a),some (optV (withinG gs a))],⟨_,_,rfl⟩,?_⟩,fun z=>?_⟩
    · show Z0 [some (Q4 n gs),some (.int f),some (Q1 a),b3] st=_
      unfold badG at z
      cases z1:Z5 gs a with
      | none=>rw [z1] at z; simp at z
      | some g1=>
        cases z2:withinG gs a with
        | some g2=>rw [z2] at z; simp at z
        | none=>
          rw [z1] at e1 i1
          rw [z2] at e2
          have e2:F_set_within [Q4 n gs,Q1 a] st=.ok .non st:=e2
          have i1:isNon (optV (some g1))=false:=i1
          show _=SR.nx [some (Q4 n gs),some (.int f),some (Q1 a),some .non] st
          generalize Q4 n gs=bv at *
          generalize Q1 a=av at *
          generalize optV (some g1)=o1 at *
          have j0:isNon .non=true:=rfl
          simp -implicitDefEqProofs [Z0,e1,i1,e2,j0]
    · show Z0 [some (Q4 n gs),some (.int f),some (Q1 a),b3] st=_
      unfold badG at z
      unfold papV
      cases z1:Z5 gs a with
      | none=>
        rw [z1] at e1
        have e1:Z7 [Q4 n gs,Q1 a] st=.ok .non st:=e1
        generalize Q4 n gs=bv at *
        generalize Q1 a=av at *
        simp -implicitDefEqProofs [Z0,e1,isNon,Qe]
      | some g1=>
        rw [z1] at z
        cases z2:withinG gs a with
        | none=>rw [z2] at z; simp at z
        | some g2=>
          rw [z1] at e1 i1
          rw [z2] at e2 i2
          have i1:isNon (optV (some g1))=false:=i1
          have i2:isNon (optV (some g2))=false:=i2
          show _=SR.rt (.tup [.str "blind",Q1 a,optV (some g2)]) st
          generalize Q4 n gs=bv at *
          generalize Q1 a=av at *
          generalize optV (some g1)=o1 at *
          generalize optV (some g2)=o2 at *
          simp -implicitDefEqProofs [Z0,e1,i1,e2,i2,Qe]) [some (Q4 n gs),some (.int f),none,none] ⟨_,_,rfl⟩
  have hix:oIx st (Q4 n gs) (.int 0)=.ok (.int n) st:=by simp [Q4,atI,ixN]
  have hgr:=groups_ok hn hf st
  have hgl:((grpL n f).map Q1).length<=1000000:=by rw [O2]; have:=grp_len n hn f hf; omega
  have step:m_paper_of [some (Q4 n gs),some (.int f),none,none] st=.rt (J9 n gs f) st:=by
    unfold J9
    cases z:(grpL n f).find? (badG gs) with
    | none=>
      obtain ⟨Γ',⟨b2,b3,rfl⟩,e⟩:=key.1 z
      generalize (grpL n f).map Q1=gv at *
      generalize Q4 n gs=bv at *
      simp -implicitDefEqProofs [m_paper_of,hix,hgr,hgl,Qe,e]
    | some a=>
      have e:=key.2 a z
      show _=SR.rt (papV gs a) st
      generalize (grpL n f).map Q1=gv at *
      generalize Q4 n gs=bv at *
      generalize papV gs a=pv at *
      simp -implicitDefEqProofs [m_paper_of,hix,hgr,hgl,Qe,e]
  show Qd m_paper_of 4 _ st=_
  unfold Qd
  rw [show (([Q4 n gs,.int f]:List PV).map some ++ List.replicate (4 - [Q4 n gs,.int f].length) none)=[some (Q4 n gs),some (.int f),none,none] from rfl,step]
  exact fin_pap st n gs f
theorem bears_ok {n f:Nat} (hf:f<=10) {gs:List (List Int)} (B:BOk n gs) (st:Q0):F_bears [Q4 n gs,.int f] st=.ok (J9 n gs f) st:=by
  have hn:n<=9:=by have:=B.n9; omega
  have e1:=need_book_ok B st
  have e2:=paper_ok hn hf (by have:=B.len; omega) (fun g hg=>(B.ok g hg).1.len) st
  have step:m_bears [some (Q4 n gs),some (.int f)] st=.rt (J9 n gs f) st:=by
    generalize Q4 n gs=bv at *
    generalize J9 n gs f=pv at *
    simp -implicitDefEqProofs [m_bears,e1,e2]
  show Qd m_bears 2 _ st=_
  unfold Qd
  rw [show (([Q4 n gs,.int f]:List PV).map some ++ List.replicate (2 - [Q4 n gs,.int f].length) none)=[some (Q4 n gs),some (.int f)] from rfl,step]
  exact fin_pap st n gs f
def brB (n:Nat) (gs:List (List Int)) (f:Nat):Bool:=((grpL n f).find? (badG gs)).isNone
theorem full_group {n:Nat} {a:List Int} (h:a∈grpL n n) {x:Int} (h0:0<=x) (hx:x < n):x∈a:=by
  obtain ⟨h1,h2,h3⟩:=mem_grpL.mp h
  have nd:a.Nodup:=h2.imp fun {u v} huv=>by omega
  by_cases z:x∈a
  · exact z
  · exfalso
    have nd':(x :: a).Nodup:=List.nodup_cons.mpr ⟨z,nd⟩
    have ndn:((x :: a).map Int.toNat).Nodup:=by
      refine List.pairwise_map.mpr ?_
      refine List.Pairwise.imp_of_mem (fun {u v} hu hv hne e=>hne ?_) nd'
      have pos:∀ y∈x :: a,0<=y:=fun y hy=>by
        rcases D1.mp hy with rfl | hy
        · exact h0
        · exact (h3 y hy).1
      have:=pos u hu
      have:=pos v hv
      omega
    have hl:=nodup_short ndn (n:=n) fun y hy=>by
      obtain ⟨u,hu,rfl⟩:=List.mem_map.mp hy
      rcases D1.mp hu with rfl | hu
      · omega
      · have:=h3 u hu; omega
    rw [O2,E8] at hl
    omega
theorem all_range {n:Nat}:((List.range n).map fun k:Nat=>(k:Int))∈grpL n n:=by
  refine mem_grpL.mpr ⟨by simp,List.pairwise_map.mpr (List.pairwise_lt_range.imp fun h=>by omega),fun h hh=>?_⟩
  obtain ⟨k,hk,rfl⟩:=List.mem_map.mp hh
  have:k < n:=by simpa using hk
  omega
theorem br_full {n:Nat} {gs:List (List Int)} (B:BOk n gs):brB n gs n=false:=by
  have hb:badG gs ((List.range n).map fun k:Nat=>(k:Int))=true:=by
    unfold badG
    have:Z5 gs ((List.range n).map fun k:Nat=>(k:Int))=none:=by
      unfold Z5
      rw [List.find?_eq_none]
      intro g hg
      obtain ⟨x,hx⟩:∃ x,x∈g:=by
        cases g with
        | nil=>exact absurd rfl (B.ok _ hg).2
        | cons x _=>exact ⟨x,by simp⟩
      obtain ⟨p1,p2⟩:=(B.ok g hg).1.rng x hx
      have hm:=full_group (all_range (n:=n)) p1 p2
      have:Ze ((List.range n).map fun k:Nat=>(k:Int)) g=true:=by
        unfold Ze
        rw [List.any_eq_true]
        exact ⟨x,hm,by simpa using hx⟩
      rw [this]; simp
    rw [this]; rfl
  unfold brB
  cases z:(grpL n n).find? (badG gs) with
  | none=>exact absurd hb (by have:=List.find?_eq_none.mp z _ (all_range (n:=n)); simpa using this)
  | some _=>rfl
theorem peq_tupI (a b:List Int):peq (Q1 a) (Q1 b)=decide (a=b):=peq_tup a b
theorem in_sets (o:List Int) (gs:List (List Int)) (st:Q0):oIn false st (Q1 o) (setsV gs)=.ok (.bl (decide (o∈gs))) st:=by
  have h1:(gs.map Q1).all (Jd dep)=true:=by
    rw [List.all_map,L1]
    intro g _
    simp [Jd,Q1,dep]
  have h2:((gs.map Q1).any fun y=>peq y (Q1 o))=decide (o∈gs):=by
    rw [List.any_map]
    by_cases h:o∈gs
    · rw [decide_eq_true h,List.any_eq_true]
      exact ⟨o,h,by simp [peq_tup]⟩
    · rw [decide_eq_false h,List.any_eq_false]
      intro y hy z
      have:y=o:=by simpa [peq_tup] using z
      exact h (by rw [<- this]; exact hy)
  unfold oIn setsV
  simp only [seqOf_tup]
  have hd:der st (Q1 o)=Q1 o:=rfl
  have hg:Jd dep (Q1 o)=true:=by simp [Jd,Q1,dep]
  rw [hd,if_pos ⟨hg,h1⟩,h2]; simp
theorem hit_ok {a b:List Int} (ha:a.length<=30) (st:Q0):F__law_e_hit [Q1 a,Q1 b] st=.ok (.bl (Ze a b)) st:=by
  have key:=forG_find (g:=PV.int) (J:=fun Γ=>∃ b2,Γ=[some (Q1 a),some (Q1 b),b2]) (Pd:=fun x=>decide (x∈b)) (v:=fun _=>.bl true) (ga:=Qa 2) (body:=b__law_e_hit_1) (w:=[]) (st:=st) (by simp) (xs:=a) (fun x _ Γ ⟨b2,e⟩=>by
    subst e
    have h:=in_grp x b st false
    rw [show (decide (x∈b) != false)=decide (x∈b) by simp] at h
    refine ⟨_,rfl,fun z=>⟨[some (Q1 a),some (Q1 b),some (.int x)],⟨_,rfl⟩,?_⟩,fun z=>?_⟩ <;>
    · rw [z] at h
      show b__law_e_hit_1 [some (Q1 a),some (Q1 b),some (.int x)] st=_
      generalize Q1 a=av at *
      generalize Q1 b=bv at *
      simp -implicitDefEqProofs [b__law_e_hit_1,h]) [some (Q1 a),some (Q1 b),none] ⟨_,rfl⟩
  have hl:(a.map PV.int).length<=1000000:=by rw [O2]; omega
  have step:m__law_e_hit [some (Q1 a),some (Q1 b),none] st=.rt (.bl (Ze a b)) st:=by
    unfold Ze
    cases z:a.find? (fun x=>decide (x∈b)) with
    | none=>
      obtain ⟨Γ',⟨b2,rfl⟩,e⟩:=key.1 z
      have:(a.any fun x=>decide (x∈b))=false:=by
        rw [List.any_eq_false]; exact fun x hx=>by simpa using List.find?_eq_none.mp z x hx
      rw [this]
      unfold Q1 at e ⊢
      generalize a.map PV.int=av at *
      generalize b.map PV.int=bv at *
      simp -implicitDefEqProofs [m__law_e_hit,hl,Qe,e]
    | some x=>
      have e:=key.2 x z
      have:(a.any fun x=>decide (x∈b))=true:=List.any_eq_true.mpr ⟨x,List.mem_of_find?_eq_some z,by simpa using List.find?_some z⟩
      rw [this]
      unfold Q1 at e ⊢
      generalize a.map PV.int=av at *
      generalize b.map PV.int=bv at *
      simp -implicitDefEqProofs [m__law_e_hit,hl,Qe,e]
  show Qd m__law_e_hit 3 _ st=_
  unfold Qd
  rw [show (([Q1 a,Q1 b]:List PV).map some ++ List.replicate (3 - [Q1 a,Q1 b].length) none)=[some (Q1 a),some (Q1 b),none] from rfl,step]
  simp [fin,fz]
theorem lwithin_ok {a b:List Int} (ha:a.length<=30) (st:Q0):Jc [Q1 a,Q1 b] st=.ok (.bl (inG b a)) st:=by
  have key:=forG_find (g:=PV.int) (J:=fun Γ=>∃ b2,Γ=[some (Q1 a),some (Q1 b),b2]) (Pd:=fun x=>!decide (x∈b)) (v:=fun _=>.bl false) (ga:=Qa 2) (body:=Z1) (w:=[]) (st:=st) (by simp) (xs:=a) (fun x _ Γ ⟨b2,e⟩=>by
    subst e
    have h:=in_grp x b st true
    rw [show (decide (x∈b) != true)=!decide (x∈b) by simp] at h
    refine ⟨_,rfl,fun z=>⟨[some (Q1 a),some (Q1 b),some (.int x)],⟨_,rfl⟩,?_⟩,fun z=>?_⟩ <;>
    · rw [z] at h
      show Z1 [some (Q1 a),some (Q1 b),some (.int x)] st=_
      generalize Q1 a=av at *
      generalize Q1 b=bv at *
      simp -implicitDefEqProofs [Z1,h]) [some (Q1 a),some (Q1 b),none] ⟨_,rfl⟩
  have hl:(a.map PV.int).length<=1000000:=by rw [O2]; omega
  have step:Ju [some (Q1 a),some (Q1 b),none] st=.rt (.bl (inG b a)) st:=by
    unfold inG
    cases z:a.find? (fun x=>!decide (x∈b)) with
    | none=>
      obtain ⟨Γ',⟨b2,rfl⟩,e⟩:=key.1 z
      have:(a.all fun x=>decide (x∈b))=true:=by
        rw [L1]; exact fun x hx=>by simpa using List.find?_eq_none.mp z x hx
      rw [this]
      unfold Q1 at e ⊢
      generalize a.map PV.int=av at *
      generalize b.map PV.int=bv at *
      simp -implicitDefEqProofs [Ju,hl,Qe,e]
    | some x=>
      have e:=key.2 x z
      have:(a.all fun x=>decide (x∈b))=false:=by
        rw [List.all_eq_false]
        exact ⟨x,List.mem_of_find?_eq_some z,by simpa using List.find?_some z⟩
      rw [this]
      unfold Q1 at e ⊢
      generalize a.map PV.int=av at *
      generalize b.map PV.int=bv at *
      simp -implicitDefEqProofs [Ju,hl,Qe,e]
  show Qd Ju 3 _ st=_
  unfold Qd
  rw [show (([Q1 a,Q1 b]:List PV).map some ++ List.replicate (3 - [Q1 a,Q1 b].length) none)=[some (Q1 a),some (Q1 b),none] from rfl,step]
  simp [fin,fz]
theorem first_all (gs:List (List Int)) (a:List Int):(Z5 gs a).isNone=gs.all fun g=>Ze g a:=by
  unfold Z5
  rw [Bool.eq_iff_iff,Option.isNone_iff_eq_none,List.find?_eq_none,L1]
  constructor
  · intro h g hg
    have:=h g hg
    rw [meetB_comm]; simpa using this
  · intro h g hg
    have:=h g hg
    rw [meetB_comm] at this
    simp [this]
@[simp] theorem mSortSet_eq (ma:ME) (Γ:Gam) (st:Q0):mSortSet ma Γ st=(ma Γ st).bind fun p st1=>match setSrc st1 p with
  | some ns=>if ns.length<=4000/\(metK ns).length < 64 then .ok (.lst ((sortI (metK ns)).map PV.int)) st1 else .stuck
  | none=>.stuck:=rfl
theorem metK_mem {K:Type} [DecidableEq K] (ks:List K) (x:K):x∈metK ks <-> x∈ks:=by
  have key:∀ (ks acc:List K),x∈ks.foldl addK acc <-> x∈acc\/x∈ks:=by
    intro ks
    induction ks with
    | nil=>intro acc; simp
    | cons k ks ih=>
      intro acc
      rw [List.foldl_cons,ih,D1]
      unfold addK
      by_cases z:k∈acc
      · rw [if_pos z]
        constructor
        · rintro (h | h)
          · exact .inl h
          · exact .inr (.inr h)
        · rintro (h | rfl | h)
          · exact .inl h
          · exact .inl z
          · exact .inr h
      · rw [if_neg z,D4,E6,or_assoc]
  unfold metK
  rw [key]; simp
theorem metK_nodup {K:Type} [DecidableEq K] (ks:List K):(metK ks).Nodup:=by
  have key:∀ (ks acc:List K),acc.Nodup->(ks.foldl addK acc).Nodup:=by
    intro ks
    induction ks with
    | nil=>intro acc h; exact h
    | cons k ks ih=>
      intro acc h
      rw [List.foldl_cons]
      apply ih
      unfold addK
      split
      · exact h
      · rename_i z
        rw [List.nodup_append]
        exact ⟨h,by simp,fun a ha b hb=>by rw [E6.mp hb]; exact fun e=>z (e ▸ ha)⟩
  exact key ks [] List.nodup_nil
theorem lstuck_ok {n:Int} {gs:List (List Int)} (B:BOk n gs) {a:List Int} (st:Q0):Qy [Q4 n gs,Q1 a] st=.ok (.bl (Z5 gs a).isNone) st:=by
  have key:=forG_find (g:=Q1) (J:=fun Γ=>∃ b2,Γ=[some (Q4 n gs),some (Q1 a),b2]) (Pd:=fun g=>!Ze g a) (v:=fun _=>.bl false) (ga:=Qa 2) (body:=Je) (w:=[]) (st:=st) (by simp) (xs:=gs) (fun g hg Γ ⟨b2,e⟩=>by
    subst e
    have h:=hit_ok (a:=g) (b:=a) (by have:=(B.ok g hg).1.len; omega) st
    refine ⟨_,rfl,fun z=>⟨[some (Q4 n gs),some (Q1 a),some (Q1 g)],⟨_,rfl⟩,?_⟩,fun z=>?_⟩ <;>
    · have z:Ze g a=_:=Bool.not_inj (z.trans (Bool.not_not _).symm)
      rw [z] at h
      show Je [some (Q4 n gs),some (Q1 a),some (Q1 g)] st=_
      generalize Q4 n gs=bv at *
      generalize Q1 a=av at *
      generalize Q1 g=gv at *
      simp -implicitDefEqProofs [Je,h]) [some (Q4 n gs),some (Q1 a),none] ⟨_,rfl⟩
  have hl:(gs.map Q1).length<=1000000:=by rw [O2]; have:=B.len; omega
  have hix:oIx st (Q4 n gs) (.int 1)=.ok (.tup (gs.map Q1)) st:=by simp [Q4,setsV,atI,ixN]
  have step:J8 [some (Q4 n gs),some (Q1 a),none] st=.rt (.bl (Z5 gs a).isNone) st:=by
    rw [first_all]
    cases z:gs.find? (fun g=>!Ze g a) with
    | none=>
      obtain ⟨Γ',⟨b2,rfl⟩,e⟩:=key.1 z
      have:(gs.all fun g=>Ze g a)=true:=by
        rw [L1]; exact fun x hx=>by simpa using List.find?_eq_none.mp z x hx
      rw [this]
      generalize gs.map Q1=gv at *
      generalize Q4 n gs=bv at *
      generalize Q1 a=av at *
      simp -implicitDefEqProofs [J8,hix,hl,Qe,e]
    | some x=>
      have e:=key.2 x z
      have:(gs.all fun g=>Ze g a)=false:=by
        rw [List.all_eq_false]
        exact ⟨x,List.mem_of_find?_eq_some z,by simpa using List.find?_some z⟩
      rw [this]
      generalize gs.map Q1=gv at *
      generalize Q4 n gs=bv at *
      generalize Q1 a=av at *
      simp -implicitDefEqProofs [J8,hix,hl,Qe,e]
  show Qd J8 3 _ st=_
  unfold Qd
  rw [show (([Q4 n gs,Q1 a]:List PV).map some ++ List.replicate (3 - [Q4 n gs,Q1 a].length) none)=[some (Q4 n gs),some (Q1 a),none] from rfl,step]
  simp [fin,fz]
theorem sorted_self {a:List Int} (h:a.Pairwise (· < ·)):sortI (metK a)=a:=by
  have nd:a.Nodup:=h.imp fun {u v} huv=>by omega
  have p1:(metK a).Perm a:=(List.perm_ext_iff_of_nodup (metK_nodup a) nd).mpr fun x=>metK_mem a x
  exact sortI_uniq ((sortI_perm _).trans p1) (sortI_sorted _) (h.imp fun {u v} huv=>by omega)
theorem intsP_int (a:List Int):intsP (a.map PV.int)=some a:=by
  induction a with
  | nil=>rfl
  | cons x a ih=>rw [D5,intsP,ih]; rfl
theorem houses_ok {n f:Nat} (hf:f<=10) {a:List Int} (h:a∈grpL n f) (st:Q0):Zp [.int n,Q1 a,.int f] st=.ok (.bl true) st:=by
  obtain ⟨h1,h2,h3⟩:=mem_grpL.mp h
  obtain ⟨Γ',S',e,b3,rfl,hS'⟩:=forG_inv (g:=PV.int) (xs:=a) (ga:=Qa 3) (body:=Z2) (w:=[]) (Γ:=[some (.int n),some (Q1 a),some (.int f),none]) (st:=st)
    (fun _ Γ st'=>∃ b3,Γ=[some (.int n),some (Q1 a),some (.int f),b3]/\st'=st)
    (fun _ _ _ _=>by simp)
    (fun i x Γ st' hx ⟨b3,g1,g2⟩=>by
      subst g1
      obtain ⟨q1,q2⟩:=h3 x (F9 hx)
      have q1':¬ x < 0:=by omega
      have q2':¬ (n:Int)<=x:=by omega
      refine ⟨_,rfl,[some (.int n),some (Q1 a),some (.int f),some (.int x)],st',?_,_,rfl,g2⟩
      show Z2 [some (.int n),some (Q1 a),some (.int f),some (.int x)] st'=_
      generalize Q1 a=av at *
      simp -implicitDefEqProofs [Z2,isI,tyN,q1',q2'])
    ⟨_,rfl,rfl⟩
  rw [hS'] at e
  clear hS'
  have hl:(a.map PV.int).length<=1000000:=by rw [O2]; omega
  have hlf:(a.map PV.int).length=f:=by rw [O2]; exact h1
  have hs:setSrc st (.tup (a.map PV.int))=some a:=intsP_int a
  have hm:(metK a).length < 64:=by have:=metK_len a; omega
  have hal:a.length<=4000:=by omega
  have hso:=sorted_self h2
  have heq:oEq st (.tup (a.map PV.int)) (.tup (a.map PV.int))=.ok (.bl true) st:=by
    have hg:Jd dep (.tup (a.map PV.int))=true:=by simp [Jd,dep]
    show oEq st (Q1 a) (Q1 a)=_
    have:=peq_tupI a a
    rw [decide_eq_true rfl] at this
    unfold Q1 at this ⊢
    unfold oEq
    simp [der,hg,this]
  have step:Zk [some (.int n),some (Q1 a),some (.int f),none] st=.rt (.bl true) st:=by
    unfold Q1 at e ⊢
    have hf6:f<=1000000:=by omega
    generalize hav:a.map PV.int=av at *
    simp -implicitDefEqProofs [Zk,isI,tyN,hl,hlf,hf6,Qe,e,hs,hm,hal,hso,hav,heq]
  show Qd Zk 4 _ st=_
  unfold Qd
  rw [show (([.int n,Q1 a,.int f]:List PV).map some ++ List.replicate (4 - [PV.int n,Q1 a,.int f].length) none)=[some (.int n),some (Q1 a),some (.int f),none] from rfl,step]
  simp [fin,fz]
theorem find_bad {n:Nat} {gs:List (List Int)} {f:Nat} (h:brB n gs f=false):∃ a∈grpL n f,badG gs a=true/\J9 n gs f=papV gs a:=by
  unfold brB at h
  unfold J9
  cases z:(grpL n f).find? (badG gs) with
  | none=>rw [z] at h; cases h
  | some a=>exact ⟨a,List.mem_of_find?_eq_some z,List.find?_some z,rfl⟩
theorem shows_ok {n f:Nat} (hf:f<=10) {gs:List (List Int)} (B:BOk n gs) (h:brB n gs f=false) (st:Q0):F__law_e_shows [Q4 n gs,.int f,J9 n gs f] st=.ok (.bl true) st:=by
  obtain ⟨a,ha,hb,hp⟩:=find_bad h
  have h1:=houses_ok hf ha st
  have h2:=lstuck_ok B (a:=a) st
  have hi0:oIx st (Q4 n gs) (.int 0)=.ok (.int n) st:=by simp [Q4,atI,ixN]
  have hi1:oIx st (Q4 n gs) (.int 1)=.ok (setsV gs) st:=by simp [Q4,atI,ixN]
  have step:Jk [some (Q4 n gs),some (.int f),some (papV gs a)] st=.rt (.bl true) st:=by
    unfold papV
    cases z1:Z5 gs a with
    | none=>
      rw [z1] at h2
      generalize Q4 n gs=bv at *
      generalize Q1 a=av at *
      simp -implicitDefEqProofs [Jk,isI,tyN,hi0,h1,h2,atI,ixN]
    | some g1=>
      unfold badG at hb
      rw [z1] at hb
      cases z2:withinG gs a with
      | none=>rw [z2] at hb; cases hb
      | some g2=>
        have hg2:g2∈gs:=List.mem_of_find?_eq_some z2
        have hin:inG a g2=true:=List.find?_some z2
        have h3:=in_sets g2 gs st
        rw [decide_eq_true hg2] at h3
        have h4:=lwithin_ok (a:=g2) (b:=a) (by have:=(B.ok g2 hg2).1.len; omega) st
        rw [hin] at h4
        show Jk [some (Q4 n gs),some (.int f),some (.tup [.str "blind",Q1 a,Q1 g2])] st=_
        have q:¬ (("blind" : Str) = "stuck"):=by decide
        generalize Q4 n gs=bv at *
        generalize Q1 a=av at *
        unfold Q1 at h3 h4 ⊢
        generalize g2.map PV.int=gv at *
        generalize setsV gs=sv at *
        simp -implicitDefEqProofs [Jk,isI,tyN,hi0,hi1,h1,h3,h4,atI,ixN,q]
  rw [hp]
  show Qd Jk 3 _ st=_
  unfold Qd
  rw [show (([Q4 n gs,.int f,papV gs a]:List PV).map some ++ List.replicate (3 - [Q4 n gs,.int f,papV gs a].length) none)=[some (Q4 n gs),some (.int f),some (papV gs a)] from rfl,step]
  simp [fin,fz]
theorem sized_mem {n m:Nat} {g:List Int}:g∈Qj n m <-> g∈Ji n/\g.length=m:=by
  unfold Qj
  rw [List.mem_filter]
  constructor
  · rintro ⟨a,b⟩; exact ⟨a,by simp at b; omega⟩
  · rintro ⟨a,b⟩; exact ⟨a,by simp; omega⟩
theorem sized_grp {n m:Nat} {g:List Int} (h:g∈Qj n m):g∈grpL n m:=by
  obtain ⟨h1,h2⟩:=sized_mem.mp h
  obtain ⟨a,b,c⟩:=subL_ok n g h1
  exact mem_grpL.mpr ⟨h2,b,a⟩
theorem lbears_ok {n f:Nat} (hf:f<=10) {gs:List (List Int)} (B:BOk n gs) (h64:(Qj n f).length < 64\/twoR (Qj n f)=true) (h0:1<=f\/(Qj n f).length < 2) (st:Q0):Jp [Q4 n gs,.int f] st=.ok (.bl ((Qi (Qj n f)).find? (badG gs)).isNone) st:=by
  have hn9:n<=9:=by have:=B.n9; omega
  have e1:=sized_okU hn9 h64 h0 st
  have hi0:oIx st (Q4 n gs) (.int 0)=.ok (.int n) st:=by simp [Q4,atI,ixN]
  have hi1:oIx st (Q4 n gs) (.int 1)=.ok (.tup (gs.map Q1)) st:=by simp [Q4,setsV,atI,ixN]
  have hgl:(gs.map Q1).length<=1000000:=by rw [O2]; have:=B.len; omega
  have hsl:((Qi (Qj n f)).map Q1).length<=1000000:=by
    rw [O2,(Zg (Qj n f)).length_eq]
    rcases h64 with z | z
    · omega
    · have:=(twoR_at z).2.1; omega
  have key:=forG_find (g:=Q1) (J:=fun Γ=>∃ b2 b3,Γ=[some (Q4 n gs),some (.int f),b2,b3]) (Pd:=badG gs) (v:=fun _=>.bl false) (ga:=Qa 2) (body:=Qs) (w:=[]) (st:=st) (by simp) (xs:=Qi (Qj n f)) (fun a ha Γ ⟨b2,b3,e⟩=>by
    subst e
    have s1:=lstuck_ok B (a:=a) st
    have k2:=forG_find (g:=Q1) (J:=fun Γ=>∃ c3,Γ=[some (Q4 n gs),some (.int f),some (Q1 a),c3]) (Pd:=inG a) (v:=fun _=>.bl false) (ga:=Qa 3) (body:=J5) (w:=[]) (st:=st) (by simp) (xs:=gs) (fun g hg Γ ⟨c3,e⟩=>by
      subst e
      have w:=lwithin_ok (a:=g) (b:=a) (by have:=(B.ok g hg).1.len; omega) st
      refine ⟨_,rfl,fun z=>⟨[some (Q4 n gs),some (.int f),some (Q1 a),some (Q1 g)],⟨_,rfl⟩,?_⟩,fun z=>?_⟩
      · rw [z] at w
        show J5 [some (Q4 n gs),some (.int f),some (Q1 a),some (Q1 g)] st=_
        generalize Q4 n gs=bv at *
        generalize Q1 a=av at *
        generalize Q1 g=gv at *
        simp -implicitDefEqProofs [J5,w]
      · rw [z] at w
        show J5 [some (Q4 n gs),some (.int f),some (Q1 a),some (Q1 g)] st=_
        generalize Q4 n gs=bv at *
        generalize Q1 a=av at *
        generalize Q1 g=gv at *
        simp -implicitDefEqProofs [J5,w]) [some (Q4 n gs),some (.int f),some (Q1 a),b3] ⟨_,rfl⟩
    refine ⟨_,rfl,fun z=>?_,fun z=>?_⟩
    · unfold badG at z
      obtain ⟨z1,z2⟩:=Bool.or_eq_false_iff.mp z
      rw [z1] at s1
      obtain ⟨Γ2,⟨c3,rfl⟩,e2⟩:=k2.1 (by unfold withinG at z2; cases q:gs.find? (inG a) with | none=>rfl | some _=>rw [q] at z2; cases z2)
      refine ⟨[some (Q4 n gs),some (.int f),some (Q1 a),c3],⟨_,_,rfl⟩,?_⟩
      show Qs [some (Q4 n gs),some (.int f),some (Q1 a),b3] st=_
      generalize gs.map Q1=gv at *
      generalize Q4 n gs=bv at *
      generalize Q1 a=av at *
      simp -implicitDefEqProofs [Qs,s1,hi1,hgl,Qe,e2]
    · show Qs [some (Q4 n gs),some (.int f),some (Q1 a),b3] st=_
      by_cases z1:(Z5 gs a).isNone=true
      · rw [z1] at s1
        generalize Q4 n gs=bv at *
        generalize Q1 a=av at *
        simp -implicitDefEqProofs [Qs,s1]
      · have z1:(Z5 gs a).isNone=false:=Bool.eq_false_iff.mpr z1
        rw [z1] at s1
        unfold badG at z
        rw [z1,Bool.false_or] at z
        obtain ⟨g,hg⟩:=Option.isSome_iff_exists.mp z
        have e2:=k2.2 g hg
        generalize gs.map Q1=gv at *
        generalize Q4 n gs=bv at *
        generalize Q1 a=av at *
        simp -implicitDefEqProofs [Qs,s1,hi1,hgl,Qe,e2]) [some (Q4 n gs),some (.int f),none,none] ⟨_,_,rfl⟩
  have step:Z9 [some (Q4 n gs),some (.int f),none,none] st=.rt (.bl ((Qi (Qj n f)).find? (badG gs)).isNone) st:=by
    cases q:(Qi (Qj n f)).find? (badG gs) with
    | none=>
      obtain ⟨Γ',⟨b2,b3,rfl⟩,e⟩:=key.1 q
      clear key
      generalize (Qi (Qj n f)).map Q1=sv at *
      generalize Q4 n gs=bv at *
      simp -implicitDefEqProofs [Z9,hi0,e1,hsl,Qe,e]
    | some a=>
      have e:=key.2 a q
      clear key
      generalize (Qi (Qj n f)).map Q1=sv at *
      generalize Q4 n gs=bv at *
      simp -implicitDefEqProofs [Z9,hi0,e1,hsl,Qe,e]
  show Qd Z9 4 _ st=_
  unfold Qd
  rw [show (([Q4 n gs,.int f]:List PV).map some ++ List.replicate (4 - [Q4 n gs,.int f].length) none)=[some (Q4 n gs),some (.int f),none,none] from rfl,step]
  simp [fin,fz]
theorem bad_iff (gs:List (List Int)) (a:List Int):badG gs a=true <-> (∀ g∈gs,∃ x∈g,x∈a)\/(∃ g∈gs,∀ x∈g,x∈a):=by
  unfold badG
  rw [Bool.or_eq_true,first_all,L1]
  refine or_congr (forall_congr' fun g=>imp_congr Iff.rfl ?_) ?_
  · unfold Ze
    rw [List.any_eq_true]
    simp
  · unfold withinG
    rw [List.find?_isSome]
    refine exists_congr fun g=>and_congr Iff.rfl ?_
    unfold inG
    rw [L1]
    simp
theorem br_false {n:Nat} {gs:List (List Int)} {f:Nat}:brB n gs f=false <-> ∃ a∈grpL n f,badG gs a=true:=by
  constructor
  · intro h
    obtain ⟨a,h1,h2,_⟩:=find_bad h
    exact ⟨a,h1,h2⟩
  · rintro ⟨a,h1,h2⟩
    unfold brB
    cases z:(grpL n f).find? (badG gs) with
    | none=>exact absurd h2 (List.find?_eq_none.mp z a h1)
    | some _=>rfl
theorem br_zero {n:Nat} {gs:List (List Int)} (B:BOk n gs):brB n gs 0=true:=by
  cases z:brB n gs 0 with
  | true=>rfl
  | false=>
    exfalso
    obtain ⟨a,h1,h2⟩:=br_false.mp z
    have ha:a=[]:=List.length_eq_zero_iff.mp (mem_grpL.mp h1).1
    subst ha
    rcases (bad_iff _ _).mp h2 with h | ⟨g,hg,h⟩
    · cases gs with
      | nil=>exact B.ne rfl
      | cons g r=>
        obtain ⟨x,_,hx⟩:=h g (by simp)
        cases hx
    · cases g with
      | nil=>exact (B.ok _ hg).2 rfl
      | cons x r=>have:=h x (by simp); cases this
theorem subL_mem:∀ {n:Nat} {g:List Int},g.Pairwise (· < ·)->(∀ h∈g,0<=h/\h < (n:Int))->g∈Ji n
  | 0,g,h1,h2=>by
    cases g with
    | nil=>simp [Ji]
    | cons x r=>have:=h2 x (by simp); omega
  | n + 1,g,h1,h2=>by
    rw [Ji,D4]
    by_cases z:(n:Int)∈g
    · right
      have hne:g≠[]:=fun e=>by rw [e] at z; cases z
      obtain ⟨a,h,rfl⟩:∃ a h,g=a ++ [h]:=⟨g.dropLast,g.getLast hne,(List.dropLast_concat_getLast hne).symm⟩
      obtain ⟨p1,_,p3⟩:=D9.mp h1
      have hh:=h2 h (by simp)
      have e:h=(n:Int):=by
        rcases D4.mp z with z | z
        · have:=p3 _ z h (by simp)
          push_cast at hh; omega
        · exact (E6.mp z).symm
      subst e
      exact List.mem_map.mpr ⟨a,subL_mem p1 fun x hx=>⟨(h2 x (E3 _ hx)).1,p3 x hx _ (by simp)⟩,rfl⟩
    · left
      refine subL_mem h1 fun x hx=>?_
      have:=h2 x hx
      have:x≠(n:Int):=fun e=>z (e ▸ hx)
      push_cast at *
      omega
theorem size_zero:∀ n,n<=9->(Qj n 0).length < 2:=by decide +kernel
theorem size_two:∀ n,n<=9->∀ m,m<=9->(Qj n m).length < 64\/twoR (Qj n m)=true:=by decide +kernel
theorem br_sized {n f:Nat} {gs:List (List Int)}:((Qi (Qj n f)).find? (badG gs)).isNone=brB n gs f:=by
  cases h:brB n gs f with
  | true=>
    unfold brB at h
    rw [Option.isNone_iff_eq_none] at h ⊢
    rw [List.find?_eq_none] at h ⊢
    exact fun a ha=>h a (sized_grp ((Zg _).mem_iff.mp ha))
  | false=>
    obtain ⟨a,h1,h2⟩:=br_false.mp h
    obtain ⟨k1,k2,k3⟩:=mem_grpL.mp h1
    have:a∈Qi (Qj n f):=(Zg _).mem_iff.mpr (sized_mem.mpr ⟨subL_mem k2 k3,k1⟩)
    cases z:(Qi (Qj n f)).find? (badG gs) with
    | none=>exact absurd h2 (List.find?_eq_none.mp z a this)
    | some _=>rfl
theorem lbears_br {n f:Nat} (hf:f<=9) {gs:List (List Int)} (B:BOk n gs) (st:Q0):Jp [Q4 n gs,.int f] st=.ok (.bl (brB n gs f)) st:=by
  have hn9:n<=9:=by have:=B.n9; omega
  rw [<- br_sized]
  refine lbears_ok (by omega) B (size_two n hn9 f hf) ?_ st
  by_cases z:1<=f
  · exact .inl z
  · rw [show f=0 by omega]; exact .inr (size_zero n hn9)
abbrev wdΓ (L n D:Nat) (a3 a4:Option PV):Gam:=[some (.ref L),some (.int n),some (.ref D),a3,a4]
theorem wdturn {ns:List Int} {S:Q0} {L D n:Nat} (T:TapeAt S L ns) (hLD:L≠D) (hn:n<=9) {gs:List (List Int)} (h:S[D]?=some (.dtp (Z6 gs))) (G:GsOk n gs) (hl:gs.length<=1000) {x:List Int} (hx:∀ g∈gs,g=x\/1 < g.length) (a3 a4:Option PV) :
    ∃ b4 S' gs',TapeAt S' L ns/\S'[D]?=some (.dtp (Z6 gs'))/\GsOk n gs'/\gs'.length<=gs.length + 1/\gs.length<=gs'.length/\(∀ g∈gs',g=x\/1 < g.length)/\Qn (wdΓ L n D a3 a4) S=.nx (wdΓ L n D a3 b4) S':=by
  obtain ⟨g,S2,T2,M2,G2,e1⟩:=subset_ok T n hn
  have h2:S2[D]?=some (.dtp (Z6 gs)):=by rw [M2.keep D (fun z=>hLD z.symm)]; exact h
  have hD:D < S2.length:=(O3.mp h2).1
  have hll:cLen S2 [Q1 g]=.ok (.int (g.length:Nat)) S2:=by simp [Q1]
  by_cases hg:1 < g.length
  · have dp:=dputT_at h2 (by omega) g
    have hne:g≠[]:=fun z=>by rw [z] at hg; simp at hg
    obtain ⟨k1,k2,_⟩:=G.add G2 hne
    refine ⟨some (Q1 g),S2.set D (.dtp (Z6 (addG gs g))),addG gs g,T2.of (by rw [F8 (fun z=>hLD z.symm)]),by rw [F6 hD],k1,k2,?_,fun q hq=>?_,?_⟩
    · unfold addG
      split
      · exact O4 _
      · simp
    · unfold addG at hq
      split at hq
      · exact hx q hq
      · rcases D4.mp hq with hq | hq
        · exact hx q hq
        · rw [E6.mp hq]; exact .inr hg
    have hg':(1:Int) < (g.length:Int):=by omega
    unfold wdΓ
    generalize g.length=gl at *
    generalize Q1 g=gv at *
    simp -implicitDefEqProofs [Qn,e1,hll,hg',hg,dp]
  · refine ⟨some (Q1 g),S2,gs,T2,h2,G,by omega,by omega,hx,?_⟩
    have hg':¬ (1:Int) < (g.length:Int):=by omega
    unfold wdΓ
    generalize g.length=gl at *
    generalize Q1 g=gv at *
    simp -implicitDefEqProofs [Qn,e1,hll,hg',hg]
theorem wide_drawn {ns:List Int} {S:Q0} {L:Nat} (T:TapeAt S L ns):∃ (n:Nat) (gs:List (List Int)) (S':Q0),n<=9/\BOk n gs/\TapeAt S' L ns/\Qr [.ref L] S=.ok (Q4 n gs) S':=by
  obtain ⟨d,S1,hd,T1,M1,e1⟩:=Zm T 3 (by decide) (by decide)
  rw [show ((3:Nat):Int)=3 from rfl] at e1
  obtain ⟨n,hn⟩:∃ n:Nat,7 + (d:Int)=n:=⟨7 + d,by push_cast; rfl⟩
  have hn7:7<=n:=by omega
  have hn9:n<=9:=by omega
  obtain ⟨x,S2,hx,T2,M2,e2⟩:=Zm T1 n (by omega) (by omega)
  have T3:TapeAt (S2 ++ [.dtp [([.inl (x:Int)],.bl true)]]) L ns:=T2.of (by rw [D2 T2.lt])
  obtain ⟨k,S4,hk,T4,M4,e4⟩:=Zm T3 6 (by decide) (by decide)
  rw [show ((6:Nat):Int)=6 from rfl] at e4
  have hLD:L≠S2.length:=O9 T2.lt
  have h4:S4[S2.length]?=some (.dtp (Z6 [[(x:Int)]])):=by rw [M4.keep _ (fun z=>hLD z.symm)]; simp [Z6]
  obtain ⟨Γ',S5,e5,b3,b4,gs,rfl,T5,h5,G5,l5,l6,hx5⟩:=forG_inv (g:=fun k:Nat=>PV.int (k:Int)) (xs:=List.range k) (ga:=Qa 3) (body:=Qn) (w:=[]) (Γ:=wdΓ L n S2.length none none) (st:=S4)
    (fun i Γ st'=>∃ b3 b4 gs,Γ=wdΓ L n S2.length b3 b4/\TapeAt st' L ns/\st'[S2.length]?=some (.dtp (Z6 gs))/\GsOk n gs/\gs.length<=i + 1/\1<=gs.length/\∀ g∈gs,g=[(x:Int)]\/1 < g.length)
    (fun _ _ _ _=>by simp)
    (fun i y Γ st' hy ⟨b3,b4,gs,g1,T',h',G',l',l2,hx'⟩=>by
      subst g1
      have hi:i < k:=by simpa using (O3.mp hy).1
      obtain ⟨c4,S',gs',T6,h6,G6,q6,q7,q8,e6⟩:=wdturn T' hLD hn9 h' G' (by omega) hx' (some (.int y)) b4
      exact ⟨_,rfl,_,S',e6,_,_,gs',rfl,T6,h6,G6,by omega,by omega,q8⟩)
    ⟨_,_,[[(x:Int)]],rfl,T4,h4,⟨fun g hg=>by
      rw [E6.mp hg]
      exact ⟨⟨fun h hh=>by rw [E6.mp hh]; omega,by simp,by simp⟩,by simp⟩,by simp⟩,by simp,by simp,fun g hg=>.inl (E6.mp hg)⟩
  rw [<- rangeI0] at e5
  rw [F0] at l5
  have hkb:-1000000<=(k:Int)/\(k:Int)<=1000000:=by omega
  have hl:cLenT S5 [.ref S2.length]=.ok (.int (gs.length:Nat)) S5:=by
    unfold cLenT
    have h1:dtpOf S5 (.ref S2.length)=some (Z6 gs):=by simp only [dtpOf,h5]
    have h2:(Z6 gs).length=gs.length:=by unfold Z6; rw [O2]
    simp only [h1,h2]
    rw [if_pos (by omega)]
  have hso:∀ S6:Q0,S6[S2.length]?=some (.dtp (Z6 gs))->cSortD S6 [.ref S2.length]=.ok (.lst ((Qi gs).map Q1)) S6:=fun S6 h6=>by
    unfold cSortD
    have h1:dtpOf S6 (.ref S2.length)=some (Z6 gs):=by simp only [dtpOf,h6]
    simp only [h1,keysI_enc fun g hg=>(G5.ok g hg).2]
    rw [if_pos (by omega)]
  have hp:=Zg gs
  have hss:=strict_sort G5.nd
  have ret:∀ {v:PV} {S':Q0},Qq [some (.ref L),none,none,none,none] S=.rt v S'->Qr [.ref L] S=.ok v S':=fun {v S'} h=>by
    show callK Qq 5 _ S=_
    unfold callK
    rw [show (([PV.ref L]:List PV).map some ++ List.replicate (5 - [PV.ref L].length) none)=[some (.ref L),none,none,none,none] from rfl,h]
  have dz:disT S2 (.bl true) (.tup [.int (x:Int)])=.ok (.ref S2.length) (S2 ++ [.dtp [([.inl (x:Int)],.bl true)]]):=by simp [disT,keysT,keyOf]
  have s1:∀ Y:MS,(Qb (J7 1 (mOp oAdd (mC (.int 7)) (Qc 2 Q5 (Q2 (Q3 0) (Q2 (mC (.int 3)) Q9)))))
    (Qb (J7 2 (mDisp1T (mTup (Q2 (Qc 2 Q5 (Q2 (Q3 0) (Q2 (Q3 1) Q9))) Q9)) (mC (.bl true))))
    (Qb (mFor (Qa 3) (Zh (Q2 (Qc 2 Q5 (Q2 (Q3 0) (Q2 (mC (.int 6)) Q9))) Q9)) Qn) Y))) [some (.ref L),none,none,none,none] S=Y (wdΓ L n S2.length b3 b4) S5:=fun Y=>by
    unfold wdΓ at e5 ⊢
    simp -implicitDefEqProofs [e1,hn,e2,dz,e4,Qe,hkb,e5]
  have whole:∀ S6:Q0,TapeAt S6 L ns->S6[S2.length]?=some (.dtp (Z6 gs))->(Qw (mTup (Q2 (Q3 1) (Q2 (Qg Za (Q2 (Qg cSortD (Q2 (Q3 2) Q9)) Q9)) Q9)))) (wdΓ L n S2.length b3 b4) S6=.rt (Q4 n (Qi gs)) S6:=fun S6 _ h6=>by
    have hso:=hso S6 h6
    unfold Q4 setsV wdΓ
    generalize (Qi gs).map Q1=ov at *
    simp -implicitDefEqProofs [hso,Qe]
  have B0:BOk n (Qi gs):=⟨by omega,by omega,fun z=>by rw [z] at hp; rw [List.nil_perm.mp hp] at l6; simp at l6,fun g hg=>G5.ok g (hp.mem_iff.mp hg),hss,by rw [hp.length_eq]; omega⟩
  by_cases hg1:1 < gs.length
  · obtain ⟨c,S6,hc,T6,M6,e6⟩:=Zm T5 4 (by decide) (by decide)
    rw [show ((4:Nat):Int)=4 from rfl] at e6
    have h6:S6[S2.length]?=some (.dtp (Z6 gs)):=by rw [M6.keep _ (fun z=>hLD z.symm)]; exact h5
    have hg1':(1:Int) < (gs.length:Int):=by omega
    by_cases c0:0 < c
    · have c0':(0:Int) < (c:Int):=by omega
      have hso:=hso S6 h6
      have hcm:J6 (Qa 0) Qk Qm [] (Jj [none] (wdΓ L n S2.length b3 b4)) ((Qi gs).map Q1) S6=.ok (((Qi gs).filter fun g=>decide (1 < g.length)).map Q1) S6:=by
        refine compG_onF Q1 Q1 (fun g=>decide (1 < g.length)) (by simp) fun g hg=>⟨_,rfl,?_,fun _=>?_⟩
        · have hll:cLen S6 [Q1 g]=.ok (.int (g.length:Nat)) S6:=by simp [Q1]
          generalize Q1 g=gv at *
          simp [Jj,Qk,hll]
          omega
        · generalize Q1 g=gv at *
          simp [Jj,Qm]
      have hl3:((Qi gs).map Q1).length<=1000000:=by rw [O2,hp.length_eq]; omega
      refine ⟨n,(Qi gs).filter fun g=>decide (1 < g.length),S6,hn9,⟨by omega,by omega,fun z=>?_,fun g hg=>G5.ok g (hp.mem_iff.mp ((List.mem_filter.mp hg).1)),hss.sublist List.filter_sublist,D3 (List.length_filter_le _ _) (by rw [hp.length_eq]; omega)⟩,T6,ret ?_⟩
      · have all:∀ g∈gs,g=[(x:Int)]:=fun g hg=>by
          rcases hx5 g hg with h | h
          · exact h
          · have:g∈(Qi gs).filter fun g=>decide (1 < g.length):=List.mem_filter.mpr ⟨hp.mem_iff.mpr hg,by simpa using h⟩
            rw [z] at this; cases this
        match gs,G5.nd,hg1,all with
        | a :: b :: r,nd,_,all=>
          have h1:=all a (by simp)
          have h2:=all b (by simp)
          rw [h1,h2] at nd
          simp at nd
      · have e5':(Ja (tAndM (toB (mOp (oI fun a b=>.bl (decide (b < a))) (Qg cLenT (Q2 (Q3 2) Q9)) (mC (.int 1)))) (toB (mOp (oI fun a b=>.bl (decide (b < a))) (Qc 2 Q5 (Q2 (Q3 0) (Q2 (mC (.int 4)) Q9))) (mC (.int 0))))) (Qw (mTup (Q2 (Q3 1) (Q2 (Qg Za (Q2 (mVal (Z4 [none] (Qa 0) (mSeq (Qg cSortD (Q2 (Q3 2) Q9))) Qk Qm)) Q9)) Q9)))) Qp) (wdΓ L n S2.length b3 b4) S5=.rt (Q4 n ((Qi gs).filter fun g=>decide (1 < g.length))) S6:=by
          unfold Q4 setsV
          unfold wdΓ at hcm ⊢
          generalize ((Qi gs).filter fun g=>decide (1 < g.length)).map Q1=fv at *
          generalize (Qi gs).map Q1=ov at *
          simp -implicitDefEqProofs [hl,hg1,hg1',e6,c0,c0',hso,hl3,Qe,hcm]
        unfold Qq
        rw [s1,Jx,e5']
    · have c0':¬ (0:Int) < (c:Int):=by omega
      refine ⟨n,Qi gs,S6,hn9,B0,T6,ret ?_⟩
      have e5':(Ja (tAndM (toB (mOp (oI fun a b=>.bl (decide (b < a))) (Qg cLenT (Q2 (Q3 2) Q9)) (mC (.int 1)))) (toB (mOp (oI fun a b=>.bl (decide (b < a))) (Qc 2 Q5 (Q2 (Q3 0) (Q2 (mC (.int 4)) Q9))) (mC (.int 0))))) (Qw (mTup (Q2 (Q3 1) (Q2 (Qg Za (Q2 (mVal (Z4 [none] (Qa 0) (mSeq (Qg cSortD (Q2 (Q3 2) Q9))) Qk Qm)) Q9)) Q9)))) Qp) (wdΓ L n S2.length b3 b4) S5=.nx (wdΓ L n S2.length b3 b4) S6:=by
        unfold wdΓ
        simp -implicitDefEqProofs [hl,hg1,hg1',e6,c0,c0']
      unfold Qq
      rw [s1,Jx,e5']
      exact whole S6 T6 h6
  · refine ⟨n,Qi gs,S5,hn9,B0,T5,ret ?_⟩
    have hg1':¬ (1:Int) < (gs.length:Int):=by omega
    have e5':(Ja (tAndM (toB (mOp (oI fun a b=>.bl (decide (b < a))) (Qg cLenT (Q2 (Q3 2) Q9)) (mC (.int 1)))) (toB (mOp (oI fun a b=>.bl (decide (b < a))) (Qc 2 Q5 (Q2 (Q3 0) (Q2 (mC (.int 4)) Q9))) (mC (.int 0))))) (Qw (mTup (Q2 (Q3 1) (Q2 (Qg Za (Q2 (mVal (Z4 [none] (Qa 0) (mSeq (Qg cSortD (Q2 (Q3 2) Q9))) Qk Qm)) Q9)) Q9)))) Qp) (wdΓ L n S2.length b3 b4) S5=.nx (wdΓ L n S2.length b3 b4) S5:=by
      unfold wdΓ
      simp -implicitDefEqProofs [hl,hg1,hg1']
    unfold Qq
    rw [s1,Jx,e5']
    exact whole S5 T5 h5
theorem forG_invB {α:Type} (g:α->PV) {xs:List α} (I:Gam->Q0->Prop) {ga:GA} {body:MS} (h:∀ x Γ st,x∈xs->I Γ st->∃ Γ1,ga (g x) Γ=some Γ1/\∃ Γ2 st2,I Γ2 st2/\(body Γ1 st=.nx Γ2 st2\/body Γ1 st=.bk Γ2 st2)) {Γ:Gam} {st:Q0} (h0:I Γ st):∃ Γ' st',forG ga body [] (xs.map g) Γ st=.nx Γ' st'/\I Γ' st':=by
  induction xs generalizing Γ st with
  | nil=>exact ⟨Γ,st,by simp [forG],h0⟩
  | cons x xs ih=>
    obtain ⟨Γ1,h1,Γ2,st2,i2,e2⟩:=h x Γ st E4 h0
    rw [D5,forG,if_pos (by simp),h1]
    rcases e2 with e2 | e2
    · simp only [e2]
      exact ih (fun y Γ st hy=>h y Γ st (O8 _ hy)) i2
    · simp only [e2]
      exact ⟨Γ2,st2,rfl,i2⟩
theorem bk_eq (Γ:Gam) (st:Q0):mBreak Γ st=.bk Γ st:=rfl
theorem ne_self (st:Q0) (f:Nat):oNe st (.tup [.str "bears",.int f]) (.tup [.str "bears",.int f])=.ok (.bl false) st:=by
  unfold oNe
  simp [der,Jd,dep,peq,peqL]
abbrev Js (ns:List Int) (b2 b3 b4 b5 b6 b7 b8 b9:Option PV):Gam:=[some (.fro (ns.map .int)),some (.ref 0),b2,b3,b4,b5,b6,b7,b8,b9]
theorem turn55 {ns:List Int} {n:Nat} {gs:List (List Int)} (B:BOk n gs) (hn:n<=9) (t u:Nat) (S:Q0) (b2 b7 b8 b9:Option PV) :
    ∃ c7 c8 c9,b_law_2 (Js ns b2 (some (Q4 n gs)) (some (.int n)) (some (.int u)) (some (.int t)) b7 b8 b9) S=.nx (Js ns b2 (some (Q4 n gs)) (some (.int n)) (some (.int u)) (some (.int t)) c7 c8 c9) S:=by
  obtain ⟨f,hf,ef⟩:=modN ((t:Int) + u) (n:=n + 1) (by omega)
  rw [show ((n + 1:Nat):Int)=(n:Int) + 1 by push_cast; rfl] at ef
  have e1:=bears_ok (f:=f) (by omega) B S
  have e2:=lbears_br (f:=f) (by omega) B S
  refine ⟨some (.int f),some (J9 n gs f),some (.bl (brB n gs f)),?_⟩
  have s1:J7 7 (mOp oMod (mOp oAdd (Q3 6) (Q3 5)) (mOp oAdd (Q3 4) (mC (.int 1)))) (Js ns b2 (some (Q4 n gs)) (some (.int n)) (some (.int u)) (some (.int t)) b7 b8 b9) S=.nx (Js ns b2 (some (Q4 n gs)) (some (.int n)) (some (.int u)) (some (.int t)) (some (.int f)) b8 b9) S:=by
    have hp:(0:Int) < (n:Int) + 1:=by omega
    unfold Js
    generalize ns.map PV.int=nv at *
    generalize Q4 n gs=bv at *
    simp -implicitDefEqProofs [hp,ef]
  have s2:J7 8 (Qc 2 F_bears (Q2 (Q3 3) (Q2 (Q3 7) Q9))) (Js ns b2 (some (Q4 n gs)) (some (.int n)) (some (.int u)) (some (.int t)) (some (.int f)) b8 b9) S=.nx (Js ns b2 (some (Q4 n gs)) (some (.int n)) (some (.int u)) (some (.int t)) (some (.int f)) (some (J9 n gs f)) b9) S:=by
    unfold Js
    generalize ns.map PV.int=nv at *
    generalize J9 n gs f=pv at *
    generalize Q4 n gs=bv at *
    simp -implicitDefEqProofs [e1]
  have s3:J7 9 (Qc 2 Jp (Q2 (Q3 3) (Q2 (Q3 7) Q9))) (Js ns b2 (some (Q4 n gs)) (some (.int n)) (some (.int u)) (some (.int t)) (some (.int f)) (some (J9 n gs f)) b9) S=.nx (Js ns b2 (some (Q4 n gs)) (some (.int n)) (some (.int u)) (some (.int t)) (some (.int f)) (some (J9 n gs f)) (some (.bl (brB n gs f)))) S:=by
    unfold Js
    generalize ns.map PV.int=nv at *
    generalize J9 n gs f=pv at *
    generalize Q4 n gs=bv at *
    generalize brB n gs f=bb at *
    simp -implicitDefEqProofs [e2]
  have s4:Ja (tOrM (tAndM (toB (mOp oEq (Q3 7) (mC (.int 0)))) (tNotM (toB (Q3 9)))) (tAndM (toB (mOp oEq (Q3 7) (Q3 4))) (toB (Q3 9)))) (Qw (mC (.bl false))) Qp (Js ns b2 (some (Q4 n gs)) (some (.int n)) (some (.int u)) (some (.int t)) (some (.int f)) (some (J9 n gs f)) (some (.bl (brB n gs f)))) S=.nx (Js ns b2 (some (Q4 n gs)) (some (.int n)) (some (.int u)) (some (.int t)) (some (.int f)) (some (J9 n gs f)) (some (.bl (brB n gs f)))) S:=by
    have h0:f=0->brB n gs f=true:=fun z=>by rw [z]; exact br_zero B
    have h1:f=n->brB n gs f=false:=fun z=>by rw [z]; exact br_full B
    unfold Js
    generalize ns.map PV.int=nv at *
    generalize J9 n gs f=pv at *
    generalize Q4 n gs=bv at *
    generalize brB n gs f=bb at *
    by_cases z0:f=0
    · have z1:¬ f=n:=fun z=>by rw [h0 z0] at h1; cases h1 z
      have z1':¬ ((f:Int)=(n:Int)):=by omega
      have z0':((f:Int)=0):=by omega
      have hb:=h0 z0
      subst hb
      have zn:¬ ((0:Int)=(n:Int)):=by omega
      simp -implicitDefEqProofs [z0',z1',zn]
    · have z0':¬ ((f:Int)=0):=by omega
      by_cases z1:f=n
      · have hb:=h1 z1
        subst hb
        have z1':((f:Int)=(n:Int)):=by omega
        have zn:¬ ((n:Int)=0):=by omega
        have zn':¬ n=0:=by omega
        simp -implicitDefEqProofs [z1',zn,zn']
      · have z1':¬ ((f:Int)=(n:Int)):=by omega
        simp -implicitDefEqProofs [z0,z0',z1,z1']
  unfold b_law_2
  rw [Jx,s1]
  show Qb _ _ _ _=_
  rw [Jx,s2]
  show Qb _ _ _ _=_
  rw [Jx,s3]
  show Qb _ _ _ _=_
  rw [Jx,s4]
  show Ja _ _ _ _ _=_
  cases hb:brB n gs f with
  | true=>
    have hpv:J9 n gs f=.tup [.str "bears",.int f]:=by
      unfold brB at hb
      unfold J9
      rw [Option.isNone_iff_eq_none.mp hb]
    have h3:=ne_self S f
    rw [hpv]
    unfold Js
    generalize ns.map PV.int=nv at *
    generalize Q4 n gs=bv at *
    simp -implicitDefEqProofs [isI,tyN,atI,ixN,Qe,h3]
  | false=>
    have h3:=shows_ok (f:=f) (by omega) B hb S
    unfold Js
    generalize ns.map PV.int=nv at *
    generalize J9 n gs f=pv at *
    generalize Q4 n gs=bv at *
    simp -implicitDefEqProofs [h3]
theorem round55 {ns:List Int} (k:Nat) {S:Q0} (T:TapeAt S 0 ns) (b3 b4 b5 b6 b7 b8 b9:Option PV) :
    ∃ Γ2 S2,(∃ c2 c3 c4 c5 c6 c7 c8 c9,Γ2=Js ns c2 c3 c4 c5 c6 c7 c8 c9)/\TapeAt S2 0 ns/\(b_law_1 (Js ns (some (.int k)) b3 b4 b5 b6 b7 b8 b9) S=.nx Γ2 S2\/b_law_1 (Js ns (some (.int k)) b3 b4 b5 b6 b7 b8 b9) S=.bk Γ2 S2):=by
  obtain ⟨pp,cc,hS⟩:=id T
  obtain ⟨_,i1,_⟩:=tape_ix hS
  have hnl:(ns.map PV.int).length=ns.length:=O2 _
  by_cases hbr:1 < k/\ns.length<=pp
  · refine ⟨Js ns (some (.int k)) b3 b4 b5 b6 b7 b8 b9,S,⟨_,_,_,_,_,_,_,_,rfl⟩,T,.inr ?_⟩
    obtain ⟨q1,q2⟩:=hbr
    have q1':(1:Int) < k:=by omega
    have q2':(ns.length:Int)<=(pp:Int):=by omega
    unfold Js
    generalize ns.length=nl at *
    generalize ns.map PV.int=nv at *
    simp -implicitDefEqProofs [b_law_1,q1',q2',i1,hnl,q2,bk_eq,-oIx_r]
  · have sA:∀ X:MS,(Qb (Ja (tAndM (toB (mOp (oI fun a b=>.bl (decide (b < a))) (Q3 2) (mC (.int 1)))) (toB (mOp (oI fun a b=>.bl (decide (b<=a))) (mOp oIx (Q3 1) (mC (.int 1))) (Qg cLen (Q2 (Q3 0) Q9))))) mBreak Qp) X) (Js ns (some (.int k)) b3 b4 b5 b6 b7 b8 b9) S=X (Js ns (some (.int k)) b3 b4 b5 b6 b7 b8 b9) S:=fun X=>by
      unfold Js
      generalize ns.length=nl at *
      generalize ns.map PV.int=nv at *
      by_cases q1:1 < k
      · have q2:¬ nl<=pp:=fun z=>hbr ⟨q1,z⟩
        have q1':(1:Int) < k:=by omega
        have q2':¬ (nl:Int)<=(pp:Int):=by omega
        simp -implicitDefEqProofs [q1',q2,q2',i1,hnl,-oIx_r]
      · have q1':¬ (1:Int) < k:=by omega
        simp -implicitDefEqProofs [q1']
    obtain ⟨n0,g0,S1,hn01,hn06,B0,T1,e1⟩:=book_drawn T
    have t1:J7 3 (Qc 2 Z8 (Q2 (Q3 1) (Q2 (mC (.int 5)) Q9))) (Js ns (some (.int k)) b3 b4 b5 b6 b7 b8 b9) S=.nx (Js ns (some (.int k)) (some (Q4 n0 g0)) b4 b5 b6 b7 b8 b9) S1:=by
      unfold Js
      generalize ns.map PV.int=nv at *
      generalize Q4 n0 g0=bv at *
      simp -implicitDefEqProofs [e1]
    have mid:∃ (n:Nat) (gs:List (List Int)) (S2:Q0),n<=9/\BOk n gs/\TapeAt S2 0 ns/\Ja (tAndM (toB (mOp oEq (Q3 2) (mC (.int 0)))) (toB (mOp oEq (Qc 2 Q5 (Q2 (Q3 1) (Q2 (mC (.int 3)) Q9))) (mC (.int 0))))) (J7 3 (Qc 1 Qr (Q2 (Q3 1) Q9))) Qp (Js ns (some (.int k)) (some (Q4 n0 g0)) b4 b5 b6 b7 b8 b9) S1=.nx (Js ns (some (.int k)) (some (Q4 n gs)) b4 b5 b6 b7 b8 b9) S2:=by
      by_cases k0:k=0
      · subst k0
        obtain ⟨d,S2,hd,T2,_,e2⟩:=Zm T1 3 (by decide) (by decide)
        rw [show ((3:Nat):Int)=3 from rfl] at e2
        by_cases d0:d=0
        · subst d0
          rw [show ((0:Nat):Int)=0 from rfl] at e2
          obtain ⟨n,gs,S3,hn,B,T3,e3⟩:=wide_drawn T2
          refine ⟨n,gs,S3,hn,B,T3,?_⟩
          unfold Js
          generalize ns.map PV.int=nv at *
          generalize Q4 n0 g0=bv at *
          generalize Q4 n gs=bw at *
          simp -implicitDefEqProofs [e2,e3]
        · have d0':¬ ((d:Int)=0):=by omega
          refine ⟨n0,g0,S2,by omega,B0,T2,?_⟩
          unfold Js
          generalize ns.map PV.int=nv at *
          generalize Q4 n0 g0=bv at *
          simp -implicitDefEqProofs [e2,d0,d0']
      · have k0':¬ ((k:Int)=0):=by omega
        refine ⟨n0,g0,S1,by omega,B0,T1,?_⟩
        unfold Js
        generalize ns.map PV.int=nv at *
        generalize Q4 n0 g0=bv at *
        simp -implicitDefEqProofs [k0,k0']
    obtain ⟨n,gs,S2,hn,B,T2,e2⟩:=mid
    have hi0:oIx S2 (Q4 n gs) (.int 0)=.ok (.int n) S2:=by simp [Q4,atI,ixN]
    have t3:J7 4 (mOp oIx (Q3 3) (mC (.int 0))) (Js ns (some (.int k)) (some (Q4 n gs)) b4 b5 b6 b7 b8 b9) S2=.nx (Js ns (some (.int k)) (some (Q4 n gs)) (some (.int n)) b5 b6 b7 b8 b9) S2:=by
      unfold Js
      generalize ns.map PV.int=nv at *
      generalize Q4 n gs=bv at *
      simp -implicitDefEqProofs [hi0]
    obtain ⟨u,S3,hu,T3,_,e3⟩:=Zm T2 (n + 1) (by omega) (by omega)
    rw [show ((n + 1:Nat):Int)=(n:Int) + 1 by push_cast; rfl] at e3
    have t4:J7 5 (Qc 2 Q5 (Q2 (Q3 1) (Q2 (mOp oAdd (Q3 4) (mC (.int 1))) Q9))) (Js ns (some (.int k)) (some (Q4 n gs)) (some (.int n)) b5 b6 b7 b8 b9) S2=.nx (Js ns (some (.int k)) (some (Q4 n gs)) (some (.int n)) (some (.int u)) b6 b7 b8 b9) S3:=by
      unfold Js
      generalize ns.map PV.int=nv at *
      generalize Q4 n gs=bv at *
      simp -implicitDefEqProofs [e3]
    obtain ⟨Γ4,S4,e4,c6,c7,c8,c9,rfl,rfl⟩:=forG_inv (g:=fun k:Nat=>PV.int (k:Int)) (xs:=List.range (n + 2)) (ga:=Qa 6) (body:=b_law_2) (w:=[]) (Γ:=Js ns (some (.int k)) (some (Q4 n gs)) (some (.int n)) (some (.int u)) b6 b7 b8 b9) (st:=S3)
      (fun _ Γ st'=>∃ c6 c7 c8 c9,Γ=Js ns (some (.int k)) (some (Q4 n gs)) (some (.int n)) (some (.int u)) c6 c7 c8 c9/\st'=S3)
      (fun _ _ _ _=>by simp)
      (fun i t Γ st' hx ⟨c6,c7,c8,c9,g1,g2⟩=>by
        subst g1
        subst g2
        obtain ⟨d7,d8,d9,e⟩:=turn55 (ns:=ns) B hn t u st' (some (.int k)) c7 c8 c9
        exact ⟨_,rfl,_,_,e,_,_,_,_,rfl,rfl⟩)
      ⟨_,_,_,_,rfl,rfl⟩
    rw [<- rangeI0] at e4
    refine ⟨Js ns (some (.int k)) (some (Q4 n gs)) (some (.int n)) (some (.int u)) c6 c7 c8 c9,S4,⟨_,_,_,_,_,_,_,_,rfl⟩,T3,.inl ?_⟩
    unfold b_law_1
    rw [sA,Jx,t1]
    show Qb _ _ _ _=_
    rw [Jx,e2]
    show Qb _ _ _ _=_
    rw [Jx,t3]
    show Qb _ _ _ _=_
    rw [Jx,t4]
    show mFor _ _ _ _ _=_
    have hb:-1000000<=(n:Int) + 2/\(n:Int) + 2<=1000000:=by omega
    have hb2:((n:Int) + 2).toNat=n + 2:=by omega
    unfold Js at e4 ⊢
    generalize ns.map PV.int=nv at *
    generalize Q4 n gs=bv at *
    simp -implicitDefEqProofs [Qe,hb,hb2,e4]
theorem law_true (ns:List Int):F_law [.fro (ns.map .int)] []=.ok (.bl true) []:=by
  have T0:TapeAt [.lst [.fro (ns.map .int),.int 0,.int 0]] 0 ns:=⟨0,0,rfl⟩
  obtain ⟨Γ',S1,e1,⟨c2,c3,c4,c5,c6,c7,c8,c9,rfl⟩,T1⟩:=forG_invB (g:=fun k:Nat=>PV.int (k:Int)) (xs:=List.range 4) (ga:=Qa 2) (body:=b_law_1) (Γ:=Js ns none none none none none none none none) (st:=[.lst [.fro (ns.map .int),.int 0,.int 0]])
    (fun Γ st'=>(∃ c2 c3 c4 c5 c6 c7 c8 c9,Γ=Js ns c2 c3 c4 c5 c6 c7 c8 c9)/\TapeAt st' 0 ns)
    (fun k Γ st' _ ⟨⟨c2,c3,c4,c5,c6,c7,c8,c9,g1⟩,T⟩=>by
      subst g1
      obtain ⟨Γ2,S2,h1,h2,h3⟩:=round55 k T c3 c4 c5 c6 c7 c8 c9
      exact ⟨_,rfl,Γ2,S2,⟨h1,h2⟩,h3⟩)
    ⟨⟨_,_,_,_,_,_,_,_,rfl⟩,T0⟩
  rw [<- rangeI0] at e1
  have hfin:∀ S,fin [] (.bl true) S=.ok (.bl true) []:=fun S=>by simp [fin,fz]
  have step:m_law [some (.fro (ns.map .int)),none,none,none,none,none,none,none,none,none] []=.rt (.bl true) S1:=by
    unfold Js at e1
    generalize ns.map PV.int=nv at *
    simp -implicitDefEqProofs [m_law,Qe,e1]
  show Qd m_law 10 _ []=_
  unfold Qd
  rw [show (([PV.fro (ns.map .int)]:List PV).map some ++ List.replicate (10 - [PV.fro (ns.map .int)].length) none)=[some (.fro (ns.map .int)),none,none,none,none,none,none,none,none,none] from rfl,step]
  exact hfin S1
theorem law_all:∀ ns:List Int,ns.length<=63->∃ st',F_law [.fro (ns.map .int)] []=.ok (.bl true) st':=fun ns _=>⟨[],law_true ns⟩
end Lw
namespace Lw
open PySem PySem.Spec L2 Sm
theorem all_mk {l:PySem.W.OpenLaw} {w:World} {K:PySem.W.Frag} {h:Heap} {mg:Str->Option Value} {fa f1 f2 f3 f4 f5 f6 f7 f8 f9 f10 f11 f12 f13 f14 f15 f16 f17 f18 f19 f20 f21 f22 f23 f24 f25 f26 f27 f28:Addr} (X:K.In h) (G:h.Ns mainGlobals mg) (hfa:mg "law" = some (.ref fa))
    {od28 an28:Option Addr} {sl28:Array (Option Value)} {oc28 kV28 dc28 pm28 cd28 ct28:Value}
    {e_NoBook:Addr}
    {t_MOST_HOUSES_OF_BOOK:Tok}
    (a28:PySem.W.nsIn K mainGlobals "law" = some (some (.ref f28)))
    (l28:K.lookup f28=some ⟨oc28,od28,.func (PySem.W.fnOf "law" "law" (defArgs s_law) (Jr s_law) (Q6 s_law) .none kV28 dc28 pm28 an28 cd28 ct28),sl28⟩)
    (c28:PySem.W.codeIn K cd28 "law" = true)
    (k28:PySem.W.keepIn K (.ref f28)=true)
    (z_all:PySem.W.nsIn K mainGlobals "all" = some none)
    (z_any:PySem.W.nsIn K mainGlobals "any" = some none)
    (z_bool:PySem.W.nsIn K mainGlobals "bool" = some none)
    (z_int:PySem.W.nsIn K mainGlobals "int" = some none)
    (z_isinstance:PySem.W.nsIn K mainGlobals "isinstance" = some none)
    (z_len:PySem.W.nsIn K mainGlobals "len" = some none)
    (z_range:PySem.W.nsIn K mainGlobals "range" = some none)
    (z_set:PySem.W.nsIn K mainGlobals "set" = some none)
    (z_sorted:PySem.W.nsIn K mainGlobals "sorted" = some none)
    (z_tuple:PySem.W.nsIn K mainGlobals "tuple" = some none)
    (z_zip:PySem.W.nsIn K mainGlobals "zip" = some none)
    (v_MOST_HOUSES_OF_BOOK:PySem.W.nsIn K mainGlobals "MOST_HOUSES_OF_BOOK" = some (some (.int 9 t_MOST_HOUSES_OF_BOOK)))
    (n_NoBook:PySem.W.nsIn K mainGlobals "NoBook" = some (some (.ref e_NoBook)))
    (h1:FA K "is_whole" s_is_whole f1)
    (h2:FA K "is_between" s_is_between f2)
    (h3:FA K "is_rising" s_is_rising f3)
    (h4:FA K "is_sized_tuple" s_is_sized_tuple f4)
    (h5:FA K "are_rising_houses" s_are_rising_houses f5)
    (h6:FA K "is_group" s_is_group f6)
    (h7:FA K "are_sets" s_are_sets f7)
    (h8:FA K "is_book" s_is_book f8)
    (h9:FA K "need_book" s_need_book f9)
    (h10:FA K "meets" s_meets f10)
    (h11:FA K "set_without" s_set_without f11)
    (h12:FA K "set_within" s_set_within f12)
    (h13:FA K "groups_of" s_groups_of f13)
    (h14:FA K "paper_of" s_paper_of f14)
    (h15:FA K "bears" s_bears f15)
    (h16:FA K "_law_e_stirred" s__law_e_stirred f16)
    (h17:FA K "_law_e_digit" s__law_e_digit f17)
    (h18:FA K "_law_e_subset" s__law_e_subset f18)
    (h19:FA K "_law_e_sized" s__law_e_sized f19)
    (h20:FA K "_law_e_book" s__law_e_book f20)
    (h21:FA K "_law_e_hit" s__law_e_hit f21)
    (h22:FA K "_law_e_within" s__law_e_within f22)
    (h23:FA K "_law_e_is_stuck" s__law_e_is_stuck f23)
    (h24:FA K "_law_e_houses" s__law_e_houses f24)
    (h25:FA K "_law_e_shows" s__law_e_shows f25)
    (h26:FA K "_law_e_bears" s__law_e_bears f26)
    (h27:FA K "_law_e_wide_book" s__law_e_wide_book f27)
    (x_NoBook:PySem.W.excIn K e_NoBook bmVE "ValueError.__new__" = true)
    (hL:noL K=true) :
    ∃ fd:FuncData,(∀ (s:Shared) (v:Value),BindsTo s fd ⟨[v],[]⟩ [("script",v)])/\∀ base:Heap,K.In base->base.Ns mainGlobals mg->FnOk l.prog w K mg base (CXD l.prog w) 9 fa fd ["script"] (spLawS K):=by
  have e:=hfa.symm.trans (PySem.W.mg_of X G a28)
  cases e
  have T:Txt mg:=⟨PySem.W.mg_none_of X G z_all,PySem.W.mg_none_of X G z_any,PySem.W.mg_none_of X G z_bool,PySem.W.mg_none_of X G z_int,PySem.W.mg_none_of X G z_isinstance,PySem.W.mg_none_of X G z_len,PySem.W.mg_none_of X G z_range,PySem.W.mg_none_of X G z_set,PySem.W.mg_none_of X G z_sorted,PySem.W.mg_none_of X G z_tuple,PySem.W.mg_none_of X G z_zip,⟨_,PySem.W.mg_of X G v_MOST_HOUSES_OF_BOOK⟩⟩
  have C_NoBook:∃ C,mg "NoBook" = some (.ref C)/\PySem.W.excIn K C bmVE "ValueError.__new__" = true:=⟨_,PySem.W.mg_of X G n_NoBook,x_NoBook⟩
  obtain ⟨_,A1⟩:=atS2 ["thing"] X G h1
  obtain ⟨_,A2⟩:=atS2 ["thing", "least", "most"] X G h2
  obtain ⟨_,A3⟩:=atS2 ["things"] X G h3
  obtain ⟨_,A4⟩:=atS2 ["thing", "least", "most"] X G h4
  obtain ⟨_,A5⟩:=atS2 ["n", "thing"] X G h5
  obtain ⟨_,A6⟩:=atS2 ["n", "thing"] X G h6
  obtain ⟨_,A7⟩:=atS2 ["n", "thing"] X G h7
  obtain ⟨_,A8⟩:=atS2 ["thing"] X G h8
  obtain ⟨_,A9⟩:=atS2 ["book"] X G h9
  obtain ⟨_,A10⟩:=atS2 ["houses", "one"] X G h10
  obtain ⟨_,A11⟩:=atS2 ["book", "houses"] X G h11
  obtain ⟨_,A12⟩:=atS2 ["book", "houses"] X G h12
  obtain ⟨_,A13⟩:=atS2 ["n", "size"] X G h13
  obtain ⟨_,A14⟩:=atS2 ["book", "f"] X G h14
  obtain ⟨_,A15⟩:=atS2 ["book", "f"] X G h15
  obtain ⟨_,A16⟩:=atS2 ["cell", "place"] X G h16
  obtain ⟨_,A17⟩:=atS2 ["tape", "many"] X G h17
  obtain ⟨_,A18⟩:=atS2 ["tape", "n"] X G h18
  obtain ⟨_,A19⟩:=atS2 ["n", "many"] X G h19
  obtain ⟨_,A20⟩:=atS2 ["tape", "most"] X G h20
  obtain ⟨_,A21⟩:=atS2 ["one", "some"] X G h21
  obtain ⟨_,A22⟩:=atS2 ["one", "some"] X G h22
  obtain ⟨_,A23⟩:=atS2 ["book", "gone"] X G h23
  obtain ⟨_,A24⟩:=atS2 ["n", "some", "many"] X G h24
  obtain ⟨_,A25⟩:=atS2 ["book", "f", "paper"] X G h25
  obtain ⟨_,A26⟩:=atS2 ["book", "f"] X G h26
  obtain ⟨_,A27⟩:=atS2 ["tape"] X G h27
  have A28:=atS_mk (st:=s_law) (ps:=["script"]) X G a28 l28 c28 k28 fun _ _ _ _ _ _ us hl=>match us,hl with | [_],_=>rfl
  refine ⟨PySem.W.fnOf "law" "law" (defArgs s_law) (Jr s_law) (Q6 s_law) .none kV28 dc28 pm28 an28 cd28 ct28,fun s v=>.of_eq rfl,fun base kb nb=>?_⟩
  have D_is_whole:=A1.d l.prog w base rfl (ok_is_whole A1.F T    )
  have D_is_between:=A2.d l.prog w base rfl (ok_is_between A2.F T   D_is_whole )
  have D_is_rising:=A3.d l.prog w base rfl (ok_is_rising A3.F T    )
  have D_is_sized_tuple:=A4.d l.prog w base rfl (ok_is_sized_tuple A4.F T    )
  have D_are_rising_houses:=A5.d l.prog w base rfl (ok_are_rising_houses A5.F T   D_is_between D_is_rising )
  have D_is_group:=A6.d l.prog w base rfl (ok_is_group A6.F T   D_are_rising_houses )
  have D_are_sets:=A7.d l.prog w base rfl (ok_are_sets A7.F T   D_is_group D_is_rising )
  have D_is_book:=A8.d l.prog w base rfl (ok_is_book A8.F T   D_is_sized_tuple D_is_between D_are_sets )
  have D_need_book:=A9.d l.prog w base rfl (ok_need_book A9.F T  C_NoBook D_is_book )
  have D_meets:=A10.d l.prog w base rfl (ok_meets A10.F T    )
  have D_set_without:=A11.d l.prog w base rfl (ok_set_without A11.F T   D_meets )
  have D_set_within:=A12.d l.prog w base rfl (ok_set_within A12.F T    )
  have D_groups_of:=A13.d l.prog w base rfl (ok_groups_of A13.F T    )
  have D_paper_of:=A14.d l.prog w base rfl (ok_paper_of A14.F T   D_groups_of D_set_without D_set_within )
  have D_bears:=A15.d l.prog w base rfl (ok_bears A15.F T   D_need_book D_paper_of )
  have D__law_e_stirred:=A16.d l.prog w base rfl (ok__law_e_stirred A16.F T    )
  have D__law_e_digit:=A17.d l.prog w base rfl (ok__law_e_digit A17.F T   D__law_e_stirred )
  have D__law_e_subset:=A18.d l.prog w base rfl (ok__law_e_subset A18.F T   D__law_e_digit )
  have D__law_e_sized:=A19.d l.prog w base rfl (ok__law_e_sized A19.F T    )
  have D__law_e_book:=A20.d l.prog w base rfl (ok__law_e_book A20.F T   D__law_e_digit D__law_e_sized D__law_e_subset )
  have D__law_e_hit:=A21.d l.prog w base rfl (ok__law_e_hit A21.F T    )
  have D__law_e_within:=A22.d l.prog w base rfl (ok__law_e_within A22.F T    )
  have D__law_e_is_stuck:=A23.d l.prog w base rfl (ok__law_e_is_stuck A23.F T   D__law_e_hit )
  have D__law_e_houses:=A24.d l.prog w base rfl (ok__law_e_houses A24.F T    )
  have D__law_e_shows:=A25.d l.prog w base rfl (ok__law_e_shows A25.F T   D__law_e_houses D__law_e_is_stuck D__law_e_within )
  have D__law_e_bears:=A26.d l.prog w base rfl (ok__law_e_bears A26.F T   D__law_e_sized D__law_e_is_stuck D__law_e_within )
  have D__law_e_wide_book:=A27.d l.prog w base rfl (ok__law_e_wide_book A27.F T   D__law_e_digit D__law_e_subset )
  exact law_imp hL (ok_law A28.F T   D__law_e_book D__law_e_digit D__law_e_wide_book D_bears D__law_e_bears D__law_e_shows ) law_all
end Lw
theorem PySem.W.Fast.tw17591602449986756171 : True := trivial
theorem PySem.W.Fast.tw18415840397949258086 : True := trivial
theorem PySem.W.Fast.tw203670512966189264 : True := trivial
theorem PySem.W.Fast.tw11349070945915421390 : True := trivial
theorem PySem.W.Fast.tw2354366803293050557 : True := trivial
theorem PySem.W.Fast.tw16691754046836858505 : True := trivial
theorem PySem.W.Fast.tw2448738846970370833 : True := trivial
theorem PySem.W.Fast.te13845466016366409907 : True := trivial
open PySem PySem.W PyProof.Rows Sm
set_option maxRecDepth 100000 in
set_option maxHeartbeats 0 in
theorem PySem.Challenge.cw_lendwharf_k55_falls_that_a_book_bears_holds : PySem.Challenge.rw_lendwharf_k55_falls_that_a_book_bears.Holds := by
  w_on; o_law; k_head; (case hw=>w_witness2)
  k_fill
  refine Sm.walkS (l:=PySem.Challenge.rw_lendwharf_k55_falls_that_a_book_bears) (k:=9) rfl ⟨rfl,by decide,by decide⟩ rfl (fun w h Y=>PySem.W.kIn_of Y) ?F
  case F=>
    intro w mg fa h KX G hmg
    refine' Lw.all_mk KX G hmg ..
    any_goals k_is
    any_goals exact FA.mk (by k_is) (by k_is) (by k_is) (by k_is)
    any_goals k_exc
    all_goals first | rfl | decide
