import PyProof.Rows.All
import Wide.All
import OpenK.AllK
import Wide.FinOn
import Lean
import PyProof.EqAt
import PyProof.EqKinds
import PyProof.TupleCall
import PyProof.ZipIter
import PyProof.Draws
import PyProof.SumAny
import PyProof.EnumMake
import PyProof.WalkInts
import PyProof.ExcArgsOwn
import PyProof.ExcAttrAll.ValueError
import PyProof.NsDelKeeps
import KE.KTryMore
import OpenK.KOwn
import PyProof.ListMulRoad
import PyProof.FactsAll.tuple_2
import PyProof.NeKinds
import PyProof.Rows.RuleIs
import PyProof.ExcInit
import PyProof.ExcClass3
import OpenK.KCls
import PyProof.InstStoreFacts
import OpenK.KMake
import PyProof.DictRoads
import PyProof.Rows.CountFlat
import PyProof.ListRange
import PyProof.Rows.SetFrom
import PyProof.CollectStr
import PyProof.Rows.TupMore
import PyProof.AttrMissHeap
import KE.KDictOf
import PyProof.DictWalks
import KE.KSortTup
import PyProof.DictItemsLoops
import KE.KDictList
import PyProof.CallStr
import PyProof.Conv_int_bool
import PySem.Challenge.RW_lendwharf_k17_runs_played
set_option Elab.async false
set_option linter.all false
set_option maxRecDepth 100000
set_option maxHeartbeats 4000000
open PySem.Heap renaming get?_push_of_some -> O0, lt_size -> O9, get?_push_size -> D6, get?_update_other -> E5, size_push -> F4, get?_update_self -> F9
open List renaming getElem?_eq_some_iff -> O1, length_map -> O2, size_toArray -> O3, getElem?_eq_getElem -> O4, getElem?_set_ne -> O5, getElem?_append_left -> O6, length_append -> O8, mem_cons_of_mem -> D0, getElem?_append_right -> D1, mem_of_getElem? -> D2, mem_cons_self -> D4, length_set -> D5, length_cons -> D8, lookup_cons -> D9, getElem?_set_self -> E2, mem_cons -> E3, mem_append_right -> E4, getElem?_map -> E6, mem_range -> E7, mem_append -> E9, map_cons -> F2, map_append -> F3, mem_append_left -> F5, all_eq_true -> F7, getD_eq_getElem?_getD -> F8, length_range -> G6
open Nat renaming le_refl -> O7, lt_of_lt_of_le -> D3, le_of_lt -> E8, ne_of_lt -> F0, le_trans -> F1
open Bool renaming false_ne_true -> D7, and_eq_true -> F6
noncomputable section
namespace L2
open PySem PySem.Spec PyProof.Rows
abbrev Key:=Sum Int Str
def Kw:Key->Value->Bool
 | .inl k,v=>Value.isInt k v
 | .inr x,v=>Value.isStrOf x v
def Qxz (w:World):Key->Int
 | .inl k=>hashInt k
 | .inr x=>hashStr w x
theorem Wb:∀ {k:Key} {v:Value},Kw k v=true->(∃ i t,k=Sum.inl i/\v=Value.int i t)\/(∃ x t,k=Sum.inr x/\v=Value.str x t)
 | .inl i,v,h=>by
  obtain ⟨t,e⟩:=Value.isInt_shape (k:=i) (v:=v) h;exact .inl ⟨i,t,rfl,e⟩
 | .inr x,v,h=>by
  obtain ⟨t,e⟩:=Value.isStrOf_shape (x:=x) (v:=v) h;exact .inr ⟨x,t,rfl,e⟩
theorem Qh9 (i:Int) (t:Tok):Kw (.inl i) (.int i t)=true:=by simp [Kw,Value.isInt]
theorem Qh8 (x:Str) (t:Tok):Kw (.inr x) (.str x t)=true:=by simp [Kw,Value.isStrOf]
theorem Qsw (a b:Int):decide ((Sum.inl a:Key)=Sum.inl b)=(a == b):=by
 by_cases e:a=b
 ·subst e; simp
 ·have h:¬ (Sum.inl a:Key)=Sum.inl b:=fun q=>e (Sum.inl.inj q)
  rw [decide_eq_false h];exact (beq_eq_false_iff_ne.mpr e).symm
theorem Qst (a b:Str):decide ((Sum.inr a:Key)=Sum.inr b)=decide (a=b):=by
 by_cases e:a=b
 ·subst e; simp
 ·have h:¬ (Sum.inr a:Key)=Sum.inr b:=fun q=>e (Sum.inr.inj q)
  rw [decide_eq_false h,decide_eq_false e]
theorem Qsv (a:Int) (b:Str):decide ((Sum.inl a:Key)=Sum.inr b)=false:=decide_eq_false (fun q=>nomatch q)
theorem Qsu (a:Str) (b:Int):decide ((Sum.inr a:Key)=Sum.inl b)=false:=decide_eq_false (fun q=>nomatch q)
def J2 (prog:Program) (w:World):PySem.KeyKind prog w Key where
 is:=Kw
 hash:=Qxz w
 inj:=fun v a b ha hb=>by
  rcases Wb ha with ⟨i,t,rfl,rfl⟩ | ⟨x,t,rfl,rfl⟩
  ·rcases Wb hb with ⟨j,u,rfl,e⟩ | ⟨y,u,rfl,e⟩
   ·injection e with e1 _; rw [e1]
   ·exact nomatch e
  ·rcases Wb hb with ⟨j,u,rfl,e⟩ | ⟨y,u,rfl,e⟩
   ·exact nomatch e
   ·injection e with e1 _; rw [e1]
 byValue:=fun k v h=>by
  rcases Wb h with ⟨i,t,rfl,rfl⟩ | ⟨x,t,rfl,rfl⟩ <;> rfl
 pyHash:=fun hv h=>by
  rcases Wb hv with ⟨i,t,rfl,rfl⟩ | ⟨x,t,rfl,rfl⟩
  ·exact wpAny_pyHash_int h
  ·exact wpAny_pyHash_str h
 eqBool:=fun hu hv h=>by
  rcases Wb hu with ⟨i,t,rfl,rfl⟩ | ⟨x,t,rfl,rfl⟩
  ·rcases Wb hv with ⟨j,u,rfl,rfl⟩ | ⟨y,u,rfl,rfl⟩
   ·rw [Qsw] at h; exact wpAny_eqBool_int h
   ·rw [Qsv] at h; exact SeqAt.EqAt.int_str i t y u _ _ _ _ h
  ·rcases Wb hv with ⟨j,u,rfl,rfl⟩ | ⟨y,u,rfl,rfl⟩
   ·rw [Qsu] at h; exact SeqAt.EqAt.str_int x t j u _ _ _ _ h
   ·rw [Qst] at h; exact wpAny_eqBool_str h
 «strs»:=fun k x t v h=>by
  rcases Wb h with ⟨i,u,rfl,e⟩ | ⟨y,u,rfl,e⟩
  ·exact nomatch e
  ·injection e with e1 _
   subst e1;cases v <;> rfl
theorem Qct (prog:Program) (w:World) (i:Int) (t:Tok):(J2 prog w).is (.inl i) (.int i t)=true:=Qh9 i t
theorem Qcs (prog:Program) (w:World) (x:Str) (t:Tok):(J2 prog w).is (.inr x) (.str x t)=true:=Qh8 x t
inductive V where
 | non | bl (b:Bool) | int (i:Int) | str (x:Str) | byt (b:Array UInt8) | flt (b:UInt64) | ref (a:Addr) | ty (n:String)
 deriving DecidableEq
def RelV:V->Value->Prop
 | .non,u=>u=Value.none
 | .bl b,u=>u=Value.bool b
 | .int i,u=>∃ t,u=Value.int i t
 | .str x,u=>∃ t,u=Value.str x t
 | .byt b,u=>∃ t,u=Value.bytes b t
 | .flt b,u=>∃ t,u=Value.float b t
 | .ref a,u=>u=Value.ref a
 | .ty n,u=>u=Value.type n
abbrev Vals:List V->List Value->Prop:=Paired RelV
theorem Vals.length {xs:List V} {us:List Value} (r:Vals xs us):xs.length=us.length:=Paired.length r
theorem Vals.get:∀ {xs:List V} {us:List Value} {i:Nat} {x:V},Vals xs us->xs[i]?=some x->∃ u,us[i]?=some u/\RelV x u
 | _,_,_,_,.nil,e=>by simp at e
 | _,_,0,_,.cons r _,e=>by simp at e; subst e; exact ⟨_,rfl,r⟩
 | _,_,i + 1,x,.cons _ t,e=>by
  obtain ⟨u,h1,h2⟩:=Vals.get (i:=i) (x:=x) t (by simpa using e);exact ⟨u,by simpa using h1,h2⟩
theorem Vals.set {x:V} {u:Value} (r:RelV x u):∀ {xs:List V} {us:List Value} (i:Nat),Vals xs us->Vals (xs.set i x) (us.set i u)
 | _,_,_,.nil=>.nil
 | _,_,0,.cons _ t=>.cons r t
 | _,_,i + 1,.cons q t=>.cons q (Vals.set r i t)
theorem Vals.append:∀ {xs ys:List V} {us ws:List Value},Vals xs us->Vals ys ws->Vals (xs ++ ys) (us ++ ws)
 | _,_,_,_,.nil,s=>s
 | _,_,_,_,.cons r t,s=>.cons r (Vals.append t s)
theorem Vals.take:∀ {xs:List V} {us:List Value} (n:Nat),Vals xs us->Vals (xs.take n) (us.take n)
 | _,_,0,_=>.nil
 | _,_,_ + 1,.nil=>.nil
 | _,_,n + 1,.cons r t=>.cons r (Vals.take n t)
theorem Vals.drop:∀ {xs:List V} {us:List Value} (n:Nat),Vals xs us->Vals (xs.drop n) (us.drop n)
 | _,_,0,r=>r
 | _,_,_ + 1,.nil=>.nil
 | _,_,n + 1,.cons _ t=>Vals.drop n t
def RelO:Option V->Option Value->Prop
 | some v,some u=>RelV v u
 | none,none=>True
 | _,_=>False
def KV {κ:Type}:List (κ × V)->List (κ × Value)->Prop:=Paired fun (p:κ × V) (q:κ × Value)=>p.1=q.1/\RelV p.2 q.2
def kV:Key->V
 | .inl i=>.int i
 | .inr x=>.str x
inductive HO where
 | lst (xs:List V)
 | tup (xs:List V)
 | dK (kvs:List (Key × V)) | dT (kvs:List (List Key × V))
 | set (S:Int->Bool) (n:Nat)
 | ins (C dx:Addr) (fs:List (Str × V))
 | own (x:Addr)
 | xd (fs:List (Str × V))
 | met (f x:Addr)
 | rng (lo hi:Int)
 | frz (o:Obj) (u:HO)
 | tbl (ps:Array Value)
 | ext (φ:Heap->Prop)
abbrev Hp:=Addr->Option HO
def upd (H:Hp) (a:Addr) (o:HO):Hp:=fun b=>if b=a then some o else H b
theorem J8 {H:Hp} {a:Addr} {o:HO}:upd H a o a=some o:=by unfold upd; rw [if_pos rfl]
theorem Qh {H:Hp} {a b:Addr} {o:HO} (h:b≠a):upd H a o b=H b:=by unfold upd; rw [if_neg h]
theorem Qk {H:Hp} {a b:Addr} {o:HO} (h:H a=some o) (h':H b=none):a≠b:=by
 intro e; subst e; rw [h] at h'; cases h'
section
variable (P:Program) (w:World)
def ObjOk (H:Hp) (h:Heap) (a:Addr):HO->Prop
 | .lst xs=>xs.length<=sizeLine/\∃ (its:List Value) (n:Nat),Vals xs its/\h.get? a=some { cls:=.type "list",data:=.seq its.toArray n }
 | .tup xs=>xs.length<=sizeLine/\∃ its:List Value,Vals xs its/\IsTup h a its.toArray
 | .dK kvs=>kvs.length<=sizeLine/\(a == sysModules)=false/\∃ vs,KV kvs vs/\h.DictOf (J2 P w) a vs
 | .dT kvs=>kvs.length<=sizeLine/\(a == sysModules)=false/\∃ xs:List (List Key × Addr × Value),
   Paired (fun (p:List Key × V) (q:List Key × Addr × Value)=>p.1=q.1/\H q.2.1=some (.tup (p.1.map kV))/\RelV p.2 q.2.2) kvs xs /\
   ∃ o es ep,h.get? a=some o/\o.ExactDict/\o.data=.dict es ep/\es.toList=xs.map (entryOfKey (tupleKind (J2 P w)))/\(xs.map (·.1)).Nodup
 | .set S n=>h.SetOf (intKind P w) a S n
 | .ins C dx fs=>H dx=some (.own a)/\fs.length<=1000/\dx≠a/\h.get? a=some (PySem.W.instObj C dx) /\
   ∃ mA,h.Ns1 dx mA/\(∀ f,RelO (fs.lookup f) (mA f))/\PySem.Within mA (fs.map (·.1))
 | .own _=>∃ o,h.get? a=some o
 | .xd fs=>∃ mA,h.Ns1 a mA/\∀ f,RelO (fs.lookup f) (mA f)
 | .rng lo hi=>∃ t u v,h.get? a=some { cls:=.type "range",data:=.fields #[.int lo t,.int hi u,.int 1 v] }
 | .frz o u=>h.get? a=some o/\ObjOk H h a u
 | .tbl ps=>h.get? a=some { cls:=.none,data:=.fields ps }
 | .met f x=>h.get? a=some (PySem.W.methodObj (.ref f) (.ref x))
 | .ext φ=>φ h/\(∃ o,h.get? a=some o)/\∀ h1 h2:Heap,φ h1->(∀ o,h1.get? a=some o->h2.get? a=some o)->φ h2
def HOk (H:Hp) (h:Heap):Prop:=∀ a o,H a=some o->ObjOk P w H h a o
end
section
variable {P:Program} {w:World} {H H':Hp} {h h':Heap} {a:Addr} {o:HO}
theorem ObjOk.lt (x:ObjOk P w H h a o):a < h.objs.size:=by
 cases o with
 | lst xs=>obtain ⟨_,_,_,_,e⟩:=x; exact O9 e
 | tup xs=>obtain ⟨_,_,_,p⟩:=x; exact p.lt
 | dK kvs=>obtain ⟨_,_,_,_,o,_,_,e,_⟩:=x; exact O9 e
 | dT kvs=>obtain ⟨_,_,_,_,o,_,_,e,_⟩:=x; exact O9 e
 | set S n=>obtain ⟨o,_,_,_,e,_⟩:=x; exact O9 e
 | ins C dx fs=>obtain ⟨_,_,_,e,_⟩:=x; exact O9 e
 | own y=>obtain ⟨_,e⟩:=x; exact O9 e
 | xd fs=>obtain ⟨_,⟨_,_,_,e,_⟩,_⟩:=x; exact O9 e
 | rng lo hi=>obtain ⟨_,_,_,e⟩:=x; exact O9 e
 | frz ob u=>obtain ⟨e,_⟩:=x; exact O9 e
 | tbl ps=>exact O9 (show h.get? a=some _ from x)
 | met f y=>exact O9 (show h.get? a=some _ from x)
 | ext φ=>obtain ⟨_,⟨_,e⟩,_⟩:=x; exact O9 e
theorem Paired.mapP {α β:Type} {F G:α->β->Prop}:∀ {l₁:List α} {l₂:List β},Paired F l₁ l₂->(∀ a b,F a b->G a b)->Paired G l₁ l₂
 | _,_,.nil,_=>.nil
 | _,_,.cons r t,f=>.cons (f _ _ r) (Paired.mapP t f)
theorem ObjOk.stay (x:ObjOk P w H h a o) (k:∀ b u,(b=a\/H b=some (.own a))->h.get? b=some u->h'.get? b=some u)
  (ho:∀ b,H b=some (.own a)->H' b=some (.own a)) (ht:∀ b xs,H b=some (.tup xs)->H' b=some (.tup xs)):ObjOk P w H' h' a o:=by
 induction o with
 | lst xs=>obtain ⟨z,its,n,r,e⟩:=x; exact ⟨z,its,n,r,k _ _ (.inl rfl) e⟩
 | tup xs=>obtain ⟨z,its,r,ob,e,c⟩:=x; exact ⟨z,its,r,ob,k _ _ (.inl rfl) e,c⟩
 | dK kvs=>obtain ⟨z,y,vs,r,ob,es,ep,e,c⟩:=x; exact ⟨z,y,vs,r,ob,es,ep,k _ _ (.inl rfl) e,c⟩
 | dT kvs=>
  obtain ⟨z,y,xs,r,ob,es,ep,e,c⟩:=x;exact ⟨z,y,xs,Paired.mapP r fun p q z=>⟨z.1,ht _ _ z.2.1,z.2.2⟩,ob,es,ep,k _ _ (.inl rfl) e,c⟩
 | set S n=>obtain ⟨ob,es,ep,t,e,c⟩:=x; exact ⟨ob,es,ep,t,k _ _ (.inl rfl) e,c⟩
 | ins C dx fs=>
  obtain ⟨d,z,ne,e,mA,⟨od,es,ep,e2,c⟩,r⟩:=x;exact ⟨ho _ d,z,ne,k _ _ (.inl rfl) e,mA,⟨od,es,ep,k _ _ (.inr d) e2,c⟩,r⟩
 | own y=>obtain ⟨ob,e⟩:=x; exact ⟨ob,k _ _ (.inl rfl) e⟩
 | xd fs=>obtain ⟨mA,⟨od,es,ep,e,c⟩,r⟩:=x; exact ⟨mA,⟨od,es,ep,k _ _ (.inl rfl) e,c⟩,r⟩
 | rng lo hi=>obtain ⟨t,u,v,e⟩:=x; exact ⟨t,u,v,k _ _ (.inl rfl) e⟩
 | frz ob u ih=>obtain ⟨e,q⟩:=x; exact ⟨k _ _ (.inl rfl) e,ih q⟩
 | tbl ps=>
  have e:h.get? a=some { cls:=.none,data:=.fields ps }:=x;show h'.get? a=some { cls:=.none,data:=.fields ps };exact k a _ (.inl rfl) e
 | met f y=>
  have e:h.get? a=some (PySem.W.methodObj (.ref f) (.ref y)):=x;show h'.get? a=some (PySem.W.methodObj (.ref f) (.ref y));exact k a _ (.inl rfl) e
 | ext φ=>obtain ⟨p,⟨o,e⟩,st⟩:=x; exact ⟨st _ _ p fun o q=>k _ _ (.inl rfl) q,⟨o,k _ _ (.inl rfl) e⟩,st⟩
theorem HOk.lt (x:HOk P w H h) (e:H a=some o):a < h.objs.size:=(x a o e).lt
theorem HOk.fresh (x:HOk P w H h) (e:h.objs.size<=a):H a=none:=by
 cases q:H a with
 | none=>rfl
 | some u=>exact absurd (D3 (x.lt q) e) (Nat.lt_irrefl _)
theorem HOk.kept (x:HOk P w H h) (k:∀ b u,h.get? b=some u->h'.get? b=some u):HOk P w H h':=fun a o e=>
 (x a o e).stay (fun b u _ q=>k b u q) (fun _ q=>q) fun _ _ q=>q
theorem HOk.laid (x:HOk P w H h) (k:∀ b u,h.get? b=some u->h'.get? b=some u) (hp:h.objs.size<=a) (new:ObjOk P w (upd H a o) h' a o):HOk P w (upd H a o) h':=fun b u e=>by
 have hn:=x.fresh hp
 by_cases hb:b=a
 ·subst hb; rw [J8] at e; cases e; exact new
 ·rw [Qh hb] at e;exact (x b u e).stay (fun c v _ q=>k c v q) (fun c q=>by rw [Qh (Qk q hn)]; exact q) fun c xs q=>by rw [Qh (Qk q hn)]; exact q
end
def Rd (H:Hp) (a:Addr) (u:HO):Prop:=H a=some u\/∃ o,H a=some (.frz o u)
theorem Rd.ok {P:Program} {w:World} {H:Hp} {h:Heap} {a:Addr} {u:HO} (r:Rd H a u) (x:HOk P w H h):ObjOk P w H h a u:=by
 rcases r with r | ⟨o,r⟩
 ·exact x a u r
 ·obtain ⟨_,q⟩:=x a _ r;exact q
def Mut:Option HO->Prop
 | some (.lst _)=>True
 | some (.dK _)=>True
 | some (.dT _)=>True
 | some (.set _ _)=>True
 | some (.ins _ _ _)=>True
 | some (.ext _)=>True
 | _=>False
section
variable {P:Program} {w:World} {H:Hp} {h h':Heap} {x e:Addr} {o':HO}
theorem HOk.write (ok:HOk P w H h) (mu:Mut (H x)) (he:e=x\/H e=some (.own x)) (k:∀ b u,b≠e->h.get? b=some u->h'.get? b=some u) (heo:∃ u,h'.get? e=some u)
  (new:ObjOk P w (upd H x o') h' x o'):HOk P w (upd H x o') h':=fun b u q=>by
 have nown:∀ c y,H c=some (.own y)->c≠x:=fun c y r z=>by subst z; rw [r] at mu; exact mu
 have ntup:∀ c xs,H c=some (.tup xs)->c≠x:=fun c xs r z=>by subst z; rw [r] at mu; exact mu
 by_cases hb:b=x
 ·subst hb; rw [J8] at q; cases q; exact new
 ·rw [Qh hb] at q
  by_cases hbe:b=e
  ·have q':H b=some (.own x):=by
    rcases he with z | z
    ·exact absurd (hbe.trans z) hb
    ·rw [hbe]; exact z
   rw [q] at q'; cases q';obtain ⟨v,hv⟩:=heo;exact ⟨v,by rw [hbe]; exact hv⟩
  ·refine (ok b u q).stay (fun c v hc r=>k c v ?_ r) (fun c r=>by rw [Qh (nown c b r)]; exact r) fun c xs r=>by rw [Qh (ntup c xs r)]; exact r
   rcases hc with rfl | hc
   ·exact hbe
   ·rintro rfl;rcases he with z | z
    ·exact nown c b hc z
    ·rw [hc] at z; cases z; exact hb rfl
end
structure Un (fs ex:List Addr) (H H':Hp) (h h':Heap):Prop where
 keep:∀ b o,h.get? b=some o->H b=none->b∉fs->b∉ex->h'.get? b=some o
 slot:∀ b o,h.get? b=some o->H b=none->b∈fs->b∉ex->∃ sl,h'.get? b=some { o with slots:=sl }
 free:∀ b o,h.get? b=some o->H b=none->b∉ex->H' b=none
 there:∀ b o,h.get? b=some o->b∉ex->∃ o',h'.get? b=some o'
 tups:∀ b xs,H b=some (.tup xs)->H' b=some (.tup xs)
 frzs:∀ b o u,H b=some (.frz o u)->H' b=some (.frz o u)
 tbls:∀ b ps,H b=some (.tbl ps)->∃ more,H' b=some (.tbl (ps ++ more))
section
variable {fs fs' ex ex':List Addr} {H H1 H2:Hp} {h h1 h2 h':Heap} {a x e:Addr} {o:HO}
theorem Un.any (u:Un fs ex H H1 h h1) {b:Addr} {ob:Obj} (q:h.get? b=some ob) (n:H b=none) (hx:b∉ex):∃ sl,h1.get? b=some { ob with slots:=sl }:=by
 by_cases hb:b∈fs
 ·exact u.slot b ob q n hb hx
 ·exact ⟨ob.slots,u.keep b ob q n hb hx⟩
theorem Un.kept (k:∀ b u,h.get? b=some u->h'.get? b=some u):Un fs ex H H h h':=
 ⟨fun b ob q _ _ _=>k b ob q,fun b ob q _ _ _=>⟨ob.slots,k b ob q⟩,fun _ _ _ n _=>n,fun b ob q _=>⟨ob,k b ob q⟩,fun _ _ q=>q,fun _ _ _ q=>q,fun _ ps q=>⟨#[],by rw [q]; simp⟩⟩
theorem Un.refl:Un fs ex H H h h:=Un.kept fun _ _ q=>q
theorem Un.laid (k:∀ b u,h.get? b=some u->h'.get? b=some u) (hp:h.objs.size<=a) (hn:H a=none):Un fs ex H (upd H a o) h h' where
 keep:=fun b u q _ _ _=>k b u q
 slot:=fun b u q _ _ _=>⟨u.slots,k b u q⟩
 free:=fun b u q n _=>by rw [Qh (F0 (D3 (O9 q) hp))]; exact n
 there:=fun b u q _=>⟨u,k b u q⟩
 tups:=fun b xs q=>by rw [Qh (Qk q hn)]; exact q
 frzs:=fun b u xs q=>by rw [Qh (Qk q hn)]; exact q
 tbls:=fun b ps q=>⟨#[],by rw [Qh (Qk q hn),q]; simp⟩
theorem Un.write (mu:Mut (H x)) (he:e=x\/H e=some (.own x)) (k:∀ b u,b≠e->h.get? b=some u->h'.get? b=some u) (heo:∃ u,h'.get? e=some u):Un fs ex H (upd H x o) h h':=by
 have hx:∀ b,H b=none->b≠x:=fun b n z=>by subst z; rw [n] at mu; exact mu
 have hb:∀ b,H b=none->b≠e:=fun b n z=>by
  subst z;rcases he with r | r
  ·exact hx b n r
  ·rw [n] at r; cases r
 have hm:∀ b u,H b=some u->¬ Mut (some u)->b≠x:=fun b u q nm z=>by subst z; rw [q] at mu; exact nm mu
 refine ⟨fun b u q n _ _=>k b u (hb b n) q,fun b u q n _ _=>⟨u.slots,k b u (hb b n) q⟩,fun b u q n _=>by rw [Qh (hx b n)]; exact n,fun b u q _=>?_,
  fun b xs q=>by rw [Qh (hm b _ q fun z=>z)]; exact q,fun b u xs q=>by rw [Qh (hm b _ q fun z=>z)]; exact q,fun b ps q=>⟨#[],by rw [Qh (hm b _ q fun z=>z),q]; simp⟩⟩
 by_cases hbe:b=e
 ·subst hbe; exact heo
 ·exact ⟨u,k b u hbe q⟩
end
def trk (h:Heap) (H:Hp):List Addr:=(List.range h.objs.size).filter fun a=>(H a).isSome
def Qbd (h:Heap) (H:Hp):Heap:=PySem.W.hideAll h (trk h H)
theorem Qhg (h:Heap) (H:Hp):(Qbd h H).objs.size=h.objs.size:=PySem.W.hideAll_size _ _
theorem Qk5 {h:Heap} {H:Hp} {b:Addr} {o:Obj} (e:h.get? b=some o) (n:H b=none):(Qbd h H).get? b=some o:=
 PySem.W.hideAll_get _ e fun hm=>by
  have q:(H b).isSome=true:=(List.mem_filter.mp hm).2;rw [n] at q; simp at q
theorem Qp0 {h:Heap} {H:Hp} {b:Addr} {o:Obj} (e:(Qbd h H).get? b=some o):h.get? b=some o/\H b=none:=by
 have e':h.get? b=some o:=PySem.W.of_hideAll (trk h H) e;refine ⟨e',?_⟩;cases q:H b with
 | none=>rfl
 | some x=>
  have hm:b∈trk h H:=List.mem_filter.mpr ⟨E7.mpr (O9 e'),by simp [q]⟩;have z:(Qbd h H).get? b=none:=PySem.W.hideAll_none (trk h H) hm;rw [z] at e; cases e
def Qq8 (g h:Heap) (L:Addr):List (Addr × Obj):=(List.range h.objs.size).filterMap fun a=>if a=L\/(g.get? a).isSome=true then none else (h.get? a).map fun o=>(a,o)
def rest (g h:Heap) (L d:Addr):List (Addr × Obj):=(Qq8 g h L).filter fun p=>decide (p.1≠d)
structure Mod (K:PySem.W.Frag) (mg:Str->Option Value) (base:Heap):Prop where
 kin:K.In base
 glob:base.Ns mainGlobals mg
 blt:∃ mb,base.Ns builtinsNs mb/\∀ x:Str,x≠"__name__" -> mb x=bootBuiltins x
 nolimit:base.NoLimit
structure Cx where
 prog:Program
 w:World
 K:PySem.W.Frag
 mg:Str->Option Value
 base:Heap
 A:Around
 N:List Str
 s₀:Shared
 H₀:Hp
 env:Env
 outer:List Env
 stack:List Env
 ex:List Addr
 fn:Str->Bool
 calm:Bool
 pn:List (Addr × Obj)
 xe:Value->Shared->Prop
def frs (l:List Env):List Addr:=l.filterMap (·.frame)
abbrev Cx.fs (X:Cx):List Addr:=frs X.outer
def Vis (sc:Scope) (x:Str):Prop:=sc.names.lookup x=some .local\/sc.names.lookup x=some .cell\/sc.names.lookup x=some .free
def Loc (sc:Scope) (x:Str):Prop:=sc.names.lookup x=some .local\/sc.names.lookup x=some .cell
def Qwc (env:Env) (h:Heap) (m:Str->Option Value) (x:Str) (u:Value):Prop:=
 (env.kindOf x=some .local/\m x=some u)\/((env.kindOf x=some .cell\/env.kindOf x=some .free)/\∃ c,env.cells.lookup x=some c/\h.IsCell c (some u))
structure Cx.Ok (X:Cx):Prop where
 mod:Mod X.K X.mg X.base
 kind:X.env.scope.kind=.function
 glob:X.env.globals=mainGlobals
 blt:X.env.builtins=builtinsNs
 above:X.s₀.heap.objs.size<=X.env.locals
 inj:∀ x y c,X.env.cells.lookup x=some c->X.env.cells.lookup y=some c->x=y
 has:∀ x,(X.env.kindOf x=some .cell\/X.env.kindOf x=some .free)->∃ c,X.env.cells.lookup x=some c
 cab:∀ x c,X.fn x=true->X.env.cells.lookup x=some c->X.s₀.heap.objs.size<=c
 hd:X.calm=true->X.A.handled=none
 frames:X.A.frames=some X.stack
 stk:X.stack=X.outer\/(X.stack=X.env :: X.outer/\X.env.frame=some X.env.locals)
 exf:∀ b∈X.ex,b≠X.env.locals/\∀ x c,X.env.cells.lookup x=some c->c≠b
 bs:∀ b o,X.base.get? b=some o->X.s₀.heap.get? b=some o/\X.H₀ b=none
 bsz:X.base.objs.size<=X.s₀.heap.objs.size
 noex:∀ b o,X.base.get? b=some o->b∉X.ex
 exfs:∀ b∈X.ex,b∉X.fs
 funs:X.s₀.heap.FunFrames X.base X.outer
 frf:∀ b∈X.fs,X.H₀ b=none
structure Inv (X:Cx) (pins:List (Addr × Obj)) (σ:List (Option V)) (H:Hp) (s:Shared):Prop where
 ok:X.Ok
 os:s.os=X.s₀.os
 bare:AllBare s.gens
 base:Un X.fs X.ex X.H₀ H X.s₀.heap s.heap
 loc:∃ m,s.heap.Ns X.env.locals m/\∀ (i:Nat) (x:Str) (v:V),X.N[i]?=some x->σ[i]?=some (some v)->Vis X.env.scope x->∃ u,RelV v u/\Qwc X.env s.heap m x u
 cell:∀ x c,X.env.cells.lookup x=some c->∃ v,s.heap.IsCell c v
 free:H X.env.locals=none
 freeC:∀ x c,X.env.cells.lookup x=some c->H c=none
 pin:∀ p∈X.pn ++ pins,s.heap.get? p.1=some p.2/\H p.1=none/\p.1≠X.env.locals/\p.1∉X.fs/\∀ v,p.2.data≠.cell v
 hok:HOk X.prog X.w H s.heap
 len:σ.length=X.N.length
section
variable {X:Cx} {pins:List (Addr × Obj)} {σ:List (Option V)} {H H':Hp} {s:Shared} {h':Heap}
theorem Cx.Ok.nofr (ok:X.Ok) {b:Addr} {o:Obj} (e:X.base.get? b=some o):b∉X.fs:=fun hb=>by
 have:=(ok.funs.mem hb).1;rw [e] at this; cases this
theorem Inv.bs (I:Inv X pins σ H s):∀ b o,X.base.get? b=some o->s.heap.get? b=some o/\H b=none:=fun b o e=>
 ⟨I.base.keep b o (I.ok.bs b o e).1 (I.ok.bs b o e).2 (I.ok.nofr e) (I.ok.noex b o e),I.base.free b o (I.ok.bs b o e).1 (I.ok.bs b o e).2 (I.ok.noex b o e)⟩
theorem Inv.bk (I:Inv X pins σ H s):∀ b o,X.base.get? b=some o->s.heap.get? b=some o:=fun b o e=>(I.bs b o e).1
theorem Inv.mod (I:Inv X pins σ H s):Mod X.K X.mg X.base:=I.ok.mod
theorem Inv.kIn (I:Inv X pins σ H s):X.K.In s.heap:=I.ok.mod.kin.keeps I.bk
theorem Inv.lt (I:Inv X pins σ H s):X.env.locals < s.heap.objs.size:=let ⟨_,hn,_⟩:=I.loc; hn.lt
theorem Inv.sz (I:Inv X pins σ H s):X.s₀.heap.objs.size<=s.heap.objs.size:=F1 I.ok.above (E8 I.lt)
theorem Inv.nofs (I:Inv X pins σ H s) {a:Addr} (h:s.heap.objs.size<=a):a∉X.fs:=fun hb=>by
 obtain ⟨_,o,ho,_⟩:=I.ok.funs.mem hb;exact absurd (D3 (O9 ho) (F1 I.sz h)) (Nat.lt_irrefl _)
theorem Inv.cne (I:Inv X pins σ H s):∀ x c,X.env.cells.lookup x=some c->c≠X.env.locals:=fun x c e z=>by
 obtain ⟨v,o,ho,hd⟩:=I.cell x c e;obtain ⟨m,⟨o',es,ep,ho',hd',_⟩,_⟩:=I.loc;rw [z,ho'] at ho; cases ho; rw [hd'] at hd; cases hd
theorem Inv.funs (I:Inv X pins σ H s):s.heap.FunFrames X.base X.outer:=by
 have all:∀ (l:List Env),(∀ b∈frs l,b∈X.fs)->X.s₀.heap.FunFrames X.base l->s.heap.FunFrames X.base l:=by
  intro l
  induction l with
  | nil=>intro _ _; trivial
  | cons env r ih=>
   intro hs hl;obtain ⟨hk,⟨L,o,hf,hn,ho,hd⟩,hr⟩:=hl;have hL:L∈X.fs:=hs L (by unfold frs; rw [List.filterMap_cons,hf]; exact D4);obtain ⟨sl,e⟩:=I.base.slot L o ho (I.ok.frf L hL) hL fun z=>I.ok.exfs L z hL
   exact ⟨hk,⟨L,_,hf,hn,e,hd⟩,ih (fun b hb=>hs b (by unfold frs; rw [List.filterMap_cons,hf]; exact D0 _ hb)) hr⟩
 exact all X.outer (fun _ hb=>hb) I.ok.funs
theorem Inv.stack (I:Inv X pins σ H s):s.heap.FunFrames X.base X.stack:=by
 rcases I.ok.stk with e | ⟨e,hf⟩
 ·rw [e]; exact I.funs
 ·rw [e];obtain ⟨m,hn,_⟩:=I.loc;refine .cons (by rw [I.ok.kind]; decide) hf hn ?_ I.funs;exact Heap.get?_none_of_le (F1 I.ok.bsz I.ok.above)
theorem Inv.stkSub (I:Inv X pins σ H s):∀ b∈frs X.stack,b∈X.env.locals :: X.fs:=fun b hb=>by
 rcases I.ok.stk with e | ⟨e,hf⟩
 ·rw [e] at hb; exact D0 _ hb
 ·rw [e] at hb;unfold frs at hb;rw [List.filterMap_cons,hf] at hb;exact hb
theorem Inv.stkFree (I:Inv X pins σ H s):∀ b∈frs X.stack,H b=none:=fun b hb=>by
 rcases E3.mp (I.stkSub b hb) with e | hb
 ·rw [e]; exact I.free
 ·obtain ⟨_,o,ho,_⟩:=I.ok.funs.mem hb;exact I.base.free b o ho (I.ok.frf b hb) fun z=>I.ok.exfs b z hb
theorem Inv.step {g':Array GenState} {t':Nat} {d':Drawn} {ch:List Addr} (I:Inv X pins σ H s)
  (hch:∀ b∈ch,(b∈X.ex\/X.s₀.heap.objs.size<=b)/\b≠X.env.locals/\(∀ x c,X.env.cells.lookup x=some c->c≠b)/\∀ p∈X.pn ++ pins,p.1≠b)
  (keep:∀ b o,b≠X.env.locals->b∉X.fs->b∉ch->s.heap.get? b=some o->H b=none->h'.get? b=some o)
  (slot:∀ b o,b≠X.env.locals->b∈X.fs->b∉ch->s.heap.get? b=some o->H b=none->∃ sl,h'.get? b=some { o with slots:=sl }) (free:∀ b o,b∉ch->s.heap.get? b=some o->H b=none->H' b=none)
  (there:∀ b o,b∉ch->s.heap.get? b=some o->∃ o',h'.get? b=some o')
  (tups:∀ b xs,H b=some (.tup xs)->H' b=some (.tup xs)) (frzs:∀ b o u,H b=some (.frz o u)->H' b=some (.frz o u)) (tbls:∀ b ps,H b=some (.tbl ps)->∃ more,H' b=some (.tbl (ps ++ more)))
  (ns:∀ m,s.heap.Ns X.env.locals m->h'.Ns X.env.locals m) (hok:HOk X.prog X.w H' h') (hg:AllBare g') :
  Inv X pins σ H' { s with heap:=h',gens:=g',drawn:=d',toks:=t' }:=by
 have neL:∀ b o,X.s₀.heap.get? b=some o->b≠X.env.locals:=fun b o e=>F0 (D3 (O9 e) I.ok.above)
 have neC:∀ b o,X.s₀.heap.get? b=some o->b∉X.ex->b∉ch:=fun b o e hx hb=>by
  rcases (hch b hb).1 with z | z
  ·exact hx z
  ·exact absurd (D3 (O9 e) z) (Nat.lt_irrefl _)
 have cellK:∀ x c,X.env.cells.lookup x=some c->∀ v,s.heap.IsCell c v->h'.IsCell c v:=fun x c e v ⟨o,ho,hd⟩=>by
  have nch:c∉ch:=fun z=>(hch c z).2.2.1 x c e rfl
  by_cases hc:c∈X.fs
  ·obtain ⟨sl,q⟩:=slot c o (I.cne x c e) hc nch ho (I.freeC x c e);exact ⟨_,q,hd⟩
  ·exact ⟨o,keep c o (I.cne x c e) hc nch ho (I.freeC x c e),hd⟩
 refine ⟨I.ok,I.os,hg,⟨fun b o e n hb hx=>?_,fun b o e n hb hx=>?_,fun b o e n hx=>?_,fun b o e hx=>?_,fun b xs e=>tups b xs (I.base.tups b xs e),fun b o xs e=>frzs b o xs (I.base.frzs b o xs e),fun b ps e=>?_⟩,?_,fun x c e=>?_,?_,fun x c e=>?_,fun p hp=>?_,hok,I.len⟩
 ·exact keep b o (neL b o e) hb (neC b o e hx) (I.base.keep b o e n hb hx) (I.base.free b o e n hx)
 ·obtain ⟨sl,e1⟩:=I.base.slot b o e n hb hx;obtain ⟨sl',e2⟩:=slot b _ (neL b o e) hb (neC b o e hx) e1 (I.base.free b o e n hx);exact ⟨sl',e2⟩
 ·obtain ⟨o',e1⟩:=I.base.there b o e hx;exact free b o' (neC b o e hx) e1 (I.base.free b o e n hx)
 ·obtain ⟨o',e1⟩:=I.base.there b o e hx;exact there b o' (neC b o e hx) e1
 ·obtain ⟨m1,e1⟩:=I.base.tbls b ps e;obtain ⟨m2,e2⟩:=tbls b _ e1;exact ⟨m1 ++ m2,by rw [e2,Array.append_assoc]⟩
 ·obtain ⟨m,hn,hl⟩:=I.loc;refine ⟨m,ns m hn,fun i x v e1 e2 e3=>?_⟩;obtain ⟨u,r,l⟩:=hl i x v e1 e2 e3;refine ⟨u,r,?_⟩;rcases l with l | ⟨k,c,e,z⟩
  ·exact .inl l
  ·exact .inr ⟨k,c,e,cellK x c e _ z⟩
 ·obtain ⟨v,z⟩:=I.cell x c e;exact ⟨v,cellK x c e v z⟩
 ·obtain ⟨m,⟨o,_,_,ho,_⟩,_⟩:=I.loc;exact free _ o (fun z=>(hch _ z).2.1 rfl) ho I.free
 ·obtain ⟨v,o,ho,hd⟩:=I.cell x c e;exact free c o (fun z=>(hch c z).2.2.1 x c e rfl) ho (I.freeC x c e)
 ·obtain ⟨e,n,ne,nf,d⟩:=I.pin p hp;have nch:p.1∉ch:=fun z=>(hch p.1 z).2.2.2 p hp rfl
  exact ⟨keep p.1 p.2 ne nf nch e n,free p.1 p.2 nch e n,ne,nf,d⟩
theorem Inv.un {t':Nat} (I:Inv X pins σ H s) (u:Un X.fs [] H H' s.heap h') (hok:HOk X.prog X.w H' h'):Inv X pins σ H' { s with heap:=h',toks:=t' }:=by
 obtain ⟨m,⟨o,es,ep,ho,r⟩,_⟩:=id I.loc;obtain ⟨sl,hL⟩:=u.any ho I.free (by simp);exact I.step (g':=s.gens) (d':=s.drawn) (ch:=[]) (fun _ z=>nomatch z) (fun b o _ hb _ e n=>u.keep b o e n hb (by simp)) (fun b o _ hb _ e n=>u.slot b o e n hb (by simp)) (fun b o _ e n=>u.free b o e n (by simp)) (fun b o _ e=>u.there b o e (by simp)) u.tups u.frzs u.tbls (fun m' hm=>by
  obtain ⟨o',es',ep',ho',r'⟩:=hm;rw [ho] at ho'; cases ho';exact ⟨_,es',ep',hL,r'⟩) hok I.bare
theorem Inv.call {g':Array GenState} {t':Nat} {d':Drawn} {ch:List Addr} (I:Inv X pins σ H s) (u:Un (frs X.stack) ch H H' s.heap h') (hok:HOk X.prog X.w H' h') (hg:AllBare g')
  (hch:∀ b∈ch,(b∈X.ex\/X.s₀.heap.objs.size<=b)/\b≠X.env.locals/\(∀ x c,X.env.cells.lookup x=some c->c≠b)/\∀ p∈X.pn ++ pins,p.1≠b) :
  Inv X pins σ H' { s with heap:=h',gens:=g',drawn:=d',toks:=t' }:=by
 obtain ⟨m,⟨o,es,ep,ho,r⟩,_⟩:=id I.loc;obtain ⟨sl,hL⟩:=u.any ho I.free fun z=>(hch _ z).2.1 rfl
 exact I.step (ch:=ch) hch (fun b o hL hb hc e n=>u.keep b o e n (fun z=>(E3.mp (I.stkSub b z)).elim hL hb) hc) (fun b o _ _ hc e n=>u.any e n hc) (fun b o hc e n=>u.free b o e n hc) (fun b o hc e=>u.there b o e hc) u.tups u.frzs u.tbls (fun m' hm=>by
  obtain ⟨o',es',ep',ho',r'⟩:=hm;rw [ho] at ho'; cases ho';exact ⟨_,es',ep',hL,r'⟩) hok hg
theorem Inv.turned {t':Nat} {it:Addr} (I:Inv X pins σ H s) (k:∀ b o,b≠it->s.heap.get? b=some o->h'.get? b=some o) (hn:H it=none) (hL:it≠X.env.locals)
  (h1:it∈X.ex\/X.s₀.heap.objs.size<=it) (h2:∀ x c,X.env.cells.lookup x=some c->c≠it) (h3:∀ p∈X.pn ++ pins,p.1≠it):Inv X pins σ H { s with heap:=h',toks:=t' }:=by
 have nit:∀ b u,H b=some u->b≠it:=fun b u e z=>by rw [z,hn] at e; cases e
 refine I.step (g':=s.gens) (d':=s.drawn) (ch:=[it]) (fun b hb=>?_) (fun b o _ _ hc e _=>k b o (fun z=>hc (by simp [z])) e) (fun b o _ _ hc e _=>⟨o.slots,k b o (fun z=>hc (by simp [z])) e⟩) (fun _ _ _ _ n=>n)
  (fun b o hc e=>⟨o,k b o (fun z=>hc (by simp [z])) e⟩) (fun _ _ e=>e) (fun _ _ _ e=>e) (fun b ps e=>⟨#[],by rw [e]; simp⟩) (fun m hm=>?_) (fun b u e=>?_) I.bare
 ·have e:b=it:=by simpa using hb
  subst e;exact ⟨h1,hL,h2,h3⟩
 ·obtain ⟨o,es,ep,ho,r⟩:=hm;exact ⟨o,es,ep,k _ o (Ne.symm hL) ho,r⟩
 ·refine (I.hok b u e).stay (fun c v hc q=>k c v ?_ q) (fun _ q=>q) fun _ _ q=>q
  rcases hc with z | z
  ·rw [z]; exact nit b u e
  ·exact nit c _ z
theorem Inv.tok (I:Inv X pins σ H s) (t:Nat):Inv X pins σ H { s with toks:=t }:=I.un (h':=s.heap) (t':=t) Un.refl I.hok
theorem Inv.kept {t':Nat} (I:Inv X pins σ H s) (k:∀ b u,s.heap.get? b=some u->h'.get? b=some u):Inv X pins σ H { s with heap:=h',toks:=t' }:=I.un (Un.kept k) (I.hok.kept k)
theorem Inv.laid {a:Addr} {o:HO} {t':Nat} (I:Inv X pins σ H s) (k:∀ b u,s.heap.get? b=some u->h'.get? b=some u) (hp:s.heap.objs.size<=a) (new:ObjOk X.prog X.w (upd H a o) h' a o) :
  Inv X pins σ (upd H a o) { s with heap:=h',toks:=t' }:=I.un (Un.laid k hp (I.hok.fresh hp)) (I.hok.laid k hp new)
theorem Inv.write {x e:Addr} {o:HO} {t':Nat} (I:Inv X pins σ H s) (mu:Mut (H x)) (he:e=x\/H e=some (.own x)) (k:∀ b u,b≠e->s.heap.get? b=some u->h'.get? b=some u) (heo:∃ u,h'.get? e=some u)
  (new:ObjOk X.prog X.w (upd H x o) h' x o):Inv X pins σ (upd H x o) { s with heap:=h',toks:=t' }:=I.un (Un.write mu he k heo) (I.hok.write mu he k heo new)
theorem Inv.pins_of {pins':List (Addr × Obj)} (I:Inv X pins σ H s) (h:∀ p∈pins',s.heap.get? p.1=some p.2/\H p.1=none/\p.1≠X.env.locals/\p.1∉X.fs/\∀ v,p.2.data≠.cell v):Inv X pins' σ H s:=
 ⟨I.ok,I.os,I.bare,I.base,I.loc,I.cell,I.free,I.freeC,fun p hp=>(E9.mp hp).elim (fun z=>I.pin p (F5 _ z)) (h p),I.hok,I.len⟩
theorem Q7f {N:List Str} (hN:N.Nodup) {i j:Nat} {x:Str} (a:N[i]?=some x) (b:N[j]?=some x):i=j:=by
 obtain ⟨h1,e1⟩:=O1.mp a;obtain ⟨h2,e2⟩:=O1.mp b;exact (List.getElem_inj hN).mp (e1.trans e2.symm)
theorem Q9q {M:Model} {A:Around} {E:Value->Shared->Prop} {i:Nat} {x:Str} {v:V} {u:Value} {Q:Unit->Shared->Prop} (I:Inv X pins σ H s) (hN:X.N.Nodup) (hi:X.N[i]?=some x) (hx:Loc X.env.scope x) (r:RelV v u)
  (h:∀ s',Inv X pins (σ.set i (some v)) H s'->(∃ a,Heap.SameBut a s.heap s'.heap/\(a=X.env.locals\/X.env.cells.lookup x=some a))->Q () s') (hf:X.fn x=true\/X.env.scope.names.lookup x=some .local:=by first | exact .inl rfl | exact .inr rfl | assumption):wpAny M A (storeName X.env x u) Q E s:=by
 obtain ⟨m,hn,hl⟩:=id I.loc;have hcls:(X.env.scope.kind == .class || (X.env.scope.kind == .module && X.env.locals != X.env.globals))=false:=by rw [I.ok.kind]; rfl
 have hiσ:i < σ.length:=by rw [I.len]; exact (O1.mp hi).1
 have cne:=I.cne;have tracked:∀ {a:Addr} {h':Heap},(∃ o,s.heap.get? a=some o/\H a=none)->Heap.SameBut a s.heap h'->HOk X.prog X.w H h':=fun {a h'} ha hs b ob e=>by
  obtain ⟨_,_,hfree⟩:=ha;refine (I.hok b ob e).stay (fun c w' hc q=>(hs.2 c ?_).trans q) (fun _ q=>q) fun _ _ q=>q
  rintro rfl;rcases hc with rfl | hc
  ·rw [hfree] at e; cases e
  ·rw [hfree] at hc; cases hc
 rcases hx with hk | hk
 ·refine wpAny_storeName_local hk hn (fun h' hn' hs=>?_) hcls;obtain ⟨oL,_,_,hoL,_⟩:=id hn;refine h _ ⟨I.ok,I.os,I.bare,⟨fun b o e n hb hx=>?_,fun b o e n hb hx=>?_,I.base.free,fun b o e hx=>?_,I.base.tups,I.base.frzs,I.base.tbls⟩,⟨_,hn',fun j y v' e1 e2 e3=>?_⟩,fun y c e=>?_,I.free,I.freeC,fun p hp=>?_,tracked ⟨oL,hoL,I.free⟩ hs,by simpa using I.len⟩ ⟨_,hs,.inl rfl⟩
  ·exact (hs.2 b (F0 (D3 (O9 e) I.ok.above))).trans (I.base.keep b o e n hb hx)
  ·obtain ⟨sl,e1⟩:=I.base.slot b o e n hb hx;exact ⟨sl,(hs.2 b (F0 (D3 (O9 e) I.ok.above))).trans e1⟩
  ·obtain ⟨o',e1⟩:=I.base.there b o e hx;exact ⟨o',(hs.2 b (F0 (D3 (O9 e) I.ok.above))).trans e1⟩
  ·by_cases hj:j=i
   ·subst hj;rw [hi] at e1; cases e1;rw [E2 hiσ] at e2;cases e2;exact ⟨u,r,.inl ⟨hk,by simp⟩⟩
   ·rw [O5 (Ne.symm hj)] at e2;obtain ⟨u',r',q⟩:=hl j y v' e1 e2 e3;refine ⟨u',r',?_⟩;rcases q with ⟨k,e⟩ | ⟨k,c,e,z⟩
    ·refine .inl ⟨k,?_⟩;have:y≠x:=fun e=>hj (Q7f hN e1 (e ▸ hi))
     simp [this,e]
    ·exact .inr ⟨k,c,e,z.sameBut hs (cne y c e)⟩
  ·obtain ⟨w',z⟩:=I.cell y c e;exact ⟨w',z.sameBut hs (cne y c e)⟩
  ·obtain ⟨e,n,ne,nf,d⟩:=I.pin p hp;exact ⟨(hs.2 p.1 ne).trans e,n,ne,nf,d⟩
 ·have hfn:X.fn x=true:=by
   rcases hf with z | z
   ·exact z
   ·rw [z] at hk; cases hk
  obtain ⟨c,hc⟩:=I.ok.has x (.inl hk);obtain ⟨w',z⟩:=I.cell x c hc;refine wpAny_storeName_cell I.ok.kind hk hc z (fun h' hc' hs=>?_);obtain ⟨oc,hoc,hocd⟩:=id z;refine h { s with heap:=h' } ⟨I.ok,I.os,I.bare,⟨fun b o e n hb hx=>?_,fun b o e n hb hx=>?_,I.base.free,fun b o e hx=>?_,I.base.tups,I.base.frzs,I.base.tbls⟩,⟨m,hn.sameBut hs (Ne.symm (cne x c hc)),fun j y v' e1 e2 e3=>?_⟩,fun y c' e=>?_,I.free,I.freeC,fun p hp=>?_,tracked ⟨oc,hoc,I.freeC x c hc⟩ hs,by simpa using I.len⟩ ⟨c,hs,.inr hc⟩
  ·exact (hs.2 b (F0 (D3 (O9 e) (I.ok.cab x c hfn hc)))).trans (I.base.keep b o e n hb hx)
  ·obtain ⟨sl,e1⟩:=I.base.slot b o e n hb hx;exact ⟨sl,(hs.2 b (F0 (D3 (O9 e) (I.ok.cab x c hfn hc)))).trans e1⟩
  ·obtain ⟨o',e1⟩:=I.base.there b o e hx;exact ⟨o',(hs.2 b (F0 (D3 (O9 e) (I.ok.cab x c hfn hc)))).trans e1⟩
  ·by_cases hj:j=i
   ·subst hj;rw [hi] at e1; cases e1;rw [E2 hiσ] at e2;cases e2;exact ⟨u,r,.inr ⟨.inl hk,c,hc,hc'⟩⟩
   ·rw [O5 (Ne.symm hj)] at e2;obtain ⟨u',r',q⟩:=hl j y v' e1 e2 e3;refine ⟨u',r',?_⟩;rcases q with q | ⟨k,c',e,z'⟩
    ·exact .inl q
    ·refine .inr ⟨k,c',e,z'.sameBut hs ?_⟩;rintro rfl;exact hj (Q7f hN e1 (I.ok.inj _ _ _ e hc ▸ hi))
  ·by_cases hcc:c'=c
   ·subst hcc; exact ⟨_,hc'⟩
   ·obtain ⟨w2,z2⟩:=I.cell y c' e;exact ⟨w2,z2.sameBut hs hcc⟩
  ·obtain ⟨e,n,ne,nf,d⟩:=I.pin p hp;refine ⟨(hs.2 p.1 ?_).trans e,n,ne,nf,d⟩;intro q;rw [q,hoc] at e;have q':oc=p.2:=Option.some.inj e;exact d w' (by rw [<- q']; exact hocd)
theorem Q6j {M:Model} {A:Around} {E:Value->Shared->Prop} {i:Nat} {x:Str} {v:V} {u:Value} {Q:Unit->Shared->Prop} (I:Inv X pins σ H s) (hN:X.N.Nodup) (hi:X.N[i]?=some x) (hx:Loc X.env.scope x) (r:RelV v u)
  (h:∀ s',Inv X pins (σ.set i (some v)) H s'->Q () s') (hf:X.fn x=true\/X.env.scope.names.lookup x=some .local:=by first | exact .inl rfl | exact .inr rfl | assumption):wpAny M A (storeName X.env x u) Q E s:=
 Q9q I hN hi hx r (fun s' I' _=>h s' I') hf
theorem Inv.call' {s':Shared} {ch:List Addr} (I:Inv X pins σ H s) (ho:s'.os=s.os) (u:Un (frs X.stack) ch H H' s.heap s'.heap) (hok:HOk X.prog X.w H' s'.heap) (hg:AllBare s'.gens)
  (hch:∀ b∈ch,(b∈X.ex\/X.s₀.heap.objs.size<=b)/\b≠X.env.locals/\(∀ x c,X.env.cells.lookup x=some c->c≠b)/\∀ p∈X.pn ++ pins,p.1≠b):Inv X pins σ H' s':=by
 obtain ⟨h',g',d',t',o'⟩:=s';have e:o'=s.os:=ho;subst e;exact I.call (g':=g') (t':=t') (d':=d') u hok hg hch
end
abbrev XK:=Value->Option Addr->Hp->Prop
abbrev St:=List (Option V)
abbrev VK:=V->Hp->Prop
abbrev TE:=St->Hp->VK->Prop
abbrev TT:=St->Hp->(Bool->Hp->Prop)->Prop
abbrev TA:=St->Hp->(List V->Hp->Prop)->Prop
structure Ends where
 nx:St->Hp->Prop
 rt:VK
 bk:St->Hp->Prop:=fun _ _=>False
 ct:St->Hp->Prop:=fun _ _=>False
abbrev TS:=Ends->St->Hp->Prop
def EP (X:Cx) (pins:List (Addr × Obj)) (σ:St) (Q:VK) (u:Value) (s':Shared):Prop:=∃ v H',Inv X pins σ H' s'/\RelV v u/\Q v H'
def TP (X:Cx) (pins:List (Addr × Obj)) (σ:St) (Q:Bool->Hp->Prop) (b:Bool) (s':Shared):Prop:=∃ H',Inv X pins σ H' s'/\Q b H'
def AP (X:Cx) (pins:List (Addr × Obj)) (σ:St) (Q:List V->Hp->Prop) (us:List Value) (s':Shared):Prop:=∃ vs H',Inv X pins σ H' s'/\Vals vs us/\Q vs H'
def SP (X:Cx) (pins:List (Addr × Obj)) (D:Ends) (f:Flow) (s':Shared):Prop:=
 match f with
 | .next=>∃ σ' H',Inv X pins σ' H' s'/\D.nx σ' H'
 | .brk=>∃ σ' H',Inv X pins σ' H' s'/\D.bk σ' H'
 | .cont=>∃ σ' H',Inv X pins σ' H' s'/\D.ct σ' H'
 | .ret u=>∃ v σ' H',Inv X pins σ' H' s'/\RelV v u/\D.rt v H'
def PE (X:Cx) (e:Expr) (t:TE):Prop:=
 ∀ (pins:List (Addr × Obj)) (s:Shared) (σ:St) (H:Hp) (Q:VK),Inv X pins σ H s->t σ H Q->wpAny (model X.prog X.w) X.A (eval e X.env) (EP X pins σ Q) X.xe s
def PT (X:Cx) (e:Expr) (t:TT):Prop:=
 ∀ (pins:List (Addr × Obj)) (s:Shared) (σ:St) (H:Hp) (Q:Bool->Hp->Prop),Inv X pins σ H s->t σ H Q->wpAny (model X.prog X.w) X.A (isTrue e X.env (eval e X.env)) (TP X pins σ Q) X.xe s
def PW (X:Cx) (e:Expr) (t:TT):Prop:=
 ∀ (whole:Sem Value) (pins:List (Addr × Obj)) (s:Shared) (σ:St) (H:Hp) (Q:Bool->Hp->Prop),Inv X pins σ H s->t σ H Q->wpAny (model X.prog X.w) X.A (isTrue e X.env whole) (TP X pins σ Q) X.xe s
def PA (X:Cx) (es:List Expr) (t:TA):Prop:=
 ∀ (pos:Pos) (pins:List (Addr × Obj)) (s:Shared) (σ:St) (H:Hp) (Q:List V->Hp->Prop),Inv X pins σ H s->t σ H Q->wpAny (model X.prog X.w) X.A (spliced (backTo pos (starEach es X.env))) (AP X pins σ Q) X.xe s
def PS (X:Cx) (st:Stmt) (t:TS):Prop:=
 ∀ (pins:List (Addr × Obj)) (s:Shared) (σ:St) (H:Hp) (D:Ends),Inv X pins σ H s->t D σ H->wpAny (model X.prog X.w) X.A (exec st X.env) (SP X pins D) X.xe s
def PSs (X:Cx) (st:List Stmt) (t:TS):Prop:=
 ∀ (pins:List (Addr × Obj)) (s:Shared) (σ:St) (H:Hp) (D:Ends),Inv X pins σ H s->t D σ H->wpAny (model X.prog X.w) X.A (execs st X.env) (SP X pins D) X.xe s
theorem thn {α:Type} {t:Sem α} {Q Q':α->Shared->Prop} {M:Model} {A:Around} {E:Value->Shared->Prop} {s:Shared} (h:wpAny M A t Q E s) (hQ:∀ a s,Q a s->Q' a s):wpAny M A t Q' E s:=wpAny_mono h hQ fun _ _ x=>x
section
variable {X:Cx}
def Qr5 (i:Nat):TE:=fun σ H Q=>∃ v,σ[i]?=some (some v)/\Q v H
def tC (v:V):TE:=fun _ H Q=>Q v H
theorem Qj9 {i:Nat} {x:Str} {pos:Pos} (hN:X.N[i]?=some x) (hv:Vis X.env.scope x) (hd:(x == ("__debug__" : Str))=false:=by decide) (hcd:(x == ("__classdict__" : Str))=false:=by decide):PE X (.Name x pos) (Qr5 i):=by
 intro pins s σ H Q I h;obtain ⟨v,e,h⟩:=h;obtain ⟨m,hn,hl⟩:=I.loc;obtain ⟨u,r,l⟩:=hl i x v hN e hv;have fin:EP X pins σ Q u s:=⟨v,H,I,r,h⟩;rcases l with ⟨hk,hm⟩ | ⟨hk,c,hc,hcell⟩
 ·exact wpAny_Name (wpAny_loadName_local I.ok.kind hk hn hm fin) hd
 ·rcases hk with hk | hk
  ·exact wpAny_Name (wpAny_loadName_cell I.ok.kind hk hc hcell fin) hd
  ·exact wpAny_Name (wpAny_loadName_free I.ok.kind hk hc hcell fin hcd) hd
theorem Qry {i j pos}:PE X (.Constant (.int i) j pos) (tC (.int i)):=fun _ _ _ H _ I h=>wpAny_Constant_int ⟨.int i,H,I.tok _,⟨_,rfl⟩,h⟩
theorem Quz {b j pos}:PE X (.Constant (.bool b) j pos) (tC (.bl b)):=fun _ _ _ H _ I h=>Constant_bool ⟨.bl b,H,I,rfl,h⟩
theorem Q0y {x j pos}:PE X (.Constant (.str x) j pos) (tC (.str x)):=fun _ _ _ H _ I h=>Calls.Constant_str ⟨.str x,H,I.tok _,⟨_,rfl⟩,h⟩
def Gl (X:Cx) (x:Str):Prop:=X.env.kindOf x=some .globalImplicit
theorem qj {E:Value->Shared->Prop} {pins:List (Addr × Obj)} {s:Shared} {σ:St} {H:Hp} {x:Str} {u:Value} {pos:Pos} {Q:Value->Shared->Prop} (I:Inv X pins σ H s) (hg:Gl X x) (hm:X.mg x=some u) (h:Q u s)
  (hd:(x == ("__debug__" : Str))=false:=by decide):wpAny (model X.prog X.w) X.A (eval (.Name x pos) X.env) Q E s:=
 Calls.Name_function_global I.ok.kind hg (Calls.loadGlobal_global (by rw [I.ok.glob]; exact I.mod.glob.keeps I.bk) hm h) hd
theorem Q4v {E:Value->Shared->Prop} {pins:List (Addr × Obj)} {s:Shared} {σ:St} {H:Hp} {x:Str} {u:Value} {pos:Pos} {Q:Value->Shared->Prop} (I:Inv X pins σ H s) (hg:Gl X x) (hm:X.mg x=none) (hv:bootBuiltins x=some u) (h:Q u s)
  (hn:x≠"__name__" := by decide) (hd:(x == ("__debug__" : Str))=false:=by decide):wpAny (model X.prog X.w) X.A (eval (.Name x pos) X.env) Q E s:=by
 obtain ⟨mb,h1,h2⟩:=I.mod.blt;exact Calls.Name_function_global I.ok.kind hg (Calls.loadGlobal_builtin (by rw [I.ok.glob]; exact I.mod.glob.keeps I.bk) hm (by rw [I.ok.blt]; exact h1.keeps I.bk) ((h2 x hn).trans hv) h) hd
theorem Qnm {x:Str} {v:V} {u:Value} {pos:Pos} (hg:Gl X x) (hm:X.mg x=some u) (r:RelV v u) (hd:(x == ("__debug__" : Str))=false:=by decide):PE X (.Name x pos) (tC v):=
 fun _ _ _ H _ I h=>qj I hg hm ⟨v,H,I,r,h⟩ hd
theorem Qnq {x:Str} {v:V} {u:Value} {pos:Pos} (hg:Gl X x) (hm:X.mg x=none) (hv:bootBuiltins x=some u) (r:RelV v u) (hn:x≠"__name__" := by decide) (hd:(x == ("__debug__" : Str))=false:=by decide):PE X (.Name x pos) (tC v):=
 fun _ _ _ H _ I h=>Q4v I hg hm hv ⟨v,H,I,r,h⟩ hn hd
variable {a b:Expr} {ta tb:TE} {pos:Pos}
def tB (t:TE):TT:=fun σ H Q=>t σ H fun x H1=>∃ c,x=.bl c/\Q c H1
theorem Qrj {e:Expr} {t:TE} (h:PE X e t) (he:∀ whole,isTrue e X.env whole=(do let v <- whole; standAt e.pos; holding [v] (truthy v)):=by intro _; rfl):PT X e (tB t):=by
 intro pins s σ H Q I hw;refine isTrue_plain (thn (h pins s σ H _ I hw) fun v s1 ⟨x,H1,I1,r1,q1⟩=>?_) (he _)
 obtain ⟨d,rfl,q⟩:=q1;cases r1;exact wpAny_truthy_bool ⟨H1,I1,q⟩
variable {tA tB':TT} {rest:List Expr}
def Qxi (t u:TT):TT:=fun σ H Q=>t σ H fun c H1=>if c=true then u σ H1 Q else Q false H1
def tOr (t u:TT):TT:=fun σ H Q=>t σ H fun c H1=>if c=true then Q true H1 else u σ H1 Q
def Qxd (t:TT):TT:=fun σ H Q=>t σ H fun c H1=>Q (!c) H1
theorem Qn4 (ha:PT X a tA):PW X (.BoolOp .And [a] pos) tA:=by
 intro wh pins s σ H Q I h;refine isTrue_and (thn (ha pins s σ H Q I h) fun c s1 e=>?_)
 cases c with
 | true=>exact isTrue_and_nil e
 | false=>exact e
theorem Qrh (ha:PT X a tA):PW X (.BoolOp .Or [a] pos) tA:=by
 intro wh pins s σ H Q I h;refine isTrue_or (thn (ha pins s σ H Q I h) fun c s1 e=>?_)
 cases c with
 | false=>exact isTrue_or_nil e
 | true=>exact e
theorem Qri (ha:PT X a tA) (hb:PW X (.BoolOp .And (b :: rest) pos) tB'):PW X (.BoolOp .And (a :: b :: rest) pos) (Qxi tA tB'):=by
 intro wh pins s σ H Q I h;refine isTrue_and (thn (ha pins s σ H _ I h) fun c s1 ⟨H1,I1,q1⟩=>?_)
 cases c with
 | true=>exact hb wh pins s1 σ H1 Q I1 q1
 | false=>exact ⟨H1,I1,q1⟩
theorem Qup (ha:PT X a tA) (hb:PW X (.BoolOp .Or (b :: rest) pos) tB'):PW X (.BoolOp .Or (a :: b :: rest) pos) (tOr tA tB'):=by
 intro wh pins s σ H Q I h;refine isTrue_or (thn (ha pins s σ H _ I h) fun c s1 ⟨H1,I1,q1⟩=>?_)
 cases c with
 | true=>exact ⟨H1,I1,q1⟩
 | false=>exact hb wh pins s1 σ H1 Q I1 q1
theorem Qrk (ha:PT X a tA):PT X (.UnaryOp .Not a pos) (Qxd tA):=by
 intro pins s σ H Q I h;exact isTrue_not (ha pins s σ H (fun c H1=>Q (!c) H1) I h)
def Qud (ta tb:TE):TE:=fun σ H Q=>ta σ H fun x H1=>∃ c,x=.bl c/\if c=true then tb σ H1 Q else Q (.bl false) H1
def Qxc (ta tb:TE):TE:=fun σ H Q=>ta σ H fun x H1=>∃ c,x=.bl c/\if c=true then Q (.bl true) H1 else tb σ H1 Q
def Qu5 (ta:TE):TE:=fun σ H Q=>ta σ H fun x H1=>∃ c,x=.bl c/\Q (.bl (!c)) H1
theorem Qrw {op} {t:TE} (h:PE X a t):PE X (.BoolOp op [a] pos) t:=fun pins s σ H Q I hw=>BoolOp_one (h pins s σ H Q I hw)
theorem Qs1 (ha:PE X a ta) (hb:PE X (.BoolOp .And (b :: rest) pos) tb):PE X (.BoolOp .And (a :: b :: rest) pos) (Qud ta tb):=by
 intro pins s σ H Q I h;refine BoolOp_and (thn (ha pins s σ H _ I h) fun v s1 ⟨x,H1,I1,r1,q1⟩=>?_)
 obtain ⟨c,rfl,q1⟩:=q1;cases r1;refine wpAny_truthy_bool ?_;cases c with
 | true=>exact hb pins s1 σ H1 Q I1 q1
 | false=>exact ⟨.bl false,H1,I1,rfl,q1⟩
theorem Quv (ha:PE X a ta) (hb:PE X (.BoolOp .Or (b :: rest) pos) tb):PE X (.BoolOp .Or (a :: b :: rest) pos) (Qxc ta tb):=by
 intro pins s σ H Q I h;refine BoolOp_or (thn (ha pins s σ H _ I h) fun v s1 ⟨x,H1,I1,r1,q1⟩=>?_)
 obtain ⟨c,rfl,q1⟩:=q1;cases r1;refine wpAny_truthy_bool ?_;cases c with
 | false=>exact hb pins s1 σ H1 Q I1 q1
 | true=>exact ⟨.bl true,H1,I1,rfl,q1⟩
theorem Qrx (ha:PE X a ta):PE X (.UnaryOp .Not a pos) (Qu5 ta):=by
 intro pins s σ H Q I h;refine UnaryOp_ (thn (ha pins s σ H _ I h) fun v s1 ⟨x,H1,I1,r1,q1⟩=>?_)
 obtain ⟨c,rfl,q1⟩:=q1;cases r1;exact not_of (wpAny_truthy_bool ⟨.bl (!c),H1,I1,rfl,q1⟩)
end
def SqL (K:PySem.W.Frag) (H:Hp) (a:Addr) (xs:List V):Prop:=
 Rd H a (.lst xs) \/
  ∃ (o:Obj) (its:Array Value) (n:Nat),K.lookup a=some o/\o.cls=.type "list" /\ o.dict=none/\o.data=.seq its n/\its.size<=sizeLine/\Vals xs its.toList
def SqT (K:PySem.W.Frag) (H:Hp) (a:Addr) (xs:List V):Prop:=
 Rd H a (.tup xs) \/
  ∃ (o:Obj) (its:Array Value) (n:Nat),K.lookup a=some o/\o.cls=.type "tuple" /\ o.data=.seq its n/\its.size<=sizeLine/\Vals xs its.toList
def Qy6:Value->Option V
 | .none=>some .non
 | .bool b=>some (.bl b)
 | .int i _=>some (.int i)
 | .str x _=>some (.str x)
 | .bytes b _=>some (.byt b)
 | .float b _=>some (.flt b)
 | .ref a=>some (.ref a)
 | .type n=>some (.ty n)
 | _=>none
theorem RelV.abs {x:V} {u:Value} (r:RelV x u):Qy6 u=some x:=by
 cases x with
 | non=>cases r; rfl
 | bl _=>cases r; rfl
 | int _=>obtain ⟨t,rfl⟩:=r; rfl
 | str _=>obtain ⟨t,rfl⟩:=r; rfl
 | byt _=>obtain ⟨t,rfl⟩:=r; rfl
 | flt _=>obtain ⟨t,rfl⟩:=r; rfl
 | ref _=>cases r; rfl
 | ty _=>cases r; rfl
theorem RelV.inj {x y:V} {u:Value} (r:RelV x u) (q:RelV y u):x=y:=Option.some.inj (r.abs.symm.trans q.abs)
theorem Vals.inj:∀ {xs ys:List V} {us:List Value},Vals xs us->Vals ys us->xs=ys
 | _,_,_,.nil,.nil=>rfl
 | _,_,_,.cons r t,.cons r' t'=>by rw [r.inj r',Vals.inj t t']
section
variable {X:Cx} {pins:List (Addr × Obj)} {σ:St} {H:Hp} {s:Shared} {a:Addr} {xs ys:List V}
theorem SqL.of {K:PySem.W.Frag} (h:H a=some (.lst xs)):SqL K H a xs:=.inl (.inl h)
theorem SqT.of {K:PySem.W.Frag} (h:H a=some (.tup xs)):SqT K H a xs:=.inl (.inl h)
theorem Inv.list (I:Inv X pins σ H s) (h:SqL X.K H a xs):∃ its:List Value,Vals xs its/\PlainL s.heap a its.toArray/\xs.length<=sizeLine:=by
 rcases h with h | ⟨o,its,n,hk,hc,hd,hs,hz,r⟩
 ·obtain ⟨z,its,n,r,e⟩:=h.ok I.hok;exact ⟨its,r,⟨_,n,e,rfl,rfl,rfl⟩,z⟩
 ·refine ⟨its.toList,r,⟨o,n,I.kIn a o hk,hc,hd,by simpa using hs⟩,?_⟩;have e:=r.length;simp only [Array.length_toList] at e;omega
theorem Inv.tuple (I:Inv X pins σ H s) (h:SqT X.K H a xs):∃ its:List Value,Vals xs its/\IsTup s.heap a its.toArray/\xs.length<=sizeLine:=by
 rcases h with h | ⟨o,its,n,hk,hc,hs,hz,r⟩
 ·obtain ⟨z,its,r,p⟩:=h.ok I.hok;exact ⟨its,r,p,z⟩
 ·refine ⟨its.toList,r,⟨o,I.kIn a o hk,hc,n,by simpa using hs⟩,?_⟩;have e:=r.length;simp only [Array.length_toList] at e;omega
theorem Inv.list_inj (I:Inv X pins σ H s) (h:SqL X.K H a xs) (h':SqL X.K H a ys):xs=ys:=by
 obtain ⟨its,r,⟨o,n,e,_,_,d⟩,_⟩:=I.list h;obtain ⟨its',r',⟨o',n',e',_,_,d'⟩,_⟩:=I.list h';rw [e] at e'; cases e';rw [d] at d';injection d' with d1 _
 have:its=its':=by simpa using congrArg Array.toList d1
 subst this;exact r.inj r'
theorem Inv.tuple_inj (I:Inv X pins σ H s) (h:SqT X.K H a xs) (h':SqT X.K H a ys):xs=ys:=by
 obtain ⟨its,r,⟨o,e,_,n,d⟩,_⟩:=I.tuple h;obtain ⟨its',r',⟨o',e',_,n',d'⟩,_⟩:=I.tuple h';rw [e] at e'; cases e';rw [d] at d';injection d' with d1 _
 have:its=its':=by simpa using congrArg Array.toList d1
 subst this;exact r.inj r'
end
abbrev Cx.wish (X:Cx) (E:Value->Shared->Prop):Cx:={ X with xe:=E }
abbrev Cx.nox (X:Cx):Cx:=X.wish fun _ _=>False
theorem Cx.Ok.wish {X:Cx} (ok:X.Ok) (E:Value->Shared->Prop):(X.wish E).Ok:=
 ⟨ok.mod,ok.kind,ok.glob,ok.blt,ok.above,ok.inj,ok.has,ok.cab,ok.hd,ok.frames,ok.stk,ok.exf,ok.bs,ok.bsz,ok.noex,ok.exfs,ok.funs,ok.frf⟩
theorem Cx.Ok.unwish {X:Cx} {E:Value->Shared->Prop} (ok:(X.wish E).Ok):X.Ok:=
 ⟨ok.mod,ok.kind,ok.glob,ok.blt,ok.above,ok.inj,ok.has,ok.cab,ok.hd,ok.frames,ok.stk,ok.exf,ok.bs,ok.bsz,ok.noex,ok.exfs,ok.funs,ok.frf⟩
section
variable {X:Cx} {pins:List (Addr × Obj)} {σ:St} {H:Hp} {s:Shared} {E:Value->Shared->Prop}
theorem Inv.wish (I:Inv X pins σ H s) (E:Value->Shared->Prop):Inv (X.wish E) pins σ H s:=⟨I.ok.wish E,I.os,I.bare,I.base,I.loc,I.cell,I.free,I.freeC,I.pin,I.hok,I.len⟩
theorem Inv.unwish (I:Inv (X.wish E) pins σ H s):Inv X pins σ H s:=⟨I.ok.unwish,I.os,I.bare,I.base,I.loc,I.cell,I.free,I.freeC,I.pin,I.hok,I.len⟩
theorem SP.unwish {D:Ends} {f:Flow} {s':Shared} (h:SP (X.wish E) pins D f s'):SP X pins D f s':=by
 cases f with
 | next=>obtain ⟨σ',H',I,q⟩:=h; exact ⟨σ',H',I.unwish,q⟩
 | brk=>obtain ⟨σ',H',I,q⟩:=h; exact ⟨σ',H',I.unwish,q⟩
 | cont=>obtain ⟨σ',H',I,q⟩:=h; exact ⟨σ',H',I.unwish,q⟩
 | ret u=>obtain ⟨v,σ',H',I,r,q⟩:=h; exact ⟨v,σ',H',I.unwish,r,q⟩
theorem PSs.nox {st:List Stmt} {t:TS} (h:PSs X.nox st t):PSs X st t:=fun pins s σ H D I hw=>
 wpAny_mono (h pins s σ H D (I.wish _) hw) (fun _ _ q=>q.unwish) fun _ _ z=>False.elim z
end
section
variable {X:Cx} {st:Stmt} {rest:List Stmt} {t u:TS} {e:Expr} {te:TE} {pos:Pos}
def Qqc:TS:=fun D σ H=>D.nx σ H
def Qxb (t u:TS):TS:=fun D σ H=>t { D with nx:=u D } σ H
theorem Qn9:PSs X [] Qqc:=fun _ _ σ H _ I h=>wpAny_execs_nil ⟨σ,H,I,h⟩
theorem Qce (h1:PS X st t) (h2:PSs X rest u):PSs X (st :: rest) (Qxb t u):=by
 intro pins s σ H D I h;refine wpAny_execs_cons (thn (h1 pins s σ H { D with nx:=u D } I h) fun f s1 q=>?_)
 cases f with
 | next=>
  obtain ⟨σ',H',I',q⟩:=q;exact h2 pins s1 σ' H' D I' q
 | ret v=>exact q
 | brk=>exact q
 | cont=>exact q
theorem Qb0 (h1:PS X st t):PSs X [st] t:=by
 intro pins s σ H D I h;refine wpAny_execs_cons (thn (h1 pins s σ H D I h) fun f s1 q=>?_)
 cases f with
 | next=>exact wpAny_execs_nil q
 | ret v=>exact q
 | brk=>exact q
 | cont=>exact q
theorem Qnb:PS X (.Pass pos) Qqc:=fun _ _ σ H _ I h=>wpAny_Pass ⟨σ,H,I,h⟩
theorem Inv.quiet {pins:List (Addr × Obj)} {σ:St} {H:Hp} {s:Shared} (I:Inv X pins σ H s):interactive X.env=false:=by simp [interactive,I.ok.kind]
def Qu8 (te:TE):TS:=fun D σ H=>te σ H fun _ H1=>D.nx σ H1
theorem Qf9 (he:PE X e te) (hs:swapsWith e none pos.line X.env=pure false:=by rfl):PS X (.Expr e pos) (Qu8 te):=by
 intro pins s σ H D I h;exact wpAny_Expr_any (thn (he pins s σ H _ I h) fun v s1 ⟨x,H1,I1,r1,q1⟩=>⟨σ,H1,I1,q1⟩) I.quiet hs
def Qu3 (te:TE):TS:=fun D σ H=>te σ H D.rt
theorem Qj2 (he:PE X e te):PS X (.Return (some e) pos) (Qu3 te):=by
 intro pins s σ H D I h;exact wpAny_Return_some (thn (he pins s σ H _ I h) fun v s1 ⟨x,H1,I1,r1,q1⟩=>⟨x,σ,H1,I1,r1,q1⟩)
def Qxf (c:TT) (t u:TS):TS:=fun D σ H=>c σ H fun b H1=>if b=true then t D σ H1 else u D σ H1
theorem Qur {c:Expr} {a b:List Stmt} {tc:TT} (hc:PT X c tc) (ha:PSs X a t) (hb:PSs X b u):PS X (.If c a b pos) (Qxf tc t u):=by
 intro pins s σ H D I h;refine wpAny_If (thn (hc pins s σ H _ I h) fun d s1 ⟨H1,I1,q1⟩=>?_)
 cases d with
 | true=>exact ha pins s1 σ H1 D I1 q1
 | false=>exact hb pins s1 σ H1 D I1 q1
end
abbrev TG:=V->St->Hp->(St->Hp->Prop)->Prop
abbrev TGs:=List V->St->Hp->(St->Hp->Prop)->Prop
def PG (X:Cx) (target:Expr) (t:TG):Prop:=
 ∀ (pins:List (Addr × Obj)) (s:Shared) (σ:St) (H:Hp) (v:V) (u:Value) (Q:St->Hp->Prop),Inv X pins σ H s->RelV v u->t v σ H Q ->
  wpAny (model X.prog X.w) X.A (assign target X.env u) (fun _ s'=>∃ σ' H',Inv X pins σ' H' s'/\Q σ' H') X.xe s
def PGs (X:Cx) (ts:List Expr) (t:TGs):Prop:=
 ∀ (pins:List (Addr × Obj)) (s:Shared) (σ:St) (H:Hp) (vs:List V) (us:List Value) (Q:St->Hp->Prop),Inv X pins σ H s->Vals vs us->t vs σ H Q ->
  wpAny (model X.prog X.w) X.A (assignInOrder ((assignEach ts X.env).map (·.2)) us) (fun _ s'=>∃ σ' H',Inv X pins σ' H' s'/\Q σ' H') X.xe s
abbrev Qtc:=V->V->V->Hp->(Hp->Prop)->Prop
def Qwb (X:Cx) (t:Qtc):Prop:=
 ∀ (pins:List (Addr × Obj)) (s:Shared) (σ:St) (H:Hp) (o i v:V) (ov iv u:Value) (Q:Hp->Prop),Inv X pins σ H s->RelV o ov->RelV i iv->RelV v u->t o i v H Q ->
  wpAny (model X.prog X.w) X.A (setItem ov iv u) (fun _ s'=>∃ H',Inv X pins σ H' s'/\Q H') X.xe s
section
variable {X:Cx} {pos:Pos}
def Qd9 (i:Nat):TG:=fun v σ H Q=>Q (σ.set i (some v)) H
theorem Qnh {i:Nat} {x:Str} (hN:X.N.Nodup) (hi:X.N[i]?=some x) (hx:Loc X.env.scope x) (hf:X.fn x=true\/X.env.scope.names.lookup x=some .local:=by first | exact .inl rfl | exact .inr rfl | assumption):PG X (.Name x pos) (Qd9 i):=by
 intro pins s σ H v u Q I r h;exact wpAny_assign_Name (Q6j I hN hi hx r (fun s' I'=>⟨_,H,I',h⟩) hf)
def Qvu:TGs:=fun vs σ H Q=>vs=[]/\Q σ H
def Qk8 (t:TG) (u:TGs):TGs:=fun vs σ H Q=>∃ v r,vs=v :: r/\t v σ H fun σ' H'=>u r σ' H' Q
theorem Qnf:PGs X [] Qvu:=by
 intro pins s σ H vs us Q I r h;obtain ⟨e,h⟩:=h;subst e;cases r;exact assignInOrder_nil ⟨σ,H,I,h⟩
theorem Qj7 {e:Expr} {es:List Expr} {t:TG} {u:TGs} (h1:PG X e t) (h2:PGs X es u)
  (hs:(assignEach (e :: es) X.env).map (·.2)=assign e X.env :: (assignEach es X.env).map (·.2):=by rfl):PGs X (e :: es) (Qk8 t u):=by
 intro pins s σ H vs us Q I r h;obtain ⟨v,vr,e1,h⟩:=h;subst e1;cases r with
 | cons r rr=>
  rw [hs];refine assignInOrder_cons (thn (h1 pins s σ H _ _ _ I r h) fun _ s1 ⟨σ1,H1,I1,q1⟩=>?_)
  exact h2 pins s1 σ1 H1 _ _ Q I1 rr q1
def Qvt (K:PySem.W.Frag) (n:Nat) (t:TGs):TG:=fun v σ H Q=>∃ a xs,v=.ref a/\SqT K H a xs/\xs.length=n/\t xs σ H Q
theorem Qrt {es:List Expr} {k:Nat} {t:TGs} {n:Nat} (hc:X.calm=true) (h:PGs X es t)
  (hn:(assignEach es X.env).length=n:=by rfl) (hst:(assignEach es X.env).findIdx? (·.1)=none:=by rfl):PG X (.Tuple es k pos) (Qvt X.K n t):=by
 intro pins s σ H v u Q I r hw;obtain ⟨a,xs,e1,hq,hl,hw⟩:=hw;subst e1;cases r;obtain ⟨its,rv,ht,hz⟩:=I.tuple hq;refine assign_Tuple_tuple (I.ok.hd hc) ht (by simp [hn,<- hl,rv.length]) hst fun h' hx=>?_
 have I1:Inv X pins σ H { s with heap:=h' }:=I.kept (t':=s.toks) fun b o e=>hx b o (F0 (O9 e)) e
 exact h pins _ σ H xs _ Q I1 (by simpa using rv) hw
def Qy2 (to ti:TE) (t:Qtc):TG:=fun v σ H Q=>to σ H fun o H1=>ti σ H1 fun i H2=>t o i v H2 fun H3=>Q σ H3
theorem Qru {o i:Expr} {to ti:TE} {t:Qtc} (ho:PE X o to) (hi:PE X i ti) (hs:Qwb X t)
  (ha:∀ v,assign (.Subscript o i pos) X.env v=(do
   let ov <- holding [v] (eval o X.env)
   let iv <- holding [v,ov] (eval i X.env)
   standAt pos
   holding [v,ov,iv] (setItem ov iv v)
   release [v,ov,iv] []):=by intro _; rfl):PG X (.Subscript o i pos) (Qy2 to ti t):=by
 intro pins s σ H v u Q I r h;rw [ha];refine wpAny_bind (wpAny_holding (thn (ho pins s σ H _ I h) fun ov s1 ⟨x,H1,I1,r1,q1⟩=>?_))
 refine wpAny_bind (wpAny_holding (thn (hi pins s1 σ H1 _ I1 q1) fun iv s2 ⟨y,H2,I2,r2,q2⟩=>?_))
 refine wpAny_bind (wpAny_standAt (wpAny_bind (wpAny_holding (thn (hs pins s2 σ H2 x y v ov iv u _ I2 r1 r2 r q2) fun _ s3 ⟨H3,I3,q3⟩=>?_))))
 exact wpAny_release ⟨σ,H3,I3,q3⟩
def Qr8 (te:TE) (g:TG):TS:=fun D σ H=>te σ H fun x H1=>g x σ H1 D.nx
theorem Qj4 {tg e:Expr} {te:TE} {g:TG} (he:PE X e te) (hg:PG X tg g) (hs:swapsWithSole [tg] e pos.line X.env=pure false:=by rfl) (hw:swappedStores [tg] e X.env=pure none:=by rfl)
  (h1:(assignEach [tg] X.env).map (·.2)=[assign tg X.env]:=by rfl):PS X (.Assign [tg] e pos) (Qr8 te g):=by
 intro pins s σ H D I h;refine wpAny_Assign_stores (thn (he pins s σ H _ I h) fun v s1 ⟨x,H1,I1,r1,q1⟩=>?_) hs hw
 rw [h1];exact thn (hg pins s1 σ H1 x v _ I1 r1 q1) fun _ s2 q=>q
theorem Qrm {i:Nat} {x:Str} {e:Expr} {te:TE} {pos':Pos} (hN:X.N.Nodup) (hi:X.N[i]?=some x) (hx:Loc X.env.scope x) (he:PE X e te) (hs:swapsWith e (some (.Name x pos')) pos.line X.env=pure false:=by rfl) (hf:X.fn x=true\/X.env.scope.names.lookup x=some .local:=by first | exact .inl rfl | exact .inr rfl | assumption) :
  PS X (.Assign [.Name x pos'] e pos) (Qr8 te (Qd9 i)):=by
 intro pins s σ H D I h;refine wpAny_Assign_Name (thn (he pins s σ H _ I h) fun v s1 ⟨y,H1,I1,r1,q1⟩=>?_) hs
 exact Q6j I1 hN hi hx r1 (fun s2 I2=>⟨_,H1,I2,q1⟩) hf
end
section
variable {X:Cx} {pos:Pos}
def Qr4 (c:TT) (tb:TS):TS:=fun D σ H=>∃ W:Nat->St->Hp->Prop,(∃ m,W m σ H)/\∀ m σ H,W m σ H ->
 c σ H fun b H1=>if b=true then ∃ N:St->Hp->Prop,(∀ σ' H',N σ' H'->∃ m',m' < m/\W m' σ' H')/\tb { D with nx:=N,ct:=N,bk:=D.nx } σ H1 else D.nx σ H1
theorem Qj0 {c:Expr} {body:List Stmt} {tc:TT} {tb:TS} (hp:PassesOwn (model X.prog X.w) X.A X.env X.xe) (hc:PT X c tc) (hb:PSs X body tb):PS X (.While c body [] pos) (Qr4 tc tb):=by
 intro pins s σ H D I h;obtain ⟨W,⟨m0,w0⟩,turn⟩:=h;refine wpAny_While (codeAny_whileLoop (fun n s'=>∃ σ' H',Inv X pins σ' H' s'/\W n σ' H') ?_ m0 ⟨σ,H,I,w0⟩);rintro n s1 ⟨σ1,H1,I1,w1⟩;refine wpAny_passesOwn hp (thn (hc pins s1 σ1 H1 _ I1 (turn n σ1 H1 w1)) fun b s2 ⟨H2,I2,q2⟩=>?_)
 cases b with
 | true=>
  obtain ⟨N,hN,q2⟩:=q2;rw [if_pos rfl];refine wpAny_passesOwn hp (thn (hb pins s2 σ1 H2 _ I2 q2) fun f s3 q3=>?_)
  cases f with
  | next=>
   obtain ⟨σ3,H3,I3,n3⟩:=q3;obtain ⟨m',hm,w3⟩:=hN σ3 H3 n3;exact ⟨m',hm,σ3,H3,I3,w3⟩
  | cont=>
   obtain ⟨σ3,H3,I3,n3⟩:=q3;obtain ⟨m',hm,w3⟩:=hN σ3 H3 n3;exact ⟨m',hm,σ3,H3,I3,w3⟩
  | brk=>exact q3
  | ret v=>exact q3
 | false=>
  rw [if_neg D7];exact wpAny_execs_nil ⟨σ1,H2,I2,q2⟩
end
structure It where
 go:Nat->Hp->Prop
 yld:Nat->Hp->V->Hp->Prop
 stop:Nat->Hp->Prop
def Q8n (X:Cx) (pins:List (Addr × Obj)) (H:Hp) (b:Addr):Prop:=
 H b=none/\b≠X.env.locals/\b∉X.fs/\(b∈X.ex\/X.s₀.heap.objs.size<=b)/\(∀ x c,X.env.cells.lookup x=some c->c≠b)/\∀ p∈X.pn ++ pins,p.1≠b
theorem Inv.fpOk {X:Cx} {pins:List (Addr × Obj)} {σ:St} {H H':Hp} {s:Shared} {b:Addr} (I:Inv X pins σ H s) (hb:s.heap.objs.size<=b) (hn:H' b=none):Q8n X pins H' b:=by
 refine ⟨hn,Nat.ne_of_gt (D3 I.lt hb),I.nofs hb,.inr (F1 I.sz hb),fun x c e z=>?_,fun p hp z=>?_⟩
 ·obtain ⟨v,q⟩:=I.cell x c e;exact absurd (D3 q.lt (by rw [z]; exact hb)) (Nat.lt_irrefl _)
 ·exact absurd (D3 (O9 (I.pin p hp).1) (by rw [z]; exact hb)) (Nat.lt_irrefl _)
structure Turn (P:Program) (w:World) (K:PySem.W.Frag) (tg:Expr) (J:It) (fp:List Addr) (it:Addr) (tn:Nat->Heap->Prop):Prop where
 mem:it∈fp
 obj:∀ i h,tn i h->∀ b∈fp,∃ o,h.get? b=some o/\∀ v,o.data≠.cell v
 keep:∀ i h h',tn i h->(∀ b∈fp,∀ o,h.get? b=some o->h'.get? b=some o)->tn i h'
 item:∀ (X:Cx),X.prog=P->X.w=w->X.K=K->X.calm=true->∀ (i:Nat) (pins:List (Addr × Obj)) (s:Shared) (σ:St) (H:Hp) (E:Value->Shared->Prop),Inv X pins σ H s->(∀ b∈fp,Q8n X pins H b)->tn i s.heap->J.go i H ->
  wpAny (model P w) X.A (pyNext (.ref it)) (fun r s1=>∃ u,r=some u /\
   wpAny (model P w) X.A (letOwnedTupleGo tg (.ref it) u) (fun _ s2=>∃ x H',Inv X pins σ H' s2/\RelV x u/\J.yld i H x H'/\tn (i + 1) s2.heap/\∀ b∈fp,H' b=none) E s1) E s
 done:∀ (X:Cx),X.prog=P->X.w=w->X.K=K->X.calm=true->∀ (i:Nat) (pins:List (Addr × Obj)) (s:Shared) (σ:St) (H:Hp) (E:Value->Shared->Prop),Inv X pins σ H s->(∀ b∈fp,Q8n X pins H b)->tn i s.heap->J.stop i H ->
  wpAny (model P w) X.A (pyNext (.ref it)) (fun r s1=>r=none/\Inv X pins σ H s1) E s
 self:∀ (A:Around) (i:Nat) (s:Shared) (Q:Value->Shared->Prop) (E:Value->Shared->Prop),tn i s.heap->Q (.ref it) s->wpAny (model P w) A (pyIter (.ref it)) Q E s
abbrev TI:=St->Hp->(It->Hp->Prop)->Prop
def PIE (X:Cx) (pins:List (Addr × Obj)) (σ:St) (tg:Expr) (R:It->Hp->Prop) (itv:Value) (s2:Shared):Prop:=
 ∃ (it:Addr) (fp:List Addr) (tn:Nat->Heap->Prop) (J:It) (H':Hp),itv=.ref it/\Inv X pins σ H' s2/\Turn X.prog X.w X.K tg J fp it tn/\tn 0 s2.heap/\(∀ b∈fp,Q8n X pins H' b)/\R J H'
def PI (X:Cx) (tg iter:Expr) (wi:TI):Prop:=
 ∀ (pins:List (Addr × Obj)) (s:Shared) (σ:St) (H:Hp) (R:It->Hp->Prop),Inv X pins σ H s->wi σ H R ->
  wpAny (model X.prog X.w) X.A (eval iter X.env) (fun v s1=>wpAny (model X.prog X.w) X.A (pyIter v) (PIE X pins σ tg R) X.xe s1) X.xe s
theorem Qk6 {M:Model} {A:Around} {E:Value->Shared->Prop} {s:Shared} {tg:Expr} {it:Addr} {u:Value} {o:Obj} {n:String} {vs:Array Value} {Q:Unit->Shared->Prop} (ho:s.heap.get? it=some o) (hc:o.cls=.type n) (hd:o.data=.fields vs)
  (hn:["enumerate", "zip", "dict_itemiterator", "dict_reverseitemiterator", "odict_iterator", "itertools.zip_longest", "itertools.pairwise"].contains n=false) (hQ:Q () s):wpAny M A (letOwnedTupleGo tg (.ref it) u) Q E s:=by
 unfold letOwnedTupleGo;cases tg <;> first
  | exact wpAny_pure hQ
  | (cases u <;> first
    | exact wpAny_pure hQ
    | (refine wpAny_bind (wpAny_load ho ?_)
       rw [hc,hd];show wpAny M A (if (["enumerate", "zip", "dict_itemiterator", "dict_reverseitemiterator", "odict_iterator", "itertools.zip_longest", "itertools.pairwise"].contains n && vs[0]? == some (rawInt _))=true then _ else _) Q E s;rw [if_neg (by intro h; rw [hn,Bool.false_and] at h; cases h)];exact wpAny_pure hQ))
def Itl (K:PySem.W.Frag) (a:Addr):It:=
 ⟨fun i H=>∃ xs x,SqL K H a xs/\xs[i]?=some x,fun i H x H'=>H'=H/\∀ xs,SqL K H a xs->xs[i]?=some x,fun i H=>∃ xs,SqL K H a xs/\xs.length<=i⟩
def Itt (K:PySem.W.Frag) (a:Addr):It:=
 ⟨fun i H=>∃ xs x,SqT K H a xs/\xs[i]?=some x,fun i H x H'=>H'=H/\∀ xs,SqT K H a xs->xs[i]?=some x,fun i H=>∃ xs,SqT K H a xs/\xs.length<=i⟩
def Itr (lo:Int) (n:Nat):It:=⟨fun i _=>i < n,fun i H x H'=>H'=H/\x=.int (lo + i),fun i _=>n<=i⟩
theorem Qg6 {P:Program} {w:World} {K:PySem.W.Frag} {tg:Expr} (a it:Addr):Turn P w K tg (Itl K a) [it] it (fun i h=>h.IsListIter it a i) where
 mem:=by simp
 obj:=fun i h st b hb=>by
  have e:b=it:=by simpa using hb
  subst e;obtain ⟨o,e,c,d⟩:=st;exact ⟨o,e,fun v z=>by rw [d] at z; cases z⟩
 keep:=fun i h h' st k=>st.at fun o e=>k it (by simp) o e
 item:=by
  intro X hP hw hK hc i pins s σ H E I hf st hg;subst hP hw hK;obtain ⟨xs,x,hq,hx⟩:=hg;obtain ⟨its,rv,p,hz⟩:=I.list hq;obtain ⟨u,hu,ru⟩:=rv.get hx;obtain ⟨f0,f1,f2,f3,f4,f5⟩:=hf it (by simp);refine wpAny_pyNext_list_item st p.isList (x:=u) (by simpa using hu) fun h' st' sb=>?_
  have I1:Inv X pins σ H { s with heap:=h' }:=I.turned (t':=s.toks) (fun b o hb e=>(sb.2 b hb).trans e) f0 f1 f3 f4 f5
  obtain ⟨o,e,c,d⟩:=id st';exact ⟨u,rfl,Qk6 (s:={ s with heap:=h' }) e c d (by decide) ⟨x,H,I1,ru,⟨rfl,fun ys hy=>by rw [I.list_inj hy hq]; exact hx⟩,st',fun b hb=>(hf b hb).1⟩⟩
 done:=by
  intro X hP hw hK hc i pins s σ H E I hf st hg;subst hP hw hK;obtain ⟨xs,hq,hx⟩:=hg;obtain ⟨its,rv,p,hz⟩:=I.list hq;obtain ⟨f0,f1,f2,f3,f4,f5⟩:=hf it (by simp);have hl:=rv.length;exact wpAny_pyNext_list_end (I.ok.hd hc) st p.isList (by simp; omega) fun h' eb=>⟨rfl,I.turned (t':=s.toks) (fun b o hb e=>eb b o hb e) f0 f1 f3 f4 f5⟩
 self:=fun _ _ _ _ _ st h=>wpAny_pyIter_listiter st h
theorem Qdr {P:Program} {w:World} {K:PySem.W.Frag} {tg:Expr} (a it:Addr):Turn P w K tg (Itt K a) [it] it (fun i h=>h.IsTupleIter it a i) where
 mem:=by simp
 obj:=fun i h st b hb=>by
  have e:b=it:=by simpa using hb
  subst e;obtain ⟨o,e,c,d⟩:=st;exact ⟨o,e,fun v z=>by rw [d] at z; cases z⟩
 keep:=fun i h h' st k=>st.at fun o e=>k it (by simp) o e
 item:=by
  intro X hP hw hK hc i pins s σ H E I hf st hg;subst hP hw hK;obtain ⟨xs,x,hq,hx⟩:=hg;obtain ⟨its,rv,p,hz⟩:=I.tuple hq;obtain ⟨u,hu,ru⟩:=rv.get hx;obtain ⟨f0,f1,f2,f3,f4,f5⟩:=hf it (by simp);refine wpAny_pyNext_tuple_item st (show s.heap.IsTuple a its.toArray from p) (x:=u) (by simpa using hu) fun h' st' sb=>?_
  have I1:Inv X pins σ H { s with heap:=h' }:=I.turned (t':=s.toks) (fun b o hb e=>(sb.2 b hb).trans e) f0 f1 f3 f4 f5
  obtain ⟨o,e,c,d⟩:=id st';exact ⟨u,rfl,Qk6 (s:={ s with heap:=h' }) e c d (by decide) ⟨x,H,I1,ru,⟨rfl,fun ys hy=>by rw [I.tuple_inj hy hq]; exact hx⟩,st',fun b hb=>(hf b hb).1⟩⟩
 done:=by
  intro X hP hw hK hc i pins s σ H E I hf st hg;subst hP hw hK;obtain ⟨xs,hq,hx⟩:=hg;obtain ⟨its,rv,p,hz⟩:=I.tuple hq;obtain ⟨f0,f1,f2,f3,f4,f5⟩:=hf it (by simp);have hl:=rv.length;exact wpAny_pyNext_tuple_end (I.ok.hd hc) st (show s.heap.IsTuple a its.toArray from p) (by simp; omega) fun h' eb=>⟨rfl,I.turned (t':=s.toks) (fun b o hb e=>eb b o hb e) f0 f1 f3 f4 f5⟩
 self:=fun _ _ _ _ _ st h=>wpAny_pyIter_tupleiter st h
theorem Qds {P:Program} {w:World} {K:PySem.W.Frag} {tg:Expr} (it:Addr) (lo:Int) (n:Nat):Turn P w K tg (Itr lo n) [it] it (fun i h=>IsRangeIter h it (lo + (i:Nat) * 1) ((n:Int) - (i:Nat)) 1) where
 mem:=by simp
 obj:=fun i h st b hb=>by
  have e:b=it:=by simpa using hb
  subst e;exact ⟨_,st,fun v z=>by
   have z':Data.fields _=Data.cell v:=z;cases z'⟩
 keep:=fun i h h' st k=>k it (by simp) _ st
 item:=by
  intro X hP hw hK hc i pins s σ H E I hf st hg;subst hP hw hK;obtain ⟨f0,f1,f2,f3,f4,f5⟩:=hf it (by simp);have W:=Walks.range (prog:=X.prog) (w:=X.w) (I.ok.hd hc) it lo 1 n;refine W.item i s _ _ hg st fun v h' tk hv st' kk=>?_
  obtain ⟨t,rfl⟩:=hv;have I1:Inv X pins σ H { s with heap:=h',toks:=tk }:=I.turned (fun b o hb e=>kk b o (by simpa using hb) e) f0 f1 f3 f4 f5
  refine ⟨_,rfl,Qk6 (s:={ s with heap:=h',toks:=tk }) (n := "range_iterator") st' rfl rfl (by decide) ⟨.int (lo + i),H,I1,⟨t,?_⟩,⟨rfl,rfl⟩,st',fun b hb=>(hf b hb).1⟩⟩
  rw [Int.mul_one]
 done:=by
  intro X hP hw hK hc i pins s σ H E I hf st hg;subst hP hw hK;obtain ⟨f0,f1,f2,f3,f4,f5⟩:=hf it (by simp);exact wpAny_pyNext_range_end (I.ok.hd hc) st (by have:n<=i:=hg; omega) fun h' eb=>⟨rfl,I.turned (t':=s.toks) (fun b o hb e=>eb b o hb e) f0 f1 f3 f4 f5⟩
 self:=fun _ _ _ _ _ st h=>wpAny_pyIter_rangeiter st h
section
variable {X:Cx} {tg:Expr}
def Qvp (K:PySem.W.Frag) (tl:TE):TI:=fun σ H R=>tl σ H fun x H1=>∃ a,x=.ref a/\(∃ xs,SqL K H1 a xs)/\R (Itl K a) H1
def Qy1 (K:PySem.W.Frag) (tl:TE):TI:=fun σ H R=>tl σ H fun x H1=>∃ a,x=.ref a/\(∃ xs,SqT K H1 a xs)/\R (Itt K a) H1
theorem Qne {l:Expr} {tl:TE} (hl:PE X l tl):PI X tg l (Qvp X.K tl):=by
 intro pins s σ H R I h;refine thn (hl pins s σ H _ I h) fun v s1 ⟨x,H1,I1,r1,q1⟩=>?_
 obtain ⟨a,e,⟨xs,hq⟩,q⟩:=q1;subst e;cases r1;obtain ⟨its,rv,p,hz⟩:=I1.list hq;refine wpAny_pyIter_list p.isList ?_;refine ⟨s1.heap.objs.size,[s1.heap.objs.size],_,_,H1,rfl,I1.kept (t':=s1.toks) fun b o e=>O0 _ e,Qg6 a _,⟨_,D6 _ rfl,rfl,rfl⟩,fun b hb=>?_,q⟩
 have e:b=s1.heap.objs.size:=by simpa using hb
 subst e;exact I1.fpOk (O7 _) (I1.hok.fresh (O7 _))
theorem Qrs {l:Expr} {tl:TE} (hl:PE X l tl):PI X tg l (Qy1 X.K tl):=by
 intro pins s σ H R I h;refine thn (hl pins s σ H _ I h) fun v s1 ⟨x,H1,I1,r1,q1⟩=>?_
 obtain ⟨a,e,⟨xs,hq⟩,q⟩:=q1;subst e;cases r1;obtain ⟨its,rv,p,hz⟩:=I1.tuple hq;refine wpAny_pyIter_tuple (show s1.heap.IsTuple a its.toArray from p) ?_;refine ⟨s1.heap.objs.size,[s1.heap.objs.size],_,_,H1,rfl,I1.kept (t':=s1.toks) fun b o e=>O0 _ e,Qdr a _,⟨_,D6 _ rfl,rfl,rfl⟩,fun b hb=>?_,q⟩
 have e:b=s1.heap.objs.size:=by simpa using hb
 subst e;exact I1.fpOk (O7 _) (I1.hok.fresh (O7 _))
theorem Qcc {pins:List (Addr × Obj)} {σ:St} {H:Hp} {s:Shared} {R:It->Hp->Prop} {E:Value->Shared->Prop} {lo hi:Int} {t u v:Tok} {tk:Nat} (I:Inv X pins σ H s) (h1:-(2 ^ 62)<=lo) (h2:lo < 2 ^ 62) (h3:-(2 ^ 62)<=hi) (h4:hi < 2 ^ 62)
  (q:R (Itr lo (hi - lo).toNat) H):wpAny (model X.prog X.w) X.A (pyIter (.ref s.heap.objs.size)) (PIE X pins σ tg R) E { s with heap:=s.heap.push { cls:=.type "range",data:=.fields #[.int lo t,.int hi u,.int 1 v] },toks:=tk }:=by
 refine wpAny_pyIter_range (IsRange.new ..) (small_one h1 h2 h3 h4) ?_;have I1:Inv X pins σ H { s with heap:=s.heap.push { cls:=.type "range",data:=.fields #[.int lo t,.int hi u,.int 1 v] },toks:=tk }:=I.kept fun b o e=>O0 _ e
 refine ⟨(s.heap.push { cls:=.type "range",data:=.fields #[.int lo t,.int hi u,.int 1 v] }).objs.size,[(s.heap.push { cls:=.type "range",data:=.fields #[.int lo t,.int hi u,.int 1 v] }).objs.size],_,_,H,rfl,
  I1.kept (t':=tk) fun b o e=>O0 _ e,Qds _ lo (hi - lo).toNat,?_,fun b hb=>?_,q⟩
 ·have e1:lo + ((0:Nat):Int) * 1=lo:=by simp
  have e2:(((hi - lo).toNat:Nat):Int) - ((0:Nat):Int)=Builtin.Range.rangeSize lo hi 1:=by rw [rangeSize_one]; split <;> omega
  show IsRangeIter _ _ (lo + ((0:Nat):Int) * 1) ((((hi - lo).toNat:Nat):Int) - ((0:Nat):Int)) 1;rw [e1,e2];exact D6 _ rfl
 ·have e:b=(s.heap.push { cls:=.type "range",data:=.fields #[.int lo t,.int hi u,.int 1 v] }).objs.size:=by simpa using hb
  subst e;exact I1.fpOk (O7 _) (I1.hok.fresh (O7 _))
def Qvn (ta:TA):TI:=fun σ H R=>ta σ H fun vs H1=>∃ j:Int,vs=[.int j]/\-(2 ^ 62)<=j/\j < 2 ^ 62/\R (Itr 0 j.toNat) H1
def Qvm (ta:TA):TI:=fun σ H R=>ta σ H fun vs H1=>∃ i j:Int,vs=[.int i,.int j]/\(-(2 ^ 62)<=i/\i < 2 ^ 62/\-(2 ^ 62)<=j/\j < 2 ^ 62)/\R (Itr i (j - i).toNat) H1
theorem Qgn {a:Expr} {ta:TA} {p pos:Pos} (hg:Gl X "range") (hm:X.mg "range" = none) (ha:PA X [a] ta) (hs:starEach [a] X.env=[(false,eval a X.env)]:=by rfl):PI X tg (.Call (.Name "range" p) [a] [] pos) (Qvn ta):=by
 intro pins s σ H R I h;refine Call_ (Q4v I hg hm boot_range (PyProof.Rows.callWith_type1 (thn (ha pos pins s σ H _ I h) fun us s1 ⟨vs,H1,I1,r1,q1⟩=>?_) hs rfl))
 obtain ⟨j,e,q1,q2,q⟩:=q1;subst e;cases r1 with
 | cons r rr=>
  cases rr;obtain ⟨t,rfl⟩:=r;exact call_range_1 (Qcc I1 (by omega) (by omega) q1 q2 (by simpa using q))
theorem Qgm {a b:Expr} {ta:TA} {p pos:Pos} (hg:Gl X "range") (hm:X.mg "range" = none) (ha:PA X [a,b] ta) (hs:starEach [a,b] X.env=[(false,eval a X.env),(false,eval b X.env)]:=by rfl) (hs2:starEach [b] X.env=[(false,eval b X.env)]:=by rfl) :
  PI X tg (.Call (.Name "range" p) [a,b] [] pos) (Qvm ta):=by
 intro pins s σ H R I h;refine Call_ (Q4v I hg hm boot_range (PyProof.Rows.callWith_type1 (thn (ha pos pins s σ H _ I h) fun us s1 ⟨vs,H1,I1,r1,q1⟩=>?_) (by rw [hs,hs2]) (by rw [hs2]; rfl)))
 obtain ⟨i,j,e,⟨q1,q2,q3,q4⟩,q⟩:=q1;subst e;cases r1 with
 | cons r rr=>
  cases rr with
  | cons r' rr=>
   cases rr;obtain ⟨t,rfl⟩:=r;obtain ⟨t',rfl⟩:=r';exact call_range_2 (Qcc I1 q1 q2 q3 q4 q)
def Qxg (wi:TI) (g:TG) (tb:TS):TS:=fun D σ H=>wi σ H fun J H1=>∃ W:Nat->Nat->St->Hp->Prop,(∃ m,W 0 m σ H1)/\∀ i m σ H,W i m σ H ->
 (J.stop i H/\D.nx σ H)\/(J.go i H/\∃ N:St->Hp->Prop,(∀ σ' H',N σ' H'->∃ m',m' < m/\W (i + 1) m' σ' H')/\∀ x H',J.yld i H x H'->g x σ H' fun σ2 H2=>tb { D with nx:=N,ct:=N,bk:=D.nx } σ2 H2)
def Q71 (fp:List Addr) (h:Heap):List (Addr × Obj):=fp.filterMap fun b=>(h.get? b).map fun o=>(b,o)
theorem Xt {fp:List Addr} {h:Heap} {b:Addr} {o:Obj} (hb:b∈fp) (e:h.get? b=some o):(b,o)∈Q71 fp h:=List.mem_filterMap.mpr ⟨b,hb,by rw [e]; rfl⟩
theorem Qgv {fp:List Addr} {h:Heap} {p:Addr × Obj} (hp:p∈Q71 fp h):p.1∈fp/\h.get? p.1=some p.2:=by
 obtain ⟨b,hb,e⟩:=List.mem_filterMap.mp hp;cases q:h.get? b with
 | none=>rw [q] at e; cases e
 | some o=>
  rw [q] at e;have e':(b,o)=p:=Option.some.inj e;subst e';exact ⟨hb,q⟩
theorem Inv.pinned {pins:List (Addr × Obj)} {σ:St} {H:Hp} {s:Shared} {fp:List Addr} (I:Inv X pins σ H s) (hf:∀ b∈fp,Q8n X pins H b) (ho:∀ b∈fp,∃ o,s.heap.get? b=some o/\∀ v,o.data≠.cell v):Inv X (pins ++ Q71 fp s.heap) σ H s:=
 I.pins_of fun p hp=>(E9.mp hp).elim (fun z=>I.pin p (E4 _ z)) fun z=>by
  obtain ⟨hb,e⟩:=Qgv z;obtain ⟨f0,f1,f2,_⟩:=hf p.1 hb;obtain ⟨o,e',d⟩:=ho p.1 hb;rw [e] at e'; cases e';exact ⟨e,f0,f1,f2,d⟩
theorem Inv.unpinned {pins pl:List (Addr × Obj)} {σ:St} {H:Hp} {s:Shared} (I:Inv X (pins ++ pl) σ H s):Inv X pins σ H s:=I.pins_of fun p hp=>I.pin p (E4 _ (F5 _ hp))
theorem Qrn {iter:Expr} {body:List Stmt} {wi:TI} {g:TG} {tb:TS} {pos:Pos} (hp:PassesOwn (model X.prog X.w) X.A X.env X.xe) (hc:X.calm=true) (hi:PI X tg iter wi) (hg:PG X tg g) (hb:PSs X body tb)
  (hs:∀ x,foldedSetIterable iter X.env x=pure x:=by intro _; rfl):PS X (.For tg iter body [] pos) (Qxg wi g tb):=by
 intro pins s σ H D I h;refine wpAny_For (thn (hi pins s σ H _ I h) fun v s1 h1=>thn h1 fun itv s2 h2=>?_) hs
 obtain ⟨it,fp,tn,J,H2,e,I2,T,st2,f2,W,⟨m0,w0⟩,turn⟩:=h2;subst e;have stat:∀ {H':Hp},(∀ b∈fp,H' b=none)->∀ b∈fp,Q8n X pins H' b:=fun hn b hb=>⟨hn b hb,(f2 b hb).2⟩
 refine codeAny_forLoop_any (fun n s'=>∃ i σ' H',Inv X pins σ' H' s'/\tn i s'.heap/\(∀ b∈fp,H' b=none)/\W i n σ' H') ?_ m0 ⟨0,σ,H2,I2,st2,fun b hb=>(f2 b hb).1,w0⟩
 rintro n s3 ⟨i,σ3,H3,I3,st3,fr3,w3⟩;rcases turn i n σ3 H3 w3 with ⟨stop,qn⟩ | ⟨go,N,hN,step⟩
 ·refine wpAny_passesOwn hp (thn (T.done X rfl rfl rfl hc i pins s3 σ3 H3 X.xe I3 (stat fr3) st3 stop) fun r s4 ⟨hr,I4⟩=>?_)
  subst hr;exact wpAny_execs_nil ⟨σ3,H3,I4,qn⟩
 ·refine wpAny_passesOwn hp (thn (T.item X rfl rfl rfl hc i pins s3 σ3 H3 X.xe I3 (stat fr3) st3 go) fun r s4 ⟨u,hr,h4⟩=>?_)
  subst hr;refine wpAny_passesOwn hp (thn h4 fun _ s5 ⟨x,H5,I5,r5,y5,st5,fr5⟩=>?_);have I5':=I5.pinned (stat fr5) (T.obj _ _ st5);refine wpAny_passesOwn hp (thn (hg _ s5 σ3 H5 x u _ I5' r5 (step x H5 y5)) fun _ s6 ⟨σ6,H6,I6,q6⟩=>?_)
  refine wpAny_passesOwn hp (thn (hb _ s6 σ6 H6 _ I6 q6) fun f s7 q7=>?_)
  have again:∀ {σ7:St} {H7:Hp},Inv X (pins ++ Q71 fp s5.heap) σ7 H7 s7->N σ7 H7->∃ m,m < n/\∃ i σ' H',Inv X pins σ' H' s7/\tn i s7.heap/\(∀ b∈fp,H' b=none)/\W i m σ' H':=fun {σ7 H7} I7 n7=>by
   obtain ⟨m',hm,w7⟩:=hN σ7 H7 n7;refine ⟨m',hm,i + 1,σ7,H7,I7.unpinned,T.keep _ _ _ st5 fun b hb o e=>(I7.pin (b,o) (E4 _ (E4 _ (Xt hb e)))).1,fun b hb=>?_,w7⟩;obtain ⟨o,e,d⟩:=T.obj _ _ st5 b hb;exact (I7.pin (b,o) (E4 _ (E4 _ (Xt hb e)))).2.1
  cases f with
  | next=>obtain ⟨σ7,H7,I7,n7⟩:=q7; exact again I7 n7
  | cont=>obtain ⟨σ7,H7,I7,n7⟩:=q7; exact again I7 n7
  | brk=>obtain ⟨σ7,H7,I7,q7⟩:=q7; exact ⟨σ7,H7,I7.unpinned,q7⟩
  | ret v=>obtain ⟨x7,σ7,H7,I7,r7,q7⟩:=q7; exact ⟨x7,σ7,H7,I7.unpinned,r7,q7⟩
end
abbrev R2:=V->V->Hp->VK->Prop
def OpR (X:Cx) (f:Value->Value->Sem Value) (r:R2):Prop:=
 ∀ (pins:List (Addr × Obj)) (s:Shared) (σ:St) (H:Hp) (x y:V) (v u:Value) (Q:VK),Inv X pins σ H s->RelV x v->RelV y u->r x y H Q ->
  wpAny (model X.prog X.w) X.A (f v u) (EP X pins σ Q) X.xe s
def UnR (X:Cx) (f:Value->Sem Value) (r:V->Hp->VK->Prop):Prop:=
 ∀ (pins:List (Addr × Obj)) (s:Shared) (σ:St) (H:Hp) (x:V) (v:Value) (Q:VK),Inv X pins σ H s->RelV x v->r x H Q ->
  wpAny (model X.prog X.w) X.A (f v) (EP X pins σ Q) X.xe s
def Ke (X:Cx) (f:Value) (r:List V->Hp->VK->Prop):Prop:=
 ∀ (pins:List (Addr × Obj)) (s:Shared) (σ:St) (H:Hp) (xs:List V) (us:List Value) (Q:VK),Inv X pins σ H s->Vals xs us->r xs H Q ->
  wpAny (model X.prog X.w) X.A (call f us) (EP X pins σ Q) X.xe s
def tOp (r:R2) (ta tb:TE):TE:=fun σ H Q=>ta σ H fun x H1=>tb σ H1 fun y H2=>r x y H2 Q
def tUn (r:V->Hp->VK->Prop) (ta:TE):TE:=fun σ H Q=>ta σ H fun x H1=>r x H1 Q
def rI (C:Int->Int->Prop) (g:Int->Int->V):R2:=fun x y H Q=>∃ i j,x=.int i/\y=.int j/\C i j/\Q (g i j) H
def rI0 (g:Int->Int->V):R2:=fun x y H Q=>∃ i j,x=.int i/\y=.int j/\Q (g i j) H
def rU (g:Int->V):V->Hp->VK->Prop:=fun x H Q=>∃ i,x=.int i/\Q (g i) H
section
variable {X:Cx} {a b c:Expr} {ta tb tc:TE} {pos:Pos}
theorem Qt7 (ha:PE X a ta) (hb:PE X b tb) {pins:List (Addr × Obj)} {s:Shared} {σ:St} {H:Hp} {R:V->V->Hp->Prop} (I:Inv X pins σ H s)
  (h:ta σ H fun x H1=>tb σ H1 fun y H2=>R x y H2) {Q:Value->Shared->Prop} {f:Value->Value->Sem Value}
  (hf:∀ v u s2 x y H2,Inv X pins σ H2 s2->RelV x v->RelV y u->R x y H2->wpAny (model X.prog X.w) X.A (f v u) Q X.xe s2) :
  wpAny (model X.prog X.w) X.A (eval a X.env) (fun v s₁=>wpAny (model X.prog X.w) X.A (eval b X.env) (fun u s₂=>wpAny (model X.prog X.w) X.A (f v u) Q X.xe s₂) X.xe s₁) X.xe s:=by
 refine thn (ha pins s σ H _ I h) fun v s1 ⟨x,H1,I1,r1,q1⟩=>?_
 refine thn (hb pins s1 σ H1 _ I1 q1) fun u s2 ⟨y,H2,I2,r2,q2⟩=>?_
 exact hf v u s2 x y H2 I2 r1 r2 q2
theorem Quw {op:Operator} {r:R2} (ho:OpR X (binaryOp op) r) (ha:PE X a ta) (hb:PE X b tb):PE X (.BinOp a op b pos) (tOp r ta tb):=by
 intro pins s σ H Q I h;exact wpAny_BinOp (Qt7 ha hb I h fun v u s2 x y H2 I2 rx ry q=>ho pins s2 σ H2 x y v u Q I2 rx ry q)
theorem Quu {op:UnaryOp} {r:V->Hp->VK->Prop} (ho:UnR X (unaryOp op) r) (ha:PE X a ta):PE X (.UnaryOp op a pos) (tUn r ta):=by
 intro pins s σ H Q I h;exact UnaryOp_ (thn (ha pins s σ H _ I h) fun v s1 ⟨x,H1,I1,r1,q1⟩=>ho pins s1 σ H1 x v Q I1 r1 q1)
theorem opI {f:Value->Value->Sem Value} {C:Int->Int->Prop} {g:Int->Int->Int}
  (rule:∀ (i j:Int) (t u:Tok) (s:Shared) (Q:Value->Shared->Prop) (E:Value->Shared->Prop),C i j->Q (.int (g i j) s.toks) { s with toks:=s.toks + 1 }->wpAny (model X.prog X.w) X.A (f (.int i t) (.int j u)) Q E s) :
  OpR X f (rI C fun i j=>.int (g i j)):=by
 intro pins s σ H x y v u Q I rx ry h;obtain ⟨i,j,rfl,rfl,hc,q⟩:=h;obtain ⟨t,rfl⟩:=rx;obtain ⟨t',rfl⟩:=ry;exact rule i j t t' s _ _ hc ⟨.int (g i j),H,I.tok _,⟨_,rfl⟩,q⟩
theorem Qv6 {f:Value->Value->Sem Value} {g:Int->Int->Int}
  (rule:∀ (i j:Int) (t u:Tok) (s:Shared) (Q:Value->Shared->Prop) (E:Value->Shared->Prop),Q (.int (g i j) s.toks) { s with toks:=s.toks + 1 }->wpAny (model X.prog X.w) X.A (f (.int i t) (.int j u)) Q E s) :
  OpR X f (rI0 fun i j=>.int (g i j)):=by
 intro pins s σ H x y v u Q I rx ry h;obtain ⟨i,j,rfl,rfl,q⟩:=h;obtain ⟨t,rfl⟩:=rx;obtain ⟨t',rfl⟩:=ry;exact rule i j t t' s _ _ ⟨.int (g i j),H,I.tok _,⟨_,rfl⟩,q⟩
theorem Qnx {f:Value->Value->Sem Value} {g:Int->Int->Bool}
  (rule:∀ (i j:Int) (t u:Tok) (s:Shared) (Q:Value->Shared->Prop) (E:Value->Shared->Prop),Q (.bool (g i j)) s->wpAny (model X.prog X.w) X.A (f (.int i t) (.int j u)) Q E s) :
  OpR X f (rI0 fun i j=>.bl (g i j)):=by
 intro pins s σ H x y v u Q I rx ry h;obtain ⟨i,j,rfl,rfl,q⟩:=h;obtain ⟨t,rfl⟩:=rx;obtain ⟨t',rfl⟩:=ry;exact rule i j t t' s _ _ ⟨.bl (g i j),H,I,rfl,q⟩
def Qy9 (i j:Int):Prop:=0 < j/\j < 1073741824
def Qy8 (i j:Int):Prop:=0<=j/\j<=1000000/\i.natAbs < 2 ^ 64
def CMul (i j:Int):Prop:=(-(2 ^ 64) < i/\i < 2 ^ 64)\/(-(2 ^ 64) < j/\j < 2 ^ 64)
theorem CMul.ok {i j:Int} (h:CMul i j):IntMulOk i j:=by
 rcases h with ⟨h1,h2⟩ | ⟨h1,h2⟩
 ·exact .of_left (intBits_le_64 h1 h2)
 ·exact .of_right (intBits_le_64 h1 h2)
theorem Qsc:OpR X (binaryOp .Add) (rI0 fun i j=>.int (i + j)):=Qv6 fun _ _ _ _ _ _ _ q=>add_int q
theorem Qs5:OpR X (binaryOp .Sub) (rI0 fun i j=>.int (i - j)):=Qv6 fun _ _ _ _ _ _ _ q=>sub_int q
theorem Qs8:OpR X (binaryOp .Mult) (rI CMul fun i j=>.int (i * j)):=opI fun _ _ _ _ _ _ _ hc q=>mul_int q hc.ok
theorem Qnv:OpR X (binaryOp .FloorDiv) (rI Qy9 fun i j=>.int (i / j)):=opI fun i j _ _ _ _ _ hc q=>by
 have h1:(0:Int) < j:=hc.1;have h2:j < 1073741824:=hc.2;exact floordiv_int (by omega) (by rw [Int.fdiv_eq_ediv_of_nonneg i (by omega)]; exact q) (.inl (PyProof.noPylong_small (by omega)))
theorem Qs9:OpR X (binaryOp .Mod) (rI (fun _ j=>0 < j) fun i j=>.int (i % j)):=opI fun i j _ _ _ _ _ hc q=>by
 have h1:(0:Int) < j:=hc;exact mod_int' (by omega) (by rw [Int.fmod_eq_emod_of_nonneg i (by omega)]; exact q)
theorem Qs7:OpR X (binaryOp .Pow) (rI Qy8 fun i j=>.int (i ^ j.toNat)):=opI fun _ _ _ _ _ _ _ hc q=>pow_int_small hc.1 hc.2.1 hc.2.2 q
theorem unI {f:Value->Sem Value} {g:Int->Int}
  (rule:∀ (i:Int) (t:Tok) (s:Shared) (Q:Value->Shared->Prop) (E:Value->Shared->Prop),Q (.int (g i) s.toks) { s with toks:=s.toks + 1 }->wpAny (model X.prog X.w) X.A (f (.int i t)) Q E s) :
  UnR X f (rU fun i=>.int (g i)):=by
 intro pins s σ H x v Q I rx h;obtain ⟨i,rfl,q⟩:=h;obtain ⟨t,rfl⟩:=rx;exact rule i t s _ _ ⟨.int (g i),H,I.tok _,⟨_,rfl⟩,q⟩
theorem Qr0:UnR X (unaryOp .USub) (rU fun i=>.int (-i)):=unI fun _ _ _ _ _ q=>neg_int q
end
section
variable {X:Cx} {a b c:Expr} {ta tb tc:TE} {pos:Pos}
theorem Qkb {pins:List (Addr × Obj)} {σ:St} {H:Hp} {s:Shared} {Q:VK} {k k':Bool} (I:Inv X pins σ H s) (q:Q (.bl k) H) (e:k=k'):EP X pins σ Q (.bool k') s:=by
 subst e;exact ⟨.bl k,H,I,rfl,q⟩
theorem Qv2:OpR X (compareOp .Lt) (rI0 fun i j=>.bl (decide (i < j))):=Qnx fun _ _ _ _ _ _ _ q=>lt_int q
theorem Qv3:OpR X (compareOp .LtE) (rI0 fun i j=>.bl (decide (i<=j))):=Qnx fun _ _ _ _ _ _ _ q=>le_int q
theorem Qv4:OpR X (compareOp .Gt) (rI0 fun i j=>.bl (decide (j < i))):=Qnx fun _ _ _ _ _ _ _ q=>gt_int q
theorem Qv5:OpR X (compareOp .GtE) (rI0 fun i j=>.bl (decide (j<=i))):=Qnx fun _ _ _ _ _ _ _ q=>ge_int q
theorem OpR.or {f:Value->Value->Sem Value} {r r':R2} (h:OpR X f r) (h':OpR X f r'):OpR X f (fun x y H Q=>r x y H Q\/r' x y H Q):=by
 intro pins s σ H x y v u Q I rx ry q;rcases q with q | q
 ·exact h pins s σ H x y v u Q I rx ry q
 ·exact h' pins s σ H x y v u Q I rx ry q
theorem Qjq (b:Expr) {op:CmpOp} (h:op≠.In:=by decide) (h2:op≠.NotIn:=by decide):behindInMarks op b=false:=by
 have e1:(op == CmpOp.In)=false:=by cases op <;> first | rfl | exact absurd rfl h
 have e2:(op == CmpOp.NotIn)=false:=by cases op <;> first | rfl | exact absurd rfl h2
 cases b <;> simp [behindInMarks,e1,e2]
theorem Qnn {op:CmpOp} {r:R2} (ho:OpR X (compareOp op) r) (ha:PE X a ta) (hb:PE X b tb) (hm:behindInMarks op b=false):PE X (.Compare a [op] [b] pos) (tOp r ta tb):=by
 intro pins s σ H Q I h;exact wpAny_Compare1 (Qt7 ha hb I h fun v u s2 x y H2 I2 rx ry q=>ho pins s2 σ H2 x y v u Q I2 rx ry q) hm
def Qqb (t:TE):TT:=fun σ H Q=>t σ H fun x H'=>∃ k,x=.bl k/\Q k H'
theorem Qn8 {op:CmpOp} {r:R2} (ho:OpR X (compareOp op) r) (ha:PE X a ta) (hb:PE X b tb) (hm:behindInMarks op b=false):PT X (.Compare a [op] [b] pos) (Qqb (tOp r ta tb)):=by
 intro pins s σ H Q I h;refine wpAny_isTrue_Compare1 (thn (ha pins s σ H _ I h) fun v s1 ⟨x,H1,I1,r1,q1⟩=>thn (hb pins s1 σ H1 _ I1 q1) fun u s2 ⟨y,H2,I2,r2,q2⟩=>
  thn (ho pins s2 σ H2 x y v u _ I2 r1 r2 q2) fun c s3 ⟨z,H3,I3,r3,k,e,q3⟩=>?_) hm
 subst e;cases r3;exact wpAny_truthy_bool ⟨H3,I3,q3⟩
def Qdu (r r':R2) (ta tb tc:TE):TE:=fun σ H Q=>ta σ H fun x H1=>tb σ H1 fun y H2=>r x y H2 fun z H3=>∃ k,z=.bl k /\
 (if k=true then tc σ H3 fun w' H4=>r' y w' H4 Q else Q (.bl false) H3)
theorem Qje {op op':CmpOp} {r r':R2} (ho:OpR X (compareOp op) r) (ho':OpR X (compareOp op') r') (ha:PE X a ta) (hb:PE X b tb) (hc:PE X c tc)
  (hm:lastMarks [op,op'] [b,c]=false:=by with_unfolding_all rfl):PE X (.Compare a [op,op'] [b,c] pos) (Qdu r r' ta tb tc):=by
 intro pins s σ H Q I h;refine Compare_chain (thn (ha pins s σ H _ I h) fun v s1 ⟨x,H1,I1,r1,q1⟩=>chain_link (thn (hb pins s1 σ H1 _ I1 q1) fun u s2 ⟨y,H2,I2,r2,q2⟩=>
  thn (ho pins s2 σ H2 x y v u _ I2 r1 r2 q2) fun d s3 ⟨z,H3,I3,r3,k,e,q3⟩=>?_)) hm
 subst e;cases r3;refine wpAny_truthy_bool ?_;cases k with
 | false=>exact ite_ff ⟨.bl false,H3,I3,rfl,q3⟩
 | true=>exact ite_tt (chain_last (thn (hc pins s3 σ H3 _ I3 q3) fun w' s4 ⟨z',H4,I4,r4,q4⟩=>ho' pins s4 σ H4 y z' u w' Q I4 r2 r4 q4))
theorem Qiz {op op':CmpOp} {r r':R2} (ho:OpR X (compareOp op) r) (ho':OpR X (compareOp op') r') (ha:PE X a ta) (hb:PE X b tb) (hc:PE X c tc)
  (hm:lastMarks [op,op'] [b,c]=false:=by with_unfolding_all rfl):PT X (.Compare a [op,op'] [b,c] pos) (Qqb (Qdu r r' ta tb tc)):=by
 intro pins s σ H Q I h;refine isTrue_chain (thn (ha pins s σ H _ I h) fun v s1 ⟨x,H1,I1,r1,q1⟩=>test_link (thn (hb pins s1 σ H1 _ I1 q1) fun u s2 ⟨y,H2,I2,r2,q2⟩=>
  thn (ho pins s2 σ H2 x y v u _ I2 r1 r2 q2) fun d s3 ⟨z,H3,I3,r3,k,e,q3⟩=>?_)) hm
 subst e;cases r3;refine wpAny_truthy_bool ?_;cases k with
 | false=>
  obtain ⟨k',e',q'⟩:=q3;cases e';exact ite_ff ⟨H3,I3,q'⟩
 | true=>
  refine ite_tt (test_last (thn (hc pins s3 σ H3 _ I3 q3) fun w' s4 ⟨z',H4,I4,r4,q4⟩=>thn (ho' pins s4 σ H4 y z' u w' _ I4 r2 r4 q4) fun d' s5 ⟨z2,H5,I5,r5,k2,e2,q5⟩=>?_))
  subst e2;cases r5;exact wpAny_truthy_bool ⟨H5,I5,q5⟩
theorem Q4u:(sizeLine:Nat) < 2 ^ 63:=by rw [sizeLine_eq]; decide
theorem Qe7:OpR X (binaryOp .Add) (fun x y H Q=>∃ i j,x=.str i/\y=.str j/\i.length + j.length<=sizeLine/\Q (.str (i ++ j)) H):=by
 intro pins s σ H x y v u Q I rx ry h;obtain ⟨i,j,rfl,rfl,hz,q⟩:=h;obtain ⟨t,rfl⟩:=rx;obtain ⟨t',rfl⟩:=ry;exact add_str (fun t' tk=>⟨.str (i ++ j),H,I.tok _,⟨_,rfl⟩,q⟩) hz
theorem Q28 {x:V} {us:List Value} (r:Vals [x] us):∃ u,us=[u]/\RelV x u:=by
 cases r with
 | cons r1 r2=>cases r2; exact ⟨_,rfl,r1⟩
theorem Qib {x y:V} {us:List Value} (r:Vals [x,y] us):∃ u w',us=[u,w']/\RelV x u/\RelV y w':=by
 cases r with
 | cons r1 r2=>
  cases r2 with
  | cons r3 r4=>cases r4; exact ⟨_,_,rfl,r1,r3⟩
theorem Qhs (hc:X.calm=true):Ke X (.builtin "max") (fun xs H Q=>∃ i j,xs=[.int i,.int j]/\Q (.int (if j > i then j else i)) H):=by
 intro pins s σ H xs us Q I r h;obtain ⟨i,j,rfl,q⟩:=h;obtain ⟨u,w',rfl,⟨t,rfl⟩,⟨t',rfl⟩⟩:=Qib r;refine max_two_ints (I.ok.hd hc) fun h' tk k=>⟨_,H,I.kept k,?_,q⟩
 by_cases hj:j > i
 ·rw [if_pos hj,if_pos hj]; exact ⟨_,rfl⟩
 ·rw [if_neg hj,if_neg hj]; exact ⟨_,rfl⟩
theorem Qhq (hc:X.calm=true):Ke X (.builtin "min") (fun xs H Q=>∃ i j,xs=[.int i,.int j]/\Q (.int (if j < i then j else i)) H):=by
 intro pins s σ H xs us Q I r h;obtain ⟨i,j,rfl,q⟩:=h;obtain ⟨u,w',rfl,⟨t,rfl⟩,⟨t',rfl⟩⟩:=Qib r;refine min_two_ints (I.ok.hd hc) fun h' tk k=>⟨_,H,I.kept k,?_,q⟩
 by_cases hj:j < i
 ·rw [if_pos hj,if_pos hj]; exact ⟨_,rfl⟩
 ·rw [if_neg hj,if_neg hj]; exact ⟨_,rfl⟩
end
structure ObjM (h:Heap) (x dx C:Addr) (mA:Str->Option Value):Prop where
 obj:h.get? x=some (PySem.W.instObj C dx)
 ns:h.Ns1 dx mA
 ne:dx≠x
theorem Qa6 {h:Heap} {dx:Addr} {mA:Str->Option Value} (n:h.Ns1 dx mA):∃ od,h.get? dx=some od/\∀ name,PySem.W.lookIn name od=some (mA name):=by
 obtain ⟨o,es,ep,ho,hd,hk,_,hm⟩:=n;refine ⟨o,ho,fun name=>?_⟩;have e:=hm name;unfold nsFind findBy at e;rw [<- Array.find?_toList] at e;unfold PySem.W.lookIn;rw [hd];dsimp only
 split
 ·rename_i y q;rw [q] at e;exact congrArg some e
 ·rename_i q;rw [q] at e;have a:es.toList.any (·.refKey)=false:=by
   rw [List.any_eq_false];intro y hy;obtain ⟨z,t,hkey⟩:=hk y (Array.mem_toList_iff.mp hy);simp [DictEntry.refKey,hkey]
  have a':¬ es.toList.any (·.refKey)=true:=by rw [a]; exact D7
  rw [if_neg a'];exact congrArg some e
theorem ObjM.look {h:Heap} {x dx C:Addr} {mA:Str->Option Value} (I:ObjM h x dx C mA):∃ od,PySem.W.InstAt h x (PySem.W.instObj C dx) C (some od)/\∀ name,PySem.W.lookIn name od=some (mA name):=
 let ⟨od,ho,hl⟩:=Qa6 I.ns
 ⟨od,⟨I.obj,rfl,rfl,ho⟩,hl⟩
section
variable {prog:Program} {w:World} {A:Around} {E:Value->Shared->Prop} {s:Shared} {K:PySem.W.Frag} {x dx C f:Addr} {mA:Str->Option Value} {name:Str} {v:Value}
theorem Qps {expr:Bool} {Q:Value->Shared->Prop} (X:K.In s.heap) (I:ObjM s.heap x dx C mA) (hg:PySem.W.plainGet K C name=true) (hh:PySem.W.hasDictIn K C=true)
  (ha:PySem.W.findIn K (.ref C) name=some none) (hv:mA name=some v) (hv':PySem.W.handedIn v=true) (h:Q v { s with toks:=s.toks + 1 }) :
  wpAny (model prog w) A (getAttr (.ref x) name expr) Q E s:=by
 obtain ⟨od,J,hl⟩:=I.look;exact PySem.W.get_value X J (PySem.W.plainGet_of hg).1 (PySem.W.findObj_own hh ha rfl (by rw [hl,hv])) hv' h
theorem Qk7 {pl:Sem Bool} {Q:Value × List Value->Shared->Prop} (X:K.In s.heap) (I:ObjM s.heap x dx C mA) (hg:PySem.W.plainGet K C name=true)
  (hf:PySem.W.findIn K (.ref C) name=some (some (.ref f))) (ht:PySem.W.isFn K (.ref f)=true) (hv:mA name=none) (h:Q (.ref f,[.ref x]) s) :
  wpAny (model prog w) A (getMethod (.ref x) name pl) Q E s:=by
 obtain ⟨od,J,hl⟩:=I.look;exact PySem.W.method_fn X J (PySem.W.plainGet_of hg).1 (PySem.W.plainGet_of hg).2 hf (beq_iff_eq.mp ht) (by show (PySem.W.lookIn name od).map (·.isSome)=some false; rw [hl,hv]; rfl) h
theorem Qmu {ns:List Str} {Q:Unit->Shared->Prop} (X:K.In s.heap) (I:ObjM s.heap x dx C mA)
  (hs:PySem.W.findIn K (.ref C) "__setattr__" = some (some (.builtin "object.__setattr__"))) (hp:PySem.W.plainOver K C=true) (ht:PySem.W.takerIn K C name=some none) (hh:PySem.W.hasDictIn K C=true)
  (hw:PySem.Within mA ns) (hsz:ns.length<=sizeLine)
  (h:∀ h',ObjM h' x dx C (fun y=>if y=name then some v else mA y)->Heap.SameBut dx s.heap h'->Q () { s with heap:=h',toks:=s.toks + 2 }) :
  wpAny (model prog w) A (setAttr (.ref x) name v) Q E s:=by
 obtain ⟨od,J,hl⟩:=I.look;refine PySem.W.set_plain X J hs (PySem.W.osa_open (s:={ s with toks:=s.toks + 1 }) (r:=none) X J hp ht fun b=>?_)
 obtain ⟨cd,hc,hd'⟩:=PySem.W.any_some hh;have hx:s.heap.get? x=some ⟨.ref C,some dx,.plain,#[]⟩:=I.obj;refine wpAny_bind (wpAny_pure (wpAny_bind (wpAny_bind (wpAny_loadPart hx (wpAny_bind (PySem.W.Looks.here (s:={ s with toks:=s.toks + 1 }) (PySem.W.looks_clsIn X hc) ?_))))));rw [hd'];refine wpAny_pure (a:=some dx) (wpAny_bind (wpAny_pure (wpAny_bind ?_)));refine wpAny_nsSet1 (s:={ s with toks:=s.toks + 1 }) I.ns fun h' hn2 hs2=>?_
 obtain ⟨oD,esD,epD,hoD,hdD,hcD⟩:=hn2.count (PySem.Within.cons name v hw);refine wpAny_bind (wpAny_lookBehind hoD (by rw [hdD]; exact pastItsLine_dict (F1 hcD (by rw [D8]; omega))) ?_);exact wpAny_pure (h _ ⟨(hs2.2 _ (Ne.symm I.ne)).trans I.obj,hn2,I.ne⟩ hs2)
theorem Qjt {R:Result->Shared->Prop} {vs:List Value} {kw:List (Str × Value)} (X:K.In s.heap) (hm:PySem.W.makesIn K C=true)
  (hi:PySem.W.findIn K (.ref C) "__init__" = some (some (.ref f))) (hf:PySem.W.typeIn K (.ref f)=some (.type "function"))
  (h:codeAny (model prog w) (A.under (.builtin "type.__call__" ⟨.ref C :: vs,kw⟩)) (.call (.ref f) ⟨.ref (s.heap.objs.size + 1) :: vs,kw⟩) (PySem.W.InitBack (s.heap.objs.size + 1) R)
   { s with heap:=(s.heap.push PySem.W.emptyDict).push (PySem.W.instObj C s.heap.objs.size) }) :
  codeAny (model prog w) A (.call (.ref C) ⟨vs,kw⟩) R s:=by
 obtain ⟨hh,g,d,t,os⟩:=s;exact PySem.W.make_core (PySem.W.makes_of X hm) (PySem.W.looks_findIn X hi) (fun self=>PySem.W.bind_fn X self hf) (.inl rfl) h
end
def xq (f:Str) (v:V):List (Str × V)->List (Str × V)
 | []=>[(f,v)]
 | (g,x) :: r=>if g=f then (g,v) :: r else (g,x) :: xq f v r
theorem Q5a (f g:Str) (v:V):∀ fs:List (Str × V),(xq f v fs).lookup g=if g=f then some v else fs.lookup g
 | []=>by
  show List.lookup g [(f,v)]=_
  by_cases h:g=f
  ·have hb:(g == f)=true:=beq_iff_eq.mpr h;simp only [List.lookup,hb,if_pos h]
  ·have hb:(g == f)=false:=beq_eq_false_iff_ne.mpr h;simp only [List.lookup,hb,if_neg h]
 | (k,x) :: r=>by
  have ih:=Q5a f g v r;rw [show xq f v ((k,x) :: r)=(if k=f then (k,v) :: r else (k,x) :: xq f v r) from rfl]
  by_cases hk:k=f
  ·rw [if_pos hk]
   by_cases h:g=k
   ·have hb:(g == k)=true:=beq_iff_eq.mpr h;simp only [List.lookup,hb,if_pos (h.trans hk)]
   ·have hb:(g == k)=false:=beq_eq_false_iff_ne.mpr h;simp only [List.lookup,hb,if_neg (fun e:g=f=>h (e.trans hk.symm))]
  ·rw [if_neg hk]
   by_cases h:g=k
   ·have hb:(g == k)=true:=beq_iff_eq.mpr h;simp only [List.lookup,hb,if_neg (fun e:g=f=>hk (h.symm.trans e))]
   ·have hb:(g == k)=false:=beq_eq_false_iff_ne.mpr h;simp only [List.lookup,hb];exact ih
theorem Q4x (f:Str) (v:V):∀ fs:List (Str × V),f∈(xq f v fs).map (·.1)/\∀ g,g∈fs.map (·.1)->g∈(xq f v fs).map (·.1)
 | []=>⟨by simp [xq],fun g h=>by simp at h⟩
 | (k,x) :: r=>by
  obtain ⟨i1,i2⟩:=Q4x f v r;rw [show xq f v ((k,x) :: r)=(if k=f then (k,v) :: r else (k,x) :: xq f v r) from rfl]
  by_cases hk:k=f
  ·rw [if_pos hk];subst hk;exact ⟨by simp,fun g h=>by simpa using h⟩
  ·rw [if_neg hk];refine ⟨?_,fun g h=>?_⟩
   ·rw [F2];exact D0 _ i1
   ·rw [F2] at h ⊢;rcases E3.mp h with e | e
    ·exact E3.mpr (.inl e)
    ·exact D0 _ (i2 g e)
theorem Q5b (f:Str) (v:V):∀ fs:List (Str × V),(xq f v fs).length<=fs.length + 1
 | []=>by simp [xq]
 | (k,x) :: r=>by
  have ih:=Q5b f v r;rw [show xq f v ((k,x) :: r)=(if k=f then (k,v) :: r else (k,x) :: xq f v r) from rfl]
  by_cases hk:k=f
  ·rw [if_pos hk,D8,D8]; omega
  ·rw [if_neg hk,D8,D8]; omega
theorem RelO.some_of {v:V} {o:Option Value} (r:RelO (some v) o):∃ u,o=some u/\RelV v u:=by
 cases o with
 | none=>exact (show False from r).elim
 | some u=>exact ⟨u,rfl,r⟩
theorem RelO.none_of {o:Option Value} (r:RelO none o):o=none:=by
 cases o with
 | none=>rfl
 | some u=>exact (show False from r).elim
theorem Qhh {v:V} {u:Value} (r:RelV v u):PySem.W.handedIn u=true:=by
 cases v with
 | non=>cases (show u=Value.none from r); rfl
 | bl b=>cases (show u=Value.bool b from r); rfl
 | int i=>obtain ⟨t,e⟩:=(show ∃ t,u=Value.int i t from r); cases e; rfl
 | str x=>obtain ⟨t,e⟩:=(show ∃ t,u=Value.str x t from r); cases e; rfl
 | byt b=>obtain ⟨t,e⟩:=(show ∃ t,u=Value.bytes b t from r); cases e; rfl
 | flt b=>obtain ⟨t,e⟩:=(show ∃ t,u=Value.float b t from r); cases e; rfl
 | ref a=>cases (show u=Value.ref a from r); rfl
 | ty n=>cases (show u=Value.type n from r); rfl
section
variable {P:Program} {w:World} {H H':Hp} {h h':Heap} {a C dx:Addr} {fs fs':List (Str × V)}
theorem Q65 (hok:HOk P w H h) (e:H a=some (.ins C dx fs)):∃ mA,ObjM h a dx C mA/\(∀ f,RelO (fs.lookup f) (mA f))/\PySem.Within mA (fs.map (·.1))/\fs.length<=1000/\H dx=some (.own a):=by
 obtain ⟨d,z,ne,ob,mA,n,r,q⟩:=(show ObjOk P w H h a (.ins C dx fs) from hok a _ e);exact ⟨mA,⟨ob,n,ne⟩,r,q,z,d⟩
end
structure Cls (K:PySem.W.Frag) (C:Addr):Prop where
 pg:PySem.W.plainGet K C Str.empty=true
 hd:PySem.W.hasDictIn K C=true
 po:PySem.W.plainOver K C=true
 sa:PySem.W.findIn K (.ref C) "__setattr__" = some (some (.builtin "object.__setattr__"))
theorem Cls.get {K:PySem.W.Frag} {C:Addr} (c:Cls K C) (f:Str):PySem.W.plainGet K C f=true:=c.pg
def NoAttr (K:PySem.W.Frag) (C:Addr) (f:Str):Prop:=PySem.W.findIn K (.ref C) f=some none
theorem NoAttr.taker {K:PySem.W.Frag} {C:Addr} {f:Str} (n:NoAttr K C f):PySem.W.takerIn K C f=some none:=by
 unfold PySem.W.takerIn;rw [show PySem.W.findIn K (.ref C) f=some none from n];rfl
structure Meth (K:PySem.W.Frag) (C:Addr) (m:Str) (f:Addr):Prop where
 at_:PySem.W.findIn K (.ref C) m=some (some (.ref f))
 fn:PySem.W.isFn K (.ref f)=true
 kp:PySem.W.keepIn K (.ref f)=true
section
variable {X:Cx} {pins:List (Addr × Obj)} {σ:St} {H:Hp} {s:Shared} {a C dx:Addr} {fs:List (Str × V)} {f:Str} {v:V} {A:Around} {E:Value->Shared->Prop}
theorem Qeq {b:Bool} {Q:Value->Shared->Prop} (I:Inv X pins σ H s) (e:H a=some (.ins C dx fs)) (c:Cls X.K C) (n:NoAttr X.K C f) (l:fs.lookup f=some v)
  (h:∀ u s',Inv X pins σ H s'->RelV v u->Q u s'):wpAny (model X.prog X.w) A (getAttr (.ref a) f b) Q E s:=by
 obtain ⟨mA,O,r,_,_,_⟩:=Q65 I.hok e;obtain ⟨u,hu,ru⟩:=RelO.some_of (v:=v) (o:=mA f) (by rw [<- l]; exact r f);exact Qps I.kIn O (c.get f) c.hd n hu (Qhh ru) (h u _ (I.tok _) ru)
theorem Q84 {m:Str} {g:Addr} {pl:Sem Bool} {Q:Value × List Value->Shared->Prop} (I:Inv X pins σ H s) (e:H a=some (.ins C dx fs)) (c:Cls X.K C) (k:Meth X.K C m g) (l:fs.lookup m=none)
  (h:Q (.ref g,[.ref a]) s):wpAny (model X.prog X.w) A (getMethod (.ref a) m pl) Q E s:=by
 obtain ⟨mA,O,r,_,_,_⟩:=Q65 I.hok e;have hn:mA m=none:=RelO.none_of (by rw [<- l]; exact r m);exact Qk7 I.kIn O (c.get m) k.at_ k.fn hn h
theorem Qdz {y:V} {u:Value} {Q:Unit->Shared->Prop} (I:Inv X pins σ H s) (e:H a=some (.ins C dx fs)) (c:Cls X.K C) (n:NoAttr X.K C f) (hl:fs.length < 1000) (ry:RelV y u)
  (h:∀ s',Inv X pins σ (upd H a (.ins C dx (xq f y fs))) s'->Q () s'):wpAny (model X.prog X.w) A (setAttr (.ref a) f u) Q E s:=by
 obtain ⟨mA,O,r,wi,_,ho⟩:=Q65 I.hok e;have hz:(fs.map (·.1)).length<=sizeLine:=by rw [O2,sizeLine_eq]; omega
 refine Qmu I.kIn O c.sa c.po n.taker c.hd wi hz fun h' O' sb=>h _ ?_
 have hd:∃ o,h'.get? dx=some o:=let ⟨o,_,_,e',_⟩:=O'.ns; ⟨o,e'⟩;refine I.write (x:=a) (e:=dx) (by rw [e]; exact True.intro) (.inr ho) (fun b q hb z=>(sb.2 b hb).trans z) hd ?_
 refine ⟨by rw [Qh O.ne]; exact ho,?_,O.ne,O'.obj,_,O'.ns,fun g=>?_,fun g hg=>?_⟩
 ·have:=Q5b f y fs; omega
 ·show RelO ((xq f y fs).lookup g) (if g=f then some u else mA g);rw [Q5a]
  by_cases q:g=f
  ·rw [if_pos q,if_pos q]; exact ry
  ·rw [if_neg q,if_neg q]; exact r g
 ·by_cases q:g=f
  ·rw [q]; exact (Q4x f y fs).1
  ·refine (Q4x f y fs).2 g (wi g fun z=>hg ?_);show (if g=f then some u else mA g)=none;rw [if_neg q]; exact z
theorem Inv.made (I:Inv X pins σ H s):Inv X pins σ (upd (upd H s.heap.objs.size (.own (s.heap.objs.size + 1))) (s.heap.objs.size + 1) (.ins C s.heap.objs.size []))
  { s with heap:=(s.heap.push PySem.W.emptyDict).push (PySem.W.instObj C s.heap.objs.size) }:=by
 have e1:(s.heap.push PySem.W.emptyDict).get? s.heap.objs.size=some PySem.W.emptyDict:=D6 s.heap rfl;have e2:((s.heap.push PySem.W.emptyDict).push (PySem.W.instObj C s.heap.objs.size)).get? (s.heap.objs.size + 1)=some (PySem.W.instObj C s.heap.objs.size):=by
  have:=D6 (s.heap.push PySem.W.emptyDict) (o:=PySem.W.instObj C s.heap.objs.size) rfl
  rwa [F4] at this
 have e3:(s.heap.push PySem.W.emptyDict).Ns s.heap.objs.size (fun _=>none):=⟨PySem.W.emptyDict,#[],_,e1,rfl,(fun e he=>absurd he (by simp)),fun _=>rfl⟩;have I1:=I.laid (a:=s.heap.objs.size) (o:=.own (s.heap.objs.size + 1)) (h':=s.heap.push PySem.W.emptyDict) (t':=s.toks) (fun b u q=>O0 _ q) (O7 _) ⟨_,e1⟩;refine I1.laid (a:=s.heap.objs.size + 1) (o:=.ins C s.heap.objs.size []) (t':=s.toks) (fun b u q=>O0 _ q) (Nat.le_of_eq (F4 _ _)) ?_;have ne:s.heap.objs.size≠s.heap.objs.size + 1:=F0 (Nat.lt_succ_self _);refine ⟨by rw [Qh ne,J8],Nat.zero_le _,ne,e2,fun _=>none,(Heap.Ns1.of_empty e3).at fun o q=>O0 _ q,fun _=>True.intro,fun y hy=>absurd rfl hy⟩
theorem Qg1 {prog:Program} {w:World} {env:Env} {e:Expr} {f:Str} {pos:Pos} {s:Shared} {Q:Value->Shared->Prop} (hb:attributeBase e f env (eval e env)=eval e env)
  (h:wpAny (model prog w) A (eval e env) (fun o s₁=>wpAny (model prog w) A (getAttr o f true) Q E s₁) E s):wpAny (model prog w) A (eval (.Attribute e f pos) env) Q E s:=
 Attribute_any_ h (by rw [arm_eval_Attribute,hb])
end
def Qxh (K:PySem.W.Frag) (ta:TE) (f:Str):TE:=fun σ H Q=>ta σ H fun x H1=>∃ a C dx fs v,x=.ref a/\H1 a=some (.ins C dx fs)/\Cls K C/\NoAttr K C f/\fs.lookup f=some v/\Q v H1
def Qxj (K:PySem.W.Frag) (ta tv:TE) (f:Str):TS:=fun D σ H=>tv σ H fun y H1=>ta σ H1 fun x H2=>∃ a C dx fs,x=.ref a/\H2 a=some (.ins C dx fs)/\Cls K C/\NoAttr K C f/\fs.length < 1000 /\
 D.nx σ (upd H2 a (.ins C dx (xq f y fs)))
section
variable {X:Cx} {o e value:Expr} {f:Str} {pos pos' tpos:Pos} {ta tv:TE}
theorem Qrz (he:PE X e ta) (hb:attributeBase e f X.env (eval e X.env)=eval e X.env):PE X (.Attribute e f pos) (Qxh X.K ta f):=by
 intro pins s σ H Q I h;refine Qg1 hb (thn (he pins s σ H _ I h) fun u s1 ⟨x,H1,I1,rx,a,C,dx,fs,v,ex,ea,c,n,l,q⟩=>?_)
 subst ex;obtain rfl:u=Value.ref a:=rx;exact Qeq I1 ea c n l fun u' s2 I2 ru=>⟨v,H1,I2,ru,q⟩
theorem Qrp (ha:PE X o ta) (hv:PE X value tv) (hs:swapsWith value (some (.Attribute o f pos')) pos.line X.env=pure false):PS X (.Assign [.Attribute o f pos'] value pos) (Qxj X.K ta tv f):=by
 intro pins s σ H D I h;refine plainObj_wpAny_Assign_Attribute (thn (hv pins s σ H _ I h) fun u s1 ⟨y,H1,I1,ry,q⟩=>thn (ha pins s1 σ H1 _ I1 q) fun ov s2 ⟨x,H2,I2,rx,a,C,dx,fs,ex,ea,c,n,l,q2⟩=>?_) hs
 subst ex;obtain rfl:ov=Value.ref a:=rx;exact Qdz I2 ea c n l ry fun s3 I3=>⟨σ,_,I3,q2⟩
end
section
variable {X:Cx} {pins:List (Addr × Obj)} {σ:St} {H:Hp} {s:Shared} {A:Around} {E:Value->Shared->Prop} {Q:Value->Shared->Prop} {c:Value} {b:Bool}
inductive TyOf (K:PySem.W.Frag) (H:Hp):V->Value->Prop where
 | non:TyOf K H .non (.type "NoneType")
 | bl (x:Bool):TyOf K H (.bl x) (.type "bool")
 | int (i:Int):TyOf K H (.int i) (.type "int")
 | str (x:Str):TyOf K H (.str x) (.type "str")
 | flt (x:UInt64):TyOf K H (.flt x) (.type "float")
 | lst {a:Addr} {xs:List V} (e:H a=some (.lst xs)):TyOf K H (.ref a) (.type "list")
 | frz {a:Addr} {o:Obj} {xs:List V} (e:H a=some (.frz o (.lst xs))):TyOf K H (.ref a) (.type "list")
 | tup {a:Addr} {xs:List V} (e:H a=some (.tup xs)):TyOf K H (.ref a) (.type "tuple")
 | dK {a:Addr} {kvs:List (Key × V)} (e:H a=some (.dK kvs)):TyOf K H (.ref a) (.type "dict")
 | dT {a:Addr} {kvs:List (List Key × V)} (e:H a=some (.dT kvs)):TyOf K H (.ref a) (.type "dict")
 | ins {a C dx:Addr} {fs:List (Str × V)} (e:H a=some (.ins C dx fs)) (cl:Cls K C) (ha:PySem.W.findIn K (.ref C) "__class__" = some (some (.builtin "object.__class__")))
   (hn:PySem.W.specialIn K (.builtin "object.__class__") "__get__" = some (some (.builtin "getset_descriptor.__get__"))) (htk:PySem.W.takesIn K (.builtin "object.__class__")=some true)
   (hm:PySem.W.mroIn K C (.type "object")=some true):TyOf K H (.ref a) (.ref C)
theorem Qhc {x:V} {u t:Value} (I:Inv X pins σ H s) (rx:RelV x u) (ty:TyOf X.K H x t) (e:PySem.W.kitOne X.K t c=some b) (h:∀ tk,Q (.bool b) { s with toks:=tk }) :
  wpAny (model X.prog X.w) A (call (.builtin "isinstance") [u,c]) Q E s:=by
 cases ty with
 | non=>cases (show u=Value.none from rx); exact PySem.W.kia_one PySem.W.kitx_none I.kIn True.intro e (fun z=>nomatch z) h
 | bl y=>cases (show u=Value.bool y from rx); exact PySem.W.kia_one PySem.W.kitx_bool I.kIn True.intro e (fun z=>nomatch z) h
 | int i=>obtain ⟨t,q⟩:=(show ∃ t,u=Value.int i t from rx); cases q; exact PySem.W.kia_one PySem.W.kitx_int I.kIn True.intro e (fun z=>nomatch z) h
 | str y=>obtain ⟨t,q⟩:=(show ∃ t,u=Value.str y t from rx); cases q; exact PySem.W.kia_one PySem.W.kitx_str I.kIn True.intro e (fun z=>nomatch z) h
 | flt y=>obtain ⟨t,q⟩:=(show ∃ t,u=Value.float y t from rx); cases q; exact PySem.W.kia_one PySem.W.kitx_float I.kIn True.intro e (fun z=>nomatch z) h
 | @lst a xs ea=>
  cases (show u=Value.ref a from rx);obtain ⟨_,_,n,_,h1⟩:=(show ObjOk X.prog X.w H s.heap a (.lst xs) from I.hok a _ ea);exact PySem.W.kia_one PySem.W.kitx_list I.kIn ⟨_,h1,rfl⟩ e (fun z=>nomatch z) h
 | @frz a ob xs ea=>
  cases (show u=Value.ref a from rx);obtain ⟨_,_,_,n,_,h1⟩:=(show ObjOk X.prog X.w H s.heap a (.frz ob (.lst xs)) from I.hok a _ ea);exact PySem.W.kia_one PySem.W.kitx_list I.kIn ⟨_,h1,rfl⟩ e (fun z=>nomatch z) h
 | @tup a xs ea=>
  cases (show u=Value.ref a from rx);obtain ⟨_,_,_,p⟩:=(show ObjOk X.prog X.w H s.heap a (.tup xs) from I.hok a _ ea);obtain ⟨o,h1,h2,_⟩:=p;exact PySem.W.kia_one PySem.W.kitx_tuple I.kIn ⟨o,h1,h2⟩ e (fun z=>nomatch z) h
 | @dK a kvs ea=>
  cases (show u=Value.ref a from rx);obtain ⟨_,_,vs,_,p⟩:=(show ObjOk X.prog X.w H s.heap a (.dK kvs) from I.hok a _ ea);obtain ⟨o,es,ep,h1,h2,_⟩:=p;exact PySem.W.kia_one PySem.W.kitx_dict I.kIn ⟨o,h1,h2.1⟩ e (fun z=>nomatch z) h
 | @dT a kvs ea=>
  cases (show u=Value.ref a from rx);obtain ⟨_,_,xs,_,o,es,ep,h1,h2,_⟩:=(show ObjOk X.prog X.w H s.heap a (.dT kvs) from I.hok a _ ea);exact PySem.W.kia_one PySem.W.kitx_dict I.kIn ⟨o,h1,h2.1⟩ e (fun z=>nomatch z) h
 | @ins a C dx fs ea cl ha hn htk hm=>
  cases (show u=Value.ref a from rx);obtain ⟨mA,O,_⟩:=Q65 I.hok ea;obtain ⟨od,J,_⟩:=O.look;exact PySem.W.kia_one (PySem.W.kitx_own (cl.get _) cl.hd ha hn htk hm) I.kIn J e (fun z=>nomatch z) h
end
structure Room (k:Nat) (A:Around):Prop where
 hd:A.handled=none
 dp:A.depth + 3 * k + 5 < recursionLimit
 un:A.units + 16 * k + 200 < cLine
theorem Room.mono {j k:Nat} {A:Around} (r:Room k A) (h:j<=k):Room j A:=⟨r.hd,by have:=r.dp; omega,by have:=r.un; omega⟩
theorem Room.deeper {k:Nat} {A:Around} (r:Room (k + 1) A) (env:Env):Room k (A.deeper env):=
 ⟨r.hd,by have:=r.dp; show A.depth + 1 + 3 * k + 5 < _; omega,by have:=r.un; show A.units + 3 + 16 * k + 200 < _; omega⟩
theorem Qeg {A:Around} {C:Addr} {us:List Value} {kw:List (Str × Value)}:(A.under (.builtin "type.__call__" ⟨.ref C :: us,kw⟩)).depth=A.depth + 1:=by
 first | rfl | simp [Around.under,Code.weight,Code.isCreation,Code.isGuard,Code.isCaller,Code.frames,Code.isFrame,guardIds]
theorem Qef {A:Around} {C:Addr} {us:List Value} {kw:List (Str × Value)}:(A.under (.builtin "type.__call__" ⟨.ref C :: us,kw⟩)).units=A.units + 1:=by
 first | rfl | simp [Around.under,Code.cUnits,Code.frames,Code.isFrame]
theorem Room.make {k:Nat} {A:Around} (r:Room (k + 1) A) (C:Addr) (us:List Value) (kw:List (Str × Value)):Room k (A.under (.builtin "type.__call__" ⟨.ref C :: us,kw⟩)):=
 ⟨r.hd,by have:=r.dp; rw [Qeg]; omega,by have:=r.un; rw [Qef]; omega⟩
theorem Room.depth {k:Nat} {A:Around} (r:Room k A):A.depth < recursionLimit:=by have:=r.dp; omega
theorem Room.units {k:Nat} {A:Around} (r:Room k A):A.units + 64 < cLine:=by have:=r.un; omega
def Qu6:TA:=fun _ H Q=>Q [] H
def Qub (ta:TE) (tr:TA):TA:=fun σ H Q=>ta σ H fun x H1=>tr σ H1 fun xs H2=>Q (x :: xs) H2
section
variable {X:Cx} {e:Expr} {es:List Expr} {te:TE} {t:TA} {pos:Pos}
theorem Q74:PA X [] Qu6:=fun _ _ _ _ H Q I h=>Calls.spliced_nil ⟨[],H,I,.nil,h⟩
theorem xr (ha:PE X e te) (hr:PA X es t) (hs:starEach (e :: es) X.env=(false,eval e X.env) :: starEach es X.env:=by rfl):PA X (e :: es) (Qub te t):=by
 intro pos pins s σ H Q I h;rw [hs];show wpAny _ _ (spliced ((false,eval e X.env) :: backTo pos (starEach es X.env))) _ _ s;refine Calls.spliced_cons (thn (ha pins s σ H _ I h) fun u s1 ⟨x,H1,I1,r1,q1⟩=>?_)
 exact thn (hr pos pins s1 σ H1 _ I1 q1) fun us s2 ⟨xs,H2,I2,r2,q2⟩=>⟨x :: xs,H2,I2,.cons r1 r2,q2⟩
def Qxa (t:TA):TE:=fun σ H Q=>t σ H fun xs H1=>xs.length<=sizeLine/\∀ p,H1 p=none->Q (.ref p) (upd H1 p (.tup xs))
def Qxe (t:TA):TE:=fun σ H Q=>t σ H fun xs H1=>xs.length<=sizeLine/\∀ p,H1 p=none->Q (.ref p) (upd H1 p (.lst xs))
theorem Qrv {x1} (h:PA X es t):PE X (.Tuple es x1 pos) (Qxa t):=by
 intro pins s σ H Q I hq;refine wpAny_Tuple_spliced (thn (h pos pins s σ H _ I hq) fun us s1 ⟨xs,H1,I1,r,z,q⟩=>⟨by rw [<- r.length]; exact z,?_⟩)
 have hf:H1 s1.heap.objs.size=none:=I1.hok.fresh (O7 _);refine ⟨.ref s1.heap.objs.size,upd H1 s1.heap.objs.size (.tup xs),I1.laid (t':=s1.toks) (fun b u e=>O0 _ e) (O7 _) ?_,rfl,q _ hf⟩;exact ⟨z,us,r,⟨_,D6 _ rfl,rfl,_,rfl⟩⟩
theorem Qjc (h:PA X es t):PE X (.List es pos) (Qxe t):=by
 intro pins s σ H Q I hq;refine wpAny_List_spliced (thn (h pos pins s σ H _ I hq) fun us s1 ⟨xs,H1,I1,r,z,q⟩=>⟨by rw [<- r.length]; exact z,?_⟩)
 have hf:H1 s1.heap.objs.size=none:=I1.hok.fresh (O7 _);refine ⟨.ref s1.heap.objs.size,upd H1 s1.heap.objs.size (.lst xs),I1.laid (t':=s1.toks) (fun b u e=>O0 _ e) (O7 _) ?_,rfl,q _ hf⟩;exact ⟨z,us,0,r,D6 _ rfl⟩
end
abbrev Sp:=List V->Hp->VK->XK->Prop
abbrev CXT:=List Env->Hp->Shared->XK->Value->Shared->Prop
structure Env0 (P:Program) (w:World) (K:PySem.W.Frag) (mg:Str->Option Value) (base:Heap) (A:Around) (outer:List Env) (s:Shared) (H:Hp):Prop where
 frames:A.frames=some outer
 mod:Mod K mg base
 bs:∀ b o,base.get? b=some o->s.heap.get? b=some o/\H b=none
 bsz:base.objs.size<=s.heap.objs.size
 funs:s.heap.FunFrames base outer
 frf:∀ b∈frs outer,H b=none
 hok:HOk P w H s.heap
 bare:AllBare s.gens
def CE (outer:List Env) (P:Program) (w:World) (H:Hp) (s:Shared) (Q:VK) (u:Value) (s':Shared):Prop:=
 ∃ v H',s'.os=s.os/\AllBare s'.gens/\Un (frs outer) [] H H' s.heap s'.heap/\HOk P w H' s'.heap/\RelV v u/\Q v H'
def CR (CX:CXT) (outer:List Env) (P:Program) (w:World) (H:Hp) (s:Shared) (Q:VK) (E:XK) (r:Result) (s':Shared):Prop:=
 match r with
 | .ok (.ret u)=>CE outer P w H s Q u s'
 | .ok _=>False
 | .error e=>CX outer H s E e s'
structure FnOk (P:Program) (w:World) (K:PySem.W.Frag) (mg:Str->Option Value) (base:Heap) (CX:CXT) (k:Nat) (f:Addr) (fd:FuncData) (ps:List Str) (sp:Sp):Prop where
 len:∀ vs H Q E,sp vs H Q E->vs.length=ps.length
 run:∀ (A:Around) (outer:List Env) (s:Shared) (H:Hp) (args:Args) (us:List Value) (vs:List V) (Q:VK) (E:XK),Room k A->Env0 P w K mg base A outer s H->BindsTo s fd args (ps.zip us)->Vals vs us->sp vs H Q E ->
  codeAny (model P w) A (.call (.ref f) args) (CR CX outer P w H s Q E) s
theorem FnOk.imp {P:Program} {w:World} {K:PySem.W.Frag} {mg:Str->Option Value} {base:Heap} {CX:CXT} {k:Nat} {f:Addr} {fd:FuncData} {ps:List Str} {sp sp':Sp} (F:FnOk P w K mg base CX k f fd ps sp)
  (h:∀ vs H Q E,sp' vs H Q E->sp vs H Q E):FnOk P w K mg base CX k f fd ps sp':=
 ⟨fun vs H Q E q=>F.len vs H Q E (h _ _ _ _ q),fun A outer s H args us vs Q E hr he hb hv hs=>F.run A outer s H args us vs Q E hr he hb hv (h _ _ _ _ hs)⟩
theorem Env0.make {P:Program} {w:World} {K:PySem.W.Frag} {mg:Str->Option Value} {base:Heap} {A:Around} {outer:List Env} {s:Shared} {H:Hp} (e:Env0 P w K mg base A outer s H) (C:Addr) (us:List Value) (kw:List (Str × Value)) :
  Env0 P w K mg base (A.under (.builtin "type.__call__" ⟨.ref C :: us,kw⟩)) outer s H:=⟨by first | exact e.frames | (simpa [Around.under,Code.envs,Code.isFrame,pushEnvs] using e.frames),e.mod,e.bs,e.bsz,e.funs,e.frf,e.hok,e.bare⟩
section
variable {X:Cx} {pins:List (Addr × Obj)} {σ:St} {H:Hp} {s s':Shared}
theorem Inv.env0 (I:Inv X pins σ H s):Env0 X.prog X.w X.K X.mg X.base X.A X.stack s H:=
 ⟨I.ok.frames,I.ok.mod,I.bs,F1 I.ok.bsz I.sz,I.stack,I.stkFree,I.hok,I.bare⟩
theorem Inv.after {Q:VK} {u:Value} (I:Inv X pins σ H s) (h:CE X.stack X.prog X.w H s Q u s'):EP X pins σ Q u s':=by
 obtain ⟨v,H',os,bare,un,hok,r,q⟩:=h;obtain ⟨hh,g,d,t,os'⟩:=s';obtain rfl:os'=s.os:=os;exact ⟨v,H',I.call (h':=hh) (g':=g) (d':=d) (t':=t) (ch:=[]) un hok bare (fun b z=>absurd z (by simp)),r,q⟩
end
def Quc (sp:Sp) (dvs:List V) (E:XK) (t:TA):TE:=fun σ H Q=>t σ H fun vs H1=>sp (vs ++ dvs) H1 Q E
def Qqd (C:Addr) (m:Str) (sp:Sp) (dvs:List V) (E:XK) (ta:TE) (t:TA):TE:=fun σ H Q=>ta σ H fun x H1=>∃ a dx fs,x=.ref a/\H1 a=some (.ins C dx fs)/\fs.lookup m=none /\
 t σ H1 fun vs H2=>sp (x :: (vs ++ dvs)) H2 Q E
def Qu7 (C:Addr) (sp:Sp) (dvs:List V) (E:XK) (t:TA):TE:=fun σ H Q=>t σ H fun vs H1=>∀ x dx,H1 x=none->H1 dx=none->dx≠x ->
 sp (.ref x :: (vs ++ dvs)) (upd (upd H1 dx (.own x)) x (.ins C dx [])) (fun v H2=>v=.non/\Q (.ref x) H2) E
def Binds (K:PySem.W.Frag) (fd:FuncData) (ps:List Str) (ds:List Value):Prop:=
 ∀ (s:Shared) (us:List Value),K.In s.heap->(us ++ ds).length=ps.length->BindsTo s fd ⟨us,[]⟩ (ps.zip (us ++ ds))
theorem Binds.all {K:PySem.W.Frag} {fd:FuncData} {ps:List Str} (h:∀ us:List Value,us.length=ps.length->bindArgs fd ⟨us,[]⟩=pure (ps.zip us)):Binds K fd ps []:=fun s us _ hl=>by
 rw [List.append_nil] at hl ⊢;exact .of_eq (h us hl)
def Kv (CX:CXT) (X:Cx) (E:XK):Prop:=∀ (pins:List (Addr × Obj)) (σ:St) (H:Hp) (s:Shared) (e:Value) (s':Shared),Inv X pins σ H s->CX X.stack H s E e s'->X.xe e s'
section
variable {X:Cx} {CX:CXT} {k:Nat} {f C:Addr} {fd:FuncData} {ps:List Str} {sp:Sp} {dvs:List V} {ds:List Value} {E:XK} {x m:Str} {p pos apos:Pos} {e o:Expr} {es:List Expr} {ta:TE} {t:TA}
theorem Qe2 {pins:List (Addr × Obj)} {σ:St} {H:Hp} {s:Shared} {Q:VK} {us:List Value} {vs:List V} (F:FnOk X.prog X.w X.K X.mg X.base CX k f fd ps sp) (hr:Room k X.A) (hb:Binds X.K fd ps ds) (hd:Vals dvs ds) (hx:Kv CX X E)
  (I:Inv X pins σ H s) (r:Vals vs us) (h:sp (vs ++ dvs) H Q E):wpAny (model X.prog X.w) X.A (call (.ref f) us) (EP X pins σ Q) X.xe s:=by
 have r2:Vals (vs ++ dvs) (us ++ ds):=r.append hd;have hl:(us ++ ds).length=ps.length:=by rw [<- r2.length]; exact F.len _ _ _ _ h
 refine wpAny_call (codeAny_mono (F.run X.A X.stack s H ⟨us,[]⟩ (us ++ ds) (vs ++ dvs) Q E hr I.env0 (hb s us I.kIn hl) r2 h) fun r s' hq=>?_)
 cases r with
 | error e=>exact hx pins σ H s e s' I hq
 | ok fl=>
  cases fl with
  | ret u=>exact I.after hq
  | next=>exact False.elim hq
  | brk=>exact False.elim hq
  | cont=>exact False.elim hq
theorem Qnp (F:FnOk X.prog X.w X.K X.mg X.base CX k f fd ps sp) (hr:Room k X.A) (hg:Gl X x) (hm:X.mg x=some (.ref f)) (hk:PySem.W.keepIn X.K (.ref f)=true) (hb:Binds X.K fd ps ds) (hd:Vals dvs ds) (hx:Kv CX X E)
  (ha:PA X (e :: es) t) (hdb:(x == ("__debug__" : Str))=false:=by decide) (he:starEach (e :: es) X.env=(false,eval e X.env) :: starEach es X.env:=by rfl) (hpl:(backTo pos (starEach es X.env)).any (·.1)=false:=by rfl) :
  PE X (.Call (.Name x p) (e :: es) [] pos) (Quc sp dvs E t):=by
 intro pins s σ H Q I h;refine wpAny_Call_Name_kw (qj I hg hm ?_ hdb);refine PySem.W.callWith_K (h₀:=X.base) I.ok.mod.kin hk (thn (ha pos pins s σ H _ I h) fun us s1 ⟨vs,H1,I1,r,q⟩=>⟨I1.kIn,?_⟩) he hpl
 exact Qe2 F hr hb hd hx I1 r q
theorem Qnj {pl:Sem Bool} (he:PE X o ta) (c:Cls X.K C) (hm:Meth X.K C m f) (F:FnOk X.prog X.w X.K X.mg X.base CX k f fd ps sp) (hr:Room k X.A) (hb:Binds X.K fd ps ds) (hd:Vals dvs ds) (hx:Kv CX X E) (ha:PA X (e :: es) t)
  (hst:starEach (e :: es) X.env=(false,eval e X.env) :: starEach es X.env:=by rfl) (hpl:(backTo pos (starEach es X.env)).any (·.1)=false:=by rfl)
  (ht:eval (.Call (.Attribute o m apos) (e :: es) [] pos) X.env=(do
   let ov <- eval o X.env
   standAt apos.atName
   let (f,first) <- holding [ov] (getMethod ov m pl)
   callWith pos f first (backTo pos (starEach (e :: es) X.env)) (backToKw pos (keywordEach [] X.env))):=by rfl) :
  PE X (.Call (.Attribute o m apos) (e :: es) [] pos) (Qqd C m sp dvs E ta t):=by
 intro pins s σ H Q I h;refine PySem.W.methodCall_KW (pl:=pl) (thn (he pins s σ H _ I h) fun u s1 ⟨x,H1,I1,rx,a,dx,fs,ex,ea,l,q⟩=>?_) ht
 subst ex;obtain rfl:u=Value.ref a:=rx;refine Q84 I1 ea c hm l ?_;refine PySem.W.callWith_K (first:=[.ref a]) (h₀:=X.base) I.ok.mod.kin hm.kp (thn (ha pos pins s1 σ H1 _ I1 q) fun us s2 ⟨vs,H2,I2,r,q2⟩=>⟨I2.kIn,?_⟩) hst hpl
 exact Qe2 (us:=.ref a :: us) (vs:=.ref a :: vs) F hr hb hd hx I2 (.cons rfl r) q2
theorem Qjb {pl:Sem Bool} (he:PE X o ta) (c:Cls X.K C) (hm:Meth X.K C m f) (F:FnOk X.prog X.w X.K X.mg X.base CX k f fd ps sp) (hr:Room k X.A) (hb:Binds X.K fd ps ds) (hd:Vals dvs ds) (hx:Kv CX X E)
  (ht:eval (.Call (.Attribute o m apos) [] [] pos) X.env=(do
   let ov <- eval o X.env
   standAt apos.atName
   let (f,first) <- holding [ov] (getMethod ov m pl)
   callWith pos f first (backTo pos (starEach [] X.env)) (backToKw pos (keywordEach [] X.env))):=by rfl) :
  PE X (.Call (.Attribute o m apos) [] [] pos) (Qqd C m sp dvs E ta Qu6):=by
 intro pins s σ H Q I h;refine PySem.W.methodCall_KW (pl:=pl) (thn (he pins s σ H _ I h) fun u s1 ⟨x,H1,I1,rx,a,dx,fs,ex,ea,l,q⟩=>?_) ht
 subst ex;obtain rfl:u=Value.ref a:=rx;refine Q84 I1 ea c hm l ?_;exact PySem.W.callWith_K0 (first:=[.ref a]) I1.kIn hm.kp (Qe2 (us:=[.ref a]) (vs:=[.ref a]) F hr hb hd hx I1 (.cons rfl .nil) q)
structure Mk (K:PySem.W.Frag) (C f:Addr):Prop where
 makes:PySem.W.makesIn K C=true
 init:PySem.W.findIn K (.ref C) "__init__" = some (some (.ref f))
 fn:PySem.W.isFn K (.ref f)=true
 kp:PySem.W.keepIn K (.ref C)=true
theorem Qit {pins:List (Addr × Obj)} {σ:St} {H:Hp} {s:Shared} {Q:VK} {us:List Value} {vs:List V} (M:Mk X.K C f) (F:FnOk X.prog X.w X.K X.mg X.base CX k f fd ps sp) (hr:Room (k + 1) X.A) (hb:Binds X.K fd ps ds) (hd:Vals dvs ds)
  (hx:Kv CX X E) (I:Inv X pins σ H s) (r:Vals vs us)
  (h:∀ x dx,H x=none->H dx=none->dx≠x->sp (.ref x :: (vs ++ dvs)) (upd (upd H dx (.own x)) x (.ins C dx [])) (fun v H2=>v=.non/\Q (.ref x) H2) E) :
  wpAny (model X.prog X.w) X.A (call (.ref C) us) (EP X pins σ Q) X.xe s:=by
 have hq:=h (s.heap.objs.size + 1) s.heap.objs.size (I.hok.fresh (Nat.le_succ _)) (I.hok.fresh (O7 _)) (F0 (Nat.lt_succ_self _));have I2:=Inv.made (C:=C) I;have r2:Vals (V.ref (s.heap.objs.size + 1) :: (vs ++ dvs)) (Value.ref (s.heap.objs.size + 1) :: (us ++ ds)):=.cons rfl (r.append hd);have hl:(Value.ref (s.heap.objs.size + 1) :: us ++ ds).length=ps.length:=by
  have e:=r2.length;rw [F.len _ _ _ _ hq] at e;exact e.symm
 refine wpAny_call (Qjt (f:=f) I.kIn M.makes M.init (beq_iff_eq.mp M.fn) (codeAny_mono (F.run _ X.stack _ _ ⟨Value.ref (s.heap.objs.size + 1) :: us,[]⟩ (Value.ref (s.heap.objs.size + 1) :: (us ++ ds)) _ _ E (hr.make C us [])
  (I2.env0.make C us []) (hb _ (Value.ref (s.heap.objs.size + 1) :: us) I2.kIn hl) r2 hq) fun r s' hq'=>?_))
 cases r with
 | error e=>exact hx pins σ _ _ e s' I2 hq'
 | ok fl=>
  cases fl with
  | ret u=>
   obtain ⟨v,H',I3,rv,ev,q3⟩:=I2.after hq';subst ev;exact ⟨rv,⟨V.ref (s.heap.objs.size + 1),H',I3,rfl,q3⟩⟩
  | next=>exact False.elim hq'
  | brk=>exact False.elim hq'
  | cont=>exact False.elim hq'
theorem Qnk (M:Mk X.K C f) (F:FnOk X.prog X.w X.K X.mg X.base CX k f fd ps sp) (hr:Room (k + 1) X.A) (hg:Gl X x) (hm:X.mg x=some (.ref C)) (hb:Binds X.K fd ps ds) (hd:Vals dvs ds) (hx:Kv CX X E)
  (ha:PA X (e :: es) t) (hdb:(x == ("__debug__" : Str))=false:=by decide) (he:starEach (e :: es) X.env=(false,eval e X.env) :: starEach es X.env:=by rfl) (hpl:(backTo pos (starEach es X.env)).any (·.1)=false:=by rfl) :
  PE X (.Call (.Name x p) (e :: es) [] pos) (Qu7 C sp dvs E t):=by
 intro pins s σ H Q I h;refine wpAny_Call_Name_kw (qj I hg hm ?_ hdb);refine PySem.W.callWith_K (h₀:=X.base) I.ok.mod.kin M.kp (thn (ha pos pins s σ H _ I h) fun us s1 ⟨vs,H1,I1,r,q⟩=>⟨I1.kIn,?_⟩) he hpl
 exact Qit M F hr hb hd hx I1 r q
end
def PK (X:Cx) (kws:List Keyword) (t:TA):Prop:=
 ∀ (pos:Pos) (pins:List (Addr × Obj)) (s:Shared) (σ:St) (H:Hp) (Q:List V->Hp->Prop),Inv X pins σ H s->t σ H Q->wpAny (model X.prog X.w) X.A (evalAll ((backToKw pos (keywordEach kws X.env)).map (·.2))) (AP X pins σ Q) X.xe s
section
variable {X:Cx} {CX:CXT} {k:Nat} {f C:Addr} {fd:FuncData} {ps ks:List Str} {sp:Sp} {E:XK} {x m:Str} {p pos apos kpos:Pos} {e o:Expr} {es:List Expr} {kws:List Keyword} {te ta:TE} {t tk:TA} {nm:Option Str}
variable {g:List Value->List Value->List Value} {gV:List V->List V->List V}
end
structure FnScope (N P:List Str) (sc:Scope):Prop where
 kind:sc.kind=.function
 co:sc.isCoroutine=false
 gen:sc.isGenerator=false
 nd:N.Nodup
 pre:N.take P.length=P
 par:∀ x∈P,sc.names.lookup x=some .local\/sc.names.lookup x=some .cell
 nofree:∀ y∈sc.names,y.2≠.free
theorem Qah {kindOf:Str->Option NameKind} {x:Str}:∀ {binds:List (Str × Value)} {m:Str->Option Value},(∀ v,(x,v)∉binds)->bindL kindOf binds m x=m x
 | [],_,_=>rfl
 | (n,v) :: r,m,h=>by
  unfold bindL;rw [Qah fun w hw=>h w (D0 _ hw)]
  split
  ·have:x≠n:=by rintro rfl; exact h v D4
   simp [this]
  ·rfl
theorem Qaj {kindOf:Str->Option NameKind} {x:Str}:∀ {binds:List (Str × Value)} {m:Str->Option Value},(∀ v,(x,v)∉binds)->bindC kindOf binds m x=m x
 | [],_,_=>rfl
 | (n,v) :: r,m,h=>by
  unfold bindC;rw [Qaj fun w hw=>h w (D0 _ hw)]
  split
  ·rfl
  ·have:x≠n:=by rintro rfl; exact h v D4
   simp [this]
theorem Qai {kindOf:Str->Option NameKind} {x:Str} {v:Value}:∀ {P:List Str} {vs:List Value} {i:Nat} {m:Str->Option Value},P.Nodup->P[i]?=some x->vs[i]?=some v->kindOf x=some .local ->
  bindL kindOf (P.zip vs) m x=some v
 | [],_,_,_,_,h,_,_=>by simp at h
 | _ :: _,[],_,_,_,_,h,_=>by simp at h
 | p :: P,w :: vs,0,m,nd,h1,h2,hk=>by
  simp at h1 h2; subst h1; subst h2;show bindL kindOf ((p,w) :: P.zip vs) m p=_;unfold bindL;rw [Qah fun v hv=>(List.nodup_cons.mp nd).1 (List.of_mem_zip hv).1,if_pos hk]
  simp
 | p :: P,w :: vs,i + 1,m,nd,h1,h2,hk=>by
  show bindL kindOf ((p,w) :: P.zip vs) m x=_;unfold bindL;exact Qai (i:=i) (List.nodup_cons.mp nd).2 (by simpa using h1) (by simpa using h2) hk
theorem Qak {kindOf:Str->Option NameKind} {x:Str} {v:Value}:∀ {P:List Str} {vs:List Value} {i:Nat} {m:Str->Option Value},P.Nodup->P[i]?=some x->vs[i]?=some v->kindOf x≠some .local ->
  bindC kindOf (P.zip vs) m x=some v
 | [],_,_,_,_,h,_,_=>by simp at h
 | _ :: _,[],_,_,_,_,h,_=>by simp at h
 | p :: P,w :: vs,0,m,nd,h1,h2,hk=>by
  simp at h1 h2; subst h1; subst h2;show bindC kindOf ((p,w) :: P.zip vs) m p=_;unfold bindC;rw [Qaj fun v hv=>(List.nodup_cons.mp nd).1 (List.of_mem_zip hv).1,if_neg hk]
  simp
 | p :: P,w :: vs,i + 1,m,nd,h1,h2,hk=>by
  show bindC kindOf ((p,w) :: P.zip vs) m x=_;unfold bindC;exact Qak (i:=i) (List.nodup_cons.mp nd).2 (by simpa using h1) (by simpa using h2) hk
def start (N:List Str) (vs:List V):St:=vs.map some ++ List.replicate (N.length - vs.length) none
def Qeu (CX:CXT) (P:Program) (w:World) (K:PySem.W.Frag) (mg:Str->Option Value) (base:Heap) (N:List Str) (qual:Str) (scope:Scope) (f:Addr) (cd:Value) (A:Around) (outer:List Env) (s:Shared) (H:Hp) (E:XK):Cx where
 prog:=P
 w:=w
 K:=K
 mg:=mg
 base:=base
 A:=A.deeper (envOfC qual scope s.heap.objs.size f cd)
 N:=N
 s₀:=s
 H₀:=H
 env:=envOfC qual scope s.heap.objs.size f cd
 outer:=outer
 stack:=envOfC qual scope s.heap.objs.size f cd :: outer
 ex:=[]
 calm:=true
 fn:=fun _=>true
 pn:=[]
 xe:=fun e s'=>wpAny (model P w) (A.deeper (envOfC qual scope s.heap.objs.size f cd)) (leaving (envOfC qual scope s.heap.objs.size f cd) e) (fun _ s''=>CX outer H s E e s'') (fun e' s''=>CX outer H s E e' s'') s'
theorem Qde {sc:Scope} {n:Nat} {x:Str} (h:sc.names.lookup x=some .cell):∃ c,(cellsFrom n sc.names []).lookup x=some c:=by
 have q:=PySem.W.cellsFrom_some sc.names n [] (.inl h);exact Option.isSome_iff_exists.mp q
theorem Qhe {CX:CXT} {P:Program} {w:World} {K:PySem.W.Frag} {mg:Str->Option Value} {base:Heap} {N ps:List Str} {qual:Str} {scope:Scope} {f:Addr} {cd:Value} {A:Around} {outer:List Env} {s s1:Shared} {H:Hp} {E:XK} {us:List Value} {vs:List V}
  (S:FnScope N ps scope) (hd:A.handled=none) (e0:Env0 P w K mg base A outer s H) (hl:vs.length=ps.length) (r:Vals vs us)
  (x:InCallC s s.heap.objs.size (bindL (envOfC qual scope s.heap.objs.size f cd).kindOf (ps.zip us) fun _=>none) (cellsFrom (s.heap.objs.size + 1) scope.names []) (bindC (envOfC qual scope s.heap.objs.size f cd).kindOf (ps.zip us) fun _=>none) s1) :
  Inv (Qeu CX P w K mg base N qual scope f cd A outer s H E) [] (start N vs) H s1:=by
 have hpl:ps.length<=N.length:=by have:=congrArg List.length S.pre; rw [List.length_take] at this; omega
 obtain ⟨h1,tk,rfl,hk⟩:=x.done;have noA:∀ b:Addr,b∉(Qeu CX P w K mg base N qual scope f cd A outer s H E).ex:=fun b z=>absurd (show b∈([]:List Addr) from z) (by simp)
 refine ⟨⟨e0.mod,S.kind,rfl,rfl,O7 _,fun y z c h1 h2=>?_,fun y hy=>?_,fun y c _ h=>?_,fun _=>hd,Around.frames_deeper e0.frames,.inr ⟨rfl,rfl⟩,fun b z=>absurd z (noA b),e0.bs,e0.bsz,fun b _ _=>noA b,fun b z=>absurd z (noA b),e0.funs,e0.frf⟩,
  rfl,e0.bare,Un.kept hk,⟨_,x.toInCall.ns,fun i y v h1 h2 h3=>?_⟩,fun y c h=>⟨_,x.cell y c h⟩,e0.hok.fresh (O7 _),fun y c h=>?_,fun p hp=>absurd (show p∈([]:List (Addr × Obj)) from hp) (by simp),e0.hok.kept hk,?_⟩
 ·exact name_of_addr x.apart (PySem.mem_of_lookup h1) (PySem.mem_of_lookup h2)
 ·have hy:scope.names.lookup y=some .cell\/scope.names.lookup y=some .free:=hy;rcases hy with hy | hy
  ·exact Qde hy
  ·exact absurd rfl (S.nofree _ (PySem.mem_of_lookup hy))
 ·exact E8 (x.above y c (PySem.mem_of_lookup h))
 ·have hi:i < vs.length:=by
   unfold start at h2
   by_cases hi:i < vs.length
   ·exact hi
   ·rw [D1 (by simpa using hi)] at h2;rw [List.getElem?_replicate] at h2
    split at h2 <;> cases h2
  have ha:vs[i]?=some v:=by
   unfold start at h2;rw [O6 (by simpa using hi),E6] at h2;cases e:vs[i]? with
   | none=>rw [e] at h2; cases h2
   | some a=>rw [e] at h2; cases h2; rfl
  obtain ⟨u,hu,rv⟩:=r.get ha;have hp:ps[i]?=some y:=by
   rw [<- S.pre,List.getElem?_take_of_lt (by omega)]; exact h1
  have ndP:ps.Nodup:=by rw [<- S.pre]; exact S.nd.sublist (List.take_sublist _ _)
  refine ⟨u,rv,?_⟩;rcases S.par y (D2 hp) with k | k
  ·exact .inl ⟨k,Qai ndP hp hu k⟩
  ·obtain ⟨c,e⟩:=Qde (n:=s.heap.objs.size + 1) k;refine .inr ⟨.inl k,c,e,?_⟩;have q:=x.cell y c e;rw [Qak ndP hp hu (by show scope.names.lookup y≠_; rw [k]; decide)] at q;exact q
 ·exact e0.hok.fresh (E8 (x.above y c (PySem.mem_of_lookup h)))
 ·unfold start;show _=N.length;rw [O8,O2,List.length_replicate];omega
theorem Qqs {CX:CXT} {P:Program} {w:World} {K:PySem.W.Frag} {mg:Str->Option Value} {base:Heap} {k:Nat} {f:Addr} {name qual:Str} {params:Arguments} {body:List Stmt} {scope:Scope} {dV kV doc pm cdv ct oc:Value} {an od:Option Addr}
  {osl:Array (Option Value)} {N ps:List Str} {sp:Sp} (lk:K.lookup f=some ⟨oc,od,.func (PySem.W.fnOf name qual params body scope dV kV doc pm an cdv ct),osl⟩) (hcd:PySem.W.codeIn K cdv qual=true) (S:FnScope N ps scope)
  (len:∀ vs H Q E,sp vs H Q E->vs.length=ps.length)
  (hbody:∀ (A:Around) (outer:List Env) (s:Shared) (H:Hp) (vs:List V) (Q:VK) (E:XK),Room k (A.deeper (envOfC qual scope s.heap.objs.size f cdv))->sp vs H Q E ->
   ∃ t,PSs (Qeu CX P w K mg base N qual scope f cdv A outer s H E) body t/\t { nx:=fun _ H'=>Q .non H',rt:=Q } (start N vs) H) :
  FnOk P w K mg base CX (k + 1) f (PySem.W.fnOf name qual params body scope dV kV doc pm an cdv ct) ps sp:=by
 refine ⟨len,fun A outer s H args us vs Q E hr e0 hb r hsp=>?_⟩;have hl:=len _ _ _ _ hsp;have KX:K.In s.heap:=e0.mod.kin.keeps fun b o e=>(e0.bs b o e).1
 have lim:s.heap.NoLimit:=e0.mod.nolimit.keeps fun b o e=>(e0.bs b o e).1
 have hkind:∀ y∈ps.zip us,scope.names.lookup y.1=some .local\/(scope.names.lookup y.1=some .cell/\((cellsFrom (s.heap.objs.size + 1) scope.names []).lookup y.1).isSome=true):=fun ⟨n,v⟩ hy=>by
  rcases S.par n (List.of_mem_zip hy).1 with q | q
  ·exact .inl q
  ·exact .inr ⟨q,PySem.W.cellsFrom_some _ _ _ (.inl q)⟩
 refine codeAny_call_function hr.depth (KX _ _ lk) rfl S.co S.gen rfl (PySem.W.codeRec_of KX hcd) (hb _ _ _ _ ?_);refine wpAny_newFunctionEnv_cells S.kind hkind fun env he s1 x=>?_
 subst he;refine ⟨lim.keeps x.toInCall.keep,codeAny_func ?_⟩;obtain ⟨t,ht,hq⟩:=hbody A outer s H vs Q E (hr.deeper _) hsp;have I:Inv (Qeu CX P w K mg base N qual scope f cdv A outer s H E) [] (start N vs) H s1:=Qhe S hr.hd e0 hl r x;refine wpAny_mono (ht [] s1 (start N vs) H _ I hq) (fun fl s' hs=>?_) fun e s' hs=>hs
 have fin:∀ {σ':St} {H':Hp} {v:V} {u:Value},Inv (Qeu CX P w K mg base N qual scope f cdv A outer s H E) [] σ' H' s'->RelV v u->Q v H'->CE outer P w H s Q u s':=
  fun {σ' H' v u} J rv q=>⟨v,H',J.os,J.bare,J.base,J.hok,rv,q⟩
 cases fl with
 | ret u=>
  obtain ⟨v,σ',H',J,rv,q⟩:=hs;exact fin J rv q
 | next=>
  obtain ⟨σ',H',J,q⟩:=hs;exact fin (v:=V.non) (u:=Value.none) J rfl q
 | brk=>
  obtain ⟨_,_,_,q⟩:=hs;exact False.elim q
 | cont=>
  obtain ⟨_,_,_,q⟩:=hs;exact False.elim q
section
variable {X:Cx} {x:Str} {p pos:Pos} {e:Expr} {es:List Expr} {t:TA} {id T:String} {r:List V->Hp->VK->Prop}
def tCB (r:List V->Hp->VK->Prop) (t:TA):TE:=fun σ H Q=>t σ H fun vs H1=>r vs H1 Q
theorem Qch (hc:Ke X (.builtin id) r) (hg:Gl X x) (hm:X.mg x=none) (hv:bootBuiltins x=some (.builtin id)) (ha:PA X (e :: es) t) (hn:x≠"__name__" := by decide) (hdb:(x == ("__debug__" : Str))=false:=by decide)
  (he:starEach (e :: es) X.env=(false,eval e X.env) :: starEach es X.env:=by rfl) (hpl:(backTo pos (starEach es X.env)).any (·.1)=false:=by rfl):PE X (.Call (.Name x p) (e :: es) [] pos) (tCB r t):=by
 intro pins s σ H Q I h;refine wpAny_Call_Name_kw (Q4v I hg hm hv ?_ hn hdb);exact PyProof.Rows.callWith_builtin1 (thn (ha pos pins s σ H _ I h) fun us s1 ⟨vs,H1,I1,r1,q1⟩=>hc pins s1 σ H1 vs us Q I1 r1 q1) he hpl
theorem Qgp (hc:Ke X (.type T) r) (hg:Gl X x) (hm:X.mg x=none) (hv:bootBuiltins x=some (.type T)) (ha:PA X (e :: es) t) (hn:x≠"__name__" := by decide) (hdb:(x == ("__debug__" : Str))=false:=by decide)
  (he:starEach (e :: es) X.env=(false,eval e X.env) :: starEach es X.env:=by rfl) (hpl:(backTo pos (starEach es X.env)).any (·.1)=false:=by rfl):PE X (.Call (.Name x p) (e :: es) [] pos) (tCB r t):=by
 intro pins s σ H Q I h;refine wpAny_Call_Name_kw (Q4v I hg hm hv ?_ hn hdb);exact PyProof.Rows.callWith_type1 (thn (ha pos pins s σ H _ I h) fun us s1 ⟨vs,H1,I1,r1,q1⟩=>hc pins s1 σ H1 vs us Q I1 r1 q1) he hpl
end
end L2
namespace HT
open PySem PyProof.Rows
def lexLt:List Int->List Int->Bool
 | [],[]=>false
 | [],_ :: _=>true
 | _ :: _,[]=>false
 | x :: xs,y :: ys=>if x=y then lexLt xs ys else decide (x < y)
theorem Qen (x y:Int) (xs ys:List Int):lexLt (x :: xs) (y :: ys)=if x=y then lexLt xs ys else decide (x < y):=rfl
theorem Q9j:lexLt [] []=false:=rfl
theorem Q7v (y:Int) (ys:List Int):lexLt [] (y :: ys)=true:=rfl
theorem Q7w (x:Int) (xs:List Int):lexLt (x :: xs) []=false:=rfl
theorem Qkd (A:Around) (s:Shared) (a:Int) (t:Tok) (c:Int) (u:Tok):∃ e,SeqAt.EqAt A s (.int a t) (.int c u) e/\(e=true <-> a=c):=
 ⟨(a == c),SeqAt.EqAt.int_int a t c u,by simp⟩
theorem Qiv (A:Around) (s:Shared) (a:Int) (t:Tok) (c:Int) (u:Tok) (prog:Program) (w:World) (E:Value->Shared->Prop) (Q:Value->Shared->Prop) (h:Q (.bool (decide (a < c))) s) :
  wpAny (model prog w) A (richCompare .Lt (.int a t) (.int c u)) Q E s:=
 (PyProof.Rows.lt_int h:wpAny (model prog w) A (compareOp .Lt (.int a t) (.int c u)) Q E s)
section
open PySem.SeqAt
open PySem.AutoSeq1 (wpAny_loadPart')
open PySem.MeetsSeq PySem.MeetsSeq2 PySem.MeetsSeq3
theorem Q8q (l b:Addr) (items items2:Array Value) (n n2:Nat) (dd dd2:Option Addr) (sl sl2:Array (Option Value)) (ns ms:List Int) (hi:IntsAre items.toList ns) (hj:IntsAre items2.toList ms) :
  Meets (Builtin.«tuple.__lt__» ⟨[.ref l,.ref b],[]⟩)
   (fun _ R s=>s.heap.get? l=some { cls:=.type "tuple",dict:=dd,data:=.seq items n,slots:=sl }/\s.heap.get? b=some { cls:=.type "tuple",dict:=dd2,data:=.seq items2 n2,slots:=sl2 } /\
    R (.ok (.ret (.bool (lexLt ns ms)))) s):=
 .of_wp fun prog w A R s h=>by
  obtain ⟨hp,g,d,tk,os⟩:=s; obtain ⟨hl,hb,h⟩:=h;have f2:=AutoSeq1.sub_tuple_tuple;have z1:items.size=ns.length:=by rw [<- hi.length]; simp
  have z2:items2.size=ms.length:=by rw [<- hj.length]; simp
  wp_walk using wpAny_loadPart' hl,wpAny_loadPart' hb,wpAny_forIn_list _ (fun rest b s'=>b.1=none/\s'=⟨hp,g,d,tk,os⟩/\∃ (vs ws:List Value) (ns' ms':List Int),rest=vs.zip ws /\
   IntsAre vs ns'/\IntsAre ws ms'/\ns'.length + items2.size=ms'.length + items.size/\R (.ok (.ret (.bool (lexLt ns' ms')))) ⟨hp,g,d,tk,os⟩) _
  case turn=>
   rintro ⟨y,x⟩ rest b s' ⟨hb',rfl,vs,ws,ns',ms',hz,hvi,hwi,hlen,hR⟩;cases hvi with
   | nil=>rw [List.zip_nil_left] at hz; cases hz
   | cons a t hvi'=>
    cases hwi with
    | nil=>rw [List.zip_nil_right] at hz; cases hz
    | cons c u hwi'=>
     rw [List.zip_cons_cons] at hz;injection hz with hyx hrest
     injection hyx with hy hx
     subst hy hx;rw [Qen] at hR;simp only [D8] at hlen;obtain ⟨e,he,hiff⟩:=Qkd A.in1 ⟨hp,g,d,tk,os⟩ a t c u;refine wpAny_bind (he prog w _ _ ?_);cases e with
     | true=>
      rw [if_pos (hiff.mp rfl)] at hR
      wp_walk
      exact ⟨rfl,rfl,_,_,_,_,hrest,hvi',hwi',by omega,hR⟩
     | false=>
      rw [if_neg (fun q=>absurd (hiff.mpr q) D7)] at hR
      have hri:=Qiv A.in1 ⟨hp,g,d,tk,os⟩ a t c u prog w
      wp_walk using hri
      exact ⟨_,rfl,by simpa using hR⟩
  case fin=>
   rintro ⟨b1,b2⟩ s' ⟨hb',rfl,vs,ws,ns',ms',hz,hvi,hwi,hlen,hR⟩;simp only at hb';subst hb';have hv:lexLt ns' ms'=decide (items.size < items2.size):=by
    cases hvi with
    | nil=>
     cases hwi with
     | nil=>
      simp only [List.length_nil] at hlen;rw [Q9j];exact (decide_eq_false (by omega)).symm
     | cons c u hw=>
      simp only [List.length_nil,D8] at hlen;rw [Q7v];exact (decide_eq_true (by omega)).symm
    | cons a t hv=>
     cases hwi with
     | nil=>
      simp only [List.length_nil,D8] at hlen;rw [Q7w];exact (decide_eq_false (by omega)).symm
     | cons c u hw=>
      rw [List.zip_cons_cons] at hz;cases hz
   rw [hv] at hR
   wp_walk
   exact ⟨_,rfl,by simpa [Builtin.Tuple.tupleCompareSizes] using hR⟩
  case h=>
   exact ⟨rfl,rfl,items.toList,items2.toList,ns,ms,rfl,hi,hj,by omega,h⟩
end
section
variable {prog:Program} {w:World} {A:Around} {E:Value->Shared->Prop} {s:Shared}
theorem lt_tupInts {l b:Addr} {items items2:Array Value} {ns ms:List Int} {Q:Value->Shared->Prop} (hl:IsTup s.heap l items) (hb:IsTup s.heap b items2) (hi:IntsAre items.toList ns) (hj:IntsAre items2.toList ms)
  (hu:A.units < cLine) (h:Q (.bool (lexLt ns ms)) s):wpAny (model prog w) A (compareOp .Lt (.ref l) (.ref b)) Q E s:=by
 obtain ⟨⟨cls,dd,data,sl⟩,ho,hc,n,hd⟩:=id hl;obtain ⟨⟨cls2,dd2,data2,sl2⟩,ho2,hc2,n2,hd2⟩:=id hb;simp only at hc hd hc2 hd2;subst hc hd hc2 hd2;exact richCompare_meets_room (op:=.Lt) ⟨_,ho,rfl⟩ ⟨_,ho2,rfl⟩ PySem.F.slot_tuple_lt PySem.F.entry_tuple_lt (PySem.F.args_tuple_lt_2 _ _) (Q8q l b items items2 n n2 dd dd2 sl sl2 ns ms hi hj)
  ⟨ho,ho2,show Value.bool (lexLt ns ms)≠Value.notImplemented/\Q (.bool (lexLt ns ms)) s from ⟨(fun x=>nomatch x),h⟩⟩ hu
theorem cat_tup {t b:Addr} {vs ws:List Value} {Q:Value->Shared->Prop} (ht:IsTup s.heap t vs.toArray) (hb:IsTup s.heap b ws.toArray) (hv:vs≠[])
  (h1:ws=[]->Q (.ref t) s) (h2:ws≠[]->Q (.ref s.heap.objs.size) { s with heap:=s.heap.push { cls:=.type "tuple",data:=.seq (vs ++ ws).toArray } })
  (hsz:vs.length + ws.length<=sizeLine):wpAny (model prog w) A (binaryOp .Add (.ref t) (.ref b)) Q E s:=by
 obtain ⟨⟨cls,dd,data,sl⟩,ho,hc,n,hd⟩:=id ht;obtain ⟨⟨cls2,dd2,data2,sl2⟩,ho2,hc2,n2,hd2⟩:=id hb;simp only at hc hd hc2 hd2;subst hc hd hc2 hd2;have e:vs.toArray ++ ws.toArray=(vs ++ ws).toArray:=by simp
 by_cases hw:ws=[]
 ·exact concat_meets ⟨_,ho,rfl⟩ ⟨_,ho2,rfl⟩ noFill_tuple_add seq_tuple_add PySem.F.slot_tuple_add PySem.F.entry_tuple_add (PySem.F.args_tuple_add_2 _ _)
   (tuple_addW1 t b vs.toArray ws.toArray n n2 dd dd2 sl sl2 (by simpa using hv) (by simp [hw])) ⟨ho,ho2,h1 hw⟩
 ·refine concat_meets ⟨_,ho,rfl⟩ ⟨_,ho2,rfl⟩ noFill_tuple_add seq_tuple_add PySem.F.slot_tuple_add PySem.F.entry_tuple_add (PySem.F.args_tuple_add_2 _ _)
   (tuple_addW2 t b vs.toArray ws.toArray n n2 dd dd2 sl sl2 (by simpa using hv) (by simpa using hw) (by rw [O3,O3]; exact hsz)) ⟨ho,ho2,?_⟩
  rw [e];exact h2 hw
def sIx (n d:Nat):Option Int->Nat
 | none=>d
 | some v=>if v < 0 then (v + (n:Int)).toNat else min v.toNat n
theorem sIx_none (n d:Nat):sIx n d none=d:=rfl
theorem sIx_nat (n d k:Nat):sIx n d (some (k:Int))=min k n:=by
 show (if (k:Int) < 0 then ((k:Int) + (n:Int)).toNat else min (k:Int).toNat n)=min k n;rw [if_neg (by omega),Int.toNat_natCast]
theorem Qrd (n d:Nat) (hd:d<=n) (o:Option Int):sIx n d o<=n:=by
 cases o with
 | none=>exact hd
 | some v=>
  show (if v < 0 then (v + (n:Int)).toNat else min v.toNat n)<=n
  by_cases hv:v < 0
  ·rw [if_pos hv]; omega
  ·rw [if_neg hv]; exact Nat.min_le_right _ _
theorem Qfy (v:Int) (n d:Nat):(if v < 0 then max (v + (n:Int)) 0 else min v (n:Int))=((sIx n d (some v):Nat):Int):=by
 show (if v < 0 then max (v + (n:Int)) 0 else min v (n:Int))=(((if v < 0 then (v + (n:Int)).toNat else min v.toNat n):Nat):Int)
 by_cases hv:v < 0
 ·simp only [if_pos hv]; omega
 ·simp only [if_neg hv]; omega
theorem Qf1 (lo hi:Option Int) (n:Nat):Builtin.Slice.sliceAdjust lo hi 1 (n:Int)=(((sIx n 0 lo:Nat):Int),((sIx n n hi:Nat):Int)):=by
 have h1:¬ ((1:Int) < 0):=by omega
 unfold Builtin.Slice.sliceAdjust;simp only [h1,if_false];refine Prod.ext ?_ ?_
 ·cases lo with
  | none=>rfl
  | some v=>exact Qfy v n 0
 ·cases hi with
  | none=>rfl
  | some v=>exact Qfy v n n
theorem Qe4 (i j:Nat):Builtin.Slice.slicePlaces (i:Int) (j:Int) 1=j - i:=by
 unfold Builtin.Slice.slicePlaces;have h1:(1:Int) > 0:=by omega
 simp only [h1,if_true,Int.ediv_one]
 split <;> omega
theorem Q6n {v:Value} {o:Option Int} {Q:Option Int->Shared->Prop} (p:IsPart v o) (h:Q o s):wpAny (model prog w) A (Builtin.Slice.slicePartIndex v) Q E s:=by
 cases p with
 | none=>exact slicePart_none h
 | int i t=>exact slicePart_int h
theorem zr {sl:Addr} {vl vu:Value} {lo hi:Option Int} {n:Nat} {Q:Int × Int × Nat->Shared->Prop} (hs:s.heap.IsSliceOf sl vl vu .none) (pl:IsPart vl lo) (pu:IsPart vu hi)
  (h:Q (((sIx n 0 lo:Nat):Int),1,sIx n n hi - sIx n 0 lo) s):wpAny (model prog w) A (Builtin.Slice.sliceApplied (.ref sl) (pure (n:Int))) Q E s:=by
 obtain ⟨os,hos,hcs,hds⟩:=id hs;unfold Builtin.Slice.sliceApplied Builtin.Slice.sliceFields;refine wpAny_bind (wpAny_bind (wpAny_field hos hds (x:=vl) rfl (wpAny_bind (wpAny_field hos hds (x:=vu) rfl (wpAny_bind (wpAny_field hos hds (x:=.none) rfl (wpAny_pure ?_)))))));refine wpAny_bind (slicePart_none ?_);show wpAny _ _ (if ((1:Int) == 0)=true then _ else _) _ _ s;rw [if_neg (by decide)];refine wpAny_bind (Q6n pl (wpAny_bind (Q6n pu (wpAny_bind (wpAny_pure ?_)))));show wpAny _ _ (match Builtin.Slice.sliceAdjust lo hi 1 (n:Int) with | (lo,hi)=>pure (lo,(1:Int),Builtin.Slice.slicePlaces lo hi 1)) _ _ s
 rw [Qf1 lo hi n];show wpAny _ _ (pure (((sIx n 0 lo:Nat):Int),(1:Int),Builtin.Slice.slicePlaces ((sIx n 0 lo:Nat):Int) ((sIx n n hi:Nat):Int) 1)) _ _ s;rw [Qe4];exact wpAny_pure h
theorem Qj6 (xs:Array Value) (i k:Nat):((List.range k).filterMap fun (m:Nat)=>xs[((i:Int) + (m:Int) * 1).toNat]?).toArray=((xs.toList.drop i).take k).toArray:=by
 have e:(fun (m:Nat)=>xs[((i:Int) + (m:Int) * 1).toNat]?)=fun m=>xs[i + m]?:=by
  funext m;have:((i:Int) + (m:Int) * 1).toNat=i + m:=by omega
  rw [this]
 rw [e];have:=pick_run xs i k;rw [List.filterMap_map] at this;have e2:((fun x=>xs[x]?) ∘ fun x=>i + x)=fun m=>xs[i + m]?:=rfl
 rw [e2] at this;rw [this]
theorem getItem_tuple_cut {t sl:Addr} {items:Array Value} {vl vu:Value} {lo hi:Option Int} {Q:Value->Shared->Prop} (ht:IsTup s.heap t items) (hs:s.heap.IsSliceOf sl vl vu .none) (pl:IsPart vl lo) (pu:IsPart vu hi)
  (hw:¬ (sIx items.size 0 lo=0/\sIx items.size items.size hi=items.size))
  (h:Q (.ref s.heap.objs.size) { s with heap:=s.heap.push { cls:=.type "tuple",data:=.seq ((items.toList.drop (sIx items.size 0 lo)).take (sIx items.size items.size hi - sIx items.size 0 lo)).toArray } })
  (hsz:items.size<=sizeLine):wpAny (model prog w) A (getItem (.ref t) (.ref sl)) Q E s:=by
 have htake:sizeOk (.seq ((items.toList.drop (sIx items.size 0 lo)).take (sIx items.size items.size hi - sIx items.size 0 lo)).toArray):=by
  show ((items.toList.drop (sIx items.size 0 lo)).take (sIx items.size items.size hi - sIx items.size 0 lo)).toArray.size<=sizeLine;rw [O3,List.length_take,List.length_drop,Array.length_toList];omega
 have hj:sIx items.size items.size hi<=items.size:=Qrd _ _ (O7 _) hi;obtain ⟨os,hos,hcs,hds⟩:=id hs;have hTs:s.TypeIs (.ref sl) "slice" := ⟨os,hos,hcs⟩;unfold getItem
 try with_reducible refine wpAny_holding ?_
 first | refine wpAny_bind (wpAny_pure ?_) | skip
 refine wpAny_bind (wpAny_sequenceKey ht.typeIs (by decide) ?_);refine wpAny_bind (wpAny_callSpecial?_slot (name:=Str.ofString "__getitem__") ht.typeIs PyProof.Rows.slot_tuple_getitem
  (wpAny_call_entry PyProof.Rows.slot_tuple_getitem ht.typeIs entry_tuple_getitem ?_ (args_tuple_getitem _ _)))
 show wpAny _ _ (Builtin.Tuple.tupleItemsOf (.ref t) >>= _) _ _ s;refine wpAny_bind (tupleItemsOf_ ht ?_);refine wpAny_bind (wpAny_typeOf hTs ?_);rw [if_pos (by decide)];refine wpAny_bind (zr hs pl pu ?_);have hno:¬ ((((sIx items.size 0 lo:Nat):Int) == 0 && (1:Int) == 1 && (sIx items.size items.size hi - sIx items.size 0 lo) == items.size)=true):=by
  intro q;rw [F6,F6] at q;have q1:((sIx items.size 0 lo:Nat):Int)=0:=eq_of_beq q.1.1;have q2:sIx items.size items.size hi - sIx items.size 0 lo=items.size:=eq_of_beq q.2;exact hw ⟨by omega,by omega⟩
 show wpAny _ _ (if (((sIx items.size 0 lo:Nat):Int) == 0 && (1:Int) == 1 && (sIx items.size items.size hi - sIx items.size 0 lo) == items.size)=true then _ else _) _ _ s;rw [if_neg hno,Qj6]
 first
  | exact wpAny_bind (m:=Builtin.Tuple.tupleExact _) (wpAny_newObj_type (wpAny_pure ⟨_,rfl,wpAny_pure h⟩) htake)
  | exact wpAny_bind (m:=Builtin.Tuple.tupleExact _) (wpAny_newObj_type (wpAny_bind (wpAny_pure (wpAny_pure ⟨_,rfl,wpAny_pure h⟩))) htake)
  | exact wpAny_bind (wpAny_bind (m:=Builtin.Tuple.tupleExact _) (wpAny_newObj_type (wpAny_pure (wpAny_pure ⟨_,rfl,wpAny_pure h⟩)) htake))
  | exact wpAny_bind (wpAny_bind (m:=Builtin.Tuple.tupleExact _) (wpAny_newObj_type (wpAny_pure ⟨_,rfl,wpAny_pure h⟩) htake))
end
end HT
namespace L2
open PySem PySem.Spec PyProof.Rows
abbrev TO:=St->Hp->(Option Int->Hp->Prop)->Prop
def PO (X:Cx) (e:Option Expr) (t:TO):Prop:=
 ∀ (pins:List (Addr × Obj)) (s:Shared) (σ:St) (H:Hp) (Q:Option Int->Hp->Prop),Inv X pins σ H s->t σ H Q ->
  wpAny (model X.prog X.w) X.A (evalPart e X.env) (fun u s'=>∃ o H',Inv X pins σ H' s'/\IsPart u o/\Q o H') X.xe s
def Qmi:TO:=fun _ H Q=>Q none H
def Qu4 (t:TE):TO:=fun σ H Q=>t σ H fun x H1=>∃ i,x=.int i/\Q (some i) H1
theorem Q82 {ns:List Int}:∀ {us:List Value},Vals (ns.map V.int) us->IntsAre us ns:=by
 induction ns with
 | nil=>intro us r; rw [List.map_nil] at r; cases r; exact .nil
 | cons n ns ih=>
  intro us r;rw [F2] at r;cases r with
  | cons r1 r2=>
   obtain ⟨t,e⟩:=r1;subst e;exact .cons n t (ih r2)
section
variable {X:Cx} {e:Expr} {te:TE} {lo hi:Option Expr} {tl th:TO} {pos p2:Pos}
theorem Qnd:PO X none Qmi:=by
 intro pins s σ H Q I h;rw [evalPart_none];exact wpAny_pure ⟨none,H,I,.none,h⟩
theorem Qnc (h:PE X e te):PO X (some e) (Qu4 te):=by
 intro pins s σ H Q I hw;rw [evalPart_some];refine thn (h pins s σ H _ I hw) fun u s1 ⟨x,H1,I1,r1,q1⟩=>?_
 obtain ⟨i,rfl,q⟩:=q1;obtain ⟨t,rfl⟩:=r1;exact ⟨some i,H1,I1,.int i t,q⟩
def SlR (X:Cx) (r:V->Option Int->Option Int->Hp->VK->Prop):Prop:=
 ∀ (pins:List (Addr × Obj)) (s:Shared) (σ:St) (H:Hp) (x:V) (v vl vu:Value) (lo hi:Option Int) (sl:Addr) (Q:VK),Inv X pins σ H s->RelV x v->s.heap.IsSliceOf sl vl vu .none->IsPart vl lo->IsPart vu hi->r x lo hi H Q ->
  ∃ T id,typeLookup (.type T) "__getitem__" = pure (some (.builtin id))/\s.TypeIs v T/\wpAny (model X.prog X.w) X.A (getItem v (.ref sl)) (EP X pins σ Q) X.xe s
theorem SlR.or {r r':V->Option Int->Option Int->Hp->VK->Prop} (h:SlR X r) (h':SlR X r'):SlR X (fun x lo hi H Q=>r x lo hi H Q\/r' x lo hi H Q):=by
 intro pins s σ H x v vl vu lo hi sl Q I rx hs pl pu q;rcases q with q | q
 ·exact h pins s σ H x v vl vu lo hi sl Q I rx hs pl pu q
 ·exact h' pins s σ H x v vl vu lo hi sl Q I rx hs pl pu q
def tSl (r:V->Option Int->Option Int->Hp->VK->Prop) (te:TE) (tl th:TO):TE:=fun σ H Q=>te σ H fun x H1=>tl σ H1 fun l H2=>th σ H2 fun u H3=>r x l u H3 Q
theorem Qja {r:V->Option Int->Option Int->Hp->VK->Prop} (hr:SlR X r) (he:PE X e te) (hl:PO X lo tl) (hu:PO X hi th):PE X (.Subscript e (.Slice lo hi none p2) pos) (tSl r te tl th):=by
 intro pins s σ H Q I h;refine Subscript_ (thn (he pins s σ H _ I h) fun v s1 ⟨x,H1,I1,r1,q1⟩=>?_)
 refine wpAny_Slice (thn (hl pins s1 σ H1 _ I1 q1) fun vl s2 ⟨l,H2,I2,pl,q2⟩=>thn (hu pins s2 σ H2 _ I2 q2) fun vu s3 ⟨u,H3,I3,pu,q3⟩=>?_)
 rw [evalPart_none];refine wpAny_pure ?_;have I4:Inv X pins σ H3 { s3 with heap:=s3.heap.push { cls:=.type "slice",data:=.fields #[vl,vu,.none] } }:=I3.kept (t':=s3.toks) fun b ob q=>O0 _ q
 obtain ⟨T,id,hT,ht,hg⟩:=hr pins { s3 with heap:=s3.heap.push { cls:=.type "slice",data:=.fields #[vl,vu,.none] } } σ H3 x v vl vu l u s3.heap.objs.size Q I4 r1 (Heap.IsSliceOf.new ..) pl pu q3;show wpAny (model X.prog X.w) X.A (subscriptTail e (.Slice lo hi none p2) v (.ref s3.heap.objs.size)) (EP X pins σ Q) X.xe { s3 with heap:=s3.heap.push { cls:=.type "slice",data:=.fields #[vl,vu,.none] } };exact tail_any (ops:=[.ref s3.heap.objs.size,v]) ht hT hg (by with_unfolding_all rfl)
def Qdc (xs:List V) (lo hi:Option Int):List V:=(xs.drop (HT.sIx xs.length 0 lo)).take (HT.sIx xs.length xs.length hi - HT.sIx xs.length 0 lo)
theorem Q5e (xs:List V) (lo hi:Option Int):(Qdc xs lo hi).length<=xs.length:=by
 unfold Qdc;rw [List.length_take,List.length_drop];omega
def Qxm (K:PySem.W.Frag):V->Option Int->Option Int->Hp->VK->Prop:=fun x lo hi H Q=>∃ a xs,x=.ref a/\SqT K H a xs /\
 ¬ (HT.sIx xs.length 0 lo=0/\HT.sIx xs.length xs.length hi=xs.length)/\∀ p,H p=none->Q (.ref p) (upd H p (.tup (Qdc xs lo hi)))
theorem sl_tup:SlR X (Qxm X.K):=by
 intro pins s σ H x v vl vu lo hi sl Q I rx hs pl pu h;obtain ⟨a,xs,rfl,hx,hw,q⟩:=h;cases rx;obtain ⟨its,r,ht,hz⟩:=I.tuple hx;have hlen:its.toArray.size=xs.length:=by rw [O3]; exact r.length.symm
 refine ⟨"tuple",_,PyProof.Rows.slot_tuple_getitem.lookup,ht.typeIs,?_⟩;refine HT.getItem_tuple_cut ht hs pl pu (by rw [hlen]; exact hw) ?_ (by rw [hlen]; exact hz);rw [hlen];refine ⟨.ref s.heap.objs.size,_,I.laid (t':=s.toks) (o:=.tup (Qdc xs lo hi)) (fun b ob q=>O0 _ q) (O7 _) ?_,rfl,q _ (I.hok.fresh (O7 _))⟩;exact ⟨F1 (Q5e xs lo hi) hz,_,(r.drop (HT.sIx xs.length 0 lo)).take (HT.sIx xs.length xs.length hi - HT.sIx xs.length 0 lo),IsTup.new _ _⟩
def Qxq (K:PySem.W.Frag):R2:=fun x y H Q=>∃ a b ns ms,x=.ref a/\y=.ref b/\SqT K H a (ns.map V.int)/\SqT K H b (ms.map V.int)/\Q (.bl (HT.lexLt ns ms)) H
theorem Qsa (hu:X.A.units < cLine):OpR X (compareOp .Lt) (Qxq X.K):=by
 intro pins s σ H x y v u Q I rx ry h;obtain ⟨a,b,ns,ms,rfl,rfl,ha,hb,q⟩:=h;cases rx;cases ry;obtain ⟨its,r1,p1,_⟩:=I.tuple ha;obtain ⟨its2,r2,p2,_⟩:=I.tuple hb;have i1:IntsAre its.toArray.toList ns:=Q82 r1;have i2:IntsAre its2.toArray.toList ms:=Q82 r2;exact HT.lt_tupInts p1 p2 i1 i2 hu ⟨.bl (HT.lexLt ns ms),H,I,rfl,q⟩
def Qqh (K:PySem.W.Frag):R2:=fun x y H Q=>∃ a b xs ys,x=.ref a/\y=.ref b/\SqT K H a xs/\SqT K H b ys/\xs≠[]/\xs.length + ys.length<=sizeLine /\
 (ys=[]->Q (.ref a) H)/\(ys≠[]->∀ p,H p=none->Q (.ref p) (upd H p (.tup (xs ++ ys))))
theorem Vals.nil_iff {xs:List V} {us:List Value} (r:Vals xs us):us=[] <-> xs=[]:=by
 cases r with
 | nil=>simp
 | cons _ _=>simp
theorem op_catT:OpR X (binaryOp .Add) (Qqh X.K):=by
 intro pins s σ H x y v u Q I rx ry h;obtain ⟨a,b,xs,ys,rfl,rfl,ha,hb,hx,hz,q1,q2⟩:=h;cases rx;cases ry;obtain ⟨its,r1,p1,_⟩:=I.tuple ha;obtain ⟨its2,r2,p2,_⟩:=I.tuple hb;refine HT.cat_tup p1 p2 (fun z=>hx (r1.nil_iff.mp z)) (fun z=>⟨.ref a,H,I,rfl,q1 (r2.nil_iff.mp z)⟩) (fun z=>?_) (by rw [<- r1.length,<- r2.length]; exact hz)
 refine ⟨.ref s.heap.objs.size,_,I.laid (t':=s.toks) (o:=.tup (xs ++ ys)) (fun b ob q=>O0 _ q) (O7 _) ?_,rfl,q2 (fun w=>z (r2.nil_iff.mpr w)) _ (I.hok.fresh (O7 _))⟩;exact ⟨by rw [O8]; exact hz,_,r1.append r2,IsTup.new _ _⟩
end
def ixN (n:Nat) (i:Int):Option Nat:=if 0<=i then (if i < n then some i.toNat else none) else if -(n:Int)<=i then some (i + n).toNat else none
def atI {α:Type} (xs:List α) (i:Int):Option α:=(ixN xs.length i).bind fun j=>xs[j]?
theorem Qfs {n:Nat} {i:Int} {j:Nat} (h:ixN n i=some j):seqIndex? i n=some j/\j < n/\-(n:Int)<=i/\i < n:=by
 unfold ixN at h
 by_cases h0:0<=i
 ·rw [if_pos h0] at h
  by_cases h1:i < n
  ·rw [if_pos h1] at h;have e:i.toNat=j:=Option.some.inj h;exact ⟨by rw [seqIndex_of h0 h1,e],by omega,by omega,h1⟩
  ·rw [if_neg h1] at h; cases h
 ·rw [if_neg h0] at h
  by_cases h1:-(n:Int)<=i
  ·rw [if_pos h1] at h;have e:(i + n).toNat=j:=Option.some.inj h;exact ⟨by rw [seqIndex_neg (by omega) h1,e],by omega,h1,by omega⟩
  ·rw [if_neg h1] at h; cases h
theorem atI_get {α:Type} {xs:List α} {i:Int} {v:α} (h:atI xs i=some v):∃ j,seqIndex? i xs.length=some j/\xs[j]?=some v/\j < xs.length/\-(xs.length:Int)<=i/\i < xs.length:=by
 unfold atI at h;cases e:ixN xs.length i with
 | none=>rw [e] at h; cases h
 | some j=>
  rw [e] at h;obtain ⟨h1,h2,h3,h4⟩:=Qfs e;exact ⟨j,h1,h,h2,h3,h4⟩
theorem Qdm {α:Type} (xs:List α) (v:α):atI (xs ++ [v]) (-1)=some v:=by
 have hl:(xs ++ [v]).length=xs.length + 1:=by simp
 have e:ixN (xs ++ [v]).length (-1)=some xs.length:=by
  unfold ixN;rw [hl,if_neg (by decide),if_pos (by omega)];congr 1;omega
 unfold atI;rw [e];show (xs ++ [v])[xs.length]?=some v;simp
def Qg2 (b:Expr):Prop:=∀ o i,subscripted b false o i=operate [o,i] (getItem o i)
def IxR (X:Cx) (r:R2):Prop:=
 ∀ (value slice:Expr) (pins:List (Addr × Obj)) (s:Shared) (σ:St) (H:Hp) (x y:V) (v u:Value) (Q:VK),Inv X pins σ H s->RelV x v->RelV y u->r x y H Q ->
  subscripted slice false v u=operate [v,u] (getItem v u)->wpAny (model X.prog X.w) X.A (subscriptTail value slice v u) (EP X pins σ Q) X.xe s
def MtR (X:Cx) (id:String) (r:V->List V->Hp->VK->Prop):Prop:=
 ∀ (pins:List (Addr × Obj)) (s:Shared) (σ:St) (H:Hp) (x:V) (xs:List V) (v:Value) (us:List Value) (Q:VK),Inv X pins σ H s->RelV x v->Vals xs us->r x xs H Q ->
  wpAny (model X.prog X.w) X.A (call (.builtin id) (v :: us)) (EP X pins σ Q) X.xe s
section
variable {X:Cx} {a b:Expr} {ta tb:TE} {pos:Pos}
theorem IxR.or {r r':R2} (h:IxR X r) (h':IxR X r'):IxR X (fun x y H Q=>r x y H Q\/r' x y H Q):=by
 intro value slice pins s σ H x y v u Q I rx ry q hs;rcases q with q | q
 ·exact h value slice pins s σ H x y v u Q I rx ry q hs
 ·exact h' value slice pins s σ H x y v u Q I rx ry q hs
theorem Qux {r:R2} (hr:IxR X r) (ha:PE X a ta) (hb:PE X b tb) (hs:Qg2 b):PE X (.Subscript a b pos) (tOp r ta tb):=by
 intro pins s σ H Q I h;exact Subscript_ (Qt7 ha hb I h fun v u s2 x y H2 I2 rx ry q=>hr a b pins s2 σ H2 x y v u Q I2 rx ry q (hs _ _))
def Quk (K:PySem.W.Frag):R2:=fun x y H Q=>∃ p xs i v,x=.ref p/\y=.int i/\SqL K H p xs/\atI xs i=some v/\Q v H
def Qui (K:PySem.W.Frag):R2:=fun x y H Q=>∃ p xs i v,x=.ref p/\y=.int i/\SqT K H p xs/\atI xs i=some v/\Q v H
def Quj:R2:=fun x y H Q=>∃ z i c,x=.str z/\y=.int i/\z.length<=sizeLine/\atI z.cps.toList i=some c/\Q (.str ⟨#[c]⟩) H
theorem ix_list:IxR X (Quk X.K):=by
 intro value slice pins s σ H x y v u Q I rx ry h hs;obtain ⟨p,xs,i,z,rfl,rfl,hq,he,q⟩:=h;cases rx;obtain ⟨t,rfl⟩:=ry;obtain ⟨its,r,pl,hz⟩:=I.list hq;obtain ⟨j,h1,h2,h3,h4,h5⟩:=atI_get he;obtain ⟨w,ew,rw'⟩:=r.get h2;have hl:=r.length;have hn:=Q4u;have fin:EP X pins σ Q w s:=⟨z,H,I,rw',q⟩
 by_cases h0:0<=i
 ·have hj:i.toNat=j:=by
   rw [seqIndex_of h0 h5] at h1;exact Option.some.inj h1
  exact item_listR pl.isList h0 (by omega) (by rw [hj]; simpa using ew) fin hs
 ·have hj:(i + (its.toArray.size:Int)).toNat=j:=by
   rw [seqIndex_neg (by omega) h4] at h1;rw [O3,<- hl];exact Option.some.inj h1
  exact subscriptTail_builtinR (x:=w) pl.isList.typeIs slot_list_getitem.lookup
   (wpAny_getItem_list_neg (Q:=fun r s'=>r=w/\EP X pins σ Q r s') pl.isList (by omega) (by rw [O3] <;> omega) (by omega) (by rw [hj]; simpa using ew) ⟨rfl,fin⟩) hs
theorem ix_tup:IxR X (Qui X.K):=by
 intro value slice pins s σ H x y v u Q I rx ry h hs;obtain ⟨p,xs,i,z,rfl,rfl,hq,he,q⟩:=h;cases rx;obtain ⟨t,rfl⟩:=ry;obtain ⟨its,r,pl,hz⟩:=I.tuple hq;obtain ⟨j,h1,h2,h3,h4,h5⟩:=atI_get he;obtain ⟨w,ew,rw'⟩:=r.get h2;have hl:=r.length;have hn:=Q4u;have fin:EP X pins σ Q w s:=⟨z,H,I,rw',q⟩;exact subscriptTail_builtinR (x:=w) pl.typeIs slot_tuple_getitem.lookup
  (getItem_tuple (j:=j) (Q:=fun r s'=>r=w/\EP X pins σ Q r s') pl (by omega) (by omega) (by rw [O3,<- hl]; exact h1) (by simpa using ew) ⟨rfl,fin⟩) hs
theorem Qsx:IxR X Quj:=by
 intro value slice pins s σ H x y v u Q I rx ry h hs;obtain ⟨z,i,c,rfl,rfl,hz,he,q⟩:=h;obtain ⟨t,rfl⟩:=rx;obtain ⟨t',rfl⟩:=ry;obtain ⟨j,h1,h2,h3,h4,h5⟩:=atI_get he;have hl:z.cps.toList.length=z.length:=by simp [Str.length]
 rw [hl] at h1 h4 h5;have hn:=Q4u;exact tail_any (typeIs_str s z t) slot_str_getitem.lookup (getItem_str (c:=c) (by
  have e1:decide (i < -(2 ^ 63:Int))=false:=decide_eq_false (by omega);have e2:decide (i>=2 ^ 63)=false:=decide_eq_false (by omega);rw [e1,e2,Bool.or_false]) (by rw [h1]; simpa using h2) ⟨.str ⟨#[c]⟩,H,I.tok _,⟨_,rfl⟩,q⟩) hs
def rIx (K:PySem.W.Frag):R2:=fun x y H Q=>Quk K x y H Q\/Qui K x y H Q\/Quj x y H Q
theorem Qsy:IxR X (rIx X.K):=ix_list.or (ix_tup.or Qsx)
theorem Qee (its:List Value) (n j:Nat) (u:Value):Obj.mapSeq (·.setIfInBounds j u) { cls:=.type "list",data:=.seq its.toArray n }={ cls:=.type "list",data:=.seq (its.set j u).toArray n }:=by
 simp [Obj.mapSeq]
theorem Inv.lst {pins:List (Addr × Obj)} {σ:St} {H:Hp} {s:Shared} {p:Addr} {xs:List V} (I:Inv X pins σ H s) (h:H p=some (.lst xs)) :
  ∃ (its:List Value) (n:Nat),Vals xs its/\s.heap.get? p=some { cls:=.type "list",data:=.seq its.toArray n }/\xs.length<=sizeLine:=by
 obtain ⟨z,its,n,r,e⟩:=I.hok p _ h;exact ⟨its,n,r,e,z⟩
theorem Inv.lstUpd {pins:List (Addr × Obj)} {σ:St} {H:Hp} {s:Shared} {p:Addr} {xs ys:List V} {its its':List Value} {n n':Nat} {f:Obj->Obj} (I:Inv X pins σ H s) (h:H p=some (.lst xs))
  (ho:s.heap.get? p=some { cls:=.type "list",data:=.seq its.toArray n }) (hf:f { cls:=.type "list",data:=.seq its.toArray n }={ cls:=.type "list",data:=.seq its'.toArray n' }) (r:Vals ys its') (hz:ys.length<=sizeLine) (t:Nat) :
  Inv X pins σ (upd H p (.lst ys)) { s with heap:=s.heap.update p f,toks:=t }:=by
 have e:(s.heap.update p f).get? p=some { cls:=.type "list",data:=.seq its'.toArray n' }:=by
  rw [F9 f ho (by rw [hf] <;> rfl),hf]
 refine I.write (x:=p) (e:=p) (by rw [h]; trivial) (.inl rfl) (fun b u hb q=>(E5 _ _ (Ne.symm hb)).trans q) ⟨_,e⟩ ?_
 exact ⟨hz,its',n',r,e⟩
def Qug:V->V->V->Hp->(Hp->Prop)->Prop:=fun o i v H Q=>∃ p xs k j,o=.ref p/\i=.int k/\H p=some (.lst xs)/\ixN xs.length k=some j/\Q (upd H p (.lst (xs.set j v)))
theorem Qik:Qwb X Qug:=by
 intro pins s σ H o i v ov iv u Q I ro ri rv h;obtain ⟨p,xs,k,j,rfl,rfl,hp,hj,q⟩:=h;cases ro;obtain ⟨t,rfl⟩:=ri;obtain ⟨its,n,r,ho,hz⟩:=I.lst hp;obtain ⟨h1,h2,h3,h4⟩:=Qfs hj;have hl:=r.length;have hn:=Q4u;have I':Inv X pins σ (upd H p (.lst (xs.set j v))) { s with heap:=s.heap.update p (Obj.mapSeq (·.setIfInBounds j u)) }:=
  I.lstUpd hp ho (Qee its n j u) (r.set rv j) (by rw [D5]; exact hz) s.toks
 by_cases h0:0<=k
 ·have hk:k.toNat=j:=by
   rw [seqIndex_of h0 h4] at h1;exact Option.some.inj h1
  exact PySem.W.ki_setAt ho h0 (by omega) (by rw [O3,<- hl]; exact h4) (by rw [hk]; exact ⟨_,I',q⟩)
 ·have hk:(k + (its.toArray.size:Int)).toNat=j:=by
   rw [seqIndex_neg (by omega) h3] at h1;rw [O3,<- hl];exact Option.some.inj h1
  exact PySem.W.ki_setBack ho (by omega) (by rw [O3,<- hl]; exact h3) (by omega) (by rw [hk]; exact ⟨_,I',q⟩)
theorem Qau (lo hi:Option Int) (n:Nat):(sliceBounds lo hi none n).1=((HT.sIx n 0 lo:Nat):Int)/\(sliceBounds lo hi none n).2.1=((HT.sIx n n hi:Nat):Int)/\(sliceBounds lo hi none n).2.2=1:=by
 refine ⟨?_,?_,rfl⟩
 ·cases lo with
  | none=>simp [sliceBounds,HT.sIx]
  | some i=>
   simp only [sliceBounds,HT.sIx,Option.getD_none,show (1:Int) > 0 by decide,if_true]
   by_cases h:i < 0
   ·simp only [h,if_true] <;> omega
   ·simp only [h,if_false] <;> omega
 ·cases hi with
  | none=>simp [sliceBounds,HT.sIx]
  | some i=>
   simp only [sliceBounds,HT.sIx,Option.getD_none,show (1:Int) > 0 by decide,if_true]
   by_cases h:i < 0
   ·simp only [h,if_true] <;> omega
   ·simp only [h,if_false] <;> omega
theorem Q8r (its:List Value) (lo hi:Option Int):slicePick its.toArray lo hi none=((its.drop (HT.sIx its.length 0 lo)).take (HT.sIx its.length its.length hi - HT.sIx its.length 0 lo)).toArray:=by
 obtain ⟨h1,h2,h3⟩:=Qau lo hi its.toArray.size;unfold slicePick;rw [h1,h2,h3];simp only [sliceRange_one,pick_run,O3] <;> rfl
def Qxn (K:PySem.W.Frag):V->Option Int->Option Int->Hp->VK->Prop:=fun x lo hi H Q=>∃ a xs,x=.ref a/\SqL K H a xs/\∀ p,H p=none->Q (.ref p) (upd H p (.lst (Qdc xs lo hi)))
theorem Qms:SlR X (Qxn X.K):=by
 intro pins s σ H x v vl vu lo hi sl Q I rx hs pl pu h;obtain ⟨a,xs,rfl,hx,q⟩:=h;cases rx;obtain ⟨its,r,ht,hz⟩:=I.list hx;have hlen:=r.length;refine ⟨"list",_,slot_list_getitem.lookup,ht.isList.typeIs,?_⟩;refine wpAny_getItem_list_slice ht.isList hs pl pu .none (by simp) ?_ (by rw [O3] <;> omega);rw [Q8r,<- hlen];refine ⟨.ref s.heap.objs.size,_,I.laid (t':=s.toks) (o:=.lst (Qdc xs lo hi)) (fun b ob q=>O0 _ q) (O7 _) ?_,rfl,q _ (I.hok.fresh (O7 _))⟩;exact ⟨F1 (Q5e xs lo hi) hz,_,0,(r.drop (HT.sIx xs.length 0 lo)).take (HT.sIx xs.length xs.length hi - HT.sIx xs.length 0 lo),D6 _ rfl⟩
theorem Qbp:Ke X (.builtin "len") (fun xs H Q=>∃ p ys,xs=[.ref p]/\(SqL X.K H p ys\/SqT X.K H p ys)/\Q (.int ys.length) H):=by
 intro pins s σ H xs us Q I r h;obtain ⟨p,ys,rfl,hq,q⟩:=h;obtain ⟨u,rfl,rx⟩:=Q28 r;cases rx;have hn:=Q4u;rcases hq with hq | hq
 ·obtain ⟨its,r',pl,hz⟩:=I.list hq;have hlen:=r'.length;exact Calls.call_len_list pl.isList (by simp only [O3] <;> omega) ⟨.int ys.length,H,I.tok _,⟨s.toks + 1,by rw [O3,hlen]⟩,q⟩
 ·obtain ⟨its,r',pl,hz⟩:=I.tuple hq;have hlen:=r'.length;exact len_tuple pl (by simp only [O3] <;> omega) ⟨.int ys.length,H,I.tok _,⟨s.toks + 1,by rw [O3,hlen]⟩,q⟩
theorem Qbn:Ke X (.builtin "len") (fun xs H Q=>∃ z,xs=[.str z]/\z.length<=sizeLine/\Q (.int z.length) H):=by
 intro pins s σ H xs us Q I r h;obtain ⟨z,rfl,hz,q⟩:=h;obtain ⟨u,rfl,t,rfl⟩:=Q28 r;have hn:=Q4u;exact len_str (by omega) ⟨.int z.length,H,I.tok _,⟨_,rfl⟩,q⟩
theorem Qbm:Ke X (.type "list") (fun xs H Q=>∃ p ys,xs=[.ref p]/\(SqL X.K H p ys\/SqT X.K H p ys)/\∀ l,H l=none->Q (.ref l) (upd H l (.lst ys))):=by
 intro pins s σ H xs us Q I r h;obtain ⟨p,ys,rfl,hq,q⟩:=h;obtain ⟨u,rfl,rx⟩:=Q28 r;cases rx;have fin:∀ (its:List Value),Vals ys its->ys.length<=sizeLine->∀ (h':Heap) (c':Nat),(∀ b o',s.heap.get? b=some o'->h'.get? b=some o') ->
   h'.get? s.heap.objs.size=some { cls:=.type "list",dict:=none,data:=.seq its.toArray c',slots:=#[] }->EP X pins σ Q (.ref s.heap.objs.size) { s with heap:=h' }:=fun its r' hz h' c' kp e=>
  ⟨.ref s.heap.objs.size,_,I.laid (t':=s.toks) kp (O7 _) (show ObjOk X.prog X.w _ h' _ (.lst ys) from ⟨hz,its,c',r',e⟩),rfl,q _ (I.hok.fresh (O7 _))⟩
 rcases hq with hq | hq
 ·obtain ⟨its,r',pl,hz⟩:=I.list hq;have hlen:=r'.length;obtain ⟨o,ho,hc,n,hd⟩:=pl.isList;exact call_list_seq p (.inl rfl) ho hc hd (fun h' c' kp e=>fin its r' hz h' c' kp e) (by simp only [O3] <;> omega)
 ·obtain ⟨its,r',pl,hz⟩:=I.tuple hq;have hlen:=r'.length;obtain ⟨o,ho,hc,n,hd⟩:=pl;exact call_list_seq p (.inr rfl) ho hc hd (fun h' c' kp e=>fin its r' hz h' c' kp e) (by simp only [O3] <;> omega)
theorem Q2d:Ke X (.type "tuple") (fun xs H Q=>∃ p ys,xs=[.ref p]/\((SqL X.K H p ys/\∀ l,H l=none->Q (.ref l) (upd H l (.tup ys)))\/(SqT X.K H p ys/\Q (.ref p) H))):=by
 intro pins s σ H xs us Q I r h;obtain ⟨p,ys,rfl,h⟩:=h;obtain ⟨u,rfl,rx⟩:=Q28 r;cases rx;rcases h with ⟨hq,q⟩ | ⟨hq,q⟩
 ·obtain ⟨its,r',pl,hz⟩:=I.list hq;have hlen:=r'.length;refine call_tuple_list pl.isList (fun h' kp=>?_) (by simp only [O3] <;> omega);have I1:Inv X pins σ H { s with heap:=h' }:=I.kept (t':=s.toks) kp;have I2:Inv X pins σ (upd H h'.objs.size (.tup ys)) { s with heap:=h'.push { cls:=.type "tuple",data:=.seq its.toArray } }:=
   I1.laid (t':=s.toks) (fun b o e=>O0 _ e) (O7 _) (show ObjOk X.prog X.w _ _ _ (.tup ys) from ⟨hz,its,r',IsTup.new _ _⟩)
  exact ⟨.ref h'.objs.size,_,I2,rfl,q _ (I1.hok.fresh (O7 _))⟩
 ·obtain ⟨its,r',pl,hz⟩:=I.tuple hq;exact call_tuple_same pl ⟨.ref p,H,I,rfl,q⟩
def tyV (K:PySem.W.Frag) (T:String) (x:V) (H:Hp):Prop:=match x with
 | .str _=>T = "str"
 | .int _=>T = "int"
 | .ref p=>(T = "list" /\ ∃ xs,SqL K H p xs)\/(T = "tuple" /\ ∃ o,K.lookup p=some o/\o.cls=.type "tuple" /\ o.dict=none) \/
   (T = "dict" /\ ((∃ kvs,H p=some (.dK kvs))\/∃ kvs,H p=some (.dT kvs)))\/(T = "set" /\ ∃ S n,H p=some (.set S n))
 | _=>False
theorem Qdq {pins:List (Addr × Obj)} {σ:St} {H:Hp} {s:Shared} {T:String} {x:V} {v:Value} (I:Inv X pins σ H s) (r:RelV x v) (ty:tyV X.K T x H) :
  s.TypeIs v T/\∀ a,v=.ref a->∃ ob,s.heap.get? a=some ob/\ob.dict=none:=by
 cases x with
 | str z=>
  obtain ⟨t,rfl⟩:=r;cases (show T = "str" from ty);exact ⟨typeIs_str s z t,fun _ e=>nomatch e⟩
 | int i=>
  obtain ⟨t,rfl⟩:=r;cases (show T = "int" from ty);exact ⟨typeIs_int s i t,fun _ e=>nomatch e⟩
 | ref p=>
  cases r;rcases ty with ⟨rfl,xs,hq⟩ | ⟨rfl,o,hk,hc,hd⟩ | ⟨rfl,hk⟩ | ⟨rfl,S,n,hk⟩
  ·obtain ⟨its,_,pl,_⟩:=I.list hq;refine ⟨pl.isList.typeIs,fun a e=>?_⟩;cases e;obtain ⟨o,n,e,c,hd,_⟩:=pl;exact ⟨o,e,hd⟩
  ·refine ⟨⟨o,I.kIn p o hk,hc⟩,fun a e=>?_⟩
   cases e;exact ⟨o,I.kIn _ o hk,hd⟩
  ·have z:∃ o,s.heap.get? p=some o/\o.ExactDict:=by
    rcases hk with ⟨kvs,hk⟩ | ⟨kvs,hk⟩
    ·obtain ⟨_,_,_,_,o,_,_,e,ex,_⟩:=I.hok p _ hk;exact ⟨o,e,ex⟩
    ·obtain ⟨_,_,_,_,o,_,_,e,ex,_⟩:=I.hok p _ hk;exact ⟨o,e,ex⟩
   obtain ⟨o,e,ex⟩:=z;refine ⟨⟨o,e,ex.1⟩,fun a e2=>?_⟩
   cases e2;exact ⟨o,e,ex.2.1⟩
  ·obtain ⟨o,_,_,_,e,ex,_⟩:=I.hok p _ hk;refine ⟨⟨o,e,ex.1⟩,fun a e2=>?_⟩
   cases e2;exact ⟨o,e,ex.2.1⟩
 | _=>exact False.elim ty
def tBM (K:PySem.W.Frag) (T:String) (r:V->List V->Hp->VK->Prop) (to:TE) (t:TA):TE:=fun σ H Q=>to σ H fun x H1=>tyV K T x H1/\t σ H1 fun xs H2=>r x xs H2 Q
variable {o e:Expr} {es:List Expr} {to:TE} {t:TA} {name:Str} {apos cpos:Pos} {T id:String} {r:V->List V->Hp->VK->Prop}
theorem Quy (pa:PlainAttrs T) (slot:Slot T name id) (hty:typeOf (.builtin id)=pure (.type "method_descriptor")) (hm:MtR X id r) (ho:PE X o to) (ha:PA X (e :: es) t)
  (hbase:attributeBase o name X.env (eval o X.env)=eval o X.env:=by rfl)
  (hfew:((backTo cpos (starEach (e :: es) X.env)).all (fun x=>!x.1) && (backToKw cpos (keywordEach [] X.env)).all (fun x=>x.1.isSome)
   && decide ((e :: es).length + ([]:List Keyword).length + (if ([]:List Keyword).isEmpty then 0 else 1) < 30))=true:=by rfl)
  (hline:(apos.endLine == cpos.line)=true:=by rfl) (hs:starEach (e :: es) X.env=(false,eval e X.env) :: starEach es X.env:=by rfl) (hplain:(backTo cpos (starEach es X.env)).any (·.1)=false:=by rfl) :
  PE X (.Call (.Attribute o name apos) (e :: es) [] cpos) (tBM X.K T r to t):=by
 intro pins s σ H Q I h;refine wpAny_Call_method_late hbase hfew hline rfl (thn (ho pins s σ H _ I h) fun v s1 ⟨x,H1,I1,r1,ty,q1⟩=>?_)
 obtain ⟨h1,h2⟩:=Qdq I1 r1 ty;refine ⟨T,id,pa,slot,hty,h1,h2,?_⟩;have hA:=ha cpos pins s1 σ H1 _ I1 q1;rw [hs] at hA ⊢;refine Calls.callWith_builtin (by show (false || (backTo cpos (starEach es X.env)).any (·.1))=false; rw [hplain] <;> rfl) (Calls.evalArgs_plain ?_);exact thn hA fun us s2 ⟨vs,H2,I2,r2,q2⟩=>hm pins s2 σ H2 x vs v us Q I2 r1 r2 q2
end
def MtM (X:Cx) (id:String) (r:V->List V->Hp->VK->Prop):Prop:=
 ∀ (pins:List (Addr × Obj)) (s:Shared) (σ:St) (H:Hp) (x:V) (xs:List V) (v:Value) (us:List Value) (Q:VK),Inv X pins σ H s->RelV x v->Vals xs us->r x xs H Q ->
  wpAny (model X.prog X.w) X.A (call (.builtin id) (v :: us)) (EP X pins σ Q) X.xe s
theorem Vals.one:∀ {x:V} {us:List Value},Vals [x] us->∃ u,us=[u]/\RelV x u
 | _,_,.cons r .nil=>⟨_,rfl,r⟩
theorem Vals.zero:∀ {us:List Value},Vals [] us->us=[]
 | _,.nil=>rfl
theorem Vals.rep {xs:List V} {us:List Value} (h:Vals xs us):∀ k:Nat,Vals (List.replicate k xs).flatten (List.replicate k us).flatten
 | 0=>.nil
 | k + 1=>by
  rw [List.replicate_succ,List.replicate_succ,List.flatten_cons,List.flatten_cons];exact Vals.append h (Vals.rep h k)
theorem Q51 (its:List Value):∀ (k:Nat) (acc:List Value),
  List.foldl (fun x1 x2=>x1 ++ x2) acc.toArray (List.replicate k its.toArray)=(acc ++ (List.replicate k its).flatten).toArray
 | 0,acc=>by simp
 | k + 1,acc=>by
  have e:acc.toArray ++ its.toArray=(acc ++ its).toArray:=by simp
  have e2:(acc ++ its) ++ (List.replicate k its).flatten=acc ++ (List.replicate (k + 1) its).flatten:=by
   rw [List.replicate_succ,List.flatten_cons,List.append_assoc]
  rw [<- e2,<- Q51 its k (acc ++ its),<- e,List.replicate_succ,List.foldl_cons]
section
variable {X:Cx} {pins:List (Addr × Obj)} {σ:St} {H:Hp} {s:Shared} {l b:Addr} {xs ys zs:List V}
theorem Inv.lset {its its':List Value} {n:Nat} {f:Array Value->Array Value} {t':Nat} (I:Inv X pins σ H s) (hH:H l=some (.lst xs))
  (e:s.heap.get? l=some { cls:=.type "list",data:=.seq its.toArray n }) (hf:f its.toArray=its'.toArray) (hv:Vals ys its') (hz:ys.length<=sizeLine) :
  Inv X pins σ (upd H l (.lst ys)) { s with heap:=s.heap.update l (Obj.mapSeq f),toks:=t' }:=by
 have q:=PySem.IsL.update e f;rw [hf] at q;refine I.write (x:=l) (e:=l) (by rw [hH]; exact trivial) (.inl rfl) (fun b' u hb hu=>(E5 s.heap (Obj.mapSeq f) (Ne.symm hb)).trans hu) ⟨_,q⟩ ?_
 exact ⟨hz,its',_,hv,q⟩
theorem Inv.lnew {its:List Value} {t':Nat} (I:Inv X pins σ H s) (hv:Vals ys its) (hz:ys.length<=sizeLine) :
  Inv X pins σ (upd H s.heap.objs.size (.lst ys)) { s with heap:=s.heap.push { cls:=.type "list",data:=.seq its.toArray },toks:=t' }:=
 I.laid (fun _ _ q=>O0 _ q) (O7 _) ⟨hz,its,0,hv,D6 _ rfl⟩
theorem Inv.fresh (I:Inv X pins σ H s):H s.heap.objs.size=none:=I.hok.fresh (O7 _)
theorem Inv.lstM (I:Inv X pins σ H s) (hH:H l=some (.lst xs)):xs.length<=sizeLine/\∃ (its:List Value) (n:Nat),Vals xs its/\xs.length=its.length/\s.heap.get? l=some { cls:=.type "list",data:=.seq its.toArray n }:=by
 obtain ⟨z,its,n,r,e⟩:=I.hok l _ hH;exact ⟨z,its,n,r,r.length,e⟩
theorem Qcq {n:Nat} (h:n<=sizeLine):Builtin.List.listTooLong n=false:=by
 unfold Builtin.List.listTooLong;exact decide_eq_false (by omega)
end
section
variable {X:Cx}
def Qn3:V->List V->Hp->VK->Prop:=fun x vs H Q=>∃ l xs y,x=.ref l/\vs=[y]/\H l=some (.lst xs)/\xs.length < sizeLine/\Q .non (upd H l (.lst (xs ++ [y])))
theorem Qh0:MtM X "list.append" Qn3:=by
 intro pins s σ H x vs v us Q I rx rv h;obtain ⟨l,xs,y,rfl,rfl,hH,hz,q⟩:=h;cases rx;obtain ⟨u,rfl,ru⟩:=rv.one;obtain ⟨z,its,n,r,hl,e⟩:=I.lstM hH;refine call_meets F.slot_list_append ⟨_,e,rfl⟩ F.entry_list_append (F.args_list_append_2 _ _) (PySem.list_append l its.toArray n u (by rw [O3]; omega)) ⟨e,?_⟩;refine ⟨.non,_,I.lset (its':=its ++ [u]) hH e (by simp) (r.append (.cons ru .nil)) ?_,rfl,q⟩;rw [O8,List.length_singleton];omega
def Qn2:V->List V->Hp->VK->Prop:=fun x vs H Q=>∃ l b xs zs,x=.ref l/\vs=[.ref b]/\H l=some (.lst xs)/\H b=some (.lst zs)/\xs.length + zs.length<=sizeLine/\Q .non (upd H l (.lst (xs ++ zs)))
theorem Qgy:MtM X "list.extend" Qn2:=by
 intro pins s σ H x vs v us Q I rx rv h;obtain ⟨l,b,xs,zs,rfl,rfl,hH,hB,hz,q⟩:=h;cases rx;obtain ⟨u,rfl,ru⟩:=rv.one;cases ru;obtain ⟨z,its,n,r,hl,e⟩:=I.lstM hH;obtain ⟨z2,its2,n2,r2,hl2,e2⟩:=I.lstM hB;have hsz:its.toArray.size + its2.toArray.size<=sizeLine:=by rw [O3,O3]; omega
 have hlong:¬ (!its.toArray.isEmpty && Builtin.List.listTooLong (its.toArray.size + its2.toArray.size))=true:=by
  rw [Qcq hsz,Bool.and_false];exact D7
 refine call_meets F.slot_list_extend ⟨_,e,rfl⟩ F.entry_list_extend (F.args_list_extend_2 _ _)
  (AutoSeq1.list_extend_list_list_0 l its.toArray n b its2.toArray n2 hlong (by rw [O3]; omega) (by omega)) ⟨e,e2,?_⟩
 refine ⟨.non,_,I.lset (its':=its ++ its2) hH e (by simp) (r.append r2) ?_,rfl,q⟩;rw [O8];omega
def Qrg:V->List V->Hp->VK->Prop:=fun x vs H Q=>∃ l xs,x=.ref l/\vs=[]/\H l=some (.lst xs)/\Q .non (upd H l (.lst []))
theorem Qjr:MtM X "list.clear" Qrg:=by
 intro pins s σ H x vs v us Q I rx rv h;obtain ⟨l,xs,rfl,rfl,hH,q⟩:=h;cases rx;have hus:=rv.zero;subst hus;obtain ⟨z,its,n,r,hl,e⟩:=I.lstM hH;refine call_meets F.slot_list_clear ⟨_,e,rfl⟩ F.entry_list_clear (F.args_list_clear_1 _) (AutoSeq1.list_clear_list_0 l its.toArray n (by rw [O3]; omega)) ⟨e,?_⟩;exact ⟨.non,_,I.lset (its':=[]) (ys:=[]) hH e rfl .nil (Nat.zero_le _),rfl,q⟩
def Qxr:R2:=fun x y H Q=>∃ l b xs zs,x=.ref l/\y=.ref b/\H l=some (.lst xs)/\H b=some (.lst zs)/\xs.length + zs.length<=sizeLine/\∀ p,H p=none->Q (.ref p) (upd H p (.lst (xs ++ zs)))
theorem Qsb:OpR X (binaryOp .Add) Qxr:=by
 intro pins s σ H x y v u Q I rx ry h;obtain ⟨l,b,xs,zs,rfl,rfl,hH,hB,hz,q⟩:=h;cases rx;cases ry;obtain ⟨z,its,n,r,hl,e⟩:=I.lstM hH;obtain ⟨z2,its2,n2,r2,hl2,e2⟩:=I.lstM hB;refine PySem.P.add_list e e2 ?_ (by rw [O3,O3]; omega);have ea:its.toArray ++ its2.toArray=(its ++ its2).toArray:=by simp
 rw [ea];exact ⟨.ref _,_,I.lnew (t':=s.toks) (r.append r2) (by rw [O8]; omega),rfl,q _ I.fresh⟩
def Qxp:R2:=fun x y H Q=>∃ l k xs,x=.ref l/\y=.int k/\H l=some (.lst xs)/\-(2 ^ 63)<=k/\k < 2 ^ 63/\xs.length * k.toNat<=sizeLine /\
 ∀ p,H p=none->Q (.ref p) (upd H p (.lst (List.replicate k.toNat xs).flatten))
theorem Qb9 {α:Type} (xs:List α) (k:Nat):(List.replicate k xs).flatten.length=k * xs.length:=by
 induction k with
 | zero=>simp
 | succ k ih=>rw [List.replicate_succ,List.flatten_cons,O8,ih,Nat.succ_mul,Nat.add_comm]
theorem Qs6:OpR X (binaryOp .Mult) Qxp:=by
 intro pins s σ H x y v u Q I rx ry h;obtain ⟨l,k,xs,rfl,rfl,hH,h1,h2,hz,q⟩:=h;cases rx;obtain ⟨t,rfl⟩:=ry;obtain ⟨z,its,n,r,hl,e⟩:=I.lstM hH;have hlen:its.toArray.size * k.toNat<=sizeLine:=by rw [O3,<- hl]; exact hz
 have hcap:¬ its.toArray.size * k.toNat > (2 ^ 63 - 1) / 8:=by
  have:(sizeLine:Nat)<=(2 ^ 63 - 1) / 8:=by decide
  omega
 have hfit:¬ (!Builtin.List.listFitsIndex k)=true:=by
  rw [fitsIndex_both h1 h2];exact D7
 have hlong:¬ Builtin.List.listTooLong (its.toArray.size * k.toNat)=true:=by
  rw [Qcq hlen];exact D7
 have hnew:List.foldl (fun x1 x2=>x1 ++ x2) #[] (List.replicate (if its.toArray.isEmpty=true then 0 else k.toNat) its.toArray)=(List.replicate k.toNat its).flatten.toArray:=by
  have f0:∀ m:Nat,List.foldl (fun x1 x2=>x1 ++ x2) #[] (List.replicate m its.toArray)=(List.replicate m its).flatten.toArray:=fun m=>by
   have:=Q51 its m [];rw [List.nil_append] at this;exact this
  rw [f0];cases its with
  | nil=>simp
  | cons a r'=>rw [if_neg (by simp)]
 refine wpAny_binaryOp_repeat_ref (T := "list") (U := "int") (by decide) ⟨_,e,rfl⟩ (fun s'=>typeIs_int s' k t) noFill_list_mul F.fills_int_mul F.slot_int_rmul repeat_list F.slot_int_index.lookup
  (call_meets F.slot_int_rmul (typeIs_int s k t) F.entry_int_rmul (F.args_int_rmul_2 _ _) (int___rmul___int_list k t l its.toArray n)
   ⟨e,rfl,⟨_,e,rfl⟩,call_meets F.slot_list_mul ⟨_,e,rfl⟩ F.entry_list_mul (F.args_list_mul_2 _ _) (AutoListH.list___mul___list_int_3 l its.toArray n k t hfit hcap hlong) ⟨e,?_⟩⟩)
 rw [hnew];exact ⟨.ref _,_,I.lnew (t':=s.toks) (r.rep k.toNat) (by rw [Qb9,Nat.mul_comm]; exact hz),rfl,q _ I.fresh⟩
end
section
variable {prog:Program} {w:World} {A:Around} {E:Value->Shared->Prop} {s:Shared}
end
section
variable {X:Cx}
end
end L2
namespace Att
open PySem PySem.W PySem.Calls PyProof.Rows
theorem Q5w {P:Params} {h:Heap}:∀ (ns:List Int) (vs:List Value),WellAll P h vs (ns.map WData.int)->IntsAre vs ns:=by
 intro ns
 induction ns with
 | nil=>
  intro vs w;rw [List.map_nil] at w;cases w;exact .nil
 | cons n ns ih=>
  intro vs w;rw [F2] at w;cases w with
  | cons a b=>
   cases a;exact .cons _ _ (ih _ b)
theorem Qgc {l:OpenLaw} {n:Nat} (hn:l.most=some n) {P:Params} {h:Heap} {args:List WData} {vals:List Value}
  (hpre:l.row.toRowW.claim.pre args=true) (hwl:WellAll P h vals args) :
  ∃ a vs ns,vals=[Value.ref a]/\args=[WData.list (ns.map WData.int)]/\h.get? a=some { cls:=.type "list",data:=.seq vs.toArray }/\IntsAre vs ns/\ns.length<=n:=by
 have hsh:WShape.hasAll [] args [.list .int]=true:=(pre_splitW hpre).1;have hc:l.pre.holds [] { args:=args }=true:=(pre_splitW hpre).2;obtain ⟨d,r,rfl,h1,h2⟩:=hasAllW_cons hsh;obtain rfl:=hasAllW_nil h2;obtain ⟨xs,rfl,h3⟩:=hasW_list h1;obtain ⟨ns,rfl⟩:=items_int h3;have hlen:ns.length<=n:=by
  unfold OpenLaw.pre at hc;have h4:(WTm.not (.lt (.lit (.int (n:Int))) (.len (.arg 0)))).holds [] { args:=[.list (ns.map .int)] }=true:=by
   have h4:=(holds_andW hc).1;rw [hn] at h4;exact h4
  have h5:=condW_of h4 (w_not (w_lt w_lit (w_len_list (w_arg rfl))));rw [O2] at h5;refine Nat.le_of_not_lt fun q=>?_
  have q':(n:Int) < ((ns.length:Nat):Int):=by omega
  first
   | (rw [decide_eq_true q'] at h5; exact absurd h5 (by decide))
   | (simp at h5; omega)
 cases hwl with
 | cons w1 w2=>
  cases w2;cases w1 with
  | list ho hall=>exact ⟨_,_,ns,rfl,rfl,ho,Q5w ns _ hall,hlen⟩
theorem Qgk (l:OpenLaw) (args:List WData):l.row.toRowW.claim.post args (.bool true) args=true:=
 postW_of (r:=l.row.toRowW) (X:=(true == true))
  (show WShape.has [] (.bool true) .bool=true by first | rfl | decide | simp [WShape.has,WShape.arms,WShape.armsAll])
  (show (WTm.eq .res (.lit (.bool true))).value [] { args:=args,res:=some (.bool true),after:=args }=some (.bool (true == true)) from w_eq_bool (w_res rfl) w_lit) rfl
theorem attach_call {l:OpenLaw} {n:Nat} {q:Program} {loose:List Str} {XP:(Str->Option Value)->Heap->Prop} {YP:World->Heap->Prop} {d:DefRec}
  (hn:l.most=some n) (hdf:d.params.defaults=[])
  (call:∀ (w:World) (s₀ s₁:Shared) (mg mb:Str->Option Value) (fa:Addr) (o:Obj) (pm cd doc:Value) (a:Addr) (vs:List Value) (ns:List Int),
   Ground q loose [] XP w s₀ mg mb s₁.heap->YP w s₁.heap ->
   s₁.heap.get? fa=some o->o.data=.func (docDef d.name d.params d.body d.scope pm cd doc)->s₁.heap.CodeRec cd d.name->mg d.name=some (.ref fa) ->
   s₁.heap.get? a=some { cls:=.type "list",data:=.seq vs.toArray }->IntsAre vs ns->ns.length<=n->s₁.gens=#[] ->
   codeAny (model l.prog w) callerA (.call (.ref fa) ⟨[.ref a],[]⟩) (fun r s'=>r=.ok (.ret (.bool true))/\OldK s₁.heap s'.heap/\s'.os=s₁.os/\AllBare s'.gens) s₁) :
  WalkO q loose XP YP l.row.toRowW d [] (fun f vs=>PySem.call f vs):=by
 intro w s₀ s₁ mg mb G Y fa o pm cd doc dV kV ho hd hcd hD hmg hg args vals as hpre hlay hrd hwl hlo;obtain rfl:dV=.none:=Dflts.none hD hdf;obtain rfl:kV=.none:=Dflts.noKw hD;obtain ⟨a,vs,ns,rfl,rfl,hobj,hints,hlen⟩:=Qgc hn hpre hwl;refine enter_call (codeAny_mono (call w s₀ s₁ mg mb fa o pm cd doc a vs ns G Y ho (fd_plain hd) hcd hmg hobj hints hlen hg) fun r s' hq=>?_)
 obtain ⟨rfl,h2,h3,h4⟩:=hq;exact ⟨.inl ⟨.bool true,.bool true,[],rfl,fun _=>rfl,.bool true,Qgk l _,fun _=>⟨List.Pairwise.nil,fun _ hm=>(nomatch hm)⟩⟩,h2,h3,h4⟩
section
variable {prog:Program} {w:World} {A:Around} {E:Value->Shared->Prop} {s:Shared} {K:Frag}
end
end Att
namespace L2
open PySem PySem.Spec PyProof.Rows
theorem Q9p:∀ {vs:List Value} {ns:List Int},IntsAre vs ns->Vals (ns.map V.int) vs
 | _,_,.nil=>.nil
 | _,_,.cons n t h=>.cons ⟨t,rfl⟩ (Q9p h)
def Qtd (H:Hp):Prop:=∀ b,H b=none\/∃ o xs,H b=some (.frz o (.lst xs))
theorem Qk1 {P:Program} {w:World} {K:PySem.W.Frag} {mg mb:Str->Option Value} {CX:CXT} {k:Nat} {fa a:Addr} {fd:FuncData} {x:Str} {sp:Sp} {s₁:Shared} {vs:List Value} {ns:List Int}
  (KX:K.In s₁.heap) (hns:s₁.heap.Ns mainGlobals mg) (hb:s₁.heap.Ns builtinsNs mb) (hbb:∀ x:Str,x≠"__name__" -> mb x=bootBuiltins x) (hlim:s₁.heap.NoLimit) (hg:s₁.gens=#[])
  (ha:s₁.heap.get? a=some { cls:=.type "list",data:=.seq vs.toArray }) (hi:IntsAre vs ns) (hl:ns.length<=sizeLine) (hr:Room k callerA)
  (F:∀ base:Heap,K.In base->base.Ns mainGlobals mg->FnOk P w K mg base CX k fa fd [x] sp) (hbind:∀ (s:Shared) (u:Value),BindsTo s fd ⟨[u],[]⟩ [(x,u)])
  (hsp:∀ H:Hp,Qtd H->SqL K H a (ns.map V.int)->sp [.ref a] H (fun v _=>v=.bl true) fun _ _ _=>False)
  (hCX:∀ H e s',CX [] H s₁ (fun _ _ _=>False) e s'->False) :
  codeAny (model P w) callerA (.call (.ref fa) ⟨[.ref a],[]⟩) (fun r s'=>r=.ok (.ret (.bool true))/\OldK s₁.heap s'.heap/\s'.os=s₁.os/\AllBare s'.gens) s₁:=by
 have rv:=Q9p hi;have lenV:=hi.length;have core:∀ H:Hp,Qtd H->SqL K H a (ns.map V.int)->HOk P w H s₁.heap->(∀ b,H b≠none->b=a)->(H a≠none->K.lookup a=none) ->
   codeAny (model P w) callerA (.call (.ref fa) ⟨[.ref a],[]⟩) (fun r s'=>r=.ok (.ret (.bool true))/\OldK s₁.heap s'.heap/\s'.os=s₁.os/\AllBare s'.gens) s₁:=by
  intro H hO hS hok hA hK;have base_of:∀ {b:Addr} {o:Obj},s₁.heap.get? b=some o->H b=none->(Qbd s₁.heap H).get? b=some o:=fun e n=>Qk5 e n
  have noA:∀ {b:Addr} {o:Obj} {es:Array DictEntry} {ep:Nat},s₁.heap.get? b=some o->o.data=.dict es ep->H b=none:=fun {b o es ep} e d=>by
   cases q:H b with
   | none=>rfl
   | some u=>
    have e':b=a:=hA b (by rw [q]; simp);subst e';rw [ha] at e; cases e;have d':Data.seq vs.toArray _=Data.dict es ep:=d;cases d'
  have nsK:∀ {b:Addr} {m:Str->Option Value},s₁.heap.Ns b m->(Qbd s₁.heap H).Ns b m:=fun {b m} ⟨o,es,ep,e,d,r⟩=>⟨o,es,ep,base_of e (noA e d),d,r⟩
  have hKb:K.In (Qbd s₁.heap H):=fun b o e=>base_of (KX b o e) (by
   cases q:H b with
   | none=>rfl
   | some u=>
    have e':b=a:=hA b (by rw [q]; simp);subst e';rw [hK (by rw [q]; simp)] at e; cases e)
  have hM:Mod K mg (Qbd s₁.heap H):=⟨hKb,nsK hns,⟨mb,nsK hb,hbb⟩,let ⟨mc,h1,h2⟩:=hlim; ⟨mc,nsK h1,h2⟩⟩;have e0:Env0 P w K mg (Qbd s₁.heap H) callerA [] s₁ H:=⟨rfl,hM,fun b o e=>Qp0 e,Nat.le_of_eq (Qhg _ _),trivial,fun b hb=>absurd (show b∈([]:List Addr) from hb) (by simp),hok,.of_eq hg⟩;refine codeAny_mono ((F _ hKb (nsK hns)).run callerA [] s₁ H ⟨[.ref a],[]⟩ [.ref a] [.ref a] _ _ hr e0 (hbind s₁ (.ref a)) (.cons rfl .nil) (hsp H hO hS)) fun r s' h=>?_
  cases r with
  | error e=>exact (hCX H e s' h).elim
  | ok fl=>
   cases fl with
   | next=>exact False.elim h
   | brk=>exact False.elim h
   | cont=>exact False.elim h
   | ret u=>
    obtain ⟨v,H',os,bare,un,hok',r',q⟩:=h;have q':v=.bl true:=q;subst q';obtain rfl:u=Value.bool true:=r';refine ⟨rfl,OldK.of_keep fun b o e=>?_,os,bare⟩;cases q:H b with
    | none=>exact un.keep b o e q (by intro z; exact absurd (show b∈([]:List Addr) from z) (by simp)) (by simp)
    | some u=>
     rcases hO b with z | ⟨ob,xs,z⟩
     ·rw [q] at z; cases z
     ·have z2:=un.frzs b ob _ z;obtain ⟨e1,_⟩:=hok b _ z;obtain ⟨e2,_⟩:=hok' b _ z2;rw [e] at e1; cases e1;exact e2
 cases hk:K.lookup a with
 | some o=>
  have e:=KX a o hk;rw [ha] at e;cases e;refine core (fun _=>none) (fun _=>.inl rfl) (.inr ⟨_,vs.toArray,_,hk,rfl,rfl,rfl,by rw [O3,lenV]; exact hl,by simpa using rv⟩) (fun b u z=>by have z':(none:Option HO)=some u:=z; cases z') (fun b z=>absurd rfl z) fun z=>absurd rfl z
 | none=>
  refine core (fun b=>if b=a then some (.frz { cls:=.type "list",data:=.seq vs.toArray } (.lst (ns.map V.int))) else none) (fun b=>?_) (.inl (.inr ⟨{ cls:=.type "list",data:=.seq vs.toArray },if_pos rfl⟩)) (fun b u z=>?_) (fun b z=>?_) fun _=>hk
  ·by_cases hb:b=a
   ·exact .inr ⟨_,_,if_pos hb⟩
   ·exact .inl (if_neg hb)
  ·by_cases hb:b=a
   ·have z':=(if_pos hb).symm.trans z;cases z';subst hb;exact ⟨ha,by rw [O2]; exact hl,vs,_,rv,ha⟩
   ·have z':=(if_neg hb).symm.trans z;cases z'
  ·by_cases hb:b=a
   ·exact hb
   ·exact absurd (if_neg hb) z
theorem walk_of {l:PySem.W.OpenLaw} {n k:Nat} {q:Program} {loose:List Str} {XP:(Str->Option Value)->Heap->Prop} {YP:World->Heap->Prop} {d:DefRec} {K:Params->PySem.W.Frag} {CX:World->CXT} {sp:World->Sp} {x:Str}
  (hn:l.most=some n) (hn2:n<=sizeLine) (hdf:d.params.defaults=[]) (hr:Room k callerA)
  (hY:∀ (w:World) (h:Heap),YP w h->(K w.params).In h)
  (F:∀ (w:World) (mg:Str->Option Value) (fa:Addr) (h:Heap),(K w.params).In h->h.Ns mainGlobals mg->mg d.name=some (.ref fa) ->
   ∃ fd:FuncData,(∀ (s:Shared) (u:Value),BindsTo s fd ⟨[u],[]⟩ [(x,u)]) /\
    ∀ base:Heap,(K w.params).In base->base.Ns mainGlobals mg->FnOk l.prog w (K w.params) mg base (CX w) k fa fd [x] (sp w))
  (hsp:∀ (w:World) (H:Hp) (a:Addr) (ns:List Int),ns.length<=n->Qtd H->SqL (K w.params) H a (ns.map V.int)->sp w [.ref a] H (fun v _=>v=.bl true) fun _ _ _=>False)
  (hCX:∀ (w:World) (H:Hp) (s:Shared) (e:Value) (s':Shared),CX w [] H s (fun _ _ _=>False) e s'->False) :
  PySem.W.WalkO q loose XP YP l.row.toRowW d [] (fun f vs=>PySem.call f vs):=by
 refine Att.attach_call hn hdf fun w s₀ s₁ mg mb fa o pm cd doc a vs ns G Y ho hd hcd hmg hobj hints hlen hg=>?_
 have KX:=hY w _ Y;obtain ⟨fd,hb,hF⟩:=F w mg fa _ KX G.T.g hmg;exact Qk1 KX G.T.g G.T.b G.T.builtins G.T.nolimit hg hobj hints (F1 hlen hn2) hr hF hb (fun H hO hS=>hsp w H a ns hlen hO hS) fun H e s'=>hCX w H s₁ e s'
def X5 (s:Stmt) (j:Nat):Stmt:=match s with
 | .ClassDef _ _ _ body _ _ _ _ _ _ _=>body.getD j (.Pass ⟨0,0,0,0⟩)
 | _=>.Pass ⟨0,0,0,0⟩
def Wm (s:Stmt):Arguments:=match s with
 | .FunctionDef _ a _ _ _ _ _ _ _ _=>a
 | _=>{ posonlyargs:=[],args:=[],vararg:=none,kwonlyargs:=[],kw_defaults:=[],kwarg:=none,defaults:=[] }
def Yh (s:Stmt):List Stmt:=match s with
 | .FunctionDef _ _ b _ _ _ _ _ _ _=>b
 | _=>[]
def Q8 (s:Stmt):Scope:=match s with
 | .FunctionDef _ _ _ _ _ _ sc _ _ _=>sc
 | _=>{ kind:=.function,names:=[],isGenerator:=false,isCoroutine:=false }
abbrev CX0:CXT:=fun _ _ _ _ _ _=>False
abbrev E0:XK:=fun _ _ _=>False
structure Fun (K:PySem.W.Frag) (x qual:Str) (st:Stmt) (f:Addr) (fd:FuncData):Prop where
 ex:∃ (oc:Value) (od:Option Addr) (kV doc pm:Value) (an:Option Addr) (cdv ct:Value) (osl:Array (Option Value)),
  fd=PySem.W.fnOf x qual (Wm st) (Yh st) (Q8 st) .none kV doc pm an cdv ct/\K.lookup f=some ⟨oc,od,.func fd,osl⟩/\PySem.W.codeIn K cdv qual=true
 kp:PySem.W.keepIn K (.ref f)=true
section
variable {P:Program} {w:World} {K:PySem.W.Frag} {mg:Str->Option Value} {base:Heap}
theorem Fun.ok {x qual:Str} {st:Stmt} {f:Addr} {fd:FuncData} {N ps:List Str} {k:Nat} {sp:Sp} (F:Fun K x qual st f fd) (S:FnScope N ps (Q8 st)) (len:∀ vs H Q E,sp vs H Q E->vs.length=ps.length)
  (hbody:∀ (cdv:Value) (A:Around) (outer:List Env) (s:Shared) (H:Hp) (vs:List V) (Q:VK) (E:XK),Room k (A.deeper (envOfC qual (Q8 st) s.heap.objs.size f cdv))->sp vs H Q E ->
   ∃ t,PSs (Qeu CX0 P w K mg base N qual (Q8 st) f cdv A outer s H E).nox (Yh st) t/\t { nx:=fun _ H'=>Q .non H',rt:=Q } (start N vs) H):FnOk P w K mg base CX0 (k + 1) f fd ps sp:=by
 obtain ⟨oc,od,kV,doc,pm,an,cdv,ct,osl,rfl,lk,hcd⟩:=F.ex;refine Qqs lk hcd S len fun A outer s H vs Q E hr hsp=>?_
 obtain ⟨t,h,q⟩:=hbody cdv A outer s H vs Q E hr hsp;exact ⟨t,h.nox,q⟩
theorem Fun.binds {x qual:Str} {st:Stmt} {f:Addr} {fd:FuncData} {ps:List Str} (F:Fun K x qual st f fd)
  (h:∀ (kV doc pm:Value) (an:Option Addr) (cdv ct:Value) (us:List Value),us.length=ps.length->bindArgs (PySem.W.fnOf x qual (Wm st) (Yh st) (Q8 st) .none kV doc pm an cdv ct) ⟨us,[]⟩=pure (ps.zip us)):Binds K fd ps []:=by
 obtain ⟨oc,od,kV,doc,pm,an,cdv,ct,osl,rfl,lk,hcd⟩:=F.ex;exact .all (h kV doc pm an cdv ct)
theorem Qer {x qual:Str} {st:Stmt} {f:Addr} {oc:Value} {od an:Option Addr} {osl:Array (Option Value)} {kV doc pm cdv ct:Value} (l:K.lookup f=some ⟨oc,od,.func (PySem.W.fnOf x qual (Wm st) (Yh st) (Q8 st) .none kV doc pm an cdv ct),osl⟩)
  (c:PySem.W.codeIn K cdv qual=true) (k:PySem.W.keepIn K (.ref f)=true):Fun K x qual st f (PySem.W.fnOf x qual (Wm st) (Yh st) (Q8 st) .none kV doc pm an cdv ct):=⟨⟨oc,od,kV,doc,pm,an,cdv,ct,osl,rfl,l,c⟩,k⟩
end
section
variable {X:Cx}
theorem pv (i:Nat) {x:Str} {pos:Pos} (hN:X.N[i]?=some x:=by rfl) (hv:Vis X.env.scope x:=by first | exact Or.inl rfl | exact Or.inr (Or.inl rfl) | exact Or.inr (Or.inr rfl)) (hd:(x == ("__debug__" : Str))=false:=by decide)
  (hcd:(x == ("__classdict__" : Str))=false:=by decide):PE X (.Name x pos) (Qr5 i):=Qj9 hN hv hd hcd
end
def Same (H H':Hp):Prop:=∀ b o,H b=some o->H' b=some o
theorem Same.refl (H:Hp):Same H H:=fun _ _ h=>h
section
variable {X:Cx} {tg:Expr}
end
theorem Qev {scope:Scope} {env:Env} (h:∀ x∈scope.names,x.2=.free->∃ c,env.cells.lookup x.1=some c) :
  ∃ cl,closureFor scope env=pure cl/\(∀ x c,cl.lookup x=some c->env.cells.lookup x=some c)/\(∀ x∈scope.names,x.2=.free->∃ c,cl.lookup x.1=some c):=by
 have key:∀ (l:List (Str × NameKind)) (acc:List (Str × Addr)),(∀ x∈l,x.2=.free->∃ c,env.cells.lookup x.1=some c)->(∀ x c,acc.lookup x=some c->env.cells.lookup x=some c) ->
   ∃ cl,(forIn l acc fun (x:Str × NameKind) (r:List (Str × Addr))=>(match x with
    | (name,kind)=>if (kind == NameKind.free)=true then (do let c <- cellOf env name; pure (ForInStep.yield ((name,c) :: r))) else (do pure PUnit.unit; pure (ForInStep.yield r)):Sem (ForInStep (List (Str × Addr)))))=pure cl /\
    (∀ x c,cl.lookup x=some c->env.cells.lookup x=some c)/\(∀ x∈l,x.2=.free->∃ c,cl.lookup x.1=some c)/\(∀ x c,acc.lookup x=some c->∃ c',cl.lookup x=some c'):=by
  intro l
  induction l with
  | nil=>intro acc _ ha; exact ⟨acc,rfl,ha,fun x hx=>(by simp at hx),fun x c e=>⟨c,e⟩⟩
  | cons x r ih=>
   intro acc hl ha;obtain ⟨n,k⟩:=x
   by_cases hk:k=.free
   ·subst hk;obtain ⟨c,hc⟩:=hl (n,.free) D4 rfl;have ha':∀ x c',((n,c) :: acc).lookup x=some c'->env.cells.lookup x=some c':=fun x c' e=>by
     rw [D9] at e
     by_cases hx:x=n
     ·subst hx; simp at e; rw [<- e]; exact hc
     ·have:(x == n)=false:=by simpa using hx
      rw [this] at e; exact ha x c' e
    obtain ⟨cl,e1,e2,e3,e4⟩:=ih ((n,c) :: acc) (fun y hy=>hl y (D0 _ hy)) ha'
    refine ⟨cl,?_,e2,fun y hy hf=>?_,fun y c' e=>?_⟩
    ·rw [List.forIn_cons];have hcell:cellOf env n=pure c:=by unfold cellOf; rw [hc]
     simp only [beq_self_eq_true,if_true,hcell];exact e1
    ·rcases E3.mp hy with e | hy
     ·subst e;exact e4 n c (by simp)
     ·exact e3 y hy hf
    ·by_cases hy:y=n
     ·subst hy; exact e4 y c (by simp)
     ·have:(y == n)=false:=by simpa using hy
      exact e4 y c' (by rw [D9,this]; exact e)
   ·obtain ⟨cl,e1,e2,e3,e4⟩:=ih acc (fun y hy=>hl y (D0 _ hy)) ha
    refine ⟨cl,?_,e2,fun y hy hf=>?_,e4⟩
    ·rw [List.forIn_cons];have:(k == NameKind.free)=false:=by simpa using hk
     simp only [this,Bool.false_eq_true,if_false];exact e1
    ·rcases E3.mp hy with e | hy
     ·subst e; exact absurd hf hk
     ·exact e3 y hy hf
 obtain ⟨cl,e1,e2,e3,_⟩:=key scope.names [] h (fun x c e=>by simp at e);refine ⟨cl,?_,e2,e3⟩;unfold closureFor;exact (congrArg (fun z=>z >>= pure) e1).trans rfl
theorem Q3q (f:Str->NameKind->NameKind) (x:Str):∀ l:List (Str × NameKind),(l.map fun y=>(y.1,f y.1 y.2)).lookup x=(l.lookup x).map (f x)
 | []=>rfl
 | (n,k) :: r=>by
  have ih:=Q3q f x r;rw [F2,D9,D9]
  by_cases hx:x=n
  ·subst hx; simp
  ·have hb:(x == n)=false:=by simpa using hx
   rw [hb]; exact ih
theorem Q0w {scope:Scope} {env:Env} {x:Str}:(relabel scope env).names.lookup x =
  (scope.names.lookup x).map fun k=>if (k == .free && env.scope.kind == .function && env.kindOf x == some .cell) then .cell else k:=by
 rw [<- Q3q (fun n k=>if (k == .free && env.scope.kind == .function && env.kindOf n == some .cell) then .cell else k)]
 unfold relabel;refine congrArg (List.lookup x) (List.map_congr_left fun y _=>?_);obtain ⟨n,k⟩:=y;show (if (k == NameKind.free && env.scope.kind == .function && env.kindOf n == some .cell)=true then (n,NameKind.cell) else (n,k))=_
 split <;> rfl
def Q3y (cap:List (Option Nat)) (σ:St):St:=cap.map fun c=>c.bind fun j=>(σ[j]?).join
section
variable {prog:Program} {w:World} {A:Around} {R:Result->Shared->Prop} {s:Shared}
end
section
variable {X:Cx}
theorem HOk.same {P:Program} {w:World} {H:Hp} {h h':Heap} {a:Addr} (ok:HOk P w H h) (hn:H a=none) (hs:Heap.SameBut a h h'):HOk P w H h':=fun b ob e=>by
 refine (ok b ob e).stay (fun c w' hc q=>(hs.2 c ?_).trans q) (fun _ q=>q) fun _ _ q=>q
 rintro rfl;rcases hc with rfl | hc
 ·rw [hn] at e; cases e
 ·rw [hn] at hc; cases hc
end
def HasItems (t:Bool) (h:Heap) (a:Addr) (items:Array Value):Prop:=if t=true then h.IsTuple a items else h.IsList a items
def IterAt (t:Bool) (h:Heap) (it a:Addr) (i:Nat):Prop:=if t=true then h.IsTupleIter it a i else h.IsListIter it a i
theorem HasItems.at {t:Bool} {h h':Heap} {a:Addr} {items:Array Value} (x:HasItems t h a items) (k:∀ o,h.get? a=some o->h'.get? a=some o):HasItems t h' a items:=by
 cases t
 ·exact Heap.IsList.at x k
 ·obtain ⟨o,e,r⟩:=x;exact ⟨o,k o e,r⟩
theorem HasItems.there {t:Bool} {h:Heap} {a:Addr} {items:Array Value} (x:HasItems t h a items):∃ o,h.get? a=some o:=by
 cases t
 ·obtain ⟨o,e,_⟩:=x; exact ⟨o,e⟩
 ·obtain ⟨o,e,_⟩:=x; exact ⟨o,e⟩
theorem IterAt.at {t:Bool} {h h':Heap} {it a:Addr} {i:Nat} (x:IterAt t h it a i) (k:∀ o,h.get? it=some o->h'.get? it=some o):IterAt t h' it a i:=by
 cases t
 ·exact Heap.IsListIter.at x k
 ·obtain ⟨o,e,r⟩:=x;exact ⟨o,k o e,r⟩
theorem IterAt.there {t:Bool} {h:Heap} {it a:Addr} {i:Nat} (x:IterAt t h it a i):∃ o,h.get? it=some o/\∀ v,o.data≠.cell v:=by
 cases t
 ·obtain ⟨o,e,_,d⟩:=x; exact ⟨o,e,fun v z=>by rw [d] at z; cases z⟩
 ·obtain ⟨o,e,_,d⟩:=x; exact ⟨o,e,fun v z=>by rw [d] at z; cases z⟩
section
variable {prog:Program} {w:World} {A:Around} {E:Value->Shared->Prop} {s:Shared}
theorem Q3h {it l:Addr} {i:Nat} {items} {x:Value} {Q:Value->Shared->Prop} (hit:s.heap.IsTupleIter it l i)
  (hl:s.heap.IsTuple l items) (hx:items[i]?=some x)
  (hQ:∀ h',h'.IsTupleIter it l (i + 1)->Heap.SameBut it s.heap h'->Q x { s with heap:=h' }) :
  wpAny (model prog w) A (Builtin.SmallTypes.nextOf (.ref it)) Q E s:=by
 obtain ⟨o,ho,hc,hd⟩:=id hit;obtain ⟨ol,hol,_,nl,hdl⟩:=hl;unfold Builtin.SmallTypes.nextOf;refine wpAny_bind (wpAny_callSpecial?_slot (name:=Str.ofString "__next__") hit.typeIs F.slot_tuple_iterator_next
  (wpAny_call_entry F.slot_tuple_iterator_next hit.typeIs F.entry_tuple_iterator_next ?_ (F.args_tuple_iterator_next_1 _)))
 show wpAny _ _ (field (.ref it) 0 >>= _) _ _ s;refine wpAny_bind (wpAny_field ho hd (x:=.ref l) rfl ?_);show wpAny _ _ (if (Value.ref l == Value.none)=true then _ else _) _ _ s;rw [if_neg (show ¬ ((Value.ref l == Value.none)=true) from D7)];show wpAny _ _ (field (.ref it) 1 >>= _) _ _ s;refine wpAny_bind (wpAny_field ho hd (x:=.int i 0) rfl ?_);show wpAny _ _ (seqItems? (.ref l) >>= _) _ _ s;refine wpAny_bind (wpAny_seqItems hol hdl ?_);simp only [Int.toNat_natCast,hx];refine wpAny_bind (wpAny_setField ho hd (by simp) (wpAny_pure ⟨x,rfl,wpAny_pure (hQ _ ?_ (Heap.SameBut.update ..))⟩));exact ⟨_,F9 _ ho (Obj.isFreed_of_fields (Obj.data_mapFields hd _)),(Obj.cls_mapFields ..).trans hc,by
  rw [Obj.data_mapFields hd]; simp [rawInt]⟩
theorem Q4r {it l:Addr} {i:Nat} {items} {Q:Value->Shared->Prop} (hh:A.handled=none)
  (hit:s.heap.IsTupleIter it l i) (hl:s.heap.IsTuple l items) (hx:items[i]?=none)
  (hE:∀ h' e,Heap.ExtBut it s.heap h'->(∃ o,h'.get? e=some o/\o.cls=.type "StopIteration")->E (.ref e) { s with heap:=h' }) :
  wpAny (model prog w) A (Builtin.SmallTypes.nextOf (.ref it)) Q E s:=by
 obtain ⟨o,ho,hc,hd⟩:=id hit;obtain ⟨ol,hol,_,nl,hdl⟩:=hl;unfold Builtin.SmallTypes.nextOf;refine wpAny_bind (wpAny_callSpecial?_slot (name:=Str.ofString "__next__") hit.typeIs F.slot_tuple_iterator_next
  (wpAny_call_entry F.slot_tuple_iterator_next hit.typeIs F.entry_tuple_iterator_next ?_ (F.args_tuple_iterator_next_1 _)))
 show wpAny _ _ (field (.ref it) 0 >>= _) _ _ s;refine wpAny_bind (wpAny_field ho hd (x:=.ref l) rfl ?_);show wpAny _ _ (if (Value.ref l == Value.none)=true then _ else _) _ _ s;rw [if_neg (show ¬ ((Value.ref l == Value.none)=true) from D7)];show wpAny _ _ (field (.ref it) 1 >>= _) _ _ s;refine wpAny_bind (wpAny_field ho hd (x:=.int i 0) rfl ?_);show wpAny _ _ (seqItems? (.ref l) >>= _) _ _ s;refine wpAny_bind (wpAny_seqItems hol hdl ?_);simp only [Int.toNat_natCast,hx];refine wpAny_bind (wpAny_rule (wpAny_bind (wpAny_setField ho hd (by simp) ?_)));show wpAny _ _ (newExc (.type "StopIteration") [] >>= _) _ _ _;refine wpAny_bind ?_;simp only [newExc,newTuple];refine wpAny_bind (wpAny_newObj_type ?_ (by size_fits));refine wpAny_bind (m:=firstArgMember _ _) (wpAny_of_eq (a:=Value.none) (by first | rfl | (simp only [firstArgMember]; rfl)) ?_);refine wpAny_newObj_type ?_ (by size_fits);simp only [raiseNew]
 refine wpAny_bind (wpAny_handled ?_)
 first | rw [show A.in1.handled=none from hh] | rw [hh]
 refine wpAny_bind (wpAny_pure (wpAny_throw ?_));exact hE _ _ (((Heap.SameBut.update ..).extBut.push _).push _) ⟨_,D6 _ rfl,rfl⟩
theorem Q12 {t:Bool} {it l:Addr} {i:Nat} {items:Array Value} {x:Value} {Q:Value->Shared->Prop} (hit:IterAt t s.heap it l i)
  (hl:HasItems t s.heap l items) (hx:items[i]?=some x)
  (hQ:∀ h',IterAt t h' it l (i + 1)->Heap.SameBut it s.heap h'->Q x { s with heap:=h' }) :
  wpAny (model prog w) A (Builtin.SmallTypes.nextOf (.ref it)) Q E s:=by
 cases t
 ·exact wpAny_nextOf_list_item hit hl hx hQ
 ·exact Q3h hit hl hx hQ
theorem Q7h {t:Bool} {it l:Addr} {i:Nat} {items:Array Value} {Q:Value->Shared->Prop} (hh:A.handled=none)
  (hit:IterAt t s.heap it l i) (hl:HasItems t s.heap l items) (hx:items[i]?=none)
  (hE:∀ h' e,Heap.ExtBut it s.heap h'->(∃ o,h'.get? e=some o/\o.cls=.type "StopIteration")->E (.ref e) { s with heap:=h' }) :
  wpAny (model prog w) A (Builtin.SmallTypes.nextOf (.ref it)) Q E s:=by
 cases t
 ·exact wpAny_nextOf_list_end hh hit hl hx hE
 ·exact Q4r hh hit hl hx hE
def X4 (t:Bool) (l:Addr):Obj:=if t=true then { cls:=.type "tuple_iterator",data:=.fields #[.ref l,.int 0 0] } else { cls:=.type "list_iterator",data:=.fields #[.ref l,.int 0 0] }
theorem Uf {t:Bool} {l:Addr} {items:Array Value} {Q:Value->Shared->Prop} (hl:HasItems t s.heap l items)
  (hQ:Q (.ref s.heap.objs.size) { s with heap:=s.heap.push (X4 t l) }):wpAny (model prog w) A (pyIter (.ref l)) Q E s:=by
 cases t
 ·exact wpAny_pyIter_list hl hQ
 ·exact wpAny_pyIter_tuple hl hQ
theorem Q2v {t:Bool} {h:Heap} {it l:Addr} (e:h.get? it=some (X4 t l)):IterAt t h it l 0:=by
 cases t
 ·exact ⟨_,e,rfl,rfl⟩
 ·exact ⟨_,e,rfl,rfl⟩
theorem Q04 (t:Bool) (l:Addr):(X4 t l).isFreed=false:=by cases t <;> rfl
theorem Qg4 {t1 t2:Bool} {z TI TO i1 i2 l1 l2:Addr} {k1 k2:Nat} {xs ys:Array Value} {x y a b:Value} {Q:Value->Shared->Prop} (D:ZipApart z TI TO i1 i2 l1 l2)
  (hz:IsZip s.heap z TI TO .none) (hTI:IsPair s.heap TI (.ref i1) (.ref i2)) (hTO:IsPair s.heap TO a b)
  (h1:IterAt t1 s.heap i1 l1 k1) (h2:IterAt t2 s.heap i2 l2 k2) (hl1:HasItems t1 s.heap l1 xs) (hl2:HasItems t2 s.heap l2 ys) (hx:xs[k1]?=some x) (hy:ys[k2]?=some y)
  (hQ:∀ h',IsZip h' z TI TO (rawInt s.heap.objs.size)->IsPair h' TO x y->IterAt t1 h' i1 l1 (k1 + 1)->IterAt t2 h' i2 l2 (k2 + 1)->IsPair h' s.heap.objs.size x y->h'.objs.size=s.heap.objs.size + 1 ->
   (∀ c o,c≠z->c≠TO->c≠i1->c≠i2->s.heap.get? c=some o->h'.get? c=some o)->Q (.ref s.heap.objs.size) { s with heap:=h' }) :
  wpAny (model prog w) A (Builtin.«zip.__next__» ⟨[.ref z],[]⟩) (fun fin s'=>∃ v,fin=.done (.ret v)/\Q v s') E s:=by
 show wpAny _ _ (field (.ref z) 2 >>= _) _ _ _;refine wpAny_bind (wpAny_field hz rfl (x:=.bool false) rfl ?_);show wpAny _ _ (field (.ref z) 3 >>= _) _ _ _;refine wpAny_bind (wpAny_field hz rfl (x:=.ref TI) rfl ?_);refine wpAny_bind (wpAny_seqItems hTI rfl ?_);show wpAny _ _ (Builtin.SmallTypes.ownedTupleIsFree (.ref z) >>= _) _ _ _;refine wpAny_bind ?_;unfold Builtin.SmallTypes.ownedTupleIsFree;refine wpAny_bind (wpAny_field hz rfl (x:=.none) rfl (wpAny_pure ?_));simp only [if_true];refine wpAny_bind (wpAny_rule ?_);refine wpAny_bind (wpAny_field hz rfl (x:=.ref TO) rfl ?_);refine wpAny_bind (wpAny_setField_rec hz (by simp) fun h₁ hz₁ hs₁=>?_)
 replace hz₁:IsZip h₁ z TI TO .ellipsis:=hz₁;refine wpAny_bind ?_;simp only [List.zipIdx_cons,List.zipIdx_nil,List.forIn_cons,List.forIn_nil];refine wpAny_bind (wpAny_bind (wpAny_onRaise ?_));show wpAny _ _ (Builtin.SmallTypes.nextOf (.ref i1) >>= _) _ _ _;refine wpAny_bind (Q12 (h1.at fun o e=>hs₁.extBut _ _ D.i1z e) (hl1.at fun o e=>hs₁.extBut _ _ D.l1z e) hx fun h₂ h1₂ hs₂=>wpAny_pure ?_)
 have hTO₂:IsPair h₂ TO a b:=hs₂.extBut _ _ D.TOi1 (hs₁.extBut _ _ D.TOz hTO);refine wpAny_bind (wpAny_seqItems hTO₂ rfl ?_);refine wpAny_bind (wpAny_updateSeq_pair hTO₂ fun h₃ hTO₃ hs₃=>?_);replace hTO₃:IsPair h₃ TO x b:=hTO₃;refine wpAny_bind (wpAny_letGo (wpAny_pure ?_));refine wpAny_bind (wpAny_bind (wpAny_onRaise ?_));show wpAny _ _ (Builtin.SmallTypes.nextOf (.ref i2) >>= _) _ _ _;refine wpAny_bind (Q12 (h2.at fun o e=>hs₃.extBut _ _ D.TOi2.symm (hs₂.extBut _ _ D.i12.symm (hs₁.extBut _ _ D.i2z e)))
  (hl2.at fun o e=>hs₃.extBut _ _ D.l2TO (hs₂.extBut _ _ D.l2i1 (hs₁.extBut _ _ D.l2z e))) hy fun h₄ h2₄ hs₄=>wpAny_pure ?_)
 have hTO₄:IsPair h₄ TO x b:=hs₄.extBut _ _ D.TOi2 hTO₃;refine wpAny_bind (wpAny_seqItems hTO₄ rfl ?_);refine wpAny_bind (wpAny_updateSeq_pair hTO₄ fun h₅ hTO₅ hs₅=>?_);replace hTO₅:IsPair h₅ TO x y:=hTO₅;refine wpAny_bind (wpAny_letGo (wpAny_pure (wpAny_pure ?_)));refine wpAny_bind (wpAny_seqItems hTO₅ rfl ?_);refine wpAny_bind (wpAny_newTuple ?_);have hsz:h₅.objs.size=s.heap.objs.size:=by rw [hs₅.1,hs₄.1,hs₃.1,hs₂.1,hs₁.1]
 have hz₅:IsZip h₅ z TI TO .ellipsis:=hs₅.extBut _ _ D.TOz.symm (hs₄.extBut _ _ D.i2z.symm (hs₃.extBut _ _ D.TOz.symm (hs₂.extBut _ _ D.i1z.symm hz₁)));have hk₅:∀ c o,c≠z->c≠TO->c≠i1->c≠i2->s.heap.get? c=some o->h₅.get? c=some o:=fun c o c1 c2 c3 c4 e=>
  hs₅.extBut _ _ c2 (hs₄.extBut _ _ c4 (hs₃.extBut _ _ c2 (hs₂.extBut _ _ c3 (hs₁.extBut _ _ c1 e))))
 have h1₅:IterAt t1 h₅ i1 l1 (k1 + 1):=h1₂.at fun o e=>hs₅.extBut _ _ D.TOi1.symm (hs₄.extBut _ _ D.i12 (hs₃.extBut _ _ D.TOi1.symm e))
 have h2₅:IterAt t2 h₅ i2 l2 (k2 + 1):=h2₄.at fun o e=>hs₅.extBut _ _ D.TOi2.symm e
 have hzlt:z < h₅.objs.size:=O9 hz₅;show wpAny _ _ (Builtin.SmallTypes.ownedTupleHandOut (.ref z) (.ref h₅.objs.size) >>= _) _ _ _;refine wpAny_bind ?_;unfold Builtin.SmallTypes.ownedTupleHandOut;have hz₆:IsZip (h₅.push { cls:=.type "tuple",data:=.seq #[x,y] }) z TI TO .ellipsis:=O0 _ hz₅;refine wpAny_bind (wpAny_setField_rec hz₆ (by simp) fun h₇ hz₇ hs₇=>?_)
 replace hz₇:IsZip h₇ z TI TO (rawInt h₅.objs.size):=hz₇;refine wpAny_setField_rec hz₇ (by simp) fun h₈ hz₈ hs₈=>?_
 replace hz₈:IsZip h₈ z TI TO (rawInt h₅.objs.size):=hz₈;have up:∀ c o,c≠z->h₅.get? c=some o->h₈.get? c=some o:=fun c o c1 e=>hs₈.extBut _ _ c1 (hs₇.extBut _ _ c1 (O0 _ e))
 have hT₈:IsPair h₈ h₅.objs.size x y:=hs₈.extBut _ _ (Nat.ne_of_gt hzlt) (hs₇.extBut _ _ (Nat.ne_of_gt hzlt) (D6 _ rfl));have hz8:h₈.objs.size=h₅.objs.size + 1:=by rw [hs₈.1,hs₇.1,F4]
 rw [hsz] at hz₈ hT₈ hz8;refine wpAny_pure ⟨_,rfl,?_⟩;show Q (.ref h₅.objs.size) _;rw [hsz];exact hQ h₈ hz₈ (up _ _ D.TOz hTO₅) (h1₅.at fun o e=>up _ o D.i1z e) (h2₅.at fun o e=>up _ o D.i2z e) hT₈ hz8 fun c o c1 c2 c3 c4 e=>up c o c1 (hk₅ c o c1 c2 c3 c4 e)
theorem Qi7 {t1 t2:Bool} {z TI TO i1 i2 l1 l2:Addr} {k1 k2:Nat} {xs ys:Array Value} {a b:Value} {Q:Fin->Shared->Prop} (hh:A.handled=none) (D:ZipApart z TI TO i1 i2 l1 l2)
  (hz:IsZip s.heap z TI TO .none) (hTI:IsPair s.heap TI (.ref i1) (.ref i2)) (hTO:IsPair s.heap TO a b)
  (h1:IterAt t1 s.heap i1 l1 k1) (h2:IterAt t2 s.heap i2 l2 k2) (hl1:HasItems t1 s.heap l1 xs) (hl2:HasItems t2 s.heap l2 ys) (hend:xs[k1]?=none\/ys[k2]?=none)
  (hE:∀ h' e,(∀ c o,c≠z->c≠TO->c≠i1->c≠i2->s.heap.get? c=some o->h'.get? c=some o)->(∃ o,h'.get? e=some o/\o.cls=.type "StopIteration")->E (.ref e) { s with heap:=h' }) :
  wpAny (model prog w) A (Builtin.«zip.__next__» ⟨[.ref z],[]⟩) Q E s:=by
 show wpAny _ _ (field (.ref z) 2 >>= _) _ _ _;refine wpAny_bind (wpAny_field hz rfl (x:=.bool false) rfl ?_);show wpAny _ _ (field (.ref z) 3 >>= _) _ _ _;refine wpAny_bind (wpAny_field hz rfl (x:=.ref TI) rfl ?_);refine wpAny_bind (wpAny_seqItems hTI rfl ?_);show wpAny _ _ (Builtin.SmallTypes.ownedTupleIsFree (.ref z) >>= _) _ _ _;refine wpAny_bind ?_;unfold Builtin.SmallTypes.ownedTupleIsFree;refine wpAny_bind (wpAny_field hz rfl (x:=.none) rfl (wpAny_pure ?_));simp only [if_true];refine wpAny_bind (wpAny_rule ?_);refine wpAny_bind (wpAny_field hz rfl (x:=.ref TO) rfl ?_);refine wpAny_bind (wpAny_setField_rec hz (by simp) fun h₁ hz₁ hs₁=>?_)
 replace hz₁:IsZip h₁ z TI TO .ellipsis:=hz₁;refine wpAny_bind ?_;simp only [List.zipIdx_cons,List.zipIdx_nil,List.forIn_cons,List.forIn_nil];refine wpAny_bind (wpAny_bind (wpAny_onRaise ?_));show wpAny _ _ (Builtin.SmallTypes.nextOf (.ref i1) >>= _) _ _ _;cases hx:xs[k1]? with
 | none=>
  refine wpAny_bind (Q7h hh (h1.at fun o e=>hs₁.extBut _ _ D.i1z e) (hl1.at fun o e=>hs₁.extBut _ _ D.l1z e) hx fun h₂ e hs₂ he=>?_)
  obtain ⟨oe,hoe,hce⟩:=he;have hz₂:IsZip h₂ z TI TO .ellipsis:=hs₂ _ _ D.i1z.symm hz₁;have hez:e≠z:=fun x=>by subst x; rw [hz₂] at hoe; cases hoe; simp at hce
  refine wpAny_setField_rec hz₂ (by simp) fun h₃ _ hs₃=>hE h₃ e (fun c o c1 _ c3 _ x=>hs₃.extBut _ _ c1 (hs₂ _ _ c3 (hs₁.extBut _ _ c1 x))) ⟨oe,hs₃.extBut _ _ hez hoe,hce⟩
 | some x=>
  have hy:ys[k2]?=none:=by rcases hend with h | h; rw [hx] at h; cases h; exact h
  refine wpAny_bind (Q12 (h1.at fun o e=>hs₁.extBut _ _ D.i1z e) (hl1.at fun o e=>hs₁.extBut _ _ D.l1z e) hx fun h₂ h1₂ hs₂=>wpAny_pure ?_)
  have hTO₂:IsPair h₂ TO a b:=hs₂.extBut _ _ D.TOi1 (hs₁.extBut _ _ D.TOz hTO);refine wpAny_bind (wpAny_seqItems hTO₂ rfl ?_);refine wpAny_bind (wpAny_updateSeq_pair hTO₂ fun h₃ hTO₃ hs₃=>?_);refine wpAny_bind (wpAny_letGo (wpAny_pure ?_));refine wpAny_bind (wpAny_bind (wpAny_onRaise ?_));show wpAny _ _ (Builtin.SmallTypes.nextOf (.ref i2) >>= _) _ _ _;refine wpAny_bind (Q7h hh (h2.at fun o e=>hs₃.extBut _ _ D.TOi2.symm (hs₂.extBut _ _ D.i12.symm (hs₁.extBut _ _ D.i2z e)))
   (hl2.at fun o e=>hs₃.extBut _ _ D.l2TO (hs₂.extBut _ _ D.l2i1 (hs₁.extBut _ _ D.l2z e))) hy fun h₄ e hs₄ he=>?_)
  obtain ⟨oe,hoe,hce⟩:=he;have hz₄:IsZip h₄ z TI TO .ellipsis:=hs₄ _ _ D.i2z.symm (hs₃.extBut _ _ D.TOz.symm (hs₂.extBut _ _ D.i1z.symm hz₁));have hez:e≠z:=fun x=>by subst x; rw [hz₄] at hoe; cases hoe; simp at hce
  refine wpAny_setField_rec hz₄ (by simp) fun h₅ _ hs₅=>hE h₅ e (fun c o c1 c2 c3 c4 x=>hs₅.extBut _ _ c1 (hs₄ _ _ c4 (hs₃.extBut _ _ c2 (hs₂.extBut _ _ c3 (hs₁.extBut _ _ c1 x))))) ⟨oe,hs₅.extBut _ _ hez hoe,hce⟩
theorem Q7g {t1 t2:Bool} {z TI TO i1 i2 l1 l2:Addr} {k1 k2:Nat} {xs ys:Array Value} {x y a b:Value} {Q:Option Value->Shared->Prop} (D:ZipApart z TI TO i1 i2 l1 l2)
  (hz:IsZip s.heap z TI TO .none) (hTI:IsPair s.heap TI (.ref i1) (.ref i2)) (hTO:IsPair s.heap TO a b)
  (h1:IterAt t1 s.heap i1 l1 k1) (h2:IterAt t2 s.heap i2 l2 k2) (hl1:HasItems t1 s.heap l1 xs) (hl2:HasItems t2 s.heap l2 ys) (hx:xs[k1]?=some x) (hy:ys[k2]?=some y)
  (hQ:∀ h',IsZip h' z TI TO (rawInt s.heap.objs.size)->IsPair h' TO x y->IterAt t1 h' i1 l1 (k1 + 1)->IterAt t2 h' i2 l2 (k2 + 1)->IsPair h' s.heap.objs.size x y->h'.objs.size=s.heap.objs.size + 1 ->
   (∀ c o,c≠z->c≠TO->c≠i1->c≠i2->s.heap.get? c=some o->h'.get? c=some o)->Q (some (.ref s.heap.objs.size)) { s with heap:=h' }) :
  wpAny (model prog w) A (pyNext (.ref z)) Q E s:=by
 have hT:s.TypeIs (.ref z) "zip" := ⟨_,hz,rfl⟩;unfold pyNext;exact wpAny_bind (wpAny_attempt (wpAny_callSpecial?_slot (name:=Str.ofString "__next__") hT F.slot_zip_next
  (wpAny_call_entry F.slot_zip_next hT F.entry_zip_next
   (Qg4 D hz hTI hTO h1 h2 hl1 hl2 hx hy fun h' a1 a2 a3 a4 a5 a6 a7=>wpAny_pure (hQ h' a1 a2 a3 a4 a5 a6 a7)) (F.args_zip_next_1 _))))
theorem Q9i {t1 t2:Bool} {z TI TO i1 i2 l1 l2:Addr} {k1 k2:Nat} {xs ys:Array Value} {a b:Value} {Q:Option Value->Shared->Prop} (hh:A.handled=none) (D:ZipApart z TI TO i1 i2 l1 l2)
  (hz:IsZip s.heap z TI TO .none) (hTI:IsPair s.heap TI (.ref i1) (.ref i2)) (hTO:IsPair s.heap TO a b)
  (h1:IterAt t1 s.heap i1 l1 k1) (h2:IterAt t2 s.heap i2 l2 k2) (hl1:HasItems t1 s.heap l1 xs) (hl2:HasItems t2 s.heap l2 ys) (hend:xs[k1]?=none\/ys[k2]?=none)
  (hQ:∀ h',(∀ c o,c≠z->c≠TO->c≠i1->c≠i2->s.heap.get? c=some o->h'.get? c=some o)->Q none { s with heap:=h' }):wpAny (model prog w) A (pyNext (.ref z)) Q E s:=by
 have hT:s.TypeIs (.ref z) "zip" := ⟨_,hz,rfl⟩;unfold pyNext;refine wpAny_bind (wpAny_attempt (wpAny_callSpecial?_slot (name:=Str.ofString "__next__") hT F.slot_zip_next
  (wpAny_call_entry F.slot_zip_next hT F.entry_zip_next (Qi7 hh D hz hTI hTO h1 h2 hl1 hl2 hend fun h' e hk he=>?_) (F.args_zip_next_1 _))))
 obtain ⟨o,ho,hc⟩:=he;refine wpAny_bind (wpAny_isInstance (T := "StopIteration") (b:=true) ⟨o,ho,hc⟩ isSubtype_stop ?_);exact wpAny_pure (hQ _ hk)
end
def zH1 (t1:Bool) (h:Heap) (l1:Addr):Heap:=h.push (X4 t1 l1)
def zH2 (t1 t2:Bool) (h:Heap) (l1 l2:Addr):Heap:=(zH1 t1 h l1).push (X4 t2 l2)
def zH3 (t1 t2:Bool) (h:Heap) (l1 l2:Addr):Heap:=(zH2 t1 t2 h l1 l2).push { cls:=.type "tuple",data:=.seq #[.ref h.objs.size,.ref (zH1 t1 h l1).objs.size] }
def zH4 (t1 t2:Bool) (h:Heap) (l1 l2:Addr):Heap:=(zH3 t1 t2 h l1 l2).push { cls:=.type "tuple",data:=.seq #[.none,.none] }
def zH5 (t1 t2:Bool) (h:Heap) (l1 l2:Addr):Heap:=(zH4 t1 t2 h l1 l2).push { cls:=.type "zip",data:=.fields #[.none,.bool false,.bool false,.ref (zH2 t1 t2 h l1 l2).objs.size,.ref (zH3 t1 t2 h l1 l2).objs.size] }
theorem Q7i (t1 t2:Bool) (l1 l2:Addr) (xs ys:Array Value) :
  Meets (Builtin.«zip.__new__» ⟨[.type "zip",.ref l1,.ref l2],[]⟩) (fun _ R s=>HasItems t1 s.heap l1 xs/\HasItems t2 s.heap l2 ys /\
   R (.ok (.ret (.ref (zH4 t1 t2 s.heap l1 l2).objs.size))) { s with heap:=zH5 t1 t2 s.heap l1 l2 }):=
 .of_wp fun prog w A R s h=>by
  obtain ⟨hp,g,d,tk,os⟩:=s; obtain ⟨hl1,hl2,h⟩:=h;have hsub:=sub_zip;have hL1:HasItems t1 (Shared.heap ⟨hp,g,d,tk,os⟩) l1 xs:=hl1;have hL2:HasItems t2 (Shared.heap ⟨hp.push (X4 t1 l1),g,d,tk,os⟩) l2 ys:=hl2.at fun o e=>O0 _ e
  wp_walk using Uf hL1,Uf hL2
  exact ⟨_,rfl,h⟩
section
variable {prog:Program} {w:World} {A:Around} {E:Value->Shared->Prop} {s:Shared}
theorem Qhn {t1 t2:Bool} {l1 l2:Addr} {xs ys:Array Value} {Q:Value->Shared->Prop} (hl1:HasItems t1 s.heap l1 xs) (hl2:HasItems t2 s.heap l2 ys)
  (h:∀ h',IsZip h' (s.heap.objs.size + 4) (s.heap.objs.size + 2) (s.heap.objs.size + 3) .none->IsPair h' (s.heap.objs.size + 2) (.ref s.heap.objs.size) (.ref (s.heap.objs.size + 1)) ->
   IsPair h' (s.heap.objs.size + 3) .none .none->IterAt t1 h' s.heap.objs.size l1 0->IterAt t2 h' (s.heap.objs.size + 1) l2 0->h'.objs.size=s.heap.objs.size + 5 ->
   (∀ c o,s.heap.get? c=some o->h'.get? c=some o)->Q (.ref (s.heap.objs.size + 4)) { s with heap:=h' }) :
  wpAny (model prog w) A (call (.type "zip") [.ref l1,.ref l2]) Q E s:=by
 refine callType_new F.called_zip (by decide) (F.typeCall_zip_2 _ _) (F.newCall_zip_2 _ _) (fun obj=>F.args_object_init_3 obj _ _) F.entry_zip_new
  (Q7i t1 t2 l1 l2 xs ys) ⟨hl1,hl2,?_⟩
 have z1:(zH1 t1 s.heap l1).objs.size=s.heap.objs.size + 1:=F4 ..;have z2:(zH2 t1 t2 s.heap l1 l2).objs.size=s.heap.objs.size + 2:=by unfold zH2; rw [F4,z1]
 have z3:(zH3 t1 t2 s.heap l1 l2).objs.size=s.heap.objs.size + 3:=by unfold zH3; rw [F4,z2]
 have z4:(zH4 t1 t2 s.heap l1 l2).objs.size=s.heap.objs.size + 4:=by unfold zH4; rw [F4,z3]
 have z5:(zH5 t1 t2 s.heap l1 l2).objs.size=s.heap.objs.size + 5:=by unfold zH5; rw [F4,z4]
 have g5:(zH5 t1 t2 s.heap l1 l2).get? (zH4 t1 t2 s.heap l1 l2).objs.size=some { cls:=.type "zip",data:=.fields #[.none,.bool false,.bool false,.ref (zH2 t1 t2 s.heap l1 l2).objs.size,.ref (zH3 t1 t2 s.heap l1 l2).objs.size] }:=D6 _ rfl;have g4:(zH5 t1 t2 s.heap l1 l2).get? (zH3 t1 t2 s.heap l1 l2).objs.size=some { cls:=.type "tuple",data:=.seq #[.none,.none] }:=O0 _ (D6 _ rfl);have g3:(zH5 t1 t2 s.heap l1 l2).get? (zH2 t1 t2 s.heap l1 l2).objs.size=some { cls:=.type "tuple",data:=.seq #[.ref s.heap.objs.size,.ref (zH1 t1 s.heap l1).objs.size] }:=O0 _ (O0 _ (D6 _ rfl));have g2:(zH5 t1 t2 s.heap l1 l2).get? (zH1 t1 s.heap l1).objs.size=some (X4 t2 l2):=O0 _ (O0 _ (O0 _ (D6 _ (Q04 _ _))));have g1:(zH5 t1 t2 s.heap l1 l2).get? s.heap.objs.size=some (X4 t1 l1):=O0 _ (O0 _ (O0 _ (O0 _ (D6 _ (Q04 _ _)))));show _/\_;rw [z2,z3,z4] at g5;rw [z1,z2] at g3;rw [z3] at g4;rw [z1] at g2;rw [z4];exact ⟨⟨_,g5,rfl⟩,h _ g5 g3 g4 (Q2v g1) (Q2v g2) z5 fun c o x=>
  O0 _ (O0 _ (O0 _ (O0 _ (O0 _ x))))⟩
end
def SqK (K:PySem.W.Frag) (t:Bool) (H:Hp) (a:Addr) (xs:List V):Prop:=if t=true then SqT K H a xs else SqL K H a xs
section
variable {X:Cx} {pins:List (Addr × Obj)} {σ:St} {H:Hp} {s:Shared}
theorem Inv.seqK {t:Bool} {a:Addr} {xs:List V} (I:Inv X pins σ H s) (h:SqK X.K t H a xs):∃ its:List Value,Vals xs its/\HasItems t s.heap a its.toArray/\xs.length<=sizeLine:=by
 cases t
 ·obtain ⟨its,r,p,z⟩:=I.list h;exact ⟨its,r,p.isList,z⟩
 ·obtain ⟨its,r,p,z⟩:=I.tuple h;exact ⟨its,r,p,z⟩
theorem Inv.seqK_inj {t:Bool} {a:Addr} {xs ys:List V} (I:Inv X pins σ H s) (h:SqK X.K t H a xs) (h':SqK X.K t H a ys):xs=ys:=by
 cases t
 ·exact I.list_inj h h'
 ·exact I.tuple_inj h h'
theorem Inv.turnedL {t':Nat} {its:List Addr} {h':Heap} (I:Inv X pins σ H s) (k:∀ b o,b∉its->s.heap.get? b=some o->h'.get? b=some o) (hf:∀ b∈its,Q8n X pins H b):Inv X pins σ H { s with heap:=h',toks:=t' }:=by
 have nit:∀ b u,H b=some u->b∉its:=fun b u e z=>by rw [(hf b z).1] at e; cases e
 refine I.step (g':=s.gens) (d':=s.drawn) (ch:=its) (fun b hb=>?_) (fun b o _ _ hc e _=>k b o hc e) (fun b o _ _ hc e _=>⟨o.slots,k b o hc e⟩) (fun _ _ _ _ n=>n)
  (fun b o hc e=>⟨o,k b o hc e⟩) (fun _ _ e=>e) (fun _ _ _ e=>e) (fun b ps e=>⟨#[],by rw [e]; simp⟩) (fun m hm=>?_) (fun b u e=>?_) I.bare
 ·obtain ⟨f0,f1,f2,f3,f4,f5⟩:=hf b hb;exact ⟨f3,f1,f4,f5⟩
 ·obtain ⟨o,es,ep,ho,r⟩:=hm;exact ⟨o,es,ep,k _ o (fun z=>(hf _ z).2.1 rfl) ho,r⟩
 ·refine (I.hok b u e).stay (fun c v hc q=>k c v ?_ q) (fun _ q=>q) fun _ _ q=>q
  rcases hc with z | z
  ·rw [z]; exact nit b u e
  ·exact nit c _ z
end
def Itz (K:PySem.W.Frag) (t1 t2:Bool) (a b:Addr):It:=
 ⟨fun i H=>∃ xs ys x y,SqK K t1 H a xs/\SqK K t2 H b ys/\xs[i]?=some x/\ys[i]?=some y,
  fun i H v H'=>∃ p x y,H p=none/\v=.ref p/\H'=upd H p (.tup [x,y])/\∀ xs ys,SqK K t1 H a xs->SqK K t2 H b ys->xs[i]?=some x/\ys[i]?=some y,
  fun i H=>∃ xs ys,SqK K t1 H a xs/\SqK K t2 H b ys/\(xs.length<=i\/ys.length<=i)⟩
def Qtw (t1 t2:Bool) (z TI TO i1 i2 a b:Addr) (i:Nat) (h:Heap):Prop:=
 IsZip h z TI TO .none/\IsPair h TI (.ref i1) (.ref i2)/\(∃ u v,IsPair h TO u v)/\IterAt t1 h i1 a i/\IterAt t2 h i2 b i
theorem Qa0 {a b:Value}:∀ v,({ cls:=.type "tuple",data:=.seq #[a,b] }:Obj).data≠.cell v:=fun v z=>by cases z
theorem Qig {P:Program} {w:World} {K:PySem.W.Frag} {elts:List Expr} {k:Nat} {pos:Pos} {t1 t2:Bool} {z TI TO i1 i2 a b:Addr} (D:ZipApart z TI TO i1 i2 a b) :
  Turn P w K (.Tuple elts k pos) (Itz K t1 t2 a b) [z,TI,TO,i1,i2] z (Qtw t1 t2 z TI TO i1 i2 a b) where
 mem:=by simp
 obj:=fun i h st c hc=>by
  obtain ⟨hz,hTI,⟨u,v,hTO⟩,h1,h2⟩:=st;simp at hc;rcases hc with rfl | rfl | rfl | rfl | rfl
  ·exact ⟨_,hz,fun v q=>by cases q⟩
  ·exact ⟨_,hTI,Qa0⟩
  ·exact ⟨_,hTO,Qa0⟩
  ·exact h1.there
  ·exact h2.there
 keep:=fun i h h' st kk=>by
  obtain ⟨hz,hTI,⟨u,v,hTO⟩,h1,h2⟩:=st;exact ⟨kk z (by simp) _ hz,kk TI (by simp) _ hTI,⟨u,v,kk TO (by simp) _ hTO⟩,h1.at fun o e=>kk i1 (by simp) o e,h2.at fun o e=>kk i2 (by simp) o e⟩
 item:=by
  intro X hP hw hK hc i pins s σ H E I hf st hg;subst hP hw hK;obtain ⟨xs,ys,x,y,hq1,hq2,hx,hy⟩:=hg;obtain ⟨hz,hTI,⟨u,v,hTO⟩,h1,h2⟩:=st;obtain ⟨its,rv,p,_⟩:=I.seqK hq1;obtain ⟨its2,rv2,p2,_⟩:=I.seqK hq2;obtain ⟨ux,hux,rux⟩:=rv.get hx;obtain ⟨uy,huy,ruy⟩:=rv2.get hy;refine Q7g D hz hTI hTO h1 h2 p p2 (x:=ux) (y:=uy) (by simpa using hux) (by simpa using huy) fun h' a1 a2 a3 a4 a5 a6 a7=>⟨_,rfl,?_⟩
  refine wpAny_letOwnedTupleGo_zip (s:={ s with heap:=h' }) a1 fun h'' b1 b2=>?_
  have hfr:H s.heap.objs.size=none:=I.fresh;have zlt:z < s.heap.objs.size:=O9 hz;have TIlt:TI < s.heap.objs.size:=O9 hTI;have TOlt:TO < s.heap.objs.size:=O9 hTO;have i1lt:i1 < s.heap.objs.size:=by obtain ⟨o,e,_⟩:=h1.there; exact O9 e
  have i2lt:i2 < s.heap.objs.size:=by obtain ⟨o,e,_⟩:=h2.there; exact O9 e
  have I1:Inv X pins σ H { s with heap:=h'' }:=I.turnedL (t':=s.toks) (its:=[z,TO,i1,i2]) (fun c o hc e=>(b2.2 c (fun q=>hc (by simp [q]))).trans (a7 c o (fun q=>hc (by simp [q])) (fun q=>hc (by simp [q])) (fun q=>hc (by simp [q])) (fun q=>hc (by simp [q])) e))
   fun c hc=>hf c (by simp at hc ⊢; rcases hc with rfl | rfl | rfl | rfl <;> simp)
  have tupAt:IsPair h'' s.heap.objs.size ux uy:=(b2.2 _ (Nat.ne_of_gt zlt)).trans a5;have fsz:H s.heap.objs.size=none:=hfr;have I2:Inv X pins σ (upd H s.heap.objs.size (.tup [x,y])) { s with heap:=h'' }:=by
   refine ⟨I1.ok,I1.os,I1.bare,?_,I1.loc,I1.cell,?_,?_,?_,?_,I1.len⟩
   ·have u0:=I1.base;have old:∀ c o,X.s₀.heap.get? c=some o->c≠s.heap.objs.size:=fun c o e=>F0 (D3 (O9 e) I.sz)
    exact ⟨u0.keep,u0.slot,fun c o e n hx=>by rw [Qh (old c o e)]; exact u0.free c o e n hx,u0.there,
     fun c ts e=>by have:=u0.tups c ts e; rw [Qh (Qk this fsz)]; exact this,
     fun c o ts e=>by have:=u0.frzs c o ts e; rw [Qh (Qk this fsz)]; exact this,
     fun c ps e=>by obtain ⟨more,q⟩:=u0.tbls c ps e; exact ⟨more,by rw [Qh (Qk q fsz)]; exact q⟩⟩
   ·rw [Qh (F0 I.lt)]; exact I.free
   ·intro x' c e;obtain ⟨v',q⟩:=I.cell x' c e;rw [Qh (F0 q.lt)]; exact I.freeC x' c e
   ·intro p' hp';obtain ⟨e,n,ne,nf,d⟩:=I1.pin p' hp';have e0:=(I.pin p' hp').1;exact ⟨e,by rw [Qh (F0 (O9 e0))]; exact n,ne,nf,d⟩
   ·intro c o q
    by_cases hcs:c=s.heap.objs.size
    ·subst hcs;rw [J8] at q; cases q;exact ⟨by simp only [D8,List.length_nil]; rw [sizeLine_eq]; decide,[ux,uy],.cons rux (.cons ruy .nil),⟨_,tupAt,rfl,0,rfl⟩⟩
    ·rw [Qh hcs] at q;exact (I1.hok c o q).stay (fun _ _ _ r=>r) (fun c' r=>by rw [Qh (Qk r fsz)]; exact r) fun c' ts r=>by rw [Qh (Qk r fsz)]; exact r
  refine ⟨.ref s.heap.objs.size,_,I2,rfl,⟨s.heap.objs.size,x,y,fsz,rfl,rfl,fun xs' ys' q1 q2=>?_⟩,?_,fun c hc=>?_⟩
  ·rw [I.seqK_inj q1 hq1,I.seqK_inj q2 hq2]; exact ⟨hx,hy⟩
  ·exact ⟨b1,b2.extBut _ _ D.TIz (a7 _ _ D.TIz D.TITO D.TIi1 D.TIi2 hTI),⟨_,_,b2.extBut _ _ D.TOz a2⟩,a3.at fun o e=>b2.extBut _ _ D.i1z e,a4.at fun o e=>b2.extBut _ _ D.i2z e⟩
  ·have:=(hf c hc).1;have clt:c < s.heap.objs.size:=by simp at hc; rcases hc with rfl | rfl | rfl | rfl | rfl <;> assumption
   rw [Qh (F0 clt)]; exact this
 done:=by
  intro X hP hw hK hc i pins s σ H E I hf st hg;subst hP hw hK;obtain ⟨xs,ys,hq1,hq2,hend⟩:=hg;obtain ⟨hz,hTI,⟨u,v,hTO⟩,h1,h2⟩:=st;obtain ⟨its,rv,p,_⟩:=I.seqK hq1;obtain ⟨its2,rv2,p2,_⟩:=I.seqK hq2;have l1:=rv.length;have l2:=rv2.length;refine Q9i (I.ok.hd hc) D hz hTI hTO h1 h2 p p2 (hend.elim (fun h=>.inl (by simp; omega)) fun h=>.inr (by simp; omega)) fun h' kk=>⟨rfl,?_⟩
  exact I.turnedL (t':=s.toks) (its:=[z,TO,i1,i2]) (fun c o hc e=>kk c o (fun q=>hc (by simp [q])) (fun q=>hc (by simp [q])) (fun q=>hc (by simp [q])) (fun q=>hc (by simp [q])) e)
   fun c hc=>hf c (by simp at hc ⊢; rcases hc with rfl | rfl | rfl | rfl <;> simp)
 self:=fun _ _ _ _ _ st h=>wpAny_pyIter_zip st.1 h
section
variable {X:Cx}
def Qy0 (K:PySem.W.Frag) (t1 t2:Bool) (ta:TA):TI:=fun σ H R=>ta σ H fun vs H1=>∃ a b xs ys,vs=[.ref a,.ref b]/\SqK K t1 H1 a xs/\SqK K t2 H1 b ys/\R (Itz K t1 t2 a b) H1
theorem Qm0:bootBuiltins "zip" = some (.type "zip"):=by decide +kernel
theorem Qrq (t1 t2:Bool) {a b:Expr} {ta:TA} {p pos:Pos} {elts:List Expr} {k:Nat} {tp:Pos} (hg:Gl X "zip") (hm:X.mg "zip" = none) (ha:PA X [a,b] ta) (hs:starEach [a,b] X.env=[(false,eval a X.env),(false,eval b X.env)]:=by rfl) (hs2:starEach [b] X.env=[(false,eval b X.env)]:=by rfl) :
  PI X (.Tuple elts k tp) (.Call (.Name "zip" p) [a,b] [] pos) (Qy0 X.K t1 t2 ta):=by
 intro pins s σ H R I h;refine Call_ (Q4v I hg hm Qm0 (PyProof.Rows.callWith_type1 (thn (ha pos pins s σ H _ I h) fun us s1 ⟨vs,H1,I1,r1,q1⟩=>?_) (by rw [hs,hs2]) (by rw [hs2]; rfl)))
 obtain ⟨a',b',xs,ys,e,q1,q2,q⟩:=q1;subst e;cases r1 with
 | cons r rr=>
  cases rr with
  | cons r' rr=>
   cases rr;cases r;cases r';obtain ⟨its,rv,p1,_⟩:=I1.seqK q1;obtain ⟨its2,rv2,p2,_⟩:=I1.seqK q2;refine Qhn p1 p2 fun h' z1 z2 z3 z4 z5 z6 z7=>?_
   refine wpAny_pyIter_zip (s:={ s1 with heap:=h' }) z1 ?_;have lta:a' < s1.heap.objs.size:=by obtain ⟨o,e⟩:=p1.there; exact O9 e
   have ltb:b' < s1.heap.objs.size:=by obtain ⟨o,e⟩:=p2.there; exact O9 e
   have D:ZipApart (s1.heap.objs.size + 4) (s1.heap.objs.size + 2) (s1.heap.objs.size + 3) s1.heap.objs.size (s1.heap.objs.size + 1) a' b':=by
    constructor <;> (intro z; unfold Addr at *; omega)
   refine ⟨_,[s1.heap.objs.size + 4,s1.heap.objs.size + 2,s1.heap.objs.size + 3,s1.heap.objs.size,s1.heap.objs.size + 1],_,_,H1,rfl,I1.kept (t':=s1.toks) z7,Qig (t1:=t1) (t2:=t2) D,⟨z1,z2,⟨_,_,z3⟩,z4,z5⟩,fun c hc=>?_,q⟩
   have hc':s1.heap.objs.size<=c:=by simp at hc; unfold Addr at *; omega
   exact I1.fpOk hc' (I1.hok.fresh hc')
end
theorem Q6d {prog:Program} {w:World} {A:Around} (hh:A.handled=none) (t:Bool) (I ax:Addr) (hne:ax≠I) (items:Array Value) :
  Walks prog w A I [I,ax] [I] items.size (fun i v=>items[i]?=some v) (fun i h=>IterAt t h I ax i/\HasItems t h ax items):=by
 cases t
 ·exact Walks.list hh I ax hne items
 ·exact Walks.tuple hh I ax hne items
theorem Q3s {α:Type} (l:List α) (d:α) {n:Nat} (h:n < l.length):l.getD n d=l[n]:=by simp [List.getD,h]
theorem Qcf (ns:List Int):preSum (fun j=>ns.getD j 0) ns.length=ns.sum:=by
 have key:∀ (k:Nat),k<=ns.length->preSum (fun j=>ns.getD j 0) k=(ns.take k).sum:=by
  intro k
  induction k with
  | zero=>intro _; rfl
  | succ k ih=>
   intro hk;show preSum _ k + ns.getD k 0=_;have hlt:k < ns.length:=by omega
   rw [ih (by omega),List.take_succ,List.sum_append,Q3s _ _ hlt,O4 hlt];simp
 rw [key ns.length (O7 _),List.take_length]
section
variable {X:Cx} {pins:List (Addr × Obj)} {σ:St} {H:Hp} {s:Shared}
theorem Inv.movedNew {s':Shared} (I:Inv X pins σ H s) {o:Obj} (m:Moved [s.heap.objs.size] (fun a b=>b=a) { s with heap:=s.heap.push o } s'):Inv X pins σ H s':=by
 obtain ⟨m1,m2,m3,m4,m5⟩:=m;obtain ⟨h',g',d',t',o'⟩:=s';have e1:g'=s.gens:=m2;have e2:d'=s.drawn:=m3;have e3:o'=s.os:=m4;subst e1 e2 e3;refine I.kept (t':=t') fun b u e=>m1 b u (fun z=>?_) (O0 _ e)
 have:b=s.heap.objs.size:=by simpa using z
 exact absurd (O9 e) (by rw [this]; exact Nat.lt_irrefl _)
theorem Q19 {ns:List Int} {its:List Value} (r:Vals (ns.map V.int) its):∀ (i:Nat) (v:Value),its.toArray[i]?=some v->∃ t,v=Value.int (ns.getD i 0) t:=fun i v e=>by
 have e':its[i]?=some v:=by simpa using e
 have hi:i < its.length:=(O1.mp e').1;have hl:=r.length;rw [O2] at hl;have hn:(ns.map V.int)[i]?=some (V.int (ns.getD i 0)):=by
  have:i < ns.length:=by omega
  simp [List.getD,this]
 obtain ⟨u,hu,t,ru⟩:=r.get hn;rw [e'] at hu;cases hu;exact ⟨t,ru⟩
theorem Qag {bs:List Bool} {its:List Value} (r:Vals (bs.map V.bl) its):∀ (i:Nat) (v:Value),its.toArray[i]?=some v->v=Value.bool (bs.getD i false):=fun i v e=>by
 have e':its[i]?=some v:=by simpa using e
 have hi:i < its.length:=(O1.mp e').1;have hl:=r.length;rw [O2] at hl;have hn:(bs.map V.bl)[i]?=some (V.bl (bs.getD i false)):=by
  have:i < bs.length:=by omega
  simp [List.getD,this]
 obtain ⟨u,hu,ru⟩:=r.get hn;rw [e'] at hu;cases hu;exact ru
theorem X3 {t:Bool} {l:Addr} {items:Array Value} (hl:HasItems t s.heap l items):l≠s.heap.objs.size /\
  (IterAt t (s.heap.push (X4 t l)) s.heap.objs.size l 0/\HasItems t (s.heap.push (X4 t l)) l items)/\∀ b∈[s.heap.objs.size,l],b < (s.heap.push (X4 t l)).objs.size:=by
 obtain ⟨o,e⟩:=hl.there;have hlt:=O9 e;refine ⟨F0 hlt,⟨Q2v (D6 _ (Q04 _ _)),hl.at fun o e=>O0 _ e⟩,fun b hb=>?_⟩
 rw [F4];simp at hb;rcases hb with rfl | rfl
 ·exact Nat.lt_succ_self _
 ·exact Nat.lt_succ_of_lt hlt
end
section
variable {X:Cx}
theorem Qku (t:Bool) (hc:X.calm=true):Ke X (.builtin "sum") (fun xs H Q=>∃ (a:Addr) (ns:List Int),xs=[.ref a]/\SqK X.K t H a (ns.map V.int)/\Q (.int ns.sum) H):=by
 intro pins s σ H xs us Q I r h;obtain ⟨a,ns,rfl,hq,q⟩:=h;obtain ⟨u,rfl,r1⟩:=Q28 r;cases r1;obtain ⟨its,rv,p,_⟩:=I.seqK hq;obtain ⟨w1,w2,w3⟩:=X3 p;have hl:=rv.length;rw [O2] at hl;refine call_sum_walkAnyS (Uf p ⟨_,_,_,_,_,_,_,fun j=>ns.getD j 0,rfl,(Q6d (A:=X.A.in1) (I.ok.hd hc) t _ a w1 its.toArray).toS,w2,w3,Q19 rv,fun s' t' m=>?_⟩);refine ⟨.int ns.sum,H,I.movedNew m,⟨t',?_⟩,q⟩;rw [O3,<- hl,Qcf]
theorem Qgg (bs:List Bool):(List.range bs.length).all (fun i=>bs.getD i false)=bs.all id:=by
 induction bs with
 | nil=>rfl
 | cons b r ih=>
  rw [D8,List.range_succ_eq_map,List.all_cons,List.all_map,List.all_cons,<- ih];rfl
theorem Qgf (bs:List Bool):(List.range bs.length).any (fun i=>bs.getD i false)=bs.any id:=by
 induction bs with
 | nil=>rfl
 | cons b r ih=>
  rw [D8,List.range_succ_eq_map,List.any_cons,List.any_map,List.any_cons,<- ih];rfl
theorem Qkw (t:Bool) (hc:X.calm=true):Ke X (.builtin "all") (fun xs H Q=>∃ (a:Addr) (bs:List Bool),xs=[.ref a]/\SqK X.K t H a (bs.map V.bl)/\Q (.bl (bs.all id)) H):=by
 intro pins s σ H xs us Q I r h;obtain ⟨a,bs,rfl,hq,q⟩:=h;obtain ⟨u,rfl,r1⟩:=Q28 r;cases r1;obtain ⟨its,rv,p,_⟩:=I.seqK hq;obtain ⟨w1,w2,w3⟩:=X3 p;have hl:=rv.length;rw [O2] at hl;refine call_all_walkS (Uf p ⟨_,_,_,_,_,_,_,fun j=>bs.getD j false,rfl,(Q6d (A:=X.A.in1) (I.ok.hd hc) t _ a w1 its.toArray).toS,w2,fun i v s' Q' E' hv hQ=>?_,fun s' m=>?_⟩)
 ·rw [Qag rv i v hv];exact wpAny_truthy_bool hQ
 ·refine ⟨.bl (bs.all id),H,I.movedNew m,?_,q⟩;show Value.bool _=_;rw [O3,<- hl,Qgg]
theorem Qkv (t:Bool) (hc:X.calm=true):Ke X (.builtin "any") (fun xs H Q=>∃ (a:Addr) (bs:List Bool),xs=[.ref a]/\SqK X.K t H a (bs.map V.bl)/\Q (.bl (bs.any id)) H):=by
 intro pins s σ H xs us Q I r h;obtain ⟨a,bs,rfl,hq,q⟩:=h;obtain ⟨u,rfl,r1⟩:=Q28 r;cases r1;obtain ⟨its,rv,p,_⟩:=I.seqK hq;obtain ⟨w1,w2,w3⟩:=X3 p;have hl:=rv.length;rw [O2] at hl;refine call_any_walkS (Uf p ⟨_,_,_,_,_,_,_,fun j=>bs.getD j false,rfl,(Q6d (A:=X.A.in1) (I.ok.hd hc) t _ a w1 its.toArray).toS,w2,fun i v s' Q' E' hv hQ=>?_,fun s' m=>?_⟩)
 ·rw [Qag rv i v hv];exact wpAny_truthy_bool hQ
 ·refine ⟨.bl (bs.any id),H,I.movedNew m,?_,q⟩;show Value.bool _=_;rw [O3,<- hl,Qgf]
theorem Qhr (t:Bool) (hc:X.calm=true):Ke X (.builtin "max") (fun xs H Q=>∃ (a:Addr) (ns:List Int),xs=[.ref a]/\SqK X.K t H a (ns.map V.int)/\ns≠[]/\∀ m,m∈ns->(∀ k,k∈ns->k<=m)->Q (.int m) H):=by
 intro pins s σ H xs us Q I r h;obtain ⟨a,ns,rfl,hq,hne,q⟩:=h;obtain ⟨u,rfl,r1⟩:=Q28 r;cases r1;obtain ⟨its,rv,p,_⟩:=I.seqK hq;obtain ⟨w1,w2,w3⟩:=X3 p;have hl:=rv.length;rw [O2] at hl;have hpos:0 < ns.length:=List.length_pos_iff.mpr hne;refine call_max_walkS (Uf p ⟨_,_,_,_,_,_,_,_,rfl,(Q6d (A:=X.A.in1) (I.ok.hd hc) t _ a w1 its.toArray).toS,w2,w3,by rw [O3]; omega,CmpOf.ints_gt (fun j=>ns.getD j 0) (fun i v hv=>Q19 rv i v hv),fun v s' hv m=>?_⟩);obtain ⟨t',rfl⟩:=Q19 rv _ _ hv;obtain ⟨h1,h2⟩:=argBest_gt (fun j=>ns.getD j 0) (its.toArray.size - 1);have hb:argBest (fun i j=>decide (ns.getD i 0 > ns.getD j 0)) (its.toArray.size - 1) < ns.length:=by
  have e':its.toArray.size=ns.length:=by rw [O3]; omega
  rw [e'] at h1 ⊢;exact Nat.lt_of_le_of_lt h1 (by omega)
 refine ⟨.int (ns.getD (argBest (fun i j=>decide (ns.getD i 0 > ns.getD j 0)) (its.toArray.size - 1)) 0),H,I.movedNew m,⟨t',rfl⟩,q _ ?_ fun k hk=>?_⟩
 ·rw [Q3s _ _ hb];exact List.getElem_mem hb
 ·obtain ⟨j,hj,rfl⟩:=List.mem_iff_getElem.mp hk;have:=h2 j (by rw [O3]; omega);rw [Q3s _ _ hj] at this;exact this
theorem Qhp (t:Bool) (hc:X.calm=true):Ke X (.builtin "min") (fun xs H Q=>∃ (a:Addr) (ns:List Int),xs=[.ref a]/\SqK X.K t H a (ns.map V.int)/\ns≠[]/\∀ m,m∈ns->(∀ k,k∈ns->m<=k)->Q (.int m) H):=by
 intro pins s σ H xs us Q I r h;obtain ⟨a,ns,rfl,hq,hne,q⟩:=h;obtain ⟨u,rfl,r1⟩:=Q28 r;cases r1;obtain ⟨its,rv,p,_⟩:=I.seqK hq;obtain ⟨w1,w2,w3⟩:=X3 p;have hl:=rv.length;rw [O2] at hl;have hpos:0 < ns.length:=List.length_pos_iff.mpr hne;refine call_min_walkS (Uf p ⟨_,_,_,_,_,_,_,_,rfl,(Q6d (A:=X.A.in1) (I.ok.hd hc) t _ a w1 its.toArray).toS,w2,w3,by rw [O3]; omega,CmpOf.ints_lt (fun j=>ns.getD j 0) (fun i v hv=>Q19 rv i v hv),fun v s' hv m=>?_⟩);obtain ⟨t',rfl⟩:=Q19 rv _ _ hv;obtain ⟨h1,h2⟩:=argBest_lt (fun j=>ns.getD j 0) (its.toArray.size - 1);have hb:argBest (fun i j=>decide (ns.getD i 0 < ns.getD j 0)) (its.toArray.size - 1) < ns.length:=by
  have e':its.toArray.size=ns.length:=by rw [O3]; omega
  rw [e'] at h1 ⊢;exact Nat.lt_of_le_of_lt h1 (by omega)
 refine ⟨.int (ns.getD (argBest (fun i j=>decide (ns.getD i 0 < ns.getD j 0)) (its.toArray.size - 1)) 0),H,I.movedNew m,⟨t',rfl⟩,q _ ?_ fun k hk=>?_⟩
 ·rw [Q3s _ _ hb];exact List.getElem_mem hb
 ·obtain ⟨j,hj,rfl⟩:=List.mem_iff_getElem.mp hk;have:=h2 j (by rw [O3]; omega);rw [Q3s _ _ hj] at this;exact this
end
section
variable {prog:Program} {w:World} {A:Around} {E:Value->Shared->Prop} {s:Shared}
end
section
variable {X:Cx}
end
theorem Qis {H:Hp} {a:Addr} {o:HO} (h:H a=none):Same H (upd H a o):=fun b u e=>by rw [Qh (Qk e h)]; exact e
section
variable {K:PySem.W.Frag} {cap:List (Option Nat)} {te:TE} {σ:St} {H1:Hp} {Q:VK}
abbrev g2 (K:PySem.W.Frag):TG:=Qvt K 2 (Qk8 (Qd9 0) (Qk8 (Qd9 1) Qvu))
end
def Qw3:V->Option Value
 | .ty n=>some (.type n)
 | .ref a=>some (.ref a)
 | _=>none
theorem Qkq {c:V} {cv u:Value} (e:Qw3 c=some cv) (r:RelV c u):u=cv:=by
 cases c with
 | ty n=>cases e; exact r
 | ref a=>cases e; exact r
 | _=>cases e
section
variable {X:Cx}
theorem Qdf:Ke X (.builtin "isinstance") (fun xs H Q=>∃ x c cv t b,xs=[x,c]/\Qw3 c=some cv/\TyOf X.K H x t/\PySem.W.kitOne X.K t cv=some b/\Q (.bl b) H):=by
 intro pins s σ H xs us Q I r h;obtain ⟨x,c,cv,t,b,rfl,hc,ty,e,q⟩:=h;obtain ⟨u,w',rfl,r1,r2⟩:=Qib r;rw [Qkq hc r2];exact Qhc I r1 ty e fun tk=>⟨.bl b,H,I.tok tk,rfl,q⟩
theorem Q5x:bootBuiltins "isinstance" = some (.builtin "isinstance"):=by decide +kernel
theorem Q1g:bootBuiltins "sum" = some (.builtin "sum"):=by decide +kernel
theorem Q1h:bootBuiltins "all" = some (.builtin "all"):=by decide +kernel
theorem Qdi:bootBuiltins "any" = some (.builtin "any"):=by decide +kernel
theorem Q3z:bootBuiltins "max" = some (.builtin "max"):=by decide +kernel
theorem Qm1:bootBuiltins "min" = some (.builtin "min"):=by decide +kernel
theorem Wg:bootBuiltins "tuple" = some (.type "tuple"):=by decide +kernel
theorem Q54:bootBuiltins "list" = some (.type "list"):=by decide +kernel
theorem Qdh:bootBuiltins "int" = some (.type "int"):=by decide +kernel
theorem Qaf:bootBuiltins "bool" = some (.type "bool"):=by decide +kernel
theorem Q8j:bootBuiltins "str" = some (.type "str"):=by decide +kernel
end
section
variable {X:Cx} (K:PySem.W.Frag)
end
def Tab (H:Hp) (a:Addr) (tb:List (List Int)):Prop:=∃ rs:List Addr,H a=some (.tup (rs.map V.ref))/\Paired (fun r row=>H r=some (.tup (List.map V.int row))) rs tb
def Sz (n:Nat) (tb:List (List Int)):Prop:=tb.length=n/\∀ row∈tb,row.length=n + 1
end L2
namespace L2
open PySem PySem.Spec PyProof.Rows PySem.W PySem.Builtin.Getset_descriptor
structure XCls (K:Frag) (C:Addr):Prop where
 cls:(clsIn K C).isSome=true
 ga:findIn K (.ref C) "__getattribute__" = some (some (.builtin "BaseException.__getattribute__"))
 gt:findIn K (.ref C) "__getattr__" = some none
 cl:findIn K (.ref C) "__class__" = some (some (.builtin "object.__class__"))
 gs:specialIn K (.builtin "object.__class__") "__get__" = some (some (.builtin "getset_descriptor.__get__"))
 tk:takesIn K (.builtin "object.__class__")=some true
 ob:mroIn K C (.type "object")=some true
 be:mroIn K C (.type "BaseException")=some true
def IsX (x C:Addr) (h:Heap):Prop:=∃ ox,h.get? x=some ox/\ox.cls=.ref C
theorem IsX.type {M:Model} {h:Heap} {x C:Addr} (I:IsX x C h):Looks M h (typeOf (.ref x)) (.ref C):=by
 obtain ⟨ox,h1,h2⟩:=I;exact h2 ▸ (Looks.ld h1).andThen .now
section
variable {prog:Program} {w:World} {A:Around} {E:Value->Shared->Prop} {h:Heap} {g:Array GenState} {d:Drawn} {t:Nat} {os:OsState} {K:Frag} {x C:Addr}
theorem Qia {M:Model} {nameV:Value} {Q:Unit->Shared->Prop} (X:K.In h) (F:XCls K C) (I:IsX x C h) (hq:Q () ⟨h,g,d,t,os⟩):wpAny M A (checkBuiltinCall "BaseException.__getattribute__" ⟨[.ref x,nameV],[]⟩) Q E ⟨h,g,d,t,os⟩:=by
 have hk:builtinKind "BaseException.__getattribute__" = some .slot:=by decide +kernel
 have hsplit:splitId "BaseException.__getattribute__" = some ("BaseException", "__getattribute__"):=by decide +kernel
 have LI:Looks M h (isInstance (.ref x) (.type "BaseException")) true:=(I.type).andThen (looks_mroIn X F.be);have ha:=PySem.F.args_bexc_ga (.ref x) nameV;simp only [checkBuiltinCall,hk,hsplit];refine wpAny_bind (LI.at ?_);simp only [Bool.not_true,Bool.false_eq_true,if_false];exact wpAny_of_eq ha hq
end
end L2
namespace L2
open PySem PySem.Spec PyProof.Rows
theorem ObjOk.there {P:Program} {w:World} {H:Hp} {h:Heap} {a:Addr} {o:HO} (x:ObjOk P w H h a o):∃ u,h.get? a=some u:=by
 cases o with
 | lst xs=>obtain ⟨_,_,_,_,e⟩:=x; exact ⟨_,e⟩
 | tup xs=>obtain ⟨_,_,_,o,e,_⟩:=x; exact ⟨o,e⟩
 | dK kvs=>obtain ⟨_,_,_,_,o,_,_,e,_⟩:=x; exact ⟨o,e⟩
 | dT kvs=>obtain ⟨_,_,_,_,o,_,_,e,_⟩:=x; exact ⟨o,e⟩
 | set S n=>obtain ⟨o,_,_,_,e,_⟩:=x; exact ⟨o,e⟩
 | ins C dx fs=>obtain ⟨_,_,_,e,_⟩:=x; exact ⟨_,e⟩
 | own y=>exact x
 | xd fs=>obtain ⟨_,⟨o,_,_,e,_⟩,_⟩:=x; exact ⟨o,e⟩
 | rng lo hi=>obtain ⟨_,_,_,e⟩:=x; exact ⟨_,e⟩
 | frz ob u=>obtain ⟨e,_⟩:=x; exact ⟨_,e⟩
 | tbl ps=>exact ⟨_,x⟩
 | met f y=>exact ⟨_,x⟩
 | ext φ=>exact x.2.1
theorem HOk.none_of {P:Program} {w:World} {H:Hp} {h:Heap} {a:Addr} (x:HOk P w H h) (e:h.get? a=none):H a=none:=by
 cases q:H a with
 | none=>rfl
 | some o=>
  obtain ⟨u,z⟩:=(x a o q).there;rw [e] at z;cases z
structure Fly (P:Program) (w:World) (outer:List Env) (H H':Hp) (s s':Shared) (a:Addr) (cls a0:Value) (B:Heap):Prop where
 os:s'.os=s.os
 bare:AllBare s'.gens
 fl:Heap.FlyingW B outer a cls a0 s'.heap
 hokB:HOk P w H' B
 keep:∀ b o,s.heap.get? b=some o->H b=none->b∉frs outer->B.get? b=some o
 there:∀ b o,s.heap.get? b=some o->b∉frs outer->∃ o',B.get? b=some o'
 slot:∀ b o,s.heap.get? b=some o->b∈frs outer->∃ sl,s'.heap.get? b=some { o with slots:=sl }
 free:∀ b o,s.heap.get? b=some o->H b=none->H' b=none
 tups:∀ b xs,H b=some (.tup xs)->H' b=some (.tup xs)
 frzs:∀ b o u,H b=some (.frz o u)->H' b=some (.frz o u)
 tbls:∀ b ps,H b=some (.tbl ps)->∃ more,H' b=some (.tbl (ps ++ more))
section
variable {P:Program} {w:World} {K:PySem.W.Frag} {mg:Str->Option Value} {base:Heap} {N:List Str} {qual:Str} {scope:Scope} {f:Addr} {cd:Value} {A:Around} {outer:List Env} {s:Shared} {H:Hp} {E:XK}
end
abbrev Ui:List Value:=[.type "ValueError",.type "Exception",.type "BaseException",.type "object"]
theorem Qfd {K:PySem.W.Frag} {h:Heap} {C:Addr} {bmB:List Value} {newId:String} {x:Str} {mg:Str->Option Value} (X:K.In h) (m:mg x=some (.ref C)) (q:PySem.W.excIn K C bmB newId=true):OwnCls x C bmB newId mg h:=by
 refine ⟨m,?_⟩;unfold PySem.W.excIn at q
 split at q
 ·rename_i dd cd sl ho
  split at q
  ·rename_i C' bm k0 k1 k2 k3 n k5 hm hs;simp only [F6,beq_iff_eq,Bool.not_eq_true'] at q;obtain ⟨⟨⟨⟨⟨rfl,rfl⟩,hdel⟩,ht⟩,hok⟩,hni⟩:=q;obtain ⟨nm,bs,mro,ns,qn,hd,sn,sub,ab,col,del⟩:=cd;dsimp only at hm hdel hok hni;subst hm hdel;have hsl:sl=#[k0,k1,k2,k3,some (.builtin n),k5]:=by
    obtain ⟨l⟩:=sl;simp only at hs;rw [hs]
   subst hsl;exact ⟨bm,ns,nm,qn,bs,hd,sn,sub,ab,col,dd,k0,k1,k2,k3,k5,_,X _ _ ho,.of_isNs (PySem.W.isNs_of_in X hok),PySem.W.nsMap_none_of_in X hok hni,PySem.W.tail_of_in X ht⟩
  ·cases q
 ·cases q
section
variable {X:Cx}
def Qr6 (C:Addr) (E:XK) (t:TA):TS:=fun _ σ H=>t σ H fun vs H1=>vs.length<=sizeLine/\E (.ref C) none H1
end
def yi (X:Cx) (a:Addr):Cx:={ X with A:=X.A.mark (some (.ref a)),calm:=false,xe:=fun _ _=>False }
section
variable {X:Cx} {pins:List (Addr × Obj)} {σ:St} {H H':Hp} {s s':Shared} {a C:Addr}
theorem Inv.suite (I:Inv X pins σ H s) (a:Addr):Inv (yi X a) pins σ H s:=
 ⟨⟨I.ok.mod,I.ok.kind,I.ok.glob,I.ok.blt,I.ok.above,I.ok.inj,I.ok.has,I.ok.cab,fun h=>(by cases h),I.ok.frames,I.ok.stk,I.ok.exf,I.ok.bs,I.ok.bsz,I.ok.noex,I.ok.exfs,I.ok.funs,I.ok.frf⟩,I.os,I.bare,I.base,I.loc,I.cell,I.free,I.freeC,I.pin,I.hok,I.len⟩
theorem Inv.unsuite (ok:X.Ok) (I:Inv (yi X a) pins σ H s):Inv X pins σ H s:=⟨ok,I.os,I.bare,I.base,I.loc,I.cell,I.free,I.freeC,I.pin,I.hok,I.len⟩
theorem Fly.inv {cls a0:Value} {B h5:Heap} (I:Inv X pins σ H s) (F:Fly X.prog X.w X.stack H H' s s' a cls a0 B) (kB:B.StaysIn h5) (sm:s'.heap.UpToSlots h5):Inv X pins σ H' { s' with heap:=h5 }:=by
 have sl:∀ b o,s.heap.get? b=some o->b∈frs X.stack->∃ sl,h5.get? b=some { o with slots:=sl }:=fun b o q hb=>by
  obtain ⟨sl,z⟩:=F.slot b o q hb;obtain ⟨_,o',ho',hnf⟩:=I.stack.mem hb;rw [q] at ho';cases ho';obtain ⟨sl',z'⟩:=sm b _ z hnf;exact ⟨sl',z'⟩
 refine I.call' (s':={ s' with heap:=h5 }) (ch:=[]) F.os ⟨fun b o q n hb _=>kB _ _ (F.keep b o q n hb),fun b o q n hb _=>sl b o q hb,fun b o q n _=>F.free b o q n,fun b o q _=>?_,F.tups,F.frzs,F.tbls⟩ (F.hokB.kept kB) F.bare fun b z=>absurd z (by simp)
 by_cases hb:b∈frs X.stack
 ·obtain ⟨sl,z⟩:=sl b o q hb;exact ⟨_,z⟩
 ·obtain ⟨o',z⟩:=F.there b o q hb;exact ⟨o',kB _ _ z⟩
theorem Fly.new {cls a0:Value} {B:Heap} (F:Fly X.prog X.w X.stack H H' s s' a cls a0 B):s.heap.get? a=none/\H' a=none:=by
 have hB:B.get? a=none:=F.fl.2.1;refine ⟨?_,F.hokB.none_of hB⟩;cases q:s.heap.get? a with
 | none=>rfl
 | some o=>
  by_cases hb:a∈frs X.stack
  ·obtain ⟨_,o',ho',hnf⟩:=F.fl.2.2.1.mem hb;obtain ⟨oe,vs,he,_,hd,_⟩:=F.fl.first;rw [ho'] at he;cases he;exact absurd hd (hnf vs)
  ·obtain ⟨o',z⟩:=F.there a o q hb;rw [hB] at z;cases z
theorem Inv.track {s1:Shared} {φ:Heap->Prop} (I0:Inv X pins σ H s) (hex:∀ b,b∉X.ex) (h0:s.heap.get? a=none) (I:Inv X pins σ H' s1) (hn:H' a=none) (o:ObjOk X.prog X.w (upd H' a (.ext φ)) s1.heap a (.ext φ)):Inv X pins σ (upd H' a (.ext φ)) s1:=by
 have ne0:∀ b u,s.heap.get? b=some u->b≠a:=fun b u e z=>by rw [z,h0] at e; cases e
 have nes:∀ b u,X.s₀.heap.get? b=some u->b≠a:=fun b u e=>by
  obtain ⟨u',e'⟩:=I0.base.there b u e (hex b);exact ne0 b u' e'
 refine ⟨I.ok,I.os,I.bare,?_,I.loc,I.cell,?_,?_,?_,?_,I.len⟩
 ·have u0:=I.base;exact ⟨u0.keep,u0.slot,fun c o e n hx=>by rw [Qh (nes c o e)]; exact u0.free c o e n hx,u0.there,
   fun c ts e=>by have:=u0.tups c ts e; rw [Qh (Qk this hn)]; exact this,
   fun c o ts e=>by have:=u0.frzs c o ts e; rw [Qh (Qk this hn)]; exact this,
   fun c ps e=>by obtain ⟨more,q⟩:=u0.tbls c ps e; exact ⟨more,by rw [Qh (Qk q hn)]; exact q⟩⟩
 ·obtain ⟨m,⟨o,_,_,e,_⟩,_⟩:=I0.loc;rw [Qh (ne0 _ _ e)]; exact I.free
 ·intro x c e;obtain ⟨v,o,z,_⟩:=I0.cell x c e;rw [Qh (ne0 _ _ z)]; exact I.freeC x c e
 ·intro p hp;obtain ⟨e,n,ne,nf,d⟩:=I.pin p hp;exact ⟨e,by rw [Qh (ne0 _ _ (I0.pin p hp).1)]; exact n,ne,nf,d⟩
 ·intro c u q
  by_cases hc:c=a
  ·subst hc;rw [J8] at q; cases q;exact o
  ·rw [Qh hc] at q;exact (I.hok c u q).stay (fun _ _ _ r=>r) (fun c' r=>by rw [Qh (Qk r hn)]; exact r) fun c' ts r=>by rw [Qh (Qk r hn)]; exact r
theorem Inv.forget {i:Nat} {n:Str} {m:Str->Option Value} {h':Heap} {v:Option Value} {tk:Nat} (I:Inv X pins σ H s) (hN:X.N.Nodup) (hi:X.N[i]?=some n) (hl:∀ (i:Nat) (x:Str) (v:V),X.N[i]?=some x->σ[i]?=some (some v)->Vis X.env.scope x->∃ u,RelV v u/\Qwc X.env s.heap m x u)
  (hn':h'.Ns X.env.locals (fun x=>if x=n then v else m x)) (hs:Heap.SameBut X.env.locals s.heap h'):Inv X pins (σ.set i none) H { s with heap:=h',toks:=tk }:=by
 have cne:=I.cne;have tracked:HOk X.prog X.w H h':=I.hok.same I.free hs;have neL:∀ b o,X.s₀.heap.get? b=some o->b≠X.env.locals:=fun b o e=>F0 (D3 (O9 e) I.ok.above)
 refine ⟨I.ok,I.os,I.bare,⟨fun b o e n hb hx=>(hs.2 b (neL b o e)).trans (I.base.keep b o e n hb hx),fun b o e n hb hx=>?_,I.base.free,fun b o e hx=>?_,I.base.tups,I.base.frzs,I.base.tbls⟩,⟨_,hn',fun j y v' e1 e2 e3=>?_⟩,fun y c e=>?_,I.free,I.freeC,fun p hp=>?_,tracked,by simpa using I.len⟩
 ·obtain ⟨sl,z⟩:=I.base.slot b o e n hb hx;exact ⟨sl,(hs.2 b (neL b o e)).trans z⟩
 ·obtain ⟨o',z⟩:=I.base.there b o e hx;exact ⟨o',(hs.2 b (neL b o e)).trans z⟩
 ·by_cases hj:j=i
  ·subst hj;rw [hi] at e1; cases e1;have:j < σ.length:=by have:=(O1.mp e2).1; simpa using this
   rw [E2 this] at e2;cases e2
  ·rw [O5 (Ne.symm hj)] at e2;obtain ⟨u,r,q⟩:=hl j y v' e1 e2 e3;refine ⟨u,r,?_⟩;rcases q with ⟨k,e⟩ | ⟨k,c,e,z⟩
   ·refine .inl ⟨k,?_⟩;have:y≠n:=fun e=>hj (Q7f hN e1 (e ▸ hi))
    simp [this,e]
   ·exact .inr ⟨k,c,e,z.sameBut hs (cne y c e)⟩
 ·obtain ⟨w',z⟩:=I.cell y c e;exact ⟨w',z.sameBut hs (cne y c e)⟩
 ·obtain ⟨e,n,ne,nf,d⟩:=I.pin p hp;exact ⟨(hs.2 p.1 ne).trans e,n,ne,nf,d⟩
end
section
variable {X:Cx}
end
section
variable {X:Cx}
end
theorem Q6g (l:Addr) (items:Array Value) (n:Nat) (dd:Option Addr) (sl:Array (Option Value)) (t:Tok) :
  Meets (Builtin.«tuple.__mul__» ⟨[.ref l,.int 1 t],[]⟩) (fun _ R s=>s.heap.get? l=some { cls:=.type "tuple",dict:=dd,data:=.seq items n,slots:=sl }/\R (.ok (.ret (.ref l))) s):=
 .of_wp fun prog w A R s h=>by
  obtain ⟨hp,g,d,tk,os⟩:=s; obtain ⟨hl,h⟩:=h
  wp_walk using wpAny_loadPart' hl
  exact ⟨_,rfl,h⟩
theorem Q6h (l:Addr) (items:Array Value) (n:Nat) (dd:Option Addr) (sl:Array (Option Value)) (x:Int) (t:Tok) (h1:¬ (decide (x < -(2 ^ 63)) || decide (x>=2 ^ 63))=true) (h2:¬ (items.isEmpty || x == 1)=true) (h3:¬ (decide (x<=0) || items.isEmpty)=true) (h4:¬ (items.size:Int) * x > (2 ^ 63 - 1) / 8) (h5:¬ Builtin.Tuple.tupleTooMany ((items.size:Int) * x)=true)
  (h6:((List.replicate x.toNat items).foldl (fun x1 x2=>x1 ++ x2) #[]).size<=sizeLine) :
  Meets (Builtin.«tuple.__mul__» ⟨[.ref l,.int x t],[]⟩) (fun _ R s=>s.heap.get? l=some { cls:=.type "tuple",dict:=dd,data:=.seq items n,slots:=sl } /\
   R (.ok (.ret (Value.ref s.heap.objs.size))) { s with heap:=s.heap.push { cls:=Value.type "tuple",data:=Data.seq ((List.replicate x.toNat items).foldl (fun x1 x2=>x1 ++ x2) #[]) } }):=
 .of_wp fun prog w A R s h=>by
  obtain ⟨hp,g,d,tk,os⟩:=s; obtain ⟨hl,h⟩:=h
  wp_walk using wpAny_loadPart' hl
  refine wpAny_ite_false (decide_eq_false h1) ?_
  wp_walk using wpAny_loadPart' hl
  refine wpAny_ite_false (decide_eq_false h4) ?_
  wp_walk using wpAny_loadPart' hl
  all_goals first | exact ⟨_,rfl,h⟩ | (refine wpAny_ite_false (decide_eq_false h5) ?_; wp_walk) | skip
  all_goals first | exact ⟨_,rfl,h⟩ | (refine wpAny_ite_false (decide_eq_false (Nat.not_lt.mpr h6)) ?_; wp_walk; exact ⟨_,rfl,h⟩)
theorem Q83 (a:Int) (t:Tok) (l:Addr) (items:Array Value) (n:Nat) (dd:Option Addr) (sl:Array (Option Value)) :
  Meets (Builtin.«int.__rmul__» ⟨[.int a t,.ref l],[]⟩) (fun _ R s=>s.heap.get? l=some { cls:=.type "tuple",dict:=dd,data:=.seq items n,slots:=sl }/\R (.ok (.ret Value.notImplemented)) s):=
 .of_wp fun prog w A R s h=>by obtain ⟨hp,g,d,tk,os⟩:=s; obtain ⟨hl,h⟩:=h; wp_walk using wpAny_loadPart' hl; exact ⟨_,rfl,h⟩
theorem Q4q:fillsNumberSlot (.type "tuple") "mul" = pure false:=
 PySem.fillsNumberSlot_seq (id := "tuple.__mul__") (r:=some (.builtin "tuple.__rmul__")) F.slot_tuple_mul.lookup (by decide +kernel) F.slot_tuple_rmul.lookup (by decide +kernel)
theorem Qaz:seqRepeat? (.type "tuple")=pure (some (.builtin "tuple.__mul__")):=by
 unfold seqRepeat?;rw [PySem.seqSlot_of (T := "tuple") (name := "__mul__") (id := "tuple.__mul__") F.slot_tuple_mul.lookup (by decide +kernel),PySem.seqSlot_of (T := "tuple") (name := "__rmul__") (id := "tuple.__rmul__") F.slot_tuple_rmul.lookup (by decide +kernel)];rfl
section
variable {X:Cx}
def Quh (K:PySem.W.Frag):R2:=fun x y H Q=>∃ a k xs,x=.ref a/\y=.int k/\SqT K H a xs/\xs≠[]/\1<=k/\xs.length * k.toNat<=4096 /\
 (k=1->Q (.ref a) H)/\(k≠1->∀ p,H p=none->Q (.ref p) (upd H p (.tup (List.replicate k.toNat xs).flatten)))
theorem Qnu:OpR X (binaryOp .Mult) (Quh X.K):=by
 intro pins s σ H x y v u Q I rx ry h;obtain ⟨a,k,xs,rfl,rfl,ha,hne,hk,hz,q1,q2⟩:=h;cases rx;obtain ⟨t,rfl⟩:=ry;obtain ⟨its,r,p1,hs⟩:=I.tuple ha;obtain ⟨⟨cls,dd,data,sl⟩,ho,hc,n,hd⟩:=id p1;simp only at hc hd;subst hc hd;have hl:its.length=xs.length:=r.length.symm;have hpos:0 < its.length:=by rw [hl]; exact List.length_pos_iff.mpr hne
 have hkz:k.toNat<=4096:=by
  have:1 * k.toNat<=xs.length * k.toNat:=Nat.mul_le_mul_right _ (by omega);omega
 refine wpAny_binaryOp_repeat_ref (T := "tuple") (U := "int") (by decide) ⟨_,ho,rfl⟩ (fun s'=>typeIs_int s' k t) Q4q F.fills_int_mul F.slot_int_rmul Qaz F.slot_int_index.lookup
  (call_meets F.slot_int_rmul (typeIs_int s k t) F.entry_int_rmul (F.args_int_rmul_2 _ _) (Q83 k t a its.toArray n dd sl)
   ⟨ho,rfl,⟨_,ho,rfl⟩,?_⟩)
 by_cases h1:k=1
 ·subst h1;exact call_meets F.slot_tuple_mul ⟨_,ho,rfl⟩ F.entry_tuple_mul (F.args_tuple_mul_2 _ _) (Q6g a its.toArray n dd sl t) ⟨ho,⟨.ref a,H,I,rfl,q1 rfl⟩⟩
 ·have f0:List.foldl (fun x1 x2=>x1 ++ x2) #[] (List.replicate k.toNat its.toArray)=(List.replicate k.toNat its).flatten.toArray:=by
   have:=Q51 its k.toNat [];rw [List.nil_append] at this;exact this
  have hlen:(its.toArray.size:Int) * k=((its.length * k.toNat:Nat):Int):=by
   rw [O3,Int.natCast_mul,Int.toNat_of_nonneg (by omega)]
  have hfl:(List.replicate k.toNat its).flatten.length<=4096:=by rw [Qb9,hl,Nat.mul_comm]; exact hz
  have hb:its.length * k.toNat<=4096:=by rw [hl]; exact hz
  refine call_meets F.slot_tuple_mul ⟨_,ho,rfl⟩ F.entry_tuple_mul (F.args_tuple_mul_2 _ _) (Q6h a its.toArray n dd sl k t ?_ ?_ ?_ ?_ ?_ ?_) ⟨ho,?_⟩
  ·rw [decide_eq_false (by omega),decide_eq_false (by omega)]; exact D7
  ·intro z;rcases Bool.or_eq_true_iff.mp z with z | z
   ·rw [List.isEmpty_toArray,List.isEmpty_iff] at z; rw [z] at hpos; simp at hpos
   ·exact h1 (eq_of_beq z)
  ·intro z;rcases Bool.or_eq_true_iff.mp z with z | z
   ·have:=of_decide_eq_true z; omega
   ·rw [List.isEmpty_toArray,List.isEmpty_iff] at z; rw [z] at hpos; simp at hpos
  ·rw [hlen]; omega
  ·rw [hlen];have:(4096:Int)<=sizeLine:=by decide
   show ¬ decide (((its.length * k.toNat:Nat):Int) > (sizeLine:Int))=true;rw [decide_eq_false (by omega)]; exact D7
  ·rw [f0,O3]; exact F1 hfl (by decide)
  ·rw [f0];refine ⟨.ref s.heap.objs.size,_,I.laid (t':=s.toks) (o:=.tup (List.replicate k.toNat xs).flatten) (fun b ob q=>O0 _ q) (O7 _) ?_,rfl,q2 h1 _ (I.hok.fresh (O7 _))⟩;exact ⟨by rw [Qb9,Nat.mul_comm]; exact F1 hz (by decide),_,r.rep k.toNat,IsTup.new _ _⟩
end
section
variable {X:Cx} {pins:List (Addr × Obj)} {s:Shared} {σ:St} {H:Hp}
open PySem.SeqAt
end
section
variable {K:PySem.W.Frag} {cap:List (Option Nat)} {te:TE} {σ:St} {H1:Hp} {Q:VK}
end
section
variable {X:Cx} {pos:Pos}
end
theorem Xa:∀ (names:List (Str × NameKind)) (h:Heap) (acc:List (Str × Addr)) (x:Str) (c:Addr),(cellsFrom h.objs.size names acc).lookup x=some c ->
  acc.lookup x=some c\/((x,NameKind.cell)∈names/\h.objs.size<=c/\(pushCells h names).IsCell c none)
 | [],_,_,_,_,e=>.inl e
 | (name,kind) :: r,h,acc,x,c,e=>by
  unfold cellsFrom at e;unfold pushCells
  by_cases hk:(kind == NameKind.cell)=true
  ·rw [if_pos hk] at e ⊢;have hk':kind=.cell:=by simpa using hk
   have ih:=Xa r (h.push { cls:=.type "cell",data:=.cell none }) ((name,h.objs.size) :: acc) x c (by rw [F4]; exact e);rw [F4] at ih;rcases ih with z | ⟨z1,z2,z3⟩
   ·rw [D9] at z;cases hb:x == name with
    | true=>
     rw [hb] at z; cases z;exact .inr ⟨by rw [beq_iff_eq.mp hb,hk']; exact D4,O7 _,⟨_,pushCells_keeps _ _ _ _ (D6 _ rfl),rfl⟩⟩
    | false=>rw [hb] at z; exact .inl z
   ·exact .inr ⟨D0 _ z1,by omega,z3⟩
  ·rw [if_neg hk] at e ⊢;rcases Xa r h acc x c e with z | ⟨z1,z2,z3⟩
   ·exact .inl z
   ·exact .inr ⟨D0 _ z1,z2,z3⟩
theorem K4 {x:Str}:∀ (names:List (Str × NameKind)) (n:Nat) (acc:List (Str × Addr)),(x,NameKind.cell)∉names->(cellsFrom n names acc).lookup x=acc.lookup x
 | [],_,_,_=>rfl
 | (name,kind) :: r,n,acc,h=>by
  unfold cellsFrom;have hr:(x,NameKind.cell)∉r:=fun z=>h (D0 _ z)
  by_cases hk:(kind == NameKind.cell)=true
  ·rw [if_pos hk,K4 r _ _ hr,D9];cases hb:x == name with
   | true=>exact absurd (by rw [beq_iff_eq.mp hb,show kind=.cell by simpa using hk]; exact D4) h
   | false=>rfl
  ·rw [if_neg hk,K4 r _ _ hr]
theorem zp {x:Str} {c:Addr}:∀ (names:List (Str × NameKind)) (n:Nat) (acc:List (Str × Addr)),(x,NameKind.cell)∈names->(cellsFrom n names acc).lookup x=some c->n<=c
 | [],_,_,h,_=>by cases h
 | (name,kind) :: r,n,acc,h,e=>by
  unfold cellsFrom at e
  by_cases hr:(x,NameKind.cell)∈r
  ·by_cases hk:(kind == NameKind.cell)=true
   ·rw [if_pos hk] at e;exact Nat.le_of_succ_le (zp r _ _ hr e)
   ·rw [if_neg hk] at e;exact zp r _ _ hr e
  ·rcases E3.mp h with q | q
   ·cases q;rw [if_pos (by decide),K4 r _ _ hr,D9] at e;simp at e;exact Nat.le_of_eq e
   ·exact absurd q hr
theorem zq:∀ (names:List (Str × NameKind)) (n:Nat) (acc:List (Str × Addr)),(∀ x c,acc.lookup x=some c->c < n)->(∀ x y c,acc.lookup x=some c->acc.lookup y=some c->x=y) ->
  ∀ x y c,(cellsFrom n names acc).lookup x=some c->(cellsFrom n names acc).lookup y=some c->x=y
 | [],_,_,_,h=>h
 | (name,kind) :: r,n,acc,h1,h2=>by
  unfold cellsFrom
  by_cases hk:(kind == NameKind.cell)=true
  ·rw [if_pos hk];refine zq r (n + 1) _ (fun x c e=>?_) (fun x y c e e'=>?_)
   ·rw [D9] at e;cases hb:x == name with
    | true=>rw [hb] at e; cases e; exact Nat.lt_succ_self _
    | false=>rw [hb] at e; exact Nat.lt_succ_of_lt (h1 x c e)
   ·rw [D9] at e e';cases hb:x == name with
    | true=>
     rw [hb] at e; cases e;cases hb':y == name with
     | true=>rw [beq_iff_eq.mp hb,beq_iff_eq.mp hb']
     | false=>rw [hb'] at e'; exact absurd (h1 y _ e') (Nat.lt_irrefl _)
    | false=>
     rw [hb] at e;cases hb':y == name with
     | true=>rw [hb'] at e'; cases e'; exact absurd (h1 x _ e) (Nat.lt_irrefl _)
     | false=>rw [hb'] at e'; exact h2 x y c e e'
  ·rw [if_neg hk];exact zq r n acc h1 h2
theorem Q8p {M:Model} {A:Around} {E:Value->Shared->Prop} {s:Shared} {scope:Scope} {globals:Addr} {cl:List (Str × Addr)} {qual:Str} {func:Option Addr} {code:Value} {env:Env} {builtins:Addr} {Q:Env->Shared->Prop}
  (hQ:Q (newEnv scope s.heap.objs.size globals (cellsFrom (s.heap.objs.size + 1) scope.names cl) qual func code (some env) builtins) { s with heap:=pushCells (s.heap.push { cls:=.type "dict",data:=.dict #[] }) scope.names }) :
  wpAny M A (newFunctionEnv scope globals cl [] qual func code (some env) builtins) Q E s:=by
 simp only [newFunctionEnv,Option.isSome_some,if_true];refine wpAny_bind (wpAny_alloc ?_);refine wpAny_bind (wpAny_layCells _ (fun name kind cells=>by cases hkc:kind == NameKind.cell <;> simp [hkc]) _ _ _ _ ?_);rw [show ({ s with heap:=s.heap.push { cls:=.type "dict",data:=.dict #[] } }:Shared).heap.objs.size=s.heap.objs.size + 1 from F4 ..];refine wpAny_bind ?_;rw [List.forIn_nil];exact wpAny_pure (wpAny_pure hQ)
def compOkC (N N':List Str) (sc scE:Scope) (cap:List (Option Nat)):Bool:=
 sc.kind == .function && sc.names.all (fun x=>x.2 != .cell || sc.names.lookup x.1 == some .cell) && sc.names.all (fun x=>x.2 != .local || sc.names.lookup x.1 == some .local) &&
 sc.names.all (fun x=>x.2 != .free || scE.names.lookup x.1 == some .cell || scE.names.lookup x.1 == some .free) && cap.length == N'.length &&
 (List.range cap.length).all (fun i=>match cap[i]? with
  | some (some j)=>(match N'[i]?,N[j]? with | some a,some b=>a == b && sc.names.lookup a == some .free | _,_=>false)
  | _=>true)
structure CompOkC (N N':List Str) (sc scE:Scope) (cap:List (Option Nat)):Prop where
 kind:sc.kind=.function
 cel:∀ x∈sc.names,x.2=.cell->sc.names.lookup x.1=some .cell
 loc:∀ x∈sc.names,x.2=.local->sc.names.lookup x.1=some .local
 fre:∀ x∈sc.names,x.2=.free->scE.names.lookup x.1=some .cell\/scE.names.lookup x.1=some .free
 len:cap.length=N'.length
 at_:∀ (i j:Nat),cap[i]?=some (some j)->∃ x,N'[i]?=some x/\N[j]?=some x/\sc.names.lookup x=some .free
theorem compOkC.of {N N':List Str} {sc scE:Scope} {cap:List (Option Nat)} (h:compOkC N N' sc scE cap=true):CompOkC N N' sc scE cap:=by
 unfold compOkC at h;simp only [F6,F7,beq_iff_eq,Bool.or_eq_true,bne_iff_ne] at h;obtain ⟨⟨⟨⟨⟨h1,h2⟩,h3⟩,h4⟩,h5⟩,h6⟩:=h;refine ⟨h1,fun x hx e=>?_,fun x hx e=>?_,fun x hx e=>?_,h5,fun i j e=>?_⟩
 ·rcases h2 x hx with z | z
  ·exact absurd e z
  ·exact z
 ·rcases h3 x hx with z | z
  ·exact absurd e z
  ·exact z
 ·rcases h4 x hx with (z | z) | z
  ·exact absurd e z
  ·exact .inl z
  ·exact .inr z
 ·have hi:i < cap.length:=(O1.mp e).1;have:=h6 i (E7.mpr hi);rw [e] at this;simp only at this;cases e1:N'[i]? with
  | none=>rw [e1] at this; cases this
  | some a=>
   cases e2:N[j]? with
   | none=>rw [e1,e2] at this; cases this
   | some b=>
    rw [e1,e2] at this;simp only [F6,beq_iff_eq] at this;obtain ⟨rfl,z⟩:=this;exact ⟨a,rfl,rfl,z⟩
def Uj (X:Cx) (N':List Str) (sc:Scope) (cl:List (Str × Addr)) (C:Addr) (s0:Shared) (H0:Hp) (ex:List Addr):Cx:=
 { X with N:=N',s₀:=s0,H₀:=H0,env:=compEnvC sc cl C X.env,outer:=X.stack,ex:=ex,fn:=fun x=>sc.names.lookup x == some .cell,pn:=[],xe:=fun _ _=>False }
section
variable {X:Cx}
theorem Qm3 {pins:List (Addr × Obj)} {σ:St} {H:Hp} {s:Shared} {N N':List Str} {sc scE:Scope} {cap:List (Option Nat)} {cl:List (Str × Addr)} {fp:List Addr}
  (I:Inv X pins σ H s) (hN:X.N=N) (hE:X.env.scope=scE) (ck:CompOkC N N' sc scE cap) (c1:∀ x c,cl.lookup x=some c->X.env.cells.lookup x=some c) (c2:∀ x∈sc.names,x.2=.free->∃ c,cl.lookup x.1=some c)
  (hf:∀ b∈fp,Q8n X pins H b) (hfs:∀ b∈fp,b < s.heap.objs.size) :
  Inv (Uj X N' sc (cellsFrom (s.heap.objs.size + 1) sc.names cl) s.heap.objs.size s H fp) [] (Q3y cap σ) H { s with heap:=pushCells (s.heap.push { cls:=.type "dict",data:=.dict #[] }) sc.names }:=by
 obtain ⟨h₁,hh₁⟩:∃ h₁,pushCells (s.heap.push { cls:=.type "dict",data:=.dict #[] }) sc.names=h₁:=⟨_,rfl⟩;obtain ⟨cl',hcl'⟩:∃ cl',cellsFrom (s.heap.objs.size + 1) sc.names cl=cl':=⟨_,rfl⟩;rw [hh₁,hcl'];have keep:∀ b o,s.heap.get? b=some o->h₁.get? b=some o:=fun b o e=>by rw [<- hh₁]; exact pushCells_keeps _ _ b o (O0 _ e)
 have hns:h₁.Ns s.heap.objs.size (fun _=>none):=by rw [<- hh₁]; exact (Heap.Ns.new s.heap (.type "dict")).keeps (pushCells_keeps _ _)
 have look:∀ x c,cl'.lookup x=some c->cl.lookup x=some c\/(s.heap.objs.size + 1<=c/\h₁.IsCell c none):=fun x c e=>by
  rw [<- hcl'] at e;have:=Xa (sc.names) (s.heap.push { cls:=.type "dict",data:=.dict #[] }) cl x c (by rw [F4]; exact e);rw [F4,hh₁] at this;rcases this with z | ⟨_,z,z'⟩
  ·exact .inl z
  ·exact .inr ⟨z,z'⟩
 have cellLt:∀ x c,cl.lookup x=some c->c < s.heap.objs.size:=fun x c e=>by
  obtain ⟨v,o,ho,_⟩:=I.cell x c (c1 x c e);exact O9 ho
 have inj:∀ x y c,cl'.lookup x=some c->cl'.lookup y=some c->x=y:=by
  rw [<- hcl'];exact zq _ _ _ (fun x c e=>Nat.lt_succ_of_lt (cellLt x c e)) fun x y c a b=>I.ok.inj x y c (c1 x c a) (c1 y c b)
 have isC:∀ x,sc.names.lookup x=some .cell->∃ c,cl'.lookup x=some c:=fun x e=>by
  rw [<- hcl'];exact Option.isSome_iff_exists.mp (PySem.W.cellsFrom_some _ _ _ (.inl e))
 have isF:∀ x,sc.names.lookup x=some .free->cl'.lookup x=cl.lookup x:=fun x e=>by
  rw [<- hcl'];refine K4 _ _ _ fun z=>?_
  have:=ck.cel _ z rfl;rw [e] at this; cases this
 have kindOf:∀ x k,(compEnvC sc cl' s.heap.objs.size X.env).kindOf x=some k->k=.cell\/k=.free->sc.names.lookup x=some .free\/sc.names.lookup x=some .cell:=fun x k e hk=>by
  have e':(relabel sc X.env).names.lookup x=some k:=e;rw [Q0w] at e';cases q:sc.names.lookup x with
  | none=>rw [q] at e'; cases e'
  | some k'=>
   rw [q] at e';have e'':(if (k' == NameKind.free && X.env.scope.kind == .function && X.env.kindOf x == some .cell)=true then NameKind.cell else k')=k:=Option.some.inj e'
   by_cases hc:(k' == NameKind.free && X.env.scope.kind == .function && X.env.kindOf x == some .cell)=true
   ·simp only [F6,beq_iff_eq] at hc;rw [hc.1.1]; exact .inl rfl
   ·rw [if_neg hc] at e'';subst e'';rcases hk with z | z
    ·rw [z]; exact .inr rfl
    ·rw [z]; exact .inl rfl
 have cellAt:∀ x c,X.env.cells.lookup x=some c->∀ v,s.heap.IsCell c v->h₁.IsCell c v:=fun x c e v ⟨o,ho,hd⟩=>⟨o,keep c o ho,hd⟩
 have Hnew:∀ c,s.heap.objs.size<=c->H c=none:=fun c hc=>I.hok.fresh hc
 refine ⟨⟨I.ok.mod,ck.kind,I.ok.glob,I.ok.blt,O7 _,inj,fun x hx=>?_,fun x c h1 h2=>?_,I.ok.hd,I.ok.frames,.inl rfl,fun b hb=>?_,I.bs,
  F1 I.ok.bsz I.sz,fun b o e hb=>?_,fun b hb hz=>?_,I.stack,I.stkFree⟩,rfl,I.bare,Un.kept keep,⟨_,hns,fun i x v e1 e2 e3=>?_⟩,fun x c e=>?_,Hnew _ (O7 _),fun x c e=>?_,fun p hp=>(by cases hp),I.hok.kept keep,?_⟩
 ·have hx:(compEnvC sc cl' s.heap.objs.size X.env).kindOf x=some .cell\/(compEnvC sc cl' s.heap.objs.size X.env).kindOf x=some .free:=hx;have q:sc.names.lookup x=some .free\/sc.names.lookup x=some .cell:=by
   rcases hx with z | z
   ·exact kindOf x _ z (.inl rfl)
   ·exact kindOf x _ z (.inr rfl)
  rcases q with q | q
  ·obtain ⟨c,hc⟩:=c2 _ (PySem.mem_of_lookup q) rfl;exact ⟨c,(isF x q).trans hc⟩
  ·exact isC x q
 ·have h1:sc.names.lookup x=some .cell:=by simpa [Uj] using h1
  have h2:cl'.lookup x=some c:=h2;rw [<- hcl'] at h2;exact F1 (Nat.le_succ _) (zp _ _ _ (PySem.mem_of_lookup h1) h2)
 ·refine ⟨F0 (hfs b hb),fun x c e=>?_⟩;rcases look x c e with z | ⟨z,_⟩
  ·exact (hf b hb).2.2.2.2.1 x c (c1 x c z)
  ·exact fun q=>absurd (D3 (hfs b hb) (F1 (Nat.le_succ _) (q ▸ z))) (Nat.lt_irrefl _)
 ·rcases (hf b hb).2.2.2.1 with z | z
  ·exact I.ok.noex b o e z
  ·exact absurd (D3 (O9 e) (F1 I.ok.bsz z)) (Nat.lt_irrefl _)
 ·rcases E3.mp (I.stkSub b hz) with e | z
  ·exact (hf b hb).2.1 e
  ·exact (hf b hb).2.2.1 z
 ·have e1:N'[i]?=some x:=e1;have e2:(Q3y cap σ)[i]?=some (some v):=e2;unfold Q3y at e2;rw [E6] at e2;cases q:cap[i]? with
  | none=>rw [q] at e2; cases e2
  | some oj=>
   rw [q] at e2;cases oj with
   | none=>cases e2
   | some j=>
    obtain ⟨y,z1,z2,z3⟩:=ck.at_ i j q;rw [e1] at z1; cases z1;have ev:σ[j]?=some (some v):=by
     have e2':(σ[j]?).join=some v:=Option.some.inj e2;cases r:σ[j]? with
     | none=>rw [r] at e2'; cases e2'
     | some o=>rw [r] at e2'; exact congrArg some e2'
    obtain ⟨m',hm',hl⟩:=I.loc;have sK:X.env.scope.names.lookup x=some .cell\/X.env.scope.names.lookup x=some .free:=by rw [hE]; exact ck.fre _ (PySem.mem_of_lookup z3) rfl
    obtain ⟨u,ru,l⟩:=hl j x v (by rw [hN]; exact z2) ev (sK.elim (fun z=>.inr (.inl z)) fun z=>.inr (.inr z))
    refine ⟨u,ru,?_⟩;obtain ⟨c,hc⟩:=c2 _ (PySem.mem_of_lookup z3) rfl;rcases l with ⟨k,_⟩ | ⟨k,c',hc',hcell⟩
    ·have k:X.env.scope.names.lookup x=some .local:=k;rcases sK with z | z <;> (rw [k] at z; cases z)
    ·have:c=c':=by
      have q1:=c1 x c hc;rw [hc'] at q1;exact (Option.some.inj q1).symm
     subst this;refine .inr ⟨?_,c,(isF x z3).trans hc,cellAt x c hc' _ hcell⟩;show (relabel sc X.env).names.lookup x=some .cell\/(relabel sc X.env).names.lookup x=some .free;rw [Q0w,z3];show some (if _ then NameKind.cell else NameKind.free)=_\/some (if _ then NameKind.cell else NameKind.free)=_
     split
     ·exact .inl rfl
     ·exact .inr rfl
 ·rcases look x c e with z | ⟨_,z⟩
  ·obtain ⟨v,q⟩:=I.cell x c (c1 x c z);exact ⟨v,cellAt x c (c1 x c z) v q⟩
  ·exact ⟨_,z⟩
 ·rcases look x c e with z | ⟨z,_⟩
  ·exact I.freeC x c (c1 x c z)
  ·exact Hnew c (by omega)
 ·unfold Q3y;show _=N'.length;rw [O2];exact ck.len
end
section
variable {X:Cx}
theorem Qr1 {x y:V} {us:List Value} (r:Vals [x,y] us):∃ u w,us=[u,w]/\RelV x u/\RelV y w:=by
 cases r with
 | cons a r=>
  cases r with
  | cons b r=>
   cases r with
   | nil=>exact ⟨_,_,rfl,a,b⟩
end
end L2
namespace PySem
open Sem (wp)
section
variable {prog:Program} {w:World} {A:Around} {E:Value->Shared->Prop} {hp:Heap} {gs:Array GenState} {dr:Drawn} {tk:Nat} {sy:OsState}
variable {cn cq:Str} {kC kN:Addr} {bas tl tB:List Value} {hd:Bool} {sns:List Str} {subs:List Value} {abb:Bool} {coll:Option Bool} {dic:Option Addr} {j0 j1 j2 j3 j5:Option Value} {BB Bn newI nI initI inN:String} {tN:List Value}
theorem Q6f (Fn:ExcBaseFacts Bn newI inN tN) (hBn:tB.contains (.type Bn)=true) (F:ExcBaseFacts BB nI initI tB) (T:OwnTail hp tB tl) {rest:List Value} {f0:Addr} {o0:Obj} {Q:Fin->Shared->Prop}
  (oC:hp.get? kC=some (excClassObj cn cq kC kN bas tl hd sns subs abb coll dic j0 j1 j2 j3 j5 newI)) {K:PySem.W.Frag} (X:K.In hp) (ei:PySem.W.findIn K (.ref kC) "__init__" = some (some (.ref f0))) (of:hp.get? f0=some o0) (cf:o0.cls=.type "function")
  (hq:∀ h',(∀ b o,hp.get? b=some o->h'.get? b=some o)->h'.get? (hp.objs.size + 1)=some { cls:=.ref kC,data:=.fields #[.ref hp.objs.size,.none,.none,.none,.bool false,.none] }->wpAny (model prog w) A (call (.ref f0) (.ref (hp.objs.size + 1) :: rest)) (fun r s'=>r=.none/\Q (.done (.ret (.ref (hp.objs.size + 1)))) s') E ⟨h',gs,dr,tk,sy⟩) (hz:rest.length<=sizeLine) :
  wpAny (model prog w) A (Builtin.«type.__call__» ⟨.ref kC :: rest,[]⟩) Q E ⟨hp,gs,dr,tk,sy⟩:=by
 repeat (first | with_reducible refine wpAny_loadPart_at oC ?_ | with_reducible refine wpAny_madeBy_exc oC ?_ | wp_step)
 refine codeAny_call_builtin_code (Code.quiet_builtin _ Fn.quiet) (wpAny_check_new_subU Fn hBn T oC ?_);refine codeAny_exc_new_subU Fn hBn F T oC ?_ hz;show wpAny _ _ _ _ _ _;obtain ⟨h2,e2⟩:∃ h2,(hp.push { cls:=.type "tuple",data:=.seq rest.toArray }).push { cls:=.ref kC,data:=.fields #[.ref hp.objs.size,.none,.none,.none,.bool false,.none] }=h2:=⟨_,rfl⟩;have kp:∀ b o,hp.get? b=some o->h2.get? b=some o:=fun b o q=>by rw [<- e2]; exact O0 _ (O0 _ q)
 have oe:h2.get? (hp.objs.size + 1)=some { cls:=.ref kC,data:=.fields #[.ref hp.objs.size,.none,.none,.none,.bool false,.none] }:=by rw [<- e2]; heap_get
 have ot:h2.get? hp.objs.size=some { cls:=.type "tuple",data:=.seq rest.toArray }:=by rw [<- e2]; exact O0 _ (Heap.get?_push_at rfl rfl)
 rw [e2];have oC2:=kp _ _ oC;have self:(Value.ref kC :: tl).contains (.ref kC)=true:=by simp
 unfold isInstance
 repeat (first | with_reducible refine wpAny_loadPart_at oe ?_ | (with_reducible refine wpAny_isSubtype_exc oC2 ?_; rw [self]) | wp_step)
 show wpAny _ _ (typeLookup (.ref kC) _) _ _ _;refine (PySem.W.looks_findIn (X.keeps kp) ei).at ?_;refine wpAny_holding (wpAny_bind ?_);unfold bindSpecial;refine wpAny_bind (wpAny_typeOf (T := "function") ⟨_,kp _ _ of,cf⟩ ?_);rw [if_pos (by decide)];refine wpAny_pure (wpAny_bind (wpAny_mono (hq h2 kp oe) (fun r s' z=>?_) fun _ _ z=>z))
 obtain ⟨rfl,z⟩:=z
 wp_walk
 exact z
theorem Qew (Fn:ExcBaseFacts Bn newI inN tN) (hBn:tB.contains (.type Bn)=true) (F:ExcBaseFacts BB nI initI tB) (T:OwnTail hp tB tl) {rest:List Value} {f0:Addr} {o0:Obj} {Q:Value->Shared->Prop}
  (oC:hp.get? kC=some (excClassObj cn cq kC kN bas tl hd sns subs abb coll dic j0 j1 j2 j3 j5 newI)) {K:PySem.W.Frag} (X:K.In hp) (ei:PySem.W.findIn K (.ref kC) "__init__" = some (some (.ref f0))) (of:hp.get? f0=some o0) (cf:o0.cls=.type "function")
  (hq:∀ h',(∀ b o,hp.get? b=some o->h'.get? b=some o)->h'.get? (hp.objs.size + 1)=some { cls:=.ref kC,data:=.fields #[.ref hp.objs.size,.none,.none,.none,.bool false,.none] }->wpAny (model prog w) (A.under (.builtin "type.__call__" ⟨.ref kC :: rest,[]⟩)) (call (.ref f0) (.ref (hp.objs.size + 1) :: rest)) (fun r s'=>r=.none/\Q (.ref (hp.objs.size + 1)) s') E ⟨h',gs,dr,tk,sy⟩) (hz:rest.length<=sizeLine) :
  wpAny (model prog w) A (call (.ref kC) rest) Q E ⟨hp,gs,dr,tk,sy⟩:=by
 have l1:=tc_lookup;have l2:=tc_bind (.ref kC);have ty:(⟨hp,gs,dr,tk,sy⟩:Shared).TypeIs (.ref kC) "type" := ⟨_,oC,rfl⟩;refine wpAny_call (codeAny_of_tree ?_);show wpAny _ _ (callAny (.ref kC) _) _ _ _
 repeat (any_goals (first | assumption | with_reducible refine wpAny_loadPart_at oC ?_ | wp_step))
 refine ⟨rfl,?_⟩;exact codeAny_call_builtin_at (Code.quiet_builtin _ (by decide +kernel)) entry_typeCall (wpAny_check_type_call_sub oC (Q6f (hz:=hz) Fn hBn F T oC X ei of cf fun h' k m=>hq h' k m))
end
section
variable {M:Model} {A:Around} {E:Value->Shared->Prop} {env:Env}
variable {cn cq:Str} {kC kN:Addr} {bas tl:List Value} {hd:Bool} {sns:List Str} {subs:List Value} {abb:Bool} {coll:Option Bool} {dic:Option Addr} {j0 j1 j2 j3 j5:Option Value} {newI:String}
theorem Q93 {s:Shared} {x:Sem Value} {Q:Flow->Shared->Prop} (hb:tl.contains (.type "BaseException")=true) (hh:A.handled=none)
  (h:wpAny M A x (fun v s1=>∃ e t dv,v=.ref e/\s1.heap.get? kC=some (excClassObj cn cq kC kN bas tl hd sns subs abb coll dic j0 j1 j2 j3 j5 newI) /\
   s1.heap.get? e=some { cls:=.ref kC,dict:=dv,data:=.fields #[.ref t,.none,.none,.none,.bool false,.none] }/\E (.ref e) s1) E s):wpAny M A (raiseStmt env (some x) none) Q E s:=by
 have cb:(Value.ref kC :: tl).contains (.type "BaseException")=true:=by rw [List.contains_cons,hb,Bool.or_true]
 unfold raiseStmt;refine wpAny_bind (wpAny_mono h (fun v s1 z=>?_) fun _ _ z=>z)
 obtain ⟨e,t,dv,rfl,oC,oe,z⟩:=z;obtain ⟨hp,gs,dr,tk,sy⟩:=s1
 repeat (first | with_reducible refine wpAny_loadPart_at oe ?_ | with_reducible refine wpAny_loadPart_at oC ?_ | (with_reducible refine wpAny_isSubtype_exc oC ?_; rw [cb]) | wp_step)
 exact wpAny_raiseNew_none hh z
end
end PySem
namespace L2
open PySem PySem.Spec PyProof.Rows PySem.W PySem.Builtin.ObjectAttr
structure XSet (K:Frag) (C W:Addr) (name:Str):Prop where
 sa:findIn K (.ref C) "__setattr__" = some (some (.builtin "object.__setattr__"))
 ob:mroIn K C (.type "object")=some true
 cls:∃ cd,clsIn K C=some cd/\cd.mro=.ref C :: .ref W :: Ui/\cd.hasDict=true
 no:findIn K (.ref C) name=some none
section
variable {prog:Program} {w:World} {A:Around} {E:Value->Shared->Prop} {s:Shared} {K:Frag} {x C W:Addr} {name:Str} {v:Value}
theorem Qme {vs:Array Value} {Q:Unit->Shared->Prop} (X:K.In s.heap) (S:XSet K C W name) (oe:s.heap.get? x=some { cls:=.ref C,data:=.fields vs })
  (hq:∀ h' tk,h'.get? x=some { cls:=.ref C,dict:=some s.heap.objs.size,data:=.fields vs }->h'.Ns1 s.heap.objs.size (fun y=>if y=name then some v else none) ->
   (∀ b o,b≠x->s.heap.get? b=some o->h'.get? b=some o)->Q () { s with heap:=h',toks:=tk }):wpAny (model prog w) A (setAttr (.ref x) name v) Q E s:=by
 have J:InstAt s.heap x { cls:=.ref C,data:=.fields vs } C none:=⟨oe,rfl,rfl,True.intro⟩;obtain ⟨cd,hc,hm,hd⟩:=S.cls;refine set_plain X J S.sa ?_;have SF:=PySem.F.store_ValueError;have sub:Looks (model prog w) s.heap (isInstance (.ref x) (.type "object")) true:=J.type.andThen (looks_mroIn X S.ob);refine codeAny_call_builtin SF.slot.plain SF.entry (@check_slot (model prog w) _ _ { s with toks:=s.toks + 1 } "object.__setattr__" "object" "__setattr__" (.ref x) [.str name s.toks,v] [] _ SF.kind SF.split sub (SF.args (.ref x) (.str name s.toks) v) ?_);have lm:Looks (model prog w) s.heap (mroOf (.ref C)) cd.mro:=(looks_clsIn X hc).andThen .now;rw [osa_eq,refuse_eq];refine wpAny_bind (wpAny_bind (Looks.here (s:={ s with toks:=s.toks + 1 }) J.type (wpAny_bind (Looks.here (s:={ s with toks:=s.toks + 1 }) lm ?_))));rw [hm,refuseLoop_ref,refuseLoop_ref,SF.passes];refine wpAny_pure (wpAny_bind (Looks.here (s:={ s with toks:=s.toks + 1 }) J.type (wpAny_bind (Looks.here (s:={ s with toks:=s.toks + 1 }) (looks_findIn X S.no) (wpAny_bind (wpAny_pure ?_))))))
 dsimp only;unfold storeInOwnDict;refine wpAny_bind (wpAny_pure (wpAny_bind ?_));unfold ownDictForStores instanceDict;refine wpAny_bind (wpAny_loadPart oe (wpAny_bind (Looks.here (s:={ s with toks:=s.toks + 1 }) (looks_clsIn X hc) ?_)));rw [hd];have od:(s.heap.push { cls:=.type "dict",data:=.dict #[] }).get? x=some { cls:=.ref C,data:=.fields vs }:=O0 _ oe;have xs:x≠s.heap.objs.size:=F0 (O9 oe);have th:typeHasDict (.ref C)=true:=rfl;dsimp only;rw [if_neg (by decide),if_neg (by rw [th]; decide)];refine wpAny_bind (wpAny_alloc' ?_);refine wpAny_bind (wpAny_update' od ?_);refine wpAny_pure ?_;obtain ⟨h2,e2⟩:∃ h2,((s.heap.push { cls:=.type "dict",data:=.dict #[] }).update x fun o=>{ cls:=o.cls,dict:=some s.heap.objs.size,data:=o.data,slots:=o.slots })=h2:=⟨_,rfl⟩
 have g2:h2.get? s.heap.objs.size=some { cls:=.type "dict",data:=.dict #[] }:=by rw [<- e2]; exact (Heap.get?_update_ne _ _ _ _ xs.symm).trans (Heap.get?_push_at rfl rfl)
 have x2:h2.get? x=some { cls:=.ref C,dict:=some s.heap.objs.size,data:=.fields vs }:=by rw [<- e2]; exact F9 _ od rfl
 have k2:∀ b o,b≠x->s.heap.get? b=some o->h2.get? b=some o:=fun b o n q=>by rw [<- e2]; exact (Heap.get?_update_ne _ _ _ _ n).trans (O0 _ q)
 have n2:h2.Ns s.heap.objs.size (fun _=>none):=⟨_,#[],_,g2,rfl,fun e he=>absurd he (by simp),fun _=>rfl⟩;show wpAny _ _ (storeInDict s.heap.objs.size (.str name s.toks) name v) _ _ _;rw [e2];unfold storeInDict newKeyGuard;refine wpAny_bind (wpAny_pure (wpAny_bind (wpAny_nsSet1 (Heap.Ns1.of_empty n2) fun h' n' sb=>?_)))
 obtain ⟨oD,esD,epD,hoD,hdD,hcD⟩:=n'.count (Within.cons name v Within.nil);refine wpAny_bind (wpAny_lookBehind hoD (by rw [hdD]; exact pastItsLine_dict (F1 hcD (by rw [D8,List.length_nil,sizeLine_eq]; omega))) ?_);exact wpAny_pure (hq h' _ ((sb.2 x xs).trans x2) n' fun b o n q=>(sb.2 b (F0 (O9 q))).trans (k2 b o n q))
end
end L2
namespace L2
open PySem PySem.Spec PyProof.Rows PySem.W
def XO (x C:Addr) (dv:Option Addr) (h:Heap):Prop:=∃ t,h.get? x=some { cls:=.ref C,dict:=dv,data:=.fields #[.ref t,.none,.none,.none,.bool false,.none] }
theorem Qi8 {P:Program} {w:World} {H:Hp} {h:Heap} {x C:Addr} {dv:Option Addr} (o:XO x C dv h):ObjOk P w H h x (.ext (XO x C dv)):=
 ⟨o,o.elim fun t e=>⟨_,e⟩,fun h1 h2 ⟨t,e⟩ k=>⟨t,k _ e⟩⟩
structure XMade (K:Frag) (C W f:Addr):Prop where
 lk:∃ nm q N bs sn sub ab col dd k0 k1 k2 k3 k5,K.lookup C=some (excClassObj nm q C N bs (.ref W :: Ui) true sn sub ab col dd k0 k1 k2 k3 k5 "ValueError.__new__")
 xw:excIn K W Ui "ValueError.__new__" = true
 fi:findIn K (.ref C) "__init__" = some (some (.ref f))
 ff:∃ o,K.lookup f=some o/\o.cls=.type "function"
 kp:keepIn K (.ref C)=true
theorem XMade.tail {K:Frag} {C W f:Addr} {h:Heap} (M:XMade K C W f) (X:K.In h):OwnTail h Ui (.ref W :: Ui):=by
 obtain ⟨tl,N,nm,qn,bs,hdct,sn,sub,ab,col,dd,k0,k1,k2,k3,k5,mN,hC,hN,hni,T⟩:=(Qfd (mg:=fun _=>some (.ref W)) (x := "W") X rfl M.xw).obj
 exact .own hC hN hni .base
section
variable {prog:Program} {w:World} {A:Around} {E:Value->Shared->Prop} {s:Shared} {K:Frag} {x C W f:Addr}
theorem Qqx {u:Value} {Q:Value->Shared->Prop} (X:K.In s.heap) (M:XMade K C W f) (o:XO x C none s.heap)
  (hq:∀ h',(∀ b o,b≠x->s.heap.get? b=some o->h'.get? b=some o)->XO x C none h'->Q .none { s with heap:=h' }):wpAny (model prog w) A (call (.builtin "ValueError.__init__") [.ref x,u]) Q E s:=by
 obtain ⟨t,oe⟩:=o;obtain ⟨nm,q,N,bs,sn,sub,ab,col,dd,k0,k1,k2,k3,k5,lk⟩:=M.lk;obtain ⟨hp,gs,dr,tk,sy⟩:=s;refine wpAny_call (codeAny_call_builtin PySem.F.excBase_ValueError.init.plain PySem.F.excBase_ValueError.initEntry (wpAny_check_init_subU PySem.F.excBase_ValueError (M.tail X) (X _ _ lk) oe rfl ?_))
 wp_walk
 refine hq _ (fun b o n e=>?_) ⟨hp.objs.size,?_⟩
 ·rw [E5 _ _ (Ne.symm n)];exact O0 _ e
 ·rw [F9 _ (O0 _ oe) rfl];rfl
end
section
variable {X:Cx} {x C W f:Addr}
structure XCall (K:Frag) (W:Addr):Prop where
 ga:specialIn K (.ref W) "__getattribute__" = some (some (.builtin "type.__getattribute__"))
 rd:readsIn K W (.type "type")=true
 fc:findCls K (.ref W) (.type "type") "__init__" = some (.val (.builtin "ValueError.__init__"))
def tXI (K:Frag) (C W f:Addr) (t:TA):TE:=fun σ H Q=>t σ H fun vs H1=>∃ x y,vs=[.ref x,y]/\H1 x=some (.ext (XO x C none))/\Q .non H1
theorem Qj8 {n:Str} {p apos pos:Pos} {a b:Expr} {t:TA} {pl:Sem Bool} (M:XMade X.K C W f) (L:XCall X.K W) (hg:Gl X n) (hm:X.mg n=some (.ref W)) (ha:PA X [a,b] t) (hdb:(n == ("__debug__" : Str))=false:=by decide)
  (hst:starEach [a,b] X.env=[(false,eval a X.env),(false,eval b X.env)]:=by rfl)
  (ht:eval (.Call (.Attribute (.Name n p) "__init__" apos) [a,b] [] pos) X.env=(do
   let ov <- eval (.Name n p) X.env
   standAt apos.atName
   let (g,first) <- holding [ov] (getMethod ov "__init__" pl)
   callWith pos g first (backTo pos (starEach [a,b] X.env)) (backToKw pos (keywordEach [] X.env))):=by rfl) :
  PE X (.Call (.Attribute (.Name n p) "__init__" apos) [a,b] [] pos) (tXI X.K C W f t):=by
 intro pins s σ H Q I h;refine methodCall_KW (pl:=pl) (qj I hg hm ?_ hdb) ht;refine method_cls I.kIn L.ga (cls_value I.kIn L.rd L.fc (by first | rfl | kernel_rfl) ?_);have I1:Inv X pins σ H { s with toks:=s.toks + 1 }:=I.tok _;have hA:=ha pos pins _ σ H _ I1 h;rw [hst] at hA ⊢;refine Calls.callWith_builtin rfl (Calls.evalArgs_plain ?_);refine thn hA fun us s2 ⟨vs,H2,I2,r2,x,y,e,hx,q⟩=>?_
 subst e;obtain ⟨u1,u2,rfl,r1,r3⟩:=Qr1 r2;cases r1;refine Qqx I2.kIn M (I2.hok x _ hx).1 fun h' kk o=>?_
 refine ⟨.non,H2,?_,rfl,q⟩;have:=I2.write (x:=x) (e:=x) (o:=.ext (XO x C none)) (t':=s2.toks) (h':=h') (by rw [hx]; exact trivial) (.inl rfl) kk (o.elim fun t e=>⟨_,e⟩) (Qi8 o);have eq:upd H2 x (.ext (XO x C none))=H2:=by
  funext b
  by_cases z:b=x
  ·subst z; rw [J8,hx]
  ·rw [Qh z]
 rw [eq] at this;exact this
theorem Inv.trackO {pins:List (Addr × Obj)} {σ:St} {H H':Hp} {s s1:Shared} {a:Addr} {ho:HO} (I0:Inv X pins σ H s) (hex:∀ b,b∉X.ex) (h0:s.heap.get? a=none) (I:Inv X pins σ H' s1) (hn:H' a=none) (o:ObjOk X.prog X.w (upd H' a ho) s1.heap a ho):Inv X pins σ (upd H' a ho) s1:=by
 have ne0:∀ b u,s.heap.get? b=some u->b≠a:=fun b u e z=>by rw [z,h0] at e; cases e
 have nes:∀ b u,X.s₀.heap.get? b=some u->b≠a:=fun b u e=>by
  obtain ⟨u',e'⟩:=I0.base.there b u e (hex b);exact ne0 b u' e'
 refine ⟨I.ok,I.os,I.bare,?_,I.loc,I.cell,?_,?_,?_,?_,I.len⟩
 ·have u0:=I.base;exact ⟨u0.keep,u0.slot,fun c o e n hx=>by rw [Qh (nes c o e)]; exact u0.free c o e n hx,u0.there,
   fun c ts e=>by have:=u0.tups c ts e; rw [Qh (Qk this hn)]; exact this,
   fun c o ts e=>by have:=u0.frzs c o ts e; rw [Qh (Qk this hn)]; exact this,
   fun c ps e=>by obtain ⟨more,q⟩:=u0.tbls c ps e; exact ⟨more,by rw [Qh (Qk q hn)]; exact q⟩⟩
 ·obtain ⟨m,⟨o,_,_,e,_⟩,_⟩:=I0.loc;rw [Qh (ne0 _ _ e)]; exact I.free
 ·intro x c e;obtain ⟨v,o,z,_⟩:=I0.cell x c e;rw [Qh (ne0 _ _ z)]; exact I.freeC x c e
 ·intro p hp;obtain ⟨e,n,ne,nf,d⟩:=I.pin p hp;exact ⟨e,by rw [Qh (ne0 _ _ (I0.pin p hp).1)]; exact n,ne,nf,d⟩
 ·intro c u q
  by_cases hc:c=a
  ·subst hc;rw [J8] at q; cases q;exact o
  ·rw [Qh hc] at q;exact (I.hok c u q).stay (fun _ _ _ r=>r) (fun c' r=>by rw [Qh (Qk r hn)]; exact r) fun c' ts r=>by rw [Qh (Qk r hn)]; exact r
def tXS (C:Addr) (name:Str) (ta tv:TE):TS:=fun D σ H=>tv σ H fun y H1=>ta σ H1 fun v H2=>∃ x,v=.ref x/\H2 x=some (.ext (XO x C none)) /\
 ∀ dx,H2 dx=none->dx≠x->D.nx σ (upd (upd H2 x (.ext (XO x C (some dx)))) dx (.xd [(name,y)]))
theorem Qna {o value:Expr} {name:Str} {ta tv:TE} {pos pos':Pos} (hex:∀ b,b∉X.ex) (S:XSet X.K C W name) (ha:PE X o ta) (hv:PE X value tv) (hs:swapsWith value (some (.Attribute o name pos')) pos.line X.env=pure false:=by rfl) :
  PS X (.Assign [.Attribute o name pos'] value pos) (tXS C name ta tv):=by
 intro pins s σ H D I h;refine plainObj_wpAny_Assign_Attribute (thn (hv pins s σ H _ I h) fun u s1 ⟨y,H1,I1,ry,q⟩=>thn (ha pins s1 σ H1 _ I1 q) fun ov s2 ⟨v,H2,I2,rx,x,ex,hx,q2⟩=>?_) hs
 subst ex;obtain rfl:ov=Value.ref x:=rx;obtain ⟨t,oe⟩:=(I2.hok x _ hx).1;refine Qme I2.kIn S oe fun h' tk o' n' kk=>?_
 have xs:s2.heap.objs.size≠x:=Nat.ne_of_gt (O9 oe);have I3:=I2.write (x:=x) (e:=x) (o:=.ext (XO x C (some s2.heap.objs.size))) (t':=tk) (h':=h') (by rw [hx]; exact trivial) (.inl rfl) kk ⟨_,o'⟩ (Qi8 ⟨t,o'⟩);refine ⟨σ,_,?_,q2 s2.heap.objs.size I2.fresh xs⟩;refine Inv.trackO I2 hex (Heap.get?_none_of_le (O7 _)) I3 (by rw [Qh xs]; exact I2.fresh) ⟨_,n',fun g=>?_⟩;show RelO ([(name,y)].lookup g) (if g=name then some u else none)
 by_cases z:g=name
 ·subst z;rw [if_pos rfl,D9,show (g == g)=true by simp];exact ry
 ·have:(g == name)=false:=by simpa using z
  rw [if_neg z,D9,this];exact trivial
end
end L2
namespace PySem
open Sem (wp)
def Q0j (o:Obj):Option Value:=match o.data with | .fields vs=>vs[2]? | _=>none
theorem Qda {o:Obj} {vs:Array Value} {x:Value} (od:o.data=.fields vs):Q0j (Obj.mapFields (·.setIfInBounds 1 x) o)=Q0j o:=by
 have d:=Obj.data_mapFields od (·.setIfInBounds 1 x);unfold Q0j;rw [d,od];exact Array.getElem?_setIfInBounds_ne (by decide)
section
variable {M:Model} {A:Around} {E:Value->Shared->Prop} {s:Shared} {bs:Heap} {en:Env} {ou:List Env} {L e:Addr} {ob:Obj} {vs:Array Value} {a0:Value} {Q:Unit->Shared->Prop}
theorem Q8a {head:Value} {nx:Bool} (fr:A.frames=some (en :: ou)) (ff:s.heap.FunFrames bs (en :: ou)) (ef:en.frame=some L) (oe:s.heap.get? e=some ob) (kb:bs.StaysIn s.heap) (ne:bs.get? e=none)
  (od:ob.data=.fields vs) (z1:1 < vs.size) (z0:vs[0]?=some a0)
  (h:∀ h',Heap.LeftW bs (en :: ou) e ob.cls a0 s.heap h'->(∃ o',h'.get? e=some o'/\o'.dict=ob.dict/\Q0j o'=Q0j ob)->Q () { s with heap:=h' }) :
  wpAny M A (do
   let a <- frameOf en
   let pl <- entryPlaceOf L nx
   let b <- EntryCells.newEntry head a .none (rawInt L) .none pl
   setField (.ref e) 1 b) (fun _ s'=>wpAny M A (setFlight (.ref e) none) Q E s') E s:=by
 have nf:e∉(en :: ou).filterMap (·.frame):=fun m=>by
  obtain ⟨_,o,q,n⟩:=ff.mem m;rw [oe] at q;cases q;exact n vs od
 refine wpAny_bind (wpAny_frameOf_fun fr ff ef fun g gs=>?_);refine wpAny_bind (wpAny_entryPlaceOf fun pl hp=>?_);unfold EntryCells.newEntry newFields;refine wpAny_bind (wpAny_newObj_type ?_ (hp.sizeOk5 _ _ _ _ _));have ge:g.get? e=some ob:=(gs.2.1 e nf).trans oe;have gb:bs.StaysIn g:=fun b o q=>(gs.2.1 b fun m=>by
  rw [(ff.mem m).1] at q;cases q).trans (kb b o q)
 obtain ⟨tb,etb⟩:∃ tb:List Value,[head,.ref L,.none,rawInt L,.none] ++ (if pl.isEmpty then List.replicate 6 Value.none else pl)=tb:=⟨_,rfl⟩;have l5:3 < tb.length/\tb[3]?=some (rawInt L):=by
  rw [<- etb];exact ⟨by simp,by simp⟩
 rw [etb];have ge2:=O0 (h:=g) { cls:=.type "traceback",dict:=none,data:=.fields tb.toArray } ge;refine wpAny_setField ge2 od z1 ?_;have te:g.objs.size≠e:=Nat.ne_of_gt (O9 ge);have d3:=Obj.data_mapFields od (·.setIfInBounds 1 (Value.ref g.objs.size));have ge3:=F9 (Obj.mapFields (·.setIfInBounds 1 (Value.ref g.objs.size))) ge2 (Obj.isFreed_of_fields d3);have gt3:=(E5 (g.push { cls:=.type "traceback",dict:=none,data:=.fields tb.toArray })
  (Obj.mapFields (·.setIfInBounds 1 (Value.ref g.objs.size))) te.symm).trans
  (D6 g rfl)
 unfold setFlight;refine wpAny_bind (wpAny_field ge3 d3 (x:=.ref g.objs.size) (by simp [z1]) ?_);rw [if_pos (show (Value.ref g.objs.size != Value.none)=true by simp)];refine wpAny_setField gt3 rfl (by simpa using l5.1) (h _ ?_ ?_)
 all_goals
  obtain ⟨g3,eg3⟩:∃ g3,((g.push { cls:=.type "traceback",dict:=none,data:=.fields tb.toArray }).update e (Obj.mapFields (·.setIfInBounds 1 (Value.ref g.objs.size))))=g3:=⟨_,rfl⟩;rw [eg3] at ge3 gt3 ⊢
 ·have kp:∀ b o,b≠e->g.get? b=some o->(g3.update g.objs.size (Obj.mapFields (·.setIfInBounds 3 ((none:Option Addr).elim Value.none fun f=>rawInt f)))).get? b=some o:=fun b o n q=>by
   rw [E5 _ _ (Nat.ne_of_gt (O9 q)),<- eg3,E5 _ _ n.symm];exact O0 _ q
  have nr:∀ b o,s.heap.get? b=some o->(∀ ws,o.data≠.fields ws)->b≠e:=fun b o q n z=>by
   rw [z,oe] at q;cases q;exact n vs od
  refine ⟨fun b o q=>kp b o (fun z=>by rw [z,ne] at q; cases q) (gb b o q),ff.of_keeps fun b o q n=>?_,?_,fun b o q n=>?_⟩
  ·obtain ⟨sl,z⟩:=gs.2.2 b o q;exact ⟨_,kp b _ (nr b o q n) z,rfl⟩
  ·refine ⟨_,_,g.objs.size,_,_,?_,⟨Obj.cls_mapFields _ _,?_⟩,d3,by simp [z1],gb.fresh,te,F9 _ gt3 (Obj.isFreed_of_fields (Obj.data_mapFields rfl _)),Obj.data_mapFields rfl _,?_⟩
   ·rw [E5 _ _ te];exact ge3
   ·rw [Array.getElem?_setIfInBounds_ne (by decide)];exact z0
   ·have:=l5.1;simp [this]
  ·obtain ⟨sl,z⟩:=gs.2.2 b o q;exact ⟨sl,kp b _ (nr b o q n) z⟩
 ·refine ⟨_,(E5 _ _ te).trans ge3,?_,Qda od⟩;cases ob with
  | mk c d dt sl=>cases dt <;> first | rfl | cases od
theorem Qd2 (fr:A.frames=some (en :: ou)) (ff:s.heap.FunFrames bs (en :: ou)) (ef:en.frame=some L) (oe:s.heap.get? e=some ob) (kb:bs.StaysIn s.heap) (ne:bs.get? e=none)
  (od:ob.data=.fields vs) (z1:vs[1]?=some .none) (z0:vs[0]?=some a0)
  (h:∀ h',Heap.LeftW bs (en :: ou) e ob.cls a0 s.heap h'->(∃ o',h'.get? e=some o'/\o'.dict=ob.dict/\Q0j o'=Q0j ob)->Q () { s with heap:=h' }):wpAny M A (leaving en (.ref e)) Q E s:=by
 unfold leaving noteFrame;simp only [ef];refine wpAny_bind (wpAny_bind (wpAny_field oe od z1 ?_));rw [if_neg (by decide)];exact Q8a fr ff ef oe kb ne od (Array.getElem?_eq_some_iff.mp z1).1 z0 h
theorem Qd1 {cls:Value} {dv:Option Addr} (fr:A.frames=some (en :: ou)) (ef:en.frame=some L) (fl:Heap.FlyingW bs (en :: ou) e cls a0 s.heap) (dd:∃ o',s.heap.get? e=some o'/\o'.dict=dv/\Q0j o'=some .none)
  (h:∀ h',Heap.FlyingW bs ou e cls a0 h'->(∃ o',h'.get? e=some o'/\o'.dict=dv/\Q0j o'=some .none)->s.heap.UpToSlots h'->Q () { s with heap:=h' }):wpAny M A (leaving en (.ref e)) Q E s:=by
 obtain ⟨kb,ne,ff,oe,ws,T,oT,ts,he,⟨hc,z0⟩,od,z1,nT,Te,hT,dT,z3⟩:=fl;obtain ⟨o',ho',hdv,hfl⟩:=dd;rw [he] at ho';cases ho';unfold leaving noteFrame;simp only [ef];refine wpAny_bind (wpAny_bind (wpAny_field he od z1 ?_));rw [if_pos (show (Value.ref T != Value.none)=true by simp)];refine wpAny_bind (wpAny_field hT dT z3 ?_);rw [if_neg (show ¬ ((Value.none == rawInt L)=true) by simp [rawInt])];refine wpAny_bind (wpAny_setField hT dT (Array.getElem?_eq_some_iff.mp z3).1 ?_);have ot:∀ b,b≠T->(s.heap.update T (Obj.mapFields (·.setIfInBounds 3 Value.none))).get? b=s.heap.get? b:=fun b n=>E5 _ _ n.symm
 have nr:∀ b o,s.heap.get? b=some o->(∀ ws,o.data≠.fields ws)->b≠T:=fun b o q n z=>by
  rw [z,hT] at q;cases q;exact n ts dT
 refine Q8a fr (ff.of_keeps fun b o q n=>⟨o,(ot b (nr b o q n)).trans q,rfl⟩) ef ((ot e Te.symm).trans he) (fun b o q=>(ot b fun z=>by rw [z,nT] at q; cases q).trans (kb b o q)) ne od (Array.getElem?_eq_some_iff.mp z1).1 z0 fun h' lf d'=>?_
 obtain ⟨k1,⟨_,_,k2⟩,k3,k4⟩:=lf;rw [hc] at k3;exact h h' ⟨k1,ne,k2,k3⟩ (d'.imp fun o q=>⟨q.1,q.2.1.trans hdv,q.2.2.trans hfl⟩) fun b o q n=>k4 b o ((ot b (nr b o q n)).trans q) n
theorem Q5u {head:Value} {nx:Bool} (fr:A.frames=some (en :: ou)) (ff:s.heap.FunFrames bs (en :: ou)) (ef:en.frame=some L) (oe:s.heap.get? e=some ob) (kb:bs.StaysIn s.heap) (ne:bs.get? e=none)
  (od:ob.data=.fields vs) (z1:1 < vs.size) (z0:vs[0]?=some a0)
  (h:∀ h',Heap.NotedW bs (en :: ou) e ob.cls a0 (rawInt L) s.heap h'->(∃ o',h'.get? e=some o'/\o'.dict=ob.dict/\Q0j o'=Q0j ob)->Q () { s with heap:=h' }) :
  wpAny M A (do
   let a <- frameOf en
   let pl <- entryPlaceOf L nx
   let b <- EntryCells.newEntry head a .none (rawInt L) .none pl
   setField (.ref e) 1 b) Q E s:=by
 have nf:e∉(en :: ou).filterMap (·.frame):=fun m=>by
  obtain ⟨_,o,q,n⟩:=ff.mem m;rw [oe] at q;cases q;exact n vs od
 refine wpAny_bind (wpAny_frameOf_fun fr ff ef fun g gs=>?_);refine wpAny_bind (wpAny_entryPlaceOf fun pl hp=>?_);unfold EntryCells.newEntry newFields;refine wpAny_bind (wpAny_newObj_type ?_ (hp.sizeOk5 _ _ _ _ _));have ge:g.get? e=some ob:=(gs.2.1 e nf).trans oe;have gb:bs.StaysIn g:=fun b o q=>(gs.2.1 b fun m=>by
  rw [(ff.mem m).1] at q;cases q).trans (kb b o q)
 obtain ⟨tb,etb⟩:∃ tb:List Value,[head,.ref L,.none,rawInt L,.none] ++ (if pl.isEmpty then List.replicate 6 Value.none else pl)=tb:=⟨_,rfl⟩;have l5:3 < tb.length/\tb[3]?=some (rawInt L):=by
  rw [<- etb];exact ⟨by simp,by simp⟩
 rw [etb];have ge2:=O0 (h:=g) { cls:=.type "traceback",dict:=none,data:=.fields tb.toArray } ge;have te:g.objs.size≠e:=Nat.ne_of_gt (O9 ge);have d3:=Obj.data_mapFields od (·.setIfInBounds 1 (Value.ref g.objs.size));have ge3:=F9 (Obj.mapFields (·.setIfInBounds 1 (Value.ref g.objs.size))) ge2 (Obj.isFreed_of_fields d3);have gt3:=(E5 (g.push { cls:=.type "traceback",dict:=none,data:=.fields tb.toArray })
  (Obj.mapFields (·.setIfInBounds 1 (Value.ref g.objs.size))) te.symm).trans
  (D6 g rfl)
 refine wpAny_setField ge2 od z1 (h _ ?_ ?_)
 ·have kp:∀ b o,b≠e->g.get? b=some o->((g.push { cls:=.type "traceback",dict:=none,data:=.fields tb.toArray }).update e (Obj.mapFields (·.setIfInBounds 1 (Value.ref g.objs.size)))).get? b=some o:=fun b o n q=>by
   rw [E5 _ _ n.symm];exact O0 _ q
  have nr:∀ b o,s.heap.get? b=some o->(∀ ws,o.data≠.fields ws)->b≠e:=fun b o q n z=>by
   rw [z,oe] at q;cases q;exact n vs od
  refine ⟨fun b o q=>kp b o (fun z=>by rw [z,ne] at q; cases q) (gb b o q),ff.of_keeps fun b o q n=>?_,?_,fun b o q n=>?_⟩
  ·obtain ⟨sl,z⟩:=gs.2.2 b o q;exact ⟨_,kp b _ (nr b o q n) z,rfl⟩
  ·refine ⟨_,_,g.objs.size,_,_,ge3,⟨Obj.cls_mapFields _ _,?_⟩,d3,by simp [z1],gb.fresh,te,gt3,rfl,by simpa using l5.2⟩;rw [Array.getElem?_setIfInBounds_ne (by decide)];exact z0
  ·obtain ⟨sl,z⟩:=gs.2.2 b o q;exact ⟨sl,kp b _ (nr b o q n) z⟩
 ·refine ⟨_,ge3,?_,Qda od⟩;cases ob with
  | mk c d dt sl=>cases dt <;> first | rfl | cases od
theorem Qh6 {cls:Value} {dv:Option Addr} (fr:A.frames=some (en :: ou)) (ef:en.frame=some L) (fl:Heap.FlyingW bs (en :: ou) e cls a0 s.heap) (dd:∃ o',s.heap.get? e=some o'/\o'.dict=dv/\Q0j o'=some .none)
  (h:∀ h',Heap.HeldW bs (en :: ou) e cls a0 L h'->(∃ o',h'.get? e=some o'/\o'.dict=dv/\Q0j o'=some .none)->s.heap.UpToSlots h'->Q () { s with heap:=h' }):wpAny M A (noteFrame (.ref e) en) Q E s:=by
 obtain ⟨kb,ne,ff,oe,ws,T,oT,ts,he,⟨hc,z0⟩,od,z1,nT,Te,hT,dT,z3⟩:=fl;obtain ⟨o',ho',hdv,hfl⟩:=dd;rw [he] at ho';cases ho';unfold noteFrame;simp only [ef];refine wpAny_bind (wpAny_field he od z1 ?_);rw [if_pos (show (Value.ref T != Value.none)=true by simp)];refine wpAny_bind (wpAny_field hT dT z3 ?_);rw [if_neg (show ¬ ((Value.none == rawInt L)=true) by simp [rawInt])];refine wpAny_bind (wpAny_setField hT dT (Array.getElem?_eq_some_iff.mp z3).1 ?_);have ot:∀ b,b≠T->(s.heap.update T (Obj.mapFields (·.setIfInBounds 3 Value.none))).get? b=s.heap.get? b:=fun b n=>E5 _ _ n.symm
 have nr:∀ b o,s.heap.get? b=some o->(∀ ws,o.data≠.fields ws)->b≠T:=fun b o q n z=>by
  rw [z,hT] at q;cases q;exact n ts dT
 refine Q5u fr (ff.of_keeps fun b o q n=>⟨o,(ot b (nr b o q n)).trans q,rfl⟩) ef ((ot e Te.symm).trans he) (fun b o q=>(ot b fun z=>by rw [z,nT] at q; cases q).trans (kb b o q)) ne od (Array.getElem?_eq_some_iff.mp z1).1 z0 fun h' nt d'=>?_
 obtain ⟨k1,k2,k3,k4⟩:=nt;rw [hc] at k3;exact h h' ⟨k1,ne,k2,k3⟩ (d'.imp fun o q=>⟨q.1,q.2.1.trans hdv,q.2.2.trans hfl⟩) fun b o q n=>k4 b o ((ot b (nr b o q n)).trans q) n
theorem Q5c {l:List Env} {cls fv:Value} {dv:Option Addr} (kb:bs.StaysIn s.heap) (ne:bs.get? e=none) (ff:s.heap.FunFrames bs l) (tr:s.heap.TracedAtW bs e cls a0 fv) (dd:∃ o',s.heap.get? e=some o'/\o'.dict=dv/\Q0j o'=some .none)
  (h:∀ h',Heap.FlyingW bs l e cls a0 h'->(∃ o',h'.get? e=some o'/\o'.dict=dv/\Q0j o'=some .none)->s.heap.UpToSlots h'->Q () { s with heap:=h' }):wpAny M A (setFlight (.ref e) none) Q E s:=by
 obtain ⟨oe,ws,T,oT,ts,he,hc,od,z1,nT,Te,hT,dT,z3⟩:=tr;obtain ⟨o',ho',hdv,hfl⟩:=dd;have s3:=(Array.getElem?_eq_some_iff.mp z3).1;have ot:∀ b,b≠T->(s.heap.update T (Obj.mapFields (·.setIfInBounds 3 ((none:Option Addr).elim Value.none fun f=>rawInt f)))).get? b=s.heap.get? b:=fun b n=>E5 _ _ n.symm
 have nr:∀ b o,s.heap.get? b=some o->(∀ ws,o.data≠.fields ws)->b≠T:=fun b o q n z=>by
  rw [z,hT] at q;cases q;exact n ts dT
 unfold setFlight;refine wpAny_bind (wpAny_field he od z1 ?_);rw [if_pos (show (Value.ref T != Value.none)=true by simp)];refine wpAny_setField hT dT s3 (h _ ⟨fun b o q=>(ot b fun z=>by rw [z,nT] at q; cases q).trans (kb b o q),ne,ff.of_keeps fun b o q n=>⟨o,(ot b (nr b o q n)).trans q,rfl⟩,?_⟩ ⟨o',(ot e Te.symm).trans ho',hdv,hfl⟩ fun b o q n=>⟨o.slots,(ot b (nr b o q n)).trans q⟩)
 exact ⟨oe,ws,T,_,_,(ot e Te.symm).trans he,hc,od,z1,nT,Te,F9 _ hT (Obj.isFreed_of_fields (Obj.data_mapFields dT _)),Obj.data_mapFields dT _,by simp [s3]⟩
end
end PySem
namespace L2
open PySem PySem.Spec PyProof.Rows
def CXD (P:Program) (w:World):CXT:=fun outer H s E e s'=>∃ a cls a0 dv H' B,e=Value.ref a/\Fly P w outer H H' s s' a cls a0 B/\(∃ o',s'.heap.get? a=some o'/\o'.dict=dv/\Q0j o'=some .none)/\E cls dv H'
theorem Uz {P:Program} {w:World} {X:Cx}:Kv (CXD P w) X E0:=fun _ _ _ _ _ _ _ h=>by
 obtain ⟨_,_,_,_,_,_,_,_,_,z⟩:=h;exact z.elim
def Qbi (H:Hp) (a:Addr):Hp:=fun b=>if b=a then none else H b
theorem Q6a {H:Hp} {a b:Addr} (h:b≠a):Qbi H a b=H b:=by unfold Qbi; rw [if_neg h]
theorem Q1v {H:Hp} {a:Addr}:Qbi H a a=none:=by unfold Qbi; rw [if_pos rfl]
theorem Inv.drop {X:Cx} {pins:List (Addr × Obj)} {σ:St} {H:Hp} {s:Shared} {a:Addr} {φ:Heap->Prop} (I:Inv X pins σ H s) (h:H a=some (.ext φ)):Inv X pins σ (Qbi H a) s:=by
 have nn:∀ b,H b=none->Qbi H a b=none:=fun b e=>by
  by_cases z:b=a
  ·subst z; exact Q1v
  ·rw [Q6a z]; exact e
 have ss:∀ b o,H b=some o->o≠.ext φ->Qbi H a b=some o:=fun b o e n=>by
  rw [Q6a fun z=>?_]
  ·exact e
  ·subst z; rw [h] at e; exact n (Option.some.inj e).symm
 refine ⟨I.ok,I.os,I.bare,?_,I.loc,I.cell,nn _ I.free,fun x c e=>nn _ (I.freeC x c e),fun p hp=>?_,fun b u q=>?_,I.len⟩
 ·have u:=I.base;exact ⟨u.keep,u.slot,fun b o e n hx=>nn _ (u.free b o e n hx),u.there,fun b xs e=>ss _ _ (u.tups b xs e) (by simp),fun b o v e=>ss _ _ (u.frzs b o v e) (by simp),fun b ps e=>by
   obtain ⟨more,q⟩:=u.tbls b ps e;exact ⟨more,ss _ _ q (by simp)⟩⟩
 ·obtain ⟨e,n,ne,nf,d⟩:=I.pin p hp;exact ⟨e,nn _ n,ne,nf,d⟩
 ·by_cases z:b=a
  ·subst z; rw [Q1v] at q; cases q
  ·rw [Q6a z] at q;exact (I.hok b u q).stay (fun _ _ _ r=>r) (fun c r=>ss _ _ r (by simp)) fun c ts r=>ss _ _ r (by simp)
section
variable {P:Program} {w:World} {K:PySem.W.Frag} {mg:Str->Option Value} {base:Heap} {N:List Str} {qual:Str} {scope:Scope} {f:Addr} {cd:Value} {A:Around} {outer:List Env} {s:Shared} {H:Hp} {E:XK}
abbrev cxD (P:Program) (w:World) (K:PySem.W.Frag) (mg:Str->Option Value) (base:Heap) (N:List Str) (qual:Str) (scope:Scope) (f:Addr) (cd:Value) (A:Around) (outer:List Env) (s:Shared) (H:Hp) (E:XK):Cx:=Qeu (CXD P w) P w K mg base N qual scope f cd A outer s H E
theorem Qar {pins:List (Addr × Obj)} {σ:St} {H1:Hp} {s1:Shared} (I:Inv (cxD P w K mg base N qual scope f cd A outer s H E) pins σ H1 s1) {b:Addr} {o:Obj} (e:s.heap.get? b=some o) (n:b∉frs outer):b∉frs (cxD P w K mg base N qual scope f cd A outer s H E).stack:=fun hb=>by
 rcases E3.mp (I.stkSub b hb) with z | z
 ·have h1:b < s.heap.objs.size:=O9 e;have h2:s.heap.objs.size<=(cxD P w K mg base N qual scope f cd A outer s H E).env.locals:=I.ok.above;rw [<- z] at h2;exact absurd (D3 h1 h2) (Nat.lt_irrefl _)
 ·exact n z
theorem Qka {b:Addr} (h:b∈frs outer):b∈frs (cxD P w K mg base N qual scope f cd A outer s H E).stack:=by
 show b∈frs (_ :: outer);unfold frs at h ⊢;rw [List.filterMap_cons]
 split
 ·exact h
 ·exact D0 _ h
theorem Qrf {pins:List (Addr × Obj)} {σ:St} {H1:Hp} {s1:Shared} {hx:Heap} {e C t:Addr} {dv:Option Addr} (I:Inv (cxD P w K mg base N qual scope f cd A outer s H E) pins σ H1 s1)
  (hk:∀ b o,b≠e->s1.heap.get? b=some o->hx.get? b=some o) (he1:∀ o,s1.heap.get? e=some o->∃ vs,o.data=.fields vs) (new:s.heap.get? e=none) (hH:H1 e=none)
  (oe:hx.get? e=some { cls:=.ref C,dict:=dv,data:=.fields #[.ref t,.none,.none,.none,.bool false,.none] }) (hE:E (.ref C) dv H1) :
  (cxD P w K mg base N qual scope f cd A outer s H E).xe (.ref e) { s1 with heap:=hx }:=by
 have hin:∀ en∈(cxD P w K mg base N qual scope f cd A outer s H E).stack,∀ b,en.frame=some b->b∈e :: frs (cxD P w K mg base N qual scope f cd A outer s H E).stack:=fun en he b hb=>D0 _ (List.mem_filterMap.mpr ⟨en,he,hb⟩)
 have ff:=PySem.W.funFrames_hide I.stack hin;have nee:∀ b o,s1.heap.get? b=some o->(∀ vs,o.data≠.fields vs)->b≠e:=fun b o q n z=>by
  subst z;obtain ⟨vs,d⟩:=he1 o q;exact n vs d
 have hid:(PySem.W.hideAll s1.heap (e :: frs (cxD P w K mg base N qual scope f cd A outer s H E).stack)).get? e=none:=PySem.W.hideAll_none _ D4;have kb:(PySem.W.hideAll s1.heap (e :: frs (cxD P w K mg base N qual scope f cd A outer s H E).stack)).StaysIn hx:=fun b o q=>hk b o (fun z=>by rw [z,hid] at q; cases q) (PySem.W.of_hideAll _ q)
 show wpAny (model P w) _ (leaving _ (.ref e)) _ _ _;refine Qd2 (bs:=PySem.W.hideAll s1.heap (e :: frs (cxD P w K mg base N qual scope f cd A outer s H E).stack)) (a0:=.ref t) (s:={ s1 with heap:=hx }) I.ok.frames (ff.of_keeps fun b o q n=>⟨o,hk b o (nee b o q n) q,rfl⟩) rfl oe kb hid rfl rfl rfl fun h2 lf dd=>?_
 obtain ⟨k1,⟨_,_,k2⟩,k3,k4⟩:=lf;have noex:∀ b:Addr,b∉(cxD P w K mg base N qual scope f cd A outer s H E).ex:=fun b z=>absurd (show b∈([]:List Addr) from z) (by simp)
 have nse:∀ b o,s.heap.get? b=some o->b≠e:=fun b o q z=>by rw [z,new] at q; cases q
 have out:∀ b o,s.heap.get? b=some o->b∉frs outer->b∉e :: frs (cxD P w K mg base N qual scope f cd A outer s H E).stack:=fun b o q n m=>by
  rcases E3.mp m with z | z
  ·exact nse b o q z
  ·exact Qar I q n z
 refine ⟨e,.ref C,.ref t,dv,H1,_,rfl,⟨I.os,I.bare,⟨k1,hid,k2,k3⟩,fun b u q=>?_,fun b o q n hb=>?_,fun b o q hb=>?_,fun b o q hb=>?_,fun b o q n=>I.base.free b o q n (noex b),I.base.tups,I.base.frzs,I.base.tbls⟩,dd,hE⟩
 ·have ne:∀ c v,H1 c=some v->c∉e :: frs (cxD P w K mg base N qual scope f cd A outer s H E).stack:=fun c v z m=>by
   rcases E3.mp m with m | m
   ·rw [m,hH] at z; cases z
   ·rw [I.stkFree c m] at z; cases z
  refine (I.hok b u q).stay (fun c v hc r=>PySem.W.hideAll_get _ r ?_) (fun _ r=>r) fun _ _ r=>r
  rcases hc with rfl | hc
  ·exact ne c u q
  ·exact ne c _ hc
 ·exact PySem.W.hideAll_get _ (I.base.keep b o q n hb (noex b)) (out b o q hb)
 ·obtain ⟨o',z⟩:=I.base.there b o q (noex b);exact ⟨o',PySem.W.hideAll_get _ z (out b o q hb)⟩
 ·obtain ⟨sl,z⟩:=I.base.slot b o q (I.ok.frf b hb) hb (noex b);obtain ⟨_,o',ho',hnf⟩:=I.ok.funs.mem hb;have ho2:s.heap.get? b=some o':=ho';rw [q] at ho2;cases ho2;obtain ⟨sl',z'⟩:=k4 b _ (hk b _ (nse b o q) z) hnf;exact ⟨sl',z'⟩
theorem Qc:Kv (CXD P w) (cxD P w K mg base N qual scope f cd A outer s H E) E:=by
 intro pins σ H1 s1 e s' I h;obtain ⟨a,cls,a0,dv,H',B,rfl,F,dd,hE⟩:=h;show wpAny (model P w) _ (leaving _ (.ref a)) _ _ _;have noex:∀ b:Addr,b∉(cxD P w K mg base N qual scope f cd A outer s H E).ex:=fun b z=>absurd (show b∈([]:List Addr) from z) (by simp)
 refine Qd1 I.ok.frames rfl F.fl dd fun h2 x1 d2 x2=>?_
 refine ⟨a,cls,a0,dv,H',B,rfl,⟨F.os.trans I.os,F.bare,x1,F.hokB,fun b o q n hb=>?_,fun b o q hb=>?_,fun b o q hb=>?_,fun b o q n=>?_,fun b xs q=>F.tups b xs (I.base.tups b xs q),fun b o u q=>F.frzs b o u (I.base.frzs b o u q),fun b ps q=>?_⟩,d2,hE⟩
 ·exact F.keep b o (I.base.keep b o q n hb (noex b)) (I.base.free b o q n (noex b)) (Qar I q hb)
 ·obtain ⟨o',z⟩:=I.base.there b o q (noex b);exact F.there b o' z (Qar I q hb)
 ·obtain ⟨sl,z⟩:=I.base.slot b o q (I.ok.frf b hb) hb (noex b);obtain ⟨_,o',ho',hnf⟩:=I.ok.funs.mem hb;have ho2:s.heap.get? b=some o':=ho';rw [q] at ho2;cases ho2;obtain ⟨sl',z'⟩:=F.slot b _ z (Qka hb);obtain ⟨sl2,z2⟩:=x2 b _ z' hnf;exact ⟨sl2,z2⟩
 ·obtain ⟨o',z⟩:=I.base.there b o q (noex b);exact F.free b o' z (I.base.free b o q n (noex b))
 ·obtain ⟨m1,e1⟩:=I.base.tbls b ps q;obtain ⟨m2,e2⟩:=F.tbls b _ e1;exact ⟨m1 ++ m2,by rw [e2,Array.append_assoc]⟩
end
section
variable {X:Cx}
def Q8m (X:Cx) (E:XK):Prop:=∀ (pins:List (Addr × Obj)) (σ:St) (H0 H1:Hp) (s0 s1:Shared) (hx:Heap) (e C t:Addr) (dv:Option Addr),Inv X pins σ H0 s0->s0.heap.get? e=none->Inv X pins σ H1 s1->(∀ b o,b≠e->s1.heap.get? b=some o->hx.get? b=some o) ->
 (∀ o,s1.heap.get? e=some o->∃ vs,o.data=.fields vs)->H1 e=none->hx.get? e=some { cls:=.ref C,dict:=dv,data:=.fields #[.ref t,.none,.none,.none,.bool false,.none] }->E (.ref C) dv H1->X.xe (.ref e) { s1 with heap:=hx }
theorem Qgj {x:Str} {C:Addr} {e:Expr} {t:TA} {E:XK} {np cpos pos:Pos} (hcalm:X.calm=true) (RO:Q8m X E) (hg:Gl X x) (hm:X.mg x=some (.ref C)) (q:PySem.W.excIn X.K C Ui "ValueError.__new__" = true) (ha:PA X [e] t)
  (hdb:(x == ("__debug__" : Str))=false:=by decide) (he:starEach [e] X.env=[(false,eval e X.env)]:=by rfl):PS X (.Raise (some (.Call (.Name x np) [e] [] cpos)) none pos) (Qr6 C E t):=by
 intro pins s σ H D I h;obtain ⟨tl,N,nm,qn,bs,hdct,sn,sub,ab,col,dd,k0,k1,k2,k3,k5,mN,hC,hN,hni,T⟩:=(Qfd I.mod.kin hm q).obj;refine wpAny_Raise_call_subU (C:=C) (nm:=nm) (q:=qn) (N:=N) (bs:=bs) (bm:=tl) (hdct:=hdct) (sn:=sn) (sub:=sub) (ab:=ab) (col:=col) (dd:=dd) (k0:=k0) (k1:=k1) (k2:=k2) (k3:=k3) (k5:=k5)
  PySem.F.excBase_ValueError (by decide +kernel) PySem.F.excBase_ValueError (mN:=mN) (T.hasType (by decide +kernel)) (I.ok.hd hcalm) (by rw [he]; rfl) hni (qj I hg hm ⟨rfl,?_⟩ hdb)
 have ha':=ha cpos pins s σ H _ I h;rw [he] at ha' ⊢;refine Calls.evalArgs_plain (wpAny_mono ha' (fun us s1 ⟨vs,H1,I1,r,z,hE⟩=>?_) fun _ _ y=>y)
 refine ⟨rfl,by rw [<- r.length]; exact z,I1.bk _ _ hC,hN.keeps I1.bk,T.keeps I1.bk,fun h' e' hx=>?_⟩;obtain ⟨t,oe,_,_⟩:=hx.there;exact RO pins σ H1 H1 s1 s1 h' e' C t none I1 hx.new I1 (fun b o _ k=>hx.keeps b o k) (fun o k=>by rw [hx.new] at k; cases k) (I1.hok.none_of hx.new) oe hE
def Q6m (C:Addr) (name:Str):Sp:=fun vs H Q _=>∃ (x:Addr) (v:V),vs=[.ref x,v]/\H x=some (.ext (XO x C none))/\∀ dx,H dx=none->dx≠x->Q .non (upd (upd H x (.ext (XO x C (some dx)))) dx (.xd [(name,v)]))
def Qmh (C:Addr) (name:Str) (E:XK) (t:TA):TS:=fun _ σ H=>t σ H fun vs H1=>∃ v,vs=[v]/\∀ dx,H1 dx=none->E (.ref C) (some dx) (upd H1 dx (.xd [(name,v)]))
theorem Qgi {x name:Str} {C W f:Addr} {fd:FuncData} {k:Nat} {ps:List Str} {e:Expr} {t:TA} {E:XK} {np cpos pos:Pos} (hcalm:X.calm=true) (RO:Q8m X E) (M:XMade X.K C W f) (G:FnOk X.prog X.w X.K X.mg X.base CX0 k f fd ps (Q6m C name)) (hr:Room (k + 1) X.A)
  (hb:Binds X.K fd ps []) (hg:Gl X x) (hm:X.mg x=some (.ref C)) (ha:PA X [e] t)
  (hdb:(x == ("__debug__" : Str))=false:=by decide) (he:starEach [e] X.env=[(false,eval e X.env)]:=by rfl):PS X (.Raise (some (.Call (.Name x np) [e] [] cpos)) none pos) (Qmh C name E t):=by
 intro pins s σ H D I h;obtain ⟨nm,q,N,bs,sn,sub,ab,col,dd,k0,k1,k2,k3,k5,lk⟩:=M.lk;obtain ⟨of,lf,cf⟩:=M.ff;have oC:∀ {H':Hp} {s':Shared},Inv X pins σ H' s'->s'.heap.get? C=some (excClassObj nm q C N bs (.ref W :: Ui) true sn sub ab col dd k0 k1 k2 k3 k5 "ValueError.__new__"):=fun J=>J.kIn _ _ lk
 rw [arm_exec_Raise];refine wpAny_bind (wpAny_standAt (Q93 (kC:=C) (cn:=nm) (cq:=q) (kN:=N) (bas:=bs) (tl:=.ref W :: Ui) (hd:=true) (sns:=sn) (subs:=sub) (abb:=ab) (coll:=col) (dic:=dd) (j0:=k0) (j1:=k1) (j2:=k2) (j3:=k3) (j5:=k5) (newI := "ValueError.__new__") (by simp) (I.ok.hd hcalm) ?_));refine wpAny_bind (wpAny_mono (wpAny_Call_Name_kw (qj I hg hm (PySem.W.callWith_K (h₀:=X.base) (Q:=fun v s1=>∃ e t dv,v=.ref e/\s1.heap.get? C=some (excClassObj nm q C N bs (.ref W :: Ui) true sn sub ab col dd k0 k1 k2 k3 k5 "ValueError.__new__")/\s1.heap.get? e=some { cls:=.ref C,dict:=dv,data:=.fields #[.ref t,.none,.none,.none,.bool false,.none] }/\X.xe (.ref e) s1) I.ok.mod.kin M.kp (thn (ha cpos pins s σ H _ I h) fun us s1 ⟨vs,H1,I1,r,v,ev,hE⟩=>⟨I1.kIn,?_⟩) (by rw [he]; rfl) rfl) hdb)) (fun v s3 z=>wpAny_bind (wpAny_standAt (wpAny_pure z))) fun _ _ z=>z)
 subst ev;obtain ⟨u,rfl,ru⟩:=r.one;obtain ⟨hp,gs,dr,tk,sy⟩:=s1;refine Qew (rest:=[u]) PySem.F.excBase_ValueError (by decide +kernel) PySem.F.excBase_ValueError (M.tail I1.kIn) (oC I1) I1.kIn M.fi (I1.kIn _ _ lf) cf (fun h' kp oe=>?_) (show 1<=sizeLine by decide);obtain ⟨a,ea⟩:∃ a,hp.objs.size + 1=a:=⟨_,rfl⟩;rw [ea] at oe ⊢;have la:hp.objs.size<=a:=by rw [<- ea]; exact Nat.le_succ _
 have na:H1 a=none:=I1.hok.fresh la;have ga:hp.get? a=none:=Heap.get?_none_of_le la;have I2:Inv X pins σ (upd H1 a (.ext (XO a C none))) ⟨h',gs,dr,tk,sy⟩:=I1.laid (t':=tk) (h':=h') kp la (Qi8 ⟨_,oe⟩);have sp:Q6m C name [.ref a,v] (upd H1 a (.ext (XO a C none))) (fun v' H'=>v'=.non/\∃ dx,H1 dx=none/\dx≠a/\H'=upd (upd (upd H1 a (.ext (XO a C none))) a (.ext (XO a C (some dx)))) dx (.xd [(name,v)])) E0:=
  ⟨a,v,rfl,J8,fun dx hn hne=>⟨rfl,dx,by rwa [Qh hne] at hn,hne,rfl⟩⟩
 have r2:Vals [V.ref a,v] [Value.ref a,u]:=.cons rfl (.cons ru .nil);have hl:([Value.ref a,u] ++ []).length=ps.length:=by
  have:=G.len _ _ _ _ sp;simpa using this
 refine wpAny_call (codeAny_mono (G.run _ X.stack _ _ ⟨[Value.ref a,u],[]⟩ [Value.ref a,u] _ _ E0 (hr.make C [u] []) (I2.env0.make C [u] []) (hb _ [Value.ref a,u] I2.kIn hl) r2 sp) fun r s' z=>?_)
 cases r with
 | error e=>exact False.elim z
 | ok fl=>
  cases fl with
  | ret u'=>
   obtain ⟨v',H',I3,rv,ev,dx,hn,hne,eH⟩:=I2.after z;subst ev;obtain rfl:u'=Value.none:=rv;have hHa:H' a=some (.ext (XO a C (some dx))):=by rw [eH,Qh (Ne.symm hne),J8]
   obtain ⟨t2,o2⟩:=(I3.hok a _ hHa).1;have eD:Qbi H' a=upd H1 dx (.xd [(name,v)]):=by
    funext b
    by_cases zb:b=a
    ·rw [zb,Q1v,Qh (Ne.symm hne),na]
    ·rw [Q6a zb,eH]
     by_cases zd:b=dx
     ·rw [zd,J8,J8]
     ·rw [Qh zd,Qh zd,Qh zb,Qh zb]
   refine ⟨rfl,a,t2,some dx,rfl,oC I3,o2,?_⟩;have:=RO pins σ H1 (Qbi H' a) _ s' s'.heap a C t2 (some dx) I1 ga (I3.drop hHa) (fun b o _ k=>k) (fun o k=>by rw [o2] at k; cases k; exact ⟨_,rfl⟩) Q1v o2 (by rw [eD]; exact hE dx hn);exact this
  | next=>exact False.elim z
  | brk=>exact False.elim z
  | cont=>exact False.elim z
end
theorem Wy {P:Program} {w:World} {K:PySem.W.Frag} {mg:Str->Option Value} {base:Heap} {N:List Str} {qual:Str} {scope:Scope} {f:Addr} {cd:Value} {A:Around} {outer:List Env} {s:Shared} {H:Hp} {E:XK} :
  Q8m (cxD P w K mg base N qual scope f cd A outer s H E) E:=fun pins σ H0 H1 s0 s1 hx e C t dv I0 g0 I hk he1 hH oe hE=>by
 refine Qrf I hk he1 ?_ hH oe hE;cases q:s.heap.get? e with
 | none=>rfl
 | some o=>
  obtain ⟨o',z⟩:=I0.base.there e o q (fun z=>absurd (show e∈([]:List Addr) from z) (by simp))
  rw [g0] at z; cases z
theorem Fun.okD {P:Program} {w:World} {K:PySem.W.Frag} {mg:Str->Option Value} {base:Heap} {x qual:Str} {st:Stmt} {f:Addr} {fd:FuncData} {N ps:List Str} {k:Nat} {sp:Sp} (F:Fun K x qual st f fd) (S:FnScope N ps (Q8 st)) (len:∀ vs H Q E,sp vs H Q E->vs.length=ps.length)
  (hbody:∀ (cdv:Value) (A:Around) (outer:List Env) (s:Shared) (H:Hp) (vs:List V) (Q:VK) (E:XK),Room k (A.deeper (envOfC qual (Q8 st) s.heap.objs.size f cdv))->sp vs H Q E ->
   ∃ t,PSs (cxD P w K mg base N qual (Q8 st) f cdv A outer s H E) (Yh st) t/\t { nx:=fun _ H'=>Q .non H',rt:=Q } (start N vs) H):FnOk P w K mg base (CXD P w) (k + 1) f fd ps sp:=by
 obtain ⟨oc,od,kV,doc,pm,an,cdv,ct,osl,rfl,lk,hcd⟩:=F.ex;exact Qqs lk hcd S len fun A outer s H vs Q E hr hsp=>hbody cdv A outer s H vs Q E hr hsp
end L2
namespace L2
open PySem PySem.Spec PyProof.Rows PySem.W PySem.Builtin.Getset_descriptor
def IsXD (x C:Addr) (dv:Option Addr) (h:Heap):Prop:=∃ ox vs,h.get? x=some ox/\ox.cls=.ref C/\ox.dict=dv/\ox.data=.fields vs/\vs[2]?=some .none
theorem IsXD.x {x C:Addr} {dv:Option Addr} {h:Heap} (I:IsXD x C dv h):IsX x C h:=let ⟨ox,_,a,b,_⟩:=I; ⟨ox,a,b⟩
theorem Qpw {P:Program} {w:World} {H:Hp} {h:Heap} {a C:Addr} {dv:Option Addr} (I:IsXD a C dv h):ObjOk P w H h a (.ext (IsXD a C dv)):=
 ⟨I,(let ⟨o,_,e,_⟩:=I; ⟨o,e⟩),fun h1 h2 ⟨o,vs,e,c⟩ k=>⟨o,vs,k o e,c⟩⟩
structure XGet (K:Frag) (C:Addr) (name:Str):Prop where
 xc:XCls K C
 hd:∃ cd,clsIn K C=some cd/\cd.hasDict=true
 no:findIn K (.ref C) name=some none
section
variable {prog:Program} {w:World} {A:Around} {E:Value->Shared->Prop} {h:Heap} {g:Array GenState} {d:Drawn} {t:Nat} {os:OsState} {K:Frag} {x C dx:Addr} {name:Str} {v:Value} {m:Str->Option Value}
theorem Qmb {M:Model} (X:K.In h) (F:XGet K C name) (I:IsXD x C (some dx) h) (n:h.Ns1 dx m) (hv:m name=some v):Looks M h (Builtin.ObjectAttr.find (.ref x) (.ref C) name) (.value v):=by
 obtain ⟨ox,vs,e1,e2,e3,e4,_⟩:=I;obtain ⟨od,ho,hl⟩:=Qa6 n;obtain ⟨cd,hc,hd⟩:=F.hd;have J:InstAt h x ox C (some od):=⟨e1,e2,by unfold notCls; rw [e4],by rw [e3]; exact ho⟩;have L1:=looks_findIn (M:=M) X F.no;have L2:Looks M h (Builtin.ObjectAttr.getOf none) none:=.now;have L3:Looks M h (Builtin.ObjectAttr.dataDescriptor? none none) none:=.now;have L4:Looks M h (Builtin.ObjectAttr.inOwnDict name (.ref x)) (some v):=looks_own X J hc (by unfold PySem.W.ownOf; rw [hd,if_pos rfl]; show lookIn name od=_; rw [hl,hv]);exact L1.andThen (L2.andThen (L3.andThen (L4.andThen (Looks.tag .now))))
theorem Qi9 {tk:Tok} {Q:Fin->Shared->Prop} (X:K.In h) (F:XGet K C name) (I:IsXD x C (some dx) h) (n:h.Ns1 dx m) (hv:m name=some v) (hq:Q (.done (.ret v)) ⟨h,g,d,t,os⟩) :
  wpAny (model prog w) A (Builtin.«object.__getattribute__» ⟨[.ref x,.str name tk],[]⟩) Q E ⟨h,g,d,t,os⟩:=by
 have L0:=I.x.type (M:=model prog w);have L1:=Qmb (M:=model prog w) X F I n hv;unfold Builtin.«object.__getattribute__»;refine wpAny_bind (wpAny_pure ?_);refine wpAny_bind (wpAny_pure ?_);refine wpAny_bind (L0.at (wpAny_bind (L1.at ?_)));exact wpAny_pure hq
theorem Qmc {tk:Tok} {R:Result->Shared->Prop} (X:K.In h) (F:XGet K C name) (I:IsXD x C (some dx) h) (n:h.Ns1 dx m) (hv:m name=some v) (hq:R (.ok (.ret v)) ⟨h,g,d,t,os⟩) :
  codeAny (model prog w) A (.call (.builtin "BaseException.__getattribute__") ⟨[.ref x,.str name tk],[]⟩) R ⟨h,g,d,t,os⟩:=
 codeAny_call_builtin PySem.F.attr_ValueError.ga.plain PySem.F.entry_bexc_ga (Qia X F.xc I.x (Qi9 X F I n hv hq))
theorem Qmd {expr:Bool} {Q:Value->Shared->Prop} (X:K.In h) (F:XGet K C name) (I:IsXD x C (some dx) h) (n:h.Ns1 dx m) (hv:m name=some v) (hh:handedIn v=true) (hq:Q v ⟨h,g,d,t + 1,os⟩):wpAny (model prog w) A (getAttr (.ref x) name expr) Q E ⟨h,g,d,t,os⟩:=by
 have L0:=I.x.type (M:=model prog w);have L1:=looks_findIn (M:=model prog w) X F.xc.ga;have L2:=looks_findIn (M:=model prog w) X F.xc.gt;have hx2:(Value.builtin "BaseException.__getattribute__" == Value.builtin "object.__getattribute__")=false:=by decide +kernel
 have hx1:(onTheHeap (Value.ref C) && Value.builtin "BaseException.__getattribute__" == Value.builtin "object.__getattribute__")=false:=by rw [hx2]; rfl
 have hx3:(expr && onTheHeap (Value.builtin "BaseException.__getattribute__"))=false:=by rw [show onTheHeap (Value.builtin "BaseException.__getattribute__")=false from rfl,Bool.and_false]
 have f3:=PySem.F.attr_ValueError.ga.bind (.ref x);have ho:=handedOut_of hh;unfold getAttr getAttrBy;refine wpAny_bind (wpAny_mkText (wpAny_holding (wpAny_bind (L0.at (wpAny_bind (L1.at ?_))))))
 repeat (any_goals (first | assumption | with_reducible refine L2.at ?_ | wp_step))
 refine Qmc X F I n hv ?_;dsimp only;rw [ho];exact wpAny_pure hq
end
section
variable {X:Cx}
def tXF (K:Frag) (name:Str) (ta:TE):TE:=fun σ H Q=>ta σ H fun v H1=>∃ (a C dx:Addr) (i:Int) (fs:List (Str × V)),v=.ref a/\H1 a=some (.ext (IsXD a C (some dx)))/\H1 dx=some (.xd fs)/\fs.lookup name=some (.int i)/\XGet K C name/\Q (.int i) H1
theorem Qni {e:Expr} {name:Str} {ta:TE} {pos:Pos} (K:Frag) (he:PE X e ta) (hb:attributeBase e name X.env (eval e X.env)=eval e X.env:=by rfl) (hK:X.K=K:=by rfl):PE X (.Attribute e name pos) (tXF K name ta):=by
 subst hK;intro pins s σ H Q I h;refine Qg1 hb (thn (he pins s σ H _ I h) fun u s1 ⟨v,H1,I1,rx,a,C,dx,i,fs,ev,ha,hd,hl,G,q⟩=>?_)
 subst ev;obtain rfl:u=Value.ref a:=rx;obtain ⟨mA,n,r⟩:=I1.hok dx _ hd;have rn:=r name;rw [hl] at rn;cases em:mA name with
 | none=>rw [em] at rn; exact False.elim rn
 | some y=>
  rw [em] at rn;obtain ⟨tk,rfl⟩:∃ tk,y=.int i tk:=rn;obtain ⟨hp,gs,dr,tk1,sy⟩:=s1;exact Qmd I1.kIn G (I1.hok a _ ha).1 n em rfl ⟨.int i,H1,I1.tok _,⟨_,rfl⟩,q⟩
end
section
variable {X:Cx} {pins:List (Addr × Obj)} {σ:St} {H H':Hp} {s s':Shared} {a C:Addr}
end
end L2
namespace L2
open PySem PySem.Spec PyProof.Rows
section
variable {X:Cx}
theorem Qq3 {CX:CXT} {f:Addr} {fd:FuncData} {k:Nat} {ps:List Str} {sp:Sp} {g:Str} {p cpos:Pos} {e:Expr} {es:List Expr} {ta:TA} {pins:List (Addr × Obj)} {σ:St} {H:Hp} {s:Shared} {E1:Value->Shared->Prop} {Qv:VK} {Ex:XK}
  (F:FnOk X.prog X.w X.K X.mg X.base CX k f fd ps sp) (hr:Room k X.A) (hm:X.mg g=some (.ref f)) (hkp:PySem.W.keepIn X.K (.ref f)=true) (hb:Binds X.K fd ps []) (ha:PA X.nox (e :: es) ta) (hg:Gl X g)
  (I:Inv X pins σ H s) (h:ta σ H fun vs H1=>sp vs H1 Qv Ex) (hE:∀ H1 s1 v s',Inv X pins σ H1 s1->CX X.stack H1 s1 Ex v s'->E1 v s')
  (hdb:(g == ("__debug__" : Str))=false) (he:starEach (e :: es) X.env=(false,eval e X.env) :: starEach es X.env) (hpl:(backTo cpos (starEach es X.env)).any (·.1)=false) :
  wpAny (model X.prog X.w) X.A (eval (.Call (.Name g p) (e :: es) [] cpos) X.env) (EP X pins σ Qv) E1 s:=by
 refine wpAny_Call_Name_kw (qj I hg hm ?_ hdb);refine PySem.W.callWith_K (h₀:=X.base) I.ok.mod.kin hkp (wpAny_mono (ha cpos pins s σ H _ (I.wish _) h) (fun us s1 ⟨vs,H1,I1,r,q⟩=>⟨I1.unwish.kIn,?_⟩) fun _ _ z=>z.elim) he hpl
 have I1':=I1.unwish;have hl:us.length=ps.length:=by rw [<- r.length]; exact F.len _ _ _ _ q
 have hb':=hb s1 us I1'.kIn (by rw [List.append_nil]; exact hl);rw [List.append_nil] at hb';refine wpAny_call (codeAny_mono (F.run X.A X.stack s1 H1 ⟨us,[]⟩ us vs Qv Ex hr I1'.env0 hb' r q) fun rr s' hq=>?_)
 cases rr with
 | error v=>exact hE H1 s1 v s' I1' hq
 | ok fl=>
  cases fl with
  | ret u=>exact I1'.after hq
  | next=>exact False.elim hq
  | brk=>exact False.elim hq
  | cont=>exact False.elim hq
end
section
variable {X:Cx}
end
end L2
namespace L2
open PySem PySem.Spec PyProof.Rows PySem.W PySem.Builtin.Getset_descriptor
section
variable {X:Cx} {pins:List (Addr × Obj)} {σ:St} {H H':Hp} {s s':Shared} {a C:Addr}
theorem Qpr {cn n:Str} {i:Nat} {CC:Addr} {a0:Value} {B:Heap} {dv:Option Addr} {np hpos:Pos} {b₀:Stmt} {suite:List Stmt} {ts:TS} {D:Ends} (hN:X.N.Nodup) (hi:X.N[i]?=some n) (hk:X.env.scope.names.lookup n=some .local) (hex:∀ b,b∉X.ex)
  (hst:X.stack=X.env :: X.outer) (hfr:X.env.frame=some X.env.locals) (hg:Gl X cn) (hm:X.mg cn=some (.ref CC)) (hx:exmOne X.K (.ref C) (.ref CC)=some true) (I:Inv X pins σ H s) (F:Fly X.prog X.w X.stack H H' s s' a (.ref C) a0 B) (dd:∃ o',s'.heap.get? a=some o'/\o'.dict=dv/\Q0j o'=some .none)
  (hsuite:PSs (yi X a) (b₀ :: suite) ts) (q:ts { nx:=fun σ2 H2=>D.nx (σ2.set i none) H2,rt:=D.rt } (σ.set i (some (.ref a))) (upd H' a (.ext (IsXD a C dv)))) (hdb:(cn == ("__debug__" : Str))=false:=by decide) :
  wpAny (model X.prog X.w) X.A (noteFrame (.ref a) X.env) (fun _ s₂=>wpAny (model X.prog X.w) X.A (setFlight (.ref a) none) (fun _ s₃=>wpAny (model X.prog X.w) X.A (handleBy (.ref a) X.env [.ExceptHandler (some (.Name cn np)) (some n) (b₀ :: suite) hpos]) (SP X pins D) X.xe s₃) X.xe s₂) X.xe s':=by
 have hcls:(X.env.scope.kind == .class || (X.env.scope.kind == .module && X.env.locals != X.env.globals))=false:=by rw [I.ok.kind]; rfl
 have fl0:=F.fl;rw [hst] at fl0;refine Qh6 (by rw [<- hst]; exact I.ok.frames) hfr fl0 dd fun h4 held4 d4 sm4=>?_
 refine Q5c (s:={ s' with heap:=h4 }) held4.1 held4.2.1 held4.2.2.1 held4.2.2.2 d4 fun h5 fl5 d5 sm5=>?_
 obtain ⟨n1,n2⟩:=F.new;have I5:Inv X pins σ H' { s' with heap:=h5 }:=F.inv I fl5.1 (sm4.trans sm5);obtain ⟨ob,hob,hobc⟩:=fl5.there;have LT:Looks (model X.prog X.w) h5 (typeOf (.ref a)) (.ref C):=IsX.type ⟨ob,hob,hobc⟩;refine wpAny_handleBy_cons (codeAny_handlers_test (qj (X:=yi X a) (I5.suite a) hg hm ?_ hdb)) (by intro z; cases z);refine (exm_one (h:=h5) I5.kIn LT hx).at ?_;refine codeAny_handlers_suite_as ?_;refine Q5c (s:={ s' with heap:=h5 }) fl5.1 fl5.2.1 fl5.2.2.1 fl5.2.2.2.at d5 fun h6 fl6 d6 sm6=>?_
 have I6:Inv X pins σ H' { s' with heap:=h6 }:=F.inv I fl6.1 ((sm4.trans sm5).trans sm6);obtain ⟨ob6,vs6,hob6,hobc6,hod6,_⟩:=fl6.first;obtain ⟨o',ho',hd',hf'⟩:=d6;rw [hob6] at ho';cases ho';have I7:Inv X pins σ (upd H' a (.ext (IsXD a C dv))) { s' with heap:=h6 }:=Inv.track I hex n1 I6 n2 (Qpw ⟨ob6,vs6,hob6,hobc6,hd',hod6,by unfold Q0j at hf'; rw [hod6] at hf'; exact hf'⟩);refine Q6j (X:=yi X a) (v:=.ref a) (I7.suite a) hN hi (.inl hk) rfl (fun s8 I8=>?_) (.inr hk);refine wpAny_mono (hsuite pins s8 _ _ _ I8 q) (fun f s9 h9=>?_) fun _ _ z=>z.elim
 cases f with
 | next=>
  obtain ⟨σ9,H9,I9,q9⟩:=h9;have I9':=I9.unsuite I.ok;obtain ⟨m,hn,hl⟩:=id I9'.loc;exact wpAny_nameGoes_keeps hk hn hcls fun h10 v hn' hs'=>⟨_,_,I9'.forget hN hi hl hn' hs',q9⟩
 | brk=>obtain ⟨_,_,_,z⟩:=h9; exact z.elim
 | cont=>obtain ⟨_,_,_,z⟩:=h9; exact z.elim
 | ret u=>
  obtain ⟨v9,σ9,H9,I9,r9,q9⟩:=h9;have I9':=I9.unsuite I.ok;obtain ⟨m,hn,hl⟩:=id I9'.loc;exact wpAny_nameGoes_keeps hk hn hcls fun h10 v hn' hs'=>⟨v9,_,_,I9'.forget hN hi hl hn' hs',r9,q9⟩
def Qu1 (sp:Sp) (ta:TA) (i:Nat) (ok:Value->Addr->Prop) (ts:TS) (set:V->St->St):TS:=fun D σ H=>ta σ H fun vs H1=>sp vs H1 (fun v H2=>D.nx (set v σ) H2)
 (fun c dv H2=>∃ C,c=.ref C/\ok c C/\∀ a,H2 a=none->ts { nx:=fun σ3 H3=>D.nx (σ3.set i none) H3,rt:=D.rt } (σ.set i (some (.ref a))) (upd H2 a (.ext (IsXD a C dv))))
theorem Qj1 {f:Addr} {fd:FuncData} {k:Nat} {ps:List Str} {sp:Sp} {g cn n:Str} {i:Nat} {CC:Addr} {p cpos epos np hpos pos:Pos} {e:Expr} {es:List Expr} {ta:TA} {b₀:Stmt} {suite:List Stmt} {ts:TS}
  (F:FnOk X.prog X.w X.K X.mg X.base (CXD X.prog X.w) k f fd ps sp) (hr:Room k X.A) (hm:X.mg g=some (.ref f)) (hkp:PySem.W.keepIn X.K (.ref f)=true) (hb:Binds X.K fd ps []) (ha:PA X.nox (e :: es) ta)
  (hN:X.N.Nodup) (hi:X.N[i]?=some n) (hk:X.env.scope.names.lookup n=some .local) (hsuite:∀ a,PSs (yi X a) (b₀ :: suite) ts) (hcm:X.mg cn=some (.ref CC))
  (hg:Gl X g:=by rfl) (hgc:Gl X cn:=by rfl) (hex:∀ b,b∉X.ex:=by intro b z; exact absurd (show b∈([]:List Addr) from z) (by simp)) (hst:X.stack=X.env :: X.outer:=by rfl) (hfr:X.env.frame=some X.env.locals:=by rfl)
  (hdb:(g == ("__debug__" : Str))=false:=by decide) (hdbc:(cn == ("__debug__" : Str))=false:=by decide) (he:starEach (e :: es) X.env=(false,eval e X.env) :: starEach es X.env:=by rfl) (hpl:(backTo cpos (starEach es X.env)).any (·.1)=false:=by rfl)
  (hsw:swapsWith (.Call (.Name g p) (e :: es) [] cpos) none epos.line X.env=pure false:=by rfl) :
  PS X (.Try [.Expr (.Call (.Name g p) (e :: es) [] cpos) epos] [.ExceptHandler (some (.Name cn np)) (some n) (b₀ :: suite) hpos] [] [] pos) (Qu1 sp ta i (fun c _=>PySem.W.exmOne X.K c (.ref CC)=some true) ts (fun _ σ=>σ)):=by
 intro pins s σ H D I h;refine wpAny_Try_except (wpAny_execs_cons (wpAny_Expr_any (thn (Qq3 F hr hm hkp hb ha hg I h ?_ hdb he hpl) fun v s1 ⟨x,H1,I1,r1,q1⟩=>wpAny_execs_nil (wpAny_execs_nil ⟨σ,H1,I1,q1⟩)) I.quiet hsw))
 intro H1 s1 v s' I1 hx;obtain ⟨a,cls,a0,dv,H',B,rfl,Fl,dd,C,rfl,hok,q⟩:=hx;exact Qpr hN hi hk hex hst hfr hgc hcm hok I1 Fl dd (hsuite a) (q a Fl.new.2) hdbc
end
end L2
namespace L2
open PySem PySem.Spec PyProof.Rows
section
variable {X:Cx}
end
end L2
namespace L2
open PySem PySem.Spec PyProof.Rows PySem.W PySem.Builtin.Getset_descriptor
section
variable {X:Cx} {pins:List (Addr × Obj)} {σ:St} {H H':Hp} {s s':Shared} {a C:Addr}
end
section
variable {X:Cx}
end
end L2
namespace L2
open PySem PySem.Spec PyProof.Rows PySem.SeqAt
section
variable {prog:Program} {w:World} {A:Around} {E:Value->Shared->Prop} {s:Shared}
end
section
variable {X:Cx}
end
end L2
namespace L2
open PySem PySem.Spec PyProof.Rows PySem.SeqAt
section
variable {X:Cx}
def Qr7 (val:Str->V) (te:TE):TE:=fun σ H Q=>te σ H fun y H1=>∃ w,y=.str w/\Q (val w) H1
theorem Qcg {n:Str} {a:Addr} {o:Obj} {es:Array DictEntry} {ep:Nat} {val:Str->V} {e:Expr} {te:TE} {p apos cpos:Pos} (hg:Gl X n) (hm:X.mg n=some (.ref a)) (lk:X.K.lookup a=some o) (ty:o.cls=.type "dict") (ed:o.ExactDict) (od:o.data=.dict es ep) (ks:KeysOf (J2 X.prog X.w) es) (hs:(a == sysModules)=false)
  (hv:∀ w,RelV (val w) ((findBy (J2 X.prog X.w).is es (.inr w)).getD .none)) (he:PE X e te) (hdb:(n == ("__debug__" : Str))=false:=by decide)
  (base:attributeBase (.Name n p) "get" X.env (eval (.Name n p) X.env)=eval (.Name n p) X.env:=by rfl)
  (few:((backTo cpos (starEach [e] X.env)).all (fun x=>!x.1) && (backToKw cpos (keywordEach [] X.env)).all (fun x=>x.1.isSome)
   && decide (([e]:List Expr).length + ([]:List Keyword).length + (if ([]:List Keyword).isEmpty then 0 else 1) < 30))=true:=by rfl)
  (line:(apos.endLine == cpos.line)=true:=by rfl) (trees:backTo cpos (starEach [e] X.env)=[(false,eval e X.env)]:=by rfl) :
  PE X (.Call (.Attribute (.Name n p) "get" apos) [e] [] cpos) (Qr7 val te):=by
 intro pins s σ H Q I h;have oa:∀ {H':Hp} {s':Shared},Inv X pins σ H' s'->s'.heap.get? a=some o:=fun J=>J.kIn _ _ lk
 refine wpAny_Call_method base few line PySem.F.plainAttrs_dict PySem.F.slot_dict_get PySem.F.type_dict_get (qj I hg hm ?_ hdb);refine ⟨⟨o,oa I,ty⟩,fun b z=>⟨o,?_,?_⟩,?_⟩
 ·cases z; exact oa I
 ·exact ed.2.1
 ·rw [trees];refine Calls.callWith_builtin rfl (Calls.evalArgs_plain (Calls.spliced_cons (thn (he pins s σ H _ I h) fun iv s2 ⟨y,H2,I2,ry,w,ey,q⟩=>Calls.spliced_nil ?_)))
  subst ey;obtain ⟨tk,rfl⟩:∃ tk,iv=.str w tk:=ry;have mo:s2.heap.MapOf (J2 X.prog X.w) a (fun k=>findBy (J2 X.prog X.w).is es k):=⟨o,es,ep,oa I2,ed,od,ks,fun _=>rfl⟩
  refine call_meetsIn PySem.F.slot_dict_get ⟨o,oa I2,ty⟩ PySem.F.entry_dict_get (PySem.F.args_dict_get_2 _ _) (meets_dict_get (J2 X.prog X.w) a (k:=.inr w) (by simp [J2,Kw,Value.isStrOf]) hs) ⟨_,mo,⟨val w,H2,I2.tok _,hv w,q⟩⟩
end
end L2
namespace L2
open PySem PySem.Spec PyProof.Rows
section
variable {X:Cx}
def Qiw (K:PySem.W.Frag):R2:=fun x y H Q=>∃ a b ys,x=.ref a/\y=.ref b/\SqT K H a []/\SqT K H b ys/\Q (.ref b) H
theorem Qjj:OpR X (binaryOp .Add) (Qiw X.K):=by
 intro pins s σ H x y v u Q I rx ry h;obtain ⟨a,b,ys,rfl,rfl,ha,hb,q⟩:=h;cases rx;cases ry;obtain ⟨its,r1,p1,_⟩:=I.tuple ha;obtain ⟨its2,r2,p2,_⟩:=I.tuple hb;have e1:its=[]:=r1.nil_iff.mpr rfl;subst e1;obtain ⟨⟨cls,dd,data,sl⟩,ho,hc,n,hd⟩:=id p1;obtain ⟨⟨cls2,dd2,data2,sl2⟩,ho2,hc2,n2,hd2⟩:=id p2;simp only at hc hd hc2 hd2;subst hc hd hc2 hd2;exact concat_meets ⟨_,ho,rfl⟩ ⟨_,ho2,rfl⟩ noFill_tuple_add seq_tuple_add PySem.F.slot_tuple_add PySem.F.entry_tuple_add (PySem.F.args_tuple_add_2 _ _)
  (tuple_addW0 a b ([]:List Value).toArray its2.toArray n n2 dd dd2 sl sl2 (by simp)) ⟨ho,ho2,⟨.ref b,H,I,rfl,q⟩⟩
abbrev Qum (K:PySem.W.Frag):R2:=fun x y H Q=>Qqh K x y H Q\/Qiw K x y H Q
theorem Qnw:OpR X (binaryOp .Add) (Qum X.K):=op_catT.or Qjj
end
def PTs (X:Cx) (ifs:List Expr) (t:TT):Prop:=
 ∀ (pins:List (Addr × Obj)) (s:Shared) (σ:St) (H:Hp) (Q:Bool->Hp->Prop),Inv X pins σ H s->t σ H Q ->
  wpAny (model X.prog X.w) X.A (forIn ifs true fun c r=>if r=true then do let ok <- isTrue c X.env (eval c X.env); pure (ForInStep.yield ok) else pure (ForInStep.yield r)) (TP X pins σ Q) X.xe s
def Qu2:TT:=fun _ H Q=>Q true H
theorem Qn7 {X:Cx}:PTs X [] Qu2:=fun _ _ _ H _ I h=>wpAny_tests_nil ⟨H,I,h⟩
theorem Qn6 {X:Cx} {c:Expr} {t:TT} (h:PT X c t):PTs X [c] t:=fun pins s σ H Q I q=>wpAny_tests_one (h pins s σ H Q I q)
def Qac (J:It) (cap:List (Option Nat)) (g:TG) (tt:TT) (te:TE) (σ:St) (H1:Hp) (Q:VK):Prop:=∀ acc,H1 acc=none ->
 ∃ W:Nat->Nat->List V->St->Hp->Prop,(∃ m,W 0 m [] (Q3y cap σ) (upd H1 acc (.lst [])))/\∀ i m ys σ' H',W i m ys σ' H'->H' acc=some (.lst ys) /\
  ((J.stop i H'/\Q (.ref acc) H')\/(J.go i H'/\ys.length < sizeLine/\∀ x H2,J.yld i H' x H2->g x σ' H2 fun σ3 H3=>tt σ3 H3 fun b H4=>
    if b=true then te σ3 H4 fun y H5=>H5 acc=some (.lst ys)/\∃ m',m' < m/\W (i + 1) m' (ys ++ [y]) σ3 (upd H5 acc (.lst (ys ++ [y])))
    else ∃ m',m' < m/\W (i + 1) m' ys σ3 H4))
def Qaq (cap:List (Option Nat)) (wi:TI) (g:TG) (tt:TT) (te:TE):TE:=fun σ H Q=>wi σ H fun J H1=>Qac J cap g tt te σ H1 Q
section
variable {prog:Program} {w:World} {A:Around} {R:Result->Shared->Prop} {s:Shared}
theorem Q9n {elt target iter:Expr} {ifs:List Expr} {scope:Scope} {pos:Pos} {it acc:Value} {env:Env} (I:Nat->Shared->Prop)
  (turn:∀ n s,I n s->wpAny (model prog w) A (pyNext it) (fun r s₁=>match r with
   | none=>R (.ok .next) s₁
   | some v=>wpAny (model prog w) A (letOwnedTupleGo target it v) (fun _ s₁'=>wpAny (model prog w) A (assign target env v) (fun _ s₂=>
     wpAny (model prog w) A (forIn ifs true fun c r=>if r=true then do let ok <- isTrue c env (eval c env); pure (ForInStep.yield ok) else pure (ForInStep.yield r)) (fun ok s₃=>
      if ok=true then wpAny (model prog w) A (eval elt env) (fun x s₄=>
       wpAny (model prog w) A (call (.builtin "list.append") [acc,x]) (fun _ s₅=>∃ m,m < n/\I m s₅) (fun _ _=>False) s₄) (fun _ _=>False) s₃
      else ∃ m,m < n/\I m s₃) (fun _ _=>False) s₂)
     (fun _ _=>False) s₁') (fun _ _=>False) s₁) (fun _ _=>False) s)
  (n:Nat) (h:I n s):codeAny (model prog w) A (.compLoop (.ListComp elt [⟨target,iter,ifs,0⟩] scope pos) 0 it acc env) R s:=by
 refine codeAny_loop rfl I (fun n s hI=>?_) n h;show wpAny _ A ((compTurn (.ListComp elt [⟨target,iter,ifs,0⟩] scope pos) 0 it acc env).onRaise (fun x=>do noteFrame x env; theTreesLotGoes x)) _ _ s;refine wpAny_noted ?_;rw [compTurn_list];refine wpAny_bind (wpAny_standAt (wpAny_bind (wpAny_mono (turn n s hI) (fun r s₁ h₁=>?_) fun _ _ h'=>h'.elim)))
 cases r with
 | none=>exact wpAny_pure h₁
 | some v=>
  refine wpAny_bind (wpAny_mono h₁ (fun _ s₁' h₁'=>?_) fun _ _ h'=>h'.elim)
  refine wpAny_bind (wpAny_mono h₁' (fun _ s₂ h₂=>wpAny_bind (wpAny_mono h₂ (fun ok s₃ h₃=>?_) fun _ _ h'=>h'.elim)) fun _ _ h'=>h'.elim)
  cases ok with
  | true=>
   rw [if_pos rfl] at h₃;exact wpAny_bind (wpAny_bind (wpAny_mono h₃ (fun x s₄ h₄=>wpAny_bind (wpAny_mono h₄ (fun _ s₅ h₅=>wpAny_pure (wpAny_pure ⟨rfl,h₅⟩)) fun _ _ h'=>h'.elim)) fun _ _ h'=>h'.elim))
  | false=>
   rw [if_neg D7] at h₃;exact wpAny_bind (wpAny_pure (wpAny_pure ⟨rfl,h₃⟩))
end
section
variable {X:Cx}
theorem Q8e {elt tg iter:Expr} {ifs:List Expr} {tt:TT} {pos:Pos} {N N':List Str} {sc scE:Scope} {cap:List (Option Nat)} {wi:TI} {g:TG} {te:TE} {use:Option (Value->Sem Unit)} {QQ:Value->Shared->Prop} (hcalm:X.calm=true) (hi:PI X tg iter wi)
  (hg:∀ cl C s0 H0 ex,PG (Uj X N' sc cl C s0 H0 ex) tg g) (he:∀ cl C s0 H0 ex,PE (Uj X N' sc cl C s0 H0 ex) elt te) (htt:∀ cl C s0 H0 ex,PTs (Uj X N' sc cl C s0 H0 ex) ifs tt)
  (hN:X.N=N) (hE:X.env.scope=scE) (hc:compOkC N N' sc scE cap=true) (hs:∀ x,foldedSetIterable iter X.env x=pure x)
  {pins:List (Addr × Obj)} {s:Shared} {σ:St} {H:Hp} {Q:VK} (I:Inv X pins σ H s) (h:Qaq cap wi g tt te σ H Q)
  (fin:∀ acc C H' s' m,Inv X pins σ H' s'->s'.heap.Ns C m->Q8n X pins H' C->Q (.ref acc) H'->compPost (model X.prog X.w) X.A X.xe use QQ (.ref acc) C (.ok .next) s') {pos':Pos} :
  wpAny (model X.prog X.w) X.A (comprehension (.ListComp elt [⟨tg,iter,ifs,0⟩] sc pos) sc X.env pos' (newList []) false (eval iter X.env) use) QQ X.xe s:=by
 have ck:=compOkC.of hc;obtain ⟨cl,hcl,c1,c2⟩:=Qev (scope:=sc) (env:=X.env) fun x hx hf=>I.ok.has x.1 (by
  have:=ck.fre x hx hf;rw [<- hE] at this;exact this)
 refine wpAny_comprehension_free (use:=use) rfl hs hcl ck.kind ck.loc (thn (hi pins s σ H _ I h) fun v s1 h1=>thn h1 fun itv s2 h2=>?_)
 obtain ⟨it,fp,tn,J,H2,e,I2,T,st2,f2,hw⟩:=h2;subst e;have fsz:∀ b∈fp,b < s2.heap.objs.size:=fun b hb=>by
  obtain ⟨o,e,_⟩:=T.obj _ _ st2 b hb;exact O9 e
 obtain ⟨W,⟨m0,w0⟩,turn⟩:=hw s2.heap.objs.size I2.fresh;refine wpAny_newObj_type (Q8p ?_);dsimp only;have I3:Inv X pins σ (upd H2 s2.heap.objs.size (.lst [])) { s2 with heap:=s2.heap.push { cls:=.type "list",data:=.seq ([]:List Value).toArray } }:=
  I2.lnew (its:=[]) (ys:=[]) (t':=s2.toks) .nil (Nat.zero_le _)
 generalize hs3:({ s2 with heap:=s2.heap.push { cls:=.type "list",data:=.seq ([]:List Value).toArray } }:Shared)=s3 at I3;have hh3:s3.heap=s2.heap.push { cls:=.type "list",data:=.seq ([]:List Value).toArray }:=by rw [<- hs3]
 have hsz:s3.heap.objs.size=s2.heap.objs.size + 1:=by rw [hh3,F4]
 have f3:∀ b∈fp,Q8n X pins (upd H2 s2.heap.objs.size (.lst [])) b:=fun b hb=>by
  obtain ⟨g0,g1⟩:=f2 b hb;exact ⟨by rw [Qh (F0 (fsz b hb))]; exact g0,g1⟩
 have k3:∀ b o,s2.heap.get? b=some o->s3.heap.get? b=some o:=fun b o e=>by rw [hh3]; exact O0 _ e
 obtain ⟨cl',hcl'⟩:∃ cl',cellsFrom (s3.heap.objs.size + 1) sc.names cl=cl':=⟨_,rfl⟩;obtain ⟨h₁,hh₁⟩:∃ h₁,pushCells (s3.heap.push { cls:=.type "dict",data:=.dict #[] }) sc.names=h₁:=⟨_,rfl⟩;have k1:∀ b o,s3.heap.get? b=some o->h₁.get? b=some o:=fun b o e=>by rw [<- hh₁]; exact pushCells_keeps _ _ b o (O0 _ e)
 have c1':∀ x c,cl'.lookup x=some c->cl.lookup x=some c\/s3.heap.objs.size + 1<=c:=fun x c e=>by
  rw [<- hcl'] at e;have:=Xa (sc.names) (s3.heap.push { cls:=.type "dict",data:=.dict #[] }) cl x c (by rw [F4]; exact e);rcases this with z | ⟨_,z,_⟩
  ·exact .inl z
  ·rw [F4] at z; exact .inr z
 have I4:Inv (Uj X N' sc cl' s3.heap.objs.size s3 (upd H2 s2.heap.objs.size (.lst [])) fp) [] (Q3y cap σ) (upd H2 s2.heap.objs.size (.lst [])) { s3 with heap:=h₁ }:=by
  rw [<- hcl',<- hh₁];exact Qm3 I3 hN hE ck c1 c2 f3 (fun b hb=>D3 (fsz b hb) (by rw [hsz]; exact Nat.le_succ _))
 have st4:tn 0 h₁:=T.keep _ _ _ st2 fun b hb o e=>k1 b o (k3 b o e)
 generalize hX':Uj X N' sc cl' s3.heap.objs.size s3 (upd H2 s2.heap.objs.size (.lst [])) fp=X' at I4;have hxe:X'.xe=fun _ _=>False:=by rw [<- hX']; rfl
 have hprog:X'.prog=X.prog:=by rw [<- hX']; rfl
 have hww:X'.w=X.w:=by rw [<- hX']; rfl
 have hKK:X'.K=X.K:=by rw [<- hX']; rfl
 have hAA:X'.A=X.A:=by rw [<- hX']; rfl
 have hcc:X'.calm=true:=by rw [<- hX']; exact hcalm
 have henv:X'.env=compEnvC sc cl' s3.heap.objs.size X.env:=by rw [<- hX']; rfl
 have hloc:X'.env.locals=s3.heap.objs.size:=by rw [henv]; rfl
 have hg':PG X' tg g:=by rw [<- hX']; exact hg _ _ _ _ _
 have he':PE X' elt te:=by rw [<- hX']; exact he _ _ _ _ _
 have htt':PTs X' ifs tt:=by rw [<- hX']; exact htt _ _ _ _ _
 have stat:∀ {H':Hp},(∀ b∈fp,H' b=none)->∀ b∈fp,Q8n X' [] H' b:=fun {H'} hn b hb=>by
  obtain ⟨_,g1,g2,g3,g4,g5⟩:=f3 b hb;refine ⟨hn b hb,by rw [hloc,hsz]; exact F0 (Nat.lt_succ_of_lt (fsz b hb)),?_,?_,?_,fun p hp=>?_⟩
  ·rw [<- hX'];intro z;rcases E3.mp (I3.stkSub b z) with e | z
   ·exact g1 e
   ·exact g2 z
  ·left
   rw [<- hX'];exact hb
  ·intro x c e;rw [henv] at e;rcases c1' x c e with z | z
   ·exact g4 x c (c1 x c z)
   ·exact fun q=>absurd (D3 (fsz b hb) (F1 (F1 (Nat.le_succ _) (hsz ▸ Nat.le_succ _)) (q ▸ z))) (Nat.lt_irrefl _)
  ·rw [<- hX'] at hp;cases hp
 have fin':∀ {σ':St} {H':Hp} {s':Shared},Inv X' [] σ' H' s'->Q (.ref s2.heap.objs.size) H'->compPost (model X.prog X.w) X.A X.xe use QQ (.ref s2.heap.objs.size) s3.heap.objs.size (.ok .next) s':=fun {σ' H' s'} J q=>by
  obtain ⟨mm,hmm,_⟩:=J.loc;rw [hloc] at hmm;have hfree:H' s3.heap.objs.size=none:=by have:=J.free; rw [hloc] at this; exact this
  have hok:=J.hok;rw [hprog,hww] at hok;have u1:Un (frs X.stack) fp (upd H2 s2.heap.objs.size (.lst [])) H' s3.heap s'.heap:=by
   have:=J.base;rw [<- hX'] at this;exact this
  have hos:s'.os=s3.os:=by have:=J.os; rw [<- hX'] at this; exact this
  refine fin _ _ H' s' mm (I3.call' (s':=s') hos u1 hok J.bare fun b hb=>?_) hmm (I3.fpOk (O7 _) hfree) q
  obtain ⟨_,g1,g2,g3,g4,g5⟩:=f3 b hb;exact ⟨g3,g1,g4,g5⟩
 have loop:codeAny (model X.prog X.w) X.A (.compLoop (.ListComp elt [⟨tg,iter,ifs,0⟩] sc pos) 0 (.ref it) (.ref s2.heap.objs.size) X'.env)
   (compPost (model X.prog X.w) X.A X.xe use QQ (.ref s2.heap.objs.size) s3.heap.objs.size) { s3 with heap:=h₁ }:=by
  refine Q9n (fun n s'=>∃ i ys σ' H',Inv X' [] σ' H' s'/\tn i s'.heap/\(∀ b∈fp,H' b=none)/\W i n ys σ' H') ?_ m0 ⟨0,[],_,_,I4,st4,fun b hb=>(f3 b hb).1,w0⟩
  rintro n s5 ⟨i,ys,σ5,H5,I5,st5,fr5,w5⟩;obtain ⟨hacc,q⟩:=turn i n ys σ5 H5 w5;rcases q with ⟨stop,q⟩ | ⟨go,hlen,step⟩
  ·refine thn (hAA ▸ T.done X' hprog hww hKK hcc i [] s5 σ5 H5 _ I5 (stat fr5) st5 stop) fun r s6 ⟨hr,I6⟩=>?_
   subst hr;exact fin' I6 q
  ·refine thn (hAA ▸ T.item X' hprog hww hKK hcc i [] s5 σ5 H5 _ I5 (stat fr5) st5 go) fun r s6 ⟨u,hr,h6⟩=>?_
   subst hr;refine thn h6 fun _ s7 ⟨x,H7,I7,r7,y7,st7,fr7⟩=>?_
   have I7':=I7.pinned (stat fr7) (T.obj _ _ st7);have g7:=hg' _ s7 σ5 H7 x u _ I7' r7 (step x H7 y7);rw [hprog,hww,hAA,hxe] at g7;refine thn g7 fun _ s8 ⟨σ8,H8,I8,q8⟩=>?_
   have t8:=htt' _ s8 σ8 H8 _ I8 q8;rw [hprog,hww,hAA,hxe] at t8;refine thn t8 fun okb s8t ⟨H8t,I8t,q8t⟩=>?_
   cases okb with
   | false=>
    rw [if_neg D7] at q8t ⊢;obtain ⟨m',hm',w9⟩:=q8t;refine ⟨m',hm',i + 1,_,σ8,_,I8t.unpinned,T.keep _ _ _ st7 fun b hb o eo=>(I8t.pin (b,o) (E4 _ (E4 _ (Xt hb eo)))).1,fun b hb=>?_,w9⟩;obtain ⟨o,eo,d⟩:=T.obj _ _ st7 b hb;exact (I8t.pin (b,o) (E4 _ (E4 _ (Xt hb eo)))).2.1
   | true=>
   rw [if_pos rfl] at q8t ⊢;have g8:=he' _ s8t σ8 H8t _ I8t q8t;rw [hprog,hww,hAA,hxe] at g8;refine thn g8 fun y s9 ⟨yv,H9,I9,r9,a9,m',hm',w9⟩=>?_
   obtain ⟨z,its,nn,rr,hl,e⟩:=I9.lstM a9;refine call_meets F.slot_list_append ⟨_,e,rfl⟩ F.entry_list_append (F.args_list_append_2 _ _) (PySem.list_append _ its.toArray nn y (by rw [O3]; omega)) ⟨e,?_⟩;have I10:Inv X' ([] ++ Q71 fp s7.heap) σ8 (upd H9 s2.heap.objs.size (.lst (ys ++ [yv]))) { s9 with heap:=s9.heap.update s2.heap.objs.size (Obj.mapSeq fun a=>a.push y) }:=
    I9.lset (t':=s9.toks) (its':=its ++ [y]) a9 e (by simp) (rr.append (.cons r9 .nil)) (by rw [O8,List.length_singleton]; omega)
   refine ⟨m',hm',i + 1,_,σ8,_,I10.unpinned,T.keep _ _ _ st7 fun b hb o eo=>(I10.pin (b,o) (E4 _ (E4 _ (Xt hb eo)))).1,fun b hb=>?_,w9⟩;obtain ⟨o,eo,d⟩:=T.obj _ _ st7 b hb;exact (I10.pin (b,o) (E4 _ (E4 _ (Xt hb eo)))).2.1
 rw [henv] at loop;have goal:=codeAny_compStart_list (rest:=[]) (ifs:=ifs) loop (T.self X.A 0 _ _ _ st4 loop);subst hs3;rw [<- hcl',<- hh₁] at goal;exact goal
theorem Qjd {elt tg iter:Expr} {ifs:List Expr} {tt:TT} {pos:Pos} {N N':List Str} {sc scE:Scope} {cap:List (Option Nat)} {wi:TI} {g:TG} {te:TE} (hcalm:X.calm=true) (hi:PI X tg iter wi)
  (hg:∀ cl C s0 H0 ex,PG (Uj X N' sc cl C s0 H0 ex) tg g) (he:∀ cl C s0 H0 ex,PE (Uj X N' sc cl C s0 H0 ex) elt te) (htt:∀ cl C s0 H0 ex,PTs (Uj X N' sc cl C s0 H0 ex) ifs tt)
  (hN:X.N=N:=by rfl) (hE:X.env.scope=scE:=by rfl) (hc:compOkC N N' sc scE cap=true:=by decide +kernel) (hs:∀ x,foldedSetIterable iter X.env x=pure x:=by intro _; rfl) :
  PE X (.ListComp elt [⟨tg,iter,ifs,0⟩] sc pos) (Qaq cap wi g tt te):=by
 intro pins s σ H Q I h;rw [eval_ListComp];refine Q8e (use:=none) hcalm hi hg he htt hN hE hc hs I h fun acc C H' s' m I' hm hf q=>⟨m,hm,fun h' hs'=>?_⟩
 obtain ⟨f0,f1,f2,f3,f4,f5⟩:=hf;exact ⟨.ref acc,H',I'.turned (t':=s'.toks) (fun b o hb e=>(hs'.2 b hb).trans e) f0 f1 f3 f4 f5,rfl,q⟩
theorem Qj3 {ifs:List Expr} {tt:TT} {i:Nat} {x:Str} {px spos:Pos} {elt tg iter:Expr} {pos:Pos} {N N':List Str} {sc scE:Scope} {cap:List (Option Nat)} {wi:TI} {g:TG} {te:TE} (hnd:X.N.Nodup) (hix:X.N[i]?=some x) (hx:Loc X.env.scope x) (hcalm:X.calm=true) (hi:PI X tg iter wi)
  (hg:∀ cl C s0 H0 ex,PG (Uj X N' sc cl C s0 H0 ex) tg g) (he:∀ cl C s0 H0 ex,PE (Uj X N' sc cl C s0 H0 ex) elt te) (htt:∀ cl C s0 H0 ex,PTs (Uj X N' sc cl C s0 H0 ex) ifs tt)
  (hsw:swapsWith (.ListComp elt [⟨tg,iter,ifs,0⟩] sc pos) (some (.Name x px)) spos.line X.env=pure true:=by rfl)
  (hN:X.N=N:=by rfl) (hE:X.env.scope=scE:=by rfl) (hc:compOkC N N' sc scE cap=true:=by decide +kernel) (hs:∀ x,foldedSetIterable iter X.env x=pure x:=by intro _; rfl)
  (hf:X.fn x=true\/X.env.scope.names.lookup x=some .local:=by first | exact .inl rfl | exact .inr rfl | assumption) :
  PS X (.Assign [.Name x px] (.ListComp elt [⟨tg,iter,ifs,0⟩] sc pos) spos) (Qr8 (Qaq cap wi g tt te) (Qd9 i)):=by
 intro pins s σ H D I h;rw [exec_Assign_Name_used _ _ _ _ hsw];refine wpAny_bind (wpAny_standAt (wpAny_bind ?_));show wpAny _ _ (do let _ <- comprehension (.ListComp elt [⟨tg,iter,ifs,0⟩] sc pos) sc X.env _ (newList []) false (eval iter X.env) (some (assign (.Name x px) X.env))) _ _ s;refine wpAny_bind (wpAny_mono (Q8e (use:=some (assign (.Name x px) X.env)) (QQ:=fun _ s'=>SP X pins D .next s') hcalm hi hg he htt hN hE hc hs I h ?_) (fun _ s' hq=>wpAny_pure (wpAny_pure hq)) fun _ _ e=>e)
 intro acc C H' s' m I' hm hfp q;obtain ⟨f0,f1,f2,f3,f4,f5⟩:=hfp;show wpAny _ _ (assign (.Name x px) X.env (.ref acc)) _ _ _;refine wpAny_assign_Name (Q9q I' hnd hix hx (v:=.ref acc) rfl (fun s2 I2 ⟨a,sb,ha⟩=>⟨m,?_,fun h' hs'=>?_⟩) hf)
 ·refine hm.sameBut sb fun z=>?_
  rcases ha with ha | ha
  ·exact f1 (z.trans ha)
  ·exact f4 x a ha z.symm
 ·exact ⟨_,H',I2.turned (t':=s2.toks) (fun b o hb e=>(hs'.2 b hb).trans e) f0 f1 f3 f4 f5,q⟩
end
section
variable {X:Cx} {e e3:Expr} {te t3:TE} {pos p2:Pos}
end
section
variable {X:Cx} {a:Expr} {ta:TA} {p p' pos pos':Pos}
end
section
variable {X:Cx}
end
section
variable {κ:Type} [DecidableEq κ]
def qr (kvs:List (κ × V)) (k:κ):Option V:=(kvs.find? fun kv=>decide (kv.1=k)).map (·.2)
def Q94 (kvs:List (κ × V)) (k:κ) (v:V):List (κ × V):=
 if (kvs.any fun kv=>decide (kv.1=k))=true then kvs.map (fun kv=>if kv.1=k then (kv.1,v) else kv) else kvs ++ [(k,v)]
theorem Qbv {p:κ × V} {r:List (κ × V)} {k:κ} (e:p.1=k):qr (p :: r) k=some p.2:=by simp [qr,List.find?_cons,e]
theorem Qbw {p:κ × V} {r:List (κ × V)} {k:κ} (e:¬ p.1=k):qr (p :: r) k=qr r k:=by simp [qr,List.find?_cons,e]
theorem Qd0 (kvs:List (κ × V)) (k:κ) (v:V):(Q94 kvs k v).length<=kvs.length + 1:=by
 unfold Q94
 split
 ·rw [O2]; omega
 ·rw [O8,D8,List.length_nil]; omega
theorem KV.val {kvs:List (κ × V)} {vs:List (κ × Value)} (r:KV kvs vs) (k:κ):RelO (qr kvs k) (valueAt vs k):=by
 unfold KV at r
 induction r with
 | nil=>exact True.intro
 | @cons p q ps qs h t ih=>
  obtain ⟨h1,h2⟩:=h
  by_cases e:p.1=k
  ·have e':q.1=k:=h1.symm.trans e;have b:valueAt (q :: qs) k=some q.2:=by simp [valueAt,List.find?_cons,e']
   rw [Qbv e,b]; exact h2
  ·have e':¬ q.1=k:=fun z=>e (h1.trans z)
   have b:valueAt (q :: qs) k=valueAt qs k:=by simp [valueAt,List.find?_cons,e']
   rw [Qbw e,b]; exact ih
theorem KV.any {kvs:List (κ × V)} {vs:List (κ × Value)} (r:KV kvs vs) (k:κ):(kvs.any fun kv=>decide (kv.1=k))=vs.any fun kv=>decide (kv.1=k):=by
 unfold KV at r
 induction r with
 | nil=>rfl
 | cons h t ih=>rw [List.any_cons,List.any_cons,ih,h.1]
theorem KV.repl {kvs:List (κ × V)} {vs:List (κ × Value)} (r:KV kvs vs) (k:κ) {y:V} {u:Value} (ry:RelV y u) :
  KV (kvs.map fun kv=>if kv.1=k then (kv.1,y) else kv) (vs.map fun kv=>if kv.1=k then (kv.1,u) else kv):=by
 unfold KV at r ⊢
 induction r with
 | nil=>exact .nil
 | @cons p q ps qs h t ih=>
  rw [F2,F2];refine .cons ?_ ih;obtain ⟨h1,h2⟩:=h
  by_cases e:p.1=k
  ·rw [if_pos e,if_pos (h1.symm.trans e)]; exact ⟨h1,ry⟩
  ·rw [if_neg e,if_neg (fun z=>e (h1.trans z))]; exact ⟨h1,h2⟩
theorem KV.put {kvs:List (κ × V)} {vs:List (κ × Value)} (r:KV kvs vs) (k:κ) {y:V} {u:Value} (ry:RelV y u):KV (Q94 kvs k y) (stored vs k u):=by
 unfold Q94 stored;rw [r.any k]
 by_cases e:(vs.any fun kv=>decide (kv.1=k))=true
 ·rw [if_pos e,if_pos e]; exact r.repl k ry
 ·rw [if_neg e,if_neg e]; exact Paired.snoc r ⟨rfl,ry⟩
theorem KV.length {kvs:List (κ × V)} {vs:List (κ × Value)} (r:KV kvs vs):kvs.length=vs.length:=Paired.length r
end
theorem Qk4 {P:Program} {w:World} {k:Key} {u:Value} (r:RelV (kV k) u):(J2 P w).is k u=true:=by
 cases k with
 | inl i=>obtain ⟨t,e⟩:=(show ∃ t,u=Value.int i t from r); subst e; exact Qct P w i t
 | inr x=>obtain ⟨t,e⟩:=(show ∃ t,u=Value.str x t from r); subst e; exact Qcs P w x t
theorem Qa7 {P:Program} {w:World}:∀ {ks:List Key} {us:List Value},Vals (ks.map kV) us->ItemsAre (J2 P w) ks us
 | [],_,r=>by rw [List.map_nil] at r; cases r; exact .nil
 | k :: ks,_,r=>by
  rw [F2] at r;cases r with
  | cons h t=>exact .cons (Qk4 h) (Qa7 t)
abbrev KT (H:Hp):List (List Key × V)->List (List Key × Addr × Value)->Prop:=Paired fun p q=>p.1=q.1/\H q.2.1=some (.tup (p.1.map kV))/\RelV p.2 q.2.2
theorem KT.val {H:Hp} {kvs:List (List Key × V)} {xs:List (List Key × Addr × Value)} (r:KT H kvs xs) (k:List Key):RelO (qr kvs k) ((atKey xs k).map (·.2)):=by
 induction r with
 | nil=>exact True.intro
 | @cons p q ps qs h t ih=>
  obtain ⟨h1,_,h2⟩:=h
  by_cases e:p.1=k
  ·have e':q.1=k:=h1.symm.trans e;have b:atKey (q :: qs) k=some q.2:=by simp [atKey,List.find?_cons,e']
   rw [Qbv e,b]; exact h2
  ·have e':¬ q.1=k:=fun z=>e (h1.trans z)
   have b:atKey (q :: qs) k=atKey qs k:=by simp [atKey,List.find?_cons,e']
   rw [Qbw e,b]; exact ih
section
variable {P:Program} {w:World} {H:Hp} {h:Heap} {a:Addr}
theorem Qqg {u:HO} (ok:HOk P w H h) (e:Rd H a u):ObjOk P w H h a u:=e.ok ok
theorem Qkg {kvs:List (Key × V)} (ok:HOk P w H h) (e:Rd H a (.dK kvs)):kvs.length<=sizeLine/\(a == sysModules)=false/\∃ vs,KV kvs vs/\h.DictOf (J2 P w) a vs:=
 show ObjOk P w H h a (.dK kvs) from Qqg ok e
theorem Qqu {kvs:List (Key × V)} (ok:HOk P w H h) (e:H a=some (.dK kvs)):kvs.length<=sizeLine/\(a == sysModules)=false/\∃ vs,KV kvs vs/\h.DictOf (J2 P w) a vs:=Qkg ok (.inl e)
theorem Qk2 {ks:List Key} (ok:HOk P w H h) (e:H a=some (.tup (ks.map kV))):(tupleKind (J2 P w)).is h ks a:=by
 obtain ⟨_,its,r,o,h1,h2,n,h3⟩:=(show ObjOk P w H h a (.tup (ks.map kV)) from ok a _ e);exact ⟨o,its.toArray,n,h1,h2,h3,by simpa using Qa7 r⟩
theorem Qqt {kvs:List (List Key × V)} (ok:HOk P w H h) (e:Rd H a (.dT kvs)):kvs.length<=sizeLine/\(a == sysModules)=false /\
  ∃ xs,KT H kvs xs/\h.DictOfH (tupleKind (J2 P w)) a xs:=by
 obtain ⟨z,y,xs,r,o,es,ep,h1,h2,h3,h4,h5⟩:=(show ObjOk P w H h a (.dT kvs) from Qqg ok e);refine ⟨z,y,xs,r,o,es,ep,h1,h2,h3,h4,fun x hx=>?_,h5⟩;have all:∀ {l:List (List Key × V)} {m:List (List Key × Addr × Value)},KT H l m->∀ x∈m,(tupleKind (J2 P w)).is h x.1 x.2.1:=by
  intro l m q
  induction q with
  | nil=>intro x hx; exact nomatch hx
  | @cons p q ps qs hq t ih=>
   intro x hx;rcases E3.mp hx with e | hx
   ·subst e;exact Qk2 ok (by rw [<- hq.1]; exact hq.2.1)
   ·exact ih x hx
 exact all r x hx
end
def DGet (H:Hp) (a:Addr) (y:V) (r:Option V):Prop:=
 (∃ kvs k,Rd H a (.dK kvs)/\y=kV k/\r=qr kvs k)\/∃ kvs k b,Rd H a (.dT kvs)/\y=.ref b/\H b=some (.tup (k.map kV))/\r=qr kvs k
theorem DGet.k {H:Hp} {a:Addr} {kvs:List (Key × V)} {k:Key} (e:H a=some (.dK kvs)):DGet H a (kV k) (qr kvs k):=.inl ⟨kvs,k,.inl e,rfl,rfl⟩
section
variable {X:Cx} {pins:List (Addr × Obj)} {σ:St} {H:Hp} {s:Shared} {a:Addr} {y v:V} {u r:Value} {o:Option V} {A:Around} {E:Value->Shared->Prop}
theorem Inv.big (I:Inv X pins σ H s):sysModules < s.heap.objs.size:=by
 have h:mainGlobals < s.heap.objs.size:=(I.mod.glob.keeps I.bk).lt;exact Nat.lt_trans (by decide) h
theorem Qhi {Q:Value->Shared->Prop} (hu:A.units + 1 < cLine) (I:Inv X pins σ H s) (g:DGet H a y (some v)) (ry:RelV y u) (h:∀ w' s',Inv X pins σ H s'->RelV v w'->Q w' s') :
  wpAny (model X.prog X.w) A (getItem (.ref a) u) Q E s:=by
 rcases g with ⟨kvs,k,e,ey,l⟩ | ⟨kvs,k,b,e,ey,eb,l⟩
 ·subst ey;obtain ⟨z,hd,vs,rel,dd⟩:=Qkg I.hok e;obtain ⟨w',hw,rw'⟩:=RelO.some_of (v:=v) (o:=valueAt vs k) (by rw [l]; exact rel.val k);exact wpAny_getItem_of (Qk4 ry) dd.mapOf hw (h w' _ (I.tok _) rw')
 ·subst ey;cases (show u=Value.ref b from ry);obtain ⟨z,hd,xs,rel,dd⟩:=Qqt I.hok e;obtain ⟨w',hw,rw'⟩:=RelO.some_of (v:=v) (o:=(atKey xs k).map (·.2)) (by rw [l]; exact rel.val k);obtain ⟨p,hp,hp2⟩:=Option.map_eq_some_iff.mp hw;refine wpAny_getItem_heap (tupleKind_room_in1 hu) (Qk2 I.hok eb) dd hp ?_;rw [hp2];exact h w' _ (I.tok _) rw'
theorem Qfx {h':Heap} {t':Nat} {ob:HO} (I:Inv X pins σ H s) (mu:Mut (H a)) (hs:Heap.SameBut a s.heap h') (he:∃ q,h'.get? a=some q) (new:ObjOk X.prog X.w (upd H a ob) h' a ob) :
  Inv X pins σ (upd H a ob) { s with heap:=h',toks:=t' }:=
 I.write (x:=a) (e:=a) mu (.inl rfl) (fun b q hb z=>(hs.2 b hb).trans z) he new
theorem Qkh {P:Program} {w:World} {H':Hp} {h':Heap} {kvs:List (Key × V)} {vs:List (Key × Value)} (z:kvs.length<=sizeLine) (hd:(a == sysModules)=false) (rel:KV kvs vs) (dd:h'.DictOf (J2 P w) a vs) :
  ObjOk P w H' h' a (.dK kvs):=⟨z,hd,vs,rel,dd⟩
end
section
variable {X:Cx} {pins:List (Addr × Obj)} {σ:St} {H:Hp} {s:Shared} {a:Addr} {kvs:List (Key × V)} {k:Key} {u:Value} {A:Around} {E:Value->Shared->Prop}
theorem Qpy {Q:Value->Shared->Prop} (I:Inv X pins σ H s) (e:H a=some (.dK kvs)) (h:∀ s',Inv X pins σ (upd H a (.dK [])) s'->Q .none s'):wpAny (model X.prog X.w) A (call (.builtin "dict.clear") [.ref a]) Q E s:=by
 obtain ⟨z,hd,vs,rel,dd⟩:=Qqu I.hok e;refine call_meetsIn PySem.F.slot_dict_clear dd.typeIs PySem.F.entry_dict_clear (PySem.F.args_dict_clear_1 _) (meets_dict_clear (J2 X.prog X.w) a) ⟨vs,dd,by rw [<- rel.length]; exact z,fun h' dd' hs=>h _ ?_⟩;have he:∃ q,h'.get? a=some q:=let ⟨q,_,_,hq,_⟩:=dd'; ⟨q,hq⟩;exact Qfx (t':=s.toks) I (by rw [e]; exact True.intro) hs he (Qkh (Nat.zero_le _) hd .nil dd')
end
def Qqa (i:Expr):Prop:=∀ ov iv,subscripted i false ov iv=operate [ov,iv] (getItem ov iv)
theorem Qmm {prog:Program} {w:World} {A:Around} {E:Value->Shared->Prop} {s:Shared} {env:Env} {value slice:Expr} {pos:Pos} {T id:String} {Q:Value->Shared->Prop}
  (hl:typeLookup (.type T) "__getitem__" = pure (some (.builtin id))) (hs:Qqa slice)
  (h:wpAny (model prog w) A (eval value env) (fun o s₁=>wpAny (model prog w) A (eval slice env) (fun i s₂=>s₂.TypeIs o T/\wpAny (model prog w) A (getItem o i) Q E s₂) E s₁) E s) :
  wpAny (model prog w) A (eval (.Subscript value slice pos) env) Q E s:=by
 refine Subscript_ (wpAny_mono h (fun o s₁ h₁=>wpAny_mono h₁ (fun i s₂ h₂=>?_) fun _ _ x=>x) fun _ _ x=>x)
 obtain ⟨hT,h₂⟩:=h₂;unfold subscriptTail;refine wpAny_bind ?_;rw [getitemInPython_of_ne hT.not_modules];refine wpAny_bind (wpAny_specialOf hT hl ?_);have fin:wpAny (model prog w) A (subscripted slice false o i) (fun r s₃=>wpAny (model prog w) A (letTemporaryGo value o r >>= fun _=>pure r) Q E s₃) E s₂:=by
  rw [hs o i];exact wpAny_operating (wpAny_mono h₂ (fun r s₃ h₃=>wpAny_bind (wpAny_letTemporaryGo (wpAny_pure h₃))) fun _ _ x=>x)
 first
  | exact wpAny_pure (wpAny_bind fin)
  | exact wpAny_bind (wpAny_pure (wpAny_bind fin))
  | exact wpAny_bind fin
theorem Qdb {X:Cx} {pins:List (Addr × Obj)} {σ:St} {H:Hp} {s:Shared} {a:Addr} {y:V} {o:Option V} (I:Inv X pins σ H s) (g:DGet H a y o):s.TypeIs (.ref a) "dict" := by
 rcases g with ⟨kvs,k,e,_,_⟩ | ⟨kvs,k,b,e,_,_,_⟩
 ·obtain ⟨_,_,vs,_,dd⟩:=Qkg I.hok e;exact dd.typeIs
 ·obtain ⟨_,_,xs,_,dd⟩:=Qqt I.hok e;exact dd.typeIs
def Qua (td ty:TE):TE:=fun σ H Q=>td σ H fun x H1=>ty σ H1 fun y H2=>∃ a v,x=.ref a/\DGet H2 a y (some v)/\Q v H2
section
variable {X:Cx} {o i e value:Expr} {pos pos' tpos:Pos} {td ty tv:TE}
theorem Qfc (hu:X.A.units + 1 < cLine) (ho:PE X o td) (hi:PE X i ty) (hs:Qqa i):PE X (.Subscript o i pos) (Qua td ty):=by
 intro pins s σ H Q I h;refine Qmm PySem.F.slot_dict_getitem.lookup hs (thn (ho pins s σ H _ I h) fun u s1 ⟨x,H1,I1,rx,q1⟩=>thn (hi pins s1 σ H1 _ I1 q1) fun iv s2 ⟨y,H2,I2,ry,a,v,ex,g,q2⟩=>?_)
 subst ex;obtain rfl:u=Value.ref a:=rx;exact ⟨Qdb I2 g,Qhi hu I2 g ry fun w' s3 I3 rw'=>⟨v,H2,I3,rw',q2⟩⟩
end
theorem Qki {P:Program} {w:World} {H:Hp} (h:Heap) (hb:sysModules < h.objs.size):ObjOk P w H (h.push { cls:=.type "dict",data:=.dict #[] }) h.objs.size (.dK []):=
 ⟨Nat.zero_le _,beq_eq_false_iff_ne.mpr (Ne.symm (F0 hb)),[],.nil,Heap.DictOf.new h⟩
section
variable {X:Cx} {pos:Pos}
end
def Qdt:List (TE × TE)->St->Hp->(List (V × V)->Hp->Prop)->Prop
 | [],_,H,Q=>Q [] H
 | (tk,tv) :: r,σ,H,Q=>tk σ H fun x H1=>tv σ H1 fun y H2=>Qdt r σ H2 fun ps H3=>Q ((x,y) :: ps) H3
abbrev VV:List (V × V)->List (Value × Value)->Prop:=Paired fun p q=>RelV p.1 q.1/\RelV p.2 q.2
def PPs (X:Cx) (pos:Pos) (keys:List (Option Expr)) (values:List Expr) (trs:List (TE × TE)):Prop:=
 ∀ (pins:List (Addr × Obj)) (s:Shared) (σ:St) (H:Hp) (Q:List (V × V)->Hp->Prop),Inv X pins σ H s->Qdt trs σ H Q ->
  wpAny (model X.prog X.w) X.A (evalPairs (pairTrees keys values X.env pos)) (fun vs s'=>∃ ps H',Inv X pins σ H' s'/\VV ps vs/\Q ps H') X.xe s
theorem Qfa {X:Cx} {pos:Pos}:PPs X pos [] [] []:=fun pins s σ H Q I h=>pairTrees_nil_walk ⟨[],H,I,.nil,h⟩
theorem zu {X:Cx} {pos:Pos} {k v:Expr} {ks:List (Option Expr)} {vs:List Expr} {tk tv:TE} {trs:List (TE × TE)} (hk:PE X k tk) (hv:PE X v tv) (hr:PPs X pos ks vs trs) :
  PPs X pos (some k :: ks) (v :: vs) ((tk,tv) :: trs):=fun pins s σ H Q I h=>
 pairTrees_cons_walk (thn (hk pins s σ H _ I h) fun u s1 ⟨x,H1,I1,rx,q1⟩=>thn (hv pins s1 σ H1 _ I1 q1) fun w2 s2 ⟨y,H2,I2,ry,q2⟩=>
  thn (hr pins s2 σ H2 _ I2 q2) fun ws s3 ⟨ps,H3,I3,rel,q3⟩=>⟨(x,y) :: ps,H3,I3,.cons ⟨rx,ry⟩ rel,q3⟩)
def xy (kvs more:List (Key × V)):List (Key × V):=more.foldl (fun acc kv=>Q94 acc kv.1 kv.2) kvs
theorem KV.merge:∀ {more:List (Key × V)} {rs:List (Key × Value)} {kvs:List (Key × V)} {vs:List (Key × Value)},KV more rs->KV kvs vs->KV (xy kvs more) (merged vs rs):=by
 intro more rs kvs vs r;unfold KV at r
 induction r generalizing kvs vs with
 | nil=>intro q; exact q
 | @cons p q ps qs h t ih=>
  intro r0;have e:KV (Q94 kvs p.1 p.2) (stored vs q.1 q.2):=by
   have:=r0.put p.1 h.2;rw [<- h.1]; exact this
  exact ih e
theorem Q2c:∀ (more kvs:List (Key × V)),(xy kvs more).length<=kvs.length + more.length
 | [],kvs=>by show kvs.length<=kvs.length + 0; omega
 | p :: r,kvs=>by
  have h1:=Q2c r (Q94 kvs p.1 p.2);have h2:=Qd0 kvs p.1 p.2;show (xy (Q94 kvs p.1 p.2) r).length<=_;rw [D8]; omega
theorem Q8g {P:Program} {w:World}:∀ {kvs:List (Key × V)} {ws:List (Value × Value)},VV (kvs.map fun kv=>(kV kv.1,kv.2)) ws->∃ rs,Carries (J2 P w) ws rs/\KV kvs rs
 | [],_,r=>by rw [List.map_nil] at r; cases r; exact ⟨[],True.intro,.nil⟩
 | p :: kvs,_,r=>by
  rw [F2] at r;cases r with
  | @cons a b as bs h t=>
   obtain ⟨rs,c,q⟩:=Q8g (P:=P) (w:=w) t;obtain ⟨b1,b2⟩:=b;exact ⟨(p.1,b2) :: rs,⟨Qk4 h.1,rfl,c⟩,.cons ⟨rfl,h.2⟩ q⟩
def Qu9 (trs:List (TE × TE)):TE:=fun σ H Q=>∀ p,H p=none->Qdt trs σ (upd H p (.dK [])) fun ps H2=>H2 p=some (.dK [])/\∃ kvs:List (Key × V),ps=kvs.map (fun kv=>(kV kv.1,kv.2))/\kvs.length<=15/\Q (.ref p) (upd H2 p (.dK (xy [] kvs)))
theorem Qfb {X:Cx} {pos:Pos} {keys:List (Option Expr)} {values:List Expr} {trs:List (TE × TE)} (h:PPs X pos keys values trs) (hall:keys.all (·.isSome)=true) (hl:keys.length=values.length) (h0:keys≠[])
  (h15:keys.length<=15):PE X (.Dict keys values pos) (Qu9 trs):=by
 intro pins s σ H Q I q;have hn:=I.hok.fresh (O7 s.heap.objs.size);have I1:=I.laid (a:=s.heap.objs.size) (o:=.dK []) (h':=s.heap.push { cls:=.type "dict",data:=.dict #[] }) (t':=s.toks) (fun _ _ q=>O0 _ q) (O7 _) (Qki s.heap I.big);refine wpAny_Dict_walk (knd:=J2 X.prog X.w) hall hl h0 h15 (thn (h pins _ σ _ _ I1 (q _ hn)) fun ws s2 ⟨ps,H2,I2,rel,e,kvs,ep,lk,q2⟩=>?_)
 subst ep;obtain ⟨rs,c,rk⟩:=Q8g (P:=X.prog) (w:=X.w) rel;obtain ⟨z,hd,vs0,r0,dd⟩:=Qqu I2.hok e;cases r0;refine ⟨rs,c,dd,fun h' dd' hs=>⟨.ref s.heap.objs.size,_,?_,rfl,q2⟩⟩
 have hz:(xy [] kvs).length<=sizeLine:=by
  have h1:=Q2c kvs [];rw [List.length_nil] at h1;rw [sizeLine_eq]; omega
 have he:∃ q,h'.get? s.heap.objs.size=some q:=let ⟨q,_,_,hq,_⟩:=dd'; ⟨q,hq⟩;exact Qfx I2 (by rw [e]; exact True.intro) hs he (Qkh hz hd (rk.merge .nil) dd')
structure M1 (X:Cx) (o:Expr) (m:Str) (apos:Pos) (e:Expr) (cpos:Pos):Prop where
 base:attributeBase o m X.env (eval o X.env)=eval o X.env
 few:((backTo cpos (starEach [e] X.env)).all (fun x=>!x.1) && (backToKw cpos (keywordEach [] X.env)).all (fun x=>x.1.isSome)
  && decide (([e]:List Expr).length + ([]:List Keyword).length + (if ([]:List Keyword).isEmpty then 0 else 1) < 30))=true
 line:(apos.endLine == cpos.line)=true
 trees:backTo cpos (starEach [e] X.env)=[(false,eval e X.env)]
structure M2 (X:Cx) (o:Expr) (m:Str) (apos:Pos) (e f:Expr) (cpos:Pos):Prop where
 base:attributeBase o m X.env (eval o X.env)=eval o X.env
 few:((backTo cpos (starEach [e,f] X.env)).all (fun x=>!x.1) && (backToKw cpos (keywordEach [] X.env)).all (fun x=>x.1.isSome)
  && decide (([e,f]:List Expr).length + ([]:List Keyword).length + (if ([]:List Keyword).isEmpty then 0 else 1) < 30))=true
 line:(apos.endLine == cpos.line)=true
 trees:backTo cpos (starEach [e,f] X.env)=[(false,eval e X.env),(false,eval f X.env)]
section
variable {X:Cx} {pins:List (Addr × Obj)} {σ:St} {H:Hp} {s:Shared} {a:Addr} {y d:V} {u r:Value} {o:Option V} {A:Around} {E:Value->Shared->Prop}
end
section
variable {X:Cx} {o e f:Expr} {apos cpos:Pos} {td ty tx:TE}
end
section
variable {X:Cx} {pins:List (Addr × Obj)} {σ:St} {H:Hp} {s:Shared} {a:Addr} {kvs:List (Key × V)} {A:Around} {E:Value->Shared->Prop}
end
section
variable {X:Cx} {pins:List (Addr × Obj)} {σ:St} {H:Hp} {s:Shared} {a:Addr} {y:V} {u:Value} {A:Around} {E:Value->Shared->Prop}
end
section
variable {X:Cx}
end
section
open AutoSeq1 (wpAny_loadPart')
section
variable {prog:Program} {w:World} {A:Around} {E:Value->Shared->Prop} {s:Shared}
end
section
variable {prog:Program} {w:World} {A:Around} {E:Value->Shared->Prop} {s:Shared}
end
section
variable {X:Cx} {a:Expr} {ta:TA} {p p' pos pos':Pos}
end
end
section
variable {prog:Program} {w:World} {A:Around} {E:Value->Shared->Prop} {s:Shared}
end
section
variable {X:Cx} {e e3:Expr} {te t3:TE} {pos p2:Pos}
end
section
variable {prog:Program} {w:World} {K:Type} [DecidableEq K] {knd:KeyKind prog w K} {A:Around} {R:Result->Shared->Prop}
end
section
variable {X:Cx} {pins:List (Addr × Obj)} {σ:St} {H:Hp} {s:Shared} {a:Addr} {tg:Expr}
end
end L2
namespace L2
open PySem PySem.Spec PyProof.Rows PySem.W
section
variable (r:Nat->Nat)
def rk (p:Array Nat) (i:Nat):Nat:=r (p.getD i 0)
variable {r}
end
end L2
namespace L2
open PySem PySem.Spec PyProof.Rows PySem.W
section
variable {prog:Program} {w:World} {A:Around} {E:Value->Shared->Prop} {s:Shared}
end
end L2
namespace L2
open PySem PySem.Spec PyProof.Rows
end L2
namespace L2
open PySem PySem.Spec PyProof.Rows PySem.W
section
variable {prog:Program} {w:World} {A:Around} {E:Value->Shared->Prop} {s:Shared}
end
end L2
namespace L2
open PySem PySem.Spec PyProof.Rows
section
variable {X:Cx}
end
section
variable {prog:Program} {w:World} {A:Around} {E:Value->Shared->Prop} {s:Shared}
end
end L2
namespace L2
open PySem PySem.Spec PyProof.Rows PySem.W
section
variable {prog:Program} {w:World} {A:Around} {E:Value->Shared->Prop} {s:Shared}
end
section
variable {X:Cx}
end
end L2
namespace L2
open PySem PySem.Spec PyProof.Rows
section
variable {prog:Program} {w:World} {K:Type} [DecidableEq K]
variable {knd:KeyKind prog w K} {L:Bool} {A:Around} {E:Value->Shared->Prop} {s:Shared} {a:Addr}
end
section
variable {prog:Program} {w:World} {A:Around} {E:Value->Shared->Prop} {s:Shared}
end
section
variable {prog:Program} {w:World} {A:Around} {E:Value->Shared->Prop} {s:Shared}
end
section
variable {prog:Program} {w:World} {K:Type} [DecidableEq K] {knd:KeyKind prog w K} {A:Around} {R:Result->Shared->Prop}
end
section
variable {prog:Program} {w:World} {A:Around} {E:Value->Shared->Prop} {s:Shared}
end
section
variable {prog:Program} {w:World} {A:Around} {E:Value->Shared->Prop} {s:Shared}
end
section
variable {prog:Program} {w:World} {A:Around} {E:Value->Shared->Prop} {s:Shared}
end
section
variable {X:Cx}
end
end L2
namespace L2
open PySem PySem.Spec PyProof.Rows SeqAt
section
variable {prog:Program} {w:World} {K:Type} [DecidableEq K] {knd:KeyKind prog w K} {A:Around} {E:Value->Shared->Prop} {s:Shared}
end
section
variable {prog:Program} {w:World} {K:Type} [DecidableEq K] {knd:KeyKind prog w K} {A:Around} {E:Value->Shared->Prop} {s:Shared}
end
section
variable {X:Cx}
theorem Qgz:MtM X "dict.clear" (fun x xs H Q=>∃ a kvs,x=.ref a/\xs=[]/\H a=some (.dK kvs)/\Q .non (upd H a (.dK []))):=by
 intro pins s σ H x xs v us Q I rx rv h;obtain ⟨a,kvs,rfl,rfl,e,q⟩:=h;cases rx;have hus:=rv.zero;subst hus;exact Qpy I e fun s' I'=>⟨.non,_,I',rfl,q⟩
end
end L2
namespace L2
open PySem PySem.Spec PyProof.Rows SeqAt
section
variable {X:Cx}
end
end L2
namespace Sm
open PySem PySem.Spec L2
section
inductive PV where
 | non | bl (b:Bool) | int (i:Int) | str (x:Str) | tup (xs:List PV) | lst (xs:List PV) | fro (xs:List PV) | ref (i:Nat) | dic
inductive Cell where
 | lst (xs:List PV) | dic (kvs:List (Key × PV)) | dtp (kvs:List (List Key × PV)) | frd (kvs:List (Key × PV))
 | obj (C:Addr) (fs:List (Str × PV))
abbrev Q2:=List Cell
structure Exc where
 cls:Str
 fs:Option (Str × PV):=none
inductive Res (α:Type) where
 | ok (a:α) (st:Q2) | exc (x:Exc) (st:Q2) | stuck
abbrev Gam:=List (Option PV)
abbrev ME:=Gam->Q2->Res PV
structure Tk where
 tr:List Addr
 hid:List Addr
instance:Membership Addr Tk:=⟨fun t a=>a∈t.tr\/a∈t.hid⟩
def Tk.nil:Tk:=⟨[],[]⟩
theorem Tk.not_nil (a:Addr):a∉Tk.nil:=fun z=>by rcases z with z | z <;> cases z
def Tk.add (t:Tk) (p:Addr):Tk:=⟨t.tr ++ [p],t.hid⟩
def Tk.hide (t:Tk) (p:Addr):Tk:=⟨t.tr,p :: t.hid⟩
mutual
def Rep (H:Hp) (ρ:Tk):PV->V->Prop
 | .non,v=>v=.non
 | .bl b,v=>v=.bl b
 | .int i,v=>v=.int i
 | .str x,v=>v=.str x
 | .tup ps,v=>∃ a vs,v=.ref a/\H a=some (.tup vs)/\a∉ρ/\RepL H ρ ps vs
 | .lst ps,v=>∃ a vs,v=.ref a/\H a=some (.lst vs)/\a∉ρ/\RepL H ρ ps vs
 | .fro ps,v=>∃ a vs,v=.ref a/\Rd H a (.lst vs)/\a∉ρ/\RepL H ρ ps vs
 | .ref i,v=>∃ a,ρ.tr[i]?=some a/\v=.ref a
 | .dic,v=>∃ a,v=.ref a/\H a=some (.dK [])/\a∉ρ
def RepL (H:Hp) (ρ:Tk):List PV->List V->Prop
 | [],vs=>vs=[]
 | p :: ps,vs=>∃ v r,vs=v :: r/\Rep H ρ p v/\RepL H ρ ps r
end
structure Ext (H:Hp) (ρ:Tk) (H':Hp) (ρ':Tk):Prop where
 pre:ρ.tr <+: ρ'.tr
 hidM:∀ a,a∈ρ.hid->a∈ρ'.hid
 hidN:∀ a,a∈ρ'.hid->a∈ρ.hid\/H a=none
 keep:∀ a o,H a=some o->a∉ρ.tr->H' a=some o
 new:∀ a,a∈ρ'.tr->a∈ρ.tr\/H a=none
 old:∀ a o,H a=some o->∃ o',H' a=some o'
 frz:∀ a o u,H a=some (.frz o u)->H' a=some (.frz o u)
theorem Ext.refl (H:Hp) (ρ:Tk):Ext H ρ H ρ:=⟨List.prefix_refl _,fun _ h=>h,fun _ h=>.inl h,fun _ _ h _=>h,fun _ h=>.inl h,fun _ o h=>⟨o,h⟩,fun _ _ _ h=>h⟩
theorem Ext.trans {H H1 H2:Hp} {ρ ρ1 ρ2:Tk} (a:Ext H ρ H1 ρ1) (b:Ext H1 ρ1 H2 ρ2):Ext H ρ H2 ρ2 where
 pre:=a.pre.trans b.pre
 hidM:=fun x h=>b.hidM x (a.hidM x h)
 hidN:=fun x h=>by
  rcases b.hidN x h with z | z
  ·exact a.hidN x z
  ·right
   cases q:H x with
   | none=>rfl
   | some o=>
    obtain ⟨o',e⟩:=a.old x o q;rw [e] at z; cases z
 keep:=fun x o h n=>b.keep x o (a.keep x o h n) fun z=>by
  rcases a.new x z with z | z
  ·exact n z
  ·rw [h] at z; cases z
 new:=fun x h=>by
  rcases b.new x h with z | z
  ·exact a.new x z
  ·right
   cases q:H x with
   | none=>rfl
   | some o=>
    obtain ⟨o',e⟩:=a.old x o q;rw [e] at z; cases z
 old:=fun x o h=>by
  obtain ⟨o',e⟩:=a.old x o h;exact b.old x o' e
 frz:=fun x o u h=>b.frz x o u (a.frz x o u h)
theorem Ext.add {H:Hp} {ρ:Tk} {p:Addr} {o:HO} (h:H p=none):Ext H ρ (upd H p o) ρ where
 pre:=List.prefix_refl _
 hidM:=fun _ h=>h
 hidN:=fun _ h=>.inl h
 keep:=fun a u e _=>by rw [Qh (Qk e h)]; exact e
 new:=fun a e=>.inl e
 old:=fun a u e=>⟨u,by rw [Qh (Qk e h)]; exact e⟩
 frz:=fun a o u e=>by rw [Qh (Qk e h)]; exact e
theorem Ext.addT {H:Hp} {ρ:Tk} {p:Addr} {o:HO} (h:H p=none):Ext H ρ (upd H p o) (ρ.add p) where
 pre:=List.prefix_append _ _
 hidM:=fun _ h=>h
 hidN:=fun _ h=>.inl h
 keep:=fun a u e _=>by rw [Qh (Qk e h)]; exact e
 new:=fun a e=>by
  rcases E9.mp e with z | z
  ·exact .inl z
  ·right
   have:a=p:=by simpa using z
   rw [this]; exact h
 old:=fun a u e=>⟨u,by rw [Qh (Qk e h)]; exact e⟩
 frz:=fun a o u e=>by rw [Qh (Qk e h)]; exact e
theorem Ext.same {H H':Hp} {ρ:Tk} (h:Same H H'):Ext H ρ H' ρ:=⟨List.prefix_refl _,fun _ h=>h,fun _ h=>.inl h,fun a o e _=>h a o e,fun _ e=>.inl e,fun a o e=>⟨o,h a o e⟩,fun a o u e=>h a _ e⟩
section
variable {H H':Hp} {ρ ρ':Tk}
theorem y4 {a:Addr} {o:HO} (x:Ext H ρ H' ρ') (h:H a=some o) (n:a∉ρ):a∉ρ':=fun z=>by
 rcases z with z | z
 ·rcases x.new a z with z | z
  ·exact n (.inl z)
  ·rw [h] at z; cases z
 ·rcases x.hidN a z with z | z
  ·exact n (.inr z)
  ·rw [h] at z; cases z
theorem Ext.kp {a:Addr} {o:HO} (x:Ext H ρ H' ρ') (h:H a=some o) (n:a∉ρ):H' a=some o:=x.keep a o h fun z=>n (.inl z)
mutual
theorem Rep.ext (x:Ext H ρ H' ρ'):∀ {p:PV} {v:V},Rep H ρ p v->Rep H' ρ' p v
 | .non,_,h=>h
 | .bl _,_,h=>h
 | .int _,_,h=>h
 | .str _,_,h=>h
 | .tup ps,v,h=>by
  obtain ⟨a,vs,e,s,n,r⟩:=h;exact ⟨a,vs,e,x.kp s n,y4 x s n,RepL.ext x r⟩
 | .lst ps,v,h=>by
  obtain ⟨a,vs,e,s,n,r⟩:=h;exact ⟨a,vs,e,x.kp s n,y4 x s n,RepL.ext x r⟩
 | .fro ps,v,h=>by
  obtain ⟨a,vs,e,s,n,r⟩:=h;rcases s with s | ⟨o,s⟩
  ·exact ⟨a,vs,e,.inl (x.kp s n),y4 x s n,RepL.ext x r⟩
  ·exact ⟨a,vs,e,.inr ⟨o,x.kp s n⟩,y4 x s n,RepL.ext x r⟩
 | .ref i,v,h=>by
  obtain ⟨a,e,rfl⟩:=h;obtain ⟨t,et⟩:=x.pre;refine ⟨a,?_,rfl⟩;rw [<- et,O6 (O1.mp e).1];exact e
 | .dic,v,h=>by
  obtain ⟨a,e,s,n⟩:=h;exact ⟨a,e,x.kp s n,y4 x s n⟩
theorem RepL.ext (x:Ext H ρ H' ρ'):∀ {ps:List PV} {vs:List V},RepL H ρ ps vs->RepL H' ρ' ps vs
 | [],_,h=>h
 | p :: ps,vs,h=>by
  obtain ⟨v,r,e,h1,h2⟩:=h;exact ⟨v,r,e,Rep.ext x h1,RepL.ext x h2⟩
end
mutual
theorem Rep.hide {a:Addr} {o:HO} (h:H a=none):∀ {p:PV} {v:V},Rep H ρ p v->Rep (upd H a o) (ρ.hide a) p v
 | .non,_,r=>r
 | .bl _,_,r=>r
 | .int _,_,r=>r
 | .str _,_,r=>r
 | .tup ps,v,⟨b,vs,e,s,n,r⟩=>⟨b,vs,e,by rw [Qh (Qk s h)]; exact s,fun z=>by
   rcases z with z | z
   ·exact n (.inl z)
   ·rcases E3.mp z with z | z
    ·exact Qk s h z
    ·exact n (.inr z),RepL.hide h r⟩
 | .lst ps,v,⟨b,vs,e,s,n,r⟩=>⟨b,vs,e,by rw [Qh (Qk s h)]; exact s,fun z=>by
   rcases z with z | z
   ·exact n (.inl z)
   ·rcases E3.mp z with z | z
    ·exact Qk s h z
    ·exact n (.inr z),RepL.hide h r⟩
 | .fro ps,v,⟨b,vs,e,s,n,r⟩=>by
   have ne:b≠a:=by
    rcases s with s | ⟨_,s⟩
    ·exact Qk s h
    ·exact Qk s h
   refine ⟨b,vs,e,?_,fun z=>?_,RepL.hide h r⟩
   ·rcases s with s | ⟨u,s⟩
    ·exact .inl (by rw [Qh ne]; exact s)
    ·exact .inr ⟨u,by rw [Qh ne]; exact s⟩
   ·rcases z with z | z
    ·exact n (.inl z)
    ·rcases E3.mp z with z | z
     ·exact ne z
     ·exact n (.inr z)
 | .ref i,v,r=>r
 | .dic,v,⟨b,e,s,n⟩=>⟨b,e,by rw [Qh (Qk s h)]; exact s,fun z=>by
   rcases z with z | z
   ·exact n (.inl z)
   ·rcases E3.mp z with z | z
    ·exact Qk s h z
    ·exact n (.inr z)⟩
theorem RepL.hide {a:Addr} {o:HO} (h:H a=none):∀ {ps:List PV} {vs:List V},RepL H ρ ps vs->RepL (upd H a o) (ρ.hide a) ps vs
 | [],_,r=>r
 | p :: ps,_,⟨v,t,e,r1,r2⟩=>⟨v,t,e,Rep.hide h r1,RepL.hide h r2⟩
end
mutual
theorem Rep.rehide {a:Addr} {o:HO} (h:a∈ρ.hid):∀ {p:PV} {v:V},Rep H ρ p v->Rep (upd H a o) ρ p v
 | .non,_,r=>r
 | .bl _,_,r=>r
 | .int _,_,r=>r
 | .str _,_,r=>r
 | .tup ps,v,⟨b,vs,e,s,n,r⟩=>⟨b,vs,e,by rw [Qh (show b≠a from fun z=>n (.inr (by rw [z]; exact h)))]; exact s,n,RepL.rehide h r⟩
 | .lst ps,v,⟨b,vs,e,s,n,r⟩=>⟨b,vs,e,by rw [Qh (show b≠a from fun z=>n (.inr (by rw [z]; exact h)))]; exact s,n,RepL.rehide h r⟩
 | .fro ps,v,⟨b,vs,e,s,n,r⟩=>by
   have ne:b≠a:=fun z=>n (.inr (by rw [z]; exact h))
   refine ⟨b,vs,e,?_,n,RepL.rehide h r⟩;rcases s with s | ⟨u,s⟩
   ·exact .inl (by rw [Qh ne]; exact s)
   ·exact .inr ⟨u,by rw [Qh ne]; exact s⟩
 | .ref i,v,r=>r
 | .dic,v,⟨b,e,s,n⟩=>⟨b,e,by rw [Qh (show b≠a from fun z=>n (.inr (by rw [z]; exact h)))]; exact s,n⟩
theorem RepL.rehide {a:Addr} {o:HO} (h:a∈ρ.hid):∀ {ps:List PV} {vs:List V},RepL H ρ ps vs->RepL (upd H a o) ρ ps vs
 | [],_,r=>r
 | p :: ps,_,⟨v,t,e,r1,r2⟩=>⟨v,t,e,Rep.rehide h r1,RepL.rehide h r2⟩
end
mutual
theorem Rep.retr {a:Addr} {o:HO} (h:a∈ρ.tr):∀ {p:PV} {v:V},Rep H ρ p v->Rep (upd H a o) ρ p v
 | .non,_,r=>r
 | .bl _,_,r=>r
 | .int _,_,r=>r
 | .str _,_,r=>r
 | .tup ps,v,⟨b,vs,e,s,n,r⟩=>⟨b,vs,e,by rw [Qh (show b≠a from fun z=>n (.inl (by rw [z]; exact h)))]; exact s,n,RepL.retr h r⟩
 | .lst ps,v,⟨b,vs,e,s,n,r⟩=>⟨b,vs,e,by rw [Qh (show b≠a from fun z=>n (.inl (by rw [z]; exact h)))]; exact s,n,RepL.retr h r⟩
 | .fro ps,v,⟨b,vs,e,s,n,r⟩=>by
   have ne:b≠a:=fun z=>n (.inl (by rw [z]; exact h))
   refine ⟨b,vs,e,?_,n,RepL.retr h r⟩;rcases s with s | ⟨u,s⟩
   ·exact .inl (by rw [Qh ne]; exact s)
   ·exact .inr ⟨u,by rw [Qh ne]; exact s⟩
 | .ref i,v,r=>r
 | .dic,v,⟨b,e,s,n⟩=>⟨b,e,by rw [Qh (show b≠a from fun z=>n (.inl (by rw [z]; exact h)))]; exact s,n⟩
theorem RepL.retr {a:Addr} {o:HO} (h:a∈ρ.tr):∀ {ps:List PV} {vs:List V},RepL H ρ ps vs->RepL (upd H a o) ρ ps vs
 | [],_,r=>r
 | p :: ps,_,⟨v,t,e,r1,r2⟩=>⟨v,t,e,Rep.retr h r1,RepL.retr h r2⟩
end
mutual
theorem Rep.unhide {hs:List Addr} (hh:∀ a,a∈hs->a∈ρ.hid):∀ {p:PV} {v:V},Rep H ρ p v->Rep H ⟨ρ.tr,hs⟩ p v
 | .non,_,r=>r
 | .bl _,_,r=>r
 | .int _,_,r=>r
 | .str _,_,r=>r
 | .tup ps,v,⟨b,vs,e,s,n,r⟩=>⟨b,vs,e,s,fun z=>n (z.imp id (hh _)),RepL.unhide hh r⟩
 | .lst ps,v,⟨b,vs,e,s,n,r⟩=>⟨b,vs,e,s,fun z=>n (z.imp id (hh _)),RepL.unhide hh r⟩
 | .fro ps,v,⟨b,vs,e,s,n,r⟩=>⟨b,vs,e,s,fun z=>n (z.imp id (hh _)),RepL.unhide hh r⟩
 | .ref i,v,r=>r
 | .dic,v,⟨b,e,s,n⟩=>⟨b,e,s,fun z=>n (z.imp id (hh _))⟩
theorem RepL.unhide {hs:List Addr} (hh:∀ a,a∈hs->a∈ρ.hid):∀ {ps:List PV} {vs:List V},RepL H ρ ps vs->RepL H ⟨ρ.tr,hs⟩ ps vs
 | [],_,r=>r
 | p :: ps,_,⟨v,t,e,r1,r2⟩=>⟨v,t,e,Rep.unhide hh r1,RepL.unhide hh r2⟩
end
theorem RepL.length:∀ {ps:List PV} {vs:List V},RepL H ρ ps vs->ps.length=vs.length
 | [],_,h=>by cases h; rfl
 | p :: ps,_,⟨v,r,rfl,_,h2⟩=>by rw [D8,D8,RepL.length h2]
theorem RepL.get:∀ {ps:List PV} {vs:List V} {i:Nat} {p:PV},RepL H ρ ps vs->ps[i]?=some p->∃ v,vs[i]?=some v/\Rep H ρ p v
 | [],_,_,_,_,e=>by simp at e
 | p :: ps,_,0,q,⟨v,r,rfl,h1,h2⟩,e=>by simp at e; subst e; exact ⟨v,rfl,h1⟩
 | p :: ps,_,i + 1,q,⟨v,r,rfl,h1,h2⟩,e=>by
  obtain ⟨u,e1,e2⟩:=RepL.get (i:=i) h2 (by simpa using e);exact ⟨u,by simpa using e1,e2⟩
theorem RepL.cons {p:PV} {v:V} {ps:List PV} {vs:List V} (h:Rep H ρ p v) (r:RepL H ρ ps vs):RepL H ρ (p :: ps) (v :: vs):=⟨v,vs,rfl,h,r⟩
theorem RepL.nil:RepL H ρ [] []:=rfl
theorem RepL.append:∀ {ps qs:List PV} {vs us:List V},RepL H ρ ps vs->RepL H ρ qs us->RepL H ρ (ps ++ qs) (vs ++ us)
 | [],_,_,_,h,g=>by cases h; exact g
 | p :: ps,_,_,_,⟨v,r,rfl,h1,h2⟩,g=>⟨v,_,rfl,h1,RepL.append h2 g⟩
theorem RepL.take:∀ {ps:List PV} {vs:List V} (n:Nat),RepL H ρ ps vs->RepL H ρ (ps.take n) (vs.take n)
 | _,_,0,_=>rfl
 | [],_,n + 1,h=>by cases h; rfl
 | p :: ps,_,n + 1,⟨v,r,rfl,h1,h2⟩=>⟨v,_,rfl,h1,RepL.take n h2⟩
theorem RepL.drop:∀ {ps:List PV} {vs:List V} (n:Nat),RepL H ρ ps vs->RepL H ρ (ps.drop n) (vs.drop n)
 | _,_,0,h=>h
 | [],_,n + 1,h=>by cases h; rfl
 | p :: ps,_,n + 1,⟨v,r,rfl,h1,h2⟩=>RepL.drop n h2
theorem RepL.set {p:PV} {v:V} (h:Rep H ρ p v):∀ {ps:List PV} {vs:List V} (i:Nat),RepL H ρ ps vs->RepL H ρ (ps.set i p) (vs.set i v)
 | [],_,_,g=>by cases g; rfl
 | q :: ps,_,0,⟨u,r,rfl,h1,h2⟩=>⟨v,r,rfl,h,h2⟩
 | q :: ps,_,i + 1,⟨u,r,rfl,h1,h2⟩=>⟨u,_,rfl,h1,RepL.set h i h2⟩
theorem RepL.rep {ps:List PV} {vs:List V} (h:RepL H ρ ps vs):∀ n,RepL H ρ (List.replicate n ps).flatten (List.replicate n vs).flatten
 | 0=>rfl
 | n + 1=>by rw [List.replicate_succ,List.replicate_succ,List.flatten_cons,List.flatten_cons]; exact h.append (RepL.rep h n)
theorem RepL.toInts:∀ {ns:List Int} {vs:List V},RepL H ρ (ns.map .int) vs->vs=ns.map V.int
 | [],_,h=>h
 | n :: ns,_,⟨v,r,rfl,h1,h2⟩=>by
  have e:v=V.int n:=h1;rw [RepL.toInts h2,e]; rfl
theorem RepL.toBls:∀ {ns:List Bool} {vs:List V},RepL H ρ (ns.map .bl) vs->vs=ns.map V.bl
 | [],_,h=>h
 | n :: ns,_,⟨v,r,rfl,h1,h2⟩=>by
  have e:v=V.bl n:=h1;rw [RepL.toBls h2,e]; rfl
end
def RepD {κ:Type} (H:Hp) (ρ:Tk) (kvs:List (κ × PV)) (vs:List (κ × V)):Prop:=vs.map Prod.fst=kvs.map Prod.fst/\RepL H ρ (kvs.map Prod.snd) (vs.map Prod.snd)
theorem RepD.ext {κ:Type} {H H':Hp} {ρ ρ':Tk} {kvs:List (κ × PV)} {vs:List (κ × V)} (x:Ext H ρ H' ρ') (r:RepD H ρ kvs vs):RepD H' ρ' kvs vs:=⟨r.1,r.2.ext x⟩
theorem RepD.length {κ:Type} {H:Hp} {ρ:Tk} {kvs:List (κ × PV)} {vs:List (κ × V)} (r:RepD H ρ kvs vs):kvs.length=vs.length:=by
 have:=congrArg List.length r.1;rw [O2,O2] at this;exact this.symm
def CellR (H:Hp) (ρ:Tk) (a:Addr):Cell->Prop
 | .lst ps=>∃ vs,H a=some (.lst vs)/\RepL H ρ ps vs
 | .dic kvs=>∃ vs,H a=some (.dK vs)/\RepD H ρ kvs vs
 | .dtp kvs=>∃ vs,H a=some (.dT vs)/\RepD H ρ kvs vs
 | .frd kvs=>∃ vs,(∃ o,H a=some (.frz o (.dK vs)))/\RepD H ρ kvs vs
 | .obj C fs=>∃ vs,(∃ dx,H a=some (.ins C dx vs))/\RepD H ρ fs vs
theorem CellR.dom {H:Hp} {ρ:Tk} {a:Addr}:∀ {c:Cell},CellR H ρ a c->∃ o,H a=some o
 | .lst _,⟨_,e,_⟩=>⟨_,e⟩
 | .dic _,⟨_,e,_⟩=>⟨_,e⟩
 | .dtp _,⟨_,e,_⟩=>⟨_,e⟩
 | .frd _,⟨_,⟨_,e⟩,_⟩=>⟨_,e⟩
 | .obj _ _,⟨_,⟨_,e⟩,_⟩=>⟨_,e⟩
theorem CellR.ext {H H':Hp} {ρ ρ':Tk} {a:Addr} (x:Ext H ρ H' ρ') (k:∀ o,H a=some o->H' a=some o):∀ {c:Cell},CellR H ρ a c->CellR H' ρ' a c
 | .lst _,⟨vs,e,r⟩=>⟨vs,k _ e,r.ext x⟩
 | .dic _,⟨vs,e,r⟩=>⟨vs,k _ e,r.ext x⟩
 | .dtp _,⟨vs,e,r⟩=>⟨vs,k _ e,r.ext x⟩
 | .frd _,⟨vs,⟨o,e⟩,r⟩=>⟨vs,⟨o,k _ e⟩,r.ext x⟩
 | .obj _ _,⟨vs,⟨o,e⟩,r⟩=>⟨vs,⟨o,k _ e⟩,r.ext x⟩
structure Rel (H:Hp) (ρ:Tk) (st:Q2):Prop where
 len:ρ.tr.length=st.length
 nd:ρ.tr.Nodup
 hd:∀ a∈ρ.hid,∃ o,H a=some o/\∀ xs,o≠.tup xs
 ap:∀ a∈ρ.hid,a∉ρ.tr
 cell:∀ (i:Nat) (a:Addr) (c:Cell),ρ.tr[i]?=some a->st[i]?=some c->CellR H ρ a c
section
variable {H H':Hp} {ρ ρ':Tk} {st st':Q2}
theorem Rel.lst (R:Rel H ρ st) {i:Nat} {ps:List PV} (h:st[i]?=some (.lst ps)):∃ a vs,ρ.tr[i]?=some a/\H a=some (.lst vs)/\RepL H ρ ps vs:=by
 have hi:i < ρ.tr.length:=by rw [R.len]; exact (O1.mp h).1
 have e:ρ.tr[i]?=some ρ.tr[i]:=O4 hi;obtain ⟨vs,e1,e2⟩:=R.cell i _ _ e h;exact ⟨_,vs,e,e1,e2⟩
theorem Rel.dic (R:Rel H ρ st) {i:Nat} {kvs:List (Key × PV)} (h:st[i]?=some (.dic kvs)):∃ a vs,ρ.tr[i]?=some a/\H a=some (.dK vs)/\RepD H ρ kvs vs:=by
 have hi:i < ρ.tr.length:=by rw [R.len]; exact (O1.mp h).1
 have e:ρ.tr[i]?=some ρ.tr[i]:=O4 hi;obtain ⟨vs,e1,e2⟩:=R.cell i _ _ e h;exact ⟨_,vs,e,e1,e2⟩
theorem Rel.frd (R:Rel H ρ st) {i:Nat} {kvs:List (Key × PV)} (h:st[i]?=some (.frd kvs)):∃ a vs o,ρ.tr[i]?=some a/\H a=some (.frz o (.dK vs))/\RepD H ρ kvs vs:=by
 have hi:i < ρ.tr.length:=by rw [R.len]; exact (O1.mp h).1
 have e:ρ.tr[i]?=some ρ.tr[i]:=O4 hi;obtain ⟨vs,⟨o,e1⟩,e2⟩:=R.cell i _ _ e h;exact ⟨_,vs,o,e,e1,e2⟩
theorem Rel.obj (R:Rel H ρ st) {i:Nat} {C:Addr} {fs:List (Str × PV)} (h:st[i]?=some (.obj C fs)):∃ a vs dx,ρ.tr[i]?=some a/\H a=some (.ins C dx vs)/\RepD H ρ fs vs:=by
 have hi:i < ρ.tr.length:=by rw [R.len]; exact (O1.mp h).1
 have e:ρ.tr[i]?=some ρ.tr[i]:=O4 hi;obtain ⟨vs,⟨o,e1⟩,e2⟩:=R.cell i _ _ e h;exact ⟨_,vs,o,e,e1,e2⟩
theorem Rel.dom (R:Rel H ρ st) {a:Addr} (h:a∈ρ.tr):∃ o,H a=some o:=by
 obtain ⟨i,hi,e⟩:=List.getElem_of_mem h;have hs:i < st.length:=by rw [<- R.len]; exact hi
 have q:=R.cell i a st[i] (by rw [O4 hi,e]) (O4 hs);exact q.dom
theorem Rel.fresh (R:Rel H ρ st) {p:Addr} (h:H p=none):p∉ρ:=fun z=>by
 rcases z with z | z
 ·obtain ⟨vs,q⟩:=R.dom z;rw [h] at q; cases q
 ·obtain ⟨o,q,_⟩:=R.hd p z;rw [h] at q; cases q
theorem Rel.later (R:Rel H ρ st) (x:Ext H ρ H' ρ) (k:∀ a o,a∈ρ.tr->H a=some o->H' a=some o):Rel H' ρ st where
 len:=R.len
 nd:=R.nd
 hd:=fun a ha=>let ⟨o,e,n⟩:=R.hd a ha; ⟨o,x.keep a o e (R.ap a ha),n⟩
 ap:=R.ap
 cell:=fun i a c h1 h2=>by
  exact (R.cell i a c h1 h2).ext x fun o e=>k a o (D2 h1) e
end
theorem Rel.add {H:Hp} {ρ:Tk} {st:Q2} (R:Rel H ρ st) {p:Addr} {o:HO} (h:H p=none):Rel (upd H p o) ρ st:=
 R.later (Ext.add h) fun a u hm e=>by rw [Qh (Qk e h)]; exact e
theorem Rel.same {H H':Hp} {ρ:Tk} {st:Q2} (R:Rel H ρ st) (h:Same H H'):Rel H' ρ st:=R.later (Ext.same h) fun a u _ e=>h a u e
theorem Rel.addC {H:Hp} {ρ:Tk} {st:Q2} (R:Rel H ρ st) {p:Addr} {cl:Cell} {o:HO} (h:H p=none) (r:CellR (upd H p o) (ρ.add p) p cl):Rel (upd H p o) (ρ.add p) (st ++ [cl]) where
 len:=by show (ρ.tr ++ [p]).length=_; rw [O8,O8,R.len]; rfl
 nd:=List.nodup_append.mpr ⟨R.nd,by simp,fun a ha b hb e=>by
  have:b=p:=by simpa using hb
  subst this; subst e;exact R.fresh h (.inl ha)⟩
 hd:=fun a ha=>let ⟨o,e,n⟩:=R.hd a ha; ⟨o,by rw [Qh (Qk e h)]; exact e,n⟩
 ap:=fun a ha z=>by
  rcases E9.mp z with z | z
  ·exact R.ap a ha z
  ·have:a=p:=by simpa using z
   subst this;exact R.fresh h (.inr ha)
 cell:=fun i a c h1 h2=>by
  have h1:(ρ.tr ++ [p])[i]?=some a:=h1
  by_cases hi:i < st.length
  ·rw [O6 (by rw [R.len]; exact hi)] at h1;rw [O6 hi] at h2;exact (R.cell i a c h1 h2).ext (Ext.addT h) fun u e=>by rw [Qh (Qk e h)]; exact e
  ·rw [D1 (by rw [R.len]; omega)] at h1;rw [D1 (by omega)] at h2;have e0:i - st.length=0:=by
    rcases Nat.eq_zero_or_pos (i - st.length) with z | z
    ·exact z
    ·rw [List.getElem?_eq_none (by simp; omega)] at h2; cases h2
   rw [R.len,e0] at h1;rw [e0] at h2;simp at h1 h2;subst h1; subst h2;exact r
theorem Qa3 {α:Type} {l:List α} (h:l.Nodup) {i j:Nat} (hi:i < l.length) (hj:j < l.length) (e:l[i]=l[j]):i=j:=by
 rcases Nat.lt_trichotomy i j with z | z | z
 ·exact absurd e ((List.pairwise_iff_getElem.mp h) i j hi hj z)
 ·exact z
 ·exact absurd e.symm ((List.pairwise_iff_getElem.mp h) j i hj hi z)
theorem Ext.put {H:Hp} {ρ:Tk} {a:Addr} {o o':HO} (h:a∈ρ.tr) (e:H a=some o) (nf:∀ q u,o≠.frz q u:=by intro _ _ z; cases z):Ext H ρ (upd H a o') ρ where
 pre:=List.prefix_refl _
 hidM:=fun _ h=>h
 hidN:=fun _ h=>.inl h
 keep:=fun b u q n=>by rw [Qh (show b≠a from fun z=>n (by rw [z]; exact h))]; exact q
 new:=fun b q=>.inl q
 old:=fun b u q=>by
  by_cases z:b=a
  ·exact ⟨o',by rw [z]; exact J8⟩
  ·exact ⟨u,by rw [Qh z]; exact q⟩
 frz:=fun b q u k=>by
  by_cases z:b=a
  ·rw [z,e] at k; cases k; exact absurd rfl (nf _ _)
  ·rw [Qh z]; exact k
theorem Rel.putC {H:Hp} {ρ:Tk} {st:Q2} (R:Rel H ρ st) {i:Nat} {a:Addr} {cl:Cell} {o o':HO} (hi:ρ.tr[i]?=some a) (e:H a=some o) (r:CellR (upd H a o') ρ a cl):Rel (upd H a o') ρ (st.set i cl) where
 len:=by rw [D5]; exact R.len
 nd:=R.nd
 hd:=fun b hb=>let ⟨u,q,n⟩:=R.hd b hb; ⟨u,by rw [Qh (show b≠a from fun z=>R.ap b hb (by rw [z]; exact D2 hi))]; exact q,n⟩
 ap:=R.ap
 cell:=fun j b c h1 h2=>by
  by_cases hj:i=j
  ·subst hj;rw [hi] at h1; cases h1;rw [E2 (by rw [<- R.len]; exact (O1.mp hi).1)] at h2;cases h2;exact r
  ·rw [O5 hj] at h2;have q:=R.cell j b c h1 h2;have hb:b≠a:=fun z=>by
    subst z;have l1:=(O1.mp hi);have l2:=(O1.mp h1);exact hj (Qa3 R.nd l1.1 l2.1 (l1.2.trans l2.2.symm))
   have hm:=D2 hi;cases c with
   | lst ps=>
    obtain ⟨vs,e1,e2⟩:=q;exact ⟨vs,by rw [Qh hb]; exact e1,e2.retr hm⟩
   | dic ps=>
    obtain ⟨vs,e1,e2⟩:=q;exact ⟨vs,by rw [Qh hb]; exact e1,e2.1,e2.2.retr hm⟩
   | dtp ps=>
    obtain ⟨vs,e1,e2⟩:=q;exact ⟨vs,by rw [Qh hb]; exact e1,e2.1,e2.2.retr hm⟩
   | frd ps=>
    obtain ⟨vs,⟨oo,e1⟩,e2⟩:=q;exact ⟨vs,⟨oo,by rw [Qh hb]; exact e1⟩,e2.1,e2.2.retr hm⟩
   | obj C ps=>
    obtain ⟨vs,⟨oo,e1⟩,e2⟩:=q;exact ⟨vs,⟨oo,by rw [Qh hb]; exact e1⟩,e2.1,e2.2.retr hm⟩
theorem Rel.put {H:Hp} {ρ:Tk} {st:Q2} (R:Rel H ρ st) {i:Nat} {a:Addr} {ps:List PV} {vs:List V} {o:HO} (hi:ρ.tr[i]?=some a) (e:H a=some o) (r:RepL H ρ ps vs):Rel (upd H a (.lst vs)) ρ (st.set i (.lst ps)):=
 R.putC hi e ⟨vs,J8,r.retr (D2 hi)⟩
theorem Rel.hide {H:Hp} {ρ:Tk} {st:Q2} (R:Rel H ρ st) {p:Addr} {o:HO} (h:H p=none) (nt:∀ xs,o≠.tup xs:=by intro _ z; cases z):Rel (upd H p o) (ρ.hide p) st:=by
 have x:Ext H ρ (upd H p o) ρ:=Ext.add h;have R':=R.add (p:=p) (o:=o) h;refine ⟨R'.len,R'.nd,fun a ha=>?_,fun a ha z=>?_,fun i a c h1 h2=>?_⟩
 ·rcases E3.mp ha with rfl | ha
  ·exact ⟨o,J8,nt⟩
  ·exact R'.hd a ha
 ·rcases E3.mp ha with rfl | ha
  ·exact R.fresh h (.inl z)
  ·exact R.ap a ha z
 ·have q:=R.cell i a c h1 h2;cases c with
  | lst ps=>
   obtain ⟨vs,e1,e2⟩:=q;exact ⟨vs,by rw [Qh (Qk e1 h)]; exact e1,e2.hide h⟩
  | dic ps=>
   obtain ⟨vs,e1,e2⟩:=q;exact ⟨vs,by rw [Qh (Qk e1 h)]; exact e1,e2.1,e2.2.hide h⟩
  | dtp ps=>
   obtain ⟨vs,e1,e2⟩:=q;exact ⟨vs,by rw [Qh (Qk e1 h)]; exact e1,e2.1,e2.2.hide h⟩
  | frd ps=>
   obtain ⟨vs,⟨oo,e1⟩,e2⟩:=q;exact ⟨vs,⟨oo,by rw [Qh (Qk e1 h)]; exact e1⟩,e2.1,e2.2.hide h⟩
  | obj C ps=>
   obtain ⟨vs,⟨oo,e1⟩,e2⟩:=q;exact ⟨vs,⟨oo,by rw [Qh (Qk e1 h)]; exact e1⟩,e2.1,e2.2.hide h⟩
theorem Rel.rehide {H:Hp} {ρ:Tk} {st:Q2} (R:Rel H ρ st) {p:Addr} {o:HO} (h:p∈ρ.hid) (nt:∀ xs,o≠.tup xs:=by intro _ z; cases z):Rel (upd H p o) ρ st:=by
 refine ⟨R.len,R.nd,fun a ha=>?_,R.ap,fun i a c h1 h2=>?_⟩
 ·by_cases e:a=p
  ·exact ⟨o,by rw [e]; exact J8,nt⟩
  ·obtain ⟨u,q,n⟩:=R.hd a ha;exact ⟨u,by rw [Qh e]; exact q,n⟩
 ·have q:=R.cell i a c h1 h2;have ne:a≠p:=fun z=>R.ap p h (by rw [<- z]; exact D2 h1)
  cases c with
  | lst ps=>
   obtain ⟨vs,e1,e2⟩:=q;exact ⟨vs,by rw [Qh ne]; exact e1,e2.rehide h⟩
  | dic ps=>
   obtain ⟨vs,e1,e2⟩:=q;exact ⟨vs,by rw [Qh ne]; exact e1,e2.1,e2.2.rehide h⟩
  | dtp ps=>
   obtain ⟨vs,e1,e2⟩:=q;exact ⟨vs,by rw [Qh ne]; exact e1,e2.1,e2.2.rehide h⟩
  | frd ps=>
   obtain ⟨vs,⟨oo,e1⟩,e2⟩:=q;exact ⟨vs,⟨oo,by rw [Qh ne]; exact e1⟩,e2.1,e2.2.rehide h⟩
  | obj C ps=>
   obtain ⟨vs,⟨oo,e1⟩,e2⟩:=q;exact ⟨vs,⟨oo,by rw [Qh ne]; exact e1⟩,e2.1,e2.2.rehide h⟩
theorem Rel.unhide {H:Hp} {ρ:Tk} {st:Q2} {hs:List Addr} (hh:∀ a,a∈hs->a∈ρ.hid) (R:Rel H ρ st):Rel H ⟨ρ.tr,hs⟩ st:=by
 refine ⟨R.len,R.nd,fun a ha=>R.hd a (hh a ha),fun a ha=>R.ap a (hh a ha),fun i a c h1 h2=>?_⟩;have q:=R.cell i a c h1 h2;cases c with
 | lst ps=>
  obtain ⟨vs,e1,e2⟩:=q;exact ⟨vs,e1,RepL.unhide hh e2⟩
 | dic ps=>
  obtain ⟨vs,e1,e2⟩:=q;exact ⟨vs,e1,e2.1,RepL.unhide hh e2.2⟩
 | dtp ps=>
  obtain ⟨vs,e1,e2⟩:=q;exact ⟨vs,e1,e2.1,RepL.unhide hh e2.2⟩
 | frd ps=>
  obtain ⟨vs,e1,e2⟩:=q;exact ⟨vs,e1,e2.1,RepL.unhide hh e2.2⟩
 | obj C ps=>
  obtain ⟨vs,e1,e2⟩:=q;exact ⟨vs,e1,e2.1,RepL.unhide hh e2.2⟩
theorem Ext.hide {H:Hp} {ρ:Tk} {p:Addr} {o:HO} (h:H p=none):Ext H ρ (upd H p o) (ρ.hide p) where
 pre:=List.prefix_refl _
 hidM:=fun _ h=>D0 _ h
 hidN:=fun a ha=>by
  rcases E3.mp ha with rfl | ha
  ·exact .inr h
  ·exact .inl ha
 keep:=fun a u e _=>by rw [Qh (Qk e h)]; exact e
 new:=fun a e=>.inl e
 old:=fun a u e=>⟨u,by rw [Qh (Qk e h)]; exact e⟩
 frz:=fun a o u e=>by rw [Qh (Qk e h)]; exact e
theorem Ext.put0 {H H1:Hp} {ρ ρ1:Tk} {p:Addr} {o:HO} (x:Ext H ρ H1 ρ1) (h:H p=none):Ext H ρ (upd H1 p o) ρ1 where
 pre:=x.pre
 hidM:=x.hidM
 hidN:=x.hidN
 keep:=fun a u e n=>by rw [Qh (Qk e h)]; exact x.keep a u e n
 new:=x.new
 old:=fun a u e=>by rw [Qh (Qk e h)]; exact x.old a u e
 frz:=fun a o u e=>by rw [Qh (Qk e h)]; exact x.frz a o u e
theorem Ext.unhide {H H1:Hp} {ρ ρ1:Tk} (x:Ext H ρ H1 ρ1):Ext H ρ H1 ⟨ρ1.tr,ρ.hid⟩ where
 pre:=x.pre
 hidM:=fun _ h=>h
 hidN:=fun _ h=>.inl h
 keep:=x.keep
 new:=x.new
 old:=x.old
 frz:=x.frz
def EnvR (H:Hp) (ρ:Tk) (Γ:Gam) (σ:St):Prop:=Γ.length=σ.length/\∀ (i:Nat) (p:PV),Γ[i]?=some (some p)->∃ v,σ[i]?=some (some v)/\Rep H ρ p v
theorem EnvR.ext {H H':Hp} {ρ ρ':Tk} {Γ:Gam} {σ:St} (x:Ext H ρ H' ρ') (h:EnvR H ρ Γ σ):EnvR H' ρ' Γ σ:=
 ⟨h.1,fun i p e=>let ⟨v,a,b⟩:=h.2 i p e; ⟨v,a,b.ext x⟩⟩
theorem EnvR.hide {H:Hp} {ρ:Tk} {Γ:Gam} {σ:St} {a:Addr} {o:HO} (n:H a=none) (h:EnvR H ρ Γ σ):EnvR (upd H a o) (ρ.hide a) Γ σ:=⟨h.1,fun i p e=>let ⟨v,a,b⟩:=h.2 i p e; ⟨v,a,b.hide n⟩⟩
theorem EnvR.rehide {H:Hp} {ρ:Tk} {Γ:Gam} {σ:St} {a:Addr} {o:HO} (n:a∈ρ.hid) (h:EnvR H ρ Γ σ):EnvR (upd H a o) ρ Γ σ:=⟨h.1,fun i p e=>let ⟨v,a,b⟩:=h.2 i p e; ⟨v,a,b.rehide n⟩⟩
theorem EnvR.set {H:Hp} {ρ:Tk} {Γ:Gam} {σ:St} {p:PV} {v:V} (h:EnvR H ρ Γ σ) (r:Rep H ρ p v) (i:Nat):EnvR H ρ (Γ.set i (some p)) (σ.set i (some v)):=by
 refine ⟨by rw [D5,D5]; exact h.1,fun j q e=>?_⟩;rw [List.getElem?_set] at e;rw [List.getElem?_set]
 by_cases hj:i=j
 ·subst hj;simp only [if_true] at e ⊢
  by_cases hl:i < Γ.length
  ·rw [if_pos hl] at e; cases e;rw [if_pos (by rw [<- h.1]; exact hl)];exact ⟨v,rfl,r⟩
  ·rw [if_neg hl] at e; cases e
 ·rw [if_neg hj] at e ⊢;exact h.2 j q e
end
def Res.bind {α β:Type} (r:Res α) (f:α->Q2->Res β):Res β:=match r with
 | .ok a st=>f a st
 | .exc x st=>.exc x st
 | .stuck=>.stuck
def okO {α:Type} (st:Q2):Option α->Res α
 | some a=>.ok a st
 | none=>.stuck
section
variable (X:Cx)
def WE (e:Expr):TE:=fun σ H Q=>∀ (pins:List (Addr × Obj)) (s:Shared),Inv X pins σ H s->wpAny (model X.prog X.w) X.A (eval e X.env) (EP X pins σ Q) X.xe s
def WT (e:Expr):TT:=fun σ H Q=>∀ (pins:List (Addr × Obj)) (s:Shared),Inv X pins σ H s->wpAny (model X.prog X.w) X.A (isTrue e X.env (eval e X.env)) (TP X pins σ Q) X.xe s
def WW (e:Expr):TT:=fun σ H Q=>∀ (wh:Sem Value) (pins:List (Addr × Obj)) (s:Shared),Inv X pins σ H s->wpAny (model X.prog X.w) X.A (isTrue e X.env wh) (TP X pins σ Q) X.xe s
def WA (es:List Expr):TA:=fun σ H Q=>∀ (pos:Pos) (pins:List (Addr × Obj)) (s:Shared),Inv X pins σ H s->wpAny (model X.prog X.w) X.A (spliced (backTo pos (starEach es X.env))) (AP X pins σ Q) X.xe s
def WS (st:Stmt):TS:=fun D σ H=>∀ (pins:List (Addr × Obj)) (s:Shared),Inv X pins σ H s->wpAny (model X.prog X.w) X.A (exec st X.env) (SP X pins D) X.xe s
def WB (st:List Stmt):TS:=fun D σ H=>∀ (pins:List (Addr × Obj)) (s:Shared),Inv X pins σ H s->wpAny (model X.prog X.w) X.A (execs st X.env) (SP X pins D) X.xe s
def WI (tg iter : Expr) : TI := fun σ H R => ∀ (pins : List (Addr × Obj)) (s : Shared), Inv X pins σ H s ->
  wpAny (model X.prog X.w) X.A (eval iter X.env) (fun v s1=>wpAny (model X.prog X.w) X.A (pyIter v) (PIE X pins σ tg R) X.xe s1) X.xe s
def WO (f:Value->Value->Sem Value):R2:=fun x y H Q=>∀ (pins:List (Addr × Obj)) (s:Shared) (σ:St) (v u:Value),Inv X pins σ H s->RelV x v->RelV y u->wpAny (model X.prog X.w) X.A (f v u) (EP X pins σ Q) X.xe s
def WC (f:Value):List V->Hp->VK->Prop:=fun xs H Q=>∀ (pins:List (Addr × Obj)) (s:Shared) (σ:St) (us:List Value),Inv X pins σ H s->Vals xs us->wpAny (model X.prog X.w) X.A (call f us) (EP X pins σ Q) X.xe s
end
section
variable {X:Cx}
theorem Yk {e:Expr}:PE X e (WE X e):=fun pins s _ _ _ I h=>h pins s I
theorem Qcd {e:Expr}:PT X e (WT X e):=fun pins s _ _ _ I h=>h pins s I
theorem Qun {e:Expr}:PW X e (WW X e):=fun wh pins s _ _ _ I h=>h wh pins s I
theorem Q3b {es:List Expr}:PA X es (WA X es):=fun pos pins s _ _ _ I h=>h pos pins s I
theorem Quq {st:Stmt}:PS X st (WS X st):=fun pins s _ _ _ I h=>h pins s I
theorem Q70 {st:List Stmt}:PSs X st (WB X st):=fun pins s _ _ _ I h=>h pins s I
theorem Qrr {tg iter:Expr}:PI X tg iter (WI X tg iter):=fun pins s _ _ _ I h=>h pins s I
theorem Qe6 {f:Value->Value->Sem Value}:OpR X f (WO X f):=fun pins s σ _ _ _ v u _ I r1 r2 h=>h pins s σ v u I r1 r2
theorem Qkt {f:Value}:Ke X f (WC X f):=fun pins s σ _ _ us _ I r h=>h pins s σ us I r
theorem WE.of {e:Expr} {t:TE} {σ:St} {H:Hp} {Q:VK} (h:PE X e t) (q:t σ H Q):WE X e σ H Q:=fun pins s I=>h pins s σ H Q I q
theorem WT.of {e:Expr} {t:TT} {σ:St} {H:Hp} {Q:Bool->Hp->Prop} (h:PT X e t) (q:t σ H Q):WT X e σ H Q:=fun pins s I=>h pins s σ H Q I q
theorem WW.of {e:Expr} {t:TT} {σ:St} {H:Hp} {Q:Bool->Hp->Prop} (h:PW X e t) (q:t σ H Q):WW X e σ H Q:=fun wh pins s I=>h wh pins s σ H Q I q
theorem WA.of {es:List Expr} {t:TA} {σ:St} {H:Hp} {Q:List V->Hp->Prop} (h:PA X es t) (q:t σ H Q):WA X es σ H Q:=fun pos pins s I=>h pos pins s σ H Q I q
theorem WS.of {st:Stmt} {t:TS} {σ:St} {H:Hp} {D:Ends} (h:PS X st t) (q:t D σ H):WS X st D σ H:=fun pins s I=>h pins s σ H D I q
theorem WB.of {st:List Stmt} {t:TS} {σ:St} {H:Hp} {D:Ends} (h:PSs X st t) (q:t D σ H):WB X st D σ H:=fun pins s I=>h pins s σ H D I q
theorem WI.of {tg iter:Expr} {t:TI} {σ:St} {H:Hp} {R:It->Hp->Prop} (h:PI X tg iter t) (q:t σ H R):WI X tg iter σ H R:=fun pins s I=>h pins s σ H R I q
theorem WO.of {f:Value->Value->Sem Value} {r:R2} {x y:V} {H:Hp} {Q:VK} (h:OpR X f r) (q:r x y H Q):WO X f x y H Q:=fun pins s σ v u I r1 r2=>h pins s σ H x y v u Q I r1 r2 q
theorem WC.of {f:Value} {r:List V->Hp->VK->Prop} {xs:List V} {H:Hp} {Q:VK} (h:Ke X f r) (q:r xs H Q):WC X f xs H Q:=fun pins s σ us I r1=>h pins s σ H xs us Q I r1 q
end
def XFs (H:Hp) (ρ:Tk):Option (Str × PV)->Option Addr->Prop
 | none,dv=>dv=none
 | some (n,p),dv=>∃ dx v,dv=some dx/\H dx=some (.xd [(n,v)])/\dx∉ρ/\Rep H ρ p v
def Acc {α:Type} (mg:Str->Option Value) (E:XK) (H:Hp) (ρ:Tk) (P:α->Q2->Hp->Tk->Prop):Res α->Prop
 | .ok a st=>∀ H' ρ',Ext H ρ H' ρ'->Rel H' ρ' st->P a st H' ρ'
 | .exc x st=>∀ C dv H' ρ',mg x.cls=some (.ref C)->Ext H ρ H' ρ'->Rel H' ρ' st->XFs H' ρ' x.fs dv->E (.ref C) dv H'
 | .stuck=>False
section
variable {α β:Type} {mg:Str->Option Value} {E:XK} {H H1:Hp} {ρ ρ1:Tk}
theorem Acc.mono {P P':α->Q2->Hp->Tk->Prop} {r:Res α} (h:Acc mg E H ρ P r) (x:Ext H ρ H1 ρ1) (k:∀ a st H' ρ',P a st H' ρ'->P' a st H' ρ'):Acc mg E H1 ρ1 P' r:=by
 cases r with
 | ok a st=>exact fun H' ρ' x' R'=>k _ _ _ _ (h H' ρ' (x.trans x') R')
 | exc e st=>exact fun C dv H' ρ' m x' R' f=>h C dv H' ρ' m (x.trans x') R' f
 | stuck=>exact h
theorem Acc.later {P:α->Q2->Hp->Tk->Prop} {r:Res α} (h:Acc mg E H ρ P r) (x:Ext H ρ H1 ρ1):Acc mg E H1 ρ1 P r:=h.mono x fun _ _ _ _ p=>p
theorem Acc.bind {P:β->Q2->Hp->Tk->Prop} {r:Res α} {f:α->Q2->Res β} (h:Acc mg E H ρ P (r.bind f)):Acc mg E H ρ (fun a st1 H1 ρ1=>Acc mg E H1 ρ1 P (f a st1)) r:=by
 cases r with
 | ok a st=>exact fun H' ρ' x' R'=>Acc.later (show Acc mg E H ρ P (f a st) from h) x'
 | exc e st=>exact h
 | stuck=>exact h
end
abbrev QV (Q:VK):PV->Q2->Hp->Tk->Prop:=fun p _ H' ρ'=>∀ v,Rep H' ρ' p v->Q v H'
abbrev QL (Q:List V->Hp->Prop):List PV->Q2->Hp->Tk->Prop:=fun ps _ H' ρ'=>∀ vs,RepL H' ρ' ps vs->Q vs H'
abbrev QB (Q:Bool->Hp->Prop):Bool->Q2->Hp->Tk->Prop:=fun b _ H' _=>Q b H'
structure SimE (X:Cx) (E:XK) (e:Expr) (m:ME):Prop where
 run:∀ (Γ:Gam) (σ:St) (H:Hp) (ρ:Tk) (st:Q2) (Q:VK),Rel H ρ st->EnvR H ρ Γ σ->Acc X.mg E H ρ (QV Q) (m Γ st)->WE X e σ H Q
structure SimT (X:Cx) (E:XK) (e:Expr) (m:Gam->Q2->Res Bool):Prop where
 run:∀ (Γ:Gam) (σ:St) (H:Hp) (ρ:Tk) (st:Q2) (Q:Bool->Hp->Prop),Rel H ρ st->EnvR H ρ Γ σ->Acc X.mg E H ρ (QB Q) (m Γ st)->WT X e σ H Q
structure SimW (X:Cx) (E:XK) (e:Expr) (m:Gam->Q2->Res Bool):Prop where
 run:∀ (Γ:Gam) (σ:St) (H:Hp) (ρ:Tk) (st:Q2) (Q:Bool->Hp->Prop),Rel H ρ st->EnvR H ρ Γ σ->Acc X.mg E H ρ (QB Q) (m Γ st)->WW X e σ H Q
structure SimA (X:Cx) (E:XK) (es:List Expr) (m:Gam->Q2->Res (List PV)):Prop where
 run:∀ (Γ:Gam) (σ:St) (H:Hp) (ρ:Tk) (st:Q2) (Q:List V->Hp->Prop),Rel H ρ st->EnvR H ρ Γ σ->Acc X.mg E H ρ (QL Q) (m Γ st)->WA X es σ H Q
abbrev OP:=Q2->PV->PV->Res PV
structure OpS (X:Cx) (E:XK) (f:Value->Value->Sem Value) (o:OP):Prop where
 run:∀ (H:Hp) (ρ:Tk) (st:Q2) (p q:PV) (x y:V) (Q:VK),Rel H ρ st->Rep H ρ p x->Rep H ρ q y->Acc X.mg E H ρ (QV Q) (o st p q)->WO X f x y H Q
abbrev CF:=Q2->List PV->Res PV
structure CallS (X:Cx) (E:XK) (f:Value) (o:CF):Prop where
 run:∀ (H:Hp) (ρ:Tk) (st:Q2) (ps:List PV) (xs:List V) (Q:VK),Rel H ρ st->RepL H ρ ps xs->Acc X.mg E H ρ (QV Q) (o st ps)->WC X f xs H Q
section
variable {X:Cx} {E:XK} {Γ:Gam} {σ:St} {H:Hp} {ρ:Tk} {st:Q2}
theorem SimE.use {e:Expr} {m:ME} (s:SimE X E e m) {P:PV->Q2->Hp->Tk->Prop} {Q:VK} (R:Rel H ρ st) (G:EnvR H ρ Γ σ) (h:Acc X.mg E H ρ P (m Γ st))
  (k:∀ p st1 H1 ρ1 v,Ext H ρ H1 ρ1->Rel H1 ρ1 st1->EnvR H1 ρ1 Γ σ->Rep H1 ρ1 p v->P p st1 H1 ρ1->Q v H1):WE X e σ H Q:=by
 refine s.run Γ σ H ρ st Q R G ?_;cases r:m Γ st with
 | ok p st1=>rw [r] at h; exact fun H' ρ' x' R' v rv=>k p st1 H' ρ' v x' R' (G.ext x') rv (h H' ρ' x' R')
 | exc e st=>rw [r] at h; exact h
 | stuck=>rw [r] at h; exact h
theorem SimE.use' {e:Expr} {m:ME} (s:SimE X E e m) {P:PV->Q2->Hp->Tk->Prop} {Q:VK} (R:Rel H ρ st) (G:EnvR H ρ Γ σ) (h:Acc X.mg E H ρ P (m Γ st))
  (k:∀ p st1 H1 ρ1 v,m Γ st=.ok p st1->Ext H ρ H1 ρ1->Rel H1 ρ1 st1->EnvR H1 ρ1 Γ σ->Rep H1 ρ1 p v->P p st1 H1 ρ1->Q v H1):WE X e σ H Q:=by
 refine s.run Γ σ H ρ st Q R G ?_;cases r:m Γ st with
 | ok p st1=>rw [r] at h; exact fun H' ρ' x' R' v rv=>k p st1 H' ρ' v r x' R' (G.ext x') rv (h H' ρ' x' R')
 | exc e st=>rw [r] at h; exact h
 | stuck=>rw [r] at h; exact h
theorem SimA.use' {es:List Expr} {m:Gam->Q2->Res (List PV)} (s:SimA X E es m) {P:List PV->Q2->Hp->Tk->Prop} {Q:List V->Hp->Prop} (R:Rel H ρ st) (G:EnvR H ρ Γ σ) (h:Acc X.mg E H ρ P (m Γ st))
  (k:∀ ps st1 H1 ρ1 vs,m Γ st=.ok ps st1->Ext H ρ H1 ρ1->Rel H1 ρ1 st1->EnvR H1 ρ1 Γ σ->RepL H1 ρ1 ps vs->P ps st1 H1 ρ1->Q vs H1):WA X es σ H Q:=by
 refine s.run Γ σ H ρ st Q R G ?_;cases r:m Γ st with
 | ok p st1=>rw [r] at h; exact fun H' ρ' x' R' v rv=>k p st1 H' ρ' v r x' R' (G.ext x') rv (h H' ρ' x' R')
 | exc e st=>rw [r] at h; exact h
 | stuck=>rw [r] at h; exact h
theorem SimT.use {e:Expr} {m:Gam->Q2->Res Bool} (s:SimT X E e m) {P:Bool->Q2->Hp->Tk->Prop} {Q:Bool->Hp->Prop} (R:Rel H ρ st) (G:EnvR H ρ Γ σ) (h:Acc X.mg E H ρ P (m Γ st))
  (k:∀ p st1 H1 ρ1,Ext H ρ H1 ρ1->Rel H1 ρ1 st1->EnvR H1 ρ1 Γ σ->P p st1 H1 ρ1->Q p H1):WT X e σ H Q:=by
 refine s.run Γ σ H ρ st Q R G ?_;cases r:m Γ st with
 | ok p st1=>rw [r] at h; exact fun H' ρ' x' R'=>k p st1 H' ρ' x' R' (G.ext x') (h H' ρ' x' R')
 | exc e st=>rw [r] at h; exact h
 | stuck=>rw [r] at h; exact h
theorem SimT.use' {e:Expr} {m:Gam->Q2->Res Bool} (s:SimT X E e m) {P:Bool->Q2->Hp->Tk->Prop} {Q:Bool->Hp->Prop} (R:Rel H ρ st) (G:EnvR H ρ Γ σ) (h:Acc X.mg E H ρ P (m Γ st))
  (k:∀ p st1 H1 ρ1,m Γ st=.ok p st1->Ext H ρ H1 ρ1->Rel H1 ρ1 st1->EnvR H1 ρ1 Γ σ->P p st1 H1 ρ1->Q p H1):WT X e σ H Q:=by
 refine s.run Γ σ H ρ st Q R G ?_;cases r:m Γ st with
 | ok p st1=>rw [r] at h; exact fun H' ρ' x' R'=>k p st1 H' ρ' r x' R' (G.ext x') (h H' ρ' x' R')
 | exc e st=>rw [r] at h; exact h
 | stuck=>rw [r] at h; exact h
theorem SimW.use {e:Expr} {m:Gam->Q2->Res Bool} (s:SimW X E e m) {P:Bool->Q2->Hp->Tk->Prop} {Q:Bool->Hp->Prop} (R:Rel H ρ st) (G:EnvR H ρ Γ σ) (h:Acc X.mg E H ρ P (m Γ st))
  (k:∀ p st1 H1 ρ1,Ext H ρ H1 ρ1->Rel H1 ρ1 st1->EnvR H1 ρ1 Γ σ->P p st1 H1 ρ1->Q p H1):WW X e σ H Q:=by
 refine s.run Γ σ H ρ st Q R G ?_;cases r:m Γ st with
 | ok p st1=>rw [r] at h; exact fun H' ρ' x' R'=>k p st1 H' ρ' x' R' (G.ext x') (h H' ρ' x' R')
 | exc e st=>rw [r] at h; exact h
 | stuck=>rw [r] at h; exact h
theorem SimA.use {es:List Expr} {m:Gam->Q2->Res (List PV)} (s:SimA X E es m) {P:List PV->Q2->Hp->Tk->Prop} {Q:List V->Hp->Prop} (R:Rel H ρ st) (G:EnvR H ρ Γ σ) (h:Acc X.mg E H ρ P (m Γ st))
  (k:∀ ps st1 H1 ρ1 vs,Ext H ρ H1 ρ1->Rel H1 ρ1 st1->EnvR H1 ρ1 Γ σ->RepL H1 ρ1 ps vs->P ps st1 H1 ρ1->Q vs H1):WA X es σ H Q:=by
 refine s.run Γ σ H ρ st Q R G ?_;cases r:m Γ st with
 | ok p st1=>rw [r] at h; exact fun H' ρ' x' R' v rv=>k p st1 H' ρ' v x' R' (G.ext x') rv (h H' ρ' x' R')
 | exc e st=>rw [r] at h; exact h
 | stuck=>rw [r] at h; exact h
theorem OpS.use {f:Value->Value->Sem Value} {o:OP} (s:OpS X E f o) {P:PV->Q2->Hp->Tk->Prop} {Q:VK} {p q:PV} {x y:V} (R:Rel H ρ st) (rp:Rep H ρ p x) (rq:Rep H ρ q y) (h:Acc X.mg E H ρ P (o st p q))
  (k:∀ p st1 H1 ρ1 v,Ext H ρ H1 ρ1->Rel H1 ρ1 st1->Rep H1 ρ1 p v->P p st1 H1 ρ1->Q v H1):WO X f x y H Q:=by
 refine s.run H ρ st p q x y Q R rp rq ?_;cases r:o st p q with
 | ok p st1=>rw [r] at h; exact fun H' ρ' x' R' v rv=>k p st1 H' ρ' v x' R' rv (h H' ρ' x' R')
 | exc e st=>rw [r] at h; exact h
 | stuck=>rw [r] at h; exact h
end
end Sm
namespace Sm
open PySem PySem.Spec L2 SeqAt
mutual
def peq:PV->PV->Bool
 | .non,.non=>true
 | .bl a,.bl b=>a == b
 | .bl a,.int b=>(if a then 1 else 0) == b
 | .int a,.bl b=>a == (if b then 1 else 0)
 | .int a,.int b=>a == b
 | .str a,.str b=>a == b
 | .tup xs,.tup ys=>Kq xs ys
 | .lst xs,.lst ys=>Kq xs ys
 | .lst xs,.fro ys=>Kq xs ys
 | .fro xs,.lst ys=>Kq xs ys
 | .fro xs,.fro ys=>Kq xs ys
 | _,_=>false
def Kq:List PV->List PV->Bool
 | [],[]=>true
 | x :: xs,y :: ys=>peq x y && Kq xs ys
 | _,_=>false
end
def Zi:Nat->PV->Bool
 | _,.ref _=>false
 | _,.dic=>false
 | 0,.tup _=>false
 | 0,.lst _=>false
 | 0,.fro _=>false
 | n + 1,.tup xs=>xs.all (Zi n)
 | n + 1,.lst xs=>xs.all (Zi n)
 | n + 1,.fro xs=>xs.all (Zi n)
 | _,_=>true
theorem Q72:∀ {xs ys:List PV},xs.length≠ys.length->Kq xs ys=false
 | [],[],h=>absurd rfl h
 | [],_ :: _,_=>by simp [Kq]
 | _ :: _,[],_=>by simp [Kq]
 | x :: xs,y :: ys,h=>by
  rw [Kq,Q72 (xs:=xs) (ys:=ys) fun e=>h (by simp [e]),Bool.and_false]
theorem Q73:∀ {xs ys:List PV},xs.length=ys.length->Kq xs ys=(List.range xs.length).all fun j=>peq (xs.getD j .non) (ys.getD j .non)
 | [],[],_=>by simp [Kq]
 | [],_ :: _,h=>by simp at h
 | _ :: _,[],h=>by simp at h
 | x :: xs,y :: ys,h=>by
  rw [Kq,Q73 (xs:=xs) (ys:=ys) (by simpa using h),D8,List.range_succ_eq_map,List.all_cons,List.all_map];rfl
section
variable {X:Cx} {pins:List (Addr × Obj)} {σ:St} {H:Hp} {s:Shared} {ρ:Tk}
mutual
theorem Qc9:∀ {p q:PV} {x:V} {n:Nat},Zi n p=true->Zi n q=true->Rep H ρ p x->Rep H ρ q x->peq p q=true
 | .non,q,x,n,_,gq,h1,h2=>by
  cases h1;cases q <;> first | rfl | (cases n <;> cases gq; done) | (cases h2; done) | (obtain ⟨_,_,e,_⟩:=h2; cases e) | (obtain ⟨_,_,e⟩:=h2; cases e)
 | .bl b,q,x,n,_,gq,h1,h2=>by
  cases h1;cases q <;> first | (cases n <;> cases gq; done) | (cases h2; simp [peq]; done) | (obtain ⟨_,_,e,_⟩:=h2; done) | (obtain ⟨_,_,e,_⟩:=h2; cases e; done) | (obtain ⟨_,_,e⟩:=h2; cases e)
 | .int b,q,x,n,_,gq,h1,h2=>by
  cases h1;cases q <;> first | (cases n <;> cases gq; done) | (cases h2; simp [peq]; done) | (obtain ⟨_,_,e,_⟩:=h2; done) | (obtain ⟨_,_,e,_⟩:=h2; cases e; done) | (obtain ⟨_,_,e⟩:=h2; cases e)
 | .str b,q,x,n,_,gq,h1,h2=>by
  cases h1;cases q <;> first | (cases n <;> cases gq; done) | (cases h2; simp [peq]; done) | (obtain ⟨_,_,e,_⟩:=h2; done) | (obtain ⟨_,_,e,_⟩:=h2; cases e; done) | (obtain ⟨_,_,e⟩:=h2; cases e)
 | .tup ps,q,x,0,gp,_,_,_=>by cases gp
 | .tup ps,q,x,n + 1,gp,gq,⟨a,vs,e,ha,_,r⟩,h2=>by
  subst e;cases q with
  | tup qs=>
   obtain ⟨b,us,e,hb,_,r2⟩:=h2;cases e;rw [ha] at hb; cases hb;rw [peq];exact Xs gp gq r r2
  | lst qs=>obtain ⟨b,us,e,hb,_⟩:=h2; cases e; rw [ha] at hb; cases hb
  | fro qs=>obtain ⟨b,us,e,hb,_⟩:=h2; cases e; rcases hb with hb | ⟨o,hb⟩ <;> (rw [ha] at hb; cases hb)
  | ref i=>cases gq
  | dic=>cases gq
  | _=>cases h2
 | .lst ps,q,x,0,gp,_,_,_=>by cases gp
 | .lst ps,q,x,n + 1,gp,gq,⟨a,vs,e,ha,_,r⟩,h2=>by
  subst e;cases q with
  | lst qs=>
   obtain ⟨b,us,e,hb,_,r2⟩:=h2;cases e;rw [ha] at hb; cases hb;rw [peq];exact Xs gp gq r r2
  | tup qs=>obtain ⟨b,us,e,hb,_⟩:=h2; cases e; rw [ha] at hb; cases hb
  | fro qs=>
   obtain ⟨b,us,e,hb,_,r2⟩:=h2;cases e;rcases hb with hb | ⟨o,hb⟩
   ·rw [ha] at hb; cases hb;rw [peq];exact Xs gp gq r r2
   ·rw [ha] at hb; cases hb
  | ref i=>cases gq
  | dic=>cases gq
  | _=>cases h2
 | .fro ps,q,x,0,gp,_,_,_=>by cases gp
 | .fro ps,q,x,n + 1,gp,gq,⟨a,vs,e,ha,_,r⟩,h2=>by
  subst e;cases q with
  | lst qs=>
   obtain ⟨b,us,e,hb,_,r2⟩:=h2;cases e;rcases ha with ha | ⟨o,ha⟩
   ·rw [ha] at hb; cases hb;rw [peq];exact Xs gp gq r r2
   ·rw [ha] at hb; cases hb
  | tup qs=>obtain ⟨b,us,e,hb,_⟩:=h2; cases e; rcases ha with ha | ⟨o,ha⟩ <;> (rw [ha] at hb; cases hb)
  | fro qs=>
   obtain ⟨b,us,e,hb,_,r2⟩:=h2;cases e;have:vs=us:=by
    rcases ha with ha | ⟨o,ha⟩ <;> rcases hb with hb | ⟨o',hb⟩ <;> (rw [ha] at hb; cases hb) <;> rfl
   subst this;rw [peq];exact Xs gp gq r r2
  | ref i=>cases gq
  | dic=>cases gq
  | _=>cases h2
 | .ref i,_,_,n,gp,_,_,_=>by cases n <;> cases gp
 | .dic,_,_,n,gp,_,_,_=>by cases n <;> cases gp
theorem Xs:∀ {ps qs:List PV} {vs:List V} {n:Nat},ps.all (Zi n)=true->qs.all (Zi n)=true->RepL H ρ ps vs->RepL H ρ qs vs->Kq ps qs=true
 | [],qs,vs,n,_,_,h1,h2=>by
  cases h1;cases qs with
  | nil=>rfl
  | cons q qs=>obtain ⟨_,_,e,_⟩:=h2; cases e
 | p :: ps,qs,vs,n,g1,g2,⟨v,r,e,h1,h1'⟩,h2=>by
  subst e;cases qs with
  | nil=>cases h2
  | cons q qs=>
   obtain ⟨_,_,e,h2,h2'⟩:=h2;cases e;rw [List.all_cons,F6] at g1 g2;rw [Kq,Qc9 g1.1 g2.1 h1 h2,Xs g1.2 g2.2 h1' h2']; rfl
end
inductive Kd (H:Hp) (ρ:Tk) (s:Shared):PV->Value->Prop where
 | non:Kd H ρ s .non .none
 | bl (b):Kd H ρ s (.bl b) (.bool b)
 | int (i t):Kd H ρ s (.int i) (.int i t)
 | str (x t):Kd H ρ s (.str x) (.str x t)
 | tup (ps a) (vs:List V) (its:List Value):H a=some (.tup vs)->RepL H ρ ps vs->Vals vs its->s.heap.IsTuple a its.toArray->Kd H ρ s (.tup ps) (.ref a)
 | lst (p ps a) (vs:List V) (its:List Value):(p=.lst ps\/p=.fro ps)->RepL H ρ ps vs->Vals vs its->s.heap.IsList a its.toArray->Kd H ρ s p (.ref a)
theorem Qfr {p:PV} {x:V} {u:Value} {n:Nat} (I:Inv X pins σ H s) (g:Zi n p=true) (r:Rep H ρ p x) (ru:RelV x u):Kd H ρ s p u:=by
 cases p with
 | non=>cases r; cases ru; exact .non
 | bl b=>cases r; cases ru; exact .bl b
 | int i=>cases r; obtain ⟨t,rfl⟩:=ru; exact .int i t
 | str i=>cases r; obtain ⟨t,rfl⟩:=ru; exact .str i t
 | tup ps=>
  obtain ⟨a,vs,rfl,ha,_,rr⟩:=r;cases ru;obtain ⟨its,v1,p1,_⟩:=I.tuple (SqT.of (K:=X.K) ha);exact .tup ps a vs its ha rr v1 p1
 | lst ps=>
  obtain ⟨a,vs,rfl,ha,_,rr⟩:=r;cases ru;obtain ⟨its,v1,p1,_⟩:=I.list (SqL.of (K:=X.K) ha);exact .lst _ ps a vs its (.inl rfl) rr v1 p1.isList
 | fro ps=>
  obtain ⟨a,vs,rfl,ha,_,rr⟩:=r;cases ru;obtain ⟨its,v1,p1,_⟩:=I.list (show SqL X.K H a vs from .inl ha);exact .lst _ ps a vs its (.inr rfl) rr v1 p1.isList
 | ref i=>cases n <;> cases g
 | dic=>cases n <;> cases g
theorem Q66 {ps:List PV} {vs:List V} {its:List Value} (r:RepL H ρ ps vs) (v:Vals vs its) {j:Nat} (h:j < its.length):∃ x,Rep H ρ (ps.getD j .non) x/\RelV x its[j]:=by
 have l1:=r.length;have l2:=v.length;have hj:j < ps.length:=by omega
 obtain ⟨x,e1,e2⟩:=r.get (O4 hj);obtain ⟨u,e3,e4⟩:=v.get e1;rw [O4 h] at e3; cases e3;refine ⟨x,?_,e4⟩;rw [List.getD,O4 hj];exact e2
theorem Q1t {ps:List PV} {n:Nat} (g:ps.all (Zi n)=true) (j:Nat) (hj:j < ps.length):Zi n (ps.getD j .non)=true:=by
 rw [List.getD,O4 hj];exact (F7.mp g) _ (List.getElem_mem hj)
theorem Qe5 {ps qs:List PV}:((List.range (min ps.length qs.length)).all (fun j=>peq (ps.getD j .non) (qs.getD j .non)) && ps.length == qs.length)=Kq ps qs:=by
 by_cases e:ps.length=qs.length
 ·rw [Q73 e,<- e,Nat.min_self,beq_self_eq_true,Bool.and_true]
 ·rw [Q72 e,beq_eq_false_iff_ne.mpr e,Bool.and_false]
theorem Qfw:∀ (n:Nat) {A:Around} {p q:PV} {x y:V} {u v:Value},Inv X pins σ H s->Zi n p=true->Zi n q=true->A.units + n < cLine->Rep H ρ p x->RelV x u->Rep H ρ q y->RelV y v ->
  EqAt A s u v (peq p q)/\RcAt A s u v (peq p q)/\RcNeAt A s u v (!peq p q):=by
 intro n
 induction n with
 | zero=>
  intro A p q x y u v I gp gq hu rp ru rq rv;have k1:=Qfr I gp rp ru;have k2:=Qfr I gq rq rv;have hu:A.units < cLine:=by omega
  cases k1 with
  | tup=>cases gp
  | lst p ps a vs its h=>rcases h with rfl | rfl <;> cases gp
  | non=>cases k2 with
   | tup=>cases gq
   | lst p ps a vs its h=>rcases h with rfl | rfl <;> cases gq
   | non=>exact ⟨EqAt.same _,RcAt.none_none,RcNeAt.none_none⟩
   | bl b=>exact ⟨EqAt.none_bool _,RcAt.none_bool _,RcNeAt.none_bool _⟩
   | int i t=>exact ⟨EqAt.none_int _ _,RcAt.none_int _ _,RcNeAt.none_int _ _⟩
   | str i t=>exact ⟨EqAt.none_str _ _,RcAt.none_str _ _,RcNeAt.none_str _ _⟩
  | bl a=>cases k2 with
   | tup=>cases gq
   | lst p ps a vs its h=>rcases h with rfl | rfl <;> cases gq
   | non=>exact ⟨EqAt.bool_none _,RcAt.bool_none _,RcNeAt.bool_none _⟩
   | bl b=>exact ⟨EqAt.bool_bool _ _,RcAt.bool_bool _ _,RcNeAt.bool_bool _ _⟩
   | int i t=>exact ⟨EqAt.bool_int _ _ _,RcAt.bool_int _ _ _,RcNeAt.bool_int _ _ _⟩
   | str i t=>exact ⟨EqAt.bool_str _ _ _,RcAt.bool_str _ _ _,RcNeAt.bool_str _ _ _⟩
  | int a at'=>cases k2 with
   | tup=>cases gq
   | lst p ps a vs its h=>rcases h with rfl | rfl <;> cases gq
   | non=>exact ⟨EqAt.int_none _ _,RcAt.int_none _ _,RcNeAt.int_none _ _⟩
   | bl b=>exact ⟨EqAt.int_bool _ _ _,RcAt.int_bool _ _ _,RcNeAt.int_bool _ _ _⟩
   | int i t=>exact ⟨EqAt.int_int _ _ _ _,RcAt.int_int _ _ _ _,RcNeAt.int_int _ _ _ _⟩
   | str i t=>exact ⟨EqAt.int_str _ _ _ _,RcAt.int_str _ _ _ _,RcNeAt.int_str _ _ _ _⟩
  | str a at'=>cases k2 with
   | tup=>cases gq
   | lst p ps a vs its h=>rcases h with rfl | rfl <;> cases gq
   | non=>exact ⟨EqAt.str_none _ _,RcAt.str_none _ _,RcNeAt.str_none _ _⟩
   | bl b=>exact ⟨EqAt.str_bool _ _ _,RcAt.str_bool _ _ _,RcNeAt.str_bool _ _ _⟩
   | int i t=>exact ⟨EqAt.str_int _ _ _ _,RcAt.str_int _ _ _ _,RcNeAt.str_int _ _ _ _⟩
   | str i t=>exact ⟨EqAt.str_str _ _ _ _,RcAt.str_str _ _ _ _,RcNeAt.str_str _ _ _ _⟩
 | succ n ih=>
  intro A p q x y u v I gp gq hu rp ru rq rv;have k1:=Qfr I gp rp ru;have k2:=Qfr I gq rq rv;have hu0:A.units < cLine:=by omega
  have hin:A.in1.units + n < cLine:=by show A.units + 1 + n < cLine; omega
  cases k1 with
  | non=>cases k2 with
   | non=>exact ⟨EqAt.same _,RcAt.none_none,RcNeAt.none_none⟩
   | bl b=>exact ⟨EqAt.none_bool _,RcAt.none_bool _,RcNeAt.none_bool _⟩
   | int i t=>exact ⟨EqAt.none_int _ _,RcAt.none_int _ _,RcNeAt.none_int _ _⟩
   | str i t=>exact ⟨EqAt.none_str _ _,RcAt.none_str _ _,RcNeAt.none_str _ _⟩
   | tup ps a vs its ha r v1 p1=>exact ⟨EqAt.none_tuple p1 hu0,RcAt.none_tuple p1 hu0,RcNeAt.none_tuple p1 hu0⟩
   | lst p ps a vs its h r v1 p1=>rcases h with rfl | rfl <;> exact ⟨EqAt.none_list p1 hu0,RcAt.none_list p1 hu0,RcNeAt.none_list p1 hu0⟩
  | bl a=>cases k2 with
   | non=>exact ⟨EqAt.bool_none _,RcAt.bool_none _,RcNeAt.bool_none _⟩
   | bl b=>exact ⟨EqAt.bool_bool _ _,RcAt.bool_bool _ _,RcNeAt.bool_bool _ _⟩
   | int i t=>exact ⟨EqAt.bool_int _ _ _,RcAt.bool_int _ _ _,RcNeAt.bool_int _ _ _⟩
   | str i t=>exact ⟨EqAt.bool_str _ _ _,RcAt.bool_str _ _ _,RcNeAt.bool_str _ _ _⟩
   | tup ps a vs its ha r v1 p1=>exact ⟨EqAt.bool_tuple _ p1 hu0,RcAt.bool_tuple _ p1 hu0,RcNeAt.bool_tuple _ p1 hu0⟩
   | lst p ps a vs its h r v1 p1=>rcases h with rfl | rfl <;> exact ⟨EqAt.bool_list _ p1 hu0,RcAt.bool_list _ p1 hu0,RcNeAt.bool_list _ p1 hu0⟩
  | int a at'=>cases k2 with
   | non=>exact ⟨EqAt.int_none _ _,RcAt.int_none _ _,RcNeAt.int_none _ _⟩
   | bl b=>exact ⟨EqAt.int_bool _ _ _,RcAt.int_bool _ _ _,RcNeAt.int_bool _ _ _⟩
   | int i t=>exact ⟨EqAt.int_int _ _ _ _,RcAt.int_int _ _ _ _,RcNeAt.int_int _ _ _ _⟩
   | str i t=>exact ⟨EqAt.int_str _ _ _ _,RcAt.int_str _ _ _ _,RcNeAt.int_str _ _ _ _⟩
   | tup ps a vs its ha r v1 p1=>exact ⟨EqAt.int_tuple _ _ p1 hu0,RcAt.int_tuple _ _ p1 hu0,RcNeAt.int_tuple _ _ p1 hu0⟩
   | lst p ps a vs its h r v1 p1=>rcases h with rfl | rfl <;> exact ⟨EqAt.int_list _ _ p1 hu0,RcAt.int_list _ _ p1 hu0,RcNeAt.int_list _ _ p1 hu0⟩
  | str a at'=>cases k2 with
   | non=>exact ⟨EqAt.str_none _ _,RcAt.str_none _ _,RcNeAt.str_none _ _⟩
   | bl b=>exact ⟨EqAt.str_bool _ _ _,RcAt.str_bool _ _ _,RcNeAt.str_bool _ _ _⟩
   | int i t=>exact ⟨EqAt.str_int _ _ _ _,RcAt.str_int _ _ _ _,RcNeAt.str_int _ _ _ _⟩
   | str i t=>exact ⟨EqAt.str_str _ _ _ _,RcAt.str_str _ _ _ _,RcNeAt.str_str _ _ _ _⟩
   | tup ps a vs its ha r v1 p1=>exact ⟨EqAt.str_tuple _ _ p1 hu0,RcAt.str_tuple _ _ p1 hu0,RcNeAt.str_tuple _ _ p1 hu0⟩
   | lst p ps a vs its h r v1 p1=>rcases h with rfl | rfl <;> exact ⟨EqAt.str_list _ _ p1 hu0,RcAt.str_list _ _ p1 hu0,RcNeAt.str_list _ _ p1 hu0⟩
  | tup ps a vs its ha r v1 p1=>cases k2 with
   | non=>exact ⟨EqAt.tuple_none p1 hu0,RcAt.tuple_none p1 hu0,RcNeAt.tuple_none p1 hu0⟩
   | bl b=>exact ⟨EqAt.tuple_bool _ p1 hu0,RcAt.tuple_bool _ p1 hu0,RcNeAt.tuple_bool _ p1 hu0⟩
   | int i t=>exact ⟨EqAt.tuple_int _ _ p1 hu0,RcAt.tuple_int _ _ p1 hu0,RcNeAt.tuple_int _ _ p1 hu0⟩
   | str i t=>exact ⟨EqAt.tuple_str _ _ p1 hu0,RcAt.tuple_str _ _ p1 hu0,RcNeAt.tuple_str _ _ p1 hu0⟩
   | tup qs b us its2 hb r2 v2 p2=>
    have l1:its.toArray.size=ps.length:=by rw [O3,<- v1.length,r.length]
    have l2:its2.toArray.size=qs.length:=by rw [O3,<- v2.length,r2.length]
    have he:∀ j (h1:j < its.toArray.size) (h2:j < its2.toArray.size),EqAt A.in1 s its.toArray[j] its2.toArray[j] (peq (ps.getD j .non) (qs.getD j .non)):=fun j h1 h2=>by
     obtain ⟨x1,a1,b1⟩:=Q66 r v1 (j:=j) (by simpa using h1);obtain ⟨x2,a2,b2⟩:=Q66 r2 v2 (j:=j) (by simpa using h2);exact (ih I (Q1t gp j (by omega)) (Q1t gq j (by omega)) hin a1 b1 a2 b2).1
    have rc:=RcAt.tuples p1 p2 hu0 he;have rn:=RcNeAt.tuples p1 p2 hu0 he;rw [l1,l2,Qe5] at rc rn;refine ⟨?_,rc,rn⟩
    by_cases e:a=b
    ·subst e;have:Kq ps qs=true:=by
      rw [ha] at hb; cases hb;exact Xs gp gq r r2
     show EqAt A s _ _ (Kq ps qs);rw [this];exact EqAt.same _
    ·exact EqAt.of_refs e rc
   | lst q qs b us its2 h r2 v2 p2=>rcases h with rfl | rfl <;> exact ⟨EqAt.tuple_list p1 p2 hu0,RcAt.tuple_list p1 p2 hu0,RcNeAt.tuple_list p1 p2 hu0⟩
  | lst p ps a vs its h r v1 p1=>cases k2 with
   | non=>rcases h with rfl | rfl <;> exact ⟨EqAt.list_none p1 hu0,RcAt.list_none p1 hu0,RcNeAt.list_none p1 hu0⟩
   | bl b=>rcases h with rfl | rfl <;> exact ⟨EqAt.list_bool _ p1 hu0,RcAt.list_bool _ p1 hu0,RcNeAt.list_bool _ p1 hu0⟩
   | int i t=>rcases h with rfl | rfl <;> exact ⟨EqAt.list_int _ _ p1 hu0,RcAt.list_int _ _ p1 hu0,RcNeAt.list_int _ _ p1 hu0⟩
   | str i t=>rcases h with rfl | rfl <;> exact ⟨EqAt.list_str _ _ p1 hu0,RcAt.list_str _ _ p1 hu0,RcNeAt.list_str _ _ p1 hu0⟩
   | tup qs b us its2 hb r2 v2 p2=>rcases h with rfl | rfl <;> exact ⟨EqAt.list_tuple p1 p2 hu0,RcAt.list_tuple p1 p2 hu0,RcNeAt.list_tuple p1 p2 hu0⟩
   | lst q qs b us its2 h2 r2 v2 p2=>
    have l1:its.toArray.size=ps.length:=by rw [O3,<- v1.length,r.length]
    have l2:its2.toArray.size=qs.length:=by rw [O3,<- v2.length,r2.length]
    have gp':ps.all (Zi n)=true:=by rcases h with rfl | rfl <;> exact gp
    have gq':qs.all (Zi n)=true:=by rcases h2 with rfl | rfl <;> exact gq
    have ep:peq p q=Kq ps qs:=by rcases h with rfl | rfl <;> rcases h2 with rfl | rfl <;> rfl
    have he:∀ j (h1:j < its.toArray.size) (h2:j < its2.toArray.size),EqAt A.in1 s its.toArray[j] its2.toArray[j] (peq (ps.getD j .non) (qs.getD j .non)):=fun j h1 h2=>by
     obtain ⟨x1,a1,b1⟩:=Q66 r v1 (j:=j) (by simpa using h1);obtain ⟨x2,a2,b2⟩:=Q66 r2 v2 (j:=j) (by simpa using h2);exact (ih I (Q1t gp' j (by omega)) (Q1t gq' j (by omega)) hin a1 b1 a2 b2).1
    rw [ep];have rcn:RcAt A s (.ref a) (.ref b) (Kq ps qs)/\RcNeAt A s (.ref a) (.ref b) (!Kq ps qs):=by
     by_cases e:ps.length=qs.length
     ·have rc:=RcAt.lists p1 p2 (by rw [l1,l2,e]) hu0 he;have rn:=RcNeAt.lists p1 p2 (by rw [l1,l2,e]) hu0 he;rw [l1,<- Q73 e] at rc rn;exact ⟨rc,rn⟩
     ·have e':(its.toArray.size != its2.toArray.size)=true:=by rw [l1,l2]; simpa using e
      rw [Q72 e];exact ⟨RcAt.lists_lengths p1 p2 e' hu0,RcNeAt.lists_lengths p1 p2 e' hu0⟩
    refine ⟨?_,rcn.1,rcn.2⟩
    by_cases e:a=b
    ·subst e;have eq1:peq p q=true:=by
      have rp':=rp;have rq':=rq;have xa:x=.ref a:=by
       rcases h with rfl | rfl <;> (obtain ⟨b',_,rfl,_⟩:=rp; cases ru; rfl)
      have ya:y=.ref a:=by
       rcases h2 with rfl | rfl <;> (obtain ⟨b',_,rfl,_⟩:=rq; cases rv; rfl)
      subst xa; subst ya;exact Qc9 gp gq rp rq
     rw [<- ep,eq1];exact EqAt.same _
    ·exact EqAt.of_refs e rcn.1
end
end Sm
namespace Sm
open PySem PySem.Spec L2
def lim:Nat:=1000000
theorem Qem:lim<=sizeLine:=by decide
theorem Xy {n:Nat} (h:n<=lim):n<=sizeLine:=F1 h Qem
def Q17 (st:Q2):PV->Option (List PV)
 | .lst xs=>some xs
 | .ref i=>match st[i]? with
  | some (.lst xs)=>some xs
  | _=>none
 | _=>none
def zm (st:Q2):PV->Option (List PV)
 | .fro xs=>some xs
 | p=>Q17 st p
def Uv (st:Q2):PV->Option (List PV)
 | .tup xs=>some xs
 | p=>zm st p
def der (st:Q2):PV->PV
 | .ref i=>match st[i]? with
  | some (.lst xs)=>.lst xs
  | _=>.ref i
 | p=>p
section
variable {H:Hp} {ρ:Tk} {st:Q2} {p:PV} {v:V} {xs:List PV}
theorem Q7u (R:Rel H ρ st) (r:Rep H ρ p v) (e:Q17 st p=some xs):∃ a vs,v=.ref a/\H a=some (.lst vs)/\RepL H ρ xs vs:=by
 cases p with
 | lst ys=>
  obtain ⟨a,vs,e1,e2,_,e3⟩:=r;cases e;exact ⟨a,vs,e1,e2,e3⟩
 | ref i=>
  obtain ⟨a,e1,e2⟩:=r;simp only [Q17] at e
  split at e
  ·rename_i ys hs;cases e;obtain ⟨b,vs,f1,f2,f3⟩:=R.lst hs;rw [e1] at f1; cases f1;exact ⟨a,vs,e2,f2,f3⟩
  ·cases e
 | _=>cases e
theorem Q3r (R:Rel H ρ st) (r:Rep H ρ p v) (e:zm st p=some xs):∃ a vs,v=.ref a/\Rd H a (.lst vs)/\RepL H ρ xs vs:=by
 cases p with
 | fro ys=>
  obtain ⟨a,vs,e1,e2,_,e3⟩:=r;cases e;exact ⟨a,vs,e1,e2,e3⟩
 | _=>
  obtain ⟨a,vs,e1,e2,e3⟩:=Q7u R r e;exact ⟨a,vs,e1,.inl e2,e3⟩
theorem Q45 {K:PySem.W.Frag} (R:Rel H ρ st) (r:Rep H ρ p v) (e:Uv st p=some xs):∃ (t:Bool) (a:Addr) (vs:List V),v=.ref a/\SqK K t H a vs/\RepL H ρ xs vs:=by
 cases p with
 | tup ys=>
  obtain ⟨a,vs,e1,e2,_,e3⟩:=r;cases e;exact ⟨true,a,vs,e1,show SqT K H a vs from SqT.of e2,e3⟩
 | _=>
  obtain ⟨a,vs,e1,e2,e3⟩:=Q3r R r e;exact ⟨false,a,vs,e1,show SqL K H a vs from .inl e2,e3⟩
theorem Qij {K:PySem.W.Frag} {t:Bool} {a:Addr} {vs:List V} (h:SqK K t H a vs):SqL K H a vs\/SqT K H a vs:=by
 cases t with
 | true=>exact .inr h
 | false=>exact .inl h
mutual
theorem Qf7:∀ {n:Nat} {q:PV} {u:V},Zi n q=true->Rep H ρ q u->Rep H Tk.nil q u
 | _,.non,_,_,r=>r
 | _,.bl _,_,_,r=>r
 | _,.int _,_,_,r=>r
 | _,.str _,_,_,r=>r
 | 0,.tup _,_,g,_=>by cases g
 | 0,.lst _,_,g,_=>by cases g
 | 0,.fro _,_,g,_=>by cases g
 | n + 1,.tup _,_,g,⟨a,vs,e,h,_,r⟩=>⟨a,vs,e,h,Tk.not_nil _,j8 g r⟩
 | n + 1,.lst _,_,g,⟨a,vs,e,h,_,r⟩=>⟨a,vs,e,h,Tk.not_nil _,j8 g r⟩
 | n + 1,.fro _,_,g,⟨a,vs,e,h,_,r⟩=>⟨a,vs,e,h,Tk.not_nil _,j8 g r⟩
 | 0,.ref _,_,g,_=>by cases g
 | _ + 1,.ref _,_,g,_=>by cases g
 | 0,.dic,_,g,_=>by cases g
 | _ + 1,.dic,_,g,_=>by cases g
theorem j8:∀ {n:Nat} {qs:List PV} {us:List V},qs.all (Zi n)=true->RepL H ρ qs us->RepL H Tk.nil qs us
 | _,[],_,_,r=>r
 | n,q :: qs,_,g,⟨v,r,e,h1,h2⟩=>by
  rw [List.all_cons,F6] at g;exact ⟨v,r,e,Qf7 g.1 h1,j8 g.2 h2⟩
end
theorem Q1u (R:Rel H ρ st) {n:Nat} (g:Zi n (der st p)=true) (r:Rep H ρ p v):Rep H Tk.nil (der st p) v:=by
 cases p with
 | ref i=>
  obtain ⟨a,e1,e2⟩:=r;simp only [der] at g ⊢
  split at g
  ·rename_i ys hs;obtain ⟨b,vs,f1,f2,f3⟩:=R.lst hs;rw [e1] at f1; cases f1;cases n with
   | zero=>cases g
   | succ n=>exact ⟨a,vs,e2,f2,Tk.not_nil _,j8 g f3⟩
  ·cases n <;> cases g
 | _=>exact Qf7 g r
theorem Q3i {mg:Str->Option Value} {E:XK} {Q:VK} {ps:List PV} {vs:List V} (R:Rel H ρ st) (h:Acc mg E H ρ (QV Q) (.ok (.tup ps) st)) (r:RepL H ρ ps vs):∀ p,H p=none->Q (.ref p) (upd H p (.tup vs)):=
 fun p hp=>h _ ρ (Ext.add hp) (R.add hp) _ ⟨p,vs,rfl,J8,R.fresh hp,r.ext (Ext.add hp)⟩
theorem Q3j {mg:Str->Option Value} {E:XK} {Q:VK} {ps:List PV} {vs:List V} (R:Rel H ρ st) (h:Acc mg E H ρ (QV Q) (.ok (.lst ps) st)) (r:RepL H ρ ps vs):∀ p,H p=none->Q (.ref p) (upd H p (.lst vs)):=
 fun p hp=>h _ ρ (Ext.add hp) (R.add hp) _ ⟨p,vs,rfl,J8,R.fresh hp,r.ext (Ext.add hp)⟩
theorem now {mg:Str->Option Value} {E:XK} {Q:VK} {p:PV} (R:Rel H ρ st) (h:Acc mg E H ρ (QV Q) (.ok p st)) (r:Rep H ρ p v):Q v H:=h H ρ (Ext.refl _ _) R v r
end
section
variable {X:Cx} {E:XK} {pos:Pos}
def Q4 (i:Nat):ME:=fun Γ st=>match Γ[i]? with
 | some (some p)=>.ok p st
 | _=>.stuck
def mC (p:PV):ME:=fun _ st=>.ok p st
theorem Q0 (i:Nat) {x:Str} (hN:X.N[i]?=some x:=by rfl) (hv:Vis X.env.scope x:=by first | exact Or.inl rfl | exact Or.inr (Or.inl rfl) | exact Or.inr (Or.inr rfl)) (hd:(x == ("__debug__" : Str))=false:=by decide)
  (hcd:(x == ("__classdict__" : Str))=false:=by decide):SimE X E (.Name x pos) (Q4 i):=⟨fun Γ σ H ρ st Q R G h=>WE.of (Qj9 hN hv hd hcd) (by
 unfold Q4 at h
 split at h
 ·rename_i p e;obtain ⟨v,e1,r⟩:=G.2 i p e;exact ⟨v,e1,now R h r⟩
 ·exact h.elim)⟩
theorem Qa {i:Int} {j:Nat}:SimE X E (.Constant (.int i) j pos) (mC (.int i)):=⟨fun Γ σ H ρ st Q R G h=>WE.of Qry (now R h rfl)⟩
theorem Q36 {b:Bool} {j:Nat}:SimE X E (.Constant (.bool b) j pos) (mC (.bl b)):=⟨fun Γ σ H ρ st Q R G h=>WE.of Quz (now R h rfl)⟩
theorem J0 {x:Str} {j:Nat}:SimE X E (.Constant (.str x) j pos) (mC (.str x)):=⟨fun Γ σ H ρ st Q R G h=>WE.of Q0y (now R h rfl)⟩
theorem Qmw {x:Str} {i:Int} {t:Tok} (hg:Gl X x) (hm:X.mg x=some (.int i t)) (hd:(x == ("__debug__" : Str))=false:=by decide):SimE X E (.Name x pos) (mC (.int i)):=
 ⟨fun Γ σ H ρ st Q R G h=>WE.of (Qnm hg hm (v:=.int i) ⟨t,rfl⟩ hd) (now R h rfl)⟩
variable {a b c:Expr} {ma mb mc:ME}
def mOp (o:OP) (ma mb:ME):ME:=fun Γ st=>(ma Γ st).bind fun x st1=>(mb Γ st1).bind fun y st2=>o st2 x y
theorem Qbq {f:Value->Value->Sem Value} {o:OP} {Γ:Gam} {σ:St} {H:Hp} {ρ:Tk} {st:Q2} {P:PV->Q2->Hp->Tk->Prop} {Q:VK} (ho:OpS X E f o) (ha:SimE X E a ma) (hb:SimE X E b mb) (R:Rel H ρ st) (G:EnvR H ρ Γ σ) (h:Acc X.mg E H ρ P (mOp o ma mb Γ st))
  (k:∀ p st1 H1 ρ1 v,Ext H ρ H1 ρ1->Rel H1 ρ1 st1->Rep H1 ρ1 p v->P p st1 H1 ρ1->Q v H1):tOp (WO X f) (WE X a) (WE X b) σ H Q:=by
 refine ha.use R G h.bind fun p st1 H1 ρ1 v x1 R1 G1 r1 h1=>?_
 refine hb.use R1 G1 h1.bind fun q st2 H2 ρ2 u x2 R2 G2 r2 h2=>?_
 exact ho.use R2 (r1.ext x2) r2 h2 fun w st3 H3 ρ3 z x3 R3 r3 p3=>k w st3 H3 ρ3 z (x1.trans (x2.trans x3)) R3 r3 p3
theorem Ja {op:Operator} {o:OP} (ho:OpS X E (binaryOp op) o) (ha:SimE X E a ma) (hb:SimE X E b mb):SimE X E (.BinOp a op b pos) (mOp o ma mb):=
 ⟨fun Γ σ H ρ st Q R G h=>WE.of (Quw Qe6 Yk Yk) (Qbq ho ha hb R G h fun _ _ _ _ v _ _ r q=>q v r)⟩
theorem Xq {op:CmpOp} {o:OP} (ho:OpS X E (compareOp op) o) (ha:SimE X E a ma) (hb:SimE X E b mb) (hm:behindInMarks op b=false:=by first | exact Qjq _ | rfl):SimE X E (.Compare a [op] [b] pos) (mOp o ma mb):=
 ⟨fun Γ σ H ρ st Q R G h=>WE.of (Qnn Qe6 Yk Yk hm) (Qbq ho ha hb R G h fun _ _ _ _ v _ _ r q=>q v r)⟩
def asB (p:PV) (st:Q2):Res Bool:=match p with
 | .bl k=>.ok k st
 | _=>.stuck
def toB (m:ME):Gam->Q2->Res Bool:=fun Γ st=>(m Γ st).bind asB
theorem Qm8 {mg:Str->Option Value} {H:Hp} {ρ:Tk} {st:Q2} {p:PV} {v:V} {P:Bool->Q2->Hp->Tk->Prop} (R:Rel H ρ st) (r:Rep H ρ p v) (h:Acc mg E H ρ P (asB p st)):∃ k,v=.bl k/\P k st H ρ:=by
 cases p with
 | bl k=>exact ⟨k,r,h H ρ (Ext.refl _ _) R⟩
 | _=>exact h.elim
theorem J9 {op:CmpOp} {o:OP} (ho:OpS X E (compareOp op) o) (ha:SimE X E a ma) (hb:SimE X E b mb) (hm:behindInMarks op b=false:=by first | exact Qjq _ | rfl):SimT X E (.Compare a [op] [b] pos) (toB (mOp o ma mb)):=
 ⟨fun Γ σ H ρ st Q R G h=>WT.of (Qn8 Qe6 Yk Yk hm) (Qbq ho ha hb R G h.bind fun _ st1 _ _ v _ R1 r q=>by
  obtain ⟨k,e,z⟩:=Qm8 R1 r q;exact ⟨k,e,z⟩)⟩
theorem W0 {e:Expr} {m:ME} (h:SimE X E e m) (he:∀ whole,isTrue e X.env whole=(do let v <- whole; standAt e.pos; holding [v] (truthy v)):=by intro _; rfl):SimT X E e (toB m):=
 ⟨fun Γ σ H ρ st Q R G hq=>WT.of (Qrj Yk he) (h.use R G hq.bind fun p st1 H1 ρ1 v x1 R1 G1 r1 h1=>by
  obtain ⟨k,e,z⟩:=Qm8 R1 r1 h1;exact ⟨k,e,z⟩)⟩
def Q16 (o o':OP) (ma mb mc:ME):ME:=fun Γ st=>(ma Γ st).bind fun x st1=>(mb Γ st1).bind fun y st2=>(o st2 x y).bind fun k st3=>match k with
 | .bl true=>(mc Γ st3).bind fun z st4=>o' st4 y z
 | .bl false=>.ok (.bl false) st3
 | _=>.stuck
theorem Qad {op op':CmpOp} {o o':OP} {Γ:Gam} {σ:St} {H:Hp} {ρ:Tk} {st:Q2} {P:PV->Q2->Hp->Tk->Prop} {Q:VK} (ho:OpS X E (compareOp op) o) (ho':OpS X E (compareOp op') o') (ha:SimE X E a ma) (hb:SimE X E b mb) (hc:SimE X E c mc) (R:Rel H ρ st) (G:EnvR H ρ Γ σ) (h:Acc X.mg E H ρ P (Q16 o o' ma mb mc Γ st))
  (k:∀ p st1 H1 ρ1 v,Ext H ρ H1 ρ1->Rel H1 ρ1 st1->Rep H1 ρ1 p v->P p st1 H1 ρ1->Q v H1):Qdu (WO X (compareOp op)) (WO X (compareOp op')) (WE X a) (WE X b) (WE X c) σ H Q:=by
 refine ha.use R G h.bind fun p st1 H1 ρ1 v x1 R1 G1 r1 h1=>?_
 refine hb.use R1 G1 h1.bind fun q st2 H2 ρ2 u x2 R2 G2 r2 h2=>?_
 refine ho.use R2 (r1.ext x2) r2 h2.bind fun w st3 H3 ρ3 z x3 R3 r3 h3=>?_
 cases w with
 | bl b=>
  refine ⟨b,r3,?_⟩;cases b with
  | true=>
   rw [if_pos rfl];refine hc.use R3 (G2.ext x3) h3.bind fun y st4 H4 ρ4 yv x4 R4 G4 r4 h4=>?_
   exact ho'.use R4 (r2.ext (x3.trans x4)) r4 h4 fun w st5 H5 ρ5 z x5 R5 r5 p5=>k w st5 H5 ρ5 z (x1.trans (x2.trans (x3.trans (x4.trans x5)))) R5 r5 p5
  | false=>
   rw [if_neg D7];exact k (.bl false) _ H3 ρ3 _ (x1.trans (x2.trans x3)) R3 rfl (h3 H3 ρ3 (Ext.refl _ _) R3)
 | _=>exact h3.elim
theorem Qiq {op op':CmpOp} {o o':OP} (ho:OpS X E (compareOp op) o) (ho':OpS X E (compareOp op') o') (ha:SimE X E a ma) (hb:SimE X E b mb) (hc:SimE X E c mc) (hm:lastMarks [op,op'] [b,c]=false:=by with_unfolding_all rfl):SimE X E (.Compare a [op,op'] [b,c] pos) (Q16 o o' ma mb mc):=
 ⟨fun Γ σ H ρ st Q R G h=>WE.of (Qje Qe6 Qe6 Yk Yk Yk hm) (Qad ho ho' ha hb hc R G h fun _ _ _ _ v _ _ r q=>q v r)⟩
theorem Qc1 {op op':CmpOp} {o o':OP} (ho:OpS X E (compareOp op) o) (ho':OpS X E (compareOp op') o') (ha:SimE X E a ma) (hb:SimE X E b mb) (hc:SimE X E c mc) (hm:lastMarks [op,op'] [b,c]=false:=by with_unfolding_all rfl):SimT X E (.Compare a [op,op'] [b,c] pos) (toB (Q16 o o' ma mb mc)):=
 ⟨fun Γ σ H ρ st Q R G h=>WT.of (Qiz Qe6 Qe6 Yk Yk Yk hm) (Qad ho ho' ha hb hc R G h.bind fun _ st1 _ _ v _ R1 r q=>by
  obtain ⟨k,e,z⟩:=Qm8 R1 r q;exact ⟨k,e,z⟩)⟩
variable {rest:List Expr}
def Q4t (ma mb:ME):ME:=fun Γ st=>(ma Γ st).bind fun x st1=>match x with
 | .bl true=>mb Γ st1
 | .bl false=>.ok (.bl false) st1
 | _=>.stuck
def mOr (ma mb:ME):ME:=fun Γ st=>(ma Γ st).bind fun x st1=>match x with
 | .bl true=>.ok (.bl true) st1
 | .bl false=>mb Γ st1
 | _=>.stuck
def Qsm (ma:ME):ME:=fun Γ st=>(ma Γ st).bind fun x st1=>match x with
 | .bl k=>.ok (.bl (!k)) st1
 | _=>.stuck
theorem Q0r {op:BoolOp} (ha:SimE X E a ma):SimE X E (.BoolOp op [a] pos) ma:=⟨fun Γ σ H ρ st Q R G h=>WE.of (Qrw Yk) (ha.use R G h fun _ _ _ _ v _ _ _ r q=>q v r)⟩
theorem yq (ha:SimE X E a ma) (hb:SimE X E (.BoolOp .And (b :: rest) pos) mb):SimE X E (.BoolOp .And (a :: b :: rest) pos) (Q4t ma mb):=
 ⟨fun Γ σ H ρ st Q R G h=>WE.of (Qs1 Yk Yk) (ha.use R G h.bind fun p st1 H1 ρ1 v x1 R1 G1 r1 h1=>by
  cases p with
  | bl k=>
   refine ⟨k,r1,?_⟩;cases k with
   | true=>rw [if_pos rfl]; exact hb.use R1 G1 h1 fun _ _ _ _ v _ _ _ r q=>q v r
   | false=>rw [if_neg D7]; exact now R1 h1 rfl
  | _=>exact h1.elim)⟩
theorem Que (ha:SimE X E a ma) (hb:SimE X E (.BoolOp .Or (b :: rest) pos) mb):SimE X E (.BoolOp .Or (a :: b :: rest) pos) (mOr ma mb):=
 ⟨fun Γ σ H ρ st Q R G h=>WE.of (Quv Yk Yk) (ha.use R G h.bind fun p st1 H1 ρ1 v x1 R1 G1 r1 h1=>by
  cases p with
  | bl k=>
   refine ⟨k,r1,?_⟩;cases k with
   | true=>rw [if_pos rfl]; exact now R1 h1 rfl
   | false=>rw [if_neg D7]; exact hb.use R1 G1 h1 fun _ _ _ _ v _ _ _ r q=>q v r
  | _=>exact h1.elim)⟩
theorem Qrb (ha:SimE X E a ma):SimE X E (.UnaryOp .Not a pos) (Qsm ma):=
 ⟨fun Γ σ H ρ st Q R G h=>WE.of (Qrx Yk) (ha.use R G h.bind fun p st1 H1 ρ1 v x1 R1 G1 r1 h1=>by
  cases p with
  | bl k=>exact ⟨k,r1,now R1 h1 rfl⟩
  | _=>exact h1.elim)⟩
def Q4s (ma:ME):ME:=fun Γ st=>(ma Γ st).bind fun x st1=>match x with
 | .int k=>.ok (.int (-k)) st1
 | _=>.stuck
theorem Q0s (ha:SimE X E a ma):SimE X E (.UnaryOp .USub a pos) (Q4s ma):=
 ⟨fun Γ σ H ρ st Q R G h=>WE.of (Quu Qr0 Yk) (ha.use R G h.bind fun p st1 H1 ρ1 v x1 R1 G1 r1 h1=>by
  cases p with
  | int k=>exact ⟨k,r1,now R1 h1 rfl⟩
  | _=>exact h1.elim)⟩
abbrev MT:=Gam->Q2->Res Bool
variable {ta tb:MT}
def Q0d (ta tb:MT):MT:=fun Γ st=>(ta Γ st).bind fun k st1=>if k=true then tb Γ st1 else .ok false st1
def Q0m (ta tb:MT):MT:=fun Γ st=>(ta Γ st).bind fun k st1=>if k=true then .ok true st1 else tb Γ st1
def Vg (ta:MT):MT:=fun Γ st=>(ta Γ st).bind fun k st1=>.ok (!k) st1
theorem SimW.t {e:Expr} (h:SimW X E e ta):SimT X E e ta:=⟨fun Γ σ H ρ st Q R G q pins s I=>h.run Γ σ H ρ st Q R G q _ pins s I⟩
theorem Q32 (ha:SimT X E a ta):SimW X E (.BoolOp .And [a] pos) ta:=⟨fun Γ σ H ρ st Q R G h=>WW.of (Qn4 Qcd) (ha.use R G h fun _ _ _ _ _ _ _ q=>q)⟩
theorem Q0n (ha:SimT X E a ta):SimW X E (.BoolOp .Or [a] pos) ta:=⟨fun Γ σ H ρ st Q R G h=>WW.of (Qrh Qcd) (ha.use R G h fun _ _ _ _ _ _ _ q=>q)⟩
theorem Q6i (ha:SimT X E a ta) (hb:SimW X E (.BoolOp .And (b :: rest) pos) tb):SimW X E (.BoolOp .And (a :: b :: rest) pos) (Q0d ta tb):=
 ⟨fun Γ σ H ρ st Q R G h=>WW.of (Qri Qcd Qun) (ha.use R G h.bind fun k st1 H1 ρ1 x1 R1 G1 h1=>by
  cases k with
  | true=>rw [if_pos rfl] at h1 ⊢; exact hb.use R1 G1 h1 fun _ _ _ _ _ _ _ q=>q
  | false=>rw [if_neg D7] at h1 ⊢; exact h1 H1 ρ1 (Ext.refl _ _) R1)⟩
theorem Q29 (ha:SimT X E a ta) (hb:SimW X E (.BoolOp .Or (b :: rest) pos) tb):SimW X E (.BoolOp .Or (a :: b :: rest) pos) (Q0m ta tb):=
 ⟨fun Γ σ H ρ st Q R G h=>WW.of (Qup Qcd Qun) (ha.use R G h.bind fun k st1 H1 ρ1 x1 R1 G1 h1=>by
  cases k with
  | true=>rw [if_pos rfl] at h1 ⊢; exact h1 H1 ρ1 (Ext.refl _ _) R1
  | false=>rw [if_neg D7] at h1 ⊢; exact hb.use R1 G1 h1 fun _ _ _ _ _ _ _ q=>q)⟩
theorem V5 (ha:SimT X E a ta):SimT X E (.UnaryOp .Not a pos) (Vg ta):=
 ⟨fun Γ σ H ρ st Q R G h=>WT.of (Qrk Qcd) (ha.use R G h.bind fun k st1 H1 ρ1 x1 R1 G1 h1=>h1 H1 ρ1 (Ext.refl _ _) R1)⟩
variable {e:Expr} {es:List Expr} {m:ME} {mr:Gam->Q2->Res (List PV)}
def Q9:Gam->Q2->Res (List PV):=fun _ st=>.ok [] st
def Q3 (m:ME) (mr:Gam->Q2->Res (List PV)):Gam->Q2->Res (List PV):=fun Γ st=>(m Γ st).bind fun p st1=>(mr Γ st1).bind fun ps st2=>.ok (p :: ps) st2
theorem Q6:SimA X E [] Q9:=⟨fun Γ σ H ρ st Q R G h=>WA.of Q74 (h H ρ (Ext.refl _ _) R [] rfl)⟩
theorem Q1 (ha:SimE X E e m) (hr:SimA X E es mr) (hs:starEach (e :: es) X.env=(false,eval e X.env) :: starEach es X.env:=by rfl):SimA X E (e :: es) (Q3 m mr):=
 ⟨fun Γ σ H ρ st Q R G h=>WA.of (xr Yk Q3b hs) (ha.use R G h.bind fun p st1 H1 ρ1 v x1 R1 G1 r1 h1=>hr.use R1 G1 h1.bind fun ps st2 H2 ρ2 vs x2 R2 G2 r2 h2=>
  h2 H2 ρ2 (Ext.refl _ _) R2 (v :: vs) ⟨v,vs,rfl,r1.ext x2,r2⟩)⟩
def Xn (mr:Gam->Q2->Res (List PV)):ME:=fun Γ st=>(mr Γ st).bind fun ps st1=>if ps.length<=lim then .ok (.tup ps) st1 else .stuck
def Q3p (mr:Gam->Q2->Res (List PV)):ME:=fun Γ st=>(mr Γ st).bind fun ps st1=>if ps.length<=lim then .ok (.lst ps) st1 else .stuck
theorem V6 {k:Nat} (h:SimA X E es mr):SimE X E (.Tuple es k pos) (Xn mr):=
 ⟨fun Γ σ H ρ st Q R G hq=>WE.of (Qrv Q3b) (h.use R G hq.bind fun ps st1 H1 ρ1 vs x1 R1 G1 r1 h1=>by
  by_cases hl:ps.length<=lim
  ·rw [if_pos hl] at h1;exact ⟨by rw [<- r1.length]; exact Xy hl,Q3i R1 h1 r1⟩
  ·rw [if_neg hl] at h1; exact h1.elim)⟩
theorem Q46 (h:SimA X E es mr):SimE X E (.List es pos) (Q3p mr):=
 ⟨fun Γ σ H ρ st Q R G hq=>WE.of (Qjc Q3b) (h.use R G hq.bind fun ps st1 H1 ρ1 vs x1 R1 G1 r1 h1=>by
  by_cases hl:ps.length<=lim
  ·rw [if_pos hl] at h1;exact ⟨by rw [<- r1.length]; exact Xy hl,Q3j R1 h1 r1⟩
  ·rw [if_neg hl] at h1; exact h1.elim)⟩
end
end Sm
namespace HT
open PySem PySem.Spec PyProof.Rows
section
variable {prog:Program} {w:World} {A:Around} {E:Value->Shared->Prop} {s:Shared}
theorem getItem_tuple_whole {t sl:Addr} {items:Array Value} {vl vu:Value} {lo hi:Option Int} {Q:Value->Shared->Prop} (ht:IsTup s.heap t items) (hs:s.heap.IsSliceOf sl vl vu .none) (pl:IsPart vl lo) (pu:IsPart vu hi)
  (hw:sIx items.size 0 lo=0/\sIx items.size items.size hi=items.size)
  (h:Q (.ref t) s):wpAny (model prog w) A (getItem (.ref t) (.ref sl)) Q E s:=by
 obtain ⟨os,hos,hcs,hds⟩:=id hs;have hTs:s.TypeIs (.ref sl) "slice" := ⟨os,hos,hcs⟩;unfold getItem
 try with_reducible refine wpAny_holding ?_
 first | refine wpAny_bind (wpAny_pure ?_) | skip
 refine wpAny_bind (wpAny_sequenceKey ht.typeIs (by decide) ?_);refine wpAny_bind (wpAny_callSpecial?_slot (name:=Str.ofString "__getitem__") ht.typeIs PyProof.Rows.slot_tuple_getitem
  (wpAny_call_entry PyProof.Rows.slot_tuple_getitem ht.typeIs entry_tuple_getitem ?_ (args_tuple_getitem _ _)))
 show wpAny _ _ (Builtin.Tuple.tupleItemsOf (.ref t) >>= _) _ _ s;refine wpAny_bind (tupleItemsOf_ ht ?_);refine wpAny_bind (wpAny_typeOf hTs ?_);rw [if_pos (by decide)];refine wpAny_bind (zr hs pl pu ?_);have hyes:(((sIx items.size 0 lo:Nat):Int) == 0 && (1:Int) == 1 && (sIx items.size items.size hi - sIx items.size 0 lo) == items.size)=true:=by
  rw [hw.1,hw.2]; simp
 show wpAny _ _ (if (((sIx items.size 0 lo:Nat):Int) == 0 && (1:Int) == 1 && (sIx items.size items.size hi - sIx items.size 0 lo) == items.size)=true then _ else _) _ _ s;rw [if_pos hyes];refine wpAny_bind (wpAny_bind (wpAny_typeOf ht.typeIs (wpAny_pure ?_)));rw [if_pos (by rfl)];exact wpAny_bind (wpAny_rule (wpAny_pure ⟨_,rfl,wpAny_pure h⟩))
end
end HT
namespace L2
open PySem PySem.Spec PyProof.Rows
def Qxk (K:PySem.W.Frag):V->Option Int->Option Int->Hp->VK->Prop:=fun x lo hi H Q=>∃ a xs,x=.ref a/\SqT K H a xs /\
 (HT.sIx xs.length 0 lo=0/\HT.sIx xs.length xs.length hi=xs.length)/\Q (.ref a) H
theorem sl_whole {X:Cx}:SlR X (Qxk X.K):=by
 intro pins s σ H x v vl vu lo hi sl Q I rx hs pl pu h;obtain ⟨a,xs,rfl,hx,hw,q⟩:=h;cases rx;obtain ⟨its,r,ht,hz⟩:=I.tuple hx;have hlen:its.toArray.size=xs.length:=by rw [O3]; exact r.length.symm
 refine ⟨"tuple",_,PyProof.Rows.slot_tuple_getitem.lookup,ht.typeIs,?_⟩;exact HT.getItem_tuple_whole ht hs pl pu (by rw [hlen]; exact hw) ⟨.ref a,H,I,rfl,q⟩
end L2
namespace Sm
open PySem PySem.Spec L2
section
variable {X:Cx} {E:XK} {pos:Pos}
def oI (g:Int->Int->PV):OP:=fun st p q=>match p,q with
 | .int a,.int b=>.ok (g a b) st
 | _,_=>.stuck
def We:OP:=fun st p q=>match p,q with
 | .int a,.int b=>.ok (.int (a + b)) st
 | .str a,.str b=>if a.length + b.length<=lim then .ok (.str (a ++ b)) st else .stuck
 | .tup xs,.tup ys=>if xs.length + ys.length<=lim then .ok (.tup (xs ++ ys)) st else .stuck
 | p,q=>match Q17 st p,Q17 st q with
  | some xs,some ys=>if xs.length + ys.length<=lim then .ok (.lst (xs ++ ys)) st else .stuck
  | _,_=>.stuck
theorem Zq:OpS X E (binaryOp .Add) We:=⟨fun H ρ st p q x y Q R rp rq h=>by
 unfold We at h
 split at h
 ·cases rp; cases rq;exact WO.of Qsc ⟨_,_,rfl,rfl,now R h rfl⟩
 ·cases rp; cases rq
  split at h
  ·rename_i hl;exact WO.of Qe7 ⟨_,_,rfl,rfl,Xy hl,now R h rfl⟩
  ·exact h.elim
 ·split at h
  ·rename_i xs ys hl;obtain ⟨a,vs,rfl,ha,na,ra⟩:=rp;obtain ⟨b,us,rfl,hb,nb,rb⟩:=rq;refine WO.of Qnw ?_
   by_cases e:xs=[]
   ·subst e;cases ra;exact .inr ⟨a,b,us,rfl,rfl,SqT.of ha,SqT.of hb,now R h ⟨b,us,rfl,hb,nb,rb⟩⟩
   ·refine .inl ⟨a,b,vs,us,rfl,rfl,SqT.of ha,SqT.of hb,fun z=>e ?_,by rw [<- ra.length,<- rb.length]; exact Xy hl,fun z=>?_,fun z=>Q3i R h (ra.append rb)⟩
    ·subst z;cases xs with
     | nil=>rfl
     | cons _ _=>have:=ra.length; simp at this
    ·subst z;have:ys=[]:=by
      cases ys with
      | nil=>rfl
      | cons _ _=>have:=rb.length; simp at this
     subst this;rw [List.append_nil] at h;exact now R h ⟨a,vs,rfl,ha,na,ra⟩
  ·exact h.elim
 ·split at h
  ·rename_i xs ys e1 e2
   split at h
   ·rename_i hl;obtain ⟨a,vs,rfl,ha,ra⟩:=Q7u R rp e1;obtain ⟨b,us,rfl,hb,rb⟩:=Q7u R rq e2;exact WO.of Qsb ⟨a,b,vs,us,rfl,rfl,ha,hb,by rw [<- ra.length,<- rb.length]; exact Xy hl,Q3j R h (ra.append rb)⟩
   ·exact h.elim
  ·exact h.elim⟩
theorem Q0z:OpS X E (binaryOp .Sub) (oI fun a b=>.int (a - b)):=⟨fun H ρ st p q x y Q R rp rq h=>by
 unfold oI at h
 split at h
 ·cases rp; cases rq;exact WO.of Qs5 ⟨_,_,rfl,rfl,now R h rfl⟩
 ·exact h.elim⟩
def Q5t:OP:=fun st p q=>match p,q with
 | .int a,.int b=>if (-(2 ^ 64) < a/\a < 2 ^ 64)\/(-(2 ^ 64) < b/\b < 2 ^ 64) then .ok (.int (a * b)) st else .stuck
 | .tup xs,.int b=>if xs≠[]/\1<=b/\xs.length * b.toNat<=4096 then .ok (.tup (List.replicate b.toNat xs).flatten) st else .stuck
 | p,.int b=>match Q17 st p with
  | some xs=>if -(2 ^ 63)<=b/\b < 2 ^ 63/\xs.length * b.toNat<=lim then .ok (.lst (List.replicate b.toNat xs).flatten) st else .stuck
  | none=>.stuck
 | _,_=>.stuck
theorem Q4f:OpS X E (binaryOp .Mult) Q5t:=⟨fun H ρ st p q x y Q R rp rq h=>by
 unfold Q5t at h
 split at h
 ·cases rp; cases rq
  split at h
  ·rename_i hc;exact WO.of Qs8 ⟨_,_,rfl,rfl,hc,now R h rfl⟩
  ·exact h.elim
 ·cases rq
  split at h
  ·rename_i xs b hc;obtain ⟨a,vs,rfl,ha,na,ra⟩:=rp;refine WO.of Qnu ⟨a,b,vs,rfl,rfl,SqT.of ha,fun z=>hc.1 ?_,hc.2.1,by rw [<- ra.length]; exact hc.2.2,fun z=>?_,fun z=>Q3i R h (ra.rep _)⟩
   ·subst z;cases xs with
    | nil=>rfl
    | cons _ _=>have:=ra.length; simp at this
   ·subst z;have e1:(List.replicate (Int.toNat 1) xs).flatten=xs:=by simp
    rw [e1] at h;exact now R h ⟨a,vs,rfl,ha,na,ra⟩
  ·exact h.elim
 ·cases rq
  split at h
  ·rename_i xs e1
   split at h
   ·rename_i hc;obtain ⟨a,vs,rfl,ha,ra⟩:=Q7u R rp e1;exact WO.of Qs6 ⟨a,_,vs,rfl,rfl,ha,hc.1,hc.2.1,by rw [<- ra.length]; exact Xy hc.2.2,Q3j R h (ra.rep _)⟩
   ·exact h.elim
  ·exact h.elim
 ·exact h.elim⟩
def Q3g:OP:=fun st p q=>match p,q with
 | .int a,.int b=>if 0 < b then .ok (.int (a % b)) st else .stuck
 | _,_=>.stuck
theorem Q10:OpS X E (binaryOp .Mod) Q3g:=⟨fun H ρ st p q x y Q R rp rq h=>by
 unfold Q3g at h
 split at h
 ·cases rp; cases rq
  split at h
  ·rename_i hc;exact WO.of Qs9 ⟨_,_,rfl,rfl,hc,now R h rfl⟩
  ·exact h.elim
 ·exact h.elim⟩
def Qp1:OP:=fun st p q=>match p,q with
 | .int a,.int b=>if 0 < b/\b < 1073741824 then .ok (.int (a / b)) st else .stuck
 | _,_=>.stuck
theorem Qs4:OpS X E (binaryOp .FloorDiv) Qp1:=⟨fun H ρ st p q x y Q R rp rq h=>by
 unfold Qp1 at h
 split at h
 ·cases rp; cases rq
  split at h
  ·rename_i hc;exact WO.of Qnv ⟨_,_,rfl,rfl,hc,now R h rfl⟩
  ·exact h.elim
 ·exact h.elim⟩
def Qjn:OP:=fun st p q=>match p,q with
 | .int a,.int b=>if 0<=b/\b<=1000000/\a.natAbs < 2 ^ 64 then .ok (.int (a ^ b.toNat)) st else .stuck
 | _,_=>.stuck
theorem Qs3:OpS X E (binaryOp .Pow) Qjn:=⟨fun H ρ st p q x y Q R rp rq h=>by
 unfold Qjn at h
 split at h
 ·cases rp; cases rq
  split at h
  ·rename_i hc;exact WO.of Qs7 ⟨_,_,rfl,rfl,hc,now R h rfl⟩
  ·exact h.elim
 ·exact h.elim⟩
theorem Qe9 {op:CmpOp} {g:Int->Int->Bool} (ho:OpR X (compareOp op) (rI0 fun i j=>.bl (g i j))):OpS X E (compareOp op) (oI fun a b=>.bl (g a b)):=⟨fun H ρ st p q x y Q R rp rq h=>by
 unfold oI at h
 split at h
 ·cases rp; cases rq;exact WO.of ho ⟨_,_,rfl,rfl,now R h rfl⟩
 ·exact h.elim⟩
theorem Qa1:OpS X E (compareOp .LtE) (oI fun a b=>.bl (decide (a<=b))):=Qe9 Qv3
theorem Q75:OpS X E (compareOp .Gt) (oI fun a b=>.bl (decide (b < a))):=Qe9 Qv4
theorem Qqk:OpS X E (compareOp .GtE) (oI fun a b=>.bl (decide (b<=a))):=Qe9 Qv5
def zn:List PV->Option (List Int)
 | []=>some []
 | .int i :: ps=>(zn ps).map (i :: ·)
 | _ :: _=>none
def Q5f:List PV->Option (List Bool)
 | []=>some []
 | .bl i :: ps=>(Q5f ps).map (i :: ·)
 | _ :: _=>none
theorem Qd6 (ns:List Int):zn (ns.map .int)=some ns:=by
 induction ns with
 | nil=>rfl
 | cons n ns ih=>rw [F2,zn,ih]; rfl
theorem Qq7 (ns:List Bool):Q5f (ns.map .bl)=some ns:=by
 induction ns with
 | nil=>rfl
 | cons n ns ih=>rw [F2,Q5f,ih]; rfl
theorem Q64:∀ {ps:List PV} {ns:List Int},zn ps=some ns->ps=ns.map .int
 | [],ns,h=>by cases h; rfl
 | .int i :: ps,ns,h=>by
  rw [zn] at h;cases e:zn ps with
  | none=>rw [e] at h; cases h
  | some ms=>rw [e] at h; cases h; rw [Q64 e]; rfl
 | .non :: _,_,h | .bl _ :: _,_,h | .str _ :: _,_,h | .tup _ :: _,_,h | .lst _ :: _,_,h | .fro _ :: _,_,h | .ref _ :: _,_,h | .dic :: _,_,h=>by cases h
theorem Qm2:∀ {ps:List PV} {ns:List Bool},Q5f ps=some ns->ps=ns.map .bl
 | [],ns,h=>by cases h; rfl
 | .bl i :: ps,ns,h=>by
  rw [Q5f] at h;cases e:Q5f ps with
  | none=>rw [e] at h; cases h
  | some ms=>rw [e] at h; cases h; rw [Qm2 e]; rfl
 | .non :: _,_,h | .int _ :: _,_,h | .str _ :: _,_,h | .tup _ :: _,_,h | .lst _ :: _,_,h | .fro _ :: _,_,h | .ref _ :: _,_,h | .dic :: _,_,h=>by cases h
def oLt:OP:=fun st p q=>match p,q with
 | .int a,.int b=>.ok (.bl (decide (a < b))) st
 | .tup xs,.tup ys=>match zn xs,zn ys with
  | some ns,some ms=>.ok (.bl (HT.lexLt ns ms)) st
  | _,_=>.stuck
 | _,_=>.stuck
theorem Q3d (hu:X.A.units + 64 < cLine):OpS X E (compareOp .Lt) oLt:=⟨fun H ρ st p q x y Q R rp rq h=>by
 unfold oLt at h
 split at h
 ·cases rp; cases rq;exact WO.of Qv2 ⟨_,_,rfl,rfl,now R h rfl⟩
 ·split at h
  ·rename_i ns ms e1 e2;obtain ⟨a,vs,rfl,ha,na,ra⟩:=rp;obtain ⟨b,us,rfl,hb,nb,rb⟩:=rq;rw [Q64 e1] at ra;rw [Q64 e2] at rb;rw [ra.toInts] at ha;rw [rb.toInts] at hb;exact WO.of (Qsa (by omega)) ⟨a,b,ns,ms,rfl,rfl,SqT.of ha,SqT.of hb,now R h rfl⟩
  ·exact h.elim
 ·exact h.elim⟩
def dep:Nat:=12
def oEq:OP:=fun st p q=>if Zi dep (der st p)=true/\Zi dep (der st q)=true then .ok (.bl (peq (der st p) (der st q))) st else .stuck
def oNe:OP:=fun st p q=>if Zi dep (der st p)=true/\Zi dep (der st q)=true then .ok (.bl (!peq (der st p) (der st q))) st else .stuck
theorem Wj (hu:X.A.units + 64 < cLine):OpS X E (compareOp .Eq) oEq:=⟨fun H ρ st p q x y Q R rp rq h=>by
 unfold oEq at h
 split at h
 ·rename_i g;intro pins s σ v u I rv ru;exact (Qfw dep I g.1 g.2 (by unfold dep; omega) (Q1u R g.1 rp) rv (Q1u R g.2 rq) ru).2.1 _ _ _ _ ⟨.bl _,H,I,rfl,now R h rfl⟩
 ·exact h.elim⟩
theorem Q59 (hu:X.A.units + 64 < cLine):OpS X E (compareOp .NotEq) oNe:=⟨fun H ρ st p q x y Q R rp rq h=>by
 unfold oNe at h
 split at h
 ·rename_i g;intro pins s σ v u I rv ru;exact (Qfw dep I g.1 g.2 (by unfold dep; omega) (Q1u R g.1 rp) rv (Q1u R g.2 rq) ru).2.2 _ _ _ _ ⟨.bl _,H,I,rfl,now R h rfl⟩
 ·exact h.elim⟩
def oIn (neg:Bool):OP:=fun st p q=>match Uv st q with
 | some xs=>if Zi dep (der st p)=true/\xs.all (Zi dep)=true then .ok (.bl ((xs.any fun y=>peq y (der st p)) != neg)) st else .stuck
 | none=>.stuck
open Classical in
theorem Qd7 {pins:List (Addr × Obj)} {σ:St} {H:Hp} {ρ:Tk} {s:Shared} {A:Around} {st:Q2} {p:PV} {xs:List PV} {x:V} {v:Value} {vs:List V} {its:List Value} (I:Inv X pins σ H s) (hu:A.units + dep < cLine) (R:Rel H ρ st)
  (gp:Zi dep (der st p)=true) (gx:xs.all (Zi dep)=true) (rp:Rep H ρ p x) (rv:RelV x v) (ra:RepL H ρ xs vs) (vi:Vals vs its):∃ e:Value->Bool,(∀ u,u∈its.toArray->SeqAt.EqAt A s u v (e u))/\its.toArray.any e=xs.any fun y=>peq y (der st p):=by
 have key:∀ u∈its,∃ q∈xs,∃ y,Rep H Tk.nil q y/\RelV y u:=fun u hu=>by
  obtain ⟨j,hj,rfl⟩:=List.getElem_of_mem hu;have l1:=vi.length;have l2:=ra.length;obtain ⟨y,e1,e2⟩:=(j8 gx ra).get (O4 (show j < xs.length by omega));obtain ⟨w,e3,e4⟩:=vi.get e1;rw [O4 hj] at e3; cases e3;exact ⟨_,List.getElem_mem _,y,e2,e4⟩
 refine ⟨fun u=>decide (∃ q∈xs,∃ y,Rep H Tk.nil q y/\RelV y u/\peq q (der st p)=true),fun u hm=>?_,?_⟩
 ·have hm':u∈its:=by simpa using hm
  by_cases z:∃ q∈xs,∃ y,Rep H Tk.nil q y/\RelV y u/\peq q (der st p)=true
  ·show SeqAt.EqAt A s u v (decide _);rw [decide_eq_true z];obtain ⟨q,hq,y,r1,r2,e⟩:=z;have:=(Qfw dep I ((F7.mp gx) q hq) gp hu r1 r2 (Q1u R gp rp) rv).1;rw [e] at this;exact this
  ·show SeqAt.EqAt A s u v (decide _);rw [decide_eq_false z];obtain ⟨q,hq,y,r1,r2⟩:=key u hm';have:=(Qfw dep I ((F7.mp gx) q hq) gp hu r1 r2 (Q1u R gp rp) rv).1;cases e:peq q (der st p) with
   | true=>exact absurd ⟨q,hq,y,r1,r2,e⟩ z
   | false=>rw [e] at this; exact this
 ·rw [Bool.eq_iff_iff,Array.any_eq_true,List.any_eq_true];constructor
  ·rintro ⟨j,hj,e⟩;obtain ⟨q,hq,y,r1,r2,e⟩:=of_decide_eq_true e;exact ⟨q,hq,e⟩
  ·rintro ⟨q,hq,e⟩;obtain ⟨j,hj,rfl⟩:=List.getElem_of_mem hq;have l1:=vi.length;have l2:=ra.length;have hj':j < its.length:=by omega
   obtain ⟨y,e1,e2⟩:=(j8 gx ra).get (O4 hj);obtain ⟨w,e3,e4⟩:=vi.get e1;refine ⟨j,by simpa using hj',decide_eq_true ⟨_,hq,y,e2,?_,e⟩⟩;rw [O4 hj'] at e3; cases e3;simpa using e4
theorem Q3c (hu:X.A.units + 64 < cLine):OpS X E (compareOp .NotIn) (oIn true):=⟨fun H ρ st p q x y Q R rp rq h=>by
 unfold oIn at h
 split at h
 ·rename_i xs es
  split at h
  ·rename_i g;obtain ⟨t,a,vs,rfl,hq,ra⟩:=Q45 (K:=X.K) R rq es;intro pins s σ v u I rv ru;cases ru;rw [Bool.bne_true] at h;cases t with
   | true=>
    obtain ⟨its,r,pl,hz⟩:=I.tuple hq;obtain ⟨e,he,ea⟩:=Qd7 (A:=X.A.in1) I (by show X.A.units + 1 + dep < cLine; unfold dep; omega) R g.1 g.2 rp rv ra r;refine SeqAt.notIn_tupleAt e pl he ⟨.bl _,H,I,rfl,?_⟩;rw [ea];exact now R h rfl
   | false=>
    obtain ⟨its,r,pl,hz⟩:=I.list hq;obtain ⟨e,he,ea⟩:=Qd7 (A:=X.A.in1) I (by show X.A.units + 1 + dep < cLine; unfold dep; omega) R g.1 g.2 rp rv ra r;refine SeqAt.notIn_listAt e pl.isList he ⟨.bl _,H,I,rfl,?_⟩;rw [ea];exact now R h rfl
  ·exact h.elim
 ·exact h.elim⟩
end
section
variable {H:Hp} {ρ:Tk}
theorem RepL.atI {ps:List PV} {vs:List V} {i:Int} {p:PV} (r:RepL H ρ ps vs) (e:atI ps i=some p):∃ v,L2.atI vs i=some v/\Rep H ρ p v:=by
 unfold L2.atI at e ⊢;rw [<- r.length];cases q:ixN ps.length i with
 | none=>rw [q] at e; cases e
 | some j=>
  rw [q] at e;exact r.get e
def cut {α:Type} (xs:List α) (lo hi:Option Int):List α:=(xs.drop (HT.sIx xs.length 0 lo)).take (HT.sIx xs.length xs.length hi - HT.sIx xs.length 0 lo)
theorem RepL.cut {ps:List PV} {vs:List V} (r:RepL H ρ ps vs) (lo hi:Option Int):RepL H ρ (Sm.cut ps lo hi) (Qdc vs lo hi):=by
 unfold Sm.cut Qdc;rw [<- r.length];exact (r.drop _).take _
end
section
variable {X:Cx} {E:XK} {pos:Pos} {a b:Expr} {ma mb:ME}
def oIx:OP:=fun st p q=>match Uv st p,q with
 | some xs,.int i=>okO st (atI xs i)
 | _,_=>.stuck
theorem Qs (ha:SimE X E a ma) (hb:SimE X E b mb) (hs:Qg2 b:=by exact fun _ _=>rfl):SimE X E (.Subscript a b pos) (mOp oIx ma mb):=
 ⟨fun Γ σ H ρ st Q R G h=>WE.of (Qux Qsy Yk Yk hs) (ha.use R G h.bind fun p st1 H1 ρ1 v x1 R1 G1 r1 h1=>hb.use R1 G1 h1.bind fun q st2 H2 ρ2 u x2 R2 G2 r2 h2=>by
  unfold oIx at h2
  split at h2
  ·rename_i xs i e;cases r2;cases ea:atI xs i with
   | none=>rw [ea] at h2; exact h2.elim
   | some w=>
    rw [ea] at h2;obtain ⟨t,b,vs,rfl,hq,ra⟩:=Q45 (K:=X.K) R2 (r1.ext x2) e;obtain ⟨z,ez,rz⟩:=ra.atI ea;cases t with
    | true=>exact .inr (.inl ⟨b,vs,i,z,rfl,rfl,hq,ez,now R2 h2 rz⟩)
    | false=>exact .inl ⟨b,vs,i,z,rfl,rfl,hq,ez,now R2 h2 rz⟩
  ·exact h2.elim)⟩
structure SimO (X:Cx) (E:XK) (o:Option Expr) (m:Gam->Q2->Res (Option Int)):Prop where
 run:∀ (Γ:Gam) (σ:St) (H:Hp) (ρ:Tk) (st:Q2) (P:Option Int->Q2->Hp->Tk->Prop) (Q:Option Int->Hp->Prop),Rel H ρ st->EnvR H ρ Γ σ->Acc X.mg E H ρ P (m Γ st) ->
  (∀ i st1 H1 ρ1,Ext H ρ H1 ρ1->Rel H1 ρ1 st1->EnvR H1 ρ1 Γ σ->P i st1 H1 ρ1->Q i H1)->∃ t,PO X o t/\t σ H Q
def X2:Gam->Q2->Res (Option Int):=fun _ st=>.ok none st
def zy (m:ME):Gam->Q2->Res (Option Int):=fun Γ st=>(m Γ st).bind fun p st1=>match p with
 | .int i=>.ok (some i) st1
 | _=>.stuck
theorem Ky:SimO X E none X2:=⟨fun Γ σ H ρ st P Q R G h k=>⟨_,Qnd,k none st H ρ (Ext.refl _ _) R G (h H ρ (Ext.refl _ _) R)⟩⟩
theorem Uu (ha:SimE X E a ma):SimO X E (some a) (zy ma):=⟨fun Γ σ H ρ st P Q R G h k=>⟨_,Qnc Yk,ha.use R G h.bind fun p st1 H1 ρ1 v x1 R1 G1 r1 h1=>by
 cases p with
 | int i=>exact ⟨i,r1,k (some i) st1 H1 ρ1 x1 R1 G1 (h1 H1 ρ1 (Ext.refl _ _) R1)⟩
 | _=>exact h1.elim⟩⟩
def oSl (st:Q2) (p:PV) (lo hi:Option Int):Res PV:=match p with
 | .tup xs=>.ok (.tup (cut xs lo hi)) st
 | p=>match zm st p with
  | some xs=>.ok (.lst (cut xs lo hi)) st
  | none=>.stuck
def mSl (ma:ME) (ml mh:Gam->Q2->Res (Option Int)):ME:=fun Γ st=>(ma Γ st).bind fun p st1=>(ml Γ st1).bind fun lo st2=>(mh Γ st2).bind fun hi st3=>oSl st3 p lo hi
def TO.w (X:Cx) (o:Option Expr):TO:=fun σ H Q=>∃ t,PO X o t/\t σ H Q
theorem Qus {o:Option Expr}:PO X o (TO.w X o):=fun pins s σ H Q I ⟨t,h,q⟩=>h pins s σ H Q I q
theorem Vy {lo hi:Option Expr} {ml mh:Gam->Q2->Res (Option Int)} {p2:Pos} (ha:SimE X E a ma) (hl:SimO X E lo ml) (hh:SimO X E hi mh):SimE X E (.Subscript a (.Slice lo hi none p2) pos) (mSl ma ml mh):=
 ⟨fun Γ σ H ρ st Q R G h=>WE.of (Qja (sl_tup.or (sl_whole.or Qms)) Yk Qus Qus) (ha.use R G h.bind fun p st1 H1 ρ1 v x1 R1 G1 r1 h1=>by
  refine hl.run Γ σ H1 ρ1 st1 _ _ R1 G1 h1.bind fun l st2 H2 ρ2 x2 R2 G2 h2=>?_
  refine hh.run Γ σ H2 ρ2 st2 _ _ R2 G2 h2.bind fun u st3 H3 ρ3 x3 R3 G3 h3=>?_
  have r3:=r1.ext (x2.trans x3);unfold oSl at h3
  split at h3
  ·rename_i xs;obtain ⟨a,vs,rfl,ha,na,ra⟩:=r3
   by_cases hw:HT.sIx vs.length 0 l=0/\HT.sIx vs.length vs.length u=vs.length
   ·refine .inr (.inl ⟨a,vs,rfl,SqT.of ha,hw,?_⟩);have e:cut xs l u=xs:=by
     unfold cut;rw [ra.length,hw.1,hw.2,List.drop_zero,Nat.sub_zero,<- ra.length,List.take_length]
    rw [e] at h3;exact now R3 h3 ⟨a,vs,rfl,ha,na,ra⟩
   ·exact .inl ⟨a,vs,rfl,SqT.of ha,hw,Q3i R3 h3 (ra.cut l u)⟩
  ·split at h3
   ·rename_i xs e;obtain ⟨a,vs,rfl,ha,ra⟩:=Q3r R3 r3 e;exact .inr (.inr ⟨a,vs,rfl,.inl ha,Q3j R3 h3 (ra.cut l u)⟩)
   ·exact h3.elim)⟩
variable {es:List Expr} {e:Expr} {mr:Gam->Q2->Res (List PV)}
def J5 (o:CF) (mr:Gam->Q2->Res (List PV)):ME:=fun Γ st=>(mr Γ st).bind fun ps st1=>o st1 ps
theorem CallS.use {f:Value} {o:CF} (s:CallS X E f o) {P:PV->Q2->Hp->Tk->Prop} {Q:VK} {H:Hp} {ρ:Tk} {st:Q2} {ps:List PV} {xs:List V} (R:Rel H ρ st) (rp:RepL H ρ ps xs) (h:Acc X.mg E H ρ P (o st ps))
  (k:∀ p st1 H1 ρ1 v,Ext H ρ H1 ρ1->Rel H1 ρ1 st1->Rep H1 ρ1 p v->P p st1 H1 ρ1->Q v H1):WC X f xs H Q:=by
 refine s.run H ρ st ps xs Q R rp ?_;cases r:o st ps with
 | ok p st1=>rw [r] at h; exact fun H' ρ' x' R' v rv=>k p st1 H' ρ' v x' R' rv (h H' ρ' x' R')
 | exc e st=>rw [r] at h; exact h
 | stuck=>rw [r] at h; exact h
theorem Qt {id:String} {x:Str} {p:Pos} {o:CF} (hc:CallS X E (.builtin id) o) (hg:Gl X x) (hm:X.mg x=none) (hv:bootBuiltins x=some (.builtin id)) (ha:SimA X E (e :: es) mr) (hn:x≠"__name__" := by decide) (hdb:(x == ("__debug__" : Str))=false:=by decide)
  (he:starEach (e :: es) X.env=(false,eval e X.env) :: starEach es X.env:=by rfl) (hpl:(backTo pos (starEach es X.env)).any (·.1)=false:=by rfl):SimE X E (.Call (.Name x p) (e :: es) [] pos) (J5 o mr):=
 ⟨fun Γ σ H ρ st Q R G h=>WE.of (Qch Qkt hg hm hv Q3b hn hdb he hpl) (ha.use R G h.bind fun ps st1 H1 ρ1 vs x1 R1 G1 r1 h1=>hc.use R1 r1 h1 fun _ _ _ _ v _ _ r q=>q v r)⟩
theorem K7 {T:String} {x:Str} {p:Pos} {o:CF} (hc:CallS X E (.type T) o) (hg:Gl X x) (hm:X.mg x=none) (hv:bootBuiltins x=some (.type T)) (ha:SimA X E (e :: es) mr) (hn:x≠"__name__" := by decide) (hdb:(x == ("__debug__" : Str))=false:=by decide)
  (he:starEach (e :: es) X.env=(false,eval e X.env) :: starEach es X.env:=by rfl) (hpl:(backTo pos (starEach es X.env)).any (·.1)=false:=by rfl):SimE X E (.Call (.Name x p) (e :: es) [] pos) (J5 o mr):=
 ⟨fun Γ σ H ρ st Q R G h=>WE.of (Qgp Qkt hg hm hv Q3b hn hdb he hpl) (ha.use R G h.bind fun ps st1 H1 ρ1 vs x1 R1 G1 r1 h1=>hc.use R1 r1 h1 fun _ _ _ _ v _ _ r q=>q v r)⟩
theorem Wn {H:Hp} {ρ:Tk} {p:PV} {xs:List V} (r:RepL H ρ [p] xs):∃ v,xs=[v]/\Rep H ρ p v:=by
 obtain ⟨v,t,rfl,h1,h2⟩:=r;cases h2;exact ⟨v,rfl,h1⟩
theorem Q39 {H:Hp} {ρ:Tk} {p q:PV} {xs:List V} (r:RepL H ρ [p,q] xs):∃ v u,xs=[v,u]/\Rep H ρ p v/\Rep H ρ q u:=by
 obtain ⟨v,t,rfl,h1,h2⟩:=r;obtain ⟨u,rfl,h3⟩:=Wn h2;exact ⟨v,u,rfl,h1,h3⟩
def Yp:CF:=fun st ps=>match ps with
 | [p]=>match Uv st p with
  | some xs=>.ok (.int xs.length) st
  | none=>match p with
   | .str x=>if x.length<=lim then .ok (.int x.length) st else .stuck
   | _=>.stuck
 | _=>.stuck
theorem Yc:CallS X E (.builtin "len") Yp:=⟨fun H ρ st ps xs Q R rp h=>by
 unfold Yp at h
 split at h
 ·rename_i p;obtain ⟨v,rfl,r⟩:=Wn rp
  split at h
  ·rename_i ys e;obtain ⟨t,a,vs,rfl,hq,ra⟩:=Q45 (K:=X.K) R r e;rw [ra.length] at h;exact WC.of Qbp ⟨a,vs,rfl,Qij hq,now R h rfl⟩
  ·split at h
   ·cases r
    split at h
    ·rename_i hl;exact WC.of Qbn ⟨_,rfl,Xy hl,now R h rfl⟩
    ·exact h.elim
   ·exact h.elim
 ·exact h.elim⟩
def Xb (g:List Int->Option PV):CF:=fun st ps=>match ps with
 | [p]=>match (Uv st p).bind zn with
  | some ns=>okO st (g ns)
  | none=>.stuck
 | _=>.stuck
def Q27 (g:List Bool->PV):CF:=fun st ps=>match ps with
 | [p]=>match (Uv st p).bind Q5f with
  | some ns=>.ok (g ns) st
  | none=>.stuck
 | _=>.stuck
theorem Q81 {K:PySem.W.Frag} {H:Hp} {ρ:Tk} {st:Q2} {p:PV} {v:V} {ns:List Int} (R:Rel H ρ st) (r:Rep H ρ p v) (e:(Uv st p).bind zn=some ns):∃ (t:Bool) (a:Addr),v=.ref a/\SqK K t H a (ns.map V.int):=by
 cases q:Uv st p with
 | none=>rw [q] at e; cases e
 | some xs=>
  rw [q] at e;obtain ⟨t,a,vs,rfl,hq,ra⟩:=Q45 (K:=K) R r q;rw [Q64 e] at ra;rw [ra.toInts] at hq;exact ⟨t,a,rfl,hq⟩
theorem Qg0 {K:PySem.W.Frag} {H:Hp} {ρ:Tk} {st:Q2} {p:PV} {v:V} {ns:List Bool} (R:Rel H ρ st) (r:Rep H ρ p v) (e:(Uv st p).bind Q5f=some ns):∃ (t:Bool) (a:Addr),v=.ref a/\SqK K t H a (ns.map V.bl):=by
 cases q:Uv st p with
 | none=>rw [q] at e; cases e
 | some xs=>
  rw [q] at e;obtain ⟨t,a,vs,rfl,hq,ra⟩:=Q45 (K:=K) R r q;rw [Qm2 e] at ra;rw [ra.toBls] at hq;exact ⟨t,a,rfl,hq⟩
theorem Q8c (hc:X.calm=true):CallS X E (.builtin "sum") (Xb fun ns=>some (.int ns.sum)):=⟨fun H ρ st ps xs Q R rp h=>by
 unfold Xb at h
 split at h
 ·obtain ⟨v,rfl,r⟩:=Wn rp
  split at h
  ·rename_i ns e;obtain ⟨t,a,rfl,hq⟩:=Q81 (K:=X.K) R r e;exact WC.of (Qku t hc) ⟨a,ns,rfl,hq,now R h rfl⟩
  ·exact h.elim
 ·exact h.elim⟩
theorem Q8d (hc:X.calm=true):CallS X E (.builtin "all") (Q27 fun ns=>.bl (ns.all id)):=⟨fun H ρ st ps xs Q R rp h=>by
 unfold Q27 at h
 split at h
 ·obtain ⟨v,rfl,r⟩:=Wn rp
  split at h
  ·rename_i ns e;obtain ⟨t,a,rfl,hq⟩:=Qg0 (K:=X.K) R r e;exact WC.of (Qkw t hc) ⟨a,ns,rfl,hq,now R h rfl⟩
  ·exact h.elim
 ·exact h.elim⟩
theorem Qkn (hc:X.calm=true):CallS X E (.builtin "any") (Q27 fun ns=>.bl (ns.any id)):=⟨fun H ρ st ps xs Q R rp h=>by
 unfold Q27 at h
 split at h
 ·obtain ⟨v,rfl,r⟩:=Wn rp
  split at h
  ·rename_i ns e;obtain ⟨t,a,rfl,hq⟩:=Qg0 (K:=X.K) R r e;exact WC.of (Qkv t hc) ⟨a,ns,rfl,hq,now R h rfl⟩
  ·exact h.elim
 ·exact h.elim⟩
def maxI:List Int->Option Int
 | []=>none
 | n :: ns=>some (ns.foldl (fun a b=>if b > a then b else a) n)
def Qxw:List Int->Option Int
 | []=>none
 | n :: ns=>some (ns.foldl (fun a b=>if b < a then b else a) n)
theorem Qaa:∀ (ns:List Int) (n:Int),(ns.foldl (fun a b=>if b > a then b else a) n=n\/ns.foldl (fun a b=>if b > a then b else a) n∈ns)/\n<=ns.foldl (fun a b=>if b > a then b else a) n/\∀ k∈ns,k<=ns.foldl (fun a b=>if b > a then b else a) n
 | [],n=>⟨.inl rfl,Int.le_refl _,fun k h=>by cases h⟩
 | m :: ns,n=>by
  obtain ⟨h1,h2,h3⟩:=Qaa ns (if m > n then m else n);rw [List.foldl_cons];refine ⟨?_,?_,fun k hk=>?_⟩
  ·rcases h1 with e | e
   ·by_cases hm:m > n
    ·rw [if_pos hm] at e ⊢; exact .inr (by rw [e]; exact D4)
    ·rw [if_neg hm] at e ⊢; exact .inl e
   ·exact .inr (D0 _ e)
  ·by_cases hm:m > n
   ·rw [if_pos hm] at h2 ⊢; omega
   ·rw [if_neg hm] at h2 ⊢; exact h2
  ·rcases E3.mp hk with rfl | hk
   ·by_cases hm:k > n
    ·rw [if_pos hm] at h2 ⊢; exact h2
    ·rw [if_neg hm] at h2 ⊢; omega
   ·exact h3 k hk
theorem Qa9:∀ (ns:List Int) (n:Int),(ns.foldl (fun a b=>if b < a then b else a) n=n\/ns.foldl (fun a b=>if b < a then b else a) n∈ns)/\ns.foldl (fun a b=>if b < a then b else a) n<=n/\∀ k∈ns,ns.foldl (fun a b=>if b < a then b else a) n<=k
 | [],n=>⟨.inl rfl,Int.le_refl _,fun k h=>by cases h⟩
 | m :: ns,n=>by
  obtain ⟨h1,h2,h3⟩:=Qa9 ns (if m < n then m else n);rw [List.foldl_cons];refine ⟨?_,?_,fun k hk=>?_⟩
  ·rcases h1 with e | e
   ·by_cases hm:m < n
    ·rw [if_pos hm] at e ⊢; exact .inr (by rw [e]; exact D4)
    ·rw [if_neg hm] at e ⊢; exact .inl e
   ·exact .inr (D0 _ e)
  ·by_cases hm:m < n
   ·rw [if_pos hm] at h2 ⊢; omega
   ·rw [if_neg hm] at h2 ⊢; exact h2
  ·rcases E3.mp hk with rfl | hk
   ·by_cases hm:k < n
    ·rw [if_pos hm] at h2 ⊢; exact h2
    ·rw [if_neg hm] at h2 ⊢; omega
   ·exact h3 k hk
def Q8h:CF:=fun st ps=>match ps with
 | [.int a,.int b]=>.ok (.int (if b > a then b else a)) st
 | ps=>Xb (fun ns=>(maxI ns).map .int) st ps
def Qhv:CF:=fun st ps=>match ps with
 | [.int a,.int b]=>.ok (.int (if b < a then b else a)) st
 | ps=>Xb (fun ns=>(Qxw ns).map .int) st ps
theorem Qbj (hc:X.calm=true):CallS X E (.builtin "max") Q8h:=⟨fun H ρ st ps xs Q R rp h=>by
 unfold Q8h at h
 split at h
 ·obtain ⟨v,u,rfl,r1,r2⟩:=Q39 rp;cases r1; cases r2;exact WC.of (Qhs hc) ⟨_,_,rfl,now R h rfl⟩
 ·unfold Xb at h
  split at h
  ·obtain ⟨v,rfl,r⟩:=Wn rp
   split at h
   ·rename_i ns e;cases ns with
    | nil=>exact h.elim
    | cons n ns=>
     obtain ⟨t,a,rfl,hq⟩:=Q81 (K:=X.K) R r e;refine WC.of (Qhr t hc) ⟨a,_,rfl,hq,by simp,fun m hm hk=>?_⟩;have em:m=ns.foldl (fun a b=>if b > a then b else a) n:=by
      obtain ⟨h1,h2,h3⟩:=Qaa ns n;have g1:ns.foldl (fun a b=>if b > a then b else a) n<=m:=by
       rcases h1 with e | e
       ·rw [e]; exact hk _ D4
       ·exact hk _ (D0 _ e)
      have g2:m<=ns.foldl (fun a b=>if b > a then b else a) n:=by
       rcases E3.mp hm with rfl | hm
       ·exact h2
       ·exact h3 m hm
      omega
     subst em;exact now R h rfl
   ·exact h.elim
  ·exact h.elim⟩
theorem Qt1 (hc:X.calm=true):CallS X E (.builtin "min") Qhv:=⟨fun H ρ st ps xs Q R rp h=>by
 unfold Qhv at h
 split at h
 ·obtain ⟨v,u,rfl,r1,r2⟩:=Q39 rp;cases r1; cases r2;exact WC.of (Qhq hc) ⟨_,_,rfl,now R h rfl⟩
 ·unfold Xb at h
  split at h
  ·obtain ⟨v,rfl,r⟩:=Wn rp
   split at h
   ·rename_i ns e;cases ns with
    | nil=>exact h.elim
    | cons n ns=>
     obtain ⟨t,a,rfl,hq⟩:=Q81 (K:=X.K) R r e;refine WC.of (Qhp t hc) ⟨a,_,rfl,hq,by simp,fun m hm hk=>?_⟩;have em:m=ns.foldl (fun a b=>if b < a then b else a) n:=by
      obtain ⟨h1,h2,h3⟩:=Qa9 ns n;have g1:m<=ns.foldl (fun a b=>if b < a then b else a) n:=by
       rcases h1 with e | e
       ·rw [e]; exact hk _ D4
       ·exact hk _ (D0 _ e)
      have g2:ns.foldl (fun a b=>if b < a then b else a) n<=m:=by
       rcases E3.mp hm with rfl | hm
       ·exact h2
       ·exact h3 m hm
      omega
     subst em;exact now R h rfl
   ·exact h.elim
  ·exact h.elim⟩
def Q1f:CF:=fun st ps=>match ps with
 | [p]=>match Uv st p with
  | some xs=>.ok (.lst xs) st
  | none=>.stuck
 | _=>.stuck
def Uh:CF:=fun st ps=>match ps with
 | [p]=>match Uv st p with
  | some xs=>.ok (.tup xs) st
  | none=>.stuck
 | _=>.stuck
theorem Qpz:CallS X E (.type "list") Q1f:=⟨fun H ρ st ps xs Q R rp h=>by
 unfold Q1f at h
 split at h
 ·obtain ⟨v,rfl,r⟩:=Wn rp
  split at h
  ·rename_i ys e;obtain ⟨t,a,vs,rfl,hq,ra⟩:=Q45 (K:=X.K) R r e;exact WC.of Qbm ⟨a,vs,rfl,Qij hq,Q3j R h ra⟩
  ·exact h.elim
 ·exact h.elim⟩
theorem yc:CallS X E (.type "tuple") Uh:=⟨fun H ρ st ps xs Q R rp h=>by
 unfold Uh at h
 split at h
 ·rename_i p;obtain ⟨v,rfl,r⟩:=Wn rp
  split at h
  ·rename_i ys e;cases p with
   | tup zs=>
    cases e;obtain ⟨a,vs,rfl,ha,na,ra⟩:=r;exact WC.of Q2d ⟨a,vs,rfl,.inr ⟨SqT.of ha,now R h ⟨a,vs,rfl,ha,na,ra⟩⟩⟩
   | _=>
    obtain ⟨a,vs,rfl,ha,ra⟩:=Q3r R r e;exact WC.of Q2d ⟨a,vs,rfl,.inl ⟨.inl ha,Q3i R h ra⟩⟩
  ·exact h.elim
 ·exact h.elim⟩
def tyN:PV->String
 | .non => "NoneType"
 | .bl _ => "bool"
 | .int _ => "int"
 | .str _ => "str"
 | .tup _ => "tuple"
 | .lst _ => "list"
 | .fro _ => "list"
 | .ref _ => "list"
 | .dic => "dict"
def dpv (st:Q2):PV->PV
 | .ref i=>match st[i]? with
  | some (.dic _)=>.dic
  | some (.dtp _)=>.dic
  | _=>.ref i
 | p=>p
def isI (T:String) (p:PV):Bool:=tyN p == T || (T == "int" && tyN p == "bool")
def y3 (st:Q2):PV->Bool
 | .ref i=>match st[i]? with
  | some (.frd _)=>true
  | some (.obj _ _)=>true
  | _=>false
 | _=>false
theorem Qu0 {K:PySem.W.Frag} {H:Hp} {ρ:Tk} {st:Q2} {p:PV} {v:V} (nf:y3 st p=false) (R:Rel H ρ st) (r:Rep H ρ p v):TyOf K H v (.type (tyN (dpv st p))):=by
 cases p with
 | non=>cases r; exact .non
 | bl b=>cases r; exact .bl b
 | int i=>cases r; exact .int i
 | str x=>cases r; exact .str x
 | tup ps=>obtain ⟨a,vs,rfl,h,_⟩:=r; exact .tup h
 | lst ps=>obtain ⟨a,vs,rfl,h,_⟩:=r; exact .lst h
 | fro ps=>
  obtain ⟨a,vs,rfl,h,_⟩:=r;rcases h with h | ⟨o,h⟩
  ·exact .lst h
  ·exact .frz h
 | ref i=>
  obtain ⟨a,e,rfl⟩:=r;have hl:i < st.length:=by rw [<- R.len]; exact (O1.mp e).1
  have hs:=O4 hl;have q:=R.cell i a st[i] e hs;cases hc:st[i] with
  | lst xs=>rw [hc] at q hs; simp only [dpv,hs]; obtain ⟨vs,h,_⟩:=q; exact .lst h
  | dic xs=>rw [hc] at q hs; simp only [dpv,hs]; obtain ⟨vs,h,_⟩:=q; exact .dK h
  | dtp xs=>rw [hc] at q hs; simp only [dpv,hs]; obtain ⟨vs,h,_⟩:=q; exact .dT h
  | frd xs=>rw [hc] at hs; simp only [y3,hs] at nf; cases nf
  | obj C xs=>rw [hc] at hs; simp only [y3,hs] at nf; cases nf
 | dic=>obtain ⟨a,rfl,h,_⟩:=r; exact .dK h
def Q7z:List String:=["int", "bool", "str", "tuple", "list", "dict"]
theorem Qss (K:PySem.W.Frag) {T:String} (hT:T∈Q7z) (p:PV):PySem.W.kitOne K (.type (tyN p)) (.type T)=some (isI T p):=by
 have hT:T = "int" \/ T = "bool" \/ T = "str" \/ T = "tuple" \/ T = "list" \/ T = "dict" := by simpa [Q7z] using hT
 rcases hT with rfl | rfl | rfl | rfl | rfl | rfl <;> cases p <;> first | rfl | kernel_rfl
def Q2u (T:String) (m:ME):ME:=fun Γ st=>(m Γ st).bind fun p st1=>if y3 st1 p=true then .stuck else .ok (.bl (isI T (dpv st1 p))) st1
theorem Ki {T:String} {tx:Str} {a:Expr} {ma:ME} {p tp:Pos} (hT:T∈Q7z) (ha:SimE X E a ma) (hg:Gl X "isinstance") (hm:X.mg "isinstance" = none) (hgT:Gl X tx) (hmT:X.mg tx=none) (hvT:bootBuiltins tx=some (.type T))
  (hn:tx≠"__name__" := by decide) (hd:(tx == ("__debug__" : Str))=false:=by decide)
  (he:starEach [a,.Name tx tp] X.env=(false,eval a X.env) :: starEach [.Name tx tp] X.env:=by rfl) (he2:starEach [.Name tx tp] X.env=(false,eval (.Name tx tp) X.env) :: starEach [] X.env:=by rfl) (hpl:(backTo pos (starEach [.Name tx tp] X.env)).any (·.1)=false:=by rfl) :
  SimE X E (.Call (.Name "isinstance" p) [a,.Name tx tp] [] pos) (Q2u T ma):=
 ⟨fun Γ σ H ρ st Q R G h=>WE.of (Qch Qdf hg hm Q5x (xr Yk (xr (Qnq hgT hmT hvT (v:=.ty T) rfl hn hd) Q74 he2) he) (by decide) (by decide) he hpl)
  (ha.use R G h.bind fun q st1 H1 ρ1 v x1 R1 G1 r1 h1=>by
   by_cases nf:y3 st1 q=true
   ·rw [if_pos nf] at h1; exact h1.elim
   ·rw [if_neg nf] at h1;exact ⟨v,.ty T,.type T,_,_,rfl,rfl,Qu0 (by simpa using nf) R1 r1,Qss X.K hT (dpv st1 q),now R1 h1 rfl⟩)⟩
end
abbrev GA:=PV->Gam->Option Gam
abbrev GAs:=List PV->Gam->Option Gam
structure SimG (X:Cx) (tg:Expr) (ga:GA):Prop where
 run:∀ (Γ Γ':Gam) (σ:St) (H:Hp) (ρ:Tk) (p:PV) (v:V) (Q:St->Hp->Prop),EnvR H ρ Γ σ->Rep H ρ p v->ga p Γ=some Γ'->(∀ σ',EnvR H ρ Γ' σ'->Q σ' H)->∃ t,PG X tg t/\t v σ H Q
structure SimGs (X:Cx) (tgs:List Expr) (n:Nat) (ga:GAs):Prop where
 run:∀ (Γ Γ':Gam) (σ:St) (H:Hp) (ρ:Tk) (ps:List PV) (vs:List V) (Q:St->Hp->Prop),EnvR H ρ Γ σ->RepL H ρ ps vs->ga ps Γ=some Γ'->(∀ σ',EnvR H ρ Γ' σ'->Q σ' H)->∃ t,PGs X tgs t/\t vs σ H Q
 len:∀ ps Γ Γ',ga ps Γ=some Γ'->ps.length=n
def Qn (i:Nat):GA:=fun p Γ=>some (Γ.set i (some p))
def Ka:GAs:=fun ps Γ=>match ps with
 | []=>some Γ
 | _=>none
def Zx (g:GA) (gs:GAs):GAs:=fun ps Γ=>match ps with
 | p :: r=>(g p Γ).bind (gs r)
 | []=>none
def K9 (gs:GAs):GA:=fun p Γ=>match p with
 | .tup ps=>gs ps Γ
 | _=>none
section
variable {X:Cx} {pos:Pos}
theorem J1 {i:Nat} {x:Str} (hN:X.N.Nodup) (hi:X.N[i]?=some x:=by rfl) (hx:Loc X.env.scope x:=by first | exact Or.inl rfl | exact Or.inr rfl) (hf:X.fn x=true\/X.env.scope.names.lookup x=some .local:=by first | exact .inl rfl | exact .inr rfl):SimG X (.Name x pos) (Qn i):=
 ⟨fun Γ Γ' σ H ρ p v Q G r e k=>⟨_,Qnh hN hi hx hf,by cases e; exact k _ (G.set r i)⟩⟩
theorem yn:SimGs X [] 0 Ka:=⟨fun Γ Γ' σ H ρ ps vs Q G r e k=>⟨_,Qnf,by
 cases ps with
 | nil=>cases e; cases r; exact ⟨rfl,k σ G⟩
 | cons _ _=>cases e⟩,fun ps Γ Γ' e=>by
 cases ps with
 | nil=>rfl
 | cons _ _=>cases e⟩
def WGx (X:Cx) (tg:Expr):TG:=fun v σ H Q=>∃ t,PG X tg t/\t v σ H Q
theorem Qng {tg:Expr}:PG X tg (WGx X tg):=fun pins s σ H v u Q I r ⟨t,h,q⟩=>h pins s σ H v u Q I r q
def Qy7 (X:Cx) (tgs:List Expr):TGs:=fun v σ H Q=>∃ t,PGs X tgs t/\t v σ H Q
theorem Qqj {tgs:List Expr}:PGs X tgs (Qy7 X tgs):=fun pins s σ H v u Q I r ⟨t,h,q⟩=>h pins s σ H v u Q I r q
theorem W4 {e:Expr} {es:List Expr} {g:GA} {gs:GAs} {n:Nat} (h1:SimG X e g) (h2:SimGs X es n gs) (hs:(assignEach (e :: es) X.env).map (·.2)=assign e X.env :: (assignEach es X.env).map (·.2):=by rfl):SimGs X (e :: es) (n + 1) (Zx g gs):=
 ⟨fun Γ Γ' σ H ρ ps vs Q G r eq k=>⟨_,Qj7 Qng Qqj hs,by
  cases ps with
  | nil=>cases eq
  | cons p ps=>
   obtain ⟨v,t,rfl,r1,r2⟩:=r;have eq:(g p Γ).bind (gs ps)=some Γ':=eq;cases e1:g p Γ with
   | none=>rw [e1] at eq; cases eq
   | some Γ1=>
    rw [e1] at eq;exact ⟨v,t,rfl,h1.run Γ Γ1 σ H ρ p v _ G r1 e1 fun σ1 G1=>h2.run Γ1 Γ' σ1 H ρ ps t _ G1 r2 eq k⟩⟩,fun ps Γ Γ' e=>by
  cases ps with
  | nil=>cases e
  | cons p ps=>
   have e:(g p Γ).bind (gs ps)=some Γ':=e;cases e1:g p Γ with
   | none=>rw [e1] at e; cases e
   | some Γ1=>rw [e1] at e; rw [D8,h2.len ps Γ1 Γ' e]⟩
theorem Q2f {es:List Expr} {k n:Nat} {gs:GAs} (hc:X.calm=true) (h:SimGs X es n gs) (hn:(assignEach es X.env).length=n:=by rfl) (hst:(assignEach es X.env).findIdx? (·.1)=none:=by rfl):SimG X (.Tuple es k pos) (K9 gs):=
 ⟨fun Γ Γ' σ H ρ p v Q G r e q=>⟨_,Qrt hc Qqj hn hst,by
  cases p with
  | tup ps=>
   obtain ⟨a,vs,rfl,ha,na,ra⟩:=r;exact ⟨a,vs,rfl,SqT.of ha,by rw [<- ra.length]; exact h.len ps Γ Γ' e,h.run Γ Γ' σ H ρ ps vs Q G ra e q⟩
  | _=>cases e⟩⟩
end
abbrev Wt:=List (Nat × Cell)
def wOk (w:Wt) (st:Q2):Prop:=∀ x∈w,st[x.1]?=some x.2
theorem yg (st:Q2):wOk [] st:=fun x h=>by cases h
structure Src (J:It) (items:List PV) (w:Wt) (H:Hp) (ρ:Tk):Prop where
 stop:∀ H2 ρ2 st2,Ext H ρ H2 ρ2->Rel H2 ρ2 st2->wOk w st2->J.stop items.length H2
 go:∀ H2 ρ2 st2,Ext H ρ H2 ρ2->Rel H2 ρ2 st2->wOk w st2->∀ i,i < items.length->J.go i H2
 yld:∀ H2 ρ2 st2,Ext H ρ H2 ρ2->Rel H2 ρ2 st2->wOk w st2->∀ i p,items[i]?=some p->∀ x H3,J.yld i H2 x H3->Same H2 H3/\Rep H3 ρ2 p x
abbrev MI:=Gam->Q2->Res (List PV × Wt)
structure SimI (X:Cx) (E:XK) (tg iter:Expr) (mi:MI):Prop where
 run:∀ (Γ:Gam) (σ:St) (H:Hp) (ρ:Tk) (st:Q2) (P:List PV × Wt->Q2->Hp->Tk->Prop) (R':It->Hp->Prop),Rel H ρ st->EnvR H ρ Γ σ->Acc X.mg E H ρ P (mi Γ st) ->
  (∀ iw st1 H1 ρ1 J,mi Γ st=.ok iw st1->Ext H ρ H1 ρ1->Rel H1 ρ1 st1->EnvR H1 ρ1 Γ σ->wOk iw.2 st1->iw.1.length<=sizeLine->Src J iw.1 iw.2 H1 ρ1->P iw st1 H1 ρ1->R' J H1)->WI X tg iter σ H R'
def Ut (st:Q2):PV->Option (List PV × Wt)
 | .tup xs=>some (xs,[])
 | .lst xs=>some (xs,[])
 | .fro xs=>some (xs,[])
 | .ref i=>match st[i]? with
  | some (.lst xs)=>some (xs,[(i,.lst xs)])
  | _=>none
 | _=>none
theorem Qas {K:PySem.W.Frag} {H:Hp} {ρ:Tk} {st:Q2} {p:PV} {v:V} {xs:List PV} {w:Wt} (R:Rel H ρ st) (r:Rep H ρ p v) (e:Ut st p=some (xs,w)) :
  wOk w st/\∃ (t:Bool) (a:Addr),v=.ref a/\(t=true->∃ ys,p=.tup ys)/\(t=false->∀ ys,p≠.tup ys)/\∀ H2 ρ2 st2,Ext H ρ H2 ρ2->Rel H2 ρ2 st2->wOk w st2->∃ vs,SqK K t H2 a vs/\RepL H2 ρ2 xs vs:=by
 cases p with
 | tup ys=>
  obtain ⟨a,vs,rfl,ha,na,ra⟩:=r;cases e;exact ⟨yg _,true,a,rfl,fun _=>⟨_,rfl⟩,(fun z=>by cases z),fun H2 ρ2 st2 x R2 _=>⟨vs,show SqT K H2 a vs from SqT.of (x.kp ha na),ra.ext x⟩⟩
 | lst ys=>
  obtain ⟨a,vs,rfl,ha,na,ra⟩:=r;cases e;exact ⟨yg _,false,a,rfl,(fun z=>by cases z),(fun _ _ z=>by cases z),fun H2 ρ2 st2 x R2 _=>⟨vs,show SqL K H2 a vs from SqL.of (x.kp ha na),ra.ext x⟩⟩
 | fro ys=>
  obtain ⟨a,vs,rfl,ha,na,ra⟩:=r;cases e;refine ⟨yg _,false,a,rfl,(fun z=>by cases z),(fun _ _ z=>by cases z),fun H2 ρ2 st2 x R2 _=>⟨vs,show SqL K H2 a vs from ?_,ra.ext x⟩⟩
  rcases ha with ha | ⟨o,ha⟩
  ·exact .inl (.inl (x.kp ha na))
  ·exact .inl (.inr ⟨o,x.kp ha na⟩)
 | ref i=>
  obtain ⟨a,ea,rfl⟩:=r;simp only [Ut] at e
  split at e
  ·rename_i ys hs;cases e;refine ⟨fun x hx=>?_,false,a,rfl,(fun z=>by cases z),(fun _ _ z=>by cases z),fun H2 ρ2 st2 x R2 ok=>?_⟩
   ·have:x=(i,.lst xs):=by simpa using hx
    subst this; exact hs
   ·have hs2:=ok (i,.lst xs) (by simp);obtain ⟨b,vs,f1,f2,f3⟩:=R2.lst hs2;obtain ⟨t,et⟩:=x.pre;rw [<- et,O6 (O1.mp ea).1,ea] at f1;cases f1;exact ⟨vs,show SqL K H2 a vs from SqL.of f2,f3⟩
  ·cases e
 | _=>cases e
section
variable {X:Cx} {E:XK} {pos:Pos} {tg:Expr} {e:Expr} {m:ME}
def zw (m:ME):MI:=fun Γ st=>(m Γ st).bind fun p st1=>match Ut st1 p with
 | some (xs,w)=>if xs.length<=lim then .ok (xs,w) st1 else .stuck
 | none=>.stuck
theorem RepL.i {H:Hp} {ρ:Tk} {ps:List PV} {vs:List V} {i:Nat} {p:PV} {x:V} (r:RepL H ρ ps vs) (h:ps[i]?=some p) (h':vs[i]?=some x):Rep H ρ p x:=by
 obtain ⟨v,e,q⟩:=r.get h;rw [h'] at e; cases e;exact q
theorem Qf3 {K:PySem.W.Frag} {H:Hp} {ρ:Tk} {t:Bool} {a:Addr} {xs:List PV} {w:Wt} (h:∀ H2 ρ2 st2,Ext H ρ H2 ρ2->Rel H2 ρ2 st2->wOk w st2->∃ vs,SqK K t H2 a vs/\RepL H2 ρ2 xs vs):Src (if t=true then Itt K a else Itl K a) xs w H ρ:=by
 cases t with
 | true=>
  rw [if_pos rfl];refine ⟨fun H2 ρ2 st2 x R ok=>?_,fun H2 ρ2 st2 x R ok i hi=>?_,fun H2 ρ2 st2 x R ok i p hp y H3 hy=>?_⟩
  ·obtain ⟨vs,s,r⟩:=h H2 ρ2 st2 x R ok;exact ⟨vs,s,by rw [r.length]; exact O7 _⟩
  ·obtain ⟨vs,s,r⟩:=h H2 ρ2 st2 x R ok;have hi':i < vs.length:=by rw [<- r.length]; exact hi
   exact ⟨vs,vs[i],s,O4 hi'⟩
  ·obtain ⟨vs,s,r⟩:=h H2 ρ2 st2 x R ok;obtain ⟨rfl,hv⟩:=hy;exact ⟨Same.refl _,r.i hp (hv vs s)⟩
 | false=>
  rw [if_neg D7];refine ⟨fun H2 ρ2 st2 x R ok=>?_,fun H2 ρ2 st2 x R ok i hi=>?_,fun H2 ρ2 st2 x R ok i p hp y H3 hy=>?_⟩
  ·obtain ⟨vs,s,r⟩:=h H2 ρ2 st2 x R ok;exact ⟨vs,s,by rw [r.length]; exact O7 _⟩
  ·obtain ⟨vs,s,r⟩:=h H2 ρ2 st2 x R ok;have hi':i < vs.length:=by rw [<- r.length]; exact hi
   exact ⟨vs,vs[i],s,O4 hi'⟩
  ·obtain ⟨vs,s,r⟩:=h H2 ρ2 st2 x R ok;obtain ⟨rfl,hv⟩:=hy;exact ⟨Same.refl _,r.i hp (hv vs s)⟩
theorem Qfm {mg:Str->Option Value} {H:Hp} {ρ:Tk} {st:Q2} {p:PV} {P:List PV × Wt->Q2->Hp->Tk->Prop} (R:Rel H ρ st) (h:Acc mg E H ρ P (match Ut st p with | some (xs,w)=>if xs.length<=lim then .ok (xs,w) st else .stuck | none=>.stuck)) :
  ∃ xs w,Ut st p=some (xs,w)/\xs.length<=lim/\P (xs,w) st H ρ:=by
 split at h
 ·rename_i xs w e
  split at h
  ·rename_i hl;exact ⟨xs,w,e,hl,h H ρ (Ext.refl _ _) R⟩
  ·exact h.elim
 ·exact h.elim
theorem Xp (ha:SimE X E e m):SimI X E tg e (zw m):=⟨fun Γ σ H ρ st P R' R G h k=>by
 have hb:Acc X.mg E H ρ _ (m Γ st):=Acc.bind h
 by_cases ht:∃ ys st1,m Γ st=.ok (.tup ys) st1
 ·obtain ⟨ys,st0,e0⟩:=ht;refine WI.of (Qrs Yk) (ha.use' R G hb fun p st1 H1 ρ1 v eq x1 R1 G1 r1 h1=>?_);obtain ⟨xs,w,e,hl,hP⟩:=Qfm R1 h1;obtain ⟨ok,t,a,rfl,t1,t2,sq⟩:=Qas (K:=X.K) R1 r1 e;have ep:p=.tup ys:=by rw [eq] at e0; injection e0
  cases t with
  | false=>exact absurd ep (t2 rfl ys)
  | true=>
   obtain ⟨vs,s,_⟩:=sq H1 ρ1 st1 (Ext.refl _ _) R1 ok;exact ⟨a,rfl,⟨vs,s⟩,k (xs,w) st1 H1 ρ1 _ (by simp only [zw,eq,Res.bind,e,if_pos hl]) x1 R1 G1 ok (Xy hl) (Qf3 sq) hP⟩
 ·refine WI.of (Qne Yk) (ha.use' R G hb fun p st1 H1 ρ1 v eq x1 R1 G1 r1 h1=>?_);obtain ⟨xs,w,e,hl,hP⟩:=Qfm R1 h1;obtain ⟨ok,t,a,rfl,t1,t2,sq⟩:=Qas (K:=X.K) R1 r1 e;cases t with
  | true=>
   obtain ⟨ys,rfl⟩:=t1 rfl;exact absurd ⟨ys,st1,eq⟩ ht
  | false=>
   obtain ⟨vs,s,_⟩:=sq H1 ρ1 st1 (Ext.refl _ _) R1 ok;exact ⟨a,rfl,⟨vs,s⟩,k (xs,w) st1 H1 ρ1 _ (by simp only [zw,eq,Res.bind,e,if_pos hl]) x1 R1 G1 ok (Xy hl) (Qf3 sq) hP⟩⟩
def Ya (lo:Int) (n:Nat):List PV:=(List.range n).map fun (k:Nat)=>PV.int (lo + (k:Int))
theorem Q9s {H:Hp} {ρ:Tk} {lo:Int} {n:Nat}:Src (Itr lo n) (Ya lo n) [] H ρ:=by
 have hl:(Ya lo n).length=n:=by unfold Ya; rw [O2,G6]
 refine ⟨fun H2 ρ2 st2 x R ok=>?_,fun H2 ρ2 st2 x R ok i hi=>?_,fun H2 ρ2 st2 x R ok i p hp y H3 hy=>?_⟩
 ·show n<=(Ya lo n).length;omega
 ·show i < n;omega
 ·obtain ⟨rfl,rfl⟩:=hy;have hi:i < n:=by rw [<- hl]; exact (O1.mp hp).1
  unfold Ya at hp;rw [E6,List.getElem?_range hi] at hp;cases hp;exact ⟨Same.refl _,rfl⟩
def Ys (mr:Gam->Q2->Res (List PV)):MI:=fun Γ st=>(mr Γ st).bind fun ps st1=>match ps with
 | [.int j]=>if -(lim:Int)<=j/\j<=lim then .ok (Ya 0 j.toNat,[]) st1 else .stuck
 | _=>.stuck
def Q3n (mr:Gam->Q2->Res (List PV)):MI:=fun Γ st=>(mr Γ st).bind fun ps st1=>match ps with
 | [.int i,.int j]=>if -(lim:Int)<=i/\i<=lim/\-(lim:Int)<=j/\j<=lim then .ok (Ya i (j - i).toNat,[]) st1 else .stuck
 | _=>.stuck
variable {a b:Expr} {mr:Gam->Q2->Res (List PV)} {p:Pos}
theorem Q6z (lo:Int) (n:Nat):(Ya lo n).length=n:=by unfold Ya; rw [O2,G6]
theorem Yr (hg:Gl X "range") (hm:X.mg "range" = none) (ha:SimA X E [a] mr) (hs:starEach [a] X.env=[(false,eval a X.env)]:=by rfl):SimI X E tg (.Call (.Name "range" p) [a] [] pos) (Ys mr):=⟨fun Γ σ H ρ st P R' R G h k=>by
 refine WI.of (Qgn hg hm Q3b hs) (ha.use' R G h.bind fun ps st1 H1 ρ1 vs eq x1 R1 G1 r1 h1=>?_)
 split at h1
 ·rename_i j
  split at h1
  ·rename_i hj;obtain ⟨v,rfl,rv⟩:=Wn r1;cases rv;have hl:(lim:Int)=1000000:=rfl;refine ⟨j,rfl,by omega,by omega,k (Ya 0 j.toNat,[]) st1 H1 ρ1 _ (by simp only [Ys,eq,Res.bind,if_pos hj]) x1 R1 G1 (yg _) ?_ Q9s (h1 H1 ρ1 (Ext.refl _ _) R1)⟩;show (Ya 0 j.toNat).length<=sizeLine;rw [Q6z];exact Xy (by omega)
  ·exact h1.elim
 ·exact h1.elim⟩
theorem Qg8 (hg:Gl X "range") (hm:X.mg "range" = none) (ha:SimA X E [a,b] mr) (hs:starEach [a,b] X.env=[(false,eval a X.env),(false,eval b X.env)]:=by rfl) (hs2:starEach [b] X.env=[(false,eval b X.env)]:=by rfl):SimI X E tg (.Call (.Name "range" p) [a,b] [] pos) (Q3n mr):=⟨fun Γ σ H ρ st P R' R G h k=>by
 refine WI.of (Qgm hg hm Q3b hs hs2) (ha.use' R G h.bind fun ps st1 H1 ρ1 vs eq x1 R1 G1 r1 h1=>?_)
 split at h1
 ·rename_i i j
  split at h1
  ·rename_i hj;obtain ⟨v,u,rfl,rv,ru⟩:=Q39 r1;cases rv; cases ru;have hl:(lim:Int)=1000000:=rfl;refine ⟨i,j,rfl,⟨by omega,by omega,by omega,by omega⟩,k (Ya i (j - i).toNat,[]) st1 H1 ρ1 _ (by simp only [Q3n,eq,Res.bind,if_pos hj]) x1 R1 G1 (yg _) ?_ Q9s (h1 H1 ρ1 (Ext.refl _ _) R1)⟩;show (Ya i (j - i).toNat).length<=sizeLine;rw [Q6z];exact F1 (show (j - i).toNat<=2000000 by omega) (by decide)
  ·exact h1.elim
 ·exact h1.elim⟩
def Q31:List PV->List PV->List PV
 | x :: xs,y :: ys=>.tup [x,y] :: Q31 xs ys
 | _,_=>[]
theorem Qan (xs ys:List PV):Q31 xs ys=(xs.zip ys).map fun z=>.tup [z.1,z.2]:=by
 induction xs generalizing ys with
 | nil=>rfl
 | cons x xs ih=>
  cases ys with
  | nil=>rfl
  | cons y ys=>rw [Q31,ih]; rfl
theorem Q6c (xs ys:List PV):(Q31 xs ys).length=min xs.length ys.length:=by rw [Qan,O2,List.length_zip]
theorem Qi6 {xs ys:List PV} {i:Nat} {p:PV} (h:(Q31 xs ys)[i]?=some p):∃ x y,p=.tup [x,y]/\xs[i]?=some x/\ys[i]?=some y:=by
 rw [Qan,E6] at h;cases e:(xs.zip ys)[i]? with
 | none=>rw [e] at h; cases h
 | some z=>
  rw [e] at h; cases h;rw [List.getElem?_zip_eq_some] at e;exact ⟨z.1,z.2,rfl,e.1,e.2⟩
def Q5v (mr:Gam->Q2->Res (List PV)):MI:=fun Γ st=>(mr Γ st).bind fun ps st1=>match ps with
 | [p,q]=>match Ut st1 p,Ut st1 q with
  | some (xs,w),some (ys,w')=>if xs.length<=lim then .ok (Q31 xs ys,w ++ w') st1 else .stuck
  | _,_=>.stuck
 | _=>.stuck
theorem Q1n {w w':Wt} {st:Q2} (h:wOk (w ++ w') st):wOk w st/\wOk w' st:=⟨fun x hx=>h x (F5 _ hx),fun x hx=>h x (E4 _ hx)⟩
theorem Qmq {K:PySem.W.Frag} {H:Hp} {ρ:Tk} {t1 t2:Bool} {a b:Addr} {xs ys:List PV} {w w':Wt} (h:∀ H2 ρ2 st2,Ext H ρ H2 ρ2->Rel H2 ρ2 st2->wOk w st2->∃ vs,SqK K t1 H2 a vs/\RepL H2 ρ2 xs vs)
  (h':∀ H2 ρ2 st2,Ext H ρ H2 ρ2->Rel H2 ρ2 st2->wOk w' st2->∃ vs,SqK K t2 H2 b vs/\RepL H2 ρ2 ys vs):Src (Itz K t1 t2 a b) (Q31 xs ys) (w ++ w') H ρ:=by
 refine ⟨fun H2 ρ2 st2 x R ok=>?_,fun H2 ρ2 st2 x R ok i hi=>?_,fun H2 ρ2 st2 x R ok i p hp y H3 hy=>?_⟩
 ·obtain ⟨vs,s,r⟩:=h H2 ρ2 st2 x R (Q1n ok).1;obtain ⟨us,s',r'⟩:=h' H2 ρ2 st2 x R (Q1n ok).2;refine ⟨vs,us,s,s',?_⟩;rw [Q6c,<- r.length,<- r'.length];omega
 ·obtain ⟨vs,s,r⟩:=h H2 ρ2 st2 x R (Q1n ok).1;obtain ⟨us,s',r'⟩:=h' H2 ρ2 st2 x R (Q1n ok).2;rw [Q6c,r.length,r'.length] at hi;have h1:i < vs.length:=by omega
  have h2:i < us.length:=by omega
  exact ⟨vs,us,vs[i],us[i],s,s',O4 h1,O4 h2⟩
 ·obtain ⟨vs,s,r⟩:=h H2 ρ2 st2 x R (Q1n ok).1;obtain ⟨us,s',r'⟩:=h' H2 ρ2 st2 x R (Q1n ok).2;obtain ⟨q,u,v,hn,rfl,rfl,hv⟩:=hy;obtain ⟨e1,e2⟩:=hv vs us s s';obtain ⟨xp,yp,rfl,p1,p2⟩:=Qi6 hp;have sm:Same H2 (upd H2 q (.tup [u,v])):=Qis hn;exact ⟨sm,q,[u,v],rfl,J8,R.fresh hn,RepL.cons ((r.i p1 e1).ext (Ext.same sm)) (RepL.cons ((r'.i p2 e2).ext (Ext.same sm)) RepL.nil)⟩
theorem Q44 {elts:List Expr} {kt:Nat} {tp:Pos} (hg:Gl X "zip") (hm:X.mg "zip" = none) (ha:SimA X E [a,b] mr) (hs:starEach [a,b] X.env=[(false,eval a X.env),(false,eval b X.env)]:=by rfl) (hs2:starEach [b] X.env=[(false,eval b X.env)]:=by rfl) :
  SimI X E (.Tuple elts kt tp) (.Call (.Name "zip" p) [a,b] [] pos) (Q5v mr):=⟨fun Γ σ H ρ st P R' R G h k=>by
 have hb:Acc X.mg E H ρ _ (mr Γ st):=Acc.bind h;have main:∀ t1 t2:Bool,(∀ p q st1,mr Γ st=.ok [p,q] st1->(t1=true <-> ∃ ys,p=.tup ys)/\(t2=true <-> ∃ ys,q=.tup ys))->WI X (.Tuple elts kt tp) (.Call (.Name "zip" p) [a,b] [] pos) σ H R':=fun t1 t2 ht=>by
  refine WI.of (Qrq t1 t2 hg hm Q3b hs hs2) (ha.use' R G hb fun ps st1 H1 ρ1 vs eq x1 R1 G1 r1 h1=>?_)
  split at h1
  ·rename_i p' q'
   split at h1
   ·rename_i xs w ys w' e1 e2
    split at h1
    ·rename_i hl;obtain ⟨v,u,rfl,rv,ru⟩:=Q39 r1;obtain ⟨ok1,b1,a1,rfl,z1,z1',sq1⟩:=Qas (K:=X.K) R1 rv e1;obtain ⟨ok2,b2,a2,rfl,z2,z2',sq2⟩:=Qas (K:=X.K) R1 ru e2;obtain ⟨g1,g2⟩:=ht _ _ _ eq;have eb1:b1=t1:=by
      cases b1 with
      | true=>exact (g1.mpr (z1 rfl)).symm
      | false=>
       cases t1 with
       | false=>rfl
       | true=>obtain ⟨ys,e⟩:=g1.mp rfl; exact absurd e (z1' rfl ys)
     have eb2:b2=t2:=by
      cases b2 with
      | true=>exact (g2.mpr (z2 rfl)).symm
      | false=>
       cases t2 with
       | false=>rfl
       | true=>obtain ⟨ys,e⟩:=g2.mp rfl; exact absurd e (z2' rfl ys)
     subst eb1; subst eb2;obtain ⟨vs1,s1,_⟩:=sq1 H1 ρ1 st1 (Ext.refl _ _) R1 ok1;obtain ⟨vs2,s2,_⟩:=sq2 H1 ρ1 st1 (Ext.refl _ _) R1 ok2;refine ⟨a1,a2,vs1,vs2,rfl,s1,s2,k (Q31 xs ys,w ++ w') st1 H1 ρ1 _ (by simp only [Q5v,eq,Res.bind,e1,e2,if_pos hl]) x1 R1 G1 (fun x hx=>?_) ?_ (Qmq sq1 sq2) (h1 H1 ρ1 (Ext.refl _ _) R1)⟩
     ·rcases E9.mp hx with hx | hx
      ·exact ok1 x hx
      ·exact ok2 x hx
     ·show (Q31 xs ys).length<=sizeLine;rw [Q6c];exact Xy (F1 (Nat.min_le_left _ _) hl)
    ·exact h1.elim
   ·exact h1.elim
  ·exact h1.elim
 have tt:∀ p:PV,∃ t:Bool,t=true <-> ∃ ys,p=.tup ys:=fun p=>by
  cases p with
  | tup ys=>exact ⟨true,fun _=>⟨ys,rfl⟩,fun _=>rfl⟩
  | _=>exact ⟨false,⟨fun z=>(by cases z),fun ⟨_,z⟩=>(by cases z)⟩⟩
 by_cases hz:∃ p q st1,mr Γ st=.ok [p,q] st1
 ·obtain ⟨p0,q0,st0,e0⟩:=hz;obtain ⟨t1,g1⟩:=tt p0;obtain ⟨t2,g2⟩:=tt q0;refine main t1 t2 fun p q st1 e=>?_
  rw [e0] at e; cases e;exact ⟨g1,g2⟩
 ·exact main true true fun p q st1 e=>absurd ⟨p,q,st1,e⟩ hz⟩
end
section
abbrev ML:=Gam->Q2->Res (List PV)
structure SimN (X:Cx) (E:XK) (e:Expr) (m:ML):Prop where
 run:∀ (Γ:Gam) (σ:St) (H:Hp) (ρ:Tk) (st:Q2) (P:List PV->Q2->Hp->Tk->Prop) (Q:VK),Rel H ρ st->EnvR H ρ Γ σ->Acc X.mg E H ρ P (m Γ st) ->
  (∀ ps st1 H1 ρ1 a vs,m Γ st=.ok ps st1->Ext H ρ H1 ρ1->Rel H1 ρ1 st1->a∈ρ1.hid->H a=none->H1 a=some (.lst vs)->RepL H1 ρ1 ps vs->Q (.ref a) H1)->WE X e σ H Q
def Xv (m:ML):ME:=fun Γ st=>(m Γ st).bind fun ps st1=>.ok (.lst ps) st1
def Q0i (m:ML):ME:=fun Γ st=>(m Γ st).bind fun ps st1=>.ok (.ref st1.length) (st1 ++ [.lst ps])
section
variable {H0 H:Hp} {ρ0 ρ:Tk} {st:Q2} {a:Addr} {ps:List PV} {vs:List V}
theorem Qfe (R0:Rel H0 ρ0 st) (x:Ext H0 ρ0 H ρ) {st1:Q2} (R:Rel H ρ st1) (hm:a∈ρ.hid) (hn:H0 a=none) (ha:H a=some (.lst vs)) (r:RepL H ρ ps vs) :
  Ext H0 ρ0 H ⟨ρ.tr,ρ0.hid⟩/\Rel H ⟨ρ.tr,ρ0.hid⟩ st1/\Rep H ⟨ρ.tr,ρ0.hid⟩ (.lst ps) (.ref a):=
 ⟨x.unhide,R.unhide x.hidM,a,vs,rfl,ha,(fun z=>by
  rcases z with z | z
  ·exact R.ap a hm z
  ·obtain ⟨o,e,_⟩:=R0.hd a z;rw [hn] at e; cases e),r.unhide x.hidM⟩
mutual
theorem Rep.trk {b:Addr} {hs:List Addr} (hb:b∈ρ.hid) (hh:∀ c,c∈hs->c∈ρ.hid):∀ {p:PV} {v:V},Rep H ρ p v->Rep H ⟨ρ.tr ++ [b],hs⟩ p v
 | .non,_,r=>r
 | .bl _,_,r=>r
 | .int _,_,r=>r
 | .str _,_,r=>r
 | .tup ps,v,⟨c,vs,e,s,n,r⟩=>⟨c,vs,e,s,fun z=>by
   rcases z with z | z
   ·rcases E9.mp z with z | z
    ·exact n (.inl z)
    ·have:c=b:=by simpa using z
     subst this; exact n (.inr hb)
   ·exact n (.inr (hh _ z)),RepL.trk hb hh r⟩
 | .lst ps,v,⟨c,vs,e,s,n,r⟩=>⟨c,vs,e,s,fun z=>by
   rcases z with z | z
   ·rcases E9.mp z with z | z
    ·exact n (.inl z)
    ·have:c=b:=by simpa using z
     subst this; exact n (.inr hb)
   ·exact n (.inr (hh _ z)),RepL.trk hb hh r⟩
 | .fro ps,v,⟨c,vs,e,s,n,r⟩=>⟨c,vs,e,s,fun z=>by
   rcases z with z | z
   ·rcases E9.mp z with z | z
    ·exact n (.inl z)
    ·have:c=b:=by simpa using z
     subst this; exact n (.inr hb)
   ·exact n (.inr (hh _ z)),RepL.trk hb hh r⟩
 | .ref i,v,⟨c,e,e2⟩=>⟨c,by show (ρ.tr ++ [b])[i]?=some c; rw [O6 (O1.mp e).1]; exact e,e2⟩
 | .dic,v,⟨c,e,s,n⟩=>⟨c,e,s,fun z=>by
   rcases z with z | z
   ·rcases E9.mp z with z | z
    ·exact n (.inl z)
    ·have:c=b:=by simpa using z
     subst this; exact n (.inr hb)
   ·exact n (.inr (hh _ z))⟩
theorem RepL.trk {b:Addr} {hs:List Addr} (hb:b∈ρ.hid) (hh:∀ c,c∈hs->c∈ρ.hid):∀ {ps:List PV} {vs:List V},RepL H ρ ps vs->RepL H ⟨ρ.tr ++ [b],hs⟩ ps vs
 | [],_,r=>r
 | p :: ps,_,⟨v,t,e,r1,r2⟩=>⟨v,t,e,Rep.trk hb hh r1,RepL.trk hb hh r2⟩
end
theorem Qns (R0:Rel H0 ρ0 st) (x:Ext H0 ρ0 H ρ) {st1:Q2} (R:Rel H ρ st1) (hm:a∈ρ.hid) (hn:H0 a=none) (ha:H a=some (.lst vs)) (r:RepL H ρ ps vs) :
  Ext H0 ρ0 H ⟨ρ.tr ++ [a],ρ0.hid⟩/\Rel H ⟨ρ.tr ++ [a],ρ0.hid⟩ (st1 ++ [.lst ps])/\Rep H ⟨ρ.tr ++ [a],ρ0.hid⟩ (.ref st1.length) (.ref a):=by
 have na0:a∉ρ0.hid:=fun z=>by
  obtain ⟨o,e,_⟩:=R0.hd a z;rw [hn] at e; cases e
 refine ⟨⟨x.pre.trans (List.prefix_append _ _),fun _ h=>h,fun _ h=>.inl h,x.keep,fun b hb=>?_,x.old,x.frz⟩,⟨?_,?_,fun b hb=>R.hd b (x.hidM b hb),fun b hb z=>?_,fun i b c h1 h2=>?_⟩,a,?_,rfl⟩
 ·rcases E9.mp hb with z | z
  ·exact x.new b z
  ·have:b=a:=by simpa using z
   subst this; exact .inr hn
 ·show (ρ.tr ++ [a]).length=_;rw [O8,O8,R.len]; rfl
 ·show (ρ.tr ++ [a]).Nodup;refine List.nodup_append.mpr ⟨R.nd,by simp,fun b hb c hc e=>?_⟩;have:c=a:=by simpa using hc
  subst this; subst e;exact R.ap b hm hb
 ·rcases E9.mp z with z | z
  ·exact R.ap b (x.hidM b hb) z
  ·have:b=a:=by simpa using z
   subst this; exact na0 hb
 ·have h1:(ρ.tr ++ [a])[i]?=some b:=h1
  by_cases hi:i < st1.length
  ·rw [O6 (by rw [R.len]; exact hi)] at h1;rw [O6 hi] at h2;have q:=R.cell i b c h1 h2;cases c with
   | lst qs=>
    obtain ⟨us,e1,e2⟩:=q;exact ⟨us,e1,e2.trk hm x.hidM⟩
   | dic qs=>
    obtain ⟨us,e1,e2⟩:=q;exact ⟨us,e1,e2.1,e2.2.trk hm x.hidM⟩
   | dtp qs=>
    obtain ⟨us,e1,e2⟩:=q;exact ⟨us,e1,e2.1,e2.2.trk hm x.hidM⟩
   | frd qs=>
    obtain ⟨us,e1,e2⟩:=q;exact ⟨us,e1,e2.1,e2.2.trk hm x.hidM⟩
   | obj C qs=>
    obtain ⟨us,e1,e2⟩:=q;exact ⟨us,e1,e2.1,e2.2.trk hm x.hidM⟩
  ·rw [D1 (by rw [R.len]; omega)] at h1;rw [D1 (by omega)] at h2;have e0:i - st1.length=0:=by
    rcases Nat.eq_zero_or_pos (i - st1.length) with z | z
    ·exact z
    ·rw [List.getElem?_eq_none (by simp; omega)] at h2; cases h2
   rw [R.len,e0] at h1;rw [e0] at h2;simp at h1 h2;subst h1; subst h2;exact ⟨vs,ha,r.trk hm x.hidM⟩
 ·show (ρ.tr ++ [a])[st1.length]?=some a;rw [<- R.len,D1 (O7 _),Nat.sub_self]; rfl
end
section
variable {X:Cx} {E:XK} {pos:Pos} {e:Expr} {m:ML}
theorem Wu (h:SimN X E e m):SimE X E e (Xv m):=⟨fun Γ σ H ρ st Q R G hq=>h.run Γ σ H ρ st _ Q R G hq.bind fun ps st1 H1 ρ1 a vs eq x R1 hm hn ha r=>by
 obtain ⟨x2,R2,r2⟩:=Qfe R x R1 hm hn ha r;unfold Xv at hq;rw [eq] at hq;exact hq _ _ x2 R2 _ r2⟩
theorem Kh (h:SimN X E e m):SimE X E e (Q0i m):=⟨fun Γ σ H ρ st Q R G hq=>h.run Γ σ H ρ st _ Q R G hq.bind fun ps st1 H1 ρ1 a vs eq x R1 hm hn ha r=>by
 obtain ⟨x2,R2,r2⟩:=Qns R x R1 hm hn ha r;unfold Q0i at hq;rw [eq] at hq;exact hq _ _ x2 R2 _ r2⟩
variable {es:List Expr} {mr:Gam->Q2->Res (List PV)} {a b:Expr} {ma mb:ME}
theorem Qsf {H1:Hp} {ρ1:Tk} {st1:Q2} {H:Hp} {ρ:Tk} {Q:VK} {ps:List PV} {vs:List V} (x:Ext H ρ H1 ρ1) (R1:Rel H1 ρ1 st1) (r:RepL H1 ρ1 ps vs)
  (k:∀ H1 ρ1 a vs,Ext H ρ H1 ρ1->Rel H1 ρ1 st1->a∈ρ1.hid->H a=none->H1 a=some (.lst vs)->RepL H1 ρ1 ps vs->Q (.ref a) H1):∀ p,H1 p=none->Q (.ref p) (upd H1 p (.lst vs)):=fun p hp=>by
 refine k _ (ρ1.hide p) p vs (x.trans (Ext.hide hp)) (R1.hide hp) D4 ?_ J8 (r.hide hp);cases e:H p with
 | none=>rfl
 | some o=>
  obtain ⟨o',e'⟩:=x.old p o e;rw [hp] at e'; cases e'
def jq (mr:Gam->Q2->Res (List PV)):ML:=fun Γ st=>(mr Γ st).bind fun ps st1=>if ps.length<=lim then .ok ps st1 else .stuck
theorem ym (h:SimA X E es mr):SimN X E (.List es pos) (jq mr):=
 ⟨fun Γ σ H ρ st P Q R G hq k=>WE.of (Qjc Q3b) (h.use' R G hq.bind fun ps st1 H1 ρ1 vs eq x1 R1 G1 r1 h1=>by
  by_cases hl:ps.length<=lim
  ·refine ⟨by rw [<- r1.length]; exact Xy hl,Qsf x1 R1 r1 fun H2 ρ2 a us=>k ps st1 H2 ρ2 a us ?_⟩;unfold jq;rw [eq];exact if_pos hl
  ·rw [if_neg hl] at h1; exact h1.elim)⟩
end
end
def Zk (cap:List (Option Nat)) (Γ:Gam):Gam:=cap.map fun c=>c.bind fun j=>(Γ[j]?).join
theorem EnvR.cap {H:Hp} {ρ:Tk} {Γ:Gam} {σ:St} (h:EnvR H ρ Γ σ) (cap:List (Option Nat)):EnvR H ρ (Zk cap Γ) (Q3y cap σ):=by
 refine ⟨by unfold Zk Q3y; rw [O2,O2],fun i p e=>?_⟩;unfold Zk at e;unfold Q3y;rw [E6] at e ⊢;cases q:cap[i]? with
 | none=>rw [q] at e; cases e
 | some c=>
  rw [q] at e;cases c with
  | none=>cases e
  | some j=>
   have e':(Γ[j]?).join=some p:=Option.some.inj e;cases r:Γ[j]? with
   | none=>rw [r] at e'; cases e'
   | some o=>
    rw [r] at e';have:o=some p:=e';subst this;obtain ⟨v,e1,e2⟩:=h.2 j p r;exact ⟨v,by show some ((σ[j]?).join)=some (some v); rw [e1]; rfl,e2⟩
def Qam (cap:List (Option Nat)) (ga:GA):Prop:=∀ Γ p Γ1,ga p (Zk cap Γ)=some Γ1->Γ1.length=(Zk cap Γ).length/\∀ (i:Nat) (q:PV),(Zk cap Γ)[i]?=some (some q)->Γ1[i]?=some (some q)
theorem Qae {cap:List (Option Nat)} {i:Nat} (h:cap[i]?=some none) (Γ:Gam):(Zk cap Γ)[i]?=some none:=by
 unfold Zk;rw [E6,h]; rfl
theorem Jm {cap:List (Option Nat)} {i:Nat} (h:cap[i]?=some none:=by rfl):Qam cap (Qn i):=fun Γ p Γ1 e=>by
 cases e;refine ⟨D5 ..,fun j q hj=>?_⟩;rw [O5 fun z=>?_]
 ·exact hj
 ·subst z; rw [Qae h] at hj; cases hj
def Qg3 (cap:List (Option Nat)) (ga:GAs):Prop:=∀ Γ ps Γ0 Γ1,(∀ (i:Nat) (q:PV),(Zk cap Γ)[i]?=some (some q)->Γ0[i]?=some (some q))->ga ps Γ0=some Γ1->Γ1.length=Γ0.length/\∀ (i:Nat) (q:PV),(Zk cap Γ)[i]?=some (some q)->Γ1[i]?=some (some q)
theorem Q3u {cap:List (Option Nat)}:Qg3 cap Ka:=fun Γ ps Γ0 Γ1 h e=>by
 cases ps with
 | nil=>cases e; exact ⟨rfl,h⟩
 | cons _ _=>cases e
theorem Um {cap:List (Option Nat)} {i:Nat} {gs:GAs} (hs:Qg3 cap gs) (h:cap[i]?=some none:=by rfl):Qg3 cap (Zx (Qn i) gs):=fun Γ ps Γ0 Γ1 h0 e=>by
 cases ps with
 | nil=>cases e
 | cons p ps=>
  obtain ⟨a,b⟩:=hs Γ ps (Γ0.set i (some p)) Γ1 (fun k r hk=>by
   rw [O5 fun z=>?_]
   ·exact h0 k r hk
   ·subst z; rw [Qae h] at hk; cases hk) e
  exact ⟨by rw [a,D5],b⟩
theorem Q3t {cap:List (Option Nat)} {gs:GAs} (hs:Qg3 cap gs):Qam cap (K9 gs):=fun Γ p Γ1 e=>by
 cases p with
 | tup ps=>exact hs Γ ps _ Γ1 (fun _ _ h=>h) e
 | _=>cases e
open Classical in
def Z0 (ga:GA) (mt:MT) (me:ME) (w:Wt) (Γ0:Gam):List PV->Q2->Res (List PV)
 | [],st=>if wOk w st then .ok [] st else .stuck
 | x :: xs,st=>if wOk w st then (match ga x Γ0 with
  | none=>.stuck
  | some Γ1=>(mt Γ1 st).bind fun b st1=>if b=true then (me Γ1 st1).bind fun y st2=>(Z0 ga mt me w Γ0 xs st2).bind fun ys st3=>.ok (y :: ys) st3 else Z0 ga mt me w Γ0 xs st1) else .stuck
def noX {α:Type}:Res α->Res α
 | .exc _ _=>.stuck
 | r=>r
def Yb (cap:List (Option Nat)) (ga:GA) (mi:MI) (mt:MT) (me:ME):ML:=fun Γ st=>(mi Γ st).bind fun iw st1=>noX (Z0 ga mt me iw.2 (Zk cap Γ) iw.1 st1)
structure SimTs (X:Cx) (ifs:List Expr) (m:MT):Prop where
 run:∀ (Γ:Gam) (σ:St) (H:Hp) (ρ:Tk) (st:Q2) (P:Bool->Q2->Hp->Tk->Prop) (Q:Bool->Hp->Prop),Rel H ρ st->EnvR H ρ Γ σ->Acc X.mg E0 H ρ P (m Γ st) ->
  (∀ b st1 H1 ρ1,m Γ st=.ok b st1->Ext H ρ H1 ρ1->Rel H1 ρ1 st1->EnvR H1 ρ1 Γ σ->Q b H1)->∃ t,PTs X ifs t/\t σ H Q
def Zn:MT:=fun _ st=>.ok true st
theorem Yz {X:Cx}:SimTs X [] Zn:=⟨fun Γ σ H ρ st P Q R G h k=>⟨_,Qn7,k true st H ρ rfl (Ext.refl _ _) R G⟩⟩
theorem yj {X:Cx} {c:Expr} {m:MT} (hc:SimT X E0 c m):SimTs X [c] m:=⟨fun Γ σ H ρ st P Q R G h k=>⟨_,Qn6 Qcd,hc.use' R G h fun b st1 H1 ρ1 e x1 R1 G1 p=>k b st1 H1 ρ1 e x1 R1 G1⟩⟩
theorem Qq9 {α:Type} {mg:Str->Option Value} {E E':XK} {H:Hp} {ρ:Tk} {P:α->Q2->Hp->Tk->Prop} {r:Res α} (h:Acc mg E H ρ P (noX r)):Acc mg E' H ρ P r:=by
 cases r with
 | ok a st=>exact h
 | exc x st=>exact h.elim
 | stuck=>exact h
theorem Res.assoc {α β γ:Type} (r:Res α) (f:α->Q2->Res β) (g:β->Q2->Res γ):(r.bind f).bind g=r.bind fun a st=>(f a st).bind g:=by cases r <;> rfl
theorem Acc.assoc {α β γ:Type} {mg:Str->Option Value} {E:XK} {H:Hp} {ρ:Tk} {P:γ->Q2->Hp->Tk->Prop} {r:Res α} {f:α->Q2->Res β} {g:β->Q2->Res γ} (h:Acc mg E H ρ P ((r.bind f).bind g)):Acc mg E H ρ P (r.bind fun a st=>(f a st).bind g):=by
 rw [<- Res.assoc]; exact h
theorem EnvR.le {H:Hp} {ρ:Tk} {Γ Γ':Gam} {σ:St} (h:EnvR H ρ Γ' σ) (hl:Γ.length=σ.length) (k:∀ (i:Nat) (q:PV),Γ[i]?=some (some q)->Γ'[i]?=some (some q)):EnvR H ρ Γ σ:=⟨hl,fun i p e=>h.2 i p (k i p e)⟩
section
variable {X:Cx} {E:XK} {pos:Pos} {tg iter elt:Expr} {ifs:List Expr} {N N':List Str} {sc scE:Scope} {cap:List (Option Nat)} {ga:GA} {mi:MI} {mt:MT} {me:ME}
def aE (X:Cx) (N':List Str) (sc:Scope) (e:Expr):TE:=fun σ H Q=>∀ cl C s0 H0 ex,WE (Uj X N' sc cl C s0 H0 ex) e σ H Q
def aG (X:Cx) (N':List Str) (sc:Scope) (tg:Expr):TG:=fun v σ H Q=>∀ cl C s0 H0 ex,WGx (Uj X N' sc cl C s0 H0 ex) tg v σ H Q
def aT (X:Cx) (N':List Str) (sc:Scope) (ifs:List Expr):TT:=fun σ H Q=>∀ cl C s0 H0 ex,∃ t,PTs (Uj X N' sc cl C s0 H0 ex) ifs t/\t σ H Q
theorem Qhj {Γ:Gam} {σ:St} {H1:Hp} {ρ1:Tk} {st1:Q2} {J:It} {items:List PV} {w:Wt} {Q:VK} {P:List PV->Q2->Hp->Tk->Prop} (hg:∀ cl C s0 H0 ex,SimG (Uj X N' sc cl C s0 H0 ex) tg ga) (he:∀ cl C s0 H0 ex,SimE (Uj X N' sc cl C s0 H0 ex) E0 elt me) (ht:∀ cl C s0 H0 ex,SimTs (Uj X N' sc cl C s0 H0 ex) ifs mt)
  (hf:Qam cap ga) (R1:Rel H1 ρ1 st1) (G1:EnvR H1 ρ1 Γ σ) (src:Src J items w H1 ρ1) (hlen:items.length<=sizeLine) (h:Acc X.mg E0 H1 ρ1 P (Z0 ga mt me w (Zk cap Γ) items st1))
  (k:∀ ys st2 H2 ρ2 acc vs,Z0 ga mt me w (Zk cap Γ) items st1=.ok ys st2->Ext H1 ρ1 H2 ρ2->Rel H2 ρ2 st2->acc∈ρ2.hid->H1 acc=none->H2 acc=some (.lst vs)->RepL H2 ρ2 ys vs->Q (.ref acc) H2):Qac J cap (aG X N' sc tg) (aT X N' sc ifs) (aE X N' sc elt) σ H1 Q:=by
 intro acc hacc;let W:Nat->Nat->List V->St->Hp->Prop:=fun i m vs σ' H'=>m=items.length - i/\i<=items.length/\vs.length<=i/\∃ ρ' st' ys,Ext H1 ρ1 H' ρ'/\acc∈ρ'.hid/\Rel H' ρ' st'/\EnvR H' ρ' (Zk cap Γ) σ'/\H' acc=some (.lst vs)/\RepL H' ρ' ys vs /\
  Z0 ga mt me w (Zk cap Γ) items st1=(Z0 ga mt me w (Zk cap Γ) (items.drop i) st').bind fun zs st3=>.ok (ys ++ zs) st3
 refine ⟨W,⟨_,rfl,Nat.zero_le _,O7 _,ρ1.hide acc,st1,[],Ext.hide hacc,D4,R1.hide hacc,(G1.cap cap).hide hacc,J8,rfl,?_⟩,?_⟩
 ·rw [List.drop_zero];cases r:Z0 ga mt me w (Zk cap Γ) items st1 with
  | ok zs st3=>rfl
  | exc x st3=>rfl
  | stuck=>rfl
 rintro i m vs σ' H' ⟨hm,hi,hvl,ρ',st',ys,x,hmem,R',G',ha,ry,hq⟩;have hA:Acc X.mg E0 H1 ρ1 P ((Z0 ga mt me w (Zk cap Γ) (items.drop i) st').bind fun zs st3=>.ok (ys ++ zs) st3):=by rw [<- hq]; exact h
 refine ⟨ha,?_⟩
 by_cases hlt:i < items.length
 ·right
  have hd:items.drop i=items[i] :: items.drop (i + 1):=List.drop_eq_getElem_cons hlt;rw [hd,Z0] at hA hq
  by_cases hw:wOk w st'
  ·rw [if_pos hw] at hA hq;refine ⟨src.go H' _ st' x R' hw i hlt,by omega,fun y H2 hy=>?_⟩;obtain ⟨sm,ry2⟩:=src.yld H' _ st' x R' hw i _ (O4 hlt) y H2 hy;cases eg:ga items[i] (Zk cap Γ) with
   | none=>rw [eg] at hA; exact hA.elim
   | some Γ1=>
    rw [eg] at hA hq;have x2:Ext H' ρ' H2 ρ':=Ext.same sm;have R2:=R'.same sm;intro cl C s0 H0 ex;refine (hg cl C s0 H0 ex).run (Zk cap Γ) Γ1 σ' H2 ρ' _ y _ (G'.ext x2) ry2 eg fun σ3 G3=>?_
    intro cl C s0 H0 ex;have hA2:=Acc.later hA (x.trans x2);refine (ht cl C s0 H0 ex).run Γ1 σ3 H2 ρ' st' _ _ R2 G3 (Acc.bind (Acc.assoc hA2)) fun b st4 H4 ρ4 e4 x4 R4 G4=>?_
    simp only [e4,Res.bind] at hA hq;have G0:∀ {H'':Hp} {ρ'':Tk},EnvR H'' ρ'' Γ1 σ3->EnvR H'' ρ'' (Zk cap Γ) σ3:=fun {H'' ρ''} g=>g.le (by
     rw [<- G3.1];exact (hf Γ _ Γ1 eg).1.symm) (hf Γ _ Γ1 eg).2
    have x14:Ext H1 ρ1 H4 ρ4:=x.trans (x2.trans x4);have hm4:acc∈ρ4.hid:=x4.hidM acc hmem;have na:acc∉ρ'.tr:=R'.ap acc hmem;have ha4:H4 acc=some (.lst vs):=x4.keep acc _ (sm acc _ ha) na;have ry4:RepL H4 ρ4 ys vs:=ry.ext (x2.trans x4);cases b with
    | false=>
     rw [if_neg D7] at hA hq ⊢;exact ⟨_,show items.length - (i + 1) < m by omega,rfl,hlt,by omega,ρ4,st4,ys,x14,hm4,R4,G0 G4,ha4,ry4,hq⟩
    | true=>
     rw [if_pos rfl] at hA hq ⊢;intro cl C s0 H0 ex;have hA4:=Acc.later hA x14;refine (he cl C s0 H0 ex).use' R4 G4 (Acc.bind (Acc.assoc hA4)) fun z st5 H5 ρ5 zv e5 x5 R5 G5 r5 h5=>?_
     simp only [e5,Res.bind] at hA hq;have hm5:acc∈ρ5.hid:=x5.hidM acc hm4;have ha5:H5 acc=some (.lst vs):=x5.keep acc _ ha4 (R4.ap acc hm4);have x15:Ext H1 ρ1 H5 ρ5:=x14.trans x5;refine ⟨ha5,_,show items.length - (i + 1) < m by omega,rfl,hlt,by rw [O8]; simp; omega,ρ5,st5,ys ++ [z],x15.put0 hacc,hm5,R5.rehide hm5,(G0 G5).rehide hm5,J8,((ry4.ext x5).append (RepL.cons r5 RepL.nil)).rehide hm5,?_⟩;refine hq.trans ?_;cases rr:Z0 ga mt me w (Zk cap Γ) (items.drop (i + 1)) st5 with
     | ok zs st6=>
      show Res.ok (ys ++ z :: zs) st6=Res.ok ((ys ++ [z]) ++ zs) st6;rw [List.append_assoc]; rfl
     | exc x6 st6=>rfl
     | stuck=>rfl
  ·rw [if_neg hw] at hA; exact hA.elim
 ·left
  have ei:i=items.length:=by omega
  subst ei;rw [List.drop_length,Z0] at hA hq
  by_cases hw:wOk w st'
  ·rw [if_pos hw] at hA hq;refine ⟨src.stop H' _ st' x R' hw,?_⟩;have hq:Z0 ga mt me w (Zk cap Γ) items st1=.ok (ys ++ []) st':=hq;rw [List.append_nil] at hq;exact k ys st' H' ρ' acc vs hq x R' hmem hacc ha ry
  ·rw [if_neg hw] at hA; exact hA.elim
theorem Qdd {Γ:Gam} {σ:St} {H:Hp} {ρ:Tk} {st:Q2} {Q:VK} {P:List PV->Q2->Hp->Tk->Prop} (hi:SimI X E tg iter mi) (hg:∀ cl C s0 H0 ex,SimG (Uj X N' sc cl C s0 H0 ex) tg ga) (he:∀ cl C s0 H0 ex,SimE (Uj X N' sc cl C s0 H0 ex) E0 elt me) (ht:∀ cl C s0 H0 ex,SimTs (Uj X N' sc cl C s0 H0 ex) ifs mt)
  (hf:Qam cap ga) (R:Rel H ρ st) (G:EnvR H ρ Γ σ) (h:Acc X.mg E H ρ P (Yb cap ga mi mt me Γ st)) (k:∀ ps st2 H2 ρ2 a vs,Yb cap ga mi mt me Γ st=.ok ps st2->Ext H ρ H2 ρ2->Rel H2 ρ2 st2->a∈ρ2.hid->H a=none->H2 a=some (.lst vs)->RepL H2 ρ2 ps vs->Q (.ref a) H2):Qaq cap (WI X tg iter) (aG X N' sc tg) (aT X N' sc ifs) (aE X N' sc elt) σ H Q:=by
 refine hi.run Γ σ H ρ st _ _ R G h.bind fun iw st1 H1 ρ1 J eq x1 R1 G1 ok hl src h1=>?_
 refine Qhj hg he ht hf R1 G1 src hl (Qq9 (E':=E0) h1) fun ys st2 H2 ρ2 acc vs eq2 x2 R2 hm hn ha ry=>?_
 refine k ys st2 H2 ρ2 acc vs ?_ (x1.trans x2) R2 hm ?_ ha ry
 ·unfold Yb;rw [eq];show noX _=_;rw [eq2]; rfl
 cases e:H acc with
 | none=>rfl
 | some o=>
  obtain ⟨o',e'⟩:=x1.old acc o e;rw [hn] at e'; cases e'
theorem Qut {N':List Str} {sc:Scope} {tg:Expr}:∀ cl C s0 H0 ex,PG (Uj X N' sc cl C s0 H0 ex) tg (aG X N' sc tg):=fun cl C s0 H0 ex pins s σ H v u Q I r h=>Qng pins s σ H v u Q I r (h cl C s0 H0 ex)
theorem Qv0 {N':List Str} {sc:Scope} {e:Expr}:∀ cl C s0 H0 ex,PE (Uj X N' sc cl C s0 H0 ex) e (aE X N' sc e):=fun cl C s0 H0 ex pins s σ H Q I h=>h cl C s0 H0 ex pins s I
theorem Qqi {N':List Str} {sc:Scope} {ifs:List Expr}:∀ cl C s0 H0 ex,PTs (Uj X N' sc cl C s0 H0 ex) ifs (aT X N' sc ifs):=fun cl C s0 H0 ex pins s σ H Q I h=>by
 obtain ⟨t,a,b⟩:=h cl C s0 H0 ex;exact a pins s σ H Q I b
theorem Yg (cap:List (Option Nat)) (N':List Str) (hcalm:X.calm=true) (hi:SimI X E tg iter mi) (hg:∀ cl C s0 H0 ex,SimG (Uj X N' sc cl C s0 H0 ex) tg ga) (he:∀ cl C s0 H0 ex,SimE (Uj X N' sc cl C s0 H0 ex) E0 elt me) (ht:∀ cl C s0 H0 ex,SimTs (Uj X N' sc cl C s0 H0 ex) ifs mt)
  (hf:Qam cap ga) (hN:X.N=N:=by rfl) (hE:X.env.scope=scE:=by rfl) (hc:compOkC N N' sc scE cap=true:=by kernel_rfl) (hs:∀ x,foldedSetIterable iter X.env x=pure x:=by intro _; rfl) :
  SimN X E (.ListComp elt [⟨tg,iter,ifs,0⟩] sc pos) (Yb cap ga mi mt me):=
 ⟨fun Γ σ H ρ st P Q R G h k=>WE.of (Qjd hcalm Qrr Qut Qv0 Qqi hN hE hc hs) (Qdd hi hg he ht hf R G h k)⟩
end
inductive SR where
 | nx (Γ:Gam) (st:Q2) | rt (v:PV) (st:Q2) | bk (Γ:Gam) (st:Q2) | ct (Γ:Gam) (st:Q2) | exc (x:Exc) (st:Q2) | stuck
abbrev MS:=Gam->Q2->SR
def Res.sbind {α:Type} (r:Res α) (f:α->Q2->SR):SR:=match r with
 | .ok a st=>f a st
 | .exc x st=>.exc x st
 | .stuck=>.stuck
def AccS (mg:Str->Option Value) (E:XK) (D:Ends) (H:Hp) (ρ:Tk):SR->Prop
 | .nx Γ st=>∀ σ' H' ρ',Ext H ρ H' ρ'->Rel H' ρ' st->EnvR H' ρ' Γ σ'->D.nx σ' H'
 | .bk Γ st=>∀ σ' H' ρ',Ext H ρ H' ρ'->Rel H' ρ' st->EnvR H' ρ' Γ σ'->D.bk σ' H'
 | .ct Γ st=>∀ σ' H' ρ',Ext H ρ H' ρ'->Rel H' ρ' st->EnvR H' ρ' Γ σ'->D.ct σ' H'
 | .rt p st=>∀ v H' ρ',Ext H ρ H' ρ'->Rel H' ρ' st->Rep H' ρ' p v->D.rt v H'
 | .exc x st=>∀ C dv H' ρ',mg x.cls=some (.ref C)->Ext H ρ H' ρ'->Rel H' ρ' st->XFs H' ρ' x.fs dv->E (.ref C) dv H'
 | .stuck=>False
section
variable {α:Type} {mg:Str->Option Value} {E:XK} {D:Ends} {H H1:Hp} {ρ ρ1:Tk}
theorem AccS.later {r:SR} (h:AccS mg E D H ρ r) (x:Ext H ρ H1 ρ1):AccS mg E D H1 ρ1 r:=by
 cases r with
 | nx Γ st=>exact fun σ' H' ρ' x'=>h σ' H' ρ' (x.trans x')
 | bk Γ st=>exact fun σ' H' ρ' x'=>h σ' H' ρ' (x.trans x')
 | ct Γ st=>exact fun σ' H' ρ' x'=>h σ' H' ρ' (x.trans x')
 | rt p st=>exact fun v H' ρ' x'=>h v H' ρ' (x.trans x')
 | exc y st=>exact fun C dv H' ρ' m x'=>h C dv H' ρ' m (x.trans x')
 | stuck=>exact h
theorem AccS.bind {r:Res α} {f:α->Q2->SR} (h:AccS mg E D H ρ (r.sbind f)):Acc mg E H ρ (fun a st1 H1 ρ1=>AccS mg E D H1 ρ1 (f a st1)) r:=by
 cases r with
 | ok a st=>exact fun H' ρ' x' R'=>AccS.later (show AccS mg E D H ρ (f a st) from h) x'
 | exc e st=>exact h
 | stuck=>exact h
end
theorem Res.sassoc {α β:Type} (r:Res α) (f:α->Q2->Res β) (g:β->Q2->SR):(r.bind f).sbind g=r.sbind fun a st=>(f a st).sbind g:=by cases r <;> rfl
theorem AccS.assoc {α β:Type} {mg:Str->Option Value} {E:XK} {D:Ends} {H:Hp} {ρ:Tk} {r:Res α} {f:α->Q2->Res β} {g:β->Q2->SR} (h:AccS mg E D H ρ ((r.bind f).sbind g)):AccS mg E D H ρ (r.sbind fun a st=>(f a st).sbind g):=by
 rw [<- Res.sassoc]; exact h
structure SimS (X:Cx) (E:XK) (s:Stmt) (m:MS):Prop where
 run:∀ (Γ:Gam) (σ:St) (H:Hp) (ρ:Tk) (st:Q2) (D:Ends),Rel H ρ st->EnvR H ρ Γ σ->AccS X.mg E D H ρ (m Γ st)->WS X s D σ H
structure SimB (X:Cx) (E:XK) (ss:List Stmt) (m:MS):Prop where
 run:∀ (Γ:Gam) (σ:St) (H:Hp) (ρ:Tk) (st:Q2) (D:Ends),Rel H ρ st->EnvR H ρ Γ σ->AccS X.mg E D H ρ (m Γ st)->WB X ss D σ H
section
variable {X:Cx} {E:XK} {pos:Pos} {e:Expr} {m:ME}
def Zy:MS:=fun Γ st=>.nx Γ st
def Qp (m1 m2:MS):MS:=fun Γ st=>match m1 Γ st with
 | .nx Γ1 st1=>m2 Γ1 st1
 | r=>r
theorem Zp:SimB X E [] Zy:=⟨fun Γ σ H ρ st D R G h=>WB.of Qn9 (h σ H ρ (Ext.refl _ _) R G)⟩
theorem Qb {s:Stmt} {rest:List Stmt} {m1 m2:MS} (h1:SimS X E s m1) (h2:SimB X E rest m2):SimB X E (s :: rest) (Qp m1 m2):=
 ⟨fun Γ σ H ρ st D R G h=>WB.of (Qce Quq Q70) (h1.run Γ σ H ρ st _ R G (by
  unfold Qp at h;cases r:m1 Γ st with
  | nx Γ1 st1=>rw [r] at h; exact fun σ' H' ρ' x' R' G'=>h2.run Γ1 σ' H' ρ' st1 D R' G' (AccS.later h x')
  | bk Γ1 st1=>rw [r] at h; exact h
  | ct Γ1 st1=>rw [r] at h; exact h
  | rt p st1=>rw [r] at h; exact h
  | exc x st1=>rw [r] at h; exact h
  | stuck=>rw [r] at h; exact h))⟩
theorem Qd {s:Stmt} {m1:MS} (h1:SimS X E s m1):SimB X E [s] m1:=⟨fun Γ σ H ρ st D R G h=>WB.of (Qb0 Quq) (h1.run Γ σ H ρ st D R G h)⟩
theorem Qmp:SimS X E (.Pass pos) Zy:=⟨fun Γ σ H ρ st D R G h=>WS.of Qnb (h σ H ρ (Ext.refl _ _) R G)⟩
def W2 (m:ME):MS:=fun Γ st=>(m Γ st).sbind fun _ st1=>.nx Γ st1
theorem Y9 (he:SimE X E e m) (hs:swapsWith e none pos.line X.env=pure false:=by rfl):SimS X E (.Expr e pos) (W2 m):=
 ⟨fun Γ σ H ρ st D R G h=>WS.of (Qf9 Yk hs) (he.use R G h.bind fun p st1 H1 ρ1 v x1 R1 G1 r1 h1=>h1 σ H1 ρ1 (Ext.refl _ _) R1 G1)⟩
def Jp (m:ME):MS:=fun Γ st=>(m Γ st).sbind fun p st1=>.rt p st1
theorem Qw (he:SimE X E e m):SimS X E (.Return (some e) pos) (Jp m):=
 ⟨fun Γ σ H ρ st D R G h=>WS.of (Qj2 Yk) (he.use R G h.bind fun p st1 H1 ρ1 v x1 R1 G1 r1 h1=>h1 v H1 ρ1 (Ext.refl _ _) R1 r1)⟩
def Je (i:Nat) (m:ME):MS:=fun Γ st=>(m Γ st).sbind fun p st1=>.nx (Γ.set i (some p)) st1
theorem Qx (i:Nat) {x:Str} {pos':Pos} (hN:X.N.Nodup) (he:SimE X E e m) (hi:X.N[i]?=some x:=by rfl) (hx:Loc X.env.scope x:=by first | exact Or.inl rfl | exact Or.inr rfl) (hs:swapsWith e (some (.Name x pos')) pos.line X.env=pure false:=by rfl) (hf:X.fn x=true\/X.env.scope.names.lookup x=some .local:=by first | exact .inl rfl | exact .inr rfl) :
  SimS X E (.Assign [.Name x pos'] e pos) (Je i m):=
 ⟨fun Γ σ H ρ st D R G h=>WS.of (Qrm hN hi hx Yk hs hf) (he.use R G h.bind fun p st1 H1 ρ1 v x1 R1 G1 r1 h1=>h1 _ H1 ρ1 (Ext.refl _ _) R1 (G1.set r1 i))⟩
section
variable {tg iter elt:Expr} {ifs:List Expr} {N N':List Str} {sc scE:Scope} {ga:GA} {mi:MI} {mt:MT} {me:ME}
theorem Q33 (cap:List (Option Nat)) (N':List Str) (i:Nat) {x:Str} {px cpos:Pos} (hnd:X.N.Nodup) (hcalm:X.calm=true) (hi:SimI X E tg iter mi) (hg:∀ cl C s0 H0 ex,SimG (Uj X N' sc cl C s0 H0 ex) tg ga) (he:∀ cl C s0 H0 ex,SimE (Uj X N' sc cl C s0 H0 ex) E0 elt me) (ht:∀ cl C s0 H0 ex,SimTs (Uj X N' sc cl C s0 H0 ex) ifs mt)
  (hf:Qam cap ga) (hix:X.N[i]?=some x:=by rfl) (hx:Loc X.env.scope x:=by first | exact Or.inl rfl | exact Or.inr rfl) (hsw:swapsWith (.ListComp elt [⟨tg,iter,ifs,0⟩] sc cpos) (some (.Name x px)) pos.line X.env=pure true:=by rfl)
  (hN:X.N=N:=by rfl) (hE:X.env.scope=scE:=by rfl) (hc:compOkC N N' sc scE cap=true:=by kernel_rfl) (hs:∀ x,foldedSetIterable iter X.env x=pure x:=by intro _; rfl) (hfn:X.fn x=true\/X.env.scope.names.lookup x=some .local:=by first | exact .inl rfl | exact .inr rfl) :
  SimS X E (.Assign [.Name x px] (.ListComp elt [⟨tg,iter,ifs,0⟩] sc cpos) pos) (Je i (Xv (Yb cap ga mi mt me))):=
 ⟨fun Γ σ H ρ st D R G h=>WS.of (Qj3 hnd hix hx hcalm Qrr Qut Qv0 Qqi hsw hN hE hc hs hfn) (Qdd hi hg he ht hf R G (AccS.bind (by unfold Je Xv at h; exact AccS.assoc h)) fun ps st1 H1 ρ1 a vs eq x R1 hm hn ha r=>by
  obtain ⟨x2,R2,r2⟩:=Qfe R x R1 hm hn ha r;simp only [Je,Xv,eq,Res.bind,Res.sbind] at h;exact h _ _ _ x2 R2 ((G.ext x2).set r2 i))⟩
end
def Qk0 (ga:GA) (m:ME):MS:=fun Γ st=>(m Γ st).sbind fun p st1=>match ga p Γ with
 | some Γ1=>.nx Γ1 st1
 | none=>.stuck
theorem Qra {tg:Expr} {ga:GA} (he:SimE X E e m) (hg:SimG X tg ga) (hs:swapsWithSole [tg] e pos.line X.env=pure false:=by rfl) (hw:swappedStores [tg] e X.env=pure none:=by rfl) (h1:(assignEach [tg] X.env).map (·.2)=[assign tg X.env]:=by rfl):SimS X E (.Assign [tg] e pos) (Qk0 ga m):=
 ⟨fun Γ σ H ρ st D R G h=>WS.of (Qj4 Yk Qng hs hw h1) (he.use R G h.bind fun p st1 H1 ρ1 v x1 R1 G1 r1 h1=>by
  cases eg:ga p Γ with
  | none=>rw [eg] at h1; exact h1.elim
  | some Γ1=>
   rw [eg] at h1;exact hg.run Γ Γ1 σ H1 ρ1 p v _ G1 r1 eg fun σ' G'=>h1 σ' H1 ρ1 (Ext.refl _ _) R1 G')⟩
def Q0q (st:Q2) (o i p:PV):Option Q2:=match o,i with
 | .ref k,.int j=>match st[k]? with
  | some (.lst xs)=>(ixN xs.length j).map fun n=>st.set k (.lst (xs.set n p))
  | _=>none
 | _,_=>none
def Q03 (mo mi m:ME):MS:=fun Γ st=>(m Γ st).sbind fun p st1=>(mo Γ st1).sbind fun o st2=>(mi Γ st2).sbind fun i st3=>match Q0q st3 o i p with
 | some st4=>.nx Γ st4
 | none=>.stuck
theorem Qmt {H:Hp} {ρ:Tk} {st st':Q2} {o i p:PV} {x y z:V} (R:Rel H ρ st) (ro:Rep H ρ o x) (ri:Rep H ρ i y) (rp:Rep H ρ p z) (e:Q0q st o i p=some st') :
  ∃ a vs k j,x=.ref a/\y=.int k/\H a=some (.lst vs)/\ixN vs.length k=some j/\Ext H ρ (upd H a (.lst (vs.set j z))) ρ/\Rel (upd H a (.lst (vs.set j z))) ρ st':=by
 unfold Q0q at e
 split at e
 ·rename_i k j
  split at e
  ·rename_i xs hs;cases ej:ixN xs.length j with
   | none=>rw [ej] at e; cases e
   | some n=>
    rw [ej] at e;have e:st.set k (.lst (xs.set n p))=st':=Option.some.inj e;subst e;obtain ⟨a,ea,rfl⟩:=ro;cases ri;obtain ⟨b,vs,f1,f2,f3⟩:=R.lst hs;rw [ea] at f1; cases f1;exact ⟨a,vs,j,n,rfl,rfl,f2,by rw [<- f3.length]; exact ej,Ext.put (D2 ea) f2,R.put ea f2 (f3.set rp n)⟩
  ·cases e
 ·cases e
theorem Q6k {o i:Expr} {mo mi:ME} {tpos:Pos} (he:SimE X E e m) (ho:SimE X E o mo) (hi:SimE X E i mi)
  (ha:∀ v,assign (.Subscript o i tpos) X.env v=(do
   let ov <- holding [v] (eval o X.env)
   let iv <- holding [v,ov] (eval i X.env)
   standAt tpos
   holding [v,ov,iv] (setItem ov iv v)
   release [v,ov,iv] []):=by intro _; rfl)
  (hs:swapsWithSole [.Subscript o i tpos] e pos.line X.env=pure false:=by rfl) (hw:swappedStores [.Subscript o i tpos] e X.env=pure none:=by rfl) (h1:(assignEach [.Subscript o i tpos] X.env).map (·.2)=[assign (.Subscript o i tpos) X.env]:=by rfl) :
  SimS X E (.Assign [.Subscript o i tpos] e pos) (Q03 mo mi m):=
 ⟨fun Γ σ H ρ st D R G h=>WS.of (Qj4 Yk (Qru Yk Yk Qik ha) hs hw h1) (he.use R G h.bind fun p st1 H1 ρ1 z x1 R1 G1 r1 h1=>ho.use R1 G1 h1.bind fun ov st2 H2 ρ2 x x2 R2 G2 r2 h2=>hi.use R2 G2 h2.bind fun iv st3 H3 ρ3 y x3 R3 G3 r3 h3=>by
  cases es:Q0q st3 ov iv p with
  | none=>rw [es] at h3; exact h3.elim
  | some st4=>
   rw [es] at h3;obtain ⟨a,vs,k,j,rfl,rfl,f1,f2,x4,R4⟩:=Qmt R3 (r2.ext x3) r3 (r1.ext (x2.trans x3)) es;exact ⟨a,vs,k,j,rfl,rfl,f1,f2,h3 σ _ ρ3 x4 R4 (G3.ext x4)⟩)⟩
def Ye (mt:MT) (ma mb:MS):MS:=fun Γ st=>(mt Γ st).sbind fun b st1=>if b=true then ma Γ st1 else mb Γ st1
theorem Z1 {c:Expr} {a b:List Stmt} {mt:MT} {ma mb:MS} (hc:SimT X E c mt) (ha:SimB X E a ma) (hb:SimB X E b mb):SimS X E (.If c a b pos) (Ye mt ma mb):=
 ⟨fun Γ σ H ρ st D R G h=>WS.of (Qur Qcd Q70 Q70) (hc.use R G h.bind fun k st1 H1 ρ1 x1 R1 G1 h1=>by
  cases k with
  | true=>rw [if_pos rfl] at h1 ⊢; exact ha.run Γ σ H1 ρ1 st1 D R1 G1 h1
  | false=>rw [if_neg D7] at h1 ⊢; exact hb.run Γ σ H1 ρ1 st1 D R1 G1 h1)⟩
open Classical in
def y6 (ga:GA) (body:MS) (w:Wt):List PV->Gam->Q2->SR
 | [],Γ,st=>if wOk w st then .nx Γ st else .stuck
 | x :: xs,Γ,st=>if wOk w st then (match ga x Γ with
  | none=>.stuck
  | some Γ1=>match body Γ1 st with
   | .nx Γ2 st2=>y6 ga body w xs Γ2 st2
   | .ct Γ2 st2=>y6 ga body w xs Γ2 st2
   | .bk Γ2 st2=>.nx Γ2 st2
   | .rt v st2=>.rt v st2
   | .exc x st2=>.exc x st2
   | .stuck=>.stuck) else .stuck
def Q7r (ga:GA) (mi:MI) (body:MS):MS:=fun Γ st=>(mi Γ st).sbind fun iw st1=>y6 ga body iw.2 iw.1 Γ st1
theorem Q0p {tg iter:Expr} {bd:List Stmt} {ga:GA} {mi:MI} {body:MS} (hp:PassesOwn (model X.prog X.w) X.A X.env X.xe) (hc:X.calm=true) (hi:SimI X E tg iter mi) (hg:SimG X tg ga) (hb:SimB X E bd body)
  (hs:∀ x,foldedSetIterable iter X.env x=pure x:=by intro _; rfl):SimS X E (.For tg iter bd [] pos) (Q7r ga mi body):=
 ⟨fun Γ σ H ρ st D R G h=>WS.of (Qrn hp hc Qrr Qng Q70 hs) (hi.run Γ σ H ρ st _ _ R G h.bind fun iw st1 H1 ρ1 J eq x1 R1 G1 ok hl src h1=>by
  let W:Nat->Nat->St->Hp->Prop:=fun i m σ' H'=>m=iw.1.length - i/\i<=iw.1.length/\∃ Γ' ρ' st',Ext H1 ρ1 H' ρ'/\Rel H' ρ' st'/\EnvR H' ρ' Γ' σ'/\AccS X.mg E D H' ρ' (y6 ga body iw.2 (iw.1.drop i) Γ' st')
  refine ⟨W,⟨_,rfl,Nat.zero_le _,Γ,ρ1,st1,Ext.refl _ _,R1,G1,by rw [List.drop_zero]; exact h1⟩,?_⟩;rintro i m σ' H' ⟨hm,hi',Γ',ρ',st',x,R',G',hA⟩
  by_cases hlt:i < iw.1.length
  ·right
   have hd:iw.1.drop i=iw.1[i] :: iw.1.drop (i + 1):=List.drop_eq_getElem_cons hlt;rw [hd,y6] at hA
   by_cases hw:wOk iw.2 st'
   ·rw [if_pos hw] at hA;refine ⟨src.go H' ρ' st' x R' hw i hlt,fun σ2 H2=>W (i + 1) (iw.1.length - (i + 1)) σ2 H2,fun σ2 H2 z=>⟨_,by omega,z⟩,fun y H2 hy=>?_⟩
    obtain ⟨sm,ry⟩:=src.yld H' ρ' st' x R' hw i _ (O4 hlt) y H2 hy;have x2:Ext H' ρ' H2 ρ':=Ext.same sm;cases eg:ga iw.1[i] Γ' with
    | none=>rw [eg] at hA; exact hA.elim
    | some Γ1=>
     rw [eg] at hA;refine hg.run Γ' Γ1 σ' H2 ρ' _ y _ (G'.ext x2) ry eg fun σ3 G3=>?_
     have hA2:=AccS.later hA x2;simp only at hA2;refine hb.run Γ1 σ3 H2 ρ' st' _ (R'.same sm) G3 ?_;have again:∀ {Γ2:Gam} {st2:Q2},AccS X.mg E D H2 ρ' (y6 ga body iw.2 (iw.1.drop (i + 1)) Γ2 st2)->∀ σ' H'' ρ'',Ext H2 ρ' H'' ρ''->Rel H'' ρ'' st2->EnvR H'' ρ'' Γ2 σ'->W (i + 1) (iw.1.length - (i + 1)) σ' H'':=fun {Γ2 st2} a σ4 H4 ρ4 x4 R4 G4=>
      ⟨rfl,hlt,Γ2,ρ4,st2,x.trans (x2.trans x4),R4,G4,AccS.later a x4⟩
     cases rb:body Γ1 st' with
     | nx Γ2 st2=>rw [rb] at hA2; exact again hA2
     | ct Γ2 st2=>rw [rb] at hA2; exact again hA2
     | bk Γ2 st2=>rw [rb] at hA2; exact hA2
     | rt v st2=>rw [rb] at hA2; exact hA2
     | exc y st2=>rw [rb] at hA2; exact hA2
     | stuck=>rw [rb] at hA2; exact hA2.elim
   ·rw [if_neg hw] at hA; exact hA.elim
  ·left
   have ei:i=iw.1.length:=by omega
   subst ei;rw [List.drop_length,y6] at hA
   by_cases hw:wOk iw.2 st'
   ·rw [if_pos hw] at hA;exact ⟨src.stop H' ρ' st' x R' hw,hA σ' H' ρ' (Ext.refl _ _) R' G'⟩
   ·rw [if_neg hw] at hA; exact hA.elim)⟩
def Kf (mt:MT) (body:MS):Nat->Gam->Q2->SR
 | 0,_,_=>.stuck
 | n + 1, Γ, st => (mt Γ st).sbind fun b st1 => if b = true then (match body Γ st1 with
   | .nx Γ2 st2=>Kf mt body n Γ2 st2
   | .ct Γ2 st2=>Kf mt body n Γ2 st2
   | .bk Γ2 st2=>.nx Γ2 st2
   | .rt v st2=>.rt v st2
   | .exc x st2=>.exc x st2
   | .stuck=>.stuck) else .nx Γ st1
theorem Qc2 (n:Nat) {c:Expr} {bd:List Stmt} {mt:MT} {body:MS} (hp:PassesOwn (model X.prog X.w) X.A X.env X.xe) (hc:SimT X E c mt) (hb:SimB X E bd body):SimS X E (.While c bd [] pos) (Kf mt body n):=
 ⟨fun Γ σ H ρ st D R G h=>WS.of (Qj0 hp Qcd Q70) (by
  let W:Nat->St->Hp->Prop:=fun m σ' H'=>∃ Γ' ρ' st',Rel H' ρ' st'/\EnvR H' ρ' Γ' σ'/\AccS X.mg E D H' ρ' (Kf mt body m Γ' st')
  refine ⟨W,⟨n,Γ,ρ,st,R,G,h⟩,?_⟩;rintro m σ' H' ⟨Γ',ρ',st',R',G',hA⟩;cases m with
  | zero=>exact hA.elim
  | succ m=>
   rw [Kf] at hA;refine hc.use R' G' hA.bind fun b st1 H1 ρ1 x1 R1 G1 h1=>?_
   cases b with
   | false=>rw [if_neg D7] at h1 ⊢; exact h1 σ' H1 ρ1 (Ext.refl _ _) R1 G1
   | true=>
    rw [if_pos rfl] at h1 ⊢;refine ⟨fun σ2 H2=>W m σ2 H2,fun σ2 H2 z=>⟨m,Nat.lt_succ_self _,z⟩,hb.run Γ' σ' H1 ρ1 st1 _ R1 G1 ?_⟩
    have again:∀ {Γ2:Gam} {st2:Q2},AccS X.mg E D H1 ρ1 (Kf mt body m Γ2 st2)->∀ σ' H'' ρ'',Ext H1 ρ1 H'' ρ''->Rel H'' ρ'' st2->EnvR H'' ρ'' Γ2 σ'->W m σ' H'':=fun {Γ2 st2} a σ4 H4 ρ4 x4 R4 G4=>⟨Γ2,ρ4,st2,R4,G4,AccS.later a x4⟩
    cases rb:body Γ' st1 with
    | nx Γ2 st2=>rw [rb] at h1; exact again h1
    | ct Γ2 st2=>rw [rb] at h1; exact again h1
    | bk Γ2 st2=>rw [rb] at h1; exact h1
    | rt v st2=>rw [rb] at h1; exact h1
    | exc y st2=>rw [rb] at h1; exact h1
    | stuck=>rw [rb] at h1; exact h1.elim)⟩
def Xx (x:Str) (m:ME):MS:=fun Γ st=>(m Γ st).sbind fun _ st1=>.exc ⟨x,none⟩ st1
theorem Vh {x:Str} {C:Addr} {np cpos:Pos} (hcalm:X.calm=true) (RO:Q8m X E) (hg:Gl X x) (hm:X.mg x=some (.ref C)) (q:PySem.W.excIn X.K C Ui "ValueError.__new__" = true) (he:SimE X E e m)
  (hdb:(x == ("__debug__" : Str))=false:=by decide) (hst:starEach [e] X.env=[(false,eval e X.env)]:=by rfl):SimS X E (.Raise (some (.Call (.Name x np) [e] [] cpos)) none pos) (Xx x m):=
 ⟨fun Γ σ H ρ st D R G h=>WS.of (Qgj hcalm RO hg hm q (xr Yk Q74 (by rw [hst]; rfl)) hdb hst) (he.use R G h.bind fun p st1 H1 ρ1 v x1 R1 G1 r1 h1=>⟨F1 (show 1<=lim by decide) Qem,h1 C none H1 ρ1 hm (Ext.refl _ _) R1 rfl⟩)⟩
end
def WM (X:Cx) (id:String):V->List V->Hp->VK->Prop:=fun x xs H Q=>∀ (pins:List (Addr × Obj)) (s:Shared) (σ:St) (v:Value) (us:List Value),Inv X pins σ H s->RelV x v->Vals xs us->wpAny (model X.prog X.w) X.A (call (.builtin id) (v :: us)) (EP X pins σ Q) X.xe s
theorem Qsg {X:Cx} {id:String}:MtR X id (WM X id):=fun pins s σ _ _ _ v us _ I r rs h=>h pins s σ v us I r rs
theorem WM.of {X:Cx} {id:String} {r:V->List V->Hp->VK->Prop} {x:V} {xs:List V} {H:Hp} {Q:VK} (h:MtR X id r) (q:r x xs H Q):WM X id x xs H Q:=fun pins s σ v us I r1 r2=>h pins s σ H x xs v us Q I r1 r2 q
abbrev MF:=Q2->PV->List PV->Res PV
structure MtS (X:Cx) (E:XK) (id:String) (o:MF):Prop where
 run:∀ (H:Hp) (ρ:Tk) (st:Q2) (p:PV) (ps:List PV) (x:V) (xs:List V) (Q:VK),Rel H ρ st->Rep H ρ p x->RepL H ρ ps xs->Acc X.mg E H ρ (QV Q) (o st p ps)->WM X id x xs H Q
section
variable {X:Cx} {E:XK} {o e:Expr} {es:List Expr} {mo:ME} {mr:Gam->Q2->Res (List PV)} {name:Str} {apos cpos:Pos} {T id:String} {f:MF}
def mBM (f:MF) (mo:ME) (mr:Gam->Q2->Res (List PV)):ME:=fun Γ st=>(mo Γ st).bind fun p st1=>match zm st1 p with
 | some _=>(mr Γ st1).bind fun ps st2=>f st2 p ps
 | none=>.stuck
theorem Qqe (pa:PlainAttrs "list") (slot:Slot "list" name id) (hty:typeOf (.builtin id)=pure (.type "method_descriptor")) (hm:MtS X E id f) (ho:SimE X E o mo) (ha:SimA X E (e :: es) mr)
  (hbase:attributeBase o name X.env (eval o X.env)=eval o X.env:=by rfl)
  (hfew:((backTo cpos (starEach (e :: es) X.env)).all (fun x=>!x.1) && (backToKw cpos (keywordEach [] X.env)).all (fun x=>x.1.isSome)
   && decide ((e :: es).length + ([]:List Keyword).length + (if ([]:List Keyword).isEmpty then 0 else 1) < 30))=true:=by rfl)
  (hline:(apos.endLine == cpos.line)=true:=by rfl) (hs:starEach (e :: es) X.env=(false,eval e X.env) :: starEach es X.env:=by rfl) (hplain:(backTo cpos (starEach es X.env)).any (·.1)=false:=by rfl) :
  SimE X E (.Call (.Attribute o name apos) (e :: es) [] cpos) (mBM f mo mr):=
 ⟨fun Γ σ H ρ st Q R G h=>WE.of (Quy pa slot hty Qsg Yk Q3b hbase hfew hline hs hplain) (ho.use R G h.bind fun p st1 H1 ρ1 v x1 R1 G1 r1 h1=>by
  split at h1
  ·rename_i ys el;obtain ⟨a,vs,rfl,hr,_⟩:=Q3r R1 r1 el;exact ⟨.inl ⟨rfl,vs,.inl hr⟩,ha.use R1 G1 h1.bind fun ps st2 H2 ρ2 us x2 R2 G2 r2 h2=>hm.run H2 ρ2 st2 p ps _ us Q R2 (r1.ext x2) r2 h2⟩
  ·exact h1.elim)⟩
def chg (st:Q2) (p:PV) (g:List PV->Option (PV × List PV)):Res PV:=match p with
 | .ref i=>match st[i]? with
  | some (.lst xs)=>match g xs with
   | some (r,ys)=>.ok r (st.set i (.lst ys))
   | none=>.stuck
  | _=>.stuck
 | _=>.stuck
theorem Qbk {mg:Str->Option Value} {H:Hp} {ρ:Tk} {st:Q2} {p:PV} {x:V} {g:List PV->Option (PV × List PV)} {Q:VK} (R:Rel H ρ st) (rp:Rep H ρ p x) (h:Acc mg E H ρ (QV Q) (chg st p g)) :
  ∃ a xs vs r ys,x=.ref a/\H a=some (.lst vs)/\RepL H ρ xs vs/\g xs=some (r,ys)/\∀ us v,RepL H ρ ys us->Rep H ρ r v->Q v (upd H a (.lst us)):=by
 unfold chg at h
 split at h
 ·rename_i i
  split at h
  ·rename_i xs hs
   split at h
   ·rename_i r ys hg;obtain ⟨a,ea,rfl⟩:=rp;obtain ⟨b,vs,f1,f2,f3⟩:=R.lst hs;rw [ea] at f1; cases f1;refine ⟨a,xs,vs,r,ys,rfl,f2,f3,hg,fun us v ru rv=>?_⟩;have x:=Ext.put (o':=.lst us) (D2 ea) f2;exact h _ ρ x (R.put ea f2 ru) v (rv.ext x)
   ·exact h.elim
  ·exact h.elim
 ·exact h.elim
def Wz:MF:=fun st p ps=>match ps with
 | [y]=>chg st p fun xs=>if xs.length < lim then some (.non,xs ++ [y]) else none
 | _=>.stuck
theorem Qh2:MtS X E "list.append" Wz:=⟨fun H ρ st p ps x xs Q R rp rs h=>by
 unfold Wz at h
 split at h
 ·obtain ⟨v,rfl,r⟩:=Wn rs;obtain ⟨a,ys,vs,r0,zs,rfl,f1,f2,f3,k⟩:=Qbk R rp h
  split at f3
  ·rename_i hl;cases f3;exact WM.of Qh0 ⟨a,vs,v,rfl,rfl,f1,by rw [<- f2.length]; exact D3 hl Qem,k _ _ (f2.append (RepL.cons r RepL.nil)) rfl⟩
  ·cases f3
 ·exact h.elim⟩
def Q13:MF:=fun st p ps=>match ps with
 | [q]=>match Q17 st q with
  | some ys=>chg st p fun xs=>if xs.length + ys.length<=lim then some (.non,xs ++ ys) else none
  | none=>.stuck
 | _=>.stuck
theorem Qh1:MtS X E "list.extend" Q13:=⟨fun H ρ st p ps x xs Q R rp rs h=>by
 unfold Q13 at h
 split at h
 ·obtain ⟨v,rfl,r⟩:=Wn rs
  split at h
  ·rename_i ws ew;obtain ⟨b,us,rfl,hb,rb⟩:=Q7u R r ew;obtain ⟨a,ys,vs,r0,zs,rfl,f1,f2,f3,k⟩:=Qbk R rp h
   split at f3
   ·rename_i hl;cases f3;exact WM.of Qgy ⟨a,b,vs,us,rfl,rfl,f1,hb,by rw [<- f2.length,<- rb.length]; exact Xy hl,k _ _ (f2.append rb) rfl⟩
   ·cases f3
  ·exact h.elim
 ·exact h.elim⟩
def Qtk:MF:=fun st p ps=>match ps with
 | []=>chg st p fun xs=>some (.non,xs.reverse)
 | _=>.stuck
def Q63:MF:=fun st p ps=>match ps with
 | []=>chg st p fun _=>some (.non,[])
 | _=>.stuck
theorem ms_clear:MtS X E "list.clear" Q63:=⟨fun H ρ st p ps x xs Q R rp rs h=>by
 unfold Q63 at h
 split at h
 ·cases rs;obtain ⟨a,ys,vs,r0,zs,rfl,f1,f2,f3,k⟩:=Qbk R rp h;cases f3;exact WM.of Qjr ⟨a,vs,rfl,rfl,f1,k _ _ rfl rfl⟩
 ·exact h.elim⟩
theorem qq (ho:SimE X E o mo) (ha:SimA X E [e] mr) (hbase:attributeBase o "append" X.env (eval o X.env)=eval o X.env:=by rfl)
  (hfew:((backTo cpos (starEach [e] X.env)).all (fun x=>!x.1) && (backToKw cpos (keywordEach [] X.env)).all (fun x=>x.1.isSome) && decide ([e].length + ([]:List Keyword).length + (if ([]:List Keyword).isEmpty then 0 else 1) < 30))=true:=by rfl)
  (hline:(apos.endLine == cpos.line)=true:=by rfl) (hs:starEach [e] X.env=(false,eval e X.env) :: starEach [] X.env:=by rfl):SimE X E (.Call (.Attribute o "append" apos) [e] [] cpos) (mBM Wz mo mr):=
 Qqe PySem.F.plainAttrs_list PySem.F.slot_list_append PySem.F.type_list_append Qh2 ho ha hbase hfew hline hs
theorem Qgb (ho:SimE X E o mo) (ha:SimA X E [e] mr) (hbase:attributeBase o "extend" X.env (eval o X.env)=eval o X.env:=by rfl)
  (hfew:((backTo cpos (starEach [e] X.env)).all (fun x=>!x.1) && (backToKw cpos (keywordEach [] X.env)).all (fun x=>x.1.isSome) && decide ([e].length + ([]:List Keyword).length + (if ([]:List Keyword).isEmpty then 0 else 1) < 30))=true:=by rfl)
  (hline:(apos.endLine == cpos.line)=true:=by rfl) (hs:starEach [e] X.env=(false,eval e X.env) :: starEach [] X.env:=by rfl):SimE X E (.Call (.Attribute o "extend" apos) [e] [] cpos) (mBM Q13 mo mr):=
 Qqe PySem.F.plainAttrs_list PySem.F.slot_list_extend PySem.F.type_list_extend Qh1 ho ha hbase hfew hline hs
end
section
mutual
def fz (n:Nat) (st:Q2):Nat->PV->Option PV
 | 0,_=>none
 | _ + 1,.non=>some .non
 | _ + 1,.bl b=>some (.bl b)
 | _ + 1,.int i=>some (.int i)
 | _ + 1,.str x=>some (.str x)
 | k + 1,.tup xs=>(fzL n st k xs).map .tup
 | k + 1,.lst xs=>(fzL n st k xs).map .lst
 | k + 1,.fro xs=>(fzL n st k xs).map .fro
 | _ + 1,.dic=>some .dic
 | k + 1,.ref i=>if i < n then some (.ref i) else match st[i]? with
  | some (.lst xs)=>(fzL n st k xs).map .lst
  | _=>none
def fzL (n:Nat) (st:Q2):Nat->List PV->Option (List PV)
 | _,[]=>some []
 | k,x :: xs=>(fz n st k x).bind fun y=>(fzL n st k xs).map (y :: ·)
end
theorem Q67 {n:Nat} {st:Q2}:∀ {m k:Nat} {p:PV},Zi m p=true->m < k->fz n st k p=some p:=by
 intro m
 induction m with
 | zero=>
  intro k p g hk;obtain ⟨k,rfl⟩:∃ j,k=j + 1:=⟨k - 1,by omega⟩;cases p with
  | tup _=>cases g
  | lst _=>cases g
  | fro _=>cases g
  | ref _=>cases g
  | dic=>cases g
  | _=>rw [fz]
 | succ m ih=>
  intro k p g hk;obtain ⟨k,rfl⟩:∃ j,k=j + 1:=⟨k - 1,by omega⟩;have hL:∀ xs:List PV,xs.all (Zi m)=true->fzL n st k xs=some xs:=by
   intro xs
   induction xs with
   | nil=>intro _; rw [fzL]
   | cons x xs ihx=>
    intro g;rw [List.all_cons,F6] at g;rw [fzL,ih g.1 (by omega),ihx g.2]; rfl
  cases p with
  | tup xs=>rw [fz,hL xs g]; rfl
  | lst xs=>rw [fz,hL xs g]; rfl
  | fro xs=>rw [fz,hL xs g]; rfl
  | ref _=>cases g
  | dic=>cases g
  | _=>rw [fz]
section
variable {H:Hp} {ρ:Tk} {st:Q2} {tr0 rest hs:List Addr}
theorem Qk9 (R:Rel H ρ st) (ht:ρ.tr=tr0 ++ rest) (hh:∀ a,a∈hs->a∈ρ.hid):∀ (k:Nat) {p p':PV} {v:V},Rep H ρ p v->fz tr0.length st k p=some p'->Rep H ⟨tr0,hs⟩ p' v:=by
 have out:∀ a,a∉ρ->a∉(⟨tr0,hs⟩:Tk):=fun a n z=>by
  rcases z with z | z
  ·exact n (.inl (by rw [ht]; exact F5 _ z))
  ·exact n (.inr (hh a z))
 intro k
 induction k with
 | zero=>intro p p' v r e; rw [fz] at e; cases e
 | succ k ih=>
  have hL:∀ {ps ps':List PV} {vs:List V},RepL H ρ ps vs->fzL tr0.length st k ps=some ps'->RepL H ⟨tr0,hs⟩ ps' vs:=by
   intro ps
   induction ps with
   | nil=>intro ps' vs r e; rw [fzL] at e; cases e; exact r
   | cons x xs ihx=>
    intro ps' vs r e;obtain ⟨v,t,rfl,r1,r2⟩:=r;rw [fzL] at e;cases e1:fz tr0.length st k x with
    | none=>rw [e1] at e; cases e
    | some y=>
     rw [e1] at e;have e:(fzL tr0.length st k xs).map (y :: ·)=some ps':=e;cases e2:fzL tr0.length st k xs with
     | none=>rw [e2] at e; cases e
     | some ys=>
      rw [e2] at e;cases e;exact ⟨v,t,rfl,ih r1 e1,ihx r2 e2⟩
  intro p p' v r e;cases p with
  | non=>rw [fz] at e; cases e; exact r
  | bl b=>rw [fz] at e; cases e; exact r
  | int i=>rw [fz] at e; cases e; exact r
  | str x=>rw [fz] at e; cases e; exact r
  | tup xs=>
   rw [fz] at e;obtain ⟨a,vs,e1,ha,na,ra⟩:=r;cases e2:fzL tr0.length st k xs with
   | none=>rw [e2] at e; cases e
   | some ys=>rw [e2] at e; cases e; exact ⟨a,vs,e1,ha,out a na,hL ra e2⟩
  | lst xs=>
   rw [fz] at e;obtain ⟨a,vs,e1,ha,na,ra⟩:=r;cases e2:fzL tr0.length st k xs with
   | none=>rw [e2] at e; cases e
   | some ys=>rw [e2] at e; cases e; exact ⟨a,vs,e1,ha,out a na,hL ra e2⟩
  | fro xs=>
   rw [fz] at e;obtain ⟨a,vs,e1,ha,na,ra⟩:=r;cases e2:fzL tr0.length st k xs with
   | none=>rw [e2] at e; cases e
   | some ys=>rw [e2] at e; cases e; exact ⟨a,vs,e1,ha,out a na,hL ra e2⟩
  | dic=>
   rw [fz] at e;cases e;obtain ⟨a,e1,ha,na⟩:=r;exact ⟨a,e1,ha,out a na⟩
  | ref i=>
   rw [fz] at e;obtain ⟨a,ea,rfl⟩:=r
   by_cases hi:i < tr0.length
   ·rw [if_pos hi] at e;cases e;rw [ht,O6 hi] at ea;exact ⟨a,ea,rfl⟩
   ·rw [if_neg hi] at e
    split at e
    ·rename_i xs hs';obtain ⟨b,vs,f1,f2,f3⟩:=R.lst hs';rw [ea] at f1; cases f1;cases e2:fzL tr0.length st k xs with
     | none=>rw [e2] at e; cases e
     | some ys=>
      rw [e2] at e; cases e;refine ⟨a,vs,rfl,f2,fun z=>?_,hL f3 e2⟩;rcases z with z | z
      ·have z:a∈tr0:=z;obtain ⟨j,hj,ej⟩:=List.getElem_of_mem z;have g1:ρ.tr[j]?=some a:=by rw [ht,O6 hj,O4 hj,ej]
       have l1:=O1.mp g1;have l2:=O1.mp ea;have:=Qa3 R.nd l1.1 l2.1 (l1.2.trans l2.2.symm);omega
      ·exact R.ap a (hh a z) (D2 ea)
    ·cases e
mutual
def bel (n:Nat):PV->Prop
 | .tup xs=>Qbs n xs
 | .lst xs=>Qbs n xs
 | .fro xs=>Qbs n xs
 | .ref i=>i < n
 | _=>True
def Qbs (n:Nat):List PV->Prop
 | []=>True
 | x :: xs=>bel n x/\Qbs n xs
end
mutual
theorem Rep.bel:∀ {p:PV} {v:V},Rep H ρ p v->bel ρ.tr.length p
 | .non,_,_=>by simp [Sm.bel]
 | .bl _,_,_=>by simp [Sm.bel]
 | .int _,_,_=>by simp [Sm.bel]
 | .str _,_,_=>by simp [Sm.bel]
 | .tup ps,_,⟨_,_,_,_,_,r⟩=>by rw [Sm.bel]; exact RepL.bel r
 | .lst ps,_,⟨_,_,_,_,_,r⟩=>by rw [Sm.bel]; exact RepL.bel r
 | .fro ps,_,⟨_,_,_,_,_,r⟩=>by rw [Sm.bel]; exact RepL.bel r
 | .ref i,_,⟨_,e,_⟩=>by rw [Sm.bel]; exact (O1.mp e).1
 | .dic,_,_=>by simp [Sm.bel]
theorem RepL.bel:∀ {ps:List PV} {vs:List V},RepL H ρ ps vs->Qbs ρ.tr.length ps
 | [],_,_=>by simp [Qbs]
 | p :: ps,_,⟨_,_,_,r1,r2⟩=>by rw [Qbs]; exact ⟨Rep.bel r1,RepL.bel r2⟩
end
mutual
theorem Rep.less (ht:ρ.tr=tr0 ++ rest) (hh:∀ a,a∈hs->a∈ρ.hid):∀ {p:PV} {v:V},Sm.bel tr0.length p->Rep H ρ p v->Rep H ⟨tr0,hs⟩ p v
 | .non,_,_,r=>r
 | .bl _,_,_,r=>r
 | .int _,_,_,r=>r
 | .str _,_,_,r=>r
 | .tup ps,_,b,⟨a,vs,e,ha,na,r⟩=>⟨a,vs,e,ha,fun z=>na (z.imp (fun z=>by rw [ht]; exact F5 _ z) (hh a)),RepL.less ht hh (by rw [Sm.bel] at b; exact b) r⟩
 | .lst ps,_,b,⟨a,vs,e,ha,na,r⟩=>⟨a,vs,e,ha,fun z=>na (z.imp (fun z=>by rw [ht]; exact F5 _ z) (hh a)),RepL.less ht hh (by rw [Sm.bel] at b; exact b) r⟩
 | .fro ps,_,b,⟨a,vs,e,ha,na,r⟩=>⟨a,vs,e,ha,fun z=>na (z.imp (fun z=>by rw [ht]; exact F5 _ z) (hh a)),RepL.less ht hh (by rw [Sm.bel] at b; exact b) r⟩
 | .ref i,_,b,⟨a,e,e2⟩=>⟨a,by rw [Sm.bel] at b; rw [ht,O6 b] at e; exact e,e2⟩
 | .dic,_,_,⟨a,e,ha,na⟩=>⟨a,e,ha,fun z=>na (z.imp (fun z=>by rw [ht]; exact F5 _ z) (hh a))⟩
theorem RepL.less (ht:ρ.tr=tr0 ++ rest) (hh:∀ a,a∈hs->a∈ρ.hid):∀ {ps:List PV} {vs:List V},Qbs tr0.length ps->RepL H ρ ps vs->RepL H ⟨tr0,hs⟩ ps vs
 | [],_,_,r=>r
 | p :: ps,_,b,⟨v,t,e,r1,r2⟩=>by
  rw [Qbs] at b;exact ⟨v,t,e,Rep.less ht hh b.1 r1,RepL.less ht hh b.2 r2⟩
end
end
theorem Qcb {H H':Hp} {ρ ρ':Tk} {st st':Q2} (R:Rel H ρ st) (x:Ext H ρ H' ρ') (R':Rel H' ρ' st') (hp:st <+: st'):Ext H ρ H' ρ/\Rel H' ρ st:=by
 obtain ⟨rest,ht⟩:=x.pre;obtain ⟨more,hm⟩:=hp;refine ⟨⟨List.prefix_refl _,fun _ h=>h,fun _ h=>.inl h,x.keep,fun _ h=>.inl h,x.old,x.frz⟩,R.len,R.nd,fun a ha=>let ⟨o,e,n⟩:=R.hd a ha; ⟨o,x.keep a o e (R.ap a ha),n⟩,R.ap,fun i a c h1 h2=>?_⟩
 have hi:i < st.length:=(O1.mp h2).1;have q:=R'.cell i a c (by rw [<- ht,O6 (O1.mp h1).1]; exact h1) (by rw [<- hm,O6 hi]; exact h2);have q0:=R.cell i a c h1 h2;cases c with
 | lst ps=>
  obtain ⟨vs,e1,e2⟩:=q;obtain ⟨us,_,f2⟩:=q0;exact ⟨vs,e1,RepL.less (ρ:=ρ') (tr0:=ρ.tr) (hs:=ρ.hid) ht.symm x.hidM f2.bel e2⟩
 | dic ps=>
  obtain ⟨vs,e1,e2⟩:=q;obtain ⟨us,_,f2⟩:=q0;exact ⟨vs,e1,e2.1,RepL.less (ρ:=ρ') (tr0:=ρ.tr) (hs:=ρ.hid) ht.symm x.hidM f2.2.bel e2.2⟩
 | dtp ps=>
  obtain ⟨vs,e1,e2⟩:=q;obtain ⟨us,_,f2⟩:=q0;exact ⟨vs,e1,e2.1,RepL.less (ρ:=ρ') (tr0:=ρ.tr) (hs:=ρ.hid) ht.symm x.hidM f2.2.bel e2.2⟩
 | frd ps=>
  obtain ⟨vs,e1,e2⟩:=q;obtain ⟨us,_,f2⟩:=q0;exact ⟨vs,e1,e2.1,RepL.less (ρ:=ρ') (tr0:=ρ.tr) (hs:=ρ.hid) ht.symm x.hidM f2.2.bel e2.2⟩
 | obj C ps=>
  obtain ⟨vs,e1,e2⟩:=q;obtain ⟨us,_,f2⟩:=q0;exact ⟨vs,e1,e2.1,RepL.less (ρ:=ρ') (tr0:=ρ.tr) (hs:=ρ.hid) ht.symm x.hidM f2.2.bel e2.2⟩
abbrev FN:=List PV->Q2->Res PV
open Classical in
def fin (st:Q2) (v:PV) (st':Q2):Res PV:=if st <+: st' then okO st (fz st.length st' 16 v) else .ok v st'
open Classical in
def Qkc (st:Q2) (x:Exc) (st':Q2):Res PV:=if st <+: st' then (match x.fs with
 | none=>.exc x st
 | some (n,p)=>match fz st.length st' 16 p with
  | some q=>.exc ⟨x.cls,some (n,q)⟩ st
  | none=>.stuck) else .exc x st'
def Qq (body:MS) (nl:Nat):FN:=fun ps st=>match body (ps.map some ++ List.replicate (nl - ps.length) none) st with
 | .rt v st'=>fin st v st'
 | .nx _ st'=>fin st .non st'
 | .exc x st'=>Qkc st x st'
 | _=>.stuck
theorem Qfv {mg:Str->Option Value} {E:XK} {H:Hp} {ρ:Tk} {st st':Q2} {Q:VK} {p:PV} (R:Rel H ρ st) (h:Acc mg E H ρ (QV Q) (fin st p st')):∀ v H' ρ',Ext H ρ H' ρ'->Rel H' ρ' st'->Rep H' ρ' p v->Q v H':=fun v H' ρ' x R' r=>by
 unfold fin at h
 by_cases hp:st <+: st'
 ·rw [if_pos hp] at h;cases e:fz st.length st' 16 p with
  | none=>rw [e] at h; exact h.elim
  | some q=>
   rw [e] at h;obtain ⟨x2,R2⟩:=Qcb R x R' hp;obtain ⟨rest,ht⟩:=x.pre;rw [<- R.len] at e;exact h H' ρ x2 R2 v (Qk9 (tr0:=ρ.tr) (hs:=ρ.hid) R' ht.symm x.hidM 16 r e)
 ·rw [if_neg hp] at h;exact h H' ρ' x R' v r
def spF (mg:Str->Option Value) (n:Nat) (F:FN):Sp:=fun vs H Q E=>vs.length=n/\∃ ρ st ps,Rel H ρ st/\RepL H ρ ps vs/\Acc mg E H ρ (QV Q) (F ps st)
theorem Q9r {H:Hp} {ρ:Tk} {N:List Str} {ps:List PV} {vs:List V} (r:RepL H ρ ps vs):EnvR H ρ (ps.map some ++ List.replicate (N.length - ps.length) none) (L2.start N vs):=by
 have hl:=r.length;unfold L2.start;refine ⟨by simp [hl],fun i p e=>?_⟩
 by_cases hi:i < ps.length
 ·rw [O6 (by simpa using hi),E6] at e;rw [O6 (by simp; omega),E6];cases q:ps[i]? with
  | none=>rw [q] at e; cases e
  | some p'=>
   rw [q] at e;cases e;obtain ⟨v,e1,e2⟩:=r.get q;exact ⟨v,by rw [e1]; rfl,e2⟩
 ·rw [D1 (by simpa using hi),List.getElem?_replicate] at e
  split at e <;> cases e
section
variable {P:Program} {w:World} {K:PySem.W.Frag} {mg:Str->Option Value} {base:Heap}
theorem Qt0 {x qual:Str} {st:Stmt} {f:Addr} {fd:FuncData} {N ps:List Str} {k:Nat} {m:MS} (F:Fun K x qual st f fd) (S:FnScope N ps (Q8 st))
  (hb:∀ (cdv:Value) (A:Around) (outer:List PySem.Env) (s:Shared) (H:Hp) (E:XK),Room k (A.deeper (PyProof.Rows.envOfC qual (Q8 st) s.heap.objs.size f cdv))->SimB (cxD P w K mg base N qual (Q8 st) f cdv A outer s H E) E (Yh st) m) :
  FnOk P w K mg base (CXD P w) (k + 1) f fd ps (spF mg ps.length (Qq m N.length)):=by
 refine Fun.okD F S (fun vs H Q E h=>h.1) fun cdv A outer s H vs Q E hr hsp=>⟨_,Q70,?_⟩
 obtain ⟨hl,ρ,st0,pvs,R,rl,hA⟩:=hsp;refine (hb cdv A outer s H E hr).run _ (L2.start N vs) H ρ st0 _ R (Q9r rl) ?_;unfold Qq at hA;cases rr:m (pvs.map some ++ List.replicate (N.length - pvs.length) none) st0 with
 | rt v st1=>rw [rr] at hA; exact Qfv R hA
 | nx Γ st1=>rw [rr] at hA; exact fun σ' H' ρ' x' R' G'=>Qfv R hA .non H' ρ' x' R' rfl
 | bk Γ st1=>rw [rr] at hA; exact hA.elim
 | ct Γ st1=>rw [rr] at hA; exact hA.elim
 | stuck=>rw [rr] at hA; exact hA.elim
 | exc y st1=>
  rw [rr] at hA;have hA:Acc mg E H ρ (QV Q) (Qkc st0 y st1):=hA;intro C dv H' ρ' hm x' R' hf;unfold Qkc at hA
  by_cases hp:st0 <+: st1
  ·rw [if_pos hp] at hA;obtain ⟨x2,R2⟩:=Qcb R x' R' hp;obtain ⟨cls,fs⟩:=y;cases fs with
   | none=>exact hA C dv H' ρ hm x2 R2 hf
   | some np=>
    obtain ⟨nm,p⟩:=np;simp only at hA;cases e:fz st0.length st1 16 p with
    | none=>rw [e] at hA; exact hA.elim
    | some q=>
     rw [e] at hA;obtain ⟨rest,ht⟩:=x'.pre;rw [<- R.len] at e;obtain ⟨dx,v,e1,e2,e3,e4⟩:=hf;refine hA C dv H' ρ hm x2 R2 ⟨dx,v,e1,e2,fun z=>e3 (z.imp (fun z=>by rw [<- ht]; exact F5 _ z) (x'.hidM dx)),Qk9 (tr0:=ρ.tr) (hs:=ρ.hid) R' ht.symm x'.hidM 16 e4 e⟩
  ·rw [if_neg hp] at hA;exact hA C dv H' ρ' hm x' R' hf
end
theorem Qz {P:Program} {w:World} {K:PySem.W.Frag} {mg:Str->Option Value} {base:Heap} {x qual:Str} {st:Stmt} {f:Addr} {fd:FuncData} {N ps:List Str} {k n nl:Nat} {m:MS} {FF:FN} (F:Fun K x qual st f fd) (S:FnScope N ps (Q8 st)) (hn:ps.length=n) (hnl:N.length=nl) (hF:FF=Qq m nl)
  (hb:∀ (cdv:Value) (A:Around) (outer:List PySem.Env) (s:Shared) (H:Hp) (E:XK),Room k (A.deeper (PyProof.Rows.envOfC qual (Q8 st) s.heap.objs.size f cdv))->SimB (cxD P w K mg base N qual (Q8 st) f cdv A outer s H E) E (Yh st) m) :
  FnOk P w K mg base (CXD P w) (k + 1) f fd ps (spF mg n FF):=by
 subst hn; subst hnl; subst hF;exact Qt0 F S hb
structure DefS (P:Program) (w:World) (K:PySem.W.Frag) (mg:Str->Option Value) (base:Heap) (k:Nat) (x:Str) (n:Nat) (F:FN):Prop where
 ex:∃ (f:Addr) (fd:FuncData) (ps:List Str),FnOk P w K mg base (CXD P w) k f fd ps (spF mg n F)/\mg x=some (.ref f)/\PySem.W.keepIn K (.ref f)=true/\Binds K fd ps []/\ps.length=n
def Qf (n:Nat) (F:FN) (mr:Gam->Q2->Res (List PV)):ME:=fun Γ st=>(mr Γ st).bind fun ps st1=>if ps.length=n then F ps st1 else .stuck
section
variable {X:Cx} {E:XK} {k n:Nat} {x:Str} {F:FN} {p pos:Pos} {e:Expr} {es:List Expr} {mr:Gam->Q2->Res (List PV)}
theorem Qg (D:DefS X.prog X.w X.K X.mg X.base k x n F) (hr:Room k X.A) (hx:Kv (CXD X.prog X.w) X E) (hg:Gl X x) (ha:SimA X E (e :: es) mr) (hdb:(x == ("__debug__" : Str))=false:=by decide)
  (he:starEach (e :: es) X.env=(false,eval e X.env) :: starEach es X.env:=by rfl) (hpl:(backTo pos (starEach es X.env)).any (·.1)=false:=by rfl):SimE X E (.Call (.Name x p) (e :: es) [] pos) (Qf n F mr):=by
 obtain ⟨f,fd,ps,hF,hm,hk,hb,hl⟩:=D.ex;exact ⟨fun Γ σ H ρ st Q R G h=>WE.of (Qnp hF hr hg hm hk hb .nil hx Q3b hdb he hpl) (ha.use R G h.bind fun qs st1 H1 ρ1 vs x1 R1 G1 r1 h1=>by
  by_cases hq:qs.length=n
  ·rw [if_pos hq] at h1;show spF X.mg n F (vs ++ []) H1 Q E;rw [List.append_nil];exact ⟨by rw [<- r1.length]; exact hq,ρ1,st1,qs,R1,r1,h1⟩
  ·rw [if_neg hq] at h1; exact h1.elim)⟩
end
end
@[simp] theorem J4 {α β:Type} (a:α) (st:Q2) (f:α->Q2->Res β):(Res.ok a st).bind f=f a st:=rfl
@[simp] theorem Qt6 {α β:Type} (f:α->Q2->Res β):(Res.stuck:Res α).bind f=.stuck:=rfl
@[simp] theorem Qwa {α β:Type} (x:Exc) (st:Q2) (f:α->Q2->Res β):(Res.exc x st:Res α).bind f=.exc x st:=rfl
@[simp] theorem Vj {α:Type} (a:α) (st:Q2) (f:α->Q2->SR):(Res.ok a st).sbind f=f a st:=rfl
@[simp] theorem Qqf {α:Type} (f:α->Q2->SR):(Res.stuck:Res α).sbind f=.stuck:=rfl
@[simp] theorem Qti {α:Type} (x:Exc) (st:Q2) (f:α->Q2->SR):(Res.exc x st:Res α).sbind f=.exc x st:=rfl
@[simp] theorem Qws (i:Nat) (Γ:Gam) (st:Q2):Q4 i Γ st=(match Γ[i]? with | some (some p)=>.ok p st | _=>.stuck):=rfl
@[simp] theorem Qyb (p:PV) (Γ:Gam) (st:Q2):mC p Γ st=.ok p st:=rfl
@[simp] theorem Qsk (o:OP) (a b:ME) (Γ:Gam) (st:Q2):mOp o a b Γ st=(a Γ st).bind fun x st1=>(b Γ st1).bind fun y st2=>o st2 x y:=rfl
@[simp] theorem Qy5 (b:Bool) (st:Q2):asB (.bl b) st=.ok b st:=rfl
@[simp] theorem Qr3 (m:ME) (Γ:Gam) (st:Q2):toB m Γ st=(m Γ st).bind asB:=rfl
def Qmv {α:Type} (x:PV) (A B:Res α):Res α:=match x with
 | .bl true=>A
 | .bl false=>B
 | _=>.stuck
@[simp] theorem Qwg {α:Type} (b:Bool) (A B:Res α):Qmv (.bl b) A B=if b=true then A else B:=by cases b <;> rfl
@[simp] theorem Qtp (o o':OP) (a b c:ME) (Γ:Gam) (st:Q2):Q16 o o' a b c Γ st=(a Γ st).bind fun x st1=>(b Γ st1).bind fun y st2=>(o st2 x y).bind fun k st3=>Qmv k ((c Γ st3).bind fun z st4=>o' st4 y z) (.ok (.bl false) st3):=by
 unfold Q16;refine congrArg _ (funext fun x=>funext fun st1=>congrArg _ (funext fun y=>funext fun st2=>congrArg _ (funext fun k=>funext fun st3=>?_)))
 cases k with
 | bl b=>cases b <;> rfl
 | _=>rfl
@[simp] theorem Qpe (a b:ME) (Γ:Gam) (st:Q2):Q4t a b Γ st=(a Γ st).bind fun x st1=>Qmv x (b Γ st1) (.ok (.bl false) st1):=by
 unfold Q4t;refine congrArg _ (funext fun x=>funext fun st1=>?_);cases x with
 | bl b=>cases b <;> rfl
 | _=>rfl
@[simp] theorem Qxy (a b:ME) (Γ:Gam) (st:Q2):mOr a b Γ st=(a Γ st).bind fun x st1=>Qmv x (.ok (.bl true) st1) (b Γ st1):=by
 unfold mOr;refine congrArg _ (funext fun x=>funext fun st1=>?_);cases x with
 | bl b=>cases b <;> rfl
 | _=>rfl
@[simp] theorem Qwt (a:ME) (Γ:Gam) (st:Q2):Qsm a Γ st=(a Γ st).bind fun x st1=>(match x with | .bl k=>.ok (.bl (!k)) st1 | _=>.stuck):=rfl
@[simp] theorem Qwv (a:ME) (Γ:Gam) (st:Q2):Q4s a Γ st=(a Γ st).bind fun x st1=>(match x with | .int k=>.ok (.int (-k)) st1 | _=>.stuck):=rfl
@[simp] theorem Qbz (a b:MT) (Γ:Gam) (st:Q2):Q0d a b Γ st=(a Γ st).bind fun k st1=>if k=true then b Γ st1 else .ok false st1:=rfl
@[simp] theorem Qf2 (a b:MT) (Γ:Gam) (st:Q2):Q0m a b Γ st=(a Γ st).bind fun k st1=>if k=true then .ok true st1 else b Γ st1:=rfl
@[simp] theorem Qii (a:MT) (Γ:Gam) (st:Q2):Vg a Γ st=(a Γ st).bind fun k st1=>.ok (!k) st1:=rfl
@[simp] theorem Qwu (Γ:Gam) (st:Q2):Q9 Γ st=.ok [] st:=rfl
@[simp] theorem Qjy (m:ME) (mr:ML) (Γ:Gam) (st:Q2):Q3 m mr Γ st=(m Γ st).bind fun p st1=>(mr Γ st1).bind fun ps st2=>.ok (p :: ps) st2:=rfl
@[simp] theorem Qp6 (mr:ML) (Γ:Gam) (st:Q2):Xn mr Γ st=(mr Γ st).bind fun ps st1=>if ps.length<=lim then .ok (.tup ps) st1 else .stuck:=rfl
@[simp] theorem Qww (mr:ML) (Γ:Gam) (st:Q2):Q3p mr Γ st=(mr Γ st).bind fun ps st1=>if ps.length<=lim then .ok (.lst ps) st1 else .stuck:=rfl
@[simp] theorem Qvi (mr:ML) (Γ:Gam) (st:Q2):jq mr Γ st=(mr Γ st).bind fun ps st1=>if ps.length<=lim then .ok ps st1 else .stuck:=rfl
@[simp] theorem Qxx (m:ME) (l h:Gam->Q2->Res (Option Int)) (Γ:Gam) (st:Q2):mSl m l h Γ st=(m Γ st).bind fun p st1=>(l Γ st1).bind fun lo st2=>(h Γ st2).bind fun hi st3=>oSl st3 p lo hi:=rfl
@[simp] theorem Qsn (Γ:Gam) (st:Q2):X2 Γ st=.ok none st:=rfl
@[simp] theorem Qvg (m:ME) (Γ:Gam) (st:Q2):zy m Γ st=(m Γ st).bind fun p st1=>(match p with | .int i=>.ok (some i) st1 | _=>.stuck):=rfl
@[simp] theorem Qjz (o:CF) (mr:ML) (Γ:Gam) (st:Q2):J5 o mr Γ st=(mr Γ st).bind fun ps st1=>o st1 ps:=rfl
@[simp] theorem Qpa (T:String) (m:ME) (Γ:Gam) (st:Q2):Q2u T m Γ st=(m Γ st).bind fun p st1=>if y3 st1 p=true then .stuck else .ok (.bl (isI T (dpv st1 p))) st1:=rfl
@[simp] theorem Qvy (st:Q2):y3 st .non=false:=rfl
@[simp] theorem Qwy (st:Q2) (b:Bool):y3 st (.bl b)=false:=rfl
@[simp] theorem Qw0 (st:Q2) (b:Int):y3 st (.int b)=false:=rfl
@[simp] theorem Qvw (st:Q2) (b:Str):y3 st (.str b)=false:=rfl
@[simp] theorem Qvv (st:Q2) (b:List PV):y3 st (.tup b)=false:=rfl
@[simp] theorem Qvz (st:Q2) (b:List PV):y3 st (.lst b)=false:=rfl
@[simp] theorem Qw1 (st:Q2) (b:List PV):y3 st (.fro b)=false:=rfl
@[simp] theorem Qw2 (st:Q2):y3 st .dic=false:=rfl
@[simp] theorem Qvx (st:Q2) (i:Nat):y3 st (.ref i)=(match st[i]? with | some (.frd _)=>true | some (.obj _ _)=>true | _=>false):=rfl
@[simp] theorem Qx3 (st:Q2):dpv st .non=.non:=rfl
@[simp] theorem Qy4 (st:Q2) (b:Bool):dpv st (.bl b)=(.bl b):=rfl
@[simp] theorem Qx5 (st:Q2) (b:Int):dpv st (.int b)=(.int b):=rfl
@[simp] theorem Qx2 (st:Q2) (b:Str):dpv st (.str b)=(.str b):=rfl
@[simp] theorem Qx1 (st:Q2) (b:List PV):dpv st (.tup b)=(.tup b):=rfl
@[simp] theorem Qx4 (st:Q2) (b:List PV):dpv st (.lst b)=(.lst b):=rfl
@[simp] theorem Qx6 (st:Q2) (b:List PV):dpv st (.fro b)=(.fro b):=rfl
@[simp] theorem Qy3 (st:Q2):dpv st .dic=.dic:=rfl
@[simp] theorem Qyc (st:Q2) (i:Nat):dpv st (.ref i)=(match st[i]? with | some (.dic _)=>.dic | some (.dtp _)=>.dic | _=>.ref i):=rfl
@[simp] theorem Qp5 (m:ML) (Γ:Gam) (st:Q2):Xv m Γ st=(m Γ st).bind fun ps st1=>.ok (.lst ps) st1:=rfl
@[simp] theorem Qp7 (m:ML) (Γ:Gam) (st:Q2):Q0i m Γ st=(m Γ st).bind fun ps st1=>.ok (.ref st1.length) (st1 ++ [.lst ps]):=rfl
@[simp] theorem Qh5 (cap:List (Option Nat)) (ga:GA) (mi:MI) (mt:MT) (me:ME) (Γ:Gam) (st:Q2):Yb cap ga mi mt me Γ st=(mi Γ st).bind fun iw st1=>noX (Z0 ga mt me iw.2 (Zk cap Γ) iw.1 st1):=rfl
@[simp] theorem Qvf (Γ:Gam) (st:Q2):Zn Γ st=.ok true st:=rfl
@[simp] theorem Qa4 (n:Nat) (F:FN) (mr:ML) (Γ:Gam) (st:Q2):Qf n F mr Γ st=(mr Γ st).bind fun ps st1=>if ps.length=n then F ps st1 else .stuck:=rfl
@[simp] theorem Qvh (Γ:Gam) (st:Q2):Zy Γ st=.nx Γ st:=rfl
@[simp] theorem Qcw (a b:MS) (Γ:Gam) (st:Q2):Qp a b Γ st=(match a Γ st with | .nx Γ1 st1=>b Γ1 st1 | r=>r):=rfl
@[simp] theorem Q7s (m:ME) (Γ:Gam) (st:Q2):W2 m Γ st=(m Γ st).sbind fun _ st1=>.nx Γ st1:=rfl
@[simp] theorem Q3m (m:ME) (Γ:Gam) (st:Q2):Jp m Γ st=(m Γ st).sbind fun p st1=>.rt p st1:=rfl
@[simp] theorem Qp8 (i:Nat) (m:ME) (Γ:Gam) (st:Q2):Je i m Γ st=(m Γ st).sbind fun p st1=>.nx (Γ.set i (some p)) st1:=rfl
@[simp] theorem Qfn (c:MT) (a b:MS) (Γ:Gam) (st:Q2):Ye c a b Γ st=(c Γ st).sbind fun k st1=>if k=true then a Γ st1 else b Γ st1:=rfl
@[simp] theorem Qpb (ga:GA) (mi:MI) (b:MS) (Γ:Gam) (st:Q2):Q7r ga mi b Γ st=(mi Γ st).sbind fun iw st1=>y6 ga b iw.2 iw.1 Γ st1:=rfl
@[simp] theorem Qp9 (m:ME) (Γ:Gam) (st:Q2):zw m Γ st=(m Γ st).bind fun p st1=>(match Ut st1 p with | some (xs,w)=>if xs.length<=lim then .ok (xs,w) st1 else .stuck | none=>.stuck):=rfl
@[simp] theorem Xw (mr:ML) (Γ:Gam) (st:Q2):Ys mr Γ st=(mr Γ st).bind fun ps st1=>(match ps with | [.int j]=>if -(lim:Int)<=j/\j<=lim then .ok (Ya 0 j.toNat,[]) st1 else .stuck | _=>.stuck):=rfl
@[simp] theorem Qeh (mr:ML) (Γ:Gam) (st:Q2):Q3n mr Γ st=(mr Γ st).bind fun ps st1=>(match ps with | [.int i,.int j]=>if -(lim:Int)<=i/\i<=lim/\-(lim:Int)<=j/\j<=lim then .ok (Ya i (j - i).toNat,[]) st1 else .stuck | _=>.stuck):=rfl
@[simp] theorem Qp4 (mr:ML) (Γ:Gam) (st:Q2):Q5v mr Γ st=(mr Γ st).bind fun ps st1=>(match ps with | [p,q]=>(match Ut st1 p,Ut st1 q with | some (xs,w),some (ys,w')=>if xs.length<=lim then .ok (Q31 xs ys,w ++ w') st1 else .stuck | _,_=>.stuck) | _=>.stuck):=rfl
@[simp] theorem Qsp (f:MF) (mo:ME) (mr:ML) (Γ:Gam) (st:Q2):mBM f mo mr Γ st=(mo Γ st).bind fun p st1=>(match zm st1 p with | some _=>(mr Γ st1).bind fun ps st2=>f st2 p ps | none=>.stuck):=rfl
@[simp] theorem Qpd (ga:GA) (m:ME) (Γ:Gam) (st:Q2):Qk0 ga m Γ st=(m Γ st).sbind fun p st1=>(match ga p Γ with | some Γ1=>.nx Γ1 st1 | none=>.stuck):=rfl
@[simp] theorem Qh3 (mo mi m:ME) (Γ:Gam) (st:Q2):Q03 mo mi m Γ st=(m Γ st).sbind fun p st1=>(mo Γ st1).sbind fun o st2=>(mi Γ st2).sbind fun i st3=>(match Q0q st3 o i p with | some st4=>.nx Γ st4 | none=>.stuck):=rfl
@[simp] theorem Qtm (x:Str) (m:ME) (Γ:Gam) (st:Q2):Xx x m Γ st=(m Γ st).sbind fun _ st1=>.exc ⟨x,none⟩ st1:=rfl
@[simp] theorem Qtr (i:Nat) (p:PV) (Γ:Gam):Qn i p Γ=some (Γ.set i (some p)):=rfl
@[simp] theorem Qvs (Γ:Gam):Ka [] Γ=some Γ:=rfl
@[simp] theorem Qts (g:GA) (gs:GAs) (p:PV) (r:List PV) (Γ:Gam):Zx g gs (p :: r) Γ=(g p Γ).bind (gs r):=rfl
@[simp] theorem Qvr (gs:GAs) (ps:List PV) (Γ:Gam):K9 gs (.tup ps) Γ=gs ps Γ:=rfl
@[simp] theorem Qxu {α:Type} (a:α) (st:Q2):noX (Res.ok a st)=.ok a st:=rfl
@[simp] theorem Qtj {α:Type}:noX (Res.stuck:Res α)=.stuck:=rfl
@[simp] theorem Qcp {α:Type} (st:Q2) (a:α):okO st (some a)=.ok a st:=rfl
@[simp] theorem Qv7 {α:Type} (st:Q2):okO st (none:Option α)=.stuck:=rfl
@[simp] theorem Qya (g:Int->Int->PV) (st:Q2) (a b:Int):oI g st (.int a) (.int b)=.ok (g a b) st:=rfl
@[simp] theorem Qve (st:Q2) (a b:Int):We st (.int a) (.int b)=.ok (.int (a + b)) st:=rfl
@[simp] theorem Qvd (st:Q2) (a b:List PV):We st (.tup a) (.tup b)=if a.length + b.length<=lim then .ok (.tup (a ++ b)) st else .stuck:=rfl
@[simp] theorem Qv9 (st:Q2) (a b:Int):Q5t st (.int a) (.int b)=if (-(2 ^ 64) < a/\a < 2 ^ 64)\/(-(2 ^ 64) < b/\b < 2 ^ 64) then .ok (.int (a * b)) st else .stuck:=rfl
@[simp] theorem Qv8 (st:Q2) (xs:List PV) (b:Int):Q5t st (.tup xs) (.int b)=if xs≠[]/\1<=b/\xs.length * b.toNat<=4096 then .ok (.tup (List.replicate b.toNat xs).flatten) st else .stuck:=rfl
@[simp] theorem Qva (st:Q2) (a b:Int):Q3g st (.int a) (.int b)=if 0 < b then .ok (.int (a % b)) st else .stuck:=rfl
@[simp] theorem Qvc (st:Q2) (a b:Int):Qp1 st (.int a) (.int b)=if 0 < b/\b < 1073741824 then .ok (.int (a / b)) st else .stuck:=rfl
@[simp] theorem Qjm (st:Q2) (a b:Int):Qjn st (.int a) (.int b)=if 0<=b/\b<=1000000/\a.natAbs < 2 ^ 64 then .ok (.int (a ^ b.toNat)) st else .stuck:=rfl
@[simp] theorem Qwm (st:Q2) (a b:Int):oLt st (.int a) (.int b)=.ok (.bl (decide (a < b))) st:=rfl
@[simp] theorem Qwr (st:Q2) (a b:Int):oEq st (.int a) (.int b)=.ok (.bl (a == b)) st:=rfl
@[simp] theorem Qwk (st:Q2) (a b:Int):oNe st (.int a) (.int b)=.ok (.bl (!(a == b))) st:=rfl
@[simp] theorem Qxt (st:Q2) (a b:Bool):oEq st (.bl a) (.bl b)=.ok (.bl (a == b)) st:=rfl
@[simp] theorem Qxs (st:Q2) (a b:Bool):oNe st (.bl a) (.bl b)=.ok (.bl (!(a == b))) st:=rfl
@[simp] theorem Qwq (st:Q2) (a b:Str):oEq st (.str a) (.str b)=.ok (.bl (a == b)) st:=rfl
@[simp] theorem Qwj (st:Q2) (a b:Str):oNe st (.str a) (.str b)=.ok (.bl (!(a == b))) st:=rfl
@[simp] theorem Qtq (st:Q2) (xs:List PV):Q17 st (.lst xs)=some xs:=rfl
@[simp] theorem Qsq (st:Q2) (xs:List PV):zm st (.lst xs)=some xs:=rfl
@[simp] theorem Qsr (st:Q2) (xs:List PV):zm st (.fro xs)=some xs:=rfl
@[simp] theorem Q9t (st:Q2) (xs:List PV):Uv st (.lst xs)=some xs:=rfl
@[simp] theorem Qth (st:Q2) (xs:List PV):Uv st (.fro xs)=some xs:=rfl
@[simp] theorem Qg9 (st:Q2) (xs:List PV):Uv st (.tup xs)=some xs:=rfl
@[simp] theorem Qtf (st:Q2) (xs:List PV):Ut st (.lst xs)=some (xs,[]):=rfl
@[simp] theorem Qtg (st:Q2) (xs:List PV):Ut st (.fro xs)=some (xs,[]):=rfl
@[simp] theorem Qte (st:Q2) (xs:List PV):Ut st (.tup xs)=some (xs,[]):=rfl
theorem Uk {st:Q2} {i:Nat} {xs:List PV} (h:st[i]?=some (.lst xs)):Q17 st (.ref i)=some xs:=by simp only [Q17,h]
@[simp] theorem Qfg (st:Q2) (xs:List PV) (i:Int):oIx st (.tup xs) (.int i)=okO st (atI xs i):=rfl
@[simp] theorem Qwn (st:Q2) (xs:List PV) (i:Int):oIx st (.lst xs) (.int i)=okO st (atI xs i):=rfl
@[simp] theorem Qwp (st:Q2) (xs:List PV) (i:Int):oIx st (.fro xs) (.int i)=okO st (atI xs i):=rfl
@[simp] theorem jm (st:Q2) (xs:List PV) (l h:Option Int):oSl st (.tup xs) l h=.ok (.tup (cut xs l h)) st:=rfl
@[simp] theorem Qwh (st:Q2) (xs:List PV) (l h:Option Int):oSl st (.lst xs) l h=.ok (.lst (cut xs l h)) st:=rfl
@[simp] theorem Qwi (st:Q2) (xs:List PV) (l h:Option Int):oSl st (.fro xs) l h=.ok (.lst (cut xs l h)) st:=rfl
@[simp] theorem Qw5 (st:Q2) (xs:List PV):Yp st [.tup xs]=.ok (.int xs.length) st:=rfl
@[simp] theorem Qw6 (st:Q2) (xs:List PV):Yp st [.lst xs]=.ok (.int xs.length) st:=rfl
@[simp] theorem Qw7 (st:Q2) (xs:List PV):Yp st [.fro xs]=.ok (.int xs.length) st:=rfl
@[simp] theorem Qtt (st:Q2) (xs:List PV):Q1f st [.tup xs]=.ok (.lst xs) st:=rfl
@[simp] theorem Qtu (st:Q2) (xs:List PV):Q1f st [.lst xs]=.ok (.lst xs) st:=rfl
@[simp] theorem Qtv (st:Q2) (xs:List PV):Q1f st [.fro xs]=.ok (.lst xs) st:=rfl
@[simp] theorem Qt4 (st:Q2) (xs:List PV):Uh st [.tup xs]=.ok (.tup xs) st:=rfl
@[simp] theorem Qt5 (st:Q2) (xs:List PV):Uh st [.lst xs]=.ok (.tup xs) st:=rfl
@[simp] theorem Q8i (g:List Bool->PV) (st:Q2) (bs:List Bool):Q27 g st [.lst (bs.map .bl)]=.ok (g bs) st:=by
 simp only [Q27,Q9t,Option.bind_some,Qq7]
@[simp] theorem Qhy (g:List Int->Option PV) (st:Q2) (ns:List Int):Xb g st [.lst (ns.map .int)]=okO st (g ns):=by
 simp only [Xb,Q9t,Option.bind_some,Qd6]
@[simp] theorem Qhw (g:List Int->Option PV) (st:Q2) (ns:List Int):Xb g st [.tup (ns.map .int)]=okO st (g ns):=by
 simp only [Xb,Qg9,Option.bind_some,Qd6]
@[simp] theorem Qdg (st:Q2) (a b:Int):Q8h st [.int a,.int b]=.ok (.int (if b > a then b else a)) st:=rfl
@[simp] theorem Qkx (st:Q2) (a b:Int):Qhv st [.int a,.int b]=.ok (.int (if b < a then b else a)) st:=rfl
@[simp] theorem Qtx (st:Q2):wOk [] st=True:=by simp [wOk]
@[simp] theorem Qkb (st:Q2) (b:Bool):fin st (.bl b) st=.ok (.bl b) st:=by simp [fin,fz]
@[simp] theorem Qfu (st:Q2) (b:Int):fin st (.int b) st=.ok (.int b) st:=by simp [fin,fz]
@[simp] theorem Qx0 (st:Q2):fin st .non st=.ok .non st:=by simp [fin,fz]
@[simp] theorem Qwz (st:Q2) (b:Str):fin st (.str b) st=.ok (.str b) st:=by simp [fin,fz]
theorem Vm {st:Q2} {v:PV} (g:Zi 12 v=true):fin st v st=.ok v st:=by
 simp only [fin,List.prefix_rfl,if_true,Q67 g (by decide:12 < 16),Qcp]
theorem Q53 {st more:Q2} {v:PV} (g:Zi 12 v=true):fin st v (st ++ more)=.ok v st:=by
 simp only [fin,List.prefix_append,if_true,Q67 g (by decide:12 < 16),Qcp]
theorem Zh:lim=1000000:=rfl
theorem Yx {α:Type} (g f:α->PV) {ga:GA} {me:ME} {w:Wt} {Γ0:Gam} {st:Q2} (hw:wOk w st) {ys:List α} (h:∀ y∈ys,∃ Γ1,ga (g y) Γ0=some Γ1/\me Γ1 st=.ok (f y) st):Z0 ga Zn me w Γ0 (ys.map g) st=.ok (ys.map f) st:=by
 induction ys with
 | nil=>simp [Z0,hw]
 | cons y ys ih=>
  obtain ⟨Γ1,h1,h2⟩:=h y D4;have ih:=ih fun z hz=>h z (D0 _ hz)
  rw [F2,Z0,if_pos hw,h1];simp [h2,ih]
theorem Q1x {α:Type} (g f:α->PV) (t:α->Bool) {ga:GA} {mt:MT} {me:ME} {w:Wt} {Γ0:Gam} {st:Q2} (hw:wOk w st) {ys:List α} (h:∀ y∈ys,∃ Γ1,ga (g y) Γ0=some Γ1/\mt Γ1 st=.ok (t y) st/\(t y=true->me Γ1 st=.ok (f y) st)):Z0 ga mt me w Γ0 (ys.map g) st=.ok ((ys.filter t).map f) st:=by
 induction ys with
 | nil=>simp [Z0,hw]
 | cons y ys ih=>
  obtain ⟨Γ1,h1,h2,h3⟩:=h y D4;have ih:=ih fun z hz=>h z (D0 _ hz)
  rw [F2,Z0,if_pos hw,h1];simp only [h2,J4,ih];cases tx:t y with
  | true=>simp [h3 tx,tx,ih]
  | false=>simp [tx]
@[simp] theorem Qw9 {α:Type} (g:List Bool->PV) (st:Q2) (ys:List α) (b:α->Bool):Q27 g st [.lst (ys.map fun y=>.bl (b y))]=.ok (g (ys.map b)) st:=by
 rw [show (ys.map fun y=>PV.bl (b y))=(ys.map b).map .bl by rw [List.map_map]; rfl,Q8i]
@[simp] theorem Qhx {α:Type} (g:List Int->Option PV) (st:Q2) (ys:List α) (b:α->Int):Xb g st [.lst (ys.map fun y=>.int (b y))]=okO st (g (ys.map b)):=by
 rw [show (ys.map fun y=>PV.int (b y))=(ys.map b).map .int by rw [List.map_map]; rfl,Qhy]
theorem Q1c {α:Type} (g:α->PV) {xs:List α} (I:Nat->Gam->Q2->Prop) {ga:GA} {body:MS} {w:Wt} (hw:∀ i Γ st,I i Γ st->wOk w st)
  (h:∀ (i:Nat) x Γ st,xs[i]?=some x->I i Γ st->∃ Γ1,ga (g x) Γ=some Γ1/\∃ Γ2 st2,body Γ1 st=.nx Γ2 st2/\I (i + 1) Γ2 st2) {Γ:Gam} {st:Q2} (h0:I 0 Γ st):∃ Γ' st',y6 ga body w (xs.map g) Γ st=.nx Γ' st'/\I xs.length Γ' st':=by
 induction xs generalizing I Γ st with
 | nil=>exact ⟨Γ,st,by simp [y6,hw 0 Γ st h0],h0⟩
 | cons x xs ih=>
  obtain ⟨Γ1,h1,Γ2,st2,e2,i2⟩:=h 0 x Γ st rfl h0;obtain ⟨Γ',st',e3,i3⟩:=ih (fun i=>I (i + 1)) (fun i Γ st z=>hw (i + 1) Γ st z) (fun i y Γ st hy z=>h (i + 1) y Γ st (by simpa using hy) z) i2
  refine ⟨Γ',st',?_,i3⟩;rw [F2,y6,if_pos (hw 0 Γ st h0),h1];simp only [e2];exact e3
theorem Qa8 {α:Type} (g:α->PV) {xs:List α} (I:List α->Gam->Q2->Prop) {ga:GA} {body:MS} {w:Wt} (hw:∀ pre Γ st,I pre Γ st->wOk w st)
  (h:∀ pre x post Γ st,xs=pre ++ x :: post->I pre Γ st->∃ Γ1,ga (g x) Γ=some Γ1/\∃ Γ2 st2,body Γ1 st=.nx Γ2 st2/\I (pre ++ [x]) Γ2 st2) {Γ:Gam} {st:Q2} (h0:I [] Γ st):∃ Γ' st',y6 ga body w (xs.map g) Γ st=.nx Γ' st'/\I xs Γ' st':=by
 have key:∀ (post pre:List α) (Γ:Gam) (st:Q2),xs=pre ++ post->I pre Γ st->∃ Γ' st',y6 ga body w (post.map g) Γ st=.nx Γ' st'/\I xs Γ' st':=by
  intro post
  induction post with
  | nil=>intro pre Γ st e i; exact ⟨Γ,st,by simp [y6,hw pre Γ st i],by rw [e,List.append_nil]; exact i⟩
  | cons x post ih=>
   intro pre Γ st e i;obtain ⟨Γ1,h1,Γ2,st2,e2,i2⟩:=h pre x post Γ st e i;obtain ⟨Γ',st',e3,i3⟩:=ih (pre ++ [x]) Γ2 st2 (by rw [e]; simp) i2;refine ⟨Γ',st',?_,i3⟩;rw [F2,y6,if_pos (hw pre Γ st i),h1];simp only [e2];exact e3
 exact key xs [] Γ st rfl h0
theorem Q0k {α β:Type} (f:α->PV) (g:β->PV) (xs:List α) (ys:List β):Q31 (xs.map f) (ys.map g)=(xs.zip ys).map fun z=>.tup [f z.1,g z.2]:=by
 rw [Qan,List.zip_map,List.map_map]; rfl
theorem K5 {α:Type} (f:α->PV) (xs:List α) (i:Int):atI (xs.map f) i=(atI xs i).map f:=by
 unfold atI;rw [O2];cases ixN xs.length i with
 | none=>rfl
 | some j=>simp [E6]
theorem atI_get {α:Type} {xs:List α} {i:Nat} {x:α} (h:xs[i]?=some x):atI xs (i:Int)=some x:=by
 have hl:=(O1.mp h).1;unfold atI ixN;rw [if_pos (by omega),if_pos (by omega)];simpa using h
theorem js {α:Type} (f:α->PV) (xs:List α) (l h:Option Int):cut (xs.map f) l h=(cut xs l h).map f:=by
 unfold cut;rw [O2,<- List.map_drop,<- List.map_take]
theorem Uy (n:Nat):Ya 0 n=(List.range n).map fun (k:Nat)=>PV.int (k:Int):=by
 unfold Ya;refine List.map_congr_left fun k _=>?_
 rw [Int.zero_add]
@[simp] theorem Qx9 {α:Type} (st l:List α) (c:α):(st ++ c :: l)[st.length]?=some c:=by
 rw [D1 (O7 _),Nat.sub_self]; rfl
@[simp] theorem Qwe {α:Type} (st l:List α) (c d:α):(st ++ c :: d :: l)[st.length + 1]?=some d:=by
 rw [D1 (by omega)];rw [show st.length + 1 - st.length=1 by omega]; rfl
@[simp] theorem Qx8 {α:Type} (st l:List α) (c d:α):(st ++ c :: l).set st.length d=st ++ d :: l:=by
 rw [List.set_append_right _ _ (O7 _),Nat.sub_self]; rfl
@[simp] theorem Qwd {α:Type} (st l:List α) (c c' d:α):(st ++ c :: c' :: l).set (st.length + 1) d=st ++ c :: d :: l:=by
 rw [List.set_append_right _ _ (by omega),show st.length + 1 - st.length=1 by omega]; rfl
@[simp] theorem Qx7 (st:Q2) (i:Nat) (g:List PV->Option (PV × List PV)):chg st (.ref i) g=(match st[i]? with | some (.lst xs)=>(match g xs with | some (r,ys)=>.ok r (st.set i (.lst ys)) | none=>.stuck) | _=>.stuck):=rfl
@[simp] theorem Qwx (st:Q2) (i:Nat):Q17 st (.ref i)=(match st[i]? with | some (.lst xs)=>some xs | _=>none):=rfl
@[simp] theorem Qvj (st:Q2) (i:Nat):zm st (.ref i)=(match st[i]? with | some (.lst xs)=>some xs | _=>none):=rfl
@[simp] theorem Q34 (st:Q2) (i:Nat):Uv st (.ref i)=(match st[i]? with | some (.lst xs)=>some xs | _=>none):=rfl
@[simp] theorem Qmr (st:Q2) (i:Nat):Ut st (.ref i)=(match st[i]? with | some (.lst xs)=>some (xs,[(i,.lst xs)]) | _=>none):=rfl
@[simp] theorem Qqm (st:Q2) (p y:PV):Wz st p [y]=chg st p fun xs=>if xs.length < lim then some (.non,xs ++ [y]) else none:=rfl
@[simp] theorem Qw4 (st:Q2) (i:Nat):Uh st [.ref i]=(match st[i]? with | some (.lst xs)=>.ok (.tup xs) st | _=>.stuck):=by
 unfold Uh; simp only [Q34];cases st[i]? with
 | none=>rfl
 | some c=>cases c <;> rfl
@[simp] theorem Qq4 (st:Q2) (i:Nat):Q1f st [.ref i]=(match st[i]? with | some (.lst xs)=>.ok (.lst xs) st | _=>.stuck):=by
 unfold Q1f; simp only [Q34];cases st[i]? with
 | none=>rfl
 | some c=>cases c <;> rfl
@[simp] theorem Qky (st:Q2) (i:Nat):Yp st [.ref i]=(match st[i]? with | some (.lst xs)=>.ok (.int xs.length) st | _=>.stuck):=by
 unfold Yp; simp only [Q34];cases st[i]? with
 | none=>rfl
 | some c=>cases c <;> rfl
@[simp] theorem Qvb (st:Q2) (i:Nat) (j:Int):oIx st (.ref i) (.int j)=(match st[i]? with | some (.lst xs)=>okO st (atI xs j) | _=>.stuck):=by
 unfold oIx; simp only [Q34];cases st[i]? with
 | none=>rfl
 | some c=>cases c <;> rfl
@[simp] theorem Qwf (st:Q2) (k:Nat) (j:Int) (p:PV):Q0q st (.ref k) (.int j) p=(match st[k]? with | some (.lst xs)=>(ixN xs.length j).map fun n=>st.set k (.lst (xs.set n p)) | _=>none):=rfl
theorem Q1w {α:Type} (xs:List α) (k:Nat):cut xs none (some (k:Int))=xs.take k:=by
 unfold cut;rw [HT.sIx_none,HT.sIx_nat,List.drop_zero,Nat.sub_zero];rcases Nat.le_total k xs.length with h | h
 ·rw [Nat.min_eq_left h]
 ·rw [Nat.min_eq_right h,List.take_length,List.take_of_length_le h]
theorem Q1d {α:Type} (xs:List α) (k:Nat):cut xs (some (k:Int)) none=xs.drop k:=by
 unfold cut;rw [HT.sIx_none,HT.sIx_nat];rcases Nat.le_total k xs.length with h | h
 ·rw [Nat.min_eq_left h,List.take_of_length_le (by rw [List.length_drop]; omega)]
 ·rw [Nat.min_eq_right h,List.drop_length,List.drop_of_length_le h]; simp
theorem getD_some {α:Type} {l:List α} {j:Nat} (h:j < l.length) (d:α):l[j]?=some (l.getD j d):=by
 rw [List.getD,O4 h]; rfl
def ListAt (st:Q2) (V:PV) (xs:List PV):Prop:=V=.lst xs\/V=.fro xs\/∃ i,V=.ref i/\st[i]?=some (.lst xs)
theorem ListAt.ix {st:Q2} {V:PV} {xs:List PV} (h:ListAt st V xs) (j:Int):oIx st V (.int j)=okO st (atI xs j):=by
 rcases h with rfl | rfl | ⟨i,rfl,e⟩
 ·rfl
 ·rfl
 ·rw [Qvb,e]
theorem ListAt.len {st:Q2} {V:PV} {xs:List PV} (h:ListAt st V xs):Yp st [V]=.ok (.int xs.length) st:=by
 rcases h with rfl | rfl | ⟨i,rfl,e⟩
 ·rfl
 ·rfl
 ·rw [Qky,e]
theorem ListAt.list {st:Q2} {V:PV} {xs:List PV} (h:ListAt st V xs):Q1f st [V]=.ok (.lst xs) st:=by
 rcases h with rfl | rfl | ⟨i,rfl,e⟩
 ·rfl
 ·rfl
 ·rw [Qq4,e]
theorem ListAt.src {st:Q2} {V:PV} {xs:List PV} (h:ListAt st V xs):∃ w,Ut st V=some (xs,w)/\wOk w st:=by
 rcases h with rfl | rfl | ⟨i,rfl,e⟩
 ·exact ⟨[],rfl,by simp⟩
 ·exact ⟨[],rfl,by simp⟩
 ·exact ⟨[(i,.lst xs)],by rw [Qmr,e],by simp [wOk,e]⟩
theorem Qhk {α:Type} (g:α->PV) {xs:List α} (I:Nat->List PV->Q2->Prop) {ga:GA} {me:ME} {w:Wt} {Γ0:Gam} (hw:∀ i out st,I i out st->wOk w st)
  (h:∀ (i:Nat) x out st,xs[i]?=some x->I i out st->∃ Γ1,ga (g x) Γ0=some Γ1/\∃ v st2,me Γ1 st=.ok v st2/\I (i + 1) (out ++ [v]) st2) {st:Q2} (h0:I 0 [] st):∃ out st',Z0 ga Zn me w Γ0 (xs.map g) st=.ok out st'/\I xs.length out st':=by
 have key:∀ (ys:List α) (k:Nat) (pre:List PV) (st:Q2),(∀ i,ys[i]?=xs[k + i]?)->k + ys.length=xs.length->I k pre st->∃ out st',Z0 ga Zn me w Γ0 (ys.map g) st=.ok out st'/\I xs.length (pre ++ out) st':=by
  intro ys
  induction ys with
  | nil=>
   intro k pre st e e2 i;refine ⟨[],st,by simp [Z0,hw k pre st i],?_⟩;rw [List.append_nil,<- e2]; exact i
  | cons y ys ih=>
   intro k pre st e e2 i;have e0:xs[k]?=some y:=by have:=e 0; simpa using this.symm
   obtain ⟨Γ1,h1,v,st2,h2,i2⟩:=h k y pre st e0 i;obtain ⟨out,st',h3,i3⟩:=ih (k + 1) (pre ++ [v]) st2 (fun i=>by
    have:=e (i + 1);rw [List.getElem?_cons_succ] at this;rw [this]; congr 1; omega) (by rw [<- e2,D8]; omega) i2
   refine ⟨v :: out,st',?_,by simpa using i3⟩;rw [F2,Z0,if_pos (hw k pre st i),h1];simp [Zn,h2,h3]
 obtain ⟨out,st',h1,h2⟩:=key xs 0 [] st (fun i=>by simp) (by simp) h0;exact ⟨out,st',h1,by simpa using h2⟩
theorem Q1q:∀ {xs:List PV},(∀ x∈xs,peq x x=true)->Kq xs xs=true
 | [],_=>rfl
 | x :: xs,h=>by
  rw [Kq,h x D4,Q1q fun y hy=>h y (D0 _ hy)]; rfl
theorem Q0x:∀ {n:Nat} {p:PV},Zi n p=true->peq p p=true
 | n,.non,_=>rfl
 | n,.bl b,_=>by simp [peq]
 | n,.int b,_=>by simp [peq]
 | n,.str b,_=>by simp [peq]
 | n,.ref _,g=>by cases n <;> simp [Zi] at g
 | n,.dic,g=>by cases n <;> simp [Zi] at g
 | 0,.tup _,g=>by simp [Zi] at g
 | 0,.lst _,g=>by simp [Zi] at g
 | 0,.fro _,g=>by simp [Zi] at g
 | n + 1,.tup xs,g=>by
  rw [peq]; refine Q1q fun x hx=>Q0x (n:=n) ?_
  simp [Zi] at g; exact g x hx
 | n + 1,.lst xs,g=>by
  rw [peq]; refine Q1q fun x hx=>Q0x (n:=n) ?_
  simp [Zi] at g; exact g x hx
 | n + 1,.fro xs,g=>by
  rw [peq]; refine Q1q fun x hx=>Q0x (n:=n) ?_
  simp [Zi] at g; exact g x hx
theorem ListAt.eqs {st:Q2} {V:PV} {xs:List PV} (h:ListAt st V xs) (g:Zi dep (.lst xs)=true):oNe st (.lst xs) V=.ok (.bl false) st/\oNe st V (.lst xs)=.ok (.bl false) st/\oEq st (.lst xs) V=.ok (.bl true) st/\oEq st V (.lst xs)=.ok (.bl true) st:=by
 have hp:Kq xs xs=true:=by have:=Q0x g; rwa [peq] at this
 have g2:Zi dep (.fro xs)=true:=g;rcases h with rfl | rfl | ⟨i,rfl,e⟩
 ·simp [oNe,oEq,der,g,peq,hp]
 ·simp [oNe,oEq,der,g,g2,peq,hp]
 ·simp [oNe,oEq,der,g,g2,peq,hp,e]
section
variable {X:Cx} {E:XK} {a b:Expr} {ma mb:ME} {pos:Pos}
end
def Yj (body:MS) (nl:Nat):FN:=fun ps st=>match body (ps.map some ++ List.replicate (nl - ps.length) none) st with
 | .rt v st'=>.ok v st'
 | .nx _ st'=>.ok .non st'
 | .exc x st'=>.exc x st'
 | _=>.stuck
section
variable {P:Program} {w:World} {K:PySem.W.Frag} {mg:Str->Option Value} {base:Heap}
theorem Qpu {x qual:Str} {st:Stmt} {f:Addr} {fd:FuncData} {N ps:List Str} {k:Nat} {m:MS} (F:Fun K x qual st f fd) (S:FnScope N ps (Q8 st))
  (hb:∀ (cdv:Value) (A:Around) (outer:List PySem.Env) (s:Shared) (H:Hp) (E:XK),Room k (A.deeper (PyProof.Rows.envOfC qual (Q8 st) s.heap.objs.size f cdv))->SimB (cxD P w K mg base N qual (Q8 st) f cdv A outer s H E) E (Yh st) m) :
  FnOk P w K mg base (CXD P w) (k + 1) f fd ps (spF mg ps.length (Yj m N.length)):=by
 refine Fun.okD F S (fun vs H Q E h=>h.1) fun cdv A outer s H vs Q E hr hsp=>⟨_,Q70,?_⟩
 obtain ⟨hl,ρ,st0,pvs,R,rl,hA⟩:=hsp;refine (hb cdv A outer s H E hr).run _ (L2.start N vs) H ρ st0 _ R (Q9r rl) ?_;unfold Yj at hA;cases rr:m (pvs.map some ++ List.replicate (N.length - pvs.length) none) st0 with
 | rt v st1=>rw [rr] at hA; exact fun v H' ρ' x R' r=>hA H' ρ' x R' v r
 | nx Γ st1=>rw [rr] at hA; exact fun σ' H' ρ' x' R' G'=>hA H' ρ' x' R' .non rfl
 | bk Γ st1=>rw [rr] at hA; exact hA.elim
 | ct Γ st1=>rw [rr] at hA; exact hA.elim
 | stuck=>rw [rr] at hA; exact hA.elim
 | exc y st1=>rw [rr] at hA; exact hA
end
theorem Wc {P:Program} {w:World} {K:PySem.W.Frag} {mg:Str->Option Value} {base:Heap} {x qual:Str} {st:Stmt} {f:Addr} {fd:FuncData} {N ps:List Str} {k n nl:Nat} {m:MS} {FF:FN} (F:Fun K x qual st f fd) (S:FnScope N ps (Q8 st)) (hn:ps.length=n) (hnl:N.length=nl) (hF:FF=Yj m nl)
  (hb:∀ (cdv:Value) (A:Around) (outer:List PySem.Env) (s:Shared) (H:Hp) (E:XK),Room k (A.deeper (PyProof.Rows.envOfC qual (Q8 st) s.heap.objs.size f cdv))->SimB (cxD P w K mg base N qual (Q8 st) f cdv A outer s H E) E (Yh st) m) :
  FnOk P w K mg base (CXD P w) (k + 1) f fd ps (spF mg n FF):=by
 subst hn; subst hnl; subst hF;exact Qpu F S hb
end Sm
namespace Sm
open PySem PySem.Spec PyProof.Rows L2
section
variable {X:Cx} {E:XK} {pos:Pos} {a b:Expr} {ma mb:ME}
end
end Sm
namespace Sm
open PySem PySem.Spec L2
def Q2n (w:Str):V:=if w = "make" then .int 3 else if w = "lend" then .int 4 else if w = "use" then .int 3 else .non
structure PartsOk (P:Program) (w:World) (K:PySem.W.Frag) (mg:Str->Option Value):Prop where
 ex:∃ (a:Addr) (o:Obj) (es:Array DictEntry) (ep:Nat),mg "PARTS_OF_DEED" = some (.ref a)/\K.lookup a=some o/\o.cls=.type "dict" /\ o.ExactDict/\o.data=.dict es ep/\KeysOf (J2 P w) es/\(a == sysModules)=false/\∀ x,RelV (Q2n x) ((findBy (J2 P w).is es (.inr x)).getD .none)
def Qei (m:ME):ME:=fun Γ st=>(m Γ st).bind fun p st1=>match p with
 | .str x=>if x = "make" then .ok (.int 3) st1 else if x = "lend" then .ok (.int 4) st1 else if x = "use" then .ok (.int 3) st1 else .ok .non st1
 | _=>.stuck
section
variable {X:Cx} {E:XK} {pos:Pos} {e:Expr} {m:ME}
theorem Qim {p apos cpos:Pos} (PO:PartsOk X.prog X.w X.K X.mg) (hg:Gl X "PARTS_OF_DEED") (he:SimE X E e m)
  (base:attributeBase (.Name "PARTS_OF_DEED" p) "get" X.env (eval (.Name "PARTS_OF_DEED" p) X.env)=eval (.Name "PARTS_OF_DEED" p) X.env:=by rfl)
  (few:((backTo cpos (starEach [e] X.env)).all (fun x=>!x.1) && (backToKw cpos (keywordEach [] X.env)).all (fun x=>x.1.isSome)
   && decide (([e]:List Expr).length + ([]:List Keyword).length + (if ([]:List Keyword).isEmpty then 0 else 1) < 30))=true:=by rfl)
  (line:(apos.endLine == cpos.line)=true:=by rfl) (trees:backTo cpos (starEach [e] X.env)=[(false,eval e X.env)]:=by rfl) :
  SimE X E (.Call (.Attribute (.Name "PARTS_OF_DEED" p) "get" apos) [e] [] cpos) (Qei m):=by
 obtain ⟨a,o,es,ep,pm,pl,pt,pe,pd,pk,ps,pv'⟩:=PO.ex;refine ⟨fun Γ σ H ρ st Q R G h=>WE.of (Qcg (val:=Q2n) hg pm pl pt pe pd pk ps pv' Yk (by decide) base few line trees) (he.use R G h.bind fun q st1 H1 ρ1 v x1 R1 G1 r1 h1=>?_)⟩;cases q with
 | str x=>
  cases r1;have h1:Acc X.mg E H1 ρ1 (QV Q) (if x = "make" then .ok (.int 3) st1 else if x = "lend" then .ok (.int 4) st1 else if x = "use" then .ok (.int 3) st1 else .ok .non st1):=h1
  by_cases a1:x = "make"
  ·rw [if_pos a1] at h1;exact ⟨x,rfl,by unfold Q2n; rw [if_pos a1]; exact now R1 h1 rfl⟩
  ·rw [if_neg a1] at h1
   by_cases a2:x = "lend"
   ·rw [if_pos a2] at h1;exact ⟨x,rfl,by unfold Q2n; rw [if_neg a1,if_pos a2]; exact now R1 h1 rfl⟩
   ·rw [if_neg a2] at h1
    by_cases a3:x = "use"
    ·rw [if_pos a3] at h1;exact ⟨x,rfl,by unfold Q2n; rw [if_neg a1,if_neg a2,if_pos a3]; exact now R1 h1 rfl⟩
    ·rw [if_neg a3] at h1;exact ⟨x,rfl,by unfold Q2n; rw [if_neg a1,if_neg a2,if_neg a3]; exact now R1 h1 rfl⟩
 | _=>exact h1.elim
end
section
theorem Qjf {P:Program} {w:World} {K:PySem.W.Frag} {mg:Str->Option Value} {pd:Addr} {t1 t2 t3 u1 u2 u3:Tok} {ep:Nat} (hm:mg "PARTS_OF_DEED" = some (.ref pd))
  (lk:K.lookup pd=some ⟨.type "dict",none,.dict #[⟨PyData.keyHash w.params "make",.str "make" t1,.int 3 u1⟩,⟨PyData.keyHash w.params "lend",.str "lend" t2,.int 4 u2⟩,⟨PyData.keyHash w.params "use",.str "use" t3,.int 3 u3⟩] ep,#[]⟩) (hp:(pd == sysModules)=false):PartsOk P w K mg:=by
 refine ⟨pd,_,_,_,hm,lk,rfl,⟨rfl,rfl,rfl⟩,rfl,fun e he=>?_,hp,fun x=>?_⟩
 ·simp only [List.mem_toArray,E3,List.not_mem_nil,or_false] at he;rcases he with rfl | rfl | rfl
  ·exact ⟨.inr "make",by simp [J2,Kw,Value.isStrOf],rfl⟩
  ·exact ⟨.inr "lend",by simp [J2,Kw,Value.isStrOf],rfl⟩
  ·exact ⟨.inr "use",by simp [J2,Kw,Value.isStrOf],rfl⟩
 ·unfold Q2n
  by_cases e1:x = "make"
  ·rw [if_pos e1]; subst e1;have:findBy (J2 P w).is #[⟨PyData.keyHash w.params "make",.str "make" t1,.int 3 u1⟩,⟨PyData.keyHash w.params "lend",.str "lend" t2,.int 4 u2⟩,⟨PyData.keyHash w.params "use",.str "use" t3,.int 3 u3⟩] (.inr "make")=some (.int 3 u1):=by first | rfl | decide +kernel
   rw [this]; exact ⟨_,rfl⟩
  ·rw [if_neg e1]
   by_cases e2:x = "lend"
   ·rw [if_pos e2]; subst e2;have:findBy (J2 P w).is #[⟨PyData.keyHash w.params "make",.str "make" t1,.int 3 u1⟩,⟨PyData.keyHash w.params "lend",.str "lend" t2,.int 4 u2⟩,⟨PyData.keyHash w.params "use",.str "use" t3,.int 3 u3⟩] (.inr "lend")=some (.int 4 u2):=by first | rfl | decide +kernel
    rw [this]; exact ⟨_,rfl⟩
   ·rw [if_neg e2]
    by_cases e3:x = "use"
    ·rw [if_pos e3]; subst e3;have:findBy (J2 P w).is #[⟨PyData.keyHash w.params "make",.str "make" t1,.int 3 u1⟩,⟨PyData.keyHash w.params "lend",.str "lend" t2,.int 4 u2⟩,⟨PyData.keyHash w.params "use",.str "use" t3,.int 3 u3⟩] (.inr "use")=some (.int 3 u3):=by first | rfl | decide +kernel
     rw [this]; exact ⟨_,rfl⟩
    ·rw [if_neg e3];have e1':¬ (Str.ofString "make" = x):=fun z=>e1 z.symm
     have e2':¬ (Str.ofString "lend" = x):=fun z=>e2 z.symm
     have e3':¬ (Str.ofString "use" = x):=fun z=>e3 z.symm
     have:findBy (J2 P w).is #[⟨PyData.keyHash w.params "make",.str "make" t1,.int 3 u1⟩,⟨PyData.keyHash w.params "lend",.str "lend" t2,.int 4 u2⟩,⟨PyData.keyHash w.params "use",.str "use" t3,.int 3 u3⟩] (.inr x)=none:=by
      simp [findBy,J2,Kw,Value.isStrOf,e1',e2',e3']
     rw [this]; rfl
end
def Q58 (k1 k2 k3:Str) (p1 p2 p3:PV) (st4:Q2):PV->Res PV
 | .str x=>if x=k1 then .ok p1 st4 else if x=k2 then .ok p2 st4 else if x=k3 then .ok p3 st4 else .stuck
 | _=>.stuck
def Qcy (k1 k2 k3:Str) (m1 m2 m3 mi:ME):ME:=fun Γ st=>(m1 Γ st).bind fun p1 st1=>(m2 Γ st1).bind fun p2 st2=>(m3 Γ st2).bind fun p3 st3=>(mi Γ st3).bind fun q st4=>Q58 k1 k2 k3 p1 p2 p3 st4 q
section
variable {X:Cx} {E:XK} {pos dpos:Pos} {e1 e2 e3 i:Expr} {m1 m2 m3 mi:ME} {k1 k2 k3:Str} {j1 j2 j3:Nat} {q1 q2 q3:Pos}
theorem Qmx (hu:X.A.units + 1 < cLine) (h1:SimE X E e1 m1) (h2:SimE X E e2 m2) (h3:SimE X E e3 m3) (hi:SimE X E i mi) (hs:Qqa i) (n12:k1≠k2:=by decide) (n13:k1≠k3:=by decide) (n23:k2≠k3:=by decide) :
  SimE X E (.Subscript (.Dict [some (.Constant (.str k1) j1 q1),some (.Constant (.str k2) j2 q2),some (.Constant (.str k3) j3 q3)] [e1,e2,e3] dpos) i pos) (Qcy k1 k2 k3 m1 m2 m3 mi):=by
 refine ⟨fun Γ σ H ρ st Q R G h=>WE.of (Qfc hu (Qfb (zu Q0y Yk (zu Q0y Yk (zu Q0y Yk Qfa))) rfl rfl (by simp) (by simp)) Yk hs) ?_⟩;intro p hp;have x0:Ext H ρ (upd H p (.dK [])) (ρ.hide p):=Ext.hide hp;refine h1.use' (R.hide hp) (G.hide hp) (h.bind.later x0) fun a1 st1 H1 ρ1 v1 f1 x1 R1 G1 r1 _=>?_
 have h:=h;unfold Qcy at h;rw [f1] at h;have h:Acc X.mg E H ρ (QV Q) ((m2 Γ st1).bind fun p2 st2=>(m3 Γ st2).bind fun p3 st3=>(mi Γ st3).bind fun q st4=>Q58 k1 k2 k3 a1 p2 p3 st4 q):=h
 refine h2.use' R1 G1 (h.bind.later (x0.trans x1)) fun a2 st2 H2 ρ2 v2 f2 x2 R2 G2 r2 _=>?_
 rw [f2] at h;have h:Acc X.mg E H ρ (QV Q) ((m3 Γ st2).bind fun p3 st3=>(mi Γ st3).bind fun q st4=>Q58 k1 k2 k3 a1 a2 p3 st4 q):=h
 refine h3.use' R2 G2 (h.bind.later ((x0.trans x1).trans x2)) fun a3 st3 H3 ρ3 v3 f3 x3 R3 G3 r3 _=>?_
 rw [f3] at h;have h:Acc X.mg E H ρ (QV Q) ((mi Γ st3).bind fun q st4=>Q58 k1 k2 k3 a1 a2 a3 st4 q):=h
 have x123:Ext H ρ H3 ρ3:=((x0.trans x1).trans x2).trans x3;have xe:Ext (upd H p (.dK [])) (ρ.hide p) H3 ρ3:=(x1.trans x2).trans x3;have pt0:p∉(ρ.hide p).tr:=fun z=>R.fresh hp (.inl z)
 have hp3:H3 p=some (.dK []):=xe.keep p _ J8 pt0;have ph3:p∈ρ3.hid:=xe.hidM p D4;refine ⟨hp3,[(.inr k1,v1),(.inr k2,v2),(.inr k3,v3)],rfl,by simp,?_⟩;have hm:xy [] [((.inr k1:Key),v1),(.inr k2,v2),(.inr k3,v3)]=[(.inr k1,v1),(.inr k2,v2),(.inr k3,v3)]:=by
  simp [xy,Q94,n12,n13,n23]
 rw [hm];obtain ⟨o,ho⟩:∃ o:HO,o=.dK [(.inr k1,v1),(.inr k2,v2),(.inr k3,v3)]:=⟨_,rfl⟩;rw [<- ho];have y:Ext H ρ (upd H3 p o) ρ3:=x123.put0 hp;refine hi.use' (R3.rehide ph3 (by intro _ z; rw [ho] at z; cases z)) (G3.rehide ph3) (h.bind.later y) fun q st4 H4 ρ4 v4 f4 x4 R4 G4 r4 _=>?_
 rw [f4] at h;have h:Acc X.mg E H ρ (QV Q) (Q58 k1 k2 k3 a1 a2 a3 st4 q):=h;have yz:Ext H ρ H4 ρ4:=y.trans x4;have hp4:H4 p=some o:=x4.keep p _ J8 fun z=>R3.ap p ph3 z
 have g1:Rep H4 ρ4 a1 v1:=(((r1.ext x2).ext x3).rehide ph3).ext x4;have g2:Rep H4 ρ4 a2 v2:=((r2.ext x3).rehide ph3).ext x4;have g3:Rep H4 ρ4 a3 v3:=(r3.rehide ph3).ext x4;cases q with
 | str x=>
  cases r4;have h:Acc X.mg E H ρ (QV Q) (if x=k1 then .ok a1 st4 else if x=k2 then .ok a2 st4 else if x=k3 then .ok a3 st4 else .stuck):=h;rw [ho] at hp4
  by_cases b1:x=k1
  ·rw [if_pos b1] at h;refine ⟨p,v1,rfl,?_,h _ _ yz.unhide (R4.unhide yz.hidM) _ (g1.unhide yz.hidM)⟩;have:=DGet.k (k:=.inr x) hp4
   rwa [show qr [((.inr k1:Key),v1),(.inr k2,v2),(.inr k3,v3)] (.inr x)=some v1 by rw [b1]; simp [qr]] at this
  ·rw [if_neg b1] at h
   by_cases b2:x=k2
   ·rw [if_pos b2] at h;refine ⟨p,v2,rfl,?_,h _ _ yz.unhide (R4.unhide yz.hidM) _ (g2.unhide yz.hidM)⟩;have:=DGet.k (k:=.inr x) hp4
    rwa [show qr [((.inr k1:Key),v1),(.inr k2,v2),(.inr k3,v3)] (.inr x)=some v2 by rw [b2]; simp [qr,n12]] at this
   ·rw [if_neg b2] at h
    by_cases b3:x=k3
    ·rw [if_pos b3] at h;refine ⟨p,v3,rfl,?_,h _ _ yz.unhide (R4.unhide yz.hidM) _ (g3.unhide yz.hidM)⟩;have:=DGet.k (k:=.inr x) hp4
     rwa [show qr [((.inr k1:Key),v1),(.inr k2,v2),(.inr k3,v3)] (.inr x)=some v3 by rw [b3]; simp [qr,n13,n23]] at this
    ·rw [if_neg b3] at h; exact h.elim
 | _=>exact h.elim
end
def Qb7 (x name:Str) (m:ME):MS:=fun Γ st=>(m Γ st).sbind fun p st1=>.exc ⟨x,some (name,p)⟩ st1
section
variable {X:Cx} {E:XK} {pos:Pos} {e:Expr} {m:ME}
theorem Qg7 {x name:Str} {C W f:Addr} {fd:FuncData} {k:Nat} {ps:List Str} {np cpos:Pos} (hcalm:X.calm=true) (RO:Q8m X E) (M:XMade X.K C W f) (GI:FnOk X.prog X.w X.K X.mg X.base CX0 k f fd ps (Q6m C name)) (hr:Room (k + 1) X.A)
  (hb:Binds X.K fd ps []) (hg:Gl X x) (hm:X.mg x=some (.ref C)) (he:SimE X E e m) (hdb:(x == ("__debug__" : Str))=false:=by decide) (hst:starEach [e] X.env=[(false,eval e X.env)]:=by rfl) :
  SimS X E (.Raise (some (.Call (.Name x np) [e] [] cpos)) none pos) (Qb7 x name m):=
 ⟨fun Γ σ H ρ st D R G h=>WS.of (Qgi hcalm RO M GI hr hb hg hm (xr Yk Q74 (by rw [hst]; rfl)) hdb hst) (he.use R G h.bind fun p st1 H1 ρ1 v x1 R1 G1 r1 h1=>
  ⟨v,rfl,fun dx hn=>h1 C (some dx) _ ρ1 hm (Ext.add hn) (R1.add hn) ⟨dx,v,rfl,J8,R1.fresh hn,r1.ext (Ext.add hn)⟩⟩)⟩
end
@[simp] theorem Qtn (m:ME) (Γ:Gam) (st:Q2):Qei m Γ st=(m Γ st).bind fun p st1=>(match p with
 | .str x=>if x = "make" then .ok (.int 3) st1 else if x = "lend" then .ok (.int 4) st1 else if x = "use" then .ok (.int 3) st1 else .ok .non st1
 | _=>.stuck):=rfl
@[simp] theorem Qjx (k1 k2 k3:Str) (m1 m2 m3 mi:ME) (Γ:Gam) (st:Q2):Qcy k1 k2 k3 m1 m2 m3 mi Γ st=(m1 Γ st).bind fun p1 st1=>(m2 Γ st1).bind fun p2 st2=>(m3 Γ st2).bind fun p3 st3=>(mi Γ st3).bind fun q st4=>Q58 k1 k2 k3 p1 p2 p3 st4 q:=rfl
@[simp] theorem Q4e (k1 k2 k3:Str) (p1 p2 p3:PV) (st4:Q2) (x:Str):Q58 k1 k2 k3 p1 p2 p3 st4 (.str x)=if x=k1 then .ok p1 st4 else if x=k2 then .ok p2 st4 else if x=k3 then .ok p3 st4 else .stuck:=rfl
@[simp] theorem Qsj (x name:Str) (m:ME) (Γ:Gam) (st:Q2):Qb7 x name m Γ st=(m Γ st).sbind fun p st1=>.exc ⟨x,some (name,p)⟩ st1:=rfl
theorem Vp {k:Nat} {A:Around} (r:Room k A):A.units + 1 < cLine:=by have:=r.un; omega
section
variable {X:Cx} {E:XK}
end
section
variable {H0 H:Hp} {ρ0 ρ:Tk} {st:Q2} {a:Addr} {ps:List (Key × PV)} {vs:List (Key × V)}
theorem Qjg (R0:Rel H0 ρ0 st) (x:Ext H0 ρ0 H ρ) {st1:Q2} (R:Rel H ρ st1) (hm:a∈ρ.hid) (hn:H0 a=none) (ha:H a=some (.dK vs)) (r:RepD H ρ ps vs) :
  Ext H0 ρ0 H ⟨ρ.tr ++ [a],ρ0.hid⟩/\Rel H ⟨ρ.tr ++ [a],ρ0.hid⟩ (st1 ++ [.dic ps])/\Rep H ⟨ρ.tr ++ [a],ρ0.hid⟩ (.ref st1.length) (.ref a):=by
 have na0:a∉ρ0.hid:=fun z=>by
  obtain ⟨o,e,_⟩:=R0.hd a z;rw [hn] at e; cases e
 refine ⟨⟨x.pre.trans (List.prefix_append _ _),fun _ h=>h,fun _ h=>.inl h,x.keep,fun b hb=>?_,x.old,x.frz⟩,⟨?_,?_,fun b hb=>R.hd b (x.hidM b hb),fun b hb z=>?_,fun i b c h1 h2=>?_⟩,a,?_,rfl⟩
 ·rcases E9.mp hb with z | z
  ·exact x.new b z
  ·have:b=a:=by simpa using z
   subst this; exact .inr hn
 ·show (ρ.tr ++ [a]).length=_;rw [O8,O8,R.len]; rfl
 ·show (ρ.tr ++ [a]).Nodup;refine List.nodup_append.mpr ⟨R.nd,by simp,fun b hb c hc e=>?_⟩;have:c=a:=by simpa using hc
  subst this; subst e;exact R.ap b hm hb
 ·rcases E9.mp z with z | z
  ·exact R.ap b (x.hidM b hb) z
  ·have:b=a:=by simpa using z
   subst this; exact na0 hb
 ·have h1:(ρ.tr ++ [a])[i]?=some b:=h1
  by_cases hi:i < st1.length
  ·rw [O6 (by rw [R.len]; exact hi)] at h1;rw [O6 hi] at h2;have q:=R.cell i b c h1 h2;cases c with
   | lst qs=>
    obtain ⟨us,e1,e2⟩:=q;exact ⟨us,e1,e2.trk hm x.hidM⟩
   | dic qs=>
    obtain ⟨us,e1,e2⟩:=q;exact ⟨us,e1,e2.1,e2.2.trk hm x.hidM⟩
   | dtp qs=>
    obtain ⟨us,e1,e2⟩:=q;exact ⟨us,e1,e2.1,e2.2.trk hm x.hidM⟩
   | frd qs=>
    obtain ⟨us,e1,e2⟩:=q;exact ⟨us,e1,e2.1,e2.2.trk hm x.hidM⟩
   | obj C qs=>
    obtain ⟨us,e1,e2⟩:=q;exact ⟨us,e1,e2.1,e2.2.trk hm x.hidM⟩
  ·rw [D1 (by rw [R.len]; omega)] at h1;rw [D1 (by omega)] at h2;have e0:i - st1.length=0:=by
    rcases Nat.eq_zero_or_pos (i - st1.length) with z | z
    ·exact z
    ·rw [List.getElem?_eq_none (by simp; omega)] at h2; cases h2
   rw [R.len,e0] at h1;rw [e0] at h2;simp at h1 h2;subst h1; subst h2;exact ⟨vs,ha,r.1,r.2.trk hm x.hidM⟩
 ·show (ρ.tr ++ [a])[st1.length]?=some a;rw [<- R.len,D1 (O7 _),Nat.sub_self]; rfl
end
def Q20 (kvs:List (Key × PV)) (k:Key):Option PV:=(kvs.find? fun kv=>decide (kv.1=k)).map (·.2)
def Qk3:PV->Option Key
 | .int i=>some (.inl i)
 | .str x=>some (.inr x)
 | _=>none
theorem Qn0 {H:Hp} {ρ:Tk} {p:PV} {v:V} {k:Key} (e:Qk3 p=some k) (r:Rep H ρ p v):v=kV k:=by
 cases p with
 | int i=>cases e; exact r
 | str x=>cases e; exact r
 | _=>cases e
theorem Qca {H:Hp} {ρ:Tk}:∀ {kvs:List (Key × PV)} {vs:List (Key × V)},RepD H ρ kvs vs->∀ k:Key,(Q20 kvs k=none/\qr vs k=none)\/∃ p v,Q20 kvs k=some p/\qr vs k=some v/\Rep H ρ p v
 | [],[],_,k=>.inl ⟨rfl,rfl⟩
 | [],_ :: _,r,_=>by have:=r.length; cases this
 | _ :: _,[],r,_=>by have:=r.length; cases this
 | (k1,p1) :: kvs,(k2,v2) :: vs,r,k=>by
  obtain ⟨r1,v,t,e,r2,r3⟩:=r;have e1:k2=k1/\vs.map Prod.fst=kvs.map Prod.fst:=by
   have:k2 :: vs.map Prod.fst=k1 :: kvs.map Prod.fst:=r1;exact List.cons.inj this
  have e2:v2 :: vs.map Prod.snd=v :: t:=e;cases e2;obtain ⟨rfl,e3⟩:=e1
  by_cases q:k2=k
  ·exact .inr ⟨p1,v2,by simp [Q20,q],by simp [qr,q],r2⟩
  ·have ih:=Qca (kvs:=kvs) (vs:=vs) ⟨e3,r3⟩ k;have a1:Q20 ((k2,p1) :: kvs) k=Q20 kvs k:=by simp [Q20,List.find?_cons,q]
   have a2:qr ((k2,v2) :: vs) k=qr vs k:=by simp [qr,List.find?_cons,q]
   rw [a1,a2]; exact ih
section
variable {X:Cx} {E:XK} {pos dpos apos cpos:Pos} {e e1 e2 e3 i o f:Expr} {m m1 m2 m3 mi mo mf:ME} {k1 k2 k3:Str} {j1 j2 j3:Nat} {q1 q2 q3:Pos}
def Qb8 (k1 k2 k3:Str) (m1 m2 m3:ME):ME:=fun Γ st=>(m1 Γ st).bind fun p1 st1=>(m2 Γ st1).bind fun p2 st2=>(m3 Γ st2).bind fun p3 st3=>.ok (.ref st3.length) (st3 ++ [.dic [(.inr k1,p1),(.inr k2,p2),(.inr k3,p3)]])
theorem Qin (h1:SimE X E e1 m1) (h2:SimE X E e2 m2) (h3:SimE X E e3 m3) (n12:k1≠k2:=by decide) (n13:k1≠k3:=by decide) (n23:k2≠k3:=by decide) :
  SimE X E (.Dict [some (.Constant (.str k1) j1 q1),some (.Constant (.str k2) j2 q2),some (.Constant (.str k3) j3 q3)] [e1,e2,e3] dpos) (Qb8 k1 k2 k3 m1 m2 m3):=by
 refine ⟨fun Γ σ H ρ st Q R G h=>WE.of (Qfb (zu Q0y Yk (zu Q0y Yk (zu Q0y Yk Qfa))) rfl rfl (by simp) (by simp)) ?_⟩;intro p hp;have x0:Ext H ρ (upd H p (.dK [])) (ρ.hide p):=Ext.hide hp;refine h1.use' (R.hide hp) (G.hide hp) (h.bind.later x0) fun a1 st1 H1 ρ1 v1 f1 x1 R1 G1 r1 _=>?_
 have h:=h;unfold Qb8 at h;rw [f1] at h;have h:Acc X.mg E H ρ (QV Q) ((m2 Γ st1).bind fun p2 st2=>(m3 Γ st2).bind fun p3 st3=>.ok (.ref st3.length) (st3 ++ [.dic [(.inr k1,a1),(.inr k2,p2),(.inr k3,p3)]])):=h
 refine h2.use' R1 G1 (h.bind.later (x0.trans x1)) fun a2 st2 H2 ρ2 v2 f2 x2 R2 G2 r2 _=>?_
 rw [f2] at h;have h:Acc X.mg E H ρ (QV Q) ((m3 Γ st2).bind fun p3 st3=>.ok (.ref st3.length) (st3 ++ [.dic [(.inr k1,a1),(.inr k2,a2),(.inr k3,p3)]])):=h
 refine h3.use' R2 G2 (h.bind.later ((x0.trans x1).trans x2)) fun a3 st3 H3 ρ3 v3 f3 x3 R3 G3 r3 _=>?_
 rw [f3] at h;have h:Acc X.mg E H ρ (QV Q) (.ok (.ref st3.length) (st3 ++ [.dic [(.inr k1,a1),(.inr k2,a2),(.inr k3,a3)]])):=h;have x123:Ext H ρ H3 ρ3:=((x0.trans x1).trans x2).trans x3;have xe:Ext (upd H p (.dK [])) (ρ.hide p) H3 ρ3:=(x1.trans x2).trans x3;have pt0:p∉(ρ.hide p).tr:=fun z=>R.fresh hp (.inl z)
 have hp3:H3 p=some (.dK []):=xe.keep p _ J8 pt0;have ph3:p∈ρ3.hid:=xe.hidM p D4;refine ⟨hp3,[(.inr k1,v1),(.inr k2,v2),(.inr k3,v3)],rfl,by simp,?_⟩;have hm:xy [] [((.inr k1:Key),v1),(.inr k2,v2),(.inr k3,v3)]=[(.inr k1,v1),(.inr k2,v2),(.inr k3,v3)]:=by
  simp [xy,Q94,n12,n13,n23]
 rw [hm];have y:Ext H ρ (upd H3 p (.dK [(.inr k1,v1),(.inr k2,v2),(.inr k3,v3)])) ρ3:=x123.put0 hp;have g1:=((r1.ext x2).ext x3).rehide (o:=.dK [(.inr k1,v1),(.inr k2,v2),(.inr k3,v3)]) ph3;have g2:=(r2.ext x3).rehide (o:=.dK [(.inr k1,v1),(.inr k2,v2),(.inr k3,v3)]) ph3;have g3:=r3.rehide (o:=.dK [(.inr k1,v1),(.inr k2,v2),(.inr k3,v3)]) ph3;obtain ⟨x5,R5,r5⟩:=Qjg (ps:=[(.inr k1,a1),(.inr k2,a2),(.inr k3,a3)]) R y (R3.rehide ph3) ph3 hp J8 ⟨rfl,RepL.cons g1 (RepL.cons g2 (RepL.cons g3 RepL.nil))⟩;exact h _ _ x5 R5 _ r5
@[simp] theorem Qh4 (Γ:Gam) (st:Q2):Qb8 k1 k2 k3 m1 m2 m3 Γ st=(m1 Γ st).bind fun p1 st1=>(m2 Γ st1).bind fun p2 st2=>(m3 Γ st2).bind fun p3 st3=>.ok (.ref st3.length) (st3 ++ [.dic [(.inr k1,p1),(.inr k2,p2),(.inr k3,p3)]]):=rfl
end
def Qab (st:Q2):PV->Option (List (Key × PV))
 | .ref i=>match st[i]? with
  | some (.dic kvs)=>some kvs
  | some (.frd kvs)=>some kvs
  | _=>none
 | _=>none
theorem Qkj {H:Hp} {ρ:Tk} {st:Q2} {p:PV} {v:V} {kvs:List (Key × PV)} (R:Rel H ρ st) (r:Rep H ρ p v) (e:Qab st p=some kvs):∃ i a vs,p=.ref i/\v=.ref a/\ρ.tr[i]?=some a/\Rd H a (.dK vs)/\RepD H ρ kvs vs:=by
 cases p with
 | ref i=>
  obtain ⟨a,ea,rfl⟩:=r;unfold Qab at e;cases z:st[i]? with
  | none=>simp only [z] at e; cases e
  | some c=>
   simp only [z] at e;cases c with
   | dic kvs'=>
    cases e;obtain ⟨b,vs,eb,hb,rd⟩:=R.dic z;rw [ea] at eb;cases eb;exact ⟨i,a,vs,rfl,rfl,ea,.inl hb,rd⟩
   | frd kvs'=>
    cases e;obtain ⟨b,vs,o,eb,hb,rd⟩:=R.frd z;rw [ea] at eb;cases eb;exact ⟨i,a,vs,rfl,rfl,ea,.inr ⟨o,hb⟩,rd⟩
   | lst xs=>cases e
   | dtp xs=>cases e
   | obj C xs=>cases e
 | _=>cases e
theorem DGet.kr {H:Hp} {a:Addr} {kvs:List (Key × V)} {k:Key} (e:Rd H a (.dK kvs)):DGet H a (kV k) (qr kvs k):=.inl ⟨kvs,k,e,rfl,rfl⟩
section
variable {X:Cx} {E:XK} {pos dpos tpos:Pos} {e i o k:Expr} {m mi mo mk:ME}
def Qyd (neg:Bool):OP:=fun st p q=>match Qab st q,Qk3 p with
 | some kvs,some k=>.ok (.bl ((Q20 kvs k).isSome != neg)) st
 | _,_=>.stuck
def Q5d (st:Q2) (p q:PV):Res PV:=match Qab st p,Qk3 q with
 | some kvs,some k=>match Q20 kvs k with
  | some v=>.ok v st
  | none=>.stuck
 | _,_=>.stuck
def Wf (mo mi:ME):ME:=fun Γ st=>(mo Γ st).bind fun p st1=>(mi Γ st1).bind fun q st2=>Q5d st2 p q
theorem Wx (hu:X.A.units + 1 < cLine) (ho:SimE X E o mo) (hi:SimE X E i mi) (hs:Qqa i):SimE X E (.Subscript o i pos) (Wf mo mi):=
 ⟨fun Γ σ H ρ st Q R G h=>WE.of (Qfc hu Yk Yk hs) (ho.use R G h.bind fun p st1 H1 ρ1 v1 x1 R1 G1 r1 h1=>hi.use R1 G1 h1.bind fun q st2 H2 ρ2 v2 x2 R2 G2 r2 h2=>by
  unfold Q5d at h2
  split at h2
  ·rename_i kvs k e1 e2
   split at h2
   ·rename_i w e3;obtain ⟨n,a,vs,rfl,rfl,_,hb,rd⟩:=Qkj R2 (r1.ext x2) e1;have ek:=Qn0 e2 r2;subst ek;rcases Qca rd k with ⟨a1,_⟩ | ⟨p,v,a1,a2,a3⟩
    ·rw [a1] at e3; cases e3
    ·rw [a1] at e3;cases e3;exact ⟨a,v,rfl,by have:=DGet.kr (k:=k) hb; rwa [a2] at this,now R2 h2 a3⟩
   ·exact h2.elim
  ·exact h2.elim)⟩
end
section
variable {X:Cx} {E:XK} {pos dpos tpos:Pos} {e i o k:Expr} {m mi mo mk:ME} {tg:Expr}
end
section
variable {X:Cx} {E:XK}
end
end Sm
namespace Sm
open PySem PySem.Spec PyProof.Rows L2
section
variable {X:Cx} {E:XK}
end
end Sm
namespace Sm
open PySem PySem.Spec L2
section
variable {X:Cx} {E:XK} {pos apos tp:Pos} {e:Expr} {m:ME} {elts:List Expr} {kt:Nat}
end
section
variable {X:Cx} {E:XK} {pos dpos tpos:Pos} {e i o k:Expr} {m mi mo mk:ME}
end
section
variable {X:Cx} {E:XK}
end
section
variable {X:Cx} {E:XK} {a:Expr} {ma:ME} {pos:Pos}
end
end Sm
namespace Sm
open PySem PySem.Spec L2 SeqAt
section
variable {X:Cx} {E:XK}
variable {o:Expr} {mo:ME} {apos cpos:Pos}
end
end Sm
namespace Sm
open PySem PySem.Spec L2 SeqAt
section
variable {X:Cx} {E:XK}
variable {e o i:Expr} {m mo mi:ME} {pos tpos:Pos}
end
end Sm
namespace L2
open PySem PySem.Spec PyProof.Rows
end L2
namespace Sm
open PySem PySem.Spec PyProof.Rows L2
section
variable {X:Cx} {E:XK} {pos:Pos} {e:Expr} {m:ME}
end
end Sm
namespace Sm
open PySem PySem.Spec PyProof.Rows L2
section
variable {X:Cx} {E:XK} {tg:Expr} {a b c:Expr} {mr:ML} {p pos:Pos}
end
end Sm
namespace Sm
open PySem PySem.Spec L2
section
variable {X:Cx} {E:XK} {o:Expr} {mo:ME} {apos cpos:Pos} {to:TE}
theorem Qs0 (ho:PE X o to) (hbase:attributeBase o "clear" X.env (eval o X.env)=eval o X.env:=by rfl) (hline:(apos.endLine == cpos.line)=true:=by rfl):PE X (.Call (.Attribute o "clear" apos) [] [] cpos)
  (fun σ H Q=>to σ H fun x H1=>(tyV X.K "list" x H1/\WM X "list.clear" x [] H1 Q)\/(tyV X.K "dict" x H1/\WM X "dict.clear" x [] H1 Q)):=by
 intro pins s σ H Q I h;refine wpAny_Call_method0_late hbase hline (thn (ho pins s σ H _ I h) fun v s1 ⟨x,H1,I1,r1,q⟩=>?_)
 rcases q with ⟨ty,q1⟩ | ⟨ty,q1⟩
 ·obtain ⟨h1,h2⟩:=Qdq I1 r1 ty;exact ⟨"list", "list.clear",PySem.F.plainAttrs_list,PySem.F.slot_list_clear,PySem.F.type_list_clear,h1,h2,Calls.callWith_builtin rfl (PySem.evalArgs_none (Qsg pins s1 σ H1 x [] v [] Q I1 r1 .nil q1))⟩
 ·obtain ⟨h1,h2⟩:=Qdq I1 r1 ty;exact ⟨"dict", "dict.clear",PySem.F.plainAttrs_dict,PySem.F.slot_dict_clear,PySem.F.type_dict_clear,h1,h2,Calls.callWith_builtin rfl (PySem.evalArgs_none (Qsg pins s1 σ H1 x [] v [] Q I1 r1 .nil q1))⟩
def Qej (mo:ME):ME:=fun Γ st=>(mo Γ st).bind fun p st1=>match p with
 | .ref i=>match st1[i]? with
  | some (.lst _)=>.ok .non (st1.set i (.lst []))
  | some (.dic _)=>.ok .non (st1.set i (.dic []))
  | _=>.stuck
 | _=>.stuck
theorem Qip (ho:SimE X E o mo) (hbase:attributeBase o "clear" X.env (eval o X.env)=eval o X.env:=by rfl) (hline:(apos.endLine == cpos.line)=true:=by rfl):SimE X E (.Call (.Attribute o "clear" apos) [] [] cpos) (Qej mo):=
 ⟨fun Γ σ H ρ st Q R G h=>WE.of (Qs0 Yk hbase hline) (ho.use R G h.bind fun p st1 H1 ρ1 v x1 R1 G1 r1 h1=>by
  split at h1
  ·rename_i i
   split at h1
   ·rename_i xs e;have el:zm st1 (.ref i)=some xs:=Uk e;obtain ⟨a,vs,rfl,hr,_⟩:=Q3r R1 r1 el;refine .inl ⟨.inl ⟨rfl,vs,.inl hr⟩,ms_clear.run (E:=E) H1 ρ1 st1 (.ref i) [] _ [] Q R1 r1 rfl ?_⟩;have:Q63 st1 (.ref i) []=.ok .non (st1.set i (.lst [])):=by
     simp only [Q63,chg,e]
    rw [this]; exact h1
   ·rename_i kvs e;obtain ⟨a,ea,rfl⟩:=r1;obtain ⟨b,vs,eb,hb,rd⟩:=R1.dic e;rw [ea] at eb;cases eb;refine .inr ⟨.inr (.inr (.inl ⟨rfl,.inl ⟨vs,hb⟩⟩)),WM.of Qgz ⟨a,vs,rfl,rfl,hb,?_⟩⟩;have x2:Ext H1 ρ1 (upd H1 a (.dK [])) ρ1:=Ext.put (D2 ea) hb;exact h1 _ ρ1 x2 (R1.putC ea hb ⟨_,J8,rfl,rfl⟩) _ rfl
   ·exact h1.elim
  ·exact h1.elim)⟩
end
section
variable {X:Cx}
end
def zt (f:Str) (p:PV):List (Str × PV)->List (Str × PV)
 | []=>[(f,p)]
 | (g,x) :: r=>if g=f then (g,p) :: r else (g,x) :: zt f p r
section
variable {H:Hp} {ρ:Tk}
theorem Q9z {κ:Type} {fs:List (κ × PV)} {vs:List (κ × V)} {g:κ} {x:PV}:RepD H ρ ((g,x) :: fs) vs->∃ v r,vs=(g,v) :: r/\Rep H ρ x v/\RepD H ρ fs r:=fun ⟨h1,h2⟩=>by
 cases vs with
 | nil=>cases h1
 | cons a r=>
  obtain ⟨k,v⟩:=a;simp only [F2,List.cons.injEq] at h1;obtain ⟨u,t,e,r1,r2⟩:=h2;cases e;exact ⟨v,r,by rw [h1.1],r1,h1.2,r2⟩
theorem Q4c {κ:Type} {fs:List (κ × PV)} {vs:List (κ × V)} {g:κ} {x:PV} {v:V} (h:Rep H ρ x v) (r:RepD H ρ fs vs):RepD H ρ ((g,x) :: fs) ((g,v) :: vs):=
 ⟨by simp only [F2,r.1],v,_,rfl,h,r.2⟩
theorem Q9y {f:Str} {p:PV} {v:V} (h:Rep H ρ p v):∀ {fs:List (Str × PV)} {vs:List (Str × V)},RepD H ρ fs vs->RepD H ρ (zt f p fs) (xq f v vs)
 | [],vs,r=>by
  have:vs=[]:=by have:=r.1; simpa using this
  subst this;exact Q4c h ⟨rfl,rfl⟩
 | (g,x) :: fs,vs,r=>by
  obtain ⟨u,t,rfl,r1,r2⟩:=Q9z r;rw [zt,xq]
  by_cases q:g=f
  ·rw [if_pos q,if_pos q]; exact Q4c h r2
  ·rw [if_neg q,if_neg q]; exact Q4c r1 (Q9y h r2)
theorem Q1p {f:Str}:∀ {fs:List (Str × PV)} {vs:List (Str × V)},RepD H ρ fs vs->(∀ p,fs.lookup f=some p->∃ v,vs.lookup f=some v/\Rep H ρ p v)/\(fs.lookup f=none->vs.lookup f=none)
 | [],vs,r=>by
  have:vs=[]:=by have:=r.1; simpa using this
  subst this;exact ⟨fun p e=>(by cases e),fun _=>rfl⟩
 | (g,x) :: fs,vs,r=>by
  obtain ⟨u,t,rfl,r1,r2⟩:=Q9z r;obtain ⟨i1,i2⟩:=Q1p (f:=f) r2;rw [D9,D9];cases q:f == g with
  | true=>exact ⟨fun p e=>by cases e; exact ⟨u,rfl,r1⟩,fun e=>(by cases e)⟩
  | false=>exact ⟨i1,i2⟩
end
def Q2a (C:Addr) (st:Q2) (p:PV):Option (Nat × List (Str × PV)):=match p with
 | .ref i=>match st[i]? with
  | some (.obj C' fs)=>if C'=C then some (i,fs) else none
  | _=>none
 | _=>none
theorem Q3f {C:Addr} {H:Hp} {ρ:Tk} {st:Q2} {p:PV} {v:V} {i:Nat} {fs:List (Str × PV)} (R:Rel H ρ st) (r:Rep H ρ p v) (e:Q2a C st p=some (i,fs)):∃ a vs dx,p=.ref i/\v=.ref a/\ρ.tr[i]?=some a/\H a=some (.ins C dx vs)/\RepD H ρ fs vs:=by
 unfold Q2a at e
 split at e
 ·rename_i j
  split at e
  ·rename_i C' fs' z
   split at e
   ·rename_i hc;cases e;subst hc;obtain ⟨a,ea,rfl⟩:=r;obtain ⟨b,vs,dx,eb,hb,rd⟩:=R.obj z;rw [ea] at eb;cases eb;exact ⟨a,vs,dx,rfl,rfl,ea,hb,rd⟩
   ·cases e
  ·cases e
 ·cases e
section
variable {X:Cx} {E:XK} {o e:Expr} {es:List Expr} {mo m:ME} {mr:Gam->Q2->Res (List PV)} {C:Addr} {f:Str} {pos pos' apos p:Pos}
def Vr (C:Addr) (f:Str) (mo:ME):ME:=fun Γ st=>(mo Γ st).bind fun p st1=>match Q2a C st1 p with
 | some (_,fs)=>match fs.lookup f with
  | some q=>.ok q st1
  | none=>.stuck
 | none=>.stuck
theorem Vi (cl:Cls X.K C) (n:NoAttr X.K C f) (ho:SimE X E o mo) (hb:attributeBase o f X.env (eval o X.env)=eval o X.env:=by rfl):SimE X E (.Attribute o f pos) (Vr C f mo):=
 ⟨fun Γ σ H ρ st Q R G h=>WE.of (Qrz Yk hb) (ho.use R G h.bind fun p st1 H1 ρ1 v x1 R1 G1 r1 h1=>by
  split at h1
  ·rename_i i fs eo
   split at h1
   ·rename_i q el;obtain ⟨a,vs,dx,rfl,rfl,ea,ha,rd⟩:=Q3f R1 r1 eo;obtain ⟨u,eu,ru⟩:=(Q1p rd).1 q el;exact ⟨a,C,dx,vs,u,rfl,ha,cl,n,eu,now R1 h1 ru⟩
   ·exact h1.elim
  ·exact h1.elim)⟩
def zx (C:Addr) (f:Str) (mo m:ME):MS:=fun Γ st=>(m Γ st).sbind fun p st1=>(mo Γ st1).sbind fun q st2=>match Q2a C st2 q with
 | some (i,fs)=>if fs.length < 1000 then .nx Γ (st2.set i (.obj C (zt f p fs))) else .stuck
 | none=>.stuck
theorem yk (cl:Cls X.K C) (n:NoAttr X.K C f) (he:SimE X E e m) (ho:SimE X E o mo) (hs:swapsWith e (some (.Attribute o f pos')) pos.line X.env=pure false:=by rfl):SimS X E (.Assign [.Attribute o f pos'] e pos) (zx C f mo m):=
 ⟨fun Γ σ H ρ st D R G h=>WS.of (Qrp Yk Yk hs) (he.use R G h.bind fun p st1 H1 ρ1 z x1 R1 G1 r1 h1=>ho.use R1 G1 h1.bind fun ov st2 H2 ρ2 x x2 R2 G2 r2 h2=>by
  split at h2
  ·rename_i i fs eo
   split at h2
   ·rename_i hl;obtain ⟨a,vs,dx,rfl,rfl,ea,ha,rd⟩:=Q3f R2 r2 eo;have hm:=D2 ea;have x3:Ext H2 ρ2 (upd H2 a (.ins C dx (xq f z vs))) ρ2:=Ext.put hm ha;refine ⟨a,C,dx,vs,rfl,ha,cl,n,by rw [<- rd.length]; exact hl,h2 σ _ ρ2 x3 (R2.putC ea ha ⟨_,⟨dx,J8⟩,?_⟩) (G2.ext x3)⟩;exact (Q9y (r1.ext x2) rd).ext x3
   ·exact h2.elim
  ·exact h2.elim)⟩
structure MethS (P:Program) (w:World) (K:PySem.W.Frag) (mg:Str->Option Value) (base:Heap) (k:Nat) (C:Addr) (x:Str) (n:Nat) (F:FN):Prop where
 ex:∃ (f:Addr) (fd:FuncData) (ps:List Str),FnOk P w K mg base (CXD P w) k f fd ps (spF mg n F)/\Meth K C x f/\Binds K fd ps []/\ps.length=n
def zz (C:Addr) (x:Str) (n:Nat) (F:FN) (mo:ME) (mr:ML):ME:=fun Γ st=>(mo Γ st).bind fun p st1=>match Q2a C st1 p with
 | some (_,fs)=>if fs.lookup x=none then (mr Γ st1).bind fun ps st2=>if ps.length + 1=n then F (p :: ps) st2 else .stuck else .stuck
 | none=>.stuck
theorem Q62 {pl:Sem Bool} {k n:Nat} {x:Str} {F:FN} (cl:Cls X.K C) (D:MethS X.prog X.w X.K X.mg X.base k C x n F) (hr:Room k X.A) (hx:Kv (CXD X.prog X.w) X E) (ho:SimE X E o mo) (ha:SimA X E (e :: es) mr)
  (hst:starEach (e :: es) X.env=(false,eval e X.env) :: starEach es X.env:=by rfl) (hpl:(backTo pos (starEach es X.env)).any (·.1)=false:=by rfl)
  (ht:eval (.Call (.Attribute o x apos) (e :: es) [] pos) X.env=(do
   let ov <- eval o X.env
   standAt apos.atName
   let (f,first) <- holding [ov] (getMethod ov x pl)
   callWith pos f first (backTo pos (starEach (e :: es) X.env)) (backToKw pos (keywordEach [] X.env))):=by rfl):SimE X E (.Call (.Attribute o x apos) (e :: es) [] pos) (zz C x n F mo mr):=by
 obtain ⟨f,fd,ps,hF,hm,hb,hl⟩:=D.ex;exact ⟨fun Γ σ H ρ st Q R G h=>WE.of (Qnj Yk cl hm hF hr hb .nil hx Q3b hst hpl ht) (ho.use R G h.bind fun p st1 H1 ρ1 v x1 R1 G1 r1 h1=>by
  split at h1
  ·rename_i i fs eo
   split at h1
   ·rename_i el;obtain ⟨a,vs,dx,rfl,rfl,ea,haa,rd⟩:=Q3f R1 r1 eo;refine ⟨a,dx,vs,rfl,haa,(Q1p rd).2 el,?_⟩;refine ha.use R1 G1 h1.bind fun qs st2 H2 ρ2 us x2 R2 G2 r2 h2=>?_
    by_cases hq:qs.length + 1=n
    ·rw [if_pos hq] at h2;show spF X.mg n F (.ref a :: (us ++ [])) H2 Q E;rw [List.append_nil];exact ⟨by rw [D8,<- r2.length]; exact hq,ρ2,st2,_,R2,RepL.cons (r1.ext x2) r2,h2⟩
    ·rw [if_neg hq] at h2; exact h2.elim
   ·exact h1.elim
  ·exact h1.elim)⟩
theorem Q35 {pl:Sem Bool} {k n:Nat} {x:Str} {F:FN} (cl:Cls X.K C) (D:MethS X.prog X.w X.K X.mg X.base k C x n F) (hr:Room k X.A) (hx:Kv (CXD X.prog X.w) X E) (ho:SimE X E o mo)
  (ht:eval (.Call (.Attribute o x apos) [] [] pos) X.env=(do
   let ov <- eval o X.env
   standAt apos.atName
   let (f,first) <- holding [ov] (getMethod ov x pl)
   callWith pos f first (backTo pos (starEach [] X.env)) (backToKw pos (keywordEach [] X.env))):=by rfl):SimE X E (.Call (.Attribute o x apos) [] [] pos) (zz C x n F mo Q9):=by
 obtain ⟨f,fd,ps,hF,hm,hb,hl⟩:=D.ex;exact ⟨fun Γ σ H ρ st Q R G h=>WE.of (Qjb Yk cl hm hF hr hb .nil hx ht) (ho.use R G h.bind fun p st1 H1 ρ1 v x1 R1 G1 r1 h1=>by
  split at h1
  ·rename_i i fs eo
   split at h1
   ·rename_i el;obtain ⟨a,vs,dx,rfl,rfl,ea,haa,rd⟩:=Q3f R1 r1 eo;refine ⟨a,dx,vs,rfl,haa,(Q1p rd).2 el,?_⟩;have h1:Acc X.mg E H1 ρ1 (QV Q) (if ([]:List PV).length + 1=n then F [.ref i] st1 else .stuck):=h1
    by_cases hq:([]:List PV).length + 1=n
    ·rw [if_pos hq] at h1;show spF X.mg n F (.ref a :: ([] ++ [])) H1 Q E;exact ⟨hq,ρ1,st1,_,R1,RepL.cons r1 RepL.nil,h1⟩
    ·rw [if_neg hq] at h1; exact h1.elim
   ·exact h1.elim
  ·exact h1.elim)⟩
structure MakeS (P:Program) (w:World) (K:PySem.W.Frag) (mg:Str->Option Value) (base:Heap) (k:Nat) (C:Addr) (x:Str) (n:Nat) (F:FN):Prop where
 ex:∃ (f:Addr) (fd:FuncData) (ps:List Str),FnOk P w K mg base (CXD P w) k f fd ps (spF mg n F)/\Mk K C f/\mg x=some (.ref C)/\Binds K fd ps []/\ps.length=n
def Qqn (C : Addr) (n : Nat) (F : FN) (mr : ML) : ME := fun Γ st => (mr Γ st).bind fun ps st1 => if ps.length + 1 = n then (F (.ref st1.length :: ps) (st1 ++ [.obj C []])).bind fun v st2 => match v with
  | .non=>.ok (.ref st1.length) st2
  | _=>.stuck
 else .stuck
theorem Qf5 {k n:Nat} {x:Str} {F:FN} (D:MakeS X.prog X.w X.K X.mg X.base k C x n F) (hr:Room (k + 1) X.A) (hx:Kv (CXD X.prog X.w) X E) (hg:Gl X x) (ha:SimA X E (e :: es) mr) (hdb:(x == ("__debug__" : Str))=false:=by decide)
  (he:starEach (e :: es) X.env=(false,eval e X.env) :: starEach es X.env:=by rfl) (hpl:(backTo pos (starEach es X.env)).any (·.1)=false:=by rfl):SimE X E (.Call (.Name x p) (e :: es) [] pos) (Qqn C n F mr):=by
 obtain ⟨f,fd,ps,hF,hm,hc,hb,hl⟩:=D.ex;exact ⟨fun Γ σ H ρ st Q R G h=>WE.of (Qnk hm hF hr hg hc hb .nil hx Q3b hdb he hpl) (ha.use R G h.bind fun qs st1 H1 ρ1 us x1 R1 G1 r1 h1=>by
  intro y dx hy hd hne
  by_cases hq:qs.length + 1=n
  ·rw [if_pos hq] at h1;have y1:Ext H1 ρ1 (upd H1 dx (.own y)) ρ1:=Ext.add hd;have hy':(upd H1 dx (.own y)) y=none:=by rw [Qh (fun z=>hne z.symm)]; exact hy
   have y2:Ext (upd H1 dx (.own y)) ρ1 (upd (upd H1 dx (.own y)) y (.ins C dx [])) (ρ1.add y):=Ext.addT hy';have R2:Rel (upd (upd H1 dx (.own y)) y (.ins C dx [])) (ρ1.add y) (st1 ++ [.obj C []]):=(R1.add hd).addC hy' ⟨[],⟨dx,J8⟩,rfl,rfl⟩;have hat:(ρ1.add y).tr[st1.length]?=some y:=by
    show (ρ1.tr ++ [y])[st1.length]?=some y;rw [<- R1.len,D1 (O7 _),Nat.sub_self]; rfl
   show spF X.mg n F (.ref y :: (us ++ [])) _ _ E;rw [List.append_nil];refine ⟨by rw [D8,<- r1.length]; exact hq,ρ1.add y,st1 ++ [.obj C []],.ref st1.length :: qs,R2,RepL.cons ⟨y,hat,rfl⟩ (r1.ext (y1.trans y2)),?_⟩;cases er:F (.ref st1.length :: qs) (st1 ++ [.obj C []]) with
   | stuck=>rw [er] at h1; exact h1.elim
   | exc z st'=>
    rw [er] at h1;exact fun C' dv H' ρ' m x' R' xf=>h1 C' dv H' ρ' m ((y1.trans y2).trans x') R' xf
   | ok v st2=>
    rw [er] at h1;intro H' ρ' x' R' w rw';rw [J4] at h1;cases v with
    | non=>
     refine ⟨rw',h1 H' ρ' ((y1.trans y2).trans x') R' _ ⟨y,?_,rfl⟩⟩;obtain ⟨t,et⟩:=x'.pre;rw [<- et,O6 (O1.mp hat).1];exact hat
    | _=>exact h1.elim
  ·rw [if_neg hq] at h1; exact h1.elim)⟩
end
@[simp] theorem Qpc (C:Addr) (f:Str) (mo:ME) (Γ:Gam) (st:Q2):Vr C f mo Γ st=(mo Γ st).bind fun p st1=>match Q2a C st1 p with
 | some (_,fs)=>match fs.lookup f with
  | some q=>.ok q st1
  | none=>.stuck
 | none=>.stuck:=rfl
@[simp] theorem Qcx (C:Addr) (f:Str) (mo m:ME) (Γ:Gam) (st:Q2):zx C f mo m Γ st=(m Γ st).sbind fun p st1=>(mo Γ st1).sbind fun q st2=>match Q2a C st2 q with
 | some (i,fs)=>if fs.length < 1000 then .nx Γ (st2.set i (.obj C (zt f p fs))) else .stuck
 | none=>.stuck:=rfl
@[simp] theorem Qjw (C:Addr) (x:Str) (n:Nat) (F:FN) (mo:ME) (mr:ML) (Γ:Gam) (st:Q2):zz C x n F mo mr Γ st=(mo Γ st).bind fun p st1=>match Q2a C st1 p with
 | some (_,fs)=>if fs.lookup x=none then (mr Γ st1).bind fun ps st2=>if ps.length + 1=n then F (p :: ps) st2 else .stuck else .stuck
 | none=>.stuck:=rfl
section
variable {X:Cx} {E:XK}
theorem Qht:Ke X (.type "int") (fun xs H Q=>∃ b:Bool,xs=[.bl b]/\Q (.int (if b then 1 else 0)) H):=by
 intro pins s σ H xs us Q I r h;obtain ⟨b,rfl,q⟩:=h;obtain ⟨u,rfl,rx⟩:=Q28 r;cases rx;exact call_int_bool ⟨.int (if b then 1 else 0),H,I.tok _,⟨_,rfl⟩,q⟩
def Qfz:CF:=fun st ps=>match ps with
 | [.bl b]=>.ok (.int (if b then 1 else 0)) st
 | _=>.stuck
theorem Qq0:CallS X E (.type "int") Qfz:=⟨fun H ρ st ps xs Q R rp h=>by
 unfold Qfz at h
 split at h
 ·obtain ⟨v,rfl,r⟩:=Wn rp;cases r;exact WC.of Qht ⟨_,rfl,now R h rfl⟩
 ·exact h.elim⟩
@[simp] theorem Qw8 (st:Q2) (b:Bool):Qfz st [.bl b]=.ok (.int (if b then 1 else 0)) st:=rfl
end
def Qb1 (x:Str):V:=if x = "keep" then .int 2 else if x = "fall" then .int 2 else if x = "send" then .int 2 else if x = "come" then .int 3 else .non
structure PartsO (P:Program) (w:World) (K:PySem.W.Frag) (mg:Str->Option Value):Prop where
 ex:∃ (a:Addr) (o:Obj) (es:Array DictEntry) (ep:Nat),mg "PARTS_OF_OTHER_DEED" = some (.ref a)/\K.lookup a=some o/\o.cls=.type "dict" /\ o.ExactDict/\o.data=.dict es ep/\KeysOf (J2 P w) es/\(a == sysModules)=false/\∀ x,RelV (Qb1 x) ((findBy (J2 P w).is es (.inr x)).getD .none)
def qi (m:ME):ME:=fun Γ st=>(m Γ st).bind fun p st1=>match p with
 | .str x=>if x = "keep" then .ok (.int 2) st1 else if x = "fall" then .ok (.int 2) st1 else if x = "send" then .ok (.int 2) st1 else if x = "come" then .ok (.int 3) st1 else .ok .non st1
 | _=>.stuck
section
variable {X:Cx} {E:XK} {pos:Pos} {e:Expr} {m:ME}
theorem Qga {p apos cpos:Pos} (PO:PartsO X.prog X.w X.K X.mg) (hg:Gl X "PARTS_OF_OTHER_DEED") (he:SimE X E e m)
  (base:attributeBase (.Name "PARTS_OF_OTHER_DEED" p) "get" X.env (eval (.Name "PARTS_OF_OTHER_DEED" p) X.env)=eval (.Name "PARTS_OF_OTHER_DEED" p) X.env:=by rfl)
  (few:((backTo cpos (starEach [e] X.env)).all (fun x=>!x.1) && (backToKw cpos (keywordEach [] X.env)).all (fun x=>x.1.isSome)
   && decide (([e]:List Expr).length + ([]:List Keyword).length + (if ([]:List Keyword).isEmpty then 0 else 1) < 30))=true:=by rfl)
  (line:(apos.endLine == cpos.line)=true:=by rfl) (trees:backTo cpos (starEach [e] X.env)=[(false,eval e X.env)]:=by rfl) :
  SimE X E (.Call (.Attribute (.Name "PARTS_OF_OTHER_DEED" p) "get" apos) [e] [] cpos) (qi m):=by
 obtain ⟨a,o,es,ep,pm,pl,pt,pe,pd,pk,ps,pv'⟩:=PO.ex;refine ⟨fun Γ σ H ρ st Q R G h=>WE.of (Qcg (val:=Qb1) hg pm pl pt pe pd pk ps pv' Yk (by decide) base few line trees) (he.use R G h.bind fun q st1 H1 ρ1 v x1 R1 G1 r1 h1=>?_)⟩;cases q with
 | str x=>
  cases r1;have h1:Acc X.mg E H1 ρ1 (QV Q) (if x = "keep" then .ok (.int 2) st1 else if x = "fall" then .ok (.int 2) st1 else if x = "send" then .ok (.int 2) st1 else if x = "come" then .ok (.int 3) st1 else .ok .non st1):=h1;refine ⟨x,rfl,?_⟩;unfold Qb1
  by_cases a1:x = "keep"
  ·rw [if_pos a1] at h1 ⊢; exact now R1 h1 rfl
  ·rw [if_neg a1] at h1 ⊢
   by_cases a2:x = "fall"
   ·rw [if_pos a2] at h1 ⊢; exact now R1 h1 rfl
   ·rw [if_neg a2] at h1 ⊢
    by_cases a3:x = "send"
    ·rw [if_pos a3] at h1 ⊢; exact now R1 h1 rfl
    ·rw [if_neg a3] at h1 ⊢
     by_cases a4:x = "come"
     ·rw [if_pos a4] at h1 ⊢; exact now R1 h1 rfl
     ·rw [if_neg a4] at h1 ⊢;exact now R1 h1 rfl
 | _=>exact h1.elim
end
section
theorem Qgq {P:Program} {w:World} {K:PySem.W.Frag} {mg:Str->Option Value} {pd:Addr} {t1 t2 t3 t4 u1 u2 u3 u4:Tok} {ep:Nat} (hm:mg "PARTS_OF_OTHER_DEED" = some (.ref pd))
  (lk:K.lookup pd=some ⟨.type "dict",none,.dict #[⟨PyData.keyHash w.params "keep",.str "keep" t1,.int 2 u1⟩,⟨PyData.keyHash w.params "fall",.str "fall" t2,.int 2 u2⟩,⟨PyData.keyHash w.params "send",.str "send" t3,.int 2 u3⟩,⟨PyData.keyHash w.params "come",.str "come" t4,.int 3 u4⟩] ep,#[]⟩) (hp:(pd == sysModules)=false):PartsO P w K mg:=by
 refine ⟨pd,_,_,_,hm,lk,rfl,⟨rfl,rfl,rfl⟩,rfl,fun e he=>?_,hp,fun x=>?_⟩
 ·simp only [List.mem_toArray,E3,List.not_mem_nil,or_false] at he;rcases he with rfl | rfl | rfl | rfl
  ·exact ⟨.inr "keep",by simp [J2,Kw,Value.isStrOf],rfl⟩
  ·exact ⟨.inr "fall",by simp [J2,Kw,Value.isStrOf],rfl⟩
  ·exact ⟨.inr "send",by simp [J2,Kw,Value.isStrOf],rfl⟩
  ·exact ⟨.inr "come",by simp [J2,Kw,Value.isStrOf],rfl⟩
 ·unfold Qb1
  by_cases e1:x = "keep"
  ·rw [if_pos e1]; subst e1;have:findBy (J2 P w).is #[⟨PyData.keyHash w.params "keep",.str "keep" t1,.int 2 u1⟩,⟨PyData.keyHash w.params "fall",.str "fall" t2,.int 2 u2⟩,⟨PyData.keyHash w.params "send",.str "send" t3,.int 2 u3⟩,⟨PyData.keyHash w.params "come",.str "come" t4,.int 3 u4⟩] (.inr "keep")=some (.int 2 u1):=by first | rfl | decide +kernel
   rw [this]; exact ⟨_,rfl⟩
  ·rw [if_neg e1]
   by_cases e2:x = "fall"
   ·rw [if_pos e2]; subst e2;have:findBy (J2 P w).is #[⟨PyData.keyHash w.params "keep",.str "keep" t1,.int 2 u1⟩,⟨PyData.keyHash w.params "fall",.str "fall" t2,.int 2 u2⟩,⟨PyData.keyHash w.params "send",.str "send" t3,.int 2 u3⟩,⟨PyData.keyHash w.params "come",.str "come" t4,.int 3 u4⟩] (.inr "fall")=some (.int 2 u2):=by first | rfl | decide +kernel
    rw [this]; exact ⟨_,rfl⟩
   ·rw [if_neg e2]
    by_cases e3:x = "send"
    ·rw [if_pos e3]; subst e3;have:findBy (J2 P w).is #[⟨PyData.keyHash w.params "keep",.str "keep" t1,.int 2 u1⟩,⟨PyData.keyHash w.params "fall",.str "fall" t2,.int 2 u2⟩,⟨PyData.keyHash w.params "send",.str "send" t3,.int 2 u3⟩,⟨PyData.keyHash w.params "come",.str "come" t4,.int 3 u4⟩] (.inr "send")=some (.int 2 u3):=by first | rfl | decide +kernel
     rw [this]; exact ⟨_,rfl⟩
    ·rw [if_neg e3]
     by_cases e4:x = "come"
     ·rw [if_pos e4]; subst e4;have:findBy (J2 P w).is #[⟨PyData.keyHash w.params "keep",.str "keep" t1,.int 2 u1⟩,⟨PyData.keyHash w.params "fall",.str "fall" t2,.int 2 u2⟩,⟨PyData.keyHash w.params "send",.str "send" t3,.int 2 u3⟩,⟨PyData.keyHash w.params "come",.str "come" t4,.int 3 u4⟩] (.inr "come")=some (.int 3 u4):=by first | rfl | decide +kernel
      rw [this]; exact ⟨_,rfl⟩
     ·rw [if_neg e4];have e1':¬ (Str.ofString "keep" = x):=fun z=>e1 z.symm
      have e2':¬ (Str.ofString "fall" = x):=fun z=>e2 z.symm
      have e3':¬ (Str.ofString "send" = x):=fun z=>e3 z.symm
      have e4':¬ (Str.ofString "come" = x):=fun z=>e4 z.symm
      have:findBy (J2 P w).is #[⟨PyData.keyHash w.params "keep",.str "keep" t1,.int 2 u1⟩,⟨PyData.keyHash w.params "fall",.str "fall" t2,.int 2 u2⟩,⟨PyData.keyHash w.params "send",.str "send" t3,.int 2 u3⟩,⟨PyData.keyHash w.params "come",.str "come" t4,.int 3 u4⟩] (.inr x)=none:=by
       simp [findBy,J2,Kw,Value.isStrOf,e1',e2',e3',e4']
      rw [this]; rfl
end
def Qcv (cn fld : Str) (i n : Nat) (F : FN) (mr : ML) : MS := fun Γ st => (mr Γ st).sbind fun ps st1 => if ps.length = n /\ i < Γ.length then (match F ps st1 with
  | .ok _ st2=>.nx Γ st2
  | .exc x st2=>if x.cls=cn then (match x.fs with | some (f,.int z)=>if f=fld then .rt (.int z) st2 else .stuck | _=>.stuck) else .stuck
  | .stuck=>.stuck) else .stuck
section
variable {X:Cx} {E:XK}
theorem Qmn {k n i:Nat} {g cn nm fld:Str} {F:FN} {CC:Addr} {p cpos epos np np2 apos rpos hpos pos:Pos} {e:Expr} {es:List Expr} {mr:ML} (D:DefS X.prog X.w X.K X.mg X.base k g n F) (hr:Room k X.A) (ha:SimA X.nox E (e :: es) mr)
  (hN:X.N.Nodup) (hcm:X.mg cn=some (.ref CC)) (hxx:PySem.W.exmOne X.K (.ref CC) (.ref CC)=some true) (hxg:XGet X.K CC fld) (hi:X.N[i]?=some nm:=by rfl) (hk:X.env.scope.names.lookup nm=some .local:=by rfl)
  (hsuite:∀ a,PSs (yi X a) [.Return (some (.Attribute (.Name nm np2) fld apos)) rpos] (Qu3 (tXF X.K fld (Qr5 i))):=by exact fun _=>Qb0 (Qj2 (Qni _ (pv _))))
  (hg:Gl X g:=by rfl) (hgc:Gl X cn:=by rfl) (hex:∀ b,b∉X.ex:=by intro b z; exact absurd (show b∈([]:List Addr) from z) (by simp)) (hst:X.stack=X.env :: X.outer:=by rfl) (hfr:X.env.frame=some X.env.locals:=by rfl)
  (hdb:(g == ("__debug__" : Str))=false:=by decide) (hdbc:(cn == ("__debug__" : Str))=false:=by decide) (he:starEach (e :: es) X.env=(false,eval e X.env) :: starEach es X.env:=by rfl) (hpl:(backTo cpos (starEach es X.env)).any (·.1)=false:=by rfl)
  (hsw:swapsWith (.Call (.Name g p) (e :: es) [] cpos) none epos.line X.env=pure false:=by rfl) :
  SimS X E (.Try [.Expr (.Call (.Name g p) (e :: es) [] cpos) epos] [.ExceptHandler (some (.Name cn np)) (some nm) [.Return (some (.Attribute (.Name nm np2) fld apos)) rpos] hpos] [] [] pos) (Qcv cn fld i n F mr):=by
 obtain ⟨f,fd,ps,hF,hm,hkp,hb,hl⟩:=D.ex;exact ⟨fun Γ σ H ρ st D R G h=>WS.of (Qj1 hF hr hm hkp hb Q3b hN hi hk hsuite hcm hg hgc hex hst hfr hdb hdbc he hpl hsw) (ha.use R G h.bind fun qs st1 H1 ρ1 us x1 R1 G1 r1 h1=>by
  by_cases hq:qs.length=n/\i < Γ.length
  ·rw [if_pos hq] at h1;refine ⟨by rw [<- r1.length]; exact hq.1,ρ1,st1,qs,R1,r1,?_⟩;cases er:F qs st1 with
   | stuck=>rw [er] at h1; exact h1.elim
   | ok v st2=>
    rw [er] at h1;exact fun H' ρ' x' R' w _=>h1 σ H' ρ' x' R' (G1.ext x')
   | exc x st2=>
    rw [er] at h1;have h2:AccS X.mg E D H1 ρ1 (if x.cls=cn then (match x.fs with | some (f,.int z)=>if f=fld then .rt (.int z) st2 else .stuck | _=>.stuck) else .stuck):=h1
    clear h1
    by_cases hc:x.cls=cn
    ·rw [if_pos hc] at h2
     split at h2
     ·rename_i f' z ef
      split at h2
      ·rename_i hf;subst hf;intro C dv H' ρ' hm' x' R' xf;rw [hc,hcm] at hm';cases hm';rw [ef] at xf;obtain ⟨dx,v,rfl,hdx,_,rv⟩:=xf;have rv:v=.int z:=rv;subst rv;refine ⟨CC,rfl,hxx,fun a hna=>?_⟩;have hlen:i < σ.length:=by rw [<- G1.1]; exact hq.2
       refine ⟨.ref a,by rw [E2 hlen],a,CC,dx,z,[(f',.int z)],rfl,J8,by rw [Qh (Qk hdx hna)]; exact hdx,by simp [List.lookup],hxg,?_⟩;exact h2 _ _ ρ' (x'.trans (Ext.add hna)) (R'.add hna) rfl
      ·exact h2.elim
     ·exact h2.elim
    ·rw [if_neg hc] at h2; exact h2.elim
  ·rw [if_neg hq] at h1; exact h1.elim)⟩
@[simp] theorem Qjv (cn fld:Str) (i n:Nat) (F:FN) (mr:ML) (Γ:Gam) (st:Q2):Qcv cn fld i n F mr Γ st=(mr Γ st).sbind fun ps st1=>if ps.length=n/\i < Γ.length then (match F ps st1 with
  | .ok _ st2=>.nx Γ st2
  | .exc x st2=>if x.cls=cn then (match x.fs with | some (f,.int z)=>if f=fld then .rt (.int z) st2 else .stuck | _=>.stuck) else .stuck
  | .stuck=>.stuck) else .stuck:=rfl
end
section
variable {X:Cx} {pins pins':List (Addr × Obj)} {E:XK} {σ:St} {H:Hp} {s:Shared}
end
section
variable {X:Cx} {body:List Stmt} {mb:MS} {cn n:Str} {i:Nat} {CC:Addr} {np hpos pos:Pos} {b₀:Stmt} {suite:List Stmt} {ts:Addr->TS} {Γ:Gam} {σ:St} {H:Hp} {ρ:Tk} {st:Q2} {D:Ends}
end
section
variable {X:Cx} {E:XK}
end
end Sm
namespace Sm
open PySem PySem.Spec PyProof.Rows L2
section
variable {X:Cx} {E:XK}
theorem Qji:OpR X (binaryOp .FloorDiv) (rI (fun _ j=>0 < j/\j.natAbs.log2 < 8000) fun i j=>.int (i / j)):=opI fun i j _ _ _ _ _ hc q=>by
 have h1:(0:Int) < j:=hc.1;have h2:=hc.2;refine floordiv_int (by omega) (by rw [Int.fdiv_eq_ediv_of_nonneg i (by omega)]; exact q) (.inl (PyProof.noPylong_of_log2 ?_));omega
def Qfh:OP:=fun st p q=>match p,q with
 | .int a,.int b=>if 0 < b/\b.natAbs.log2 < 8000 then .ok (.int (a / b)) st else .stuck
 | _,_=>.stuck
theorem Qnt:OpS X E (binaryOp .FloorDiv) Qfh:=⟨fun H ρ st p q x y Q R rp rq h=>by
 unfold Qfh at h
 split at h
 ·cases rp; cases rq
  split at h
  ·rename_i hc;exact WO.of Qji ⟨_,_,rfl,rfl,hc,now R h rfl⟩
  ·exact h.elim
 ·exact h.elim⟩
theorem Qgw (st:Q2) (a:Int) (m:Nat) (h1:0 < m) (h2:m < 2 ^ 8000):Qfh st (.int a) (.int m)=.ok (.int (a / m)) st:=by
 show (if 0 < (m:Int)/\(m:Int).natAbs.log2 < 8000 then _ else _)=_;rw [if_pos ⟨by omega,by
  rw [Int.natAbs_natCast];exact (Nat.log2_lt (by omega)).mpr h2⟩]
end
end Sm
namespace Sm
open PySem PySem.Spec L2
structure AtS (K:PySem.W.Frag) (mg:Str->Option Value) (name:Str) (st:Stmt) (ps:List Str) (f:Addr) (fd:FuncData):Prop where
 F:Fun K name name st f fd
 m:mg name=some (.ref f)
 b:Binds K fd ps []
theorem Qta {K:PySem.W.Frag} {mg:Str->Option Value} {h:Heap} {name:Str} {st:Stmt} {ps:List Str} {f:Addr} {oc:Value} {od an:Option Addr} {osl:Array (Option Value)} {kV doc pm cdv ct:Value} (X:K.In h) (G:h.Ns mainGlobals mg)
  (a:PySem.W.nsIn K mainGlobals name=some (some (.ref f))) (l:K.lookup f=some ⟨oc,od,.func (PySem.W.fnOf name name (Wm st) (Yh st) (Q8 st) .none kV doc pm an cdv ct),osl⟩) (c:PySem.W.codeIn K cdv name=true) (k:PySem.W.keepIn K (.ref f)=true)
  (b:∀ (kV doc pm:Value) (an:Option Addr) (cdv ct:Value) (us:List Value),us.length=ps.length->bindArgs (PySem.W.fnOf name name (Wm st) (Yh st) (Q8 st) .none kV doc pm an cdv ct) ⟨us,[]⟩=pure (ps.zip us)) :
  AtS K mg name st ps f (PySem.W.fnOf name name (Wm st) (Yh st) (Q8 st) .none kV doc pm an cdv ct):=
 have F:=Qer (st:=st) l c k
 ⟨F,PySem.W.mg_of X G a,F.binds b⟩
theorem AtS.def {P:Program} {w:World} {K:PySem.W.Frag} {mg:Str->Option Value} {base:Heap} {name:Str} {st:Stmt} {ps:List Str} {f:Addr} {fd:FuncData} {k n:Nat} {F:FN} (a:AtS K mg name st ps f fd) (hn:ps.length=n) (G:FnOk P w K mg base (CXD P w) k f fd ps (spF mg n F)):DefS P w K mg base k name n F:=
 ⟨f,fd,ps,G,a.m,a.F.kp,a.b,hn⟩
def FL (K:PySem.W.Frag) (x ql:Str) (s:Stmt) (f:Addr):Prop:=∃ (oc:Value) (od:Option Addr) (kV dc pm:Value) (an:Option Addr) (cd ct:Value) (sl:Array (Option Value)),K.lookup f=some ⟨oc,od,.func (PySem.W.fnOf x ql (Wm s) (Yh s) (Q8 s) .none kV dc pm an cd ct),sl⟩/\PySem.W.codeIn K cd ql=true/\PySem.W.keepIn K (.ref f)=true
theorem FL.fn {K:PySem.W.Frag} {x ql:Str} {s:Stmt} {f:Addr} (h:FL K x ql s f):∃ fd,Fun K x ql s f fd:=let ⟨_,_,_,_,_,_,_,_,_,l,c,k⟩:=h; ⟨_,Qer l c k⟩
def FA (K:PySem.W.Frag) (x:Str) (s:Stmt) (f:Addr):Prop:=PySem.W.nsIn K mainGlobals x=some (some (.ref f))/\FL K x x s f
theorem FA.mk {K:PySem.W.Frag} {x:Str} {s:Stmt} {f:Addr} {oc:Value} {od an:Option Addr} {sl:Array (Option Value)} {kV dc pm cd ct:Value} (a:PySem.W.nsIn K mainGlobals x=some (some (.ref f))) (l:K.lookup f=some ⟨oc,od,.func (PySem.W.fnOf x x (Wm s) (Yh s) (Q8 s) .none kV dc pm an cd ct),sl⟩) (c:PySem.W.codeIn K cd x=true) (k:PySem.W.keepIn K (.ref f)=true):FA K x s f:=⟨a,_,_,_,_,_,_,_,_,_,l,c,k⟩
def FM (K:PySem.W.Frag) (C:Addr) (x ql:Str) (s:Stmt) (f:Addr):Prop:=PySem.W.findIn K (.ref C) x=some (some (.ref f))/\PySem.W.isFn K (.ref f)=true/\FL K x ql s f
theorem ln1 {α:Type} {l:List α} (h:l.length=1):∃ a,l=[a]:=match l,h with | [_],_=>⟨_,rfl⟩
theorem ln2 {α:Type} {l:List α} (h:l.length=2):∃ a b,l=[a,b]:=match l,h with | [_,_],_=>⟨_,_,rfl⟩
theorem ln3 {α:Type} {l:List α} (h:l.length=3):∃ a b c,l=[a,b,c]:=match l,h with | [_,_,_],_=>⟨_,_,_,rfl⟩
theorem ln4 {α:Type} {l:List α} (h:l.length=4):∃ a b c d,l=[a,b,c,d]:=match l,h with | [_,_,_,_],_=>⟨_,_,_,_,rfl⟩
theorem ln5 {α:Type} {l:List α} (h:l.length=5):∃ a b c d e,l=[a,b,c,d,e]:=match l,h with | [_,_,_,_,_],_=>⟨_,_,_,_,_,rfl⟩
theorem FL.bd {K:PySem.W.Frag} {x ql:Str} {s:Stmt} {f:Addr} {ps:List Str} (h:FL K x ql s f)
  (b:∀ (kV doc pm:Value) (an:Option Addr) (cdv ct:Value) (us:List Value),us.length=ps.length->bindArgs (PySem.W.fnOf x ql (Wm s) (Yh s) (Q8 s) .none kV doc pm an cdv ct) ⟨us,[]⟩=pure (ps.zip us)):∃ fd,Fun K x ql s f fd/\Binds K fd ps []:=
 let ⟨_,F⟩:=h.fn
 ⟨_,F,F.binds b⟩
theorem W5 {K:PySem.W.Frag} {mg:Str->Option Value} {h:Heap} {name:Str} {st:Stmt} {f:Addr} (ps:List Str) (X:K.In h) (G:h.Ns mainGlobals mg) (a:FA K name st f)
  (b:∀ (kV doc pm:Value) (an:Option Addr) (cdv ct:Value) (us:List Value),us.length=ps.length->bindArgs (PySem.W.fnOf name name (Wm st) (Yh st) (Q8 st) .none kV doc pm an cdv ct) ⟨us,[]⟩=pure (ps.zip us):=by
   intro _ _ _ _ _ _ us hl
   first | (obtain ⟨_,rfl⟩:=ln1 hl; rfl) | (obtain ⟨_,_,rfl⟩:=ln2 hl; rfl) | (obtain ⟨_,_,_,rfl⟩:=ln3 hl; rfl) | (obtain ⟨_,_,_,_,rfl⟩:=ln4 hl; rfl) | (obtain ⟨_,_,_,_,_,rfl⟩:=ln5 hl; rfl)):∃ fd,AtS K mg name st ps f fd:=
 let ⟨a,l⟩:=a
 let ⟨_,F,B⟩:=l.bd b
 ⟨_,F,PySem.W.mg_of X G a,B⟩
theorem FM.at {K:PySem.W.Frag} {C:Addr} {x ql:Str} {s:Stmt} {f:Addr} (h:FM K C x ql s f) (ps:List Str)
  (b:∀ (kV doc pm:Value) (an:Option Addr) (cdv ct:Value) (us:List Value),us.length=ps.length->bindArgs (PySem.W.fnOf x ql (Wm s) (Yh s) (Q8 s) .none kV doc pm an cdv ct) ⟨us,[]⟩=pure (ps.zip us):=by
   intro _ _ _ _ _ _ us hl
   first | (obtain ⟨_,rfl⟩:=ln1 hl; rfl) | (obtain ⟨_,_,rfl⟩:=ln2 hl; rfl) | (obtain ⟨_,_,_,rfl⟩:=ln3 hl; rfl)):∃ fd,Fun K x ql s f fd/\Binds K fd ps []:=h.2.2.bd b
theorem FM.mk {K:PySem.W.Frag} {C:Addr} {x ql:Str} {s:Stmt} {f:Addr} {oc:Value} {od an:Option Addr} {sl:Array (Option Value)} {kV dc pm cd ct:Value} (a:PySem.W.findIn K (.ref C) x=some (some (.ref f))) (e:PySem.W.isFn K (.ref f)=true) (l:K.lookup f=some ⟨oc,od,.func (PySem.W.fnOf x ql (Wm s) (Yh s) (Q8 s) .none kV dc pm an cd ct),sl⟩) (c:PySem.W.codeIn K cd ql=true) (k:PySem.W.keepIn K (.ref f)=true):FM K C x ql s f:=⟨a,e,_,_,_,_,_,_,_,_,_,l,c,k⟩
theorem AtS.d {K:PySem.W.Frag} {mg:Str->Option Value} {name:Str} {st:Stmt} {ps:List Str} {f:Addr} {fd:FuncData} {k n:Nat} {F:FN} (a:AtS K mg name st ps f fd) (P:Program) (w:World) (base:Heap) (hn:ps.length=n) (G:FnOk P w K mg base (CXD P w) k f fd ps (spF mg n F)):DefS P w K mg base k name n F:=a.def hn G
def noL (K:PySem.W.Frag):Bool:=K.all fun p=>match p.2.data with
 | .seq _ _=>(match p.2.cls with
  | .type n=>!(n == ("list" : Str))
  | _=>true)
 | _=>true
theorem Qek {K:PySem.W.Frag} {a:Addr} {o:Obj} (h:K.lookup a=some o):(a,o)∈K:=by
 induction K with
 | nil=>cases h
 | cons p K ih=>
  obtain ⟨b,u⟩:=p;rw [D9] at h;cases e:a == b with
  | true=>
   rw [e] at h;have:a=b:=by simpa using e
   subst this;cases h;exact D4
  | false=>
   rw [e] at h;exact D0 _ (ih h)
theorem Qse {K:PySem.W.Frag} {a:Addr} {o:Obj} {its:Array Value} {n:Nat} (hL:noL K=true) (h:K.lookup a=some o) (hc:o.cls=.type "list") (hd:o.data=.seq its n):False:=by
 have:=F7.mp hL _ (Qek h);simp [hc,hd] at this
theorem Q9x {H:Hp} {ρ:Tk}:∀ ns:List Int,RepL H ρ (ns.map .int) (ns.map V.int)
 | []=>rfl
 | n :: ns=>⟨_,_,rfl,rfl,Q9x ns⟩
theorem Qn1 (H:Hp):Rel H Tk.nil []:=⟨rfl,List.nodup_nil,fun a h=>(by cases h),fun a h=>(by cases h),fun i a c h=>(by simp [Tk.nil] at h)⟩
def Qat (K:PySem.W.Frag):Sp:=fun vs H Q _=>∃ (a:Addr) (ns:List Int),vs=[.ref a]/\SqL K H a (ns.map V.int)/\ns.length<=63/\∀ H',Q (.bl true) H'
theorem Qpi {P:Program} {w:World} {K:PySem.W.Frag} {mg:Str->Option Value} {base:Heap} {CX:CXT} {k:Nat} {f:Addr} {fd:FuncData} {ps:List Str} {FL:FN} (hL:noL K=true) (F:FnOk P w K mg base CX k f fd ps (spF mg 1 FL)) (hlaw:∀ ns:List Int,ns.length<=63->∃ st',FL [.fro (ns.map .int)] []=.ok (.bl true) st'):FnOk P w K mg base CX k f fd ps (Qat K):=F.imp fun vs H Q E ⟨a,ns,e,hS,hl,hQ⟩=>by
 subst e;obtain ⟨st',hF⟩:=hlaw ns hl;have hR:Rd H a (.lst (ns.map V.int)):=by
  rcases hS with h | ⟨o,its,n,h1,h2,h3,h4,_⟩
  ·exact h
  ·exact (Qse hL h1 h2 h4).elim
 refine ⟨rfl,Tk.nil,[],[.fro (ns.map .int)],Qn1 H,⟨_,_,rfl,⟨a,_,rfl,hR,Tk.not_nil a,Q9x ns⟩,rfl⟩,?_⟩;rw [hF];intro H' ρ' x R v r;have e:v=.bl true:=r;subst e;exact hQ H'
theorem Qkm {P:Program} {w:World} {H:Hp} {s:Shared} {e:Value} {s':Shared} (h:CXD P w [] H s (fun _ _ _=>False) e s'):False:=by
 obtain ⟨_,_,_,_,_,_,_,_,_,z⟩:=h;exact z
theorem walkS {l:PySem.W.OpenLaw} {k:Nat} {q:Program} {loose:List Str} {XP:(Str->Option Value)->Heap->Prop} {YP:World->Heap->Prop} {d:DefRec} {K:Params->PySem.W.Frag} (hn:l.most=some 63) (hr:Room k callerA) (hdf:d.params.defaults=[])
  (hY:∀ (w:World) (h:Heap),YP w h->(K w.params).In h)
  (F:∀ (w:World) (mg:Str->Option Value) (fa:Addr) (h:Heap),(K w.params).In h->h.Ns mainGlobals mg->mg d.name=some (.ref fa) ->
   ∃ fd:FuncData,(∀ (s:Shared) (u:Value),BindsTo s fd ⟨[u],[]⟩ [("script",u)])/\∀ base:Heap,(K w.params).In base->base.Ns mainGlobals mg->FnOk l.prog w (K w.params) mg base (CXD l.prog w) k fa fd ["script"] (Qat (K w.params))) :
  PySem.W.WalkO q loose XP YP l.row.toRowW d [] (fun f vs=>PySem.call f vs):=
 L2.walk_of (n:=63) (k:=k) (x := "script") (CX:=fun w=>CXD l.prog w) (sp:=fun w=>Qat (K w.params)) hn (by decide) hdf hr hY F (fun _ _ a ns hl _ hS=>⟨a,ns,rfl,hS,hl,fun _=>rfl⟩) fun _ _ _ _ _ z=>Qkm z
end Sm
namespace Lw
open PySem PySem.Spec L2 Sm
def top (i:Nat):Stmt:=PySem.Challenge.pw_lendwharf_k17_runs_played.main.body.getD i (.Pass ⟨0,0,0,0⟩)
abbrev Qax:Stmt:=top 0
abbrev Q2h:Stmt:=top 9
abbrev yw:Stmt:=top 10
abbrev Q6w:Stmt:=top 13
abbrev Q2i:Stmt:=top 14
abbrev Q2j:Stmt:=top 15
abbrev Q6s:Stmt:=top 16
abbrev V8:Stmt:=top 18
abbrev Km:Stmt:=top 19
abbrev yu:Stmt:=top 20
abbrev Q6v:Stmt:=top 21
abbrev V9:Stmt:=top 24
abbrev Q4a:Stmt:=top 25
abbrev V7:Stmt:=top 26
abbrev qv:Stmt:=top 27
abbrev Q6t:Stmt:=top 28
abbrev Qe1:Stmt:=top 29
abbrev Q0t:Stmt:=top 31
abbrev Vt:Stmt:=top 32
abbrev Kj:Stmt:=top 33
abbrev Q2k:Stmt:=top 34
abbrev Kk:Stmt:=top 35
abbrev Uw:Stmt:=top 36
abbrev jv:Stmt:=top 37
abbrev Ux:Stmt:=top 38
abbrev Ud:Stmt:=top 39
abbrev Xr:Stmt:=X5 (top 41) 0
abbrev xh:Stmt:=X5 (top 41) 1
abbrev xi:Stmt:=X5 (top 41) 2
abbrev Q0v:Stmt:=X5 (top 41) 3
abbrev xj:Stmt:=X5 (top 41) 4
abbrev xk:Stmt:=X5 (top 41) 5
abbrev j6:Stmt:=X5 (top 41) 6
abbrev xm:Stmt:=X5 (top 41) 7
abbrev zc:Stmt:=X5 (top 41) 8
abbrev j4:Stmt:=X5 (top 41) 9
abbrev xg:Stmt:=X5 (top 41) 10
abbrev Kn:Stmt:=top 44
abbrev Uc:Stmt:=top 45
abbrev ju:Stmt:=top 46
abbrev Kp:Stmt:=top 47
abbrev Q0u:Stmt:=top 48
abbrev Q6u:Stmt:=top 49
abbrev x9:Stmt:=top 51
abbrev yx:Stmt:=top 52
abbrev z8:Stmt:=top 53
abbrev qw:Stmt:=top 54
abbrev xb:Stmt:=top 55
abbrev qx:Stmt:=top 56
abbrev qz:Stmt:=top 57
abbrev x8:Stmt:=top 58
abbrev jw:Stmt:=top 59
abbrev jx:Stmt:=top 60
abbrev yy:Stmt:=top 61
abbrev jz:Stmt:=top 62
abbrev qy:Stmt:=top 63
abbrev z9:Stmt:=top 64
abbrev jy:Stmt:=top 65
abbrev Q38:Stmt:=top 66
structure Txt (mg:Str->Option Value):Prop where
 b_all:mg "all" = none
 b_any:mg "any" = none
 b_bool:mg "bool" = none
 b_int:mg "int" = none
 b_isinstance:mg "isinstance" = none
 b_len:mg "len" = none
 b_list:mg "list" = none
 b_max:mg "max" = none
 b_min:mg "min" = none
 b_range:mg "range" = none
 b_str:mg "str" = none
 b_sum:mg "sum" = none
 b_tuple:mg "tuple" = none
 b_zip:mg "zip" = none
 c_MOST_HOUSES:∃ t,mg "MOST_HOUSES" = some (.int 8 t)
structure ClsT (K:PySem.W.Frag) (C:Addr):Prop where
 cl:Cls K C
 n_number:NoAttr K C "number"
 n_now:NoAttr K C "now"
 n_kept:NoAttr K C "kept"
def Qq2:Stmt->List Stmt
 | .ClassDef _ _ _ b _ _ _ _ _ _ _=>b
 | _=>[]
abbrev Q9u:Stmt:=(Qq2 (top 7)).getD 0 (.Pass ⟨0,0,0,0⟩)
structure ShortOk (K:PySem.W.Frag) (mg:Str->Option Value) (c0 cs fI:Addr):Prop where
 m0:mg "WharfError" = some (.ref c0)
 ms:mg "Short" = some (.ref cs)
 M:XMade K cs c0 fI
 L:XCall K c0
 S:XSet K cs c0 "had"
structure ShortS (P:Program) (w:World) (K:PySem.W.Frag) (mg:Str->Option Value) (base:Heap):Prop where
 ex:∃ (C W f:Addr) (fd:FuncData),XMade K C W f/\FnOk P w K mg base CX0 1 f fd ["self", "had"] (Q6m C "had")/\Binds K fd ["self", "had"] []/\mg "Short" = some (.ref C)
section
variable {P:Program} {w:World} {K:PySem.W.Frag} {mg:Str->Option Value} {base:Heap}
theorem Qrc:FnScope ["self", "had"] ["self", "had"] (Q8 Q9u):=⟨rfl,rfl,rfl,by decide +kernel,rfl,by decide +kernel,by decide +kernel⟩
theorem Qny {f c0 cs:Addr} {fd:FuncData} (F:Fun K "__init__" "Short.__init__" Q9u f fd) (O:ShortOk K mg c0 cs f):FnOk P w K mg base CX0 1 f fd ["self", "had"] (Q6m cs "had"):=by
 refine F.ok Qrc (fun vs H Q E h=>?_) (fun cdv A outer s H vs Q E hr h=>?_)
 ·obtain ⟨x,v,rfl,_⟩:=h;rfl
 ·obtain ⟨x,v,rfl,hx,kk⟩:=h;refine ⟨_,Qce (Qf9 (Qj8 O.M O.L (by rfl) O.m0 (xr (pv 0) (xr Q0y Q74))))
   (Qb0 (Qna (fun b z=>absurd (show b∈([]:List Addr) from z) (by simp)) O.S (pv 0) (pv 1))),?_⟩
  exact ⟨_,rfl,x,_,rfl,hx,_,rfl,_,rfl,x,rfl,hx,kk⟩
end
section
variable {P:Program} {w:World} {K:PySem.W.Frag} {mg:Str->Option Value} {base:Heap}
def Qhz:MS:=Zy
def Qg5:MT:=(toB (mC (.bl true)))
def Qfk:MS:=(Kf Qg5 Qhz 100000)
def Qbu:FN:=Qq Qfk 1
theorem Qir:FnScope ["k"] ["k"] (Q8 Qax):=⟨rfl,rfl,rfl,by decide +kernel,rfl,by decide +kernel,by decide +kernel⟩
theorem Qjk {f:Addr} {fd:FuncData} (F:Fun K "_wall" "_wall" Qax f fd) (T:Txt mg)   : FnOk P w K mg base (CXD P w) 1 f fd ["k"] (spF mg 1 Qbu):=by
 refine Qz (k:=0) (m:=Qfk) F Qir rfl rfl rfl fun cdv A outer s H E hr=>?_
 exact (Qd (Qc2 100000 PassesOwn.leaving (W0 Q36) (Qd Qmp)))
def Q2r:MS:=(Jp (Q4t (Q2u "int" (Q4 0)) (Qsm (Q2u "bool" (Q4 0)))))
def Wv:FN:=Qq Q2r 1
theorem Qc3:FnScope ["thing"] ["thing"] (Q8 Q2h):=⟨rfl,rfl,rfl,by decide +kernel,rfl,by decide +kernel,by decide +kernel⟩
theorem Qcj {f:Addr} {fd:FuncData} (F:Fun K "is_whole" "is_whole" Q2h f fd) (T:Txt mg)   : FnOk P w K mg base (CXD P w) 1 f fd ["thing"] (spF mg 1 Wv):=by
 refine Qz (k:=0) (m:=Q2r) F Qc3 rfl rfl rfl fun cdv A outer s H E hr=>?_
 exact (Qd (Qw (yq (Ki (T := "int") (by decide) (Q0 0) rfl T.b_isinstance rfl T.b_int Qdh) (Q0r (Qrb (Ki (T := "bool") (by decide) (Q0 0) rfl T.b_isinstance rfl T.b_bool Qaf))))))
def Q00:MS:=(Jp (Q4t (Qf 1 Wv (Q3 (Q4 0) Q9)) (Q16 (oI fun a b=>.bl (decide (a<=b))) (oI fun a b=>.bl (decide (a<=b))) (Q4 1) (Q4 0) (Q4 2))))
def Xe:FN:=Qq Q00 3
theorem Q8t:FnScope ["thing", "least", "most"] ["thing", "least", "most"] (Q8 yw):=⟨rfl,rfl,rfl,by decide +kernel,rfl,by decide +kernel,by decide +kernel⟩
theorem Q96 {f:Addr} {fd:FuncData} (F:Fun K "is_between" "is_between" yw f fd) (T:Txt mg)  (D_is_whole:DefS P w K mg base 1 "is_whole" 1 Wv):FnOk P w K mg base (CXD P w) 2 f fd ["thing", "least", "most"] (spF mg 3 Xe):=by
 refine Qz (k:=1) (m:=Q00) F Q8t rfl rfl rfl fun cdv A outer s H E hr=>?_
 exact (Qd (Qw (yq (Qg D_is_whole (hr.mono (by decide)) Qc rfl (Q1 (Q0 0) Q6)) (Q0r (Qiq Qa1 Qa1 (Q0 1) (Q0 0) (Q0 2))))))
def Q2y:ME:=(Q4t (Qf 1 Wv (Q3 (Q4 0) Q9)) (mOp (oI fun a b=>.bl (decide (b<=a))) (Q4 0) (mC (.int 0))))
def Q7p : MS := (Qp (Ye (Q0m (Vg (toB (Q2u "tuple" (Q4 0)))) (toB (mOp oNe (J5 Yp (Q3 (Q4 0) Q9)) (mOp We (Q4 1) (mC (.int 1)))))) (Jp (mC (.bl false))) Zy)
  (Jp (J5 (Q27 fun ns=>.bl (ns.all id)) (Q3 (Xv (Yb [none] (Qn 0) (zw (Q4 0)) Zn Q2y)) Q9))))
def Q1k:FN:=Qq Q7p 2
theorem Qge:FnScope ["thing", "n"] ["thing", "n"] (Q8 Q6w):=⟨rfl,rfl,rfl,by decide +kernel,rfl,by decide +kernel,by decide +kernel⟩
theorem Qgu {f:Addr} {fd:FuncData} (F:Fun K "is_row" "is_row" Q6w f fd) (T:Txt mg)  (D_is_whole:DefS P w K mg base 1 "is_whole" 1 Wv):FnOk P w K mg base (CXD P w) 2 f fd ["thing", "n"] (spF mg 2 Q1k):=by
 refine Qz (k:=1) (m:=Q7p) F Qge rfl rfl rfl fun cdv A outer s H E hr=>?_
 exact (Qb (Z1 (SimW.t (Q29 (V5 (W0 (Ki (T := "tuple") (by decide) (Q0 0) rfl T.b_isinstance rfl T.b_tuple Wg))) (Q0n (J9 (Q59 hr.units) (Qt Yc rfl T.b_len PySem.boot_len (Q1 (Q0 0) Q6)) (Ja Zq (Q0 1) Qa))))) (Qd (Qw Q36)) Zp)
  (Qd (Qw (Qt (Q8d rfl) rfl T.b_all Q1h (Q1 (Wu (Yg [none] ["part"] rfl (Xp (Q0 0)) (fun _ _ _ _ _=>(J1 (i:=0) (show (["part"]:List Str).Nodup by decide +kernel))) (fun _ _ _ _ _=>(yq (Qg D_is_whole (hr.mono (by decide)) Uz rfl (Q1 (Q0 0) Q6)) (Q0r (Xq Qqk (Q0 0) Qa)))) (fun _ _ _ _ _=>Yz) Jm)) Q6)))))
def Q0a:ME:=(Qf 2 Q1k (Q3 (Q4 0) (Q3 (J5 Yp (Q3 (Q4 1) Q9)) Q9)))
def Q2s : MS := (Qp (Ye (Q0m (Vg (toB (Q2u "tuple" (Q4 0)))) (Vg (toB (Q16 (oI fun a b => .bl (decide (a <= b))) (oI fun a b => .bl (decide (a <= b))) (mC (.int 1)) (J5 Yp (Q3 (Q4 0) Q9)) (mC (.int 8)))))) (Jp (mC (.bl false))) Zy)
  (Jp (J5 (Q27 fun ns=>.bl (ns.all id)) (Q3 (Xv (Yb [none,some 0] (Qn 0) (zw (Q4 0)) Zn Q0a)) Q9))))
def ji:FN:=Qq Q2s 1
theorem Qc4:FnScope ["thing"] ["thing"] (Q8 Q2i):=⟨rfl,rfl,rfl,by decide +kernel,rfl,by decide +kernel,by decide +kernel⟩
theorem Qck {f:Addr} {fd:FuncData} (F:Fun K "is_table" "is_table" Q2i f fd) (T:Txt mg)  (D_is_row:DefS P w K mg base 2 "is_row" 2 Q1k):FnOk P w K mg base (CXD P w) 3 f fd ["thing"] (spF mg 1 ji):=by
 refine Qz (k:=2) (m:=Q2s) F Qc4 rfl rfl rfl fun cdv A outer s H E hr=>?_
 exact (Qb (Z1 (SimW.t (Q29 (V5 (W0 (Ki (T := "tuple") (by decide) (Q0 0) rfl T.b_isinstance rfl T.b_tuple Wg))) (Q0n (V5 (Qc1 Qa1 Qa1 Qa (Qt Yc rfl T.b_len PySem.boot_len (Q1 (Q0 0) Q6)) (Qmw rfl T.c_MOST_HOUSES.choose_spec)))))) (Qd (Qw Q36)) Zp)
  (Qd (Qw (Qt (Q8d rfl) rfl T.b_all Q1h (Q1 (Wu (Yg [none,some 0] ["row", "thing"] rfl (Xp (Q0 0)) (fun _ _ _ _ _=>(J1 (i:=0) (show (["row", "thing"]:List Str).Nodup by decide +kernel))) (fun _ _ _ _ _=>(Qg D_is_row (hr.mono (by decide)) Uz rfl (Q1 (Q0 0) (Q1 (Qt Yc rfl T.b_len PySem.boot_len (Q1 (Q0 1) Q6)) Q6)))) (fun _ _ _ _ _=>Yz) Jm)) Q6)))))
def Q2t:MS:=(Jp (Qf 3 Xe (Q3 (Q4 1) (Q3 (mC (.int 0)) (Q3 (mOp (oI fun a b=>.int (a - b)) (J5 Yp (Q3 (Q4 0) Q9)) (mC (.int 1))) Q9)))))
def Yd:FN:=Qq Q2t 2
theorem Qc5:FnScope ["table", "thing"] ["table", "thing"] (Q8 Q2j):=⟨rfl,rfl,rfl,by decide +kernel,rfl,by decide +kernel,by decide +kernel⟩
theorem Qcm {f:Addr} {fd:FuncData} (F:Fun K "is_house" "is_house" Q2j f fd) (T:Txt mg)  (D_is_between:DefS P w K mg base 2 "is_between" 3 Xe):FnOk P w K mg base (CXD P w) 3 f fd ["table", "thing"] (spF mg 2 Yd):=by
 refine Qz (k:=2) (m:=Q2t) F Qc5 rfl rfl rfl fun cdv A outer s H E hr=>?_
 exact (Qd (Qw (Qg D_is_between (hr.mono (by decide)) Qc rfl (Q1 (Q0 1) (Q1 Qa (Q1 (Ja Q0z (Qt Yc rfl T.b_len PySem.boot_len (Q1 (Q0 0) Q6)) Qa) Q6))))))
def Q2w:ME:=(mOp oIx (Q4 0) (Q4 1))
def Q7j : MS := (Qp (Ye (Vg (toB (Qf 2 Yd (Q3 (Q4 0) (Q3 (Q4 1) Q9))))) (Xx "NoHouse" (mC (.str "no house of this table"))) Zy)
  (Qp (Je 2 (J5 (Xb fun ns=>some (.int ns.sum)) (Q3 (Xv (Yb [none,some 1] (Qn 0) (zw (Q4 0)) Zn Q2w)) Q9)))
  (Qp (Je 3 (mOp oIx (Q4 0) (Q4 1)))
  (Qp (Je 4 (mOp (oI fun a b=>.int (a - b)) (J5 (Xb fun ns=>some (.int ns.sum)) (Q3 (Q4 3) Q9)) (mOp oIx (Q4 3) (Q4 1))))
  (Jp (mOp (oI fun a b=>.int (a - b)) (Q4 2) (Q4 4)))))))
def U3:FN:=Qq Q7j 5
theorem sc_rights:FnScope ["table", "house", "gained", "own", "spent"] ["table", "house"] (Q8 Q6s):=⟨rfl,rfl,rfl,by decide +kernel,rfl,by decide +kernel,by decide +kernel⟩
theorem Qa2 {f:Addr} {fd:FuncData} (F:Fun K "rights" "rights" Q6s f fd) (T:Txt mg) (C_NoHouse:∃ C,mg "NoHouse" = some (.ref C)/\PySem.W.excIn K C Ui "ValueError.__new__" = true) (D_is_house:DefS P w K mg base 3 "is_house" 2 Yd):FnOk P w K mg base (CXD P w) 4 f fd ["table", "house"] (spF mg 2 U3):=by
 refine Qz (k:=3) (m:=Q7j) F sc_rights rfl rfl rfl fun cdv A outer s H E hr=>?_
 exact (Qb (Z1 (V5 (W0 (Qg D_is_house (hr.mono (by decide)) Qc rfl (Q1 (Q0 0) (Q1 (Q0 1) Q6))))) (Qd (Vh rfl Wy rfl C_NoHouse.choose_spec.1 C_NoHouse.choose_spec.2 J0)) Zp)
  (Qb (Qx 2 sc_rights.nd (Qt (Q8c rfl) rfl T.b_sum Q1g (Q1 (Wu (Yg [none,some 1] ["row", "house"] rfl (Xp (Q0 0)) (fun _ _ _ _ _=>(J1 (i:=0) (show (["row", "house"]:List Str).Nodup by decide +kernel))) (fun _ _ _ _ _=>(Qs (Q0 0) (Q0 1))) (fun _ _ _ _ _=>Yz) Jm)) Q6)))
  (Qb (Qx 3 sc_rights.nd (Qs (Q0 0) (Q0 1)))
  (Qb (Qx 4 sc_rights.nd (Ja Q0z (Qt (Q8c rfl) rfl T.b_sum Q1g (Q1 (Q0 3) Q6)) (Qs (Q0 3) (Q0 1))))
  (Qd (Qw (Ja Q0z (Q0 2) (Q0 4))))))))
def Va:MS:=(Ye (toB (mOp oNe (J5 Yp (Q3 (Q4 0) Q9)) (J5 Yp (Q3 (Q4 1) Q9)))) (Xx "NoTable" (mC (.str "the tables have unlike numbers of houses"))) Zy)
def Jz:FN:=Qq Va 2
theorem yr:FnScope ["one", "other"] ["one", "other"] (Q8 V8):=⟨rfl,rfl,rfl,by decide +kernel,rfl,by decide +kernel,by decide +kernel⟩
theorem xu {f:Addr} {fd:FuncData} (F:Fun K "need_as_many_houses" "need_as_many_houses" V8 f fd) (T:Txt mg) (C_NoTable:∃ C,mg "NoTable" = some (.ref C)/\PySem.W.excIn K C Ui "ValueError.__new__" = true)  : FnOk P w K mg base (CXD P w) 1 f fd ["one", "other"] (spF mg 2 Jz):=by
 refine Qz (k:=0) (m:=Va) F yr rfl rfl rfl fun cdv A outer s H E hr=>?_
 exact (Qd (Z1 (J9 (Q59 hr.units) (Qt Yc rfl T.b_len PySem.boot_len (Q1 (Q0 0) Q6)) (Qt Yc rfl T.b_len PySem.boot_len (Q1 (Q0 1) Q6))) (Qd (Vh rfl Wy rfl C_NoTable.choose_spec.1 C_NoTable.choose_spec.2 J0)) Zp))
def X9:ME:=(mOp (oI fun a b=>.bl (decide (a<=b))) (Q4 0) (Q4 1))
def Ks:MS:=(Jp (J5 (Q27 fun ns=>.bl (ns.all id)) (Q3 (Xv (Yb [none,none] (K9 (Zx (Qn 0) (Zx (Qn 1) Ka))) (Q5v (Q3 (Q4 0) (Q3 (Q4 1) Q9))) Zn X9)) Q9)))
def V4:FN:=Qq Ks 2
theorem Q48:FnScope ["one", "other"] ["one", "other"] (Q8 Km):=⟨rfl,rfl,rfl,by decide +kernel,rfl,by decide +kernel,by decide +kernel⟩
theorem Q4i {f:Addr} {fd:FuncData} (F:Fun K "is_row_within" "is_row_within" Km f fd) (T:Txt mg)   : FnOk P w K mg base (CXD P w) 1 f fd ["one", "other"] (spF mg 2 V4):=by
 refine Qz (k:=0) (m:=Ks) F Q48 rfl rfl rfl fun cdv A outer s H E hr=>?_
 exact (Qd (Qw (Qt (Q8d rfl) rfl T.b_all Q1h (Q1 (Wu (Yg [none,none] ["mine", "its"] rfl (Q44 rfl T.b_zip (Q1 (Q0 0) (Q1 (Q0 1) Q6))) (fun _ _ _ _ _=>(Q2f rfl (W4 (J1 (i:=0) (show (["mine", "its"]:List Str).Nodup by decide +kernel)) (W4 (J1 (i:=1) (show (["mine", "its"]:List Str).Nodup by decide +kernel)) yn)))) (fun _ _ _ _ _=>(Xq Qa1 (Q0 0) (Q0 1))) (fun _ _ _ _ _=>Yz) (Q3t (Um (Um Q3u))))) Q6))))
def je:ME:=(J5 Q8h (Q3 (Q4 0) (Q3 (Q4 1) Q9)))
def xz:MS:=(Jp (J5 Uh (Q3 (Xv (Yb [none,none] (K9 (Zx (Qn 0) (Zx (Qn 1) Ka))) (Q5v (Q3 (Q4 0) (Q3 (Q4 1) Q9))) Zn je)) Q9)))
def Xd:FN:=Qq xz 2
theorem Q8s:FnScope ["one", "other"] ["one", "other"] (Q8 yu):=⟨rfl,rfl,rfl,by decide +kernel,rfl,by decide +kernel,by decide +kernel⟩
theorem Q95 {f:Addr} {fd:FuncData} (F:Fun K "joined_row" "joined_row" yu f fd) (T:Txt mg)   : FnOk P w K mg base (CXD P w) 1 f fd ["one", "other"] (spF mg 2 Xd):=by
 refine Qz (k:=0) (m:=xz) F Q8s rfl rfl rfl fun cdv A outer s H E hr=>?_
 exact (Qd (Qw (K7 yc rfl T.b_tuple Wg (Q1 (Wu (Yg [none,none] ["mine", "its"] rfl (Q44 rfl T.b_zip (Q1 (Q0 0) (Q1 (Q0 1) Q6))) (fun _ _ _ _ _=>(Q2f rfl (W4 (J1 (i:=0) (show (["mine", "its"]:List Str).Nodup by decide +kernel)) (W4 (J1 (i:=1) (show (["mine", "its"]:List Str).Nodup by decide +kernel)) yn)))) (fun _ _ _ _ _=>(Qt (Qbj rfl) rfl T.b_max Q3z (Q1 (Q0 0) (Q1 (Q0 1) Q6)))) (fun _ _ _ _ _=>Yz) (Q3t (Um (Um Q3u))))) Q6))))
def Q2x:ME:=(Qf 2 Xd (Q3 (Q4 0) (Q3 (Q4 1) Q9)))
def Q7n : MS := (Qp (W2 (Qf 2 Jz (Q3 (Q4 0) (Q3 (Q4 1) Q9))))
  (Jp (J5 Uh (Q3 (Xv (Yb [none,none] (K9 (Zx (Qn 0) (Zx (Qn 1) Ka))) (Q5v (Q3 (Q4 0) (Q3 (Q4 1) Q9))) Zn Q2x)) Q9))))
def Q1j:FN:=Qq Q7n 2
theorem Qgd:FnScope ["one", "other"] ["one", "other"] (Q8 Q6v):=⟨rfl,rfl,rfl,by decide +kernel,rfl,by decide +kernel,by decide +kernel⟩
theorem Qgt {f:Addr} {fd:FuncData} (F:Fun K "joined" "joined" Q6v f fd) (T:Txt mg)  (D_need_as_many_houses:DefS P w K mg base 1 "need_as_many_houses" 2 Jz) (D_joined_row:DefS P w K mg base 1 "joined_row" 2 Xd):FnOk P w K mg base (CXD P w) 2 f fd ["one", "other"] (spF mg 2 Q1j):=by
 refine Qz (k:=1) (m:=Q7n) F Qgd rfl rfl rfl fun cdv A outer s H E hr=>?_
 exact (Qb (Y9 (Qg D_need_as_many_houses (hr.mono (by decide)) Qc rfl (Q1 (Q0 0) (Q1 (Q0 1) Q6))))
  (Qd (Qw (K7 yc rfl T.b_tuple Wg (Q1 (Wu (Yg [none,none] ["mine", "its"] rfl (Q44 rfl T.b_zip (Q1 (Q0 0) (Q1 (Q0 1) Q6))) (fun _ _ _ _ _=>(Q2f rfl (W4 (J1 (i:=0) (show (["mine", "its"]:List Str).Nodup by decide +kernel)) (W4 (J1 (i:=1) (show (["mine", "its"]:List Str).Nodup by decide +kernel)) yn)))) (fun _ _ _ _ _=>(Qg D_joined_row (hr.mono (by decide)) Uz rfl (Q1 (Q0 0) (Q1 (Q0 1) Q6)))) (fun _ _ _ _ _=>Yz) (Q3t (Um (Um Q3u))))) Q6)))))
def Wr:ME:=(Qf 1 Wv (Q3 (Q4 0) Q9))
def Vb : MS := (Qp (Ye (Q0m (Vg (toB (Q2u "tuple" (Q4 0)))) (Q0m (toB (mOp oEq (J5 Yp (Q3 (Q4 0) Q9)) (mC (.int 0)))) (Vg (toB (Q2u "str" (mOp oIx (Q4 0) (mC (.int 0)))))))) (Jp (mC (.bl false))) Zy)
  (Jp (J5 (Q27 fun ns=>.bl (ns.all id)) (Q3 (Xv (Yb [none] (Qn 0) (zw (mSl (Q4 0) (zy (mC (.int 1))) X2)) Zn Wr)) Q9))))
def Qj:FN:=Qq Vb 1
theorem yt:FnScope ["thing"] ["thing"] (Q8 V9):=⟨rfl,rfl,rfl,by decide +kernel,rfl,by decide +kernel,by decide +kernel⟩
theorem xx {f:Addr} {fd:FuncData} (F:Fun K "is_text_and_numbers" "is_text_and_numbers" V9 f fd) (T:Txt mg)  (D_is_whole:DefS P w K mg base 1 "is_whole" 1 Wv):FnOk P w K mg base (CXD P w) 2 f fd ["thing"] (spF mg 1 Qj):=by
 refine Qz (k:=1) (m:=Vb) F yt rfl rfl rfl fun cdv A outer s H E hr=>?_
 exact (Qb (Z1 (SimW.t (Q29 (V5 (W0 (Ki (T := "tuple") (by decide) (Q0 0) rfl T.b_isinstance rfl T.b_tuple Wg))) (Q29 (J9 (Wj hr.units) (Qt Yc rfl T.b_len PySem.boot_len (Q1 (Q0 0) Q6)) Qa) (Q0n (V5 (W0 (Ki (T := "str") (by decide) (Qs (Q0 0) Qa) rfl T.b_isinstance rfl T.b_str Q8j))))))) (Qd (Qw Q36)) Zp)
  (Qd (Qw (Qt (Q8d rfl) rfl T.b_all Q1h (Q1 (Wu (Yg [none] ["part"] rfl (Xp (Vy (Q0 0) (Uu Qa) Ky)) (fun _ _ _ _ _=>(J1 (i:=0) (show (["part"]:List Str).Nodup by decide +kernel))) (fun _ _ _ _ _=>(Qg D_is_whole (hr.mono (by decide)) Uz rfl (Q1 (Q0 0) Q6))) (fun _ _ _ _ _=>Yz) Jm)) Q6)))))
def Vq:MS:=(Jp (Q4t (Qf 1 Qj (Q3 (Q4 0) Q9)) (Q4t (mOp oEq (J5 Yp (Q3 (Q4 0) Q9)) (Qei (mOp oIx (Q4 0) (mC (.int 0))))) (mOp (oI fun a b=>.bl (decide (b<=a))) (mOp oIx (Q4 0) (Q4s (mC (.int 1)))) (mC (.int 1))))))
def Yv:FN:=Qq Vq 1
theorem Qe0:FnScope ["thing"] ["thing"] (Q8 Q4a):=⟨rfl,rfl,rfl,by decide +kernel,rfl,by decide +kernel,by decide +kernel⟩
theorem Qe8 {f:Addr} {fd:FuncData} (F:Fun K "is_deed" "is_deed" Q4a f fd) (T:Txt mg) (PK:PartsOk P w K mg)  (D_is_text_and_numbers:DefS P w K mg base 2 "is_text_and_numbers" 1 Qj):FnOk P w K mg base (CXD P w) 3 f fd ["thing"] (spF mg 1 Yv):=by
 refine Qz (k:=2) (m:=Vq) F Qe0 rfl rfl rfl fun cdv A outer s H E hr=>?_
 exact (Qd (Qw (yq (Qg D_is_text_and_numbers (hr.mono (by decide)) Qc rfl (Q1 (Q0 0) Q6)) (yq (Xq (Wj hr.units) (Qt Yc rfl T.b_len PySem.boot_len (Q1 (Q0 0) Q6)) (Qim PK rfl (Qs (Q0 0) Qa))) (Q0r (Xq Qqk (Qs (Q0 0) (Q0s Qa)) Qa))))))
def Yt:ME:=(Qf 2 Yd (Q3 (Q4 1) (Q3 (Q4 0) Q9)))
def Yi : MS := (Qp (Je 2 (mSl (Q4 1) (zy (mC (.int 1))) (zy (Q4s (mC (.int 1))))))
  (Qp (Ye (Vg (toB (J5 (Q27 fun ns=>.bl (ns.all id)) (Q3 (Xv (Yb [none,some 0] (Qn 0) (zw (Q4 2)) Zn Yt)) Q9)))) (Xx "NoHouse" (mC (.str "no house of this table"))) Zy)
  (Ye (Q0d (toB (mOp oEq (mOp oIx (Q4 1) (mC (.int 0))) (mC (.str "lend")))) (toB (mOp oEq (mOp oIx (Q4 2) (mC (.int 0))) (mOp oIx (Q4 2) (mC (.int 1)))))) (Xx "NoHouse" (mC (.str "a house lends nothing to itself"))) Zy)))
def J7:FN:=Qq Yi 3
theorem sc_need_houses_of_deed:FnScope ["table", "deed", "houses"] ["table", "deed"] (Q8 V7):=⟨rfl,rfl,rfl,by decide +kernel,rfl,by decide +kernel,by decide +kernel⟩
theorem xt {f:Addr} {fd:FuncData} (F:Fun K "need_houses_of_deed" "need_houses_of_deed" V7 f fd) (T:Txt mg) (C_NoHouse:∃ C,mg "NoHouse" = some (.ref C)/\PySem.W.excIn K C Ui "ValueError.__new__" = true) (D_is_house:DefS P w K mg base 3 "is_house" 2 Yd):FnOk P w K mg base (CXD P w) 4 f fd ["table", "deed"] (spF mg 2 J7):=by
 refine Qz (k:=3) (m:=Yi) F sc_need_houses_of_deed rfl rfl rfl fun cdv A outer s H E hr=>?_
 exact (Qb (Qx 2 sc_need_houses_of_deed.nd (Vy (Q0 1) (Uu Qa) (Uu (Q0s Qa))))
  (Qb (Z1 (V5 (W0 (Qt (Q8d rfl) rfl T.b_all Q1h (Q1 (Wu (Yg [none,some 0] ["house", "table"] rfl (Xp (Q0 2)) (fun _ _ _ _ _=>(J1 (i:=0) (show (["house", "table"]:List Str).Nodup by decide +kernel))) (fun _ _ _ _ _=>(Qg D_is_house (hr.mono (by decide)) Uz rfl (Q1 (Q0 1) (Q1 (Q0 0) Q6)))) (fun _ _ _ _ _=>Yz) Jm)) Q6)))) (Qd (Vh rfl Wy rfl C_NoHouse.choose_spec.1 C_NoHouse.choose_spec.2 J0)) Zp)
  (Qd (Z1 (SimW.t (Q6i (J9 (Wj hr.units) (Qs (Q0 1) Qa) J0) (Q32 (J9 (Wj hr.units) (Qs (Q0 2) Qa) (Qs (Q0 2) Qa))))) (Qd (Vh rfl Wy rfl C_NoHouse.choose_spec.1 C_NoHouse.choose_spec.2 J0)) Zp))))
def Vk : MS := (Qp (Ye (toB (mOp oEq (mOp oIx (Q4 1) (mC (.int 0))) (mC (.str "make")))) (Jp (mOp oIx (Q4 1) (mC (.int 1)))) Zy)
  (Qp (Ye (toB (mOp oEq (mOp oIx (Q4 1) (mC (.int 0))) (mC (.str "lend")))) (Jp (mOp oIx (Q4 1) (mC (.int 2)))) Zy)
  (Jp (J5 Yp (Q3 (Q4 0) Q9)))))
def W6:FN:=Qq Vk 2
theorem Q5g:FnScope ["table", "deed"] ["table", "deed"] (Q8 qv):=⟨rfl,rfl,rfl,by decide +kernel,rfl,by decide +kernel,by decide +kernel⟩
theorem Q5k {f:Addr} {fd:FuncData} (F:Fun K "place_in_row" "place_in_row" qv f fd) (T:Txt mg)   : FnOk P w K mg base (CXD P w) 1 f fd ["table", "deed"] (spF mg 2 W6):=by
 refine Qz (k:=0) (m:=Vk) F Q5g rfl rfl rfl fun cdv A outer s H E hr=>?_
 exact (Qb (Z1 (J9 (Wj hr.units) (Qs (Q0 1) Qa) J0) (Qd (Qw (Qs (Q0 1) Qa))) Zp)
  (Qb (Z1 (J9 (Wj hr.units) (Qs (Q0 1) Qa) J0) (Qd (Qw (Qs (Q0 1) Qa))) Zp)
  (Qd (Qw (Qt Yc rfl T.b_len PySem.boot_len (Q1 (Q0 0) Q6))))))
def Q7k : MS := (Qp (Je 4 (mOp oIx (Q4 0) (Q4 1)))
  (Qp (Je 5 (mOp We (mOp We (mSl (Q4 4) X2 (zy (Q4 2))) (Xn (Q3 (mOp We (mOp oIx (Q4 4) (Q4 2)) (Q4 3)) Q9))) (mSl (Q4 4) (zy (mOp We (Q4 2) (mC (.int 1)))) X2)))
  (Jp (mOp We (mOp We (mSl (Q4 0) X2 (zy (Q4 1))) (Xn (Q3 (Q4 5) Q9))) (mSl (Q4 0) (zy (mOp We (Q4 1) (mC (.int 1)))) X2)))))
def Q1i:FN:=Qq Q7k 6
theorem sc_raised:FnScope ["table", "house", "place", "k", "row", "higher"] ["table", "house", "place", "k"] (Q8 Q6t):=⟨rfl,rfl,rfl,by decide +kernel,rfl,by decide +kernel,by decide +kernel⟩
theorem Qgr {f:Addr} {fd:FuncData} (F:Fun K "raised" "raised" Q6t f fd) (T:Txt mg)   : FnOk P w K mg base (CXD P w) 1 f fd ["table", "house", "place", "k"] (spF mg 4 Q1i):=by
 refine Qz (k:=0) (m:=Q7k) F sc_raised rfl rfl rfl fun cdv A outer s H E hr=>?_
 exact (Qb (Qx 4 sc_raised.nd (Qs (Q0 0) (Q0 1)))
  (Qb (Qx 5 sc_raised.nd (Ja Zq (Ja Zq (Vy (Q0 4) Ky (Uu (Q0 2))) (V6 (Q1 (Ja Zq (Qs (Q0 4) (Q0 2)) (Q0 3)) Q6))) (Vy (Q0 4) (Uu (Ja Zq (Q0 2) Qa)) Ky)))
  (Qd (Qw (Ja Zq (Ja Zq (Vy (Q0 0) Ky (Uu (Q0 1))) (V6 (Q1 (Q0 5) Q6))) (Vy (Q0 0) (Uu (Ja Zq (Q0 1) Qa)) Ky))))))
def Q7q : MS := (Qp (Ye (Vg (toB (Qf 1 Yv (Q3 (Q4 1) Q9)))) (Xx "NoDeed" (mC (.str "neither a making nor a lending nor a using of one right or more"))) Zy)
  (Qp (W2 (Qf 2 J7 (Q3 (Q4 0) (Q3 (Q4 1) Q9))))
  (Qp (Je 2 (mOp oIx (Q4 1) (mC (.int 1))))
  (Qp (Je 3 (mOp oIx (Q4 1) (Q4s (mC (.int 1)))))
  (Qp (Ye (toB (mOp oNe (mOp oIx (Q4 1) (mC (.int 0))) (mC (.str "make")))) (Qp (Je 4 (Qf 2 U3 (Q3 (Q4 0) (Q3 (Q4 2) Q9))))
  (Ye (toB (mOp oLt (Q4 4) (Q4 3))) (Qb7 "Short" "had" (Q4 4)) Zy)) Zy)
  (Jp (Qf 4 Q1i (Q3 (Q4 0) (Q3 (Q4 2) (Q3 (Qf 2 W6 (Q3 (Q4 0) (Q3 (Q4 1) Q9))) (Q3 (Q4 3) Q9)))))))))))
def jj:FN:=Qq Q7q 5
theorem sc_done:FnScope ["table", "deed", "house", "k", "had"] ["table", "deed"] (Q8 Qe1):=⟨rfl,rfl,rfl,by decide +kernel,rfl,by decide +kernel,by decide +kernel⟩
theorem Qnz {f:Addr} {fd:FuncData} (F:Fun K "done" "done" Qe1 f fd) (T:Txt mg) (O_Short:ShortS P w K mg base) (C_NoDeed:∃ C,mg "NoDeed" = some (.ref C)/\PySem.W.excIn K C Ui "ValueError.__new__" = true) (D_is_deed:DefS P w K mg base 3 "is_deed" 1 Yv) (D_need_houses_of_deed:DefS P w K mg base 4 "need_houses_of_deed" 2 J7) (D_rights_tables:DefS P w K mg base 4 "rights_tables" 2 U3) (D_raised:DefS P w K mg base 1 "raised" 4 Q1i) (D_place_in_row:DefS P w K mg base 1 "place_in_row" 2 W6):FnOk P w K mg base (CXD P w) 5 f fd ["table", "deed"] (spF mg 2 jj):=by
 obtain ⟨cShort,wShort,fShort,fdShort,MShort,IShort,bShort,mShort⟩:=O_Short.ex;refine Qz (k:=4) (m:=Q7q) F sc_done rfl rfl rfl fun cdv A outer s H E hr=>?_
 exact (Qb (Z1 (V5 (W0 (Qg D_is_deed (hr.mono (by decide)) Qc rfl (Q1 (Q0 1) Q6)))) (Qd (Vh rfl Wy rfl C_NoDeed.choose_spec.1 C_NoDeed.choose_spec.2 J0)) Zp)
  (Qb (Y9 (Qg D_need_houses_of_deed (hr.mono (by decide)) Qc rfl (Q1 (Q0 0) (Q1 (Q0 1) Q6))))
  (Qb (Qx 2 sc_done.nd (Qs (Q0 1) Qa))
  (Qb (Qx 3 sc_done.nd (Qs (Q0 1) (Q0s Qa)))
  (Qb (Z1 (J9 (Q59 hr.units) (Qs (Q0 1) Qa) J0) (Qb (Qx 4 sc_done.nd (Qg D_rights_tables (hr.mono (by decide)) Qc rfl (Q1 (Q0 0) (Q1 (Q0 2) Q6))))
  (Qd (Z1 (J9 (Q3d hr.units) (Q0 4) (Q0 3)) (Qd (Qg7 rfl Wy MShort IShort (hr.mono (by decide)) bShort rfl mShort (Q0 4))) Zp))) Zp)
  (Qd (Qw (Qg D_raised (hr.mono (by decide)) Qc rfl (Q1 (Q0 0) (Q1 (Q0 2) (Q1 (Qg D_place_in_row (hr.mono (by decide)) Qc rfl (Q1 (Q0 0) (Q1 (Q0 1) Q6))) (Q1 (Q0 3) Q6))))))))))))
def Q14:MS:=(Jp (mOp (oI fun a b=>.bl (decide (b < a))) (mOp oIx (mOp oIx (Q4 0) (Q4 1)) (Q4 1)) (mC (.int 0))))
def Kb:FN:=Qq Q14 2
theorem Qav:FnScope ["table", "house"] ["table", "house"] (Q8 Q0t):=⟨rfl,rfl,rfl,by decide +kernel,rfl,by decide +kernel,by decide +kernel⟩
theorem Qb4 {f:Addr} {fd:FuncData} (F:Fun K "made_some" "made_some" Q0t f fd) (T:Txt mg)   : FnOk P w K mg base (CXD P w) 1 f fd ["table", "house"] (spF mg 2 Kb):=by
 refine Qz (k:=0) (m:=Q14) F Qav rfl rfl rfl fun cdv A outer s H E hr=>?_
 exact (Qd (Qw (Xq Q75 (Qs (Qs (Q0 0) (Q0 1)) (Q0 1)) Qa)))
def Vv : MS := (Qp (Je 2 (mOp oIx (Q4 0) (Q4 1)))
  (Jp (mOp (oI fun a b=>.bl (decide (b < a))) (J5 (Xb fun ns=>some (.int ns.sum)) (Q3 (Q4 2) Q9)) (mOp oIx (Q4 2) (Q4 1)))))
def Yy:FN:=Qq Vv 3
theorem sc_lent_or_used_some:FnScope ["table", "house", "row"] ["table", "house"] (Q8 Vt):=⟨rfl,rfl,rfl,by decide +kernel,rfl,by decide +kernel,by decide +kernel⟩
theorem Q11 {f:Addr} {fd:FuncData} (F:Fun K "lent_or_used_some" "lent_or_used_some" Vt f fd) (T:Txt mg)   : FnOk P w K mg base (CXD P w) 1 f fd ["table", "house"] (spF mg 2 Yy):=by
 refine Qz (k:=0) (m:=Vv) F sc_lent_or_used_some rfl rfl rfl fun cdv A outer s H E hr=>?_
 exact (Qb (Qx 2 sc_lent_or_used_some.nd (Qs (Q0 0) (Q0 1)))
  (Qd (Qw (Xq Q75 (Qt (Q8c rfl) rfl T.b_sum Q1g (Q1 (Q0 2) Q6)) (Qs (Q0 2) (Q0 1))))))
def X6:ME:=(mOp (oI fun a b=>.bl (decide (b < a))) (mOp oIx (mOp oIx (Q4 2) (Q4 0)) (Q4 1)) (mC (.int 0)))
def Ur:MT:=(toB (mOp oNe (Q4 0) (Q4 1)))
def Kr:MS:=(Jp (J5 (Q27 fun ns=>.bl (ns.any id)) (Q3 (Xv (Yb [none,some 1,some 0] (Qn 0) (zw (Q4 2)) Ur X6)) Q9)))
def V3:FN:=Qq Kr 3
theorem Q47:FnScope ["table", "house", "lenders"] ["table", "house", "lenders"] (Q8 Kj):=⟨rfl,rfl,rfl,by decide +kernel,rfl,by decide +kernel,by decide +kernel⟩
theorem Q4g {f:Addr} {fd:FuncData} (F:Fun K "was_lent_some" "was_lent_some" Kj f fd) (T:Txt mg)   : FnOk P w K mg base (CXD P w) 1 f fd ["table", "house", "lenders"] (spF mg 3 V3):=by
 refine Qz (k:=0) (m:=Kr) F Q47 rfl rfl rfl fun cdv A outer s H E hr=>?_
 exact (Qd (Qw (Qt (Qkn rfl) rfl T.b_any Qdi (Q1 (Wu (Yg [none,some 1,some 0] ["lender", "house", "table"] rfl (Xp (Q0 2)) (fun _ _ _ _ _=>(J1 (i:=0) (show (["lender", "house", "table"]:List Str).Nodup by decide +kernel))) (fun _ _ _ _ _=>(Xq Q75 (Qs (Qs (Q0 2) (Q0 0)) (Q0 1)) Qa)) (fun _ _ _ _ _=>(yj (J9 (Q59 hr.units) (Q0 0) (Q0 1)))) Jm)) Q6))))
def Q01:MS:=(Jp (mOr (Qf 2 Kb (Q3 (Q4 0) (Q3 (Q4 1) Q9))) (Qf 3 V3 (Q3 (Q4 0) (Q3 (Q4 1) (Q3 (Q4 2) Q9))))))
def K2:FN:=Qq Q01 3
theorem Qc6:FnScope ["table", "house", "ahead"] ["table", "house", "ahead"] (Q8 Q2k):=⟨rfl,rfl,rfl,by decide +kernel,rfl,by decide +kernel,by decide +kernel⟩
theorem Qcn {f:Addr} {fd:FuncData} (F:Fun K "has_root" "has_root" Q2k f fd) (T:Txt mg)  (D_made_some:DefS P w K mg base 1 "made_some" 2 Kb) (D_was_lent_some:DefS P w K mg base 1 "was_lent_some" 3 V3):FnOk P w K mg base (CXD P w) 2 f fd ["table", "house", "ahead"] (spF mg 3 K2):=by
 refine Qz (k:=1) (m:=Q01) F Qc6 rfl rfl rfl fun cdv A outer s H E hr=>?_
 exact (Qd (Qw (Que (Qg D_made_some (hr.mono (by decide)) Qc rfl (Q1 (Q0 0) (Q1 (Q0 1) Q6))) (Q0r (Qg D_was_lent_some (hr.mono (by decide)) Qc rfl (Q1 (Q0 0) (Q1 (Q0 1) (Q1 (Q0 2) Q6))))))))
def X8:ME:=(Q4 0)
def Vd:MT:=(toB (mOp (oIn true) (Q4 0) (Q4 1)))
def X7:ME:=(Q4 0)
def Us:MT:=(toB (Qf 3 K2 (Q3 (Q4 1) (Q3 (Q4 0) (Q3 (Q4 2) Q9)))))
def Vf : MS := (Qp (Je 3 (Xv (Yb [none, some 1] (Qn 0) (Ys (Q3 (J5 Yp (Q3 (Q4 0) Q9)) Q9)) Vd X8)))
  (Qp (Je 4 (Xv (Yb [none,some 0,some 1] (Qn 0) (zw (Q4 3)) Us X7)))
  (Qp (W2 (mBM Q13 (Q4 1) (Q3 (Q4 4) Q9)))
  (Je 2 (mOp (oI fun a b=>.bl (decide (b < a))) (J5 Yp (Q3 (Q4 4) Q9)) (mC (.int 0)))))))
def Yq:MT:=(toB (Q4 2))
def V0 : MS := (Qp (Je 1 (Q0i (jq Q9)))
  (Qp (Je 2 (mC (.bl true)))
  (Qp (Kf Yq Vf 100000)
  (Jp (Q4 1)))))
def W8:FN:=Qq V0 5
theorem sc_rooted_houses:FnScope ["table", "roots", "grows", "others", "found"] ["table"] (Q8 Kk):=⟨rfl,rfl,rfl,by decide +kernel,rfl,by decide +kernel,by decide +kernel⟩
theorem Q4h {f:Addr} {fd:FuncData} (F:Fun K "rooted_houses" "rooted_houses" Kk f fd) (T:Txt mg)  (D_has_root:DefS P w K mg base 2 "has_root" 3 K2):FnOk P w K mg base (CXD P w) 3 f fd ["table"] (spF mg 1 W8):=by
 refine Qz (k:=2) (m:=V0) F sc_rooted_houses rfl rfl rfl fun cdv A outer s H E hr=>?_
 exact (Qb (Qx 1 sc_rooted_houses.nd (Kh (ym Q6)))
  (Qb (Qx 2 sc_rooted_houses.nd Q36)
  (Qb (Qc2 100000 PassesOwn.leaving (W0 (Q0 2)) (Qb (by first | exact Q33 [none,some 1] ["house", "roots"] 3 sc_rooted_houses.nd rfl (Yr rfl T.b_range (Q1 (Qt Yc rfl T.b_len PySem.boot_len (Q1 (Q0 0) Q6)) Q6)) (fun _ _ _ _ _=>(J1 (i:=0) (show (["house", "roots"]:List Str).Nodup by decide +kernel))) (fun _ _ _ _ _=>(Q0 0)) (fun _ _ _ _ _=>(yj (J9 (Q3c hr.units) (Q0 0) (Q0 1)))) Jm | exact Qx 3 sc_rooted_houses.nd (Wu (Yg [none,some 1] ["house", "roots"] rfl (Yr rfl T.b_range (Q1 (Qt Yc rfl T.b_len PySem.boot_len (Q1 (Q0 0) Q6)) Q6)) (fun _ _ _ _ _=>(J1 (i:=0) (show (["house", "roots"]:List Str).Nodup by decide +kernel))) (fun _ _ _ _ _=>(Q0 0)) (fun _ _ _ _ _=>(yj (J9 (Q3c hr.units) (Q0 0) (Q0 1)))) Jm)))
  (Qb (by first | exact Q33 [none,some 0,some 1] ["house", "table", "roots"] 4 sc_rooted_houses.nd rfl (Xp (Q0 3)) (fun _ _ _ _ _=>(J1 (i:=0) (show (["house", "table", "roots"]:List Str).Nodup by decide +kernel))) (fun _ _ _ _ _=>(Q0 0)) (fun _ _ _ _ _=>(yj (W0 (Qg D_has_root (hr.mono (by decide)) Uz rfl (Q1 (Q0 1) (Q1 (Q0 0) (Q1 (Q0 2) Q6))))))) Jm | exact Qx 4 sc_rooted_houses.nd (Wu (Yg [none,some 0,some 1] ["house", "table", "roots"] rfl (Xp (Q0 3)) (fun _ _ _ _ _=>(J1 (i:=0) (show (["house", "table", "roots"]:List Str).Nodup by decide +kernel))) (fun _ _ _ _ _=>(Q0 0)) (fun _ _ _ _ _=>(yj (W0 (Qg D_has_root (hr.mono (by decide)) Uz rfl (Q1 (Q0 1) (Q1 (Q0 0) (Q1 (Q0 2) Q6))))))) Jm)))
  (Qb (Y9 (Qgb (Q0 1) (Q1 (Q0 4) Q6)))
  (Qd (Qx 2 sc_rooted_houses.nd (Xq Q75 (Qt Yc rfl T.b_len PySem.boot_len (Q1 (Q0 4) Q6)) Qa)))))))
  (Qd (Qw (Q0 1))))))
def Vx:ME:=(Q4 0)
def Wk:MT:=(toB (mOp (oIn true) (Q4 0) (Q4 1)))
def Vw:ME:=(Qf 2 Yy (Q3 (Q4 1) (Q3 (Q4 0) Q9)))
def Ve : MS := (Qp (Je 1 (Qf 1 W8 (Q3 (Q4 0) Q9)))
  (Qp (Je 2 (Xv (Yb [none,some 1] (Qn 0) (Ys (Q3 (J5 Yp (Q3 (Q4 0) Q9)) Q9)) Wk Vx)))
  (Qp (Ye (toB (J5 (Q27 fun ns=>.bl (ns.any id)) (Q3 (Xv (Yb [none,some 0] (Qn 0) (zw (Q4 2)) Zn Vw)) Q9))) (Jp (Q4 2)) Zy)
  (Jp (Q3p Q9)))))
def Yu:FN:=Qq Ve 3
theorem sc_rootless_houses:FnScope ["table", "roots", "others"] ["table"] (Q8 Uw):=⟨rfl,rfl,rfl,by decide +kernel,rfl,by decide +kernel,by decide +kernel⟩
theorem Q2p {f:Addr} {fd:FuncData} (F:Fun K "rootless_houses" "rootless_houses" Uw f fd) (T:Txt mg)  (D_rooted_houses:DefS P w K mg base 3 "rooted_houses" 1 W8) (D_lent_or_used_some:DefS P w K mg base 1 "lent_or_used_some" 2 Yy):FnOk P w K mg base (CXD P w) 4 f fd ["table"] (spF mg 1 Yu):=by
 refine Qz (k:=3) (m:=Ve) F sc_rootless_houses rfl rfl rfl fun cdv A outer s H E hr=>?_
 exact (Qb (Qx 1 sc_rootless_houses.nd (Qg D_rooted_houses (hr.mono (by decide)) Qc rfl (Q1 (Q0 0) Q6)))
  (Qb (by first | exact Q33 [none,some 1] ["house", "roots"] 2 sc_rootless_houses.nd rfl (Yr rfl T.b_range (Q1 (Qt Yc rfl T.b_len PySem.boot_len (Q1 (Q0 0) Q6)) Q6)) (fun _ _ _ _ _=>(J1 (i:=0) (show (["house", "roots"]:List Str).Nodup by decide +kernel))) (fun _ _ _ _ _=>(Q0 0)) (fun _ _ _ _ _=>(yj (J9 (Q3c hr.units) (Q0 0) (Q0 1)))) Jm | exact Qx 2 sc_rootless_houses.nd (Wu (Yg [none,some 1] ["house", "roots"] rfl (Yr rfl T.b_range (Q1 (Qt Yc rfl T.b_len PySem.boot_len (Q1 (Q0 0) Q6)) Q6)) (fun _ _ _ _ _=>(J1 (i:=0) (show (["house", "roots"]:List Str).Nodup by decide +kernel))) (fun _ _ _ _ _=>(Q0 0)) (fun _ _ _ _ _=>(yj (J9 (Q3c hr.units) (Q0 0) (Q0 1)))) Jm)))
  (Qb (Z1 (W0 (Qt (Qkn rfl) rfl T.b_any Qdi (Q1 (Wu (Yg [none,some 0] ["house", "table"] rfl (Xp (Q0 2)) (fun _ _ _ _ _=>(J1 (i:=0) (show (["house", "table"]:List Str).Nodup by decide +kernel))) (fun _ _ _ _ _=>(Qg D_lent_or_used_some (hr.mono (by decide)) Uz rfl (Q1 (Q0 1) (Q1 (Q0 0) Q6)))) (fun _ _ _ _ _=>Yz) Jm)) Q6))) (Qd (Qw (Q0 2))) Zp)
  (Qd (Qw (Q46 Q6))))))
def U9:MS:=(Ye (toB (mOp oLt (Qf 2 U3 (Q3 (Q4 0) (Q3 (Q4 1) Q9))) (mC (.int 0)))) (Jp (Xn (Q3 (mC (.str "short")) (Q3 (Q4 1) Q9)))) Zy)
def U0 : MS := (Qp (Q7r (Qn 1) (Ys (Q3 (J5 Yp (Q3 (Q4 0) Q9)) Q9)) U9)
  (Qp (Je 2 (Qf 1 Yu (Q3 (Q4 0) Q9)))
  (Qp (Ye (toB (mOp (oI fun a b=>.bl (decide (b < a))) (J5 Yp (Q3 (Q4 2) Q9)) (mC (.int 0)))) (Jp (Xn (Q3 (mC (.str "rootless")) (Q3 (Q4 2) Q9)))) Zy)
  (Jp (Xn (Q3 (mC (.str "comes")) (Q3 (Qf 1 W8 (Q3 (Q4 0) Q9)) Q9)))))))
def Wi:FN:=Qq U0 3
theorem sc_comes_about:FnScope ["table", "house", "rootless"] ["table"] (Q8 jv):=⟨rfl,rfl,rfl,by decide +kernel,rfl,by decide +kernel,by decide +kernel⟩
theorem Q77 {f:Addr} {fd:FuncData} (F:Fun K "comes_about" "comes_about" jv f fd) (T:Txt mg)  (D_rights_tables:DefS P w K mg base 4 "rights_tables" 2 U3) (D_rootless_houses:DefS P w K mg base 4 "rootless_houses" 1 Yu) (D_rooted_houses:DefS P w K mg base 3 "rooted_houses" 1 W8):FnOk P w K mg base (CXD P w) 5 f fd ["table"] (spF mg 1 Wi):=by
 refine Qz (k:=4) (m:=U0) F sc_comes_about rfl rfl rfl fun cdv A outer s H E hr=>?_
 exact (Qb (Q0p PassesOwn.leaving rfl (Yr rfl T.b_range (Q1 (Qt Yc rfl T.b_len PySem.boot_len (Q1 (Q0 0) Q6)) Q6)) (J1 (i:=1) sc_comes_about.nd) (Qd (Z1 (J9 (Q3d hr.units) (Qg D_rights_tables (hr.mono (by decide)) Qc rfl (Q1 (Q0 0) (Q1 (Q0 1) Q6))) Qa) (Qd (Qw (V6 (Q1 J0 (Q1 (Q0 1) Q6))))) Zp)))
  (Qb (Qx 2 sc_comes_about.nd (Qg D_rootless_houses (hr.mono (by decide)) Qc rfl (Q1 (Q0 0) Q6)))
  (Qb (Z1 (J9 Q75 (Qt Yc rfl T.b_len PySem.boot_len (Q1 (Q0 2) Q6)) Qa) (Qd (Qw (V6 (Q1 J0 (Q1 (Q0 2) Q6))))) Zp)
  (Qd (Qw (V6 (Q1 J0 (Q1 (Qg D_rooted_houses (hr.mono (by decide)) Qc rfl (Q1 (Q0 0) Q6)) Q6))))))))
def X0:MS:=(Jp (Q4t (Qf 1 ji (Q3 (Q4 0) Q9)) (mOp oEq (mOp oIx (Qf 1 Wi (Q3 (Q4 0) Q9)) (mC (.int 0))) (mC (.str "comes")))))
def Wd:FN:=Qq X0 1
theorem Q2g:FnScope ["thing"] ["thing"] (Q8 Ux):=⟨rfl,rfl,rfl,by decide +kernel,rfl,by decide +kernel,by decide +kernel⟩
theorem Q2q {f:Addr} {fd:FuncData} (F:Fun K "does_come_about" "does_come_about" Ux f fd) (T:Txt mg)  (D_is_table:DefS P w K mg base 3 "is_table" 1 ji) (D_comes_about:DefS P w K mg base 5 "comes_about" 1 Wi):FnOk P w K mg base (CXD P w) 6 f fd ["thing"] (spF mg 1 Wd):=by
 refine Qz (k:=5) (m:=X0) F Q2g rfl rfl rfl fun cdv A outer s H E hr=>?_
 exact (Qd (Qw (yq (Qg D_is_table (hr.mono (by decide)) Qc rfl (Q1 (Q0 0) Q6)) (Q0r (Xq (Wj hr.units) (Qs (Qg D_comes_about (hr.mono (by decide)) Qc rfl (Q1 (Q0 0) Q6)) Qa) J0)))))
def Ug:MS:=(Ye (Vg (toB (Qf 1 Wd (Q3 (Q4 0) Q9)))) (Xx "NoTable" (mC (.str "no table that comes about"))) Zy)
def Y8:FN:=Qq Ug 1
theorem Q22:FnScope ["thing"] ["thing"] (Q8 Ud):=⟨rfl,rfl,rfl,by decide +kernel,rfl,by decide +kernel,by decide +kernel⟩
theorem Q26 {f:Addr} {fd:FuncData} (F:Fun K "need_comes_about" "need_comes_about" Ud f fd) (T:Txt mg) (C_NoTable:∃ C,mg "NoTable" = some (.ref C)/\PySem.W.excIn K C Ui "ValueError.__new__" = true) (D_does_come_about:DefS P w K mg base 6 "does_come_about" 1 Wd):FnOk P w K mg base (CXD P w) 7 f fd ["thing"] (spF mg 1 Y8):=by
 refine Qz (k:=6) (m:=Ug) F Q22 rfl rfl rfl fun cdv A outer s H E hr=>?_
 exact (Qd (Z1 (V5 (W0 (Qg D_does_come_about (hr.mono (by decide)) Qc rfl (Q1 (Q0 0) Q6)))) (Qd (Vh rfl Wy rfl C_NoTable.choose_spec.1 C_NoTable.choose_spec.2 J0)) Zp))
def Xu (C : Addr) : MS := (Qp (W2 (Qf 1 Y8 (Q3 (Q4 2) Q9)))
  (Qp (Ye (Vg (toB (Qf 2 Yd (Q3 (Q4 2) (Q3 (Q4 1) Q9))))) (Xx "NoHouse" (mC (.str "no house of this table"))) Zy)
  (Qp (zx C "number" (Q4 0) (Q4 1))
  (Qp (zx C "now" (Q4 0) (Q4 2))
  (zx C "kept" (Q4 0) (Q4 2))))))
def W3 (C:Addr):FN:=Yj (Xu C) 3
theorem Q37:FnScope ["self", "number", "table"] ["self", "number", "table"] (Q8 Xr):=⟨rfl,rfl,rfl,by decide +kernel,rfl,by decide +kernel,by decide +kernel⟩
theorem Q3e {f:Addr} {fd:FuncData} {C:Addr} (F:Fun K "__init__" "House.__init__" Xr f fd) (T:Txt mg) (TC:ClsT K C) (C_NoHouse:∃ C,mg "NoHouse" = some (.ref C)/\PySem.W.excIn K C Ui "ValueError.__new__" = true) (D_need_comes_about:DefS P w K mg base 7 "need_comes_about" 1 Y8) (D_is_house:DefS P w K mg base 3 "is_house" 2 Yd):FnOk P w K mg base (CXD P w) 8 f fd ["self", "number", "table"] (spF mg 3 (W3 C)):=by
 refine Wc (k:=7) (m:=(Xu C)) F Q37 rfl rfl rfl fun cdv A outer s H E hr=>?_
 exact (Qb (Y9 (Qg D_need_comes_about (hr.mono (by decide)) Qc rfl (Q1 (Q0 2) Q6)))
  (Qb (Z1 (V5 (W0 (Qg D_is_house (hr.mono (by decide)) Qc rfl (Q1 (Q0 2) (Q1 (Q0 1) Q6))))) (Qd (Vh rfl Wy rfl C_NoHouse.choose_spec.1 C_NoHouse.choose_spec.2 J0)) Zp)
  (Qb (yk TC.cl TC.n_number (Q0 1) (Q0 0))
  (Qb (yk TC.cl TC.n_now (Q0 2) (Q0 0))
  (Qd (yk TC.cl TC.n_kept (Q0 2) (Q0 0)))))))
def qd (C:Addr):MS:=(zx C "now" (Q4 0) (Qf 2 jj (Q3 (Vr C "now" (Q4 0)) (Q3 (Xn (Q3 (mC (.str "make")) (Q3 (Vr C "number" (Q4 0)) (Q3 (Q4 1) Q9)))) Q9))))
def Xg (C:Addr):FN:=Yj (qd C) 2
theorem Q8x:FnScope ["self", "k"] ["self", "k"] (Q8 xh):=⟨rfl,rfl,rfl,by decide +kernel,rfl,by decide +kernel,by decide +kernel⟩
theorem Q9d {f:Addr} {fd:FuncData} {C:Addr} (F:Fun K "make" "House.make" xh f fd) (T:Txt mg) (TC:ClsT K C)  (D_done:DefS P w K mg base 5 "done" 2 jj):FnOk P w K mg base (CXD P w) 6 f fd ["self", "k"] (spF mg 2 (Xg C)):=by
 refine Wc (k:=5) (m:=(qd C)) F Q8x rfl rfl rfl fun cdv A outer s H E hr=>?_
 exact (Qd (yk TC.cl TC.n_now (Qg D_done (hr.mono (by decide)) Qc rfl (Q1 (Vi TC.cl TC.n_now (Q0 0)) (Q1 (V6 (Q1 J0 (Q1 (Vi TC.cl TC.n_number (Q0 0)) (Q1 (Q0 1) Q6)))) Q6))) (Q0 0)))
def qe (C:Addr):MS:=(zx C "now" (Q4 0) (Qf 2 jj (Q3 (Vr C "now" (Q4 0)) (Q3 (Xn (Q3 (mC (.str "lend")) (Q3 (Vr C "number" (Q4 0)) (Q3 (Q4 1) (Q3 (Q4 2) Q9))))) Q9))))
def Xh (C:Addr):FN:=Yj (qe C) 3
theorem Q8y:FnScope ["self", "to", "k"] ["self", "to", "k"] (Q8 xi):=⟨rfl,rfl,rfl,by decide +kernel,rfl,by decide +kernel,by decide +kernel⟩
theorem Q9e {f:Addr} {fd:FuncData} {C:Addr} (F:Fun K "lend" "House.lend" xi f fd) (T:Txt mg) (TC:ClsT K C)  (D_done:DefS P w K mg base 5 "done" 2 jj):FnOk P w K mg base (CXD P w) 6 f fd ["self", "to", "k"] (spF mg 3 (Xh C)):=by
 refine Wc (k:=5) (m:=(qe C)) F Q8y rfl rfl rfl fun cdv A outer s H E hr=>?_
 exact (Qd (yk TC.cl TC.n_now (Qg D_done (hr.mono (by decide)) Qc rfl (Q1 (Vi TC.cl TC.n_now (Q0 0)) (Q1 (V6 (Q1 J0 (Q1 (Vi TC.cl TC.n_number (Q0 0)) (Q1 (Q0 1) (Q1 (Q0 2) Q6))))) Q6))) (Q0 0)))
def jp (C:Addr):MS:=(zx C "now" (Q4 0) (Qf 2 jj (Q3 (Vr C "now" (Q4 0)) (Q3 (Xn (Q3 (mC (.str "use")) (Q3 (Vr C "number" (Q4 0)) (Q3 (Q4 1) Q9)))) Q9))))
def Kc (C:Addr):FN:=Yj (jp C) 2
theorem Qaw:FnScope ["self", "k"] ["self", "k"] (Q8 Q0v):=⟨rfl,rfl,rfl,by decide +kernel,rfl,by decide +kernel,by decide +kernel⟩
theorem Qb6 {f:Addr} {fd:FuncData} {C:Addr} (F:Fun K "use" "House.use" Q0v f fd) (T:Txt mg) (TC:ClsT K C)  (D_done:DefS P w K mg base 5 "done" 2 jj):FnOk P w K mg base (CXD P w) 6 f fd ["self", "k"] (spF mg 2 (Kc C)):=by
 refine Wc (k:=5) (m:=(jp C)) F Qaw rfl rfl rfl fun cdv A outer s H E hr=>?_
 exact (Qd (yk TC.cl TC.n_now (Qg D_done (hr.mono (by decide)) Qc rfl (Q1 (Vi TC.cl TC.n_now (Q0 0)) (Q1 (V6 (Q1 J0 (Q1 (Vi TC.cl TC.n_number (Q0 0)) (Q1 (Q0 1) Q6)))) Q6))) (Q0 0)))
def qf (C:Addr):MS:=(zx C "kept" (Q4 0) (Vr C "now" (Q4 0)))
def Xi (C:Addr):FN:=Yj (qf C) 1
theorem Q8z:FnScope ["self"] ["self"] (Q8 xj):=⟨rfl,rfl,rfl,by decide +kernel,rfl,by decide +kernel,by decide +kernel⟩
theorem Q9f {f:Addr} {fd:FuncData} {C:Addr} (F:Fun K "keep" "House.keep" xj f fd) (T:Txt mg) (TC:ClsT K C)   : FnOk P w K mg base (CXD P w) 1 f fd ["self"] (spF mg 1 (Xi C)):=by
 refine Wc (k:=0) (m:=(qf C)) F Q8z rfl rfl rfl fun cdv A outer s H E hr=>?_
 exact (Qd (yk TC.cl TC.n_kept (Vi TC.cl TC.n_now (Q0 0)) (Q0 0)))
def qg (C:Addr):MS:=(zx C "now" (Q4 0) (Vr C "kept" (Q4 0)))
def Xj (C:Addr):FN:=Yj (qg C) 1
theorem Q90:FnScope ["self"] ["self"] (Q8 xk):=⟨rfl,rfl,rfl,by decide +kernel,rfl,by decide +kernel,by decide +kernel⟩
theorem Q9g {f:Addr} {fd:FuncData} {C:Addr} (F:Fun K "fall" "House.fall" xk f fd) (T:Txt mg) (TC:ClsT K C)   : FnOk P w K mg base (CXD P w) 1 f fd ["self"] (spF mg 1 (Xj C)):=by
 refine Wc (k:=0) (m:=(qg C)) F Q90 rfl rfl rfl fun cdv A outer s H E hr=>?_
 exact (Qd (yk TC.cl TC.n_now (Vi TC.cl TC.n_kept (Q0 0)) (Q0 0)))
def X1 (C:Addr):MS:=(Jp (Vr C "kept" (Q4 0)))
def Ws (C:Addr):FN:=Qq (X1 C) 1
theorem Q5i:FnScope ["self"] ["self"] (Q8 j6):=⟨rfl,rfl,rfl,by decide +kernel,rfl,by decide +kernel,by decide +kernel⟩
theorem Q5s {f:Addr} {fd:FuncData} {C:Addr} (F:Fun K "letter" "House.letter" j6 f fd) (T:Txt mg) (TC:ClsT K C)   : FnOk P w K mg base (CXD P w) 1 f fd ["self"] (spF mg 1 (Ws C)):=by
 refine Qz (k:=0) (m:=(X1 C)) F Q5i rfl rfl rfl fun cdv A outer s H E hr=>?_
 exact (Qd (Qw (Vi TC.cl TC.n_kept (Q0 0))))
def qh (C : Addr) : MS := (Qp (W2 (Qf 2 Jz (Q3 (Vr C "now" (Q4 0)) (Q3 (Q4 1) Q9))))
  (Qp (Ye (Vg (toB (Qf 2 V4 (Q3 (mOp oIx (Q4 1) (Vr C "number" (Q4 0))) (Q3 (mOp oIx (Vr C "now" (Q4 0)) (Vr C "number" (Q4 0))) Q9))))) (Xx "NoLetter" (mC (.str "it tells more of this house than the house did"))) Zy)
  (zx C "now" (Q4 0) (Qf 2 Q1j (Q3 (Vr C "now" (Q4 0)) (Q3 (Q4 1) Q9))))))
def Xk (C:Addr):FN:=Yj (qh C) 2
theorem Q91:FnScope ["self", "table"] ["self", "table"] (Q8 xm):=⟨rfl,rfl,rfl,by decide +kernel,rfl,by decide +kernel,by decide +kernel⟩
theorem Q9h {f:Addr} {fd:FuncData} {C:Addr} (F:Fun K "come" "House.come" xm f fd) (T:Txt mg) (TC:ClsT K C) (C_NoLetter:∃ C,mg "NoLetter" = some (.ref C)/\PySem.W.excIn K C Ui "ValueError.__new__" = true) (D_need_as_many_houses:DefS P w K mg base 1 "need_as_many_houses" 2 Jz) (D_is_row_within:DefS P w K mg base 1 "is_row_within" 2 V4) (D_joined:DefS P w K mg base 2 "joined" 2 Q1j):FnOk P w K mg base (CXD P w) 3 f fd ["self", "table"] (spF mg 2 (Xk C)):=by
 refine Wc (k:=2) (m:=(qh C)) F Q91 rfl rfl rfl fun cdv A outer s H E hr=>?_
 exact (Qb (Y9 (Qg D_need_as_many_houses (hr.mono (by decide)) Qc rfl (Q1 (Vi TC.cl TC.n_now (Q0 0)) (Q1 (Q0 1) Q6))))
  (Qb (Z1 (V5 (W0 (Qg D_is_row_within (hr.mono (by decide)) Qc rfl (Q1 (Qs (Q0 1) (Vi TC.cl TC.n_number (Q0 0))) (Q1 (Qs (Vi TC.cl TC.n_now (Q0 0)) (Vi TC.cl TC.n_number (Q0 0))) Q6))))) (Qd (Vh rfl Wy rfl C_NoLetter.choose_spec.1 C_NoLetter.choose_spec.2 J0)) Zp)
  (Qd (yk TC.cl TC.n_now (Qg D_joined (hr.mono (by decide)) Qc rfl (Q1 (Vi TC.cl TC.n_now (Q0 0)) (Q1 (Q0 1) Q6))) (Q0 0)))))
def K3 (C:Addr):MS:=(Jp (Vr C "now" (Q4 0)))
def U8 (C:Addr):FN:=Qq (K3 C) 1
theorem Q6r:FnScope ["self"] ["self"] (Q8 zc):=⟨rfl,rfl,rfl,by decide +kernel,rfl,by decide +kernel,by decide +kernel⟩
theorem Q7e {f:Addr} {fd:FuncData} {C:Addr} (F:Fun K "table" "House.table" zc f fd) (T:Txt mg) (TC:ClsT K C)   : FnOk P w K mg base (CXD P w) 1 f fd ["self"] (spF mg 1 (U8 C)):=by
 refine Qz (k:=0) (m:=(K3 C)) F Q6r rfl rfl rfl fun cdv A outer s H E hr=>?_
 exact (Qd (Qw (Vi TC.cl TC.n_now (Q0 0))))
def Q15 (C:Addr):MS:=(Jp (Qf 2 U3 (Q3 (Vr C "now" (Q4 0)) (Q3 (Vr C "number" (Q4 0)) Q9))))
def Q1m (C:Addr):FN:=Qq (Q15 C) 1
theorem Q5h:FnScope ["self"] ["self"] (Q8 j4):=⟨rfl,rfl,rfl,by decide +kernel,rfl,by decide +kernel,by decide +kernel⟩
theorem Q5r {f:Addr} {fd:FuncData} {C:Addr} (F:Fun K "rights" "House.rights" j4 f fd) (T:Txt mg) (TC:ClsT K C)  (D_rights_tables:DefS P w K mg base 4 "rights_tables" 2 U3):FnOk P w K mg base (CXD P w) 5 f fd ["self"] (spF mg 1 (Q1m C)):=by
 refine Qz (k:=4) (m:=(Q15 C)) F Q5h rfl rfl rfl fun cdv A outer s H E hr=>?_
 exact (Qd (Qw (Qg D_rights_tables (hr.mono (by decide)) Qc rfl (Q1 (Vi TC.cl TC.n_now (Q0 0)) (Q1 (Vi TC.cl TC.n_number (Q0 0)) Q6)))))
def Q3k (C:Addr):MS:=(W2 (Qf 1 Qbu (Q3 (mC (.int 0)) Q9)))
def Q41 (C:Addr):FN:=Qq (Q3k C) 1
theorem Q8w:FnScope ["self"] ["self"] (Q8 xg):=⟨rfl,rfl,rfl,by decide +kernel,rfl,by decide +kernel,by decide +kernel⟩
theorem Q9c {f:Addr} {fd:FuncData} {C:Addr} (F:Fun K "used" "House.used" xg f fd) (T:Txt mg) (TC:ClsT K C)  (D__wall:DefS P w K mg base 1 "_wall" 1 Qbu):FnOk P w K mg base (CXD P w) 2 f fd ["self"] (spF mg 1 (Q41 C)):=by
 refine Qz (k:=1) (m:=(Q3k C)) F Q8w rfl rfl rfl fun cdv A outer s H E hr=>?_
 exact (Qd (Y9 (Qg D__wall (hr.mono (by decide)) Qc rfl (Q1 Qa Q6))))
def Y1:MS:=(Jp (Q4t (Qf 1 Qj (Q3 (Q4 0) Q9)) (mOp oEq (J5 Yp (Q3 (Q4 0) Q9)) (qi (mOp oIx (Q4 0) (mC (.int 0)))))))
def J6:FN:=Qq Y1 1
theorem Q49:FnScope ["thing"] ["thing"] (Q8 Kn):=⟨rfl,rfl,rfl,by decide +kernel,rfl,by decide +kernel,by decide +kernel⟩
theorem Q4j {f:Addr} {fd:FuncData} (F:Fun K "is_other_deed" "is_other_deed" Kn f fd) (T:Txt mg) (PO:PartsO P w K mg)  (D_is_text_and_numbers:DefS P w K mg base 2 "is_text_and_numbers" 1 Qj):FnOk P w K mg base (CXD P w) 3 f fd ["thing"] (spF mg 1 J6):=by
 refine Qz (k:=2) (m:=Y1) F Q49 rfl rfl rfl fun cdv A outer s H E hr=>?_
 exact (Qd (Qw (yq (Qg D_is_text_and_numbers (hr.mono (by decide)) Qc rfl (Q1 (Q0 0) Q6)) (Q0r (Xq (Wj hr.units) (Qt Yc rfl T.b_len PySem.boot_len (Q1 (Q0 0) Q6)) (Qga PO rfl (Qs (Q0 0) Qa)))))))
def Y7:MS:=(Ye (toB (Qf 1 Yv (Q3 (Q4 2) Q9))) (W2 (Qf 2 J7 (Q3 (Q4 0) (Q3 (Q4 2) Q9)))) (Ye (Vg (toB (Qf 1 J6 (Q3 (Q4 2) Q9)))) (Xx "NoDeed" (mC (.str "a deed of no kind that runs have"))) (Ye (Vg (toB (Qf 2 Yd (Q3 (Q4 0) (Q3 (mOp oIx (Q4 2) (Q4s (mC (.int 1)))) Q9))))) (Xx "NoHouse" (mC (.str "no house of this run"))) (Ye (Q0d (toB (mOp oEq (mOp oIx (Q4 2) (mC (.int 0))) (mC (.str "come")))) (Vg (toB (Q16 (oI fun a b=>.bl (decide (a<=b))) oLt (mC (.int 0)) (mOp oIx (Q4 2) (mC (.int 1))) (J5 Yp (Q3 (Q4 1) Q9)))))) (Xx "NoLetter" (mC (.str "no letter of this number is put by so far"))) Zy))))
def Jc:FN:=Qq Y7 3
theorem Q21:FnScope ["table", "letters", "deed"] ["table", "letters", "deed"] (Q8 Uc):=⟨rfl,rfl,rfl,by decide +kernel,rfl,by decide +kernel,by decide +kernel⟩
theorem Q25 {f:Addr} {fd:FuncData} (F:Fun K "need_deed_of_run" "need_deed_of_run" Uc f fd) (T:Txt mg) (C_NoDeed:∃ C,mg "NoDeed" = some (.ref C)/\PySem.W.excIn K C Ui "ValueError.__new__" = true) (C_NoHouse:∃ C,mg "NoHouse" = some (.ref C)/\PySem.W.excIn K C Ui "ValueError.__new__" = true) (C_NoLetter:∃ C,mg "NoLetter" = some (.ref C)/\PySem.W.excIn K C Ui "ValueError.__new__" = true) (D_is_deed:DefS P w K mg base 3 "is_deed" 1 Yv) (D_need_houses_of_deed:DefS P w K mg base 4 "need_houses_of_deed" 2 J7) (D_is_other_deed:DefS P w K mg base 3 "is_other_deed" 1 J6) (D_is_house:DefS P w K mg base 3 "is_house" 2 Yd):FnOk P w K mg base (CXD P w) 5 f fd ["table", "letters", "deed"] (spF mg 3 Jc):=by
 refine Qz (k:=4) (m:=Y7) F Q21 rfl rfl rfl fun cdv A outer s H E hr=>?_
 exact (Qd (Z1 (W0 (Qg D_is_deed (hr.mono (by decide)) Qc rfl (Q1 (Q0 2) Q6))) (Qd (Y9 (Qg D_need_houses_of_deed (hr.mono (by decide)) Qc rfl (Q1 (Q0 0) (Q1 (Q0 2) Q6))))) (Qd (Z1 (V5 (W0 (Qg D_is_other_deed (hr.mono (by decide)) Qc rfl (Q1 (Q0 2) Q6)))) (Qd (Vh rfl Wy rfl C_NoDeed.choose_spec.1 C_NoDeed.choose_spec.2 J0)) (Qd (Z1 (V5 (W0 (Qg D_is_house (hr.mono (by decide)) Qc rfl (Q1 (Q0 0) (Q1 (Qs (Q0 2) (Q0s Qa)) Q6))))) (Qd (Vh rfl Wy rfl C_NoHouse.choose_spec.1 C_NoHouse.choose_spec.2 J0)) (Qd (Z1 (SimW.t (Q6i (J9 (Wj hr.units) (Qs (Q0 2) Qa) J0) (Q32 (V5 (Qc1 Qa1 (Q3d hr.units) Qa (Qs (Q0 2) Qa) (Qt Yc rfl T.b_len PySem.boot_len (Q1 (Q0 1) Q6))))))) (Qd (Vh rfl Wy rfl C_NoLetter.choose_spec.1 C_NoLetter.choose_spec.2 J0)) Zp))))))))
def ze (C : Addr) : MS := (Qp (Je 2 (mOp oIx (Q4 0) (mOp oIx (Q4 1) (mC (.int 1)))))
  (Ye (toB (mOp oEq (mOp oIx (Q4 1) (mC (.int 0))) (mC (.str "make")))) (W2 (zz C "make" 2 (Xg C) (Q4 2) (Q3 (mOp oIx (Q4 1) (mC (.int 2))) Q9))) (Ye (toB (mOp oEq (mOp oIx (Q4 1) (mC (.int 0))) (mC (.str "lend")))) (W2 (zz C "lend" 3 (Xh C) (Q4 2) (Q3 (mOp oIx (Q4 1) (mC (.int 2))) (Q3 (mOp oIx (Q4 1) (mC (.int 3))) Q9)))) (W2 (zz C "use" 2 (Kc C) (Q4 2) (Q3 (mOp oIx (Q4 1) (mC (.int 2))) Q9))))))
def Wh (C:Addr):FN:=Yj (ze C) 3
theorem sc_do_own_deed:FnScope ["houses", "deed", "house"] ["houses", "deed"] (Q8 ju):=⟨rfl,rfl,rfl,by decide +kernel,rfl,by decide +kernel,by decide +kernel⟩
theorem Q76 {f:Addr} {fd:FuncData} {C:Addr} (F:Fun K "do_own_deed" "do_own_deed" ju f fd) (T:Txt mg) (TC:ClsT K C)   (D_House_make:MethS P w K mg base 6 C "make" 2 (Xg C)) (D_House_lend:MethS P w K mg base 6 C "lend" 3 (Xh C)) (D_House_use:MethS P w K mg base 6 C "use" 2 (Kc C)):FnOk P w K mg base (CXD P w) 7 f fd ["houses", "deed"] (spF mg 2 (Wh C)):=by
 refine Wc (k:=6) (m:=(ze C)) F sc_do_own_deed rfl rfl rfl fun cdv A outer s H E hr=>?_
 exact (Qb (Qx 2 sc_do_own_deed.nd (Qs (Q0 0) (Qs (Q0 1) Qa)))
  (Qd (Z1 (J9 (Wj hr.units) (Qs (Q0 1) Qa) J0) (Qd (Y9 (Q62 TC.cl D_House_make (hr.mono (by decide)) Qc (Q0 2) (Q1 (Qs (Q0 1) Qa) Q6)))) (Qd (Z1 (J9 (Wj hr.units) (Qs (Q0 1) Qa) J0) (Qd (Y9 (Q62 TC.cl D_House_lend (hr.mono (by decide)) Qc (Q0 2) (Q1 (Qs (Q0 1) Qa) (Q1 (Qs (Q0 1) Qa) Q6))))) (Qd (Y9 (Q62 TC.cl D_House_use (hr.mono (by decide)) Qc (Q0 2) (Q1 (Qs (Q0 1) Qa) Q6)))))))))
def W7 (C : Addr) : MS := (Qp (Je 3 (mOp oIx (Q4 0) (mOp oIx (Q4 2) (Q4s (mC (.int 1))))))
  (Ye (toB (mOp oEq (mOp oIx (Q4 2) (mC (.int 0))) (mC (.str "keep")))) (W2 (zz C "keep" 1 (Xi C) (Q4 3) Q9)) (Ye (toB (mOp oEq (mOp oIx (Q4 2) (mC (.int 0))) (mC (.str "fall")))) (W2 (zz C "fall" 1 (Xj C) (Q4 3) Q9)) (Ye (toB (mOp oEq (mOp oIx (Q4 2) (mC (.int 0))) (mC (.str "send")))) (W2 (mBM Wz (Q4 1) (Q3 (zz C "letter" 1 (Ws C) (Q4 3) Q9) Q9))) (W2 (zz C "come" 2 (Xk C) (Q4 3) (Q3 (mOp oIx (Q4 1) (mOp oIx (Q4 2) (mC (.int 1)))) Q9)))))))
def Ua (C:Addr):FN:=Yj (W7 C) 4
theorem sc_do_other_deed:FnScope ["houses", "letters", "deed", "house"] ["houses", "letters", "deed"] (Q8 Kp):=⟨rfl,rfl,rfl,by decide +kernel,rfl,by decide +kernel,by decide +kernel⟩
theorem Q4k {f:Addr} {fd:FuncData} {C:Addr} (F:Fun K "do_other_deed" "do_other_deed" Kp f fd) (T:Txt mg) (TC:ClsT K C)   (D_House_keep:MethS P w K mg base 1 C "keep" 1 (Xi C)) (D_House_fall:MethS P w K mg base 1 C "fall" 1 (Xj C)) (D_House_letter:MethS P w K mg base 1 C "letter" 1 (Ws C)) (D_House_come:MethS P w K mg base 3 C "come" 2 (Xk C)):FnOk P w K mg base (CXD P w) 4 f fd ["houses", "letters", "deed"] (spF mg 3 (Ua C)):=by
 refine Wc (k:=3) (m:=(W7 C)) F sc_do_other_deed rfl rfl rfl fun cdv A outer s H E hr=>?_
 exact (Qb (Qx 3 sc_do_other_deed.nd (Qs (Q0 0) (Qs (Q0 2) (Q0s Qa))))
  (Qd (Z1 (J9 (Wj hr.units) (Qs (Q0 2) Qa) J0) (Qd (Y9 (Q35 TC.cl D_House_keep (hr.mono (by decide)) Qc (Q0 3)))) (Qd (Z1 (J9 (Wj hr.units) (Qs (Q0 2) Qa) J0) (Qd (Y9 (Q35 TC.cl D_House_fall (hr.mono (by decide)) Qc (Q0 3)))) (Qd (Z1 (J9 (Wj hr.units) (Qs (Q0 2) Qa) J0) (Qd (Y9 (qq (Q0 1) (Q1 (Q35 TC.cl D_House_letter (hr.mono (by decide)) Qc (Q0 3)) Q6)))) (Qd (Y9 (Q62 TC.cl D_House_come (hr.mono (by decide)) Qc (Q0 3) (Q1 (Qs (Q0 1) (Qs (Q0 2) Qa)) Q6)))))))))))
def K8 (C : Addr) : MS := (Qp (Ye (toB (Qf 1 J6 (Q3 (Q4 2) Q9))) (Qp (W2 (Qf 3 (Ua C) (Q3 (Q4 0) (Q3 (Q4 1) (Q3 (Q4 2) Q9)))))
  (Jp (mC (.str "done")))) Zy)
  (Qp (Qcv "Short" "had" 3 2 (Wh C) (Q3 (Q4 0) (Q3 (Q4 2) Q9)))
  (Jp (mC (.str "done")))))
def jt (C:Addr):FN:=Yj (K8 C) 4
theorem sc_answer_to:FnScope ["houses", "letters", "deed", "refusal"] ["houses", "letters", "deed"] (Q8 Q0u):=⟨rfl,rfl,rfl,by decide +kernel,rfl,by decide +kernel,by decide +kernel⟩
theorem Qb5 {f:Addr} {fd:FuncData} {C:Addr} (F:Fun K "answer_to" "answer_to" Q0u f fd) (T:Txt mg) (TC:ClsT K C) (Sx:∃ C,mg "Short" = some (.ref C)/\PySem.W.exmOne K (.ref C) (.ref C)=some true/\XGet K C "had")  (D_is_other_deed:DefS P w K mg base 3 "is_other_deed" 1 J6) (D_do_other_deed:DefS P w K mg base 4 "do_other_deed" 3 (Ua C)) (D_do_own_deed:DefS P w K mg base 7 "do_own_deed" 2 (Wh C)):FnOk P w K mg base (CXD P w) 8 f fd ["houses", "letters", "deed"] (spF mg 3 (jt C)):=by
 obtain ⟨cS,mS,xS,gS⟩:=Sx;refine Wc (k:=7) (m:=(K8 C)) F sc_answer_to rfl rfl rfl fun cdv A outer s H E hr=>?_
 exact (Qb (Z1 (W0 (Qg D_is_other_deed (hr.mono (by decide)) Qc rfl (Q1 (Q0 2) Q6))) (Qb (Y9 (Qg D_do_other_deed (hr.mono (by decide)) Qc rfl (Q1 (Q0 0) (Q1 (Q0 1) (Q1 (Q0 2) Q6)))))
  (Qd (Qw J0))) Zp)
  (Qb (Qmn D_do_own_deed (hr.mono (by decide)) (Q1 (Q0 0) (Q1 (Q0 2) Q6)) sc_answer_to.nd mS xS gS)
  (Qd (Qw J0))))
def Q09 (C:Addr):ME:=(Qqn C 3 (W3 C) (Q3 (Q4 0) (Q3 (Q4 1) Q9)))
def Q2z (C : Addr) : MS := (Qp (W2 (Qf 3 Jc (Q3 (Q4 0) (Q3 (Q4 3) (Q3 (Q4 5) Q9)))))
  (W2 (mBM Wz (Q4 4) (Q3 (Qf 3 (jt C) (Q3 (Q4 2) (Q3 (Q4 3) (Q3 (Q4 5) Q9)))) Q9))))
def Q8b (C:Addr):ME:=(zz C "table" 1 (U8 C) (Q4 0) Q9)
def Q7m (C : Addr) : MS := (Qp (W2 (Qf 1 Y8 (Q3 (Q4 0) Q9)))
  (Qp (Je 2 (Xv (Yb [none,some 0] (Qn 0) (Ys (Q3 (J5 Yp (Q3 (Q4 0) Q9)) Q9)) Zn (Q09 C))))
  (Qp (Je 3 (Q0i (jq Q9)))
  (Qp (Je 4 (Q0i (jq Q9)))
  (Qp (Q7r (Qn 5) (zw (Q4 1)) (Q2z C))
  (Jp (Xn (Q3 (Q4 4) (Q3 (Q0i (Yb [none] (Qn 0) (zw (Q4 2)) Zn (Q8b C))) Q9)))))))))
def Xc (C:Addr):FN:=Yj (Q7m C) 6
theorem sc_played:FnScope ["table", "deeds", "houses", "letters", "answers", "deed"] ["table", "deeds"] (Q8 Q6u):=⟨rfl,rfl,rfl,by decide +kernel,rfl,by decide +kernel,by decide +kernel⟩
theorem Qgs {f:Addr} {fd:FuncData} {C:Addr} (F:Fun K "played" "played" Q6u f fd) (T:Txt mg) (TC:ClsT K C)  (D_need_comes_about:DefS P w K mg base 7 "need_comes_about" 1 Y8) (D_need_deed_of_run:DefS P w K mg base 5 "need_deed_of_run" 3 Jc) (D_answer_to:DefS P w K mg base 8 "answer_to" 3 (jt C)) (M_House:MakeS P w K mg base 8 C "House" 3 (W3 C)) (D_House_table:MethS P w K mg base 1 C "table" 1 (U8 C)):FnOk P w K mg base (CXD P w) 10 f fd ["table", "deeds"] (spF mg 2 (Xc C)):=by
 refine Wc (k:=9) (m:=(Q7m C)) F sc_played rfl rfl rfl fun cdv A outer s H E hr=>?_
 exact (Qb (Y9 (Qg D_need_comes_about (hr.mono (by decide)) Qc rfl (Q1 (Q0 0) Q6)))
  (Qb (by first | exact Q33 [none,some 0] ["number", "table"] 2 sc_played.nd rfl (Yr rfl T.b_range (Q1 (Qt Yc rfl T.b_len PySem.boot_len (Q1 (Q0 0) Q6)) Q6)) (fun _ _ _ _ _=>(J1 (i:=0) (show (["number", "table"]:List Str).Nodup by decide +kernel))) (fun _ _ _ _ _=>(Qf5 M_House (hr.mono (by decide)) Uz rfl (Q1 (Q0 0) (Q1 (Q0 1) Q6)))) (fun _ _ _ _ _=>Yz) Jm | exact Qx 2 sc_played.nd (Wu (Yg [none,some 0] ["number", "table"] rfl (Yr rfl T.b_range (Q1 (Qt Yc rfl T.b_len PySem.boot_len (Q1 (Q0 0) Q6)) Q6)) (fun _ _ _ _ _=>(J1 (i:=0) (show (["number", "table"]:List Str).Nodup by decide +kernel))) (fun _ _ _ _ _=>(Qf5 M_House (hr.mono (by decide)) Uz rfl (Q1 (Q0 0) (Q1 (Q0 1) Q6)))) (fun _ _ _ _ _=>Yz) Jm)))
  (Qb (Qx 3 sc_played.nd (Kh (ym Q6)))
  (Qb (Qx 4 sc_played.nd (Kh (ym Q6)))
  (Qb (Q0p PassesOwn.leaving rfl (Xp (Q0 1)) (J1 (i:=5) sc_played.nd) (Qb (Y9 (Qg D_need_deed_of_run (hr.mono (by decide)) Qc rfl (Q1 (Q0 0) (Q1 (Q0 3) (Q1 (Q0 5) Q6)))))
  (Qd (Y9 (qq (Q0 4) (Q1 (Qg D_answer_to (hr.mono (by decide)) Qc rfl (Q1 (Q0 2) (Q1 (Q0 3) (Q1 (Q0 5) Q6)))) Q6))))))
  (Qd (Qw (V6 (Q1 (Q0 4) (Q1 (Kh (Yg [none] ["house"] rfl (Xp (Q0 2)) (fun _ _ _ _ _=>(J1 (i:=0) (show (["house"]:List Str).Nodup by decide +kernel))) (fun _ _ _ _ _=>(Q35 TC.cl D_House_table (hr.mono (by decide)) Uz (Q0 0))) (fun _ _ _ _ _=>Yz) Jm)) Q6))))))))))
def qc : MS := (Qp (Ye (toB (mOp oLt (Q4 1) (J5 Yp (Q3 (Q4 0) Q9)))) (Jp (mOp oIx (Q4 0) (Q4 1))) Zy)
  (Jp (mC (.int 0))))
def Vs:FN:=Qq qc 2
theorem Q8u:FnScope ["script", "k"] ["script", "k"] (Q8 x9):=⟨rfl,rfl,rfl,by decide +kernel,rfl,by decide +kernel,by decide +kernel⟩
theorem Q9a {f:Addr} {fd:FuncData} (F:Fun K "_law_acell" "_law_acell" x9 f fd) (T:Txt mg)   : FnOk P w K mg base (CXD P w) 1 f fd ["script", "k"] (spF mg 2 Vs):=by
 refine Qz (k:=0) (m:=qc) F Q8u rfl rfl rfl fun cdv A outer s H E hr=>?_
 exact (Qb (Z1 (J9 (Q3d hr.units) (Q0 1) (Qt Yc rfl T.b_len PySem.boot_len (Q1 (Q0 0) Q6))) (Qd (Qw (Qs (Q0 0) (Q0 1)))) Zp)
  (Qd (Qw Qa)))
def jh : MS := (Qp (Je 4 (mOp We (mOp Q5t (Q4 4) (Q4 3)) (Q4 5)))
  (Je 5 (mOp Q3g (mOp We (mOp We (mOp Q5t (Q4 5) (Q4 5)) (mOp Q5t (mC (.int 40692)) (Q4 1))) (Q4 6)) (Q4 3))))
def qa : MS := (Qp (Je 2 (Qf 2 Vs (Q3 (Q4 0) (Q3 (Q4 1) Q9))))
  (Qp (Ye (toB (mOp oEq (mOp Q3g (Q4 2) (mC (.int 2))) (mC (.int 0)))) (Jp (Q0i (jq (Q3 (mOp Qp1 (Q4 2) (mC (.int 2))) Q9)))) Zy)
  (Qp (Je 3 (mC (.int 2305843009213693951)))
  (Qp (Je 4 (mC (.int 0)))
  (Qp (Je 5 (mOp Q3g (mOp We (mOp We (mOp Q5t (mOp Q3g (Q4 2) (Q4 3)) (mC (.int 48271))) (mOp Q5t (mC (.int 69621)) (Q4 1))) (mC (.int 11))) (Q4 3)))
  (Qp (Q7r (Qn 6) (Ys (Q3 (mC (.int 5)) Q9)) jh)
  (Jp (Q0i (jq (Q3 (Q4 4) Q9))))))))))
def W1:FN:=Yj qa 7
theorem sc__law_atape:FnScope ["script", "k", "cell", "p", "number", "last", "turn"] ["script", "k"] (Q8 yx):=⟨rfl,rfl,rfl,by decide +kernel,rfl,by decide +kernel,by decide +kernel⟩
theorem Q97 {f:Addr} {fd:FuncData} (F:Fun K "_law_atape" "_law_atape" yx f fd) (T:Txt mg)  (D__law_acell:DefS P w K mg base 1 "_law_acell" 2 Vs):FnOk P w K mg base (CXD P w) 2 f fd ["script", "k"] (spF mg 2 W1):=by
 refine Wc (k:=1) (m:=qa) F sc__law_atape rfl rfl rfl fun cdv A outer s H E hr=>?_
 exact (Qb (Qx 2 sc__law_atape.nd (Qg D__law_acell (hr.mono (by decide)) Qc rfl (Q1 (Q0 0) (Q1 (Q0 1) Q6))))
  (Qb (Z1 (J9 (Wj hr.units) (Ja Q10 (Q0 2) Qa) Qa) (Qd (Qw (Kh (ym (Q1 (Ja Qs4 (Q0 2) Qa) Q6))))) Zp)
  (Qb (Qx 3 sc__law_atape.nd Qa)
  (Qb (Qx 4 sc__law_atape.nd Qa)
  (Qb (Qx 5 sc__law_atape.nd (Ja Q10 (Ja Zq (Ja Zq (Ja Q4f (Ja Q10 (Q0 2) (Q0 3)) Qa) (Ja Q4f Qa (Q0 1))) Qa) (Q0 3)))
  (Qb (Q0p PassesOwn.leaving rfl (Yr rfl T.b_range (Q1 Qa Q6)) (J1 (i:=6) sc__law_atape.nd) (Qb (Qx 4 sc__law_atape.nd (Ja Zq (Ja Q4f (Q0 4) (Q0 3)) (Q0 5)))
  (Qd (Qx 5 sc__law_atape.nd (Ja Q10 (Ja Zq (Ja Zq (Ja Q4f (Q0 5) (Q0 5)) (Ja Q4f Qa (Q0 1))) (Q0 6)) (Q0 3))))))
  (Qd (Qw (Kh (ym (Q1 (Q0 4) Q6)))))))))))
def zj : MS := (Qp (Je 2 (mOp Q3g (mOp oIx (Q4 0) (mC (.int 0))) (Q4 1)))
  (Qp (Q03 (Q4 0) (mC (.int 0)) (mOp Qfh (mOp oIx (Q4 0) (mC (.int 0))) (Q4 1)))
  (Jp (Q4 2))))
def Qi:FN:=Qq zj 3
theorem sc__law_adigit:FnScope ["tape", "many", "found"] ["tape", "many"] (Q8 z8):=⟨rfl,rfl,rfl,by decide +kernel,rfl,by decide +kernel,by decide +kernel⟩
theorem Q7c {f:Addr} {fd:FuncData} (F:Fun K "_law_adigit" "_law_adigit" z8 f fd) (T:Txt mg)   : FnOk P w K mg base (CXD P w) 1 f fd ["tape", "many"] (spF mg 2 Qi):=by
 refine Qz (k:=0) (m:=zj) F sc__law_adigit rfl rfl rfl fun cdv A outer s H E hr=>?_
 exact (Qb (Qx 2 sc__law_adigit.nd (Ja Q10 (Qs (Q0 0) Qa) (Q0 1)))
  (Qb (Q6k (Ja Qnt (Qs (Q0 0) Qa) (Q0 1)) (Q0 0) Qa)
  (Qd (Qw (Q0 2)))))
def y9:ME:=(mOp oIx (mOp oIx (Q4 2) (Q4 0)) (Q4 1))
def y8:ME:=(Q4 0)
def j9 : MS := (Qp (Je 2 (J5 (Xb fun ns => some (.int ns.sum)) (Q3 (Xv (Yb [none, some 1, some 0] (Qn 0) (Ys (Q3 (J5 Yp (Q3 (Q4 0) Q9)) Q9)) Zn y9)) Q9)))
  (Jp (mOp We (mOp (oI fun a b=>.int (a - b)) (Q4 2) (J5 (Xb fun ns=>some (.int ns.sum)) (Q3 (Xv (Yb [none] (Qn 0) (zw (mOp oIx (Q4 0) (Q4 1))) Zn y8)) Q9))) (mOp oIx (mOp oIx (Q4 0) (Q4 1)) (Q4 1)))))
def Zj:FN:=Qq j9 3
theorem sc__law_arights:FnScope ["table", "i", "lent"] ["table", "i"] (Q8 qw):=⟨rfl,rfl,rfl,by decide +kernel,rfl,by decide +kernel,by decide +kernel⟩
theorem Q5m {f:Addr} {fd:FuncData} (F:Fun K "_law_arights" "_law_arights" qw f fd) (T:Txt mg)   : FnOk P w K mg base (CXD P w) 1 f fd ["table", "i"] (spF mg 2 Zj):=by
 refine Qz (k:=0) (m:=j9) F sc__law_arights rfl rfl rfl fun cdv A outer s H E hr=>?_
 exact (Qb (Qx 2 sc__law_arights.nd (Qt (Q8c rfl) rfl T.b_sum Q1g (Q1 (Wu (Yg [none,some 1,some 0] ["j", "i", "table"] rfl (Yr rfl T.b_range (Q1 (Qt Yc rfl T.b_len PySem.boot_len (Q1 (Q0 0) Q6)) Q6)) (fun _ _ _ _ _=>(J1 (i:=0) (show (["j", "i", "table"]:List Str).Nodup by decide +kernel))) (fun _ _ _ _ _=>(Qs (Qs (Q0 2) (Q0 0)) (Q0 1))) (fun _ _ _ _ _=>Yz) Jm)) Q6)))
  (Qd (Qw (Ja Zq (Ja Q0z (Q0 2) (Qt (Q8c rfl) rfl T.b_sum Q1g (Q1 (Wu (Yg [none] ["number"] rfl (Xp (Qs (Q0 0) (Q0 1))) (fun _ _ _ _ _=>(J1 (i:=0) (show (["number"]:List Str).Nodup by decide +kernel))) (fun _ _ _ _ _=>(Q0 0)) (fun _ _ _ _ _=>Yz) Jm)) Q6))) (Qs (Qs (Q0 0) (Q0 1)) (Q0 1))))))
def jf:ME:=(J5 Uh (Q3 (mOp Q5t (Q3p (Q3 (mC (.int 0)) Q9)) (mOp We (Q4 1) (mC (.int 1)))) Q9))
def Q02:MS:=(Jp (J5 Uh (Q3 (Xv (Yb [none,some 0] (Qn 0) (Ys (Q3 (Q4 0) Q9)) Zn jf)) Q9)))
def qp:FN:=Qq Q02 1
theorem Q8v:FnScope ["size"] ["size"] (Q8 xb):=⟨rfl,rfl,rfl,by decide +kernel,rfl,by decide +kernel,by decide +kernel⟩
theorem Q9b {f:Addr} {fd:FuncData} (F:Fun K "_law_abare" "_law_abare" xb f fd) (T:Txt mg)   : FnOk P w K mg base (CXD P w) 1 f fd ["size"] (spF mg 1 qp):=by
 refine Qz (k:=0) (m:=Q02) F Q8v rfl rfl rfl fun cdv A outer s H E hr=>?_
 exact (Qd (Qw (K7 yc rfl T.b_tuple Wg (Q1 (Wu (Yg [none,some 0] ["i", "size"] rfl (Yr rfl T.b_range (Q1 (Q0 0) Q6)) (fun _ _ _ _ _=>(J1 (i:=0) (show (["i", "size"]:List Str).Nodup by decide +kernel))) (fun _ _ _ _ _=>(K7 yc rfl T.b_tuple Wg (Q1 (Ja Q4f (Q46 (Q1 Qa Q6)) (Ja Zq (Q0 1) Qa)) Q6))) (fun _ _ _ _ _=>Yz) Jm)) Q6))))
def ja : MS := (Qp (Je 4 (mOp We (mOp We (mSl (mOp oIx (Q4 0) (Q4 1)) X2 (zy (Q4 2))) (Xn (Q3 (mOp We (mOp oIx (mOp oIx (Q4 0) (Q4 1)) (Q4 2)) (Q4 3)) Q9))) (mSl (mOp oIx (Q4 0) (Q4 1)) (zy (mOp We (Q4 2) (mC (.int 1)))) X2)))
  (Jp (mOp We (mOp We (mSl (Q4 0) X2 (zy (Q4 1))) (Xn (Q3 (Q4 4) Q9))) (mSl (Q4 0) (zy (mOp We (Q4 1) (mC (.int 1)))) X2))))
def Y0:FN:=Qq ja 5
theorem sc__law_araised:FnScope ["table", "i", "at", "k", "row"] ["table", "i", "at", "k"] (Q8 qx):=⟨rfl,rfl,rfl,by decide +kernel,rfl,by decide +kernel,by decide +kernel⟩
theorem Q5n {f:Addr} {fd:FuncData} (F:Fun K "_law_araised" "_law_araised" qx f fd) (T:Txt mg)   : FnOk P w K mg base (CXD P w) 1 f fd ["table", "i", "at", "k"] (spF mg 4 Y0):=by
 refine Qz (k:=0) (m:=ja) F sc__law_araised rfl rfl rfl fun cdv A outer s H E hr=>?_
 exact (Qb (Qx 4 sc__law_araised.nd (Ja Zq (Ja Zq (Vy (Qs (Q0 0) (Q0 1)) Ky (Uu (Q0 2))) (V6 (Q1 (Ja Zq (Qs (Qs (Q0 0) (Q0 1)) (Q0 2)) (Q0 3)) Q6))) (Vy (Qs (Q0 0) (Q0 1)) (Uu (Ja Zq (Q0 2) Qa)) Ky)))
  (Qd (Qw (Ja Zq (Ja Zq (Vy (Q0 0) Ky (Uu (Q0 1))) (V6 (Q1 (Q0 4) Q6))) (Vy (Q0 0) (Uu (Ja Zq (Q0 1) Qa)) Ky)))))
def Xz:ME:=(J5 Q8h (Q3 (Q4 0) (Q3 (Q4 1) Q9)))
def yf:MS:=(W2 (mBM Wz (Q4 2) (Q3 (J5 Uh (Q3 (Xv (Yb [none,none] (K9 (Zx (Qn 0) (Zx (Qn 1) Ka))) (Q5v (Q3 (Q4 3) (Q3 (Q4 4) Q9))) Zn Xz)) Q9)) Q9)))
def jc : MS := (Qp (Je 2 (Q0i (jq Q9)))
  (Qp (Q7r (K9 (Zx (Qn 3) (Zx (Qn 4) Ka))) (Q5v (Q3 (Q4 0) (Q3 (Q4 1) Q9))) yf)
  (Jp (J5 Uh (Q3 (Q4 2) Q9)))))
def Xf:FN:=Qq jc 5
theorem sc__law_ajoined:FnScope ["one", "other", "rows", "row", "told"] ["one", "other"] (Q8 qz):=⟨rfl,rfl,rfl,by decide +kernel,rfl,by decide +kernel,by decide +kernel⟩
theorem Q5q {f:Addr} {fd:FuncData} (F:Fun K "_law_ajoined" "_law_ajoined" qz f fd) (T:Txt mg)   : FnOk P w K mg base (CXD P w) 1 f fd ["one", "other"] (spF mg 2 Xf):=by
 refine Qz (k:=0) (m:=jc) F sc__law_ajoined rfl rfl rfl fun cdv A outer s H E hr=>?_
 exact (Qb (Qx 2 sc__law_ajoined.nd (Kh (ym Q6)))
  (Qb (Q0p PassesOwn.leaving rfl (Q44 rfl T.b_zip (Q1 (Q0 0) (Q1 (Q0 1) Q6))) (Q2f rfl (W4 (J1 (i:=3) sc__law_ajoined.nd) (W4 (J1 (i:=4) sc__law_ajoined.nd) yn))) (Qd (Y9 (qq (Q0 2) (Q1 (K7 yc rfl T.b_tuple Wg (Q1 (Wu (Yg [none,none] ["number", "more"] rfl (Q44 rfl T.b_zip (Q1 (Q0 3) (Q1 (Q0 4) Q6))) (fun _ _ _ _ _=>(Q2f rfl (W4 (J1 (i:=0) (show (["number", "more"]:List Str).Nodup by decide +kernel)) (W4 (J1 (i:=1) (show (["number", "more"]:List Str).Nodup by decide +kernel)) yn)))) (fun _ _ _ _ _=>(Qt (Qbj rfl) rfl T.b_max Q3z (Q1 (Q0 0) (Q1 (Q0 1) Q6)))) (fun _ _ _ _ _=>Yz) (Q3t (Um (Um Q3u))))) Q6)) Q6)))))
  (Qd (Qw (K7 yc rfl T.b_tuple Wg (Q1 (Q0 2) Q6))))))
def qb : MS := (Qp (Je 1 (Qf 2 Qi (Q3 (Q4 0) (Q3 (mC (.int 12)) Q9))))
  (Qp (Ye (toB (mOp oEq (Q4 1) (mC (.int 11)))) (Jp (mOp (oI fun a b=>.int (a - b)) (mOp Qjn (mC (.int 10)) (mC (.int 20))) (Qf 2 Qi (Q3 (Q4 0) (Q3 (mC (.int 3)) Q9))))) Zy)
  (Jp (mOp We (mC (.int 1)) (mOp Q3g (Q4 1) (mC (.int 7)))))))
def Ww:FN:=Qq qb 2
theorem sc__law_amuch:FnScope ["tape", "way"] ["tape"] (Q8 x8):=⟨rfl,rfl,rfl,by decide +kernel,rfl,by decide +kernel,by decide +kernel⟩
theorem Q99 {f:Addr} {fd:FuncData} (F:Fun K "_law_amuch" "_law_amuch" x8 f fd) (T:Txt mg)  (D__law_adigit:DefS P w K mg base 1 "_law_adigit" 2 Qi):FnOk P w K mg base (CXD P w) 2 f fd ["tape"] (spF mg 1 Ww):=by
 refine Qz (k:=1) (m:=qb) F sc__law_amuch rfl rfl rfl fun cdv A outer s H E hr=>?_
 exact (Qb (Qx 1 sc__law_amuch.nd (Qg D__law_adigit (hr.mono (by decide)) Qc rfl (Q1 (Q0 0) (Q1 Qa Q6))))
  (Qb (Z1 (J9 (Wj hr.units) (Q0 1) Qa) (Qd (Qw (Ja Q0z (Ja Qs3 Qa Qa) (Qg D__law_adigit (hr.mono (by decide)) Qc rfl (Q1 (Q0 0) (Q1 Qa Q6)))))) Zp)
  (Qd (Qw (Ja Zq Qa (Ja Q10 (Q0 1) Qa))))))
def Ku : MS := (Qp (Je 5 (Qf 2 Qi (Q3 (Q4 0) (Q3 (Q4 1) Q9))))
  (Qp (Je 6 (Qf 2 Qi (Q3 (Q4 0) (Q3 (mC (.int 4)) Q9))))
  (Qp (Je 7 (Qf 2 Zj (Q3 (Q4 3) (Q3 (Q4 5) Q9))))
  (Ye (Q0m (toB (mOp oLt (Q4 6) (mC (.int 2)))) (toB (mOp oEq (Q4 7) (mC (.int 0))))) (Je 3 (Qf 4 Y0 (Q3 (Q4 3) (Q3 (Q4 5) (Q3 (Q4 5) (Q3 (Qf 1 Ww (Q3 (Q4 0) Q9)) Q9)))))) (Ye (Q0d (toB (mOp oEq (Q4 6) (mC (.int 2)))) (toB (mOp (oI fun a b=>.bl (decide (b < a))) (Q4 1) (mC (.int 1))))) (Qp (Je 8 (mOp Q3g (mOp We (mOp We (Q4 5) (mC (.int 1))) (Qf 2 Qi (Q3 (Q4 0) (Q3 (mOp (oI fun a b=>.int (a - b)) (Q4 1) (mC (.int 1))) Q9)))) (Q4 1)))
  (Je 3 (Qf 4 Y0 (Q3 (Q4 3) (Q3 (Q4 5) (Q3 (Q4 8) (Q3 (mOp We (mC (.int 1)) (Qf 2 Qi (Q3 (Q4 0) (Q3 (Q4 7) Q9)))) Q9))))))) (Je 3 (Qf 4 Y0 (Q3 (Q4 3) (Q3 (Q4 5) (Q3 (Q4 1) (Q3 (mOp We (mC (.int 1)) (Qf 2 Qi (Q3 (Q4 0) (Q3 (Q4 7) Q9)))) Q9)))))))))))
def zf : MS := (Qp (Je 3 (Qf 1 qp (Q3 (Q4 1) Q9)))
  (Qp (Q7r (Qn 4) (Ys (Q3 (Q4 2) Q9)) Ku)
  (Jp (Q4 3))))
def U4:FN:=Qq zf 9
theorem sc__law_atable:FnScope ["tape", "size", "many", "table", "turn", "i", "way", "have", "j"] ["tape", "size", "many"] (Q8 jw):=⟨rfl,rfl,rfl,by decide +kernel,rfl,by decide +kernel,by decide +kernel⟩
theorem Q78 {f:Addr} {fd:FuncData} (F:Fun K "_law_atable" "_law_atable" jw f fd) (T:Txt mg)  (D__law_abare:DefS P w K mg base 1 "_law_abare" 1 qp) (D__law_adigit:DefS P w K mg base 1 "_law_adigit" 2 Qi) (D__law_arights:DefS P w K mg base 1 "_law_arights" 2 Zj) (D__law_araised:DefS P w K mg base 1 "_law_araised" 4 Y0) (D__law_amuch:DefS P w K mg base 2 "_law_amuch" 1 Ww):FnOk P w K mg base (CXD P w) 3 f fd ["tape", "size", "many"] (spF mg 3 U4):=by
 refine Qz (k:=2) (m:=zf) F sc__law_atable rfl rfl rfl fun cdv A outer s H E hr=>?_
 exact (Qb (Qx 3 sc__law_atable.nd (Qg D__law_abare (hr.mono (by decide)) Qc rfl (Q1 (Q0 1) Q6)))
  (Qb (Q0p PassesOwn.leaving rfl (Yr rfl T.b_range (Q1 (Q0 2) Q6)) (J1 (i:=4) sc__law_atable.nd) (Qb (Qx 5 sc__law_atable.nd (Qg D__law_adigit (hr.mono (by decide)) Qc rfl (Q1 (Q0 0) (Q1 (Q0 1) Q6))))
  (Qb (Qx 6 sc__law_atable.nd (Qg D__law_adigit (hr.mono (by decide)) Qc rfl (Q1 (Q0 0) (Q1 Qa Q6))))
  (Qb (Qx 7 sc__law_atable.nd (Qg D__law_arights (hr.mono (by decide)) Qc rfl (Q1 (Q0 3) (Q1 (Q0 5) Q6))))
  (Qd (Z1 (SimW.t (Q29 (J9 (Q3d hr.units) (Q0 6) Qa) (Q0n (J9 (Wj hr.units) (Q0 7) Qa)))) (Qd (Qx 3 sc__law_atable.nd (Qg D__law_araised (hr.mono (by decide)) Qc rfl (Q1 (Q0 3) (Q1 (Q0 5) (Q1 (Q0 5) (Q1 (Qg D__law_amuch (hr.mono (by decide)) Qc rfl (Q1 (Q0 0) Q6)) Q6))))))) (Qd (Z1 (SimW.t (Q6i (J9 (Wj hr.units) (Q0 6) Qa) (Q32 (J9 Q75 (Q0 1) Qa)))) (Qb (Qx 8 sc__law_atable.nd (Ja Q10 (Ja Zq (Ja Zq (Q0 5) Qa) (Qg D__law_adigit (hr.mono (by decide)) Qc rfl (Q1 (Q0 0) (Q1 (Ja Q0z (Q0 1) Qa) Q6)))) (Q0 1)))
  (Qd (Qx 3 sc__law_atable.nd (Qg D__law_araised (hr.mono (by decide)) Qc rfl (Q1 (Q0 3) (Q1 (Q0 5) (Q1 (Q0 8) (Q1 (Ja Zq Qa (Qg D__law_adigit (hr.mono (by decide)) Qc rfl (Q1 (Q0 0) (Q1 (Q0 7) Q6)))) Q6)))))))) (Qd (Qx 3 sc__law_atable.nd (Qg D__law_araised (hr.mono (by decide)) Qc rfl (Q1 (Q0 3) (Q1 (Q0 5) (Q1 (Q0 1) (Q1 (Ja Zq Qa (Qg D__law_adigit (hr.mono (by decide)) Qc rfl (Q1 (Q0 0) (Q1 (Q0 7) Q6)))) Q6)))))))))))))))
  (Qd (Qw (Q0 3)))))
def Q0g:ME:=(Q4 1)
def Q0f:ME:=(Q4 1)
def zg:MS:=(Jp (Qb8 "now" "last" "letters" (Q0i (Yb [none,some 0] (Qn 0) (Ys (Q3 (J5 Yp (Q3 (Q4 0) Q9)) Q9)) Zn Q0g)) (Q0i (Yb [none,some 0] (Qn 0) (Ys (Q3 (J5 Yp (Q3 (Q4 0) Q9)) Q9)) Zn Q0f)) (Q0i (jq Q9))))
def U5:FN:=Yj zg 1
theorem Q6q:FnScope ["table"] ["table"] (Q8 jx):=⟨rfl,rfl,rfl,by decide +kernel,rfl,by decide +kernel,by decide +kernel⟩
theorem Q79 {f:Addr} {fd:FuncData} (F:Fun K "_law_astart" "_law_astart" jx f fd) (T:Txt mg)   : FnOk P w K mg base (CXD P w) 1 f fd ["table"] (spF mg 1 U5):=by
 refine Wc (k:=0) (m:=zg) F Q6q rfl rfl rfl fun cdv A outer s H E hr=>?_
 exact (Qd (Qw (Qin (Kh (Yg [none,some 0] ["i", "table"] rfl (Yr rfl T.b_range (Q1 (Qt Yc rfl T.b_len PySem.boot_len (Q1 (Q0 0) Q6)) Q6)) (fun _ _ _ _ _=>(J1 (i:=0) (show (["i", "table"]:List Str).Nodup by decide +kernel))) (fun _ _ _ _ _=>(Q0 1)) (fun _ _ _ _ _=>Yz) Jm)) (Kh (Yg [none,some 0] ["i", "table"] rfl (Yr rfl T.b_range (Q1 (Qt Yc rfl T.b_len PySem.boot_len (Q1 (Q0 0) Q6)) Q6)) (fun _ _ _ _ _=>(J1 (i:=0) (show (["i", "table"]:List Str).Nodup by decide +kernel))) (fun _ _ _ _ _=>(Q0 1)) (fun _ _ _ _ _=>Yz) Jm)) (Kh (ym Q6)))))
def Wa : MS := (Qp (Je 2 (Wf (Q4 0) (mC (.str "now"))))
  (Qp (Ye (toB (mOp oEq (mOp oIx (Q4 1) (mC (.int 0))) (mC (.str "keep")))) (Q03 (Wf (Q4 0) (mC (.str "last"))) (mOp oIx (Q4 1) (mC (.int 1))) (mOp oIx (Q4 2) (mOp oIx (Q4 1) (mC (.int 1))))) (Ye (toB (mOp oEq (mOp oIx (Q4 1) (mC (.int 0))) (mC (.str "fall")))) (Q03 (Q4 2) (mOp oIx (Q4 1) (mC (.int 1))) (mOp oIx (Wf (Q4 0) (mC (.str "last"))) (mOp oIx (Q4 1) (mC (.int 1))))) (Ye (toB (mOp oEq (mOp oIx (Q4 1) (mC (.int 0))) (mC (.str "send")))) (W2 (mBM Wz (Wf (Q4 0) (mC (.str "letters"))) (Q3 (mOp oIx (Wf (Q4 0) (mC (.str "last"))) (mOp oIx (Q4 1) (mC (.int 1)))) Q9))) (Ye (toB (mOp oEq (mOp oIx (Q4 1) (mC (.int 0))) (mC (.str "come")))) (Q03 (Q4 2) (mOp oIx (Q4 1) (mC (.int 2))) (Qf 2 Xf (Q3 (mOp oIx (Q4 2) (mOp oIx (Q4 1) (mC (.int 2)))) (Q3 (mOp oIx (Wf (Q4 0) (mC (.str "letters"))) (mOp oIx (Q4 1) (mC (.int 1)))) Q9)))) (Qp (Je 3 (mOp oIx (Q4 1) (mC (.int 1))))
  (Qp (Je 4 (Qf 2 Zj (Q3 (mOp oIx (Q4 2) (Q4 3)) (Q3 (Q4 3) Q9))))
  (Qp (Ye (Q0d (toB (mOp oNe (mOp oIx (Q4 1) (mC (.int 0))) (mC (.str "make")))) (toB (mOp oLt (Q4 4) (mOp oIx (Q4 1) (Q4s (mC (.int 1))))))) (Jp (Q4 4)) Zy)
  (Qp (Je 5 (Qcy "make" "use" "lend" (Q4 3) (J5 Yp (Q3 (Q4 2) Q9)) (mOp oIx (Q4 1) (mC (.int 2))) (mOp oIx (Q4 1) (mC (.int 0)))))
  (Q03 (Q4 2) (Q4 3) (Qf 4 Y0 (Q3 (mOp oIx (Q4 2) (Q4 3)) (Q3 (Q4 3) (Q3 (Q4 5) (Q3 (mOp oIx (Q4 1) (Q4s (mC (.int 1)))) Q9))))))))))))))
  (Jp (mC (.str "done")))))
def qm:FN:=Qq Wa 6
theorem sc__law_astep:FnScope ["state", "deed", "now", "i", "have", "at"] ["state", "deed"] (Q8 yy):=⟨rfl,rfl,rfl,by decide +kernel,rfl,by decide +kernel,by decide +kernel⟩
theorem Q98 {f:Addr} {fd:FuncData} (F:Fun K "_law_astep" "_law_astep" yy f fd) (T:Txt mg)  (D__law_ajoined:DefS P w K mg base 1 "_law_ajoined" 2 Xf) (D__law_arights:DefS P w K mg base 1 "_law_arights" 2 Zj) (D__law_araised:DefS P w K mg base 1 "_law_araised" 4 Y0):FnOk P w K mg base (CXD P w) 2 f fd ["state", "deed"] (spF mg 2 qm):=by
 refine Qz (k:=1) (m:=Wa) F sc__law_astep rfl rfl rfl fun cdv A outer s H E hr=>?_
 exact (Qb (Qx 2 sc__law_astep.nd (Wx (Vp hr) (Q0 0) J0 (fun _ _=>rfl)))
  (Qb (Z1 (J9 (Wj hr.units) (Qs (Q0 1) Qa) J0) (Qd (Q6k (Qs (Q0 2) (Qs (Q0 1) Qa)) (Wx (Vp hr) (Q0 0) J0 (fun _ _=>rfl)) (Qs (Q0 1) Qa))) (Qd (Z1 (J9 (Wj hr.units) (Qs (Q0 1) Qa) J0) (Qd (Q6k (Qs (Wx (Vp hr) (Q0 0) J0 (fun _ _=>rfl)) (Qs (Q0 1) Qa)) (Q0 2) (Qs (Q0 1) Qa))) (Qd (Z1 (J9 (Wj hr.units) (Qs (Q0 1) Qa) J0) (Qd (Y9 (qq (Wx (Vp hr) (Q0 0) J0 (fun _ _=>rfl)) (Q1 (Qs (Wx (Vp hr) (Q0 0) J0 (fun _ _=>rfl)) (Qs (Q0 1) Qa)) Q6)))) (Qd (Z1 (J9 (Wj hr.units) (Qs (Q0 1) Qa) J0) (Qd (Q6k (Qg D__law_ajoined (hr.mono (by decide)) Qc rfl (Q1 (Qs (Q0 2) (Qs (Q0 1) Qa)) (Q1 (Qs (Wx (Vp hr) (Q0 0) J0 (fun _ _=>rfl)) (Qs (Q0 1) Qa)) Q6))) (Q0 2) (Qs (Q0 1) Qa))) (Qb (Qx 3 sc__law_astep.nd (Qs (Q0 1) Qa))
  (Qb (Qx 4 sc__law_astep.nd (Qg D__law_arights (hr.mono (by decide)) Qc rfl (Q1 (Qs (Q0 2) (Q0 3)) (Q1 (Q0 3) Q6))))
  (Qb (Z1 (SimW.t (Q6i (J9 (Q59 hr.units) (Qs (Q0 1) Qa) J0) (Q32 (J9 (Q3d hr.units) (Q0 4) (Qs (Q0 1) (Q0s Qa)))))) (Qd (Qw (Q0 4))) Zp)
  (Qb (Qx 5 sc__law_astep.nd (Qmx (Vp hr) (Q0 3) (Qt Yc rfl T.b_len PySem.boot_len (Q1 (Q0 2) Q6)) (Qs (Q0 1) Qa) (Qs (Q0 1) Qa) (fun _ _=>rfl)))
  (Qd (Q6k (Qg D__law_araised (hr.mono (by decide)) Qc rfl (Q1 (Qs (Q0 2) (Q0 3)) (Q1 (Q0 3) (Q1 (Q0 5) (Q1 (Qs (Q0 1) (Q0s Qa)) Q6))))) (Q0 2) (Q0 3))))))))))))))
  (Qd (Qw J0))))
def zi : MS := (Qp (Je 2 (J5 Yp (Q3 (Wf (Q4 1) (mC (.str "now"))) Q9)))
  (Qp (Je 3 (Qf 2 Qi (Q3 (Q4 0) (Q3 (Q4 2) Q9))))
  (Qp (Je 4 (Qf 2 Qi (Q3 (Q4 0) (Q3 (mC (.int 12)) Q9))))
  (Qp (Je 5 (J5 Q8h (Q3 (mC (.int 0)) (Q3 (Qf 2 Zj (Q3 (mOp oIx (Wf (Q4 1) (mC (.str "now"))) (Q4 3)) (Q3 (Q4 3) Q9))) Q9))))
  (Qp (Je 6 (mOp We (mC (.int 1)) (Qf 2 Qi (Q3 (Q4 0) (Q3 (mOp We (Q4 5) (mC (.int 2))) Q9)))))
  (Qp (Ye (toB (mOp oEq (Q4 4) (mC (.int 0)))) (Jp (Xn (Q3 (mC (.str "make")) (Q3 (Q4 3) (Q3 (Qf 1 Ww (Q3 (Q4 0) Q9)) Q9))))) Zy)
  (Qp (Ye (Q0d (toB (mOp oLt (Q4 4) (mC (.int 4)))) (toB (mOp (oI fun a b=>.bl (decide (b < a))) (Q4 2) (mC (.int 1))))) (Jp (Xn (Q3 (mC (.str "lend")) (Q3 (Q4 3) (Q3 (mOp Q3g (mOp We (mOp We (Q4 3) (mC (.int 1))) (Qf 2 Qi (Q3 (Q4 0) (Q3 (mOp (oI fun a b=>.int (a - b)) (Q4 2) (mC (.int 1))) Q9)))) (Q4 2)) (Q3 (Q4 6) Q9)))))) Zy)
  (Qp (Ye (toB (mOp oLt (Q4 4) (mC (.int 6)))) (Jp (Xn (Q3 (mC (.str "use")) (Q3 (Q4 3) (Q3 (Q4 6) Q9))))) Zy)
  (Qp (Ye (toB (mOp oLt (Q4 4) (mC (.int 8)))) (Jp (Xn (Q3 (mOp oIx (Q3p (Q3 (mC (.str "keep")) (Q3 (mC (.str "fall")) Q9))) (J5 Qfz (Q3 (mOp oEq (Qf 2 Qi (Q3 (Q4 0) (Q3 (mC (.int 3)) Q9))) (mC (.int 0))) Q9))) (Q3 (Q4 3) Q9)))) Zy)
  (Qp (Ye (Q0m (toB (mOp oEq (Q4 4) (mC (.int 8)))) (toB (mOp oEq (Wf (Q4 1) (mC (.str "letters"))) (Q3p Q9)))) (Jp (Xn (Q3 (mC (.str "send")) (Q3 (Q4 3) Q9)))) Zy)
  (Jp (Xn (Q3 (mC (.str "come")) (Q3 (Qf 2 Qi (Q3 (Q4 0) (Q3 (J5 Yp (Q3 (Wf (Q4 1) (mC (.str "letters"))) Q9)) Q9))) (Q3 (Q4 3) Q9)))))))))))))))
def U6:FN:=Qq zi 7
theorem sc__law_adrawn:FnScope ["tape", "state", "size", "i", "way", "have", "much"] ["tape", "state"] (Q8 jz):=⟨rfl,rfl,rfl,by decide +kernel,rfl,by decide +kernel,by decide +kernel⟩
theorem Q7b {f:Addr} {fd:FuncData} (F:Fun K "_law_adrawn" "_law_adrawn" jz f fd) (T:Txt mg)  (D__law_adigit:DefS P w K mg base 1 "_law_adigit" 2 Qi) (D__law_arights:DefS P w K mg base 1 "_law_arights" 2 Zj) (D__law_amuch:DefS P w K mg base 2 "_law_amuch" 1 Ww):FnOk P w K mg base (CXD P w) 3 f fd ["tape", "state"] (spF mg 2 U6):=by
 refine Qz (k:=2) (m:=zi) F sc__law_adrawn rfl rfl rfl fun cdv A outer s H E hr=>?_
 exact (Qb (Qx 2 sc__law_adrawn.nd (Qt Yc rfl T.b_len PySem.boot_len (Q1 (Wx (Vp hr) (Q0 1) J0 (fun _ _=>rfl)) Q6)))
  (Qb (Qx 3 sc__law_adrawn.nd (Qg D__law_adigit (hr.mono (by decide)) Qc rfl (Q1 (Q0 0) (Q1 (Q0 2) Q6))))
  (Qb (Qx 4 sc__law_adrawn.nd (Qg D__law_adigit (hr.mono (by decide)) Qc rfl (Q1 (Q0 0) (Q1 Qa Q6))))
  (Qb (Qx 5 sc__law_adrawn.nd (Qt (Qbj rfl) rfl T.b_max Q3z (Q1 Qa (Q1 (Qg D__law_arights (hr.mono (by decide)) Qc rfl (Q1 (Qs (Wx (Vp hr) (Q0 1) J0 (fun _ _=>rfl)) (Q0 3)) (Q1 (Q0 3) Q6))) Q6))))
  (Qb (Qx 6 sc__law_adrawn.nd (Ja Zq Qa (Qg D__law_adigit (hr.mono (by decide)) Qc rfl (Q1 (Q0 0) (Q1 (Ja Zq (Q0 5) Qa) Q6)))))
  (Qb (Z1 (J9 (Wj hr.units) (Q0 4) Qa) (Qd (Qw (V6 (Q1 J0 (Q1 (Q0 3) (Q1 (Qg D__law_amuch (hr.mono (by decide)) Qc rfl (Q1 (Q0 0) Q6)) Q6)))))) Zp)
  (Qb (Z1 (SimW.t (Q6i (J9 (Q3d hr.units) (Q0 4) Qa) (Q32 (J9 Q75 (Q0 2) Qa)))) (Qd (Qw (V6 (Q1 J0 (Q1 (Q0 3) (Q1 (Ja Q10 (Ja Zq (Ja Zq (Q0 3) Qa) (Qg D__law_adigit (hr.mono (by decide)) Qc rfl (Q1 (Q0 0) (Q1 (Ja Q0z (Q0 2) Qa) Q6)))) (Q0 2)) (Q1 (Q0 6) Q6))))))) Zp)
  (Qb (Z1 (J9 (Q3d hr.units) (Q0 4) Qa) (Qd (Qw (V6 (Q1 J0 (Q1 (Q0 3) (Q1 (Q0 6) Q6)))))) Zp)
  (Qb (Z1 (J9 (Q3d hr.units) (Q0 4) Qa) (Qd (Qw (V6 (Q1 (Qs (Q46 (Q1 J0 (Q1 J0 Q6))) (K7 Qq0 rfl T.b_int Qdh (Q1 (Xq (Wj hr.units) (Qg D__law_adigit (hr.mono (by decide)) Qc rfl (Q1 (Q0 0) (Q1 Qa Q6))) Qa) Q6))) (Q1 (Q0 3) Q6))))) Zp)
  (Qb (Z1 (SimW.t (Q29 (J9 (Wj hr.units) (Q0 4) Qa) (Q0n (J9 (Wj hr.units) (Wx (Vp hr) (Q0 1) J0 (fun _ _=>rfl)) (Q46 Q6))))) (Qd (Qw (V6 (Q1 J0 (Q1 (Q0 3) Q6))))) Zp)
  (Qd (Qw (V6 (Q1 J0 (Q1 (Qg D__law_adigit (hr.mono (by decide)) Qc rfl (Q1 (Q0 0) (Q1 (Qt Yc rfl T.b_len PySem.boot_len (Q1 (Wx (Vp hr) (Q0 1) J0 (fun _ _=>rfl)) Q6)) Q6))) (Q1 (Q0 3) Q6))))))))))))))))
def K0 : MS := (Qp (W2 (mBM Wz (Q4 5) (Q3 (Qf 2 U6 (Q3 (Q4 8) (Q3 (Q4 4) Q9))) Q9)))
  (W2 (mBM Wz (Q4 6) (Q3 (Qf 2 qm (Q3 (Q4 4) (Q3 (mOp oIx (Q4 5) (Q4s (mC (.int 1)))) Q9))) Q9))))
def K1 : MS := (Qp (Je 8 (Qf 2 W1 (Q3 (Q4 0) (Q3 (Q4 7) Q9))))
  (Q7r (Qn 9) (Ys (Q3 (mC (.int 3)) Q9)) K0))
def jb : MS := (Qp (Je 4 (Qf 1 U5 (Q3 (Q4 3) Q9)))
  (Qp (Je 5 (Q0i (jq Q9)))
  (Qp (Je 6 (Q0i (jq Q9)))
  (Qp (Q7r (Qn 7) (Q3n (Q3 (Q4 1) (Q3 (mOp We (Q4 1) (Q4 2)) Q9))) K1)
  (Jp (Xn (Q3 (Q4 5) (Q3 (Q4 6) (Q3 (Q4 4) Q9)))))))))
def Vn:FN:=Yj jb 10
theorem sc__law_aplayed:FnScope ["script", "start", "many", "table", "state", "deeds", "answers", "k", "tape", "turn"] ["script", "start", "many", "table"] (Q8 qy):=⟨rfl,rfl,rfl,by decide +kernel,rfl,by decide +kernel,by decide +kernel⟩
theorem Q5p {f:Addr} {fd:FuncData} (F:Fun K "_law_aplayed" "_law_aplayed" qy f fd) (T:Txt mg)  (D__law_astart:DefS P w K mg base 1 "_law_astart" 1 U5) (D__law_atape:DefS P w K mg base 2 "_law_atape" 2 W1) (D__law_adrawn:DefS P w K mg base 3 "_law_adrawn" 2 U6) (D__law_astep:DefS P w K mg base 2 "_law_astep" 2 qm):FnOk P w K mg base (CXD P w) 4 f fd ["script", "start", "many", "table"] (spF mg 4 Vn):=by
 refine Wc (k:=3) (m:=jb) F sc__law_aplayed rfl rfl rfl fun cdv A outer s H E hr=>?_
 exact (Qb (Qx 4 sc__law_aplayed.nd (Qg D__law_astart (hr.mono (by decide)) Qc rfl (Q1 (Q0 3) Q6)))
  (Qb (Qx 5 sc__law_aplayed.nd (Kh (ym Q6)))
  (Qb (Qx 6 sc__law_aplayed.nd (Kh (ym Q6)))
  (Qb (Q0p PassesOwn.leaving rfl (Qg8 rfl T.b_range (Q1 (Q0 1) (Q1 (Ja Zq (Q0 1) (Q0 2)) Q6))) (J1 (i:=7) sc__law_aplayed.nd) (Qb (Qx 8 sc__law_aplayed.nd (Qg D__law_atape (hr.mono (by decide)) Qc rfl (Q1 (Q0 0) (Q1 (Q0 7) Q6))))
  (Qd (Q0p PassesOwn.leaving rfl (Yr rfl T.b_range (Q1 Qa Q6)) (J1 (i:=9) sc__law_aplayed.nd) (Qb (Y9 (qq (Q0 5) (Q1 (Qg D__law_adrawn (hr.mono (by decide)) Qc rfl (Q1 (Q0 8) (Q1 (Q0 4) Q6))) Q6)))
  (Qd (Y9 (qq (Q0 6) (Q1 (Qg D__law_astep (hr.mono (by decide)) Qc rfl (Q1 (Q0 4) (Q1 (Qs (Q0 5) (Q0s Qa)) Q6))) Q6)))))))))
  (Qd (Qw (V6 (Q1 (Q0 5) (Q1 (Q0 6) (Q1 (Q0 4) Q6))))))))))
def zk : MS := (Qp (Je 1 (Qf 2 W1 (Q3 (Q4 0) (Q3 (mC (.int 0)) Q9))))
  (Qp (Je 2 (mOp We (mC (.int 1)) (Qf 2 Qi (Q3 (Q4 1) (Q3 (mC (.int 8)) Q9)))))
  (Jp (Qf 3 U4 (Q3 (Q4 1) (Q3 (Q4 2) (Q3 (Qf 2 Qi (Q3 (Q4 1) (Q3 (mC (.int 9)) Q9))) Q9)))))))
def U7:FN:=Qq zk 3
theorem sc__law_abegun:FnScope ["script", "tape", "size"] ["script"] (Q8 z9):=⟨rfl,rfl,rfl,by decide +kernel,rfl,by decide +kernel,by decide +kernel⟩
theorem Q7d {f:Addr} {fd:FuncData} (F:Fun K "_law_abegun" "_law_abegun" z9 f fd) (T:Txt mg)  (D__law_atape:DefS P w K mg base 2 "_law_atape" 2 W1) (D__law_adigit:DefS P w K mg base 1 "_law_adigit" 2 Qi) (D__law_atable:DefS P w K mg base 3 "_law_atable" 3 U4):FnOk P w K mg base (CXD P w) 4 f fd ["script"] (spF mg 1 U7):=by
 refine Qz (k:=3) (m:=zk) F sc__law_abegun rfl rfl rfl fun cdv A outer s H E hr=>?_
 exact (Qb (Qx 1 sc__law_abegun.nd (Qg D__law_atape (hr.mono (by decide)) Qc rfl (Q1 (Q0 0) (Q1 Qa Q6))))
  (Qb (Qx 2 sc__law_abegun.nd (Ja Zq Qa (Qg D__law_adigit (hr.mono (by decide)) Qc rfl (Q1 (Q0 1) (Q1 Qa Q6)))))
  (Qd (Qw (Qg D__law_atable (hr.mono (by decide)) Qc rfl (Q1 (Q0 1) (Q1 (Q0 2) (Q1 (Qg D__law_adigit (hr.mono (by decide)) Qc rfl (Q1 (Q0 1) (Q1 Qa Q6))) Q6))))))))
def Q0h:MS:=(Ye (Q0m (toB (mOp oNe (Q2u "str" (Q4 4)) (Q2u "str" (Q4 3)))) (toB (Q2u "bool" (Q4 3)))) (Jp (mC (.bl false))) Zy)
def zh : MS := (Qp (Ye (Q0m (Vg (toB (Q2u "tuple" (Q4 0)))) (Q0m (toB (mOp oNe (J5 Yp (Q3 (Q4 0) Q9)) (mC (.int 2)))) (Vg (toB (Q2u "list" (mOp oIx (Q4 0) (mC (.int 0)))))))) (Jp (mC (.bl false))) Zy)
  (Qp (Q7r (K9 (Zx (Qn 3) (Zx (Qn 4) Ka))) (Q5v (Q3 (mOp oIx (Q4 0) (mC (.int 0))) (Q3 (Q4 1) Q9))) Q0h)
  (Jp (Q4t (mOp oEq (mOp oIx (Q4 0) (mC (.int 0))) (Q4 1)) (Q4t (Q2u "list" (mOp oIx (Q4 0) (mC (.int 1)))) (mOp oEq (mOp oIx (Q4 0) (mC (.int 1))) (Q4 2)))))))
def Ym:FN:=Qq zh 5
theorem sc__law_aright:FnScope ["found", "answers", "tables", "one", "due"] ["found", "answers", "tables"] (Q8 jy):=⟨rfl,rfl,rfl,by decide +kernel,rfl,by decide +kernel,by decide +kernel⟩
theorem Q7a {f:Addr} {fd:FuncData} (F:Fun K "_law_aright" "_law_aright" jy f fd) (T:Txt mg)   : FnOk P w K mg base (CXD P w) 1 f fd ["found", "answers", "tables"] (spF mg 3 Ym):=by
 refine Qz (k:=0) (m:=zh) F sc__law_aright rfl rfl rfl fun cdv A outer s H E hr=>?_
 exact (Qb (Z1 (SimW.t (Q29 (V5 (W0 (Ki (T := "tuple") (by decide) (Q0 0) rfl T.b_isinstance rfl T.b_tuple Wg))) (Q29 (J9 (Q59 hr.units) (Qt Yc rfl T.b_len PySem.boot_len (Q1 (Q0 0) Q6)) Qa) (Q0n (V5 (W0 (Ki (T := "list") (by decide) (Qs (Q0 0) Qa) rfl T.b_isinstance rfl T.b_list Q54))))))) (Qd (Qw Q36)) Zp)
  (Qb (Q0p PassesOwn.leaving rfl (Q44 rfl T.b_zip (Q1 (Qs (Q0 0) Qa) (Q1 (Q0 1) Q6))) (Q2f rfl (W4 (J1 (i:=3) sc__law_aright.nd) (W4 (J1 (i:=4) sc__law_aright.nd) yn))) (Qd (Z1 (SimW.t (Q29 (J9 (Q59 hr.units) (Ki (T := "str") (by decide) (Q0 4) rfl T.b_isinstance rfl T.b_str Q8j) (Ki (T := "str") (by decide) (Q0 3) rfl T.b_isinstance rfl T.b_str Q8j)) (Q0n (W0 (Ki (T := "bool") (by decide) (Q0 3) rfl T.b_isinstance rfl T.b_bool Qaf))))) (Qd (Qw Q36)) Zp)))
  (Qd (Qw (yq (Xq (Wj hr.units) (Qs (Q0 0) Qa) (Q0 1)) (yq (Ki (T := "list") (by decide) (Qs (Q0 0) Qa) rfl T.b_isinstance rfl T.b_list Q54) (Q0r (Xq (Wj hr.units) (Qs (Q0 0) Qa) (Q0 2)))))))))
def Qbg (C:Addr):ME:=(Q4 1)
def Qju (C : Addr) : MS := (Qp (Je 1 (Qf 1 U7 (Q3 (Q4 0) Q9)))
  (Qp (Qk0 (K9 (Zx (Qn 2) (Zx (Qn 3) (Zx (Qn 4) Ka)))) (Qf 4 Vn (Q3 (Q4 0) (Q3 (mC (.int 1)) (Q3 (J5 Q8h (Q3 (mC (.int 4)) (Q3 (J5 Qhv (Q3 (mC (.int 13)) (Q3 (mOp (oI fun a b=>.int (a - b)) (J5 Yp (Q3 (Q4 0) Q9)) (mC (.int 1))) Q9))) Q9))) (Q3 (Q4 1) Q9))))))
  (Qp (Je 5 (J5 Q1f (Q3 (Q4 2) Q9)))
  (Qp (Je 6 (Qf 2 (Xc C) (Q3 (Q4 1) (Q3 (Q4 5) Q9))))
  (Qp (Ye (Q0m (Vg (toB (Qf 3 Ym (Q3 (Q4 6) (Q3 (Q4 3) (Q3 (Wf (Q4 4) (mC (.str "now"))) Q9)))))) (toB (mOp oNe (Q4 5) (Q4 2)))) (Jp (mC (.bl false))) Zy)
  (Qp (W2 (Qej (mOp oIx (Q4 6) (mC (.int 0)))))
  (Qp (W2 (Qej (mOp oIx (Q4 6) (mC (.int 1)))))
  (Qp (Ye (Vg (toB (Qf 3 Ym (Q3 (Qf 2 (Xc C) (Q3 (Q4 1) (Q3 (Q4 2) Q9))) (Q3 (Q4 3) (Q3 (Wf (Q4 4) (mC (.str "now"))) Q9)))))) (Jp (mC (.bl false))) Zy)
  (Jp (Qf 3 Ym (Q3 (Qf 2 (Xc C) (Q3 (Q4 1) (Q3 (Q3p Q9) Q9))) (Q3 (Q3p Q9) (Q3 (Xv (Yb [none,some 1] (Qn 0) (zw (Q4 1)) Zn (Qbg C))) Q9)))))))))))))
def Qqw (C:Addr):FN:=Qq (Qju C) 7
theorem sc_law:FnScope ["script", "start", "deeds", "answers", "state", "handed", "found"] ["script"] (Q8 Q38):=⟨rfl,rfl,rfl,by decide +kernel,rfl,by decide +kernel,by decide +kernel⟩
theorem Qsd {f:Addr} {fd:FuncData} {C:Addr} (F:Fun K "law" "law" Q38 f fd) (T:Txt mg) (TC:ClsT K C)  (D__law_abegun:DefS P w K mg base 4 "_law_abegun" 1 U7) (D__law_aplayed:DefS P w K mg base 4 "_law_aplayed" 4 Vn) (D_played:DefS P w K mg base 10 "played" 2 (Xc C)) (D__law_aright:DefS P w K mg base 1 "_law_aright" 3 Ym):FnOk P w K mg base (CXD P w) 11 f fd ["script"] (spF mg 1 (Qqw C)):=by
 refine Qz (k:=10) (m:=(Qju C)) F sc_law rfl rfl rfl fun cdv A outer s H E hr=>?_
 exact (Qb (Qx 1 sc_law.nd (Qg D__law_abegun (hr.mono (by decide)) Qc rfl (Q1 (Q0 0) Q6)))
  (Qb (Qra (Qg D__law_aplayed (hr.mono (by decide)) Qc rfl (Q1 (Q0 0) (Q1 Qa (Q1 (Qt (Qbj rfl) rfl T.b_max Q3z (Q1 Qa (Q1 (Qt (Qt1 rfl) rfl T.b_min Qm1 (Q1 Qa (Q1 (Ja Q0z (Qt Yc rfl T.b_len PySem.boot_len (Q1 (Q0 0) Q6)) Qa) Q6))) Q6))) (Q1 (Q0 1) Q6))))) (Q2f rfl (W4 (J1 (i:=2) sc_law.nd) (W4 (J1 (i:=3) sc_law.nd) (W4 (J1 (i:=4) sc_law.nd) yn)))))
  (Qb (Qx 5 sc_law.nd (K7 Qpz rfl T.b_list Q54 (Q1 (Q0 2) Q6)))
  (Qb (Qx 6 sc_law.nd (Qg D_played (hr.mono (by decide)) Qc rfl (Q1 (Q0 1) (Q1 (Q0 5) Q6))))
  (Qb (Z1 (SimW.t (Q29 (V5 (W0 (Qg D__law_aright (hr.mono (by decide)) Qc rfl (Q1 (Q0 6) (Q1 (Q0 3) (Q1 (Wx (Vp hr) (Q0 4) J0 (fun _ _=>rfl)) Q6)))))) (Q0n (J9 (Q59 hr.units) (Q0 5) (Q0 2))))) (Qd (Qw Q36)) Zp)
  (Qb (Y9 (Qip (Qs (Q0 6) Qa)))
  (Qb (Y9 (Qip (Qs (Q0 6) Qa)))
  (Qb (Z1 (V5 (W0 (Qg D__law_aright (hr.mono (by decide)) Qc rfl (Q1 (Qg D_played (hr.mono (by decide)) Qc rfl (Q1 (Q0 1) (Q1 (Q0 2) Q6))) (Q1 (Q0 3) (Q1 (Wx (Vp hr) (Q0 4) J0 (fun _ _=>rfl)) Q6)))))) (Qd (Qw Q36)) Zp)
  (Qd (Qw (Qg D__law_aright (hr.mono (by decide)) Qc rfl (Q1 (Qg D_played (hr.mono (by decide)) Qc rfl (Q1 (Q0 1) (Q1 (Q46 Q6) Q6))) (Q1 (Q46 Q6) (Q1 (Wu (Yg [none,some 1] ["row", "start"] rfl (Xp (Q0 1)) (fun _ _ _ _ _=>(J1 (i:=0) (show (["row", "start"]:List Str).Nodup by decide +kernel))) (fun _ _ _ _ _=>(Q0 1)) (fun _ _ _ _ _=>Yz) Jm)) Q6))))))))))))))
end
end Lw
namespace Lw
open PySem PySem.Spec L2 Sm
theorem Q69 (a:Int) {b:Int} (h:0 < b):0<=a % b/\a % b < b:=⟨Int.emod_nonneg a (by omega),Int.emod_lt_of_pos a h⟩
def Qy (r:List Int):PV:=.tup (r.map .int)
def Q7 (tb:List (List Int)):PV:=.tup (tb.map Qy)
theorem Qez {α:Type} (xs:List α) (p:α->Bool):(xs.map p).all id=xs.all p:=by
 rw [List.all_map]; rfl
structure Wt' (n:Nat) (tb:List (List Int)):Prop where
 len:tb.length=n
 row:∀ r∈tb,r.length=n + 1
 nn:∀ r∈tb,∀ x∈r,(0:Int)<=x
 n1:1<=n
 n8:n<=8
def W9 (n:Nat) (f:Nat->Int):Int:=((List.range n).map f).sum
theorem Jn (n:Nat) (f:Nat->Int):W9 (n + 1) f=W9 n f + f n:=by
 unfold W9;rw [List.range_succ,F3,List.sum_append];simp
theorem Ub {n:Nat} {f g:Nat->Int} (h:∀ i,i < n->f i=g i):W9 n f=W9 n g:=by
 induction n with
 | zero=>rfl
 | succ n ih=>rw [Jn,Jn,ih fun i hi=>h i (by omega),h n (by omega)]
theorem Qbx (n:Nat) (f g:Nat->Int):W9 n (fun i=>f i + g i)=W9 n f + W9 n g:=by
 induction n with
 | zero=>rfl
 | succ n ih=>rw [Jn,Jn,Jn,ih]; omega
theorem Qic (n:Nat) (f g:Nat->Int):W9 n (fun i=>f i - g i)=W9 n f - W9 n g:=by
 induction n with
 | zero=>rfl
 | succ n ih=>rw [Jn,Jn,Jn,ih]; omega
theorem Q43 (n:Nat):W9 n (fun _=>0)=0:=by
 induction n with
 | zero=>rfl
 | succ n ih=>rw [Jn,ih]; rfl
theorem Q57 {n:Nat} {f:Nat->Int} (h:∀ i,i < n->0<=f i):0<=W9 n f:=by
 induction n with
 | zero=>exact Int.le_refl _
 | succ n ih=>rw [Jn]; have:=ih fun i hi=>h i (by omega); have:=h n (by omega); omega
theorem Qcu {α β:Type} (l:List α) (d:α) (f:α->β):l.map f=(List.range l.length).map fun i=>f (l.getD i d):=by
 refine List.ext_getElem? fun i=>?_
 rw [E6,E6]
 by_cases hi:i < l.length
 ·rw [List.getElem?_range hi,getD_some hi d]; rfl
 ·rw [List.getElem?_eq_none (by omega),List.getElem?_eq_none (by rw [G6]; omega)]; rfl
theorem Qc0 (r:List Int):r.sum=W9 r.length fun j=>r.getD j 0:=by
 have:=Qcu r 0 id;rw [List.map_id] at this;rw [W9]
 conv=>lhs; rw [this]
 rfl
def ent (tb:List (List Int)) (i j:Nat):Int:=(tb.getD i []).getD j 0
def Sz (n:Nat) (tb:List (List Int)):Prop:=tb.length=n/\∀ r∈tb,r.length=n + 1
theorem Wt'.sz {n:Nat} {tb:List (List Int)} (w:Wt' n tb):Sz n tb:=⟨w.len,w.row⟩
theorem Sz.row {n i:Nat} {tb:List (List Int)} (z:Sz n tb) (hi:i < n):tb[i]?=some (tb.getD i [])/\(tb.getD i []).length=n + 1:=by
 have e:=getD_some (show i < tb.length by rw [z.1]; exact hi) [];exact ⟨e,z.2 _ (D2 e)⟩
theorem Sz.cell {n i j:Nat} {tb:List (List Int)} (z:Sz n tb) (hi:i < n) (hj:j<=n):(tb.getD i [])[j]?=some (ent tb i j):=getD_some (by rw [(z.row hi).2]; omega) 0
theorem Wt'.ent_nn {n i j:Nat} {tb:List (List Int)} (w:Wt' n tb) (hi:i < n) (hj:j<=n):0<=ent tb i j:=w.nn _ (D2 (w.sz.row hi).1) _ (D2 (w.sz.cell hi hj))
theorem Wt'.of_ent {n:Nat} {tb:List (List Int)} (z:Sz n tb) (h1:1<=n) (h8:n<=8) (h:∀ i j,i < n->j<=n->0<=ent tb i j):Wt' n tb:=by
 refine ⟨z.1,z.2,fun r hr x hx=>?_,h1,h8⟩;obtain ⟨i,hi,e⟩:=List.mem_iff_getElem.mp hr;obtain ⟨j,hj,e2⟩:=List.mem_iff_getElem.mp hx;have hl:=z.2 r hr;have:=h i j (by rw [<- z.1]; exact hi) (by omega);have e3:tb.getD i []=r:=by rw [List.getD,O4 hi,e]; rfl
 have e4:r.getD j 0=x:=by rw [List.getD,O4 hj,e2]; rfl
 unfold ent at this;rw [e3,e4] at this;exact this
theorem Q06 (i:Int) (st:Q2):Wv [.int i] st=.ok (.bl true) st:=by
 simp [Wv,Qq,Q2r,isI,tyN]
theorem Q9m (a b c:Int) (st:Q2):Xe [.int a,.int b,.int c] st=.ok (.bl (decide (b<=a) && decide (a<=c))) st:=by
 by_cases h:b<=a <;> simp [Xe,Qq,Q00,Q06,h]
theorem Q18 {V:PV} {n:Nat} {st:Q2} (hV:Yp st [V]=.ok (.int n) st) (i:Int):Yd [V,.int i] st=.ok (.bl (decide (0<=i) && decide (i < n))) st:=by
 have e:decide (i<=(n:Int) - 1)=decide (i < (n:Int)):=by
  rw [decide_eq_decide]; omega
 simp [Yd,Qq,Q2t,hV,Q9m,e]
theorem Qbc {V:PV} {n i:Nat} {st:Q2} (hV:Yp st [V]=.ok (.int n) st) (hi:i < n):Yd [V,.int i] st=.ok (.bl true) st:=by
 rw [Q18 hV];simp; omega
def Zz (k:Nat):PV:=.int (k:Int)
theorem Qpt {n r:Nat} {S:Q2} {hs:List Int} (hr:n<=r) (h:S[r]?=some (.lst (hs.map .int))):fz n S 16 (.ref r)=some (.lst (hs.map .int)):=by
 have hg:Zi 12 (.lst (hs.map .int))=true:=by simp [Zi]
 have:=Q67 (n:=n) (st:=S) (k:=16) hg (by decide);rw [fz,if_neg (by omega),h];simpa [fz] using this
def Qr (tb:List (List Int)) (h:Nat):Int:=W9 tb.length (fun o=>ent tb o h) - ((tb.getD h []).sum - ent tb h h)
theorem j7 {n h:Nat} {tb:List (List Int)} (z:Sz n tb) (hh:h < n):Qr tb h=W9 n (fun o=>ent tb o h) - (W9 n (fun j=>ent tb h j) + ent tb h n - ent tb h h):=by
 unfold Qr;rw [z.1,Qc0 (tb.getD h []),(z.row hh).2,Jn];rfl
theorem Q9w {n h:Nat} {tb:List (List Int)} (z:Sz n tb) (hn:n<=100) (hh:h < n) (st:Q2):U3 [Q7 tb,.int h] st=.ok (.int (Qr tb h)) st:=by
 have hH:=Qbc (V:=Q7 tb) (n:=n) (i:=h) (st:=st) (by simp [Q7,z.1]) hh;have hc:Z0 (Qn 0) Zn Q2w [] (Zk [none,some 1] [some (Q7 tb),some (.int h),none,none,none]) (tb.map Qy) st=.ok (tb.map fun r=>.int (r.getD h 0)) st:=by
  refine Yx _ _ (by simp) fun r hr=>⟨_,rfl,?_⟩
  have e:=atI_get (getD_some (show h < r.length by rw [z.2 r hr]; omega) 0);simp [Zk,Q2w,Qy,K5,e]
 have e1:=atI_get (z.row hh).1;have e2:=atI_get (z.cell hh (E8 hh));have hs:(tb.map fun r=>r.getD h 0).sum=W9 n fun o=>ent tb o h:=by
  rw [Qcu tb [] fun r=>r.getD h 0,z.1]; rfl
 have hl:tb.length<=1000000:=by rw [z.1]; omega
 unfold Qr;rw [z.1,<- hs];obtain ⟨r,hr⟩:∃ r,tb.getD h []=r:=⟨_,rfl⟩;obtain ⟨x,hx⟩:∃ x,ent tb h h=x:=⟨_,rfl⟩;rw [hr] at e1 e2 ⊢;rw [hx] at e2 ⊢;obtain ⟨q,hq⟩:∃ q,(tb.map fun r=>r.getD h 0)=q:=⟨_,rfl⟩;have hq2:(tb.map fun r=>PV.int (r.getD h 0))=q.map .int:=by rw [<- hq,List.map_map]; rfl
 rw [hq2] at hc;rw [hq];unfold Q7 at hH hc ⊢;simp [U3,Qq,Q7j,hH,hc,hl,Zh,K5,e1,Qy,e2]
theorem Q0b {n i j:Nat} {tb:List (List Int)} (z:Sz n tb) (hi:i < n) (hj:j<=n) (st:Q2):oIx st (Q7 tb) (.int i)=.ok (Qy (tb.getD i [])) st/\oIx st (Qy (tb.getD i [])) (.int j)=.ok (.int (ent tb i j)) st:=by
 constructor
 ·unfold Q7; rw [Qfg,K5,atI_get (z.row hi).1]; rfl
 ·unfold Qy; rw [Qfg,K5,atI_get (z.cell hi hj)]; rfl
def Q0e (tb:List (List Int)) (h:Nat):Bool:=decide (0 < ent tb h h)
theorem Qp3 {n h:Nat} {tb:List (List Int)} (z:Sz n tb) (hh:h < n) (st:Q2):Kb [Q7 tb,.int h] st=.ok (.bl (Q0e tb h)) st:=by
 obtain ⟨c1,c2⟩:=Q0b z hh (E8 hh) st;unfold Q0e;generalize ent tb h h=x at *;generalize tb.getD h []=r at *;simp [Kb,Qq,Q14,c1,c2]
def U2 (tb:List (List Int)) (h:Nat):Bool:=decide (ent tb h h < (tb.getD h []).sum)
theorem Qq5 {n h:Nat} {tb:List (List Int)} (z:Sz n tb) (hh:h < n) (st:Q2):Yy [Q7 tb,.int h] st=.ok (.bl (U2 tb h)) st:=by
 obtain ⟨c1,c2⟩:=Q0b z hh (E8 hh) st;unfold U2;generalize ent tb h h=x at *;generalize tb.getD h []=r at *;have c3:Xb (fun ns=>some (.int ns.sum)) st [Qy r]=.ok (.int r.sum) st:=by unfold Qy; rw [Qhw]; rfl
 simp [Yy,Qq,Vv,c1,c2,c3]
def Qcz (tb:List (List Int)) (h:Nat) (ls:List Nat):Bool:=ls.any fun o=>decide (o≠h) && decide (0 < ent tb o h)
theorem Qm5 {α:Type} (xs:List α) (p:α->Bool):(xs.map p).any id=xs.any p:=by
 rw [List.any_map]; rfl
theorem Qpf {n h:Nat} {tb:List (List Int)} (z:Sz n tb) (hh:h < n) {ls:List Nat} (hl:∀ o∈ls,o < n) (hll:ls.length<=1000) {V:PV} {st:Q2} (hV:ListAt st V (ls.map Zz)):V3 [Q7 tb,.int h,V] st=.ok (.bl (Qcz tb h ls)) st:=by
 obtain ⟨w,hsrc,hw⟩:=hV.src;have hc:Z0 (Qn 0) Ur X6 w (Zk [none,some 1,some 0] [some (Q7 tb),some (.int h),some V]) (ls.map Zz) st=.ok ((ls.filter fun o=>decide (o≠h)).map fun o=>.bl (decide (0 < ent tb o h))) st:=by
  refine Q1x _ _ _ hw fun o ho=>⟨_,rfl,?_,fun ht=>?_⟩
  ·simp [Zk,Ur,Zz]
   by_cases e:o=h
   ·simp [e]
   ·have:¬ ((o:Int)=h):=by omega
    simp [e,this]
  ·obtain ⟨c1,c2⟩:=Q0b z (hl o ho) (E8 hh) st;generalize ent tb o h=x at *;generalize tb.getD o []=r at *;simp [Zk,X6,Zz,c1,c2]
 have hll':(ls.map Zz).length<=1000000:=by rw [O2]; omega
 have hlf:Qcz tb h ls=((ls.filter fun o=>decide (o≠h)).map fun o=>decide (0 < ent tb o h)).any id:=by
  rw [Qm5,List.any_filter]; rfl
 rw [hlf];generalize ls.map Zz=ov at *;generalize ls.filter (fun o=>decide (o≠h))=fs at *
 simp [V3,Qq,Kr,hsrc,hll',Zh,hc,-List.any_map]
def xn (tb:List (List Int)) (h:Nat) (ls:List Nat):Bool:=Q0e tb h || Qcz tb h ls
theorem Qmz {n h:Nat} {tb:List (List Int)} (z:Sz n tb) (hh:h < n) {ls:List Nat} (hl:∀ o∈ls,o < n) (hll:ls.length<=1000) {V:PV} {st:Q2} (hV:ListAt st V (ls.map Zz)):K2 [Q7 tb,.int h,V] st=.ok (.bl (xn tb h ls)) st:=by
 have h1:=Qp3 z hh st;have h2:=Qpf z hh hl hll hV;unfold xn;cases hm:Q0e tb h with
 | true=>rw [hm] at h1; simp [K2,Qq,Q01,h1]
 | false=>rw [hm] at h1; simp [K2,Qq,Q01,h1,h2]
theorem Qpq (hs:List Int) (x:Int):((hs.map PV.int).any fun y=>peq y (.int x))=decide (x∈hs):=by
 rw [List.any_map,Bool.eq_iff_iff,List.any_eq_true,decide_eq_true_iff];constructor
 ·rintro ⟨y,hy,e⟩;have:y=x:=by simpa [peq] using e
  rw [<- this]; exact hy
 ·intro h;exact ⟨x,h,by simp [peq]⟩
theorem Qqp {hs:List Int} {V:PV} {st:Q2} (hV:ListAt st V (hs.map .int)) (x:Int) (b:Bool):oIn b st (.int x) V=.ok (.bl (decide (x∈hs) != b)) st:=by
 have hq:Uv st V=some (hs.map .int):=by
  rcases hV with rfl | rfl | ⟨i,rfl,e⟩
  ·rfl
  ·rfl
  ·rw [Q34,e]
 have hd:der st (.int x)=.int x:=rfl;have g1:Zi dep (.int x)=true:=rfl;have g2:(hs.map PV.int).all (Zi dep)=true:=by simp [Zi,dep]
 unfold oIn;rw [hq,hd];simp only [g1,g2,and_self,if_true,Qpq]
def Qkz (n:Nat) (tb:List (List Int)) (h:Nat):Bool:=(List.range (n + 1)).any fun j=>decide (j≠h) && decide (0 < ent tb h j)
theorem Qap {n j:Nat} {f:Nat->Int} (hf:∀ i,i < n->0<=f i) (hj:j < n):f j<=W9 n f:=by
 induction n with
 | zero=>exact absurd hj (Nat.not_lt_zero _)
 | succ n ih=>
  rw [Jn];have hn0:=hf n (Nat.lt_succ_self n)
  by_cases e:j=n
  ·subst e;have:=Q57 (f:=f) (n:=j) fun i hi=>hf i (Nat.lt_succ_of_lt hi)
   omega
  ·have:=ih (fun i hi=>hf i (Nat.lt_succ_of_lt hi)) (by omega)
   omega
theorem Qif {n h:Nat} (f:Nat->Int) (hh:h < n):W9 n f=f h + W9 n fun j=>if j≠h then f j else 0:=by
 induction n with
 | zero=>exact absurd hh (Nat.not_lt_zero _)
 | succ n ih=>
  rw [Jn,Jn]
  by_cases e:n=h
  ·subst e;rw [if_neg (by simp),Ub (f:=f) (g:=fun j=>if j≠n then f j else 0) fun i hi=>by rw [if_pos (by omega)]]
   omega
  ·rw [if_pos e,ih (by omega)];omega
theorem Qid {n h:Nat} {f:Nat->Int} (hf:∀ i,i < n->0<=f i) (hh:h < n):f h < W9 n f <-> ∃ j,j < n/\j≠h/\0 < f j:=by
 have e:=Qif f hh;have hg:∀ i,i < n->0<=(fun j=>if j≠h then f j else 0) i:=fun i hi=>by
  show 0<=if i≠h then f i else 0
  split
  ·exact hf i hi
  ·exact Int.le_refl _
 constructor
 ·intro q;refine Classical.byContradiction fun hno=>?_
  have:W9 n (fun j=>if j≠h then f j else 0)=W9 n fun _=>0:=Ub fun i hi=>by
   by_cases ei:i=h
   ·rw [if_neg (by simp [ei])]
   ·rw [if_pos ei];have h1:=hf i hi;have h2:¬ 0 < f i:=fun q=>hno ⟨i,hi,ei,q⟩
    omega
  rw [Q43] at this;omega
 ·rintro ⟨j,hj,hne,hp⟩;have:=Qap hg hj;simp only [if_pos hne] at this;omega
theorem Qq6 {n h:Nat} {tb:List (List Int)} (w:Wt' n tb) (hh:h < n):Qkz n tb h=U2 tb h:=by
 have hs:(tb.getD h []).sum=W9 (n + 1) fun j=>ent tb h j:=by
  rw [Qc0,(w.sz.row hh).2]; rfl
 have hp:=(Qid (n:=n + 1) (h:=h) (f:=fun j=>ent tb h j) (fun i hi=>w.ent_nn hh (by omega)) (by omega))
 unfold Qkz U2;rw [hs,Bool.eq_iff_iff,List.any_eq_true,decide_eq_true_iff,hp];constructor
 ·rintro ⟨j,hj,q⟩;simp at q;exact ⟨j,E7.mp hj,q.1,q.2⟩
 ·rintro ⟨j,hj,a,b⟩;exact ⟨j,E7.mpr hj,by simp [a,b]⟩
theorem Qxv (x:Int) {n:Nat} (h:1<=n):∃ k:Nat,k < n/\x % (n:Int)=(k:Int):=by
 have:=Q69 x (b:=(n:Int)) (by omega);exact ⟨(x % (n:Int)).toNat,by omega,by omega⟩
def kn3 (tb:List (List Int)) (i:Nat) (bs:List Bool) (j:Nat):List Bool:=if bs.getD i false=true/\i≠j/\0 < ent tb i j then bs.set j true else bs
def kn2 (n:Nat) (tb:List (List Int)) (bs:List Bool) (i:Nat):List Bool:=(List.range n).foldl (kn3 tb i) bs
def kn1 (n:Nat) (tb:List (List Int)) (bs:List Bool) (_:Nat):List Bool:=(List.range n).foldl (kn2 n tb) bs
def Qbb (n:Nat) (tb:List (List Int)):List Bool:=(List.range n).map (Q0e tb)
def Q4w (n:Nat) (tb:List (List Int)):List Bool:=(List.range n).foldl (kn1 n tb) (Qbb n tb)
theorem Q86 {α β:Type} {f:List α->β->List α} (h:∀ bs x,(f bs x).length=bs.length):∀ (xs:List β) (bs:List α),(xs.foldl f bs).length=bs.length
 | [],_=>rfl
 | x :: xs,bs=>by rw [List.foldl_cons,Q86 h xs,h]
theorem Qfp (tb:List (List Int)) (i:Nat) (bs:List Bool) (j:Nat):(kn3 tb i bs j).length=bs.length:=by
 unfold kn3; split <;> simp
theorem Qfq (n:Nat) (tb:List (List Int)) (bs:List Bool) (i:Nat):(kn2 n tb bs i).length=bs.length:=Q86 (Qfp tb i) _ _
theorem Qpk (n:Nat) (tb:List (List Int)) (bs:List Bool) (t:Nat):(kn1 n tb bs t).length=bs.length:=Q86 (Qfq n tb) _ _
inductive Rc (n:Nat) (tb:List (List Int)):Nat->Prop
 | made {h:Nat}:h < n->Q0e tb h=true->Rc n tb h
 | lent {o h:Nat}:Rc n tb o->h < n->0 < ent tb o h->Rc n tb h
theorem Rc.lt {n h:Nat} {tb:List (List Int)} (r:Rc n tb h):h < n:=by cases r <;> assumption
theorem U1 {α β:Type} {f:β->α->β} {P:β->Prop}:∀ {xs:List α} {b:β},(∀ b x,x∈xs->P b->P (f b x))->P b->P (xs.foldl f b)
 | [],_,_,h=>h
 | x :: xs,b,hs,h=>U1 (xs:=xs) (fun b y hy=>hs b y (D0 _ hy)) (hs b x D4 h)
theorem Q87 {α β:Type} {f:β->α->β} {P Q:β->Prop} (hP:∀ b y,P b->P (f b y)) (hQ:∀ b y,Q b->Q (f b y)) {x:α} (hx:∀ b,P b->Q (f b x)):∀ {xs:List α} {b:β},x∈xs->P b->Q (xs.foldl f b)
 | [],_,hm,_=>by cases hm
 | y :: ys,b,hm,hb=>by
  rw [List.foldl_cons];rcases E3.mp hm with rfl | hm
  ·exact U1 (fun b y _=>hQ b y) (hx b hb)
  ·exact Q87 hP hQ hx hm (hP b y hb)
def Cl (n:Nat) (tb:List (List Int)) (mem:Nat->Bool):Prop:=∀ o h,o < n->h < n->o≠h->0 < ent tb o h->mem o=true->mem h=true
def cnt (n:Nat) (mem:Nat->Bool):Int:=W9 n fun h=>if mem h=true then 1 else 0
theorem Qt2 (n:Nat) (mem:Nat->Bool):cnt n mem<=n:=by
 unfold cnt
 induction n with
 | zero=>exact Int.le_refl _
 | succ n ih=>rw [Jn]; split <;> omega
theorem Qkp {n:Nat} {m1 m2:Nat->Bool} (hm:∀ h,h < n->m1 h=true->m2 h=true) {h:Nat} (hh:h < n) (h1:m1 h=false) (h2:m2 h=true):cnt n m1 + 1<=cnt n m2:=by
 have e:=Qic n (fun h=>if m2 h=true then (1:Int) else 0) (fun h=>if m1 h=true then 1 else 0)
 have l:=Qap (n:=n) (j:=h) (f:=fun h=>(if m2 h=true then (1:Int) else 0) - (if m1 h=true then 1 else 0)) (fun i hi=>by
  have:=hm i hi;cases a:m1 i <;> cases b:m2 i <;> simp_all) hh
 simp only [h1,h2] at l;unfold cnt;simp at l;omega
theorem Qby {X:Type} (n:Nat) (tb:List (List Int)) (mem:X->Nat->Bool) (f:X->Nat->X) (Inv:X->Prop) (hi:∀ x t,Inv x->Inv (f x t))
  (mono:∀ x t h,Inv x->h < n->mem x h=true->mem (f x t) h=true)
  (push:∀ x t o h,Inv x->o < n->h < n->o≠h->0 < ent tb o h->mem x o=true->mem (f x t) h=true)
  (stay:∀ x t,Inv x->Cl n tb (mem x)->∀ h,h < n->mem (f x t) h=true->mem x h=true) (x0:X) (h0:Inv x0):Cl n tb (mem ((List.range n).foldl f x0)):=by
 have key:∀ t:Nat,Inv ((List.range t).foldl f x0)/\(Cl n tb (mem ((List.range t).foldl f x0))\/(t:Int)<=cnt n (mem ((List.range t).foldl f x0))):=by
  intro t
  induction t with
  | zero=>
   refine ⟨h0,.inr ?_⟩;exact Q57 fun i _=>by split <;> omega
  | succ t ih=>
   rw [List.range_succ,List.foldl_append,List.foldl_cons,List.foldl_nil];obtain ⟨iv,ih⟩:=ih;generalize (List.range t).foldl f x0=x at *;refine ⟨hi x t iv,?_⟩;rcases Classical.em (Cl n tb (mem x)) with c | c
   ·refine .inl fun o h ho hh hne he hm=>?_
    exact mono x t h iv hh (c o h ho hh hne he (stay x t iv c o ho hm))
   ·rcases ih with ih | ih
    ·exact absurd ih c
    ·refine .inr ?_;have:∃ o h,o < n/\h < n/\o≠h/\0 < ent tb o h/\mem x o=true/\mem x h=false:=by
      refine Classical.byContradiction fun q=>c fun o h ho hh hne he hm=>?_
      cases e:mem x h with
      | true=>rfl
      | false=>exact absurd ⟨o,h,ho,hh,hne,he,hm,e⟩ q
     obtain ⟨o,h,ho,hh,hne,he,hm,hf⟩:=this;have:=Qkp (fun h hh=>mono x t h iv hh) hh hf (push x t o h iv ho hh hne he hm)
     push_cast
     omega
 obtain ⟨iv,h | h⟩:=key n
 ·exact h
 ·intro o k ho hk hne he hm;generalize (List.range n).foldl f x0=x at *;cases e:mem x k with
  | true=>rfl
  | false=>
   have:=Qkp (m1:=mem x) (m2:=fun _=>true) (fun _ _ _=>rfl) hk e rfl;have h2:=Qt2 n fun _=>true
   omega
theorem set_get {bs:List Bool} {j h:Nat}:((bs.set j true).getD h false=true) <-> (h=j/\j < bs.length)\/bs.getD h false=true:=by
 rw [List.getD,List.getElem?_set]
 by_cases e:j=h
 ·subst e
  by_cases l:j < bs.length
  ·simp [l]
  ·simp [l,List.getD]
 ·rw [if_neg e];constructor
  ·intro q; exact .inr q
  ·rintro (⟨q,_⟩ | q)
   ·exact absurd q.symm e
   ·exact q
theorem Q7x {tb:List (List Int)} {i j h:Nat} {bs:List Bool} (q:bs.getD h false=true):(kn3 tb i bs j).getD h false=true:=by
 unfold kn3
 split
 ·exact set_get.mpr (.inr q)
 ·exact q
theorem Q7y {n:Nat} {tb:List (List Int)} {i h:Nat} {bs:List Bool} (q:bs.getD h false=true):(kn2 n tb bs i).getD h false=true:=U1 (P:=fun bs:List Bool=>bs.getD h false=true) (fun _ _ _ q=>Q7x q) q
theorem Qd4 {n:Nat} {tb:List (List Int)} {t h:Nat} {bs:List Bool} (q:bs.getD h false=true):(kn1 n tb bs t).getD h false=true:=U1 (P:=fun bs:List Bool=>bs.getD h false=true) (fun _ _ _ q=>Q7y q) q
theorem Qba (n:Nat) (tb:List (List Int)):Cl n tb fun h=>(Q4w n tb).getD h false:=by
 refine Qby n tb (fun (bs:List Bool) h=>bs.getD h false) (kn1 n tb) (fun bs=>bs.length=n) (fun x t hx=>by rw [Qpk]; exact hx) (fun x t h _ _ q=>Qd4 q) (fun x t o h hx ho hh hne he hm=>?_) (fun x t hx c h hh hm=>?_) _ (by simp [Qbb])
 ·show (kn1 n tb x t).getD h false=true;refine Q87 (P:=fun bs:List Bool=>bs.length=n/\bs.getD o false=true) (Q:=fun bs:List Bool=>bs.getD h false=true) (fun bs y q=>⟨by rw [Qfq]; exact q.1,Q7y q.2⟩) (fun bs y q=>Q7y q) (x:=o) (fun bs q=>?_) (E7.mpr ho) ⟨hx,hm⟩;refine Q87 (P:=fun bs:List Bool=>bs.length=n/\bs.getD o false=true) (Q:=fun bs:List Bool=>bs.getD h false=true) (fun bs y q=>⟨by rw [Qfp]; exact q.1,Q7x q.2⟩) (fun bs y q=>Q7x q) (x:=h) (fun bs q=>?_) (E7.mpr hh) q;unfold kn3;rw [if_pos ⟨q.2,hne,he⟩];exact set_get.mpr (.inl ⟨rfl,by rw [q.1]; exact hh⟩)
 ·have:∀ g,g < n->(kn1 n tb x t).getD g false=true->x.getD g false=true:=by
   refine U1 (P:=fun bs:List Bool=>∀ g,g < n->bs.getD g false=true->x.getD g false=true) (fun bs i hi hb=>?_) fun g _ q=>q
   refine U1 (P:=fun bs:List Bool=>∀ g,g < n->bs.getD g false=true->x.getD g false=true) (fun bs j hj hb g hg q=>?_) hb;unfold kn3 at q
   split at q
   ·rename_i cc;rcases set_get.mp q with ⟨rfl,_⟩ | q
    ·exact c i g (E7.mp hi) hg cc.2.1 cc.2.2 (hb i (E7.mp hi) cc.1)
    ·exact hb g hg q
   ·exact hb g hg q
  exact this h hh hm
theorem Qd3 (n:Nat) (tb:List (List Int)) {h:Nat} (hh:h < n):(Q4w n tb).getD h false=true <-> Rc n tb h:=by
 constructor
 ·have:∀ g,g < n->(Q4w n tb).getD g false=true->Rc n tb g:=by
   refine U1 (P:=fun bs:List Bool=>∀ g,g < n->bs.getD g false=true->Rc n tb g) (fun bs t _ hb=>?_) fun g hg q=>?_
   ·refine U1 (P:=fun bs:List Bool=>∀ g,g < n->bs.getD g false=true->Rc n tb g) (fun bs i hi hb=>?_) hb;refine U1 (P:=fun bs:List Bool=>∀ g,g < n->bs.getD g false=true->Rc n tb g) (fun bs j hj hb g hg q=>?_) hb;unfold kn3 at q
    split at q
    ·rename_i cc;rcases set_get.mp q with ⟨rfl,_⟩ | q
     ·exact .lent (hb i (E7.mp hi) cc.1) hg cc.2.2
     ·exact hb g hg q
    ·exact hb g hg q
   ·unfold Qbb at q;rw [List.getD,E6,List.getElem?_range hg] at q;exact .made hg (by simpa using q)
  exact this h hh
 ·intro r
  induction r with
  | made hl hm=>
   refine U1 (P:=fun bs:List Bool=>bs.getD _ false=true) (fun bs t _ q=>Qd4 q) ?_;unfold Qbb;rw [List.getD,E6,List.getElem?_range hl];simpa using hm
  | @lent o g r hl he ih=>
   by_cases e:o=g
   ·subst e; exact ih r.lt
   ·exact Qba n tb o g r.lt hl e he (ih r.lt)
def RdOk (n:Nat) (fs:List Nat):Prop:=(∀ x∈fs,x < n)/\fs.Nodup
theorem Q4p:∀ {n:Nat} {fs:List Nat},(∀ x∈fs,x < n)->fs.Nodup->fs.length<=n
 | 0,[],_,_=>O7 _
 | 0,x :: _,h,_=>absurd (h x D4) (Nat.not_lt_zero _)
 | n + 1,fs,h,d=>by
  by_cases hm:n∈fs
  ·have h1:(fs.erase n).length<=n:=Q4p (fun x hx=>by
    have h2:=(d.mem_erase_iff).mp hx;have:=h x h2.2;omega) (d.erase n)
   rw [List.length_erase_of_mem hm] at h1;omega
  ·have:=Q4p (n:=n) (fs:=fs) (fun x hx=>by
    have:=h x hx;have:x≠n:=fun e=>hm (e ▸ hx)
    omega) d
   omega
theorem RdOk.len {n:Nat} {fs:List Nat} (h:RdOk n fs):fs.length<=n:=Q4p h.1 h.2
def AhN (tb:List (List Int)) (fs:List Nat):Prop:=∀ k,k < fs.length->Q0e tb (fs.getD k 0)=true\/∃ o∈fs.take k,0 < ent tb o (fs.getD k 0)
theorem AhN.snoc {tb:List (List Int)} {fs:List Nat} {h:Nat} (a:AhN tb fs) (ha:Q0e tb h=true\/∃ o∈fs,0 < ent tb o h):AhN tb (fs ++ [h]):=by
 intro k hk;rw [O8,List.length_singleton] at hk
 by_cases e:k < fs.length
 ·have:=a k e;rw [List.take_append_of_le_length (by omega)];rw [show (fs ++ [h]).getD k 0=fs.getD k 0 by rw [List.getD,List.getD,O6 e]];exact this
 ·have:k=fs.length:=by omega
  subst this;rw [show (fs ++ [h]).getD fs.length 0=h by simp [List.getD]];rw [List.take_left];exact ha
def Q1a (fs:List Nat):List Int:=fs.map fun k:Nat=>(k:Int)
def rdS (st:Q2) (fs:List Nat):Q2:=st ++ [Cell.lst (fs.map Zz)]
theorem Qiu (st:Q2) (fs:List Nat):(rdS st fs)[st.length]?=some (.lst (fs.map Zz)):=by unfold rdS; simp
theorem Q1r (fs:List Nat):(Q1a fs).map PV.int=fs.map Zz:=by unfold Q1a; rw [List.map_map]; rfl
theorem intsN_mem {fs:List Nat} {h:Nat}:(h:Int)∈Q1a fs <-> h∈fs:=by
 unfold Q1a;rw [List.mem_map];constructor
 ·rintro ⟨k,hk,e⟩;have:k=h:=by omega
  rw [<- this]; exact hk
 ·intro q; exact ⟨h,q,rfl⟩
def Vz (n:Nat) (fs:List Nat):List Nat:=(List.range n).filter fun h=>!decide (h∈fs)
def Uq (n:Nat) (tb:List (List Int)) (fs:List Nat):List Nat:=(Vz n fs).filter fun h=>xn tb h fs
structure GdR (n:Nat) (tb:List (List Int)) (fs:List Nat):Prop where
 rd:RdOk n fs
 ah:AhN tb fs
 rc:∀ h∈fs,Rc n tb h
theorem AhN.more {tb:List (List Int)}:∀ {ds fs:List Nat},AhN tb fs->(∀ h∈ds,Q0e tb h=true\/∃ o∈fs,0 < ent tb o h)->AhN tb (fs ++ ds)
 | [],fs,a,_=>by rw [List.append_nil]; exact a
 | d :: ds,fs,a,h=>by
  rw [show fs ++ d :: ds=(fs ++ [d]) ++ ds by simp];refine AhN.more (a.snoc (h d D4)) fun g hg=>?_
  rcases h g (D0 _ hg) with q | ⟨o,ho,q⟩
  ·exact .inl q
  ·exact .inr ⟨o,F5 _ ho,q⟩
theorem Q68 {n:Nat} {tb:List (List Int)} {fs:List Nat} {h:Nat} (q:h∈Uq n tb fs):h < n/\h∉fs/\(Q0e tb h=true\/∃ o∈fs,0 < ent tb o h):=by
 obtain ⟨q1,q2⟩:=List.mem_filter.mp q;obtain ⟨q3,q4⟩:=List.mem_filter.mp q1;refine ⟨E7.mp q3,by simpa using q4,?_⟩;unfold xn Qcz at q2;rw [Bool.or_eq_true] at q2;rcases q2 with q2 | q2
 ·exact .inl q2
 ·obtain ⟨o,ho,e⟩:=List.any_eq_true.mp q2;rw [F6] at e;exact .inr ⟨o,ho,by simpa using e.2⟩
theorem GdR.step {n:Nat} {tb:List (List Int)} {fs:List Nat} (g:GdR n tb fs):GdR n tb (fs ++ Uq n tb fs):=by
 refine ⟨⟨fun x hx=>?_,?_⟩,g.ah.more fun h q=>(Q68 q).2.2,fun h hx=>?_⟩
 ·rcases E9.mp hx with hx | hx
  ·exact g.rd.1 x hx
  ·exact (Q68 hx).1
 ·refine List.nodup_append.mpr ⟨g.rd.2,(List.nodup_range.filter _).filter _,fun a ha b hb e=>?_⟩;subst e;exact (Q68 hb).2.1 ha
 ·rcases E9.mp hx with hx | hx
  ·exact g.rc h hx
  ·obtain ⟨h1,_,h2 | ⟨o,ho,he⟩⟩:=Q68 hx
   ·exact .made h1 h2
   ·exact .lent (g.rc o ho) h1 he
theorem GdR.closed {n:Nat} {tb:List (List Int)} {fs:List Nat} (g:GdR n tb fs) (hc:Uq n tb fs=[]) {h:Nat} (hh:h < n):h∈fs <-> Rc n tb h:=by
 refine ⟨g.rc h,fun r=>?_⟩;have hno:∀ k,k < n->k∉fs->xn tb k fs=false:=fun k hk hm=>by
  cases e:xn tb k fs with
  | false=>rfl
  | true=>
   have:k∈Uq n tb fs:=List.mem_filter.mpr ⟨List.mem_filter.mpr ⟨E7.mpr hk,by simp [hm]⟩,e⟩;rw [hc] at this;cases this
 induction r with
 | @made k hl hm=>
  refine Classical.byContradiction fun q=>?_
  have:=hno k hl q;unfold xn at this;rw [hm] at this;cases this
 | @lent o k r hl he ih=>
  refine Classical.byContradiction fun q=>?_
  have:=hno k hl q;unfold xn Qcz at this;rw [Bool.or_eq_false_iff,List.any_eq_false] at this;have ho:=ih r.lt;have hne:o≠k:=fun e=>q (e ▸ ho)
  exact this.2 o ho (by simp [hne,he])
theorem Qmy {n:Nat} {tb:List (List Int)} (z:Sz n tb) (hn:n<=100) (st:Q2) (fs:List Nat) (r:RdOk n fs) (b a c:Option PV):Vf [some (Q7 tb),some (.ref st.length),b,a,c] (rdS st fs)=.nx [some (Q7 tb),some (.ref st.length),some (.bl (decide (0 < (Uq n tb fs).length))),some (.lst ((Vz n fs).map Zz)),some (.lst ((Uq n tb fs).map Zz))] (rdS st (fs ++ Uq n tb fs)):=by
 have hn1:-1000000<=(n:Int)/\(n:Int)<=1000000:=by omega
 have hql:=r.len;have hS:=Qiu st fs;have hat:ListAt (rdS st fs) (.ref st.length) ((Q1a fs).map .int):=.inr (.inr ⟨_,rfl,by rw [Q1r]; exact hS⟩);have hat2:ListAt (rdS st fs) (.ref st.length) (fs.map Zz):=.inr (.inr ⟨_,rfl,hS⟩);have hln:Yp (rdS st fs) [Q7 tb]=.ok (.int n) (rdS st fs):=by simp [Q7,z.1]
 have hc1:Z0 (Qn 0) Vd X8 [] (Zk [none,some 1] [some (Q7 tb),some (.ref st.length),b,a,c]) (Ya 0 n) (rdS st fs)=.ok ((Vz n fs).map Zz) (rdS st fs):=by
  rw [Uy];refine Q1x _ _ _ (by simp) fun j hj=>⟨_,rfl,?_,fun ht=>?_⟩
  ·have hin:=Qqp hat (j:Int) true
   by_cases q:j∈fs
   ·have q':(j:Int)∈Q1a fs:=intsN_mem.mpr q;generalize rdS st fs=S at *;simp -implicitDefEqProofs [Zk,Vd,hin,q,q']
   ·have q':¬ (j:Int)∈Q1a fs:=fun z=>q (intsN_mem.mp z)
    generalize rdS st fs=S at *;simp -implicitDefEqProofs [Zk,Vd,hin,q,q']
  ·simp [Zk,X8,Zz]
 have hol:(Vz n fs).length<=n:=by
  have:=List.length_filter_le (fun h=>!decide (h∈fs)) (List.range n)
  rw [G6] at this;exact this
 have hon:∀ h∈Vz n fs,h < n:=fun h hh=>E7.mp (List.mem_filter.mp hh).1
 have hc2:Z0 (Qn 0) Us X7 [] (Zk [none,some 0,some 1] [some (Q7 tb),some (.ref st.length),b,some (.lst ((Vz n fs).map Zz)),c]) ((Vz n fs).map Zz) (rdS st fs)=.ok ((Uq n tb fs).map Zz) (rdS st fs):=by
  unfold Uq;refine Q1x _ _ _ (by simp) fun j hj=>⟨_,rfl,?_,fun ht=>?_⟩
  ·have hr:=Qmz z (h:=j) (hon j hj) r.1 (by omega) hat2;generalize xn tb j fs=rb at *;generalize rdS st fs=S at *;generalize (Vz n fs).map Zz=ov at *;simp -implicitDefEqProofs [Zk,Us,Zz,hr]
  ·simp [Zk,X7,Zz]
 have hfl:(Uq n tb fs).length<=n:=F1 (List.length_filter_le _ _) hol;have hset:(rdS st fs).set st.length (.lst (fs.map Zz ++ (Uq n tb fs).map Zz))=rdS st (fs ++ Uq n tb fs):=by
  unfold rdS;rw [F3];simp
 have l1:((Vz n fs).map Zz).length<=1000000:=by rw [O2]; omega
 have l2:(fs.map Zz).length + ((Uq n tb fs).map Zz).length<=1000000:=by rw [O2,O2]; omega
 have l3:((Uq n tb fs).map Zz).length=(Uq n tb fs).length:=O2 _;generalize rdS st (fs ++ Uq n tb fs)=S2 at *;generalize rdS st fs=S at *;generalize (Vz n fs).map Zz=ov at *;generalize (Uq n tb fs).length=fl at *;generalize (Uq n tb fs).map Zz=fv at *;generalize fs.map Zz=xv at *;rw [l3] at l2;simp -implicitDefEqProofs [Vf,hln,hn1,Zh,hc1,l1,hc2,hS,Q13,chg,l2,l3,hset]
theorem Qc7 {n:Nat} {tb:List (List Int)} (z:Sz n tb) (hn:n<=100) (st:Q2):∀ (m fuel:Nat) (fs:List Nat) (a c:Option PV),GdR n tb fs->n<=fs.length + m->m + 2<=fuel->∃ fs' b' a' c',GdR n tb fs'/\Uq n tb fs'=[]/\Kf Yq Vf fuel [some (Q7 tb),some (.ref st.length),some (.bl true),a,c] (rdS st fs)=.nx [some (Q7 tb),some (.ref st.length),b',a',c'] (rdS st fs')
 | m,0,_,_,_,_,_,h=>absurd h (by omega)
 | m,1,_,_,_,_,_,h=>absurd h (by omega)
 | m,k + 2,fs,a,c,g,hm,hf=>by
  have ht:=Qmy z hn st fs g.rd (some (.bl true)) a c;have w1:∀ S,Yq [some (Q7 tb),some (.ref st.length),some (.bl true),a,c] S=.ok true S:=fun S=>by simp [Yq]
  by_cases e:Uq n tb fs=[]
  ·refine ⟨fs,some (.bl false),some (.lst ((Vz n fs).map Zz)),some (.lst ((Uq n tb fs).map Zz)),g,e,?_⟩;rw [Kf,w1];simp only [Vj,if_true,ht];rw [Kf];have w2:∀ S,Yq [some (Q7 tb),some (.ref st.length),some (.bl (decide (0 < (Uq n tb fs).length))),some (.lst ((Vz n fs).map Zz)),some (.lst ((Uq n tb fs).map Zz))] S=.ok false S:=fun S=>by simp [Yq,e]
   rw [w2];simp [e]
  ·have hp:0 < (Uq n tb fs).length:=List.length_pos_iff.mpr e;have g':=g.step;have hl':=g'.rd.len;rw [O8] at hl';cases m with
   | zero=>omega
   | succ m=>
    obtain ⟨fs',b',a',c',h1,h2,h3⟩:=Qc7 z hn st m (k + 1) (fs ++ Uq n tb fs) (some (.lst ((Vz n fs).map Zz))) (some (.lst ((Uq n tb fs).map Zz))) g' (by rw [O8]; omega) (by omega);refine ⟨fs',b',a',c',h1,h2,?_⟩;rw [Kf,w1];rw [decide_eq_true hp] at ht;simp only [Vj,if_true,ht];exact h3
theorem Qe3 {n:Nat} {tb:List (List Int)} (z:Sz n tb) (hn:n<=100) (st:Q2):∃ fs,GdR n tb fs/\Uq n tb fs=[]/\V0 [some (Q7 tb),none,none,none,none] st=.rt (.ref st.length) (rdS st fs):=by
 obtain ⟨fs,b',a',c',g,e,h⟩:=Qc7 z hn st n 100000 [] none none ⟨⟨fun x hx=>(by cases hx),List.nodup_nil⟩,fun k hk=>absurd hk (Nat.not_lt_zero _),fun x hx=>(by cases hx)⟩ (by simp) (by omega)
 refine ⟨fs,g,e,?_⟩;have hS:st ++ [Cell.lst []]=rdS st []:=rfl;generalize rdS st fs=S2 at *;generalize rdS st []=S1 at *;simp -implicitDefEqProofs [V0,Zh,hS,h]
theorem Q9v {n:Nat} {tb:List (List Int)} (z:Sz n tb) (hn:n<=100) (st:Q2):∃ fs,GdR n tb fs/\Uq n tb fs=[]/\W8 [Q7 tb] st=.ok (.lst (fs.map Zz)) st:=by
 obtain ⟨fs,g,e,h⟩:=Qe3 z hn st;refine ⟨fs,g,e,?_⟩;have hfz:=Qpt (n:=st.length) (r:=st.length) (S:=rdS st fs) (hs:=Q1a fs) (O7 _) (by rw [Q1r]; exact Qiu _ _);rw [Q1r] at hfz;have hpre:st <+: rdS st fs:=List.prefix_append _ _;generalize rdS st fs=S2 at *;show Qq V0 5 [Q7 tb] st=_;unfold Qq;rw [show (([Q7 tb]:List PV).map some ++ List.replicate (5 - [Q7 tb].length) none)=[some (Q7 tb),none,none,none,none] from rfl,h];show Sm.fin st (.ref st.length) S2=_;unfold Sm.fin;rw [if_pos hpre,hfz];rfl
theorem Qre {n:Nat} {tb:List (List Int)} {fs:List Nat} (g:GdR n tb fs) (hc:Uq n tb fs=[]):((List.range n).all fun h=>(Q4w n tb).getD h false || !U2 tb h)=(List.range n).all fun h=>decide (h∈fs) || !U2 tb h:=by
 rw [Bool.eq_iff_iff,F7,F7];have hh:∀ h,h∈List.range n->(decide (h∈fs) || !U2 tb h)=((Q4w n tb).getD h false || !U2 tb h):=fun h hm=>by
  have hlt:=E7.mp hm;congr 1;rw [Bool.eq_iff_iff,decide_eq_true_iff,g.closed hc hlt,Qd3 n tb hlt]
 constructor <;> intro q x hx
 ·rw [hh x hx]; exact q x hx
 ·rw [<- hh x hx]; exact q x hx
def Q2m (n:Nat) (tb:List (List Int)):Bool:=(List.range n).all fun h=>(Q4w n tb).getD h false || !U2 tb h
theorem Qjh {n:Nat} {tb:List (List Int)} {fs:List Nat} (g:GdR n tb fs) (hc:Uq n tb fs=[]):(Vz n fs).any (U2 tb)=!Q2m n tb:=by
 unfold Q2m;rw [Qre g hc];unfold Vz;rw [List.any_filter,List.any_eq_not_all_not];congr 2;funext h;rw [Bool.not_and,Bool.not_not]
theorem Q85 {α:Type} (g:α->PV) (J:Gam->Prop) (Pd:α->Bool) (v:α->PV) {ga:GA} {body:MS} {w:Wt} {st:Q2} (hw:wOk w st):∀ {xs:List α},(∀ x∈xs,∀ Γ,J Γ->∃ Γ1,ga (g x) Γ=some Γ1/\(Pd x=true->∃ Γ2,J Γ2/\body Γ1 st=.nx Γ2 st)/\(Pd x=false->body Γ1 st=.rt (v x) st)) ->
  ∀ Γ,J Γ->(xs.all Pd=true->∃ Γ',J Γ'/\y6 ga body w (xs.map g) Γ st=.nx Γ' st)/\(xs.all Pd=false->∃ x∈xs,Pd x=false/\y6 ga body w (xs.map g) Γ st=.rt (v x) st)
 | [],_,Γ,hJ=>⟨fun _=>⟨Γ,hJ,by simp [y6,hw]⟩,fun h=>by simp at h⟩
 | x :: xs,h,Γ,hJ=>by
  obtain ⟨Γ1,h1,h2,h3⟩:=h x D4 Γ hJ;rw [F2,y6,if_pos hw,h1];cases px:Pd x with
  | false=>
   refine ⟨fun z=>by simp [px] at z,fun _=>⟨x,D4,px,?_⟩⟩
   simp only [h3 px]
  | true=>
   obtain ⟨Γ2,j2,e2⟩:=h2 px;have ih:=Q85 g J Pd v (ga:=ga) (body:=body) hw (xs:=xs) (fun y hy=>h y (D0 _ hy)) Γ2 j2
   simp only [e2,List.all_cons,px,Bool.true_and];exact ⟨ih.1,fun q=>by
    obtain ⟨y,hy,p,e⟩:=ih.2 q;exact ⟨y,D0 _ hy,p,e⟩⟩
def Q8f (n:Nat) (tb:List (List Int)):Bool:=((List.range n).all fun h=>decide (0<=Qr tb h)) && Q2m n tb
theorem Q23 {n:Nat} {tb:List (List Int)} (z:Sz n tb) (hn:n<=100) (st:Q2):∃ us:List Nat,us.length<=n/\(us=[] <-> Q2m n tb=true)/\Yu [Q7 tb] st=.ok (.lst (us.map Zz)) st:=by
 obtain ⟨fs,g,hc,e⟩:=Q9v z hn st;have hn1:-1000000<=(n:Int)/\(n:Int)<=1000000:=by omega
 have hln:Yp st [Q7 tb]=.ok (.int n) st:=by simp [Q7,z.1]
 have hat:ListAt st (.lst (fs.map Zz)) ((Q1a fs).map .int):=.inl (by rw [Q1r]);have hc1:Z0 (Qn 0) Wk Vx [] (Zk [none,some 1] [some (Q7 tb),some (.lst (fs.map Zz)),none]) (Ya 0 n) st=.ok ((Vz n fs).map Zz) st:=by
  rw [Uy];refine Q1x _ _ _ (by simp) fun j hj=>⟨_,rfl,?_,fun ht=>?_⟩
  ·have hin:=Qqp hat (j:Int) true
   by_cases q:j∈fs
   ·have q':(j:Int)∈Q1a fs:=intsN_mem.mpr q;generalize fs.map Zz=fv at *;simp -implicitDefEqProofs [Zk,Wk,hin,q,q']
   ·have q':¬ (j:Int)∈Q1a fs:=fun z=>q (intsN_mem.mp z)
    generalize fs.map Zz=fv at *;simp -implicitDefEqProofs [Zk,Wk,hin,q,q']
  ·simp [Zk,Vx,Zz]
 have hol:(Vz n fs).length<=n:=by
  have:=List.length_filter_le (fun h=>!decide (h∈fs)) (List.range n)
  rw [G6] at this;exact this
 have hon:∀ h∈Vz n fs,h < n:=fun h hh=>E7.mp (List.mem_filter.mp hh).1
 have hob:=Qjh g hc;have hc2:Z0 (Qn 0) Zn Vw [] (Zk [none,some 0] [some (Q7 tb),some (.lst (fs.map Zz)),some (.lst ((Vz n fs).map Zz))]) ((Vz n fs).map Zz) st=.ok (((Vz n fs).map (U2 tb)).map .bl) st:=by
  rw [List.map_map];refine Yx _ _ (by simp) fun j hj=>⟨_,rfl,?_⟩
  have hb:=Qq5 z (hon j hj) st;show _=Res.ok (PV.bl (U2 tb j)) st;generalize U2 tb j=rb at *;simp -implicitDefEqProofs [Zk,Vw,Zz,hb]
 have ha:(Vz n fs).any (U2 tb)=((Vz n fs).map (U2 tb)).any id:=(Qm5 _ _).symm;have l1:((Vz n fs).map Zz).length<=1000000:=by rw [O2]; omega
 have hgd:fin st (.lst ((Vz n fs).map Zz)) st=.ok (.lst ((Vz n fs).map Zz)) st:=Vm (by simp [Zi,Zz]);have hgn:fin st (.lst []) st=.ok (.lst []) st:=Vm (by simp [Zi]);cases hr:Q2m n tb with
 | true=>
  refine ⟨[],by simp,by simp,?_⟩;rw [hr,ha] at hob;rw [List.map_nil];generalize (Vz n fs).map (U2 tb)=bs at *;generalize (Vz n fs).map Zz=ov at *;have hob:bs.any id=false:=hob;simp -implicitDefEqProofs [Yu,Qq,Ve,e,hln,hn1,Zh,hc1,l1,hc2,hob,hgn]
 | false=>
  rw [hr] at hob;refine ⟨Vz n fs,hol,⟨fun q=>?_,fun q=>by cases q⟩,?_⟩
  ·rw [q] at hob; cases hob
  ·rw [ha] at hob;have hob:((Vz n fs).map (U2 tb)).any id=true:=hob;generalize (Vz n fs).map (U2 tb)=bs at *;generalize (Vz n fs).map Zz=ov at *;simp -implicitDefEqProofs [Yu,Qq,Ve,e,hln,hn1,Zh,hc1,l1,hc2,hob,hgd]
theorem Qhm {n:Nat} {tb:List (List Int)} (z:Sz n tb) (hn:n<=100) (st:Q2):∃ (s:Str) (v:PV),Wi [Q7 tb] st=.ok (.tup [.str s,v]) st/\(s == (Str.ofString "comes"))=Q8f n tb:=by
 have hn1:-1000000<=(n:Int)/\(n:Int)<=1000000:=by omega
 have hln:∀ S,Yp S [Q7 tb]=.ok (.int n) S:=fun S=>by simp [Q7,z.1]
 have L:=Q85 (fun k:Nat=>PV.int (k:Int)) (fun Γ=>∃ a,Γ=[some (Q7 tb),a,none]) (fun h=>decide (0<=Qr tb h)) (fun h=>.tup [.str "short",.int h]) (ga:=Qn 1) (body:=U9) (w:=[]) (st:=st) (by simp) (xs:=List.range n) (fun h hh Γ ⟨a,e⟩=>by
  subst e;have hr:=Q9w z hn (E7.mp hh) st;refine ⟨_,rfl,fun hp=>⟨[some (Q7 tb),some (.int h),none],⟨_,rfl⟩,?_⟩,fun hp=>?_⟩
  ·have hnn:0<=Qr tb h:=by simpa using hp
   have:¬ (Qr tb h < 0):=by omega
   generalize Qr tb h=x at *;simp -implicitDefEqProofs [U9,hr,this]
  ·have hnn:¬ 0<=Qr tb h:=by simpa using hp
   have:Qr tb h < 0:=by omega
   generalize Qr tb h=x at *;simp -implicitDefEqProofs [U9,hr,this,Zh])
 have L:=L [some (Q7 tb),none,none] ⟨_,rfl⟩;rw [<- Uy] at L;unfold Q8f;cases ha:(List.range n).all fun h=>decide (0<=Qr tb h) with
 | false=>
  obtain ⟨h,hh,hp,e⟩:=L.2 ha;refine ⟨"short",.int h,?_,by rw [Bool.false_and]; decide +kernel⟩;have hg:fin st (.tup [.str "short",.int h]) st=.ok (.tup [.str "short",.int h]) st:=Vm (by simp [Zi]);simp -implicitDefEqProofs [Wi,Qq,U0,hln,hn1,Zh,e,hg]
 | true=>
  obtain ⟨Γ',⟨a,rfl⟩,e⟩:=L.1 ha;obtain ⟨us,hl,hne,e1⟩:=Q23 z hn st;cases hr:Q2m n tb with
  | true=>
   have hu:=hne.mpr hr;subst hu;obtain ⟨fs,g,hc,e2⟩:=Q9v z hn st;refine ⟨"comes",.lst (fs.map Zz),?_,by rw [Bool.true_and]; decide +kernel⟩;have hg:fin st (.tup [.str "comes",.lst (fs.map Zz)]) st=.ok (.tup [.str "comes",.lst (fs.map Zz)]) st:=Vm (by simp [Zi,Zz]);rw [List.map_nil] at e1;generalize fs.map Zz=fv at *;simp -implicitDefEqProofs [Wi,Qq,U0,hln,hn1,Zh,e,e1,e2,hg]
  | false=>
   have hu:us≠[]:=fun q=>by rw [hne.mp q] at hr; cases hr
   refine ⟨"rootless",.lst (us.map Zz),?_,by rw [Bool.true_and]; decide +kernel⟩;have hp:0 < (us.map Zz).length:=by rw [O2]; exact List.length_pos_iff.mpr hu
   have hg:fin st (.tup [.str "rootless",.lst (us.map Zz)]) st=.ok (.tup [.str "rootless",.lst (us.map Zz)]) st:=Vm (by simp [Zi,Zz]);generalize us.map Zz=uv at *;simp -implicitDefEqProofs [Wi,Qq,U0,hln,hn1,Zh,e,e1,hp,hg]
theorem Qfi {a b:List (List Int)} (h:a.length=b.length) (st:Q2):Jz [Q7 a,Q7 b] st=.ok .non st:=by
 simp [Jz,Qq,Va,Q7,h]
def Qc8 (r1 r2:List Int):Bool:=(r1.zip r2).all fun z=>decide (z.1<=z.2)
theorem Q92 (r1 r2:List Int) (st:Q2) (hl:r1.length<=lim):V4 [Qy r1,Qy r2] st=.ok (.bl (Qc8 r1 r2)) st:=by
 have hc:Z0 (K9 (Zx (Qn 0) (Zx (Qn 1) Ka))) Zn X9 [] (Zk [none,none] [some (Qy r1),some (Qy r2)]) ((r1.zip r2).map fun z=>.tup [.int z.1,.int z.2]) st=.ok ((r1.zip r2).map fun z=>.bl (decide (z.1<=z.2))) st:=by
  refine Yx _ _ (by simp) fun z hz=>⟨_,rfl,?_⟩
  simp [Zk,X9]
 unfold Qy at hc ⊢;simp [V4,Qq,Ks,hl,Q0k,hc,Qez,Qc8]
theorem Qhd (r:List Int) (n:Int) (st:Q2) (hl:r.length<=lim):Q1k [Qy r,.int n] st=.ok (.bl (decide ((r.length:Int)=n + 1) && r.all fun i=>decide (0<=i))) st:=by
 have hc:Z0 (Qn 0) Zn Q2y [] (Zk [none] [some (Qy r),some (.int n)]) (r.map .int) st=.ok (r.map fun i=>.bl (decide (0<=i))) st:=by
  refine Yx _ _ (by simp) fun i hi=>⟨_,rfl,?_⟩
  simp [Zk,Q2y,Q06]
 unfold Qy at hc ⊢
 by_cases h:(r.length:Int)=n + 1 <;> simp [Q1k,Qq,Q7p,isI,tyN,hc,h,hl,Qez]
theorem Qd5 {n:Nat} {tb:List (List Int)} (w:Wt' n tb) (st:Q2):ji [Q7 tb] st=.ok (.bl true) st:=by
 have h1:=w.n1;have h8:=w.n8;have hc:Z0 (Qn 0) Zn Q0a [] (Zk [none,some 0] [some (Q7 tb)]) (tb.map Qy) st=.ok (tb.map fun _=>.bl true) st:=by
  refine Yx _ _ (by simp) fun r hr=>⟨_,rfl,?_⟩
  have e:=w.row r hr;have e2:=Qhd r tb.length st (by rw [e,Zh]; omega);simp [Zk,Q0a,Q7,e2];rw [w.len,e];exact ⟨by omega,w.nn r hr⟩
 unfold Q7 at hc ⊢;have h1':(1:Int)<=n:=by omega
 have h8':(n:Int)<=8:=by omega
 have hl:n<=1000000:=by omega
 simp [ji,Qq,Q2s,isI,tyN,hc,w.len,Qez,h1',h8',Zh,hl]
def maxI (x y:Int):Int:=if y > x then y else x
theorem Qjs (x y:Int):x<=maxI x y:=by unfold maxI; split <;> omega
theorem Qfj (x y:Int):maxI x y=x\/maxI x y=y:=by unfold maxI; split <;> simp
def V1 (a b:List Int):List Int:=(a.zip b).map fun z=>maxI z.1 z.2
def Wp (a b:List (List Int)):List (List Int):=(a.zip b).map fun z=>V1 z.1 z.2
theorem Q9k (a b:List Int) (hl:a.length<=lim) (st:Q2):Xd [Qy a,Qy b] st=.ok (Qy (V1 a b)) st:=by
 have hc:Z0 (K9 (Zx (Qn 0) (Zx (Qn 1) Ka))) Zn je [] (Zk [none,none] [some (Qy a),some (Qy b)]) ((a.zip b).map fun z=>.tup [.int z.1,.int z.2]) st=.ok ((a.zip b).map fun z=>.int (maxI z.1 z.2)) st:=by
  refine Yx _ _ (by simp) fun z hz=>⟨_,rfl,?_⟩
  simp [Zk,je,maxI]
 have e:((a.zip b).map fun z=>PV.int (maxI z.1 z.2))=(V1 a b).map .int:=by unfold V1; rw [List.map_map]; rfl
 rw [e] at hc;have hg:Zi 12 (.tup ((V1 a b).map .int))=true:=by simp [Zi]
 generalize V1 a b=q at *;unfold Qy at hc ⊢;simp [Xd,Qq,xz,hl,Q0k,hc,Vm hg]
theorem Qha {a b:List (List Int)} (h:a.length=b.length) (hl:a.length<=lim) (hr:∀ r∈a,r.length<=lim) (st:Q2):Q1j [Q7 a,Q7 b] st=.ok (Q7 (Wp a b)) st:=by
 have hc:Z0 (K9 (Zx (Qn 0) (Zx (Qn 1) Ka))) Zn Q2x [] (Zk [none,none] [some (Q7 a),some (Q7 b)]) ((a.zip b).map fun z=>.tup [Qy z.1,Qy z.2]) st=.ok ((a.zip b).map fun z=>Qy (V1 z.1 z.2)) st:=by
  refine Yx _ _ (by simp) fun z hz=>⟨_,rfl,?_⟩
  have:=Q9k z.1 z.2 (hr _ (List.of_mem_zip hz).1) st;simp [Zk,Q2x,this]
 have e:((a.zip b).map fun z=>Qy (V1 z.1 z.2))=(Wp a b).map Qy:=by unfold Wp; rw [List.map_map]; rfl
 rw [e] at hc;have hn:=Qfi h st;have hg:Zi 12 (.tup ((Wp a b).map Qy))=true:=by simp [Zi,Qy]
 generalize Wp a b=q at *;unfold Q7 at hc hn ⊢;simp [Q1j,Qq,Q7n,hl,Q0k,hc,hn,Vm hg]
theorem Qhb {a b:List Int} (h:a.length=b.length):(V1 a b).length=a.length:=by unfold V1; simp [h]
theorem Qmj {n:Nat} {a b:List (List Int)} (za:Sz n a) (zb:Sz n b):Sz n (Wp a b):=by
 refine ⟨by unfold Wp; simp [za.1,zb.1],fun r hr=>?_⟩;obtain ⟨z,hz,rfl⟩:=List.mem_map.mp hr;have:=List.of_mem_zip hz;rw [Qhb (by rw [za.2 _ this.1,zb.2 _ this.2]),za.2 _ this.1]
theorem Q3w {n i j:Nat} {a b:List (List Int)} (za:Sz n a) (zb:Sz n b) (hi:i < n) (hj:j<=n):ent (Wp a b) i j=maxI (ent a i j) (ent b i j):=by
 have ra:=za.row hi;have rb:=zb.row hi;have ca:=za.cell hi hj;have cb:=zb.cell hi hj;have e1:(Wp a b).getD i []=V1 (a.getD i []) (b.getD i []):=by
  unfold Wp;rw [List.getD,E6,(List.getElem?_zip_eq_some (z:=(a.getD i [],b.getD i []))).mpr ⟨ra.1,rb.1⟩];rfl
 have e2:(V1 (a.getD i []) (b.getD i []))[j]?=some (maxI (ent a i j) (ent b i j)):=by
  unfold V1;rw [E6,(List.getElem?_zip_eq_some (z:=(ent a i j,ent b i j))).mpr ⟨ca,cb⟩];rfl
 unfold ent;rw [e1,List.getD,e2];rfl
def K6 (n:Nat):List Int:=List.replicate (n + 1) 0
theorem Qma {n:Nat} (h1:1<=n) (h8:n<=8):Wt' n (List.replicate n (K6 n)):=by
 refine ⟨by simp,fun r hr=>?_,fun r hr x hx=>?_,h1,h8⟩
 ·rw [List.eq_of_mem_replicate hr]; simp [K6]
 ·rw [List.eq_of_mem_replicate hr] at hx;rw [List.eq_of_mem_replicate hx];exact Int.le_refl _
def Xm (tb:List (List Int)) (i j:Nat) (x:Int):List (List Int):=tb.set i ((tb.getD i []).set j x)
theorem Q08 {n i j:Nat} {tb:List (List Int)} (z:Sz n tb) (hi:i < n) (hj:j<=n) (x:Int) (a b:Nat):ent (Xm tb i j x) a b=if a=i/\b=j then x else ent tb a b:=by
 unfold ent Xm;have hl:=(z.row hi).2
 by_cases ha:a=i
 ·subst ha;rw [show (tb.set a ((tb.getD a []).set j x)).getD a []=(tb.getD a []).set j x by rw [List.getD,E2 (by rw [z.1]; exact hi)]; rfl]
  by_cases hb:b=j
  ·subst hb;rw [if_pos ⟨rfl,rfl⟩,List.getD,E2 (by omega)]; rfl
  ·rw [if_neg (fun q=>hb q.2),List.getD,O5 (fun q=>hb q.symm)]; rfl
 ·rw [if_neg (fun q=>ha q.1)];rw [show (tb.set i ((tb.getD i []).set j x)).getD a []=tb.getD a [] by rw [List.getD,O5 (fun q=>ha q.symm)]; rfl]
theorem Q6e (n i:Nat) (k:Int):W9 n (fun o=>if o=i then k else 0)=if i < n then k else 0:=by
 induction n with
 | zero=>rfl
 | succ n ih=>
  rw [Jn,ih]
  by_cases e:n=i
  ·subst e; simp
  ·rw [if_neg e]
   by_cases h:i < n
   ·rw [if_pos h,if_pos (by omega)]; omega
   ·rw [if_neg h,if_neg (by omega)]; omega
theorem Qn5 {n i j:Nat} {tb:List (List Int)} (z:Sz n tb) (hi:i < n) (x:Int):Sz n (Xm tb i j x):=by
 unfold Xm;refine ⟨by rw [D5]; exact z.1,fun r hr=>?_⟩;rcases List.mem_or_eq_of_mem_set hr with hr | rfl
 ·exact z.2 r hr
 ·rw [D5]; exact (z.row hi).2
theorem Q6x {n i j:Nat} {tb:List (List Int)} (z:Sz n tb) (hi:i < n) (hj:j<=n) (k:Int) {h:Nat} (hh:h < n) :
  Qr (Xm tb i j (ent tb i j + k)) h=Qr tb h + (if h=j then k else 0) - (if h=i then k else 0) + (if h=i/\j=i then k else 0):=by
 have z':=Qn5 (j:=j) z hi (ent tb i j + k);have he:∀ a b,ent (Xm tb i j (ent tb i j + k)) a b=ent tb a b + if a=i/\b=j then k else 0:=fun a b=>by
  rw [Q08 z hi hj]
  split
  ·rename_i q; rw [q.1,q.2]
  ·omega
 rw [j7 z' hh,j7 z hh];have c1:W9 n (fun o=>ent (Xm tb i j (ent tb i j + k)) o h)=W9 n (fun o=>ent tb o h) + if h=j then k else 0:=by
  rw [Ub (g:=fun o=>ent tb o h + if o=i then (if h=j then k else 0) else 0) fun o _=>by
   rw [he]
   by_cases q1:o=i <;> by_cases q2:h=j <;> simp [q1,q2],Qbx,Q6e,if_pos hi]
 have c2:W9 n (fun b=>ent (Xm tb i j (ent tb i j + k)) h b) + ent (Xm tb i j (ent tb i j + k)) h n=W9 n (fun b=>ent tb h b) + ent tb h n + if h=i then k else 0:=by
  rw [<- Jn,<- Jn,Ub (g:=fun b=>ent tb h b + if b=j then (if h=i then k else 0) else 0) fun b _=>by
   rw [he]
   by_cases q1:h=i <;> by_cases q2:b=j <;> simp [q1,q2],Qbx,Q6e,if_pos (by omega)]
 rw [c1,c2,he]
 by_cases q1:h=i <;> by_cases q2:j=i <;> by_cases q3:h=j <;> simp [q1,q2,q3] <;> omega
structure Ca (n:Nat) (tb:List (List Int)):Prop where
 nn:∀ h,h < n->0<=Qr tb h
 bz:∀ h,h < n->U2 tb h=true->Rc n tb h
theorem Ca.comes {n:Nat} {tb:List (List Int)} (c:Ca n tb):Q8f n tb=true:=by
 unfold Q8f Q2m;rw [F6,F7,F7];refine ⟨fun h hh=>by simp [c.nn h (E7.mp hh)],fun h hh=>?_⟩;have hh:=E7.mp hh;cases hb:U2 tb h with
 | false=>simp
 | true=>rw [(Qd3 n tb hh).mpr (c.bz h hh hb)]; rfl
theorem Rc.mono {n:Nat} {t1 t2:List (List Int)} (h:∀ a b,a < n->b < n->ent t1 a b<=ent t2 a b) {g:Nat} (r:Rc n t1 g):Rc n t2 g:=by
 induction r with
 | @made k hl hm=>
  refine .made hl ?_;unfold Q0e at *;have:=h k k hl hl;simp at hm;simp; omega
 | @lent o k r hl he ih=>
  have:=h o k r.lt hl;exact .lent ih hl (by omega)
theorem ye {n:Nat} {tb:List (List Int)} (w:Wt' n tb) {h:Nat} (hh:h < n):U2 tb h=true <-> ∃ j,j<=n/\j≠h/\0 < ent tb h j:=by
 rw [<- Qq6 w hh];unfold Qkz;rw [List.any_eq_true];constructor
 ·rintro ⟨j,hj,q⟩;simp at q;exact ⟨j,by have:=E7.mp hj; omega,q.1,q.2⟩
 ·rintro ⟨j,hj,q1,q2⟩;exact ⟨j,E7.mpr (by omega),by simp [q1,q2]⟩
theorem Ca.rc_of {n:Nat} {tb:List (List Int)} (w:Wt' n tb) (c:Ca n tb) {i:Nat} (hi:i < n) (hr:1<=Qr tb i):Rc n tb i:=by
 rw [j7 w.sz hi] at hr;have hrow:ent tb i i<=W9 n (fun j=>ent tb i j):=Qap (fun j hj=>w.ent_nn hi (E8 hj)) hi
 have hnn:=w.ent_nn hi (O7 n);have:∃ o,o < n/\0 < ent tb o i:=by
  refine Classical.byContradiction fun q=>?_
  have:W9 n (fun o=>ent tb o i)=W9 n fun _=>0:=Ub fun o ho=>by
   have h1:=w.ent_nn ho (E8 hi);have h2:¬ 0 < ent tb o i:=fun z=>q ⟨o,ho,z⟩
   omega
  rw [Q43] at this;omega
 obtain ⟨o,ho,he⟩:=this
 by_cases e:o=i
 ·subst e;exact .made hi (by unfold Q0e; simp [he])
 ·exact .lent (c.bz o ho ((ye w ho).mpr ⟨i,E8 hi,fun z=>e z.symm,he⟩)) hi he
theorem Ca.make {n i:Nat} {tb:List (List Int)} (w:Wt' n tb) (c:Ca n tb) (hi:i < n) {k:Int} (hk:0<=k) (w':Wt' n (Xm tb i i (ent tb i i + k))):Ca n (Xm tb i i (ent tb i i + k)):=by
 have hle:∀ a b,ent tb a b<=ent (Xm tb i i (ent tb i i + k)) a b:=fun a b=>by
  rw [Q08 w.sz hi (E8 hi)]
  split
  ·rename_i q; rw [q.1,q.2]; omega
  ·omega
 refine ⟨fun h hh=>?_,fun h hh hb=>?_⟩
 ·rw [Q6x w.sz hi (E8 hi) k hh];have:=c.nn h hh
  by_cases q:h=i <;> simp [q] at * <;> omega
 ·obtain ⟨j,hj,q1,q2⟩:=(ye w' hh).mp hb;rw [Q08 w.sz hi (E8 hi)] at q2;rw [if_neg (fun q=>q1 (by omega))] at q2
  exact (c.bz h hh ((ye w hh).mpr ⟨j,hj,q1,q2⟩)).mono fun a b _ _=>hle a b
theorem Ca.give {n i j:Nat} {tb:List (List Int)} (w:Wt' n tb) (c:Ca n tb) (hi:i < n) (hj:j<=n) (hne:j≠i) {k:Int} (hk:0<=k) (hr:k<=Qr tb i) (hr1:1<=Qr tb i) (w':Wt' n (Xm tb i j (ent tb i j + k))):Ca n (Xm tb i j (ent tb i j + k)):=by
 have hle:∀ a b,ent tb a b<=ent (Xm tb i j (ent tb i j + k)) a b:=fun a b=>by
  rw [Q08 w.sz hi hj]
  split
  ·rename_i q; rw [q.1,q.2]; omega
  ·omega
 refine ⟨fun h hh=>?_,fun h hh hb=>?_⟩
 ·rw [Q6x w.sz hi hj k hh];have:=c.nn h hh
  by_cases q:h=i
  ·subst q;rw [if_neg (fun z=>hne z.symm),if_pos rfl,if_neg (fun z=>hne z.2)];omega
  ·by_cases q2:h=j
   ·rw [if_pos q2,if_neg q,if_neg (fun z=>q z.1)]; omega
   ·rw [if_neg q2,if_neg q,if_neg (fun z=>q z.1)]; omega
 ·by_cases q:h=i
  ·subst q;exact (c.rc_of w hi hr1).mono fun a b _ _=>hle a b
  ·obtain ⟨b,hb1,q1,q2⟩:=(ye w' hh).mp hb;rw [Q08 w.sz hi hj,if_neg (fun z=>q z.1)] at q2;exact (c.bz h hh ((ye w hh).mpr ⟨b,hb1,q1,q2⟩)).mono fun a b _ _=>hle a b
theorem Ca.zero {n:Nat} (h1:1<=n) (h8:n<=8) (w:Wt' n (List.replicate n (K6 n))):Ca n (List.replicate n (K6 n)):=by
 have he:∀ a b,a < n->b<=n->ent (List.replicate n (K6 n)) a b=0:=fun a b ha hb=>by
  unfold ent K6;rw [show (List.replicate n (List.replicate (n + 1) (0:Int))).getD a []=List.replicate (n + 1) 0 by rw [List.getD,List.getElem?_replicate,if_pos ha]; rfl];rw [List.getD,List.getElem?_replicate,if_pos (by omega)]; rfl
 refine ⟨fun h hh=>?_,fun h hh hb=>?_⟩
 ·rw [j7 w.sz hh,Ub (g:=fun _=>0) fun o ho=>he o h ho (E8 hh),Ub (f:=fun j=>ent (List.replicate n (K6 n)) h j) (g:=fun _=>0) fun o ho=>he h o hh (E8 ho),Q43,he h n hh (O7 n),he h h hh (E8 hh)]
  omega
 ·obtain ⟨j,hj,_,q⟩:=(ye w hh).mp hb;rw [he h j hh hj] at q;omega
theorem Qpx {n:Nat} {tb:List (List Int)} (w:Wt' n tb) (st:Q2):Wd [Q7 tb] st=.ok (.bl (Q8f n tb)) st:=by
 have h8:=w.n8;obtain ⟨s,v,e,hs⟩:=Qhm w.sz (by omega) st;have ht:=Qd5 w st;rw [<- hs];generalize Q7 tb=T at *;simp -implicitDefEqProofs [Wd,Qq,X0,ht,e,atI,ixN]
theorem Wt'.set0 {n i j:Nat} {tb:List (List Int)} (w:Wt' n tb) (hi:i < n) {x:Int} (hx:0<=x):Wt' n (tb.set i ((tb.getD i []).set j x)):=by
 have hr:=(w.sz.row hi).1;have hm:=D2 hr;generalize tb.getD i []=r at *;refine ⟨by rw [D5]; exact w.len,fun q hq=>?_,fun q hq y hy=>?_,w.n1,w.n8⟩
 ·rcases List.mem_or_eq_of_mem_set hq with hq | rfl
  ·exact w.row q hq
  ·rw [D5]; exact w.row r hm
 ·rcases List.mem_or_eq_of_mem_set hq with hq | rfl
  ·exact w.nn q hq y hy
  ·rcases List.mem_or_eq_of_mem_set hy with hy | rfl
   ·exact w.nn r hm y hy
   ·exact hx
theorem Q61 {α:Type} (xs:List α) (i:Nat) (x:α) (h:i < xs.length):xs.take i ++ [x] ++ xs.drop (i + 1)=xs.set i x:=by
 rw [List.set_eq_take_append_cons_drop,if_pos h,List.append_assoc]; rfl
theorem Qgh {n i j:Nat} {tb:List (List Int)} (z:Sz n tb) (hn:n<=100) (hi:i < n) (hj:j<=n) (k:Int) (st:Q2):Q1i [Q7 tb,.int i,.int j,.int k] st=.ok (Q7 (Xm tb i j (ent tb i j + k))) st:=by
 have c0:=Q0b z hi hj st;have hrl:=(z.row hi).2;have g1:Qy ((tb.getD i []).set j (ent tb i j + k))=.tup (((tb.getD i []).take j).map .int ++ [.int (ent tb i j + k)] ++ ((tb.getD i []).drop (j + 1)).map .int):=by
  unfold Qy;rw [<- Q61 _ _ _ (by omega),F3,F3]; rfl
 have g2:Q7 (Xm tb i j (ent tb i j + k))=.tup ((tb.take i).map Qy ++ [Qy ((tb.getD i []).set j (ent tb i j + k))] ++ (tb.drop (i + 1)).map Qy):=by
  unfold Q7 Xm;rw [<- Q61 _ _ _ (by rw [z.1]; exact hi),F3,F3]; rfl
 have c3:cut ((tb.getD i []).map PV.int) none (some (j:Int))=((tb.getD i []).take j).map .int:=by rw [js,Q1w]
 have c4:cut ((tb.getD i []).map PV.int) (some ((j:Int) + 1)) none=((tb.getD i []).drop (j + 1)).map .int:=by rw [js]; exact congrArg _ (Q1d _ (j + 1))
 have c5:cut (tb.map Qy) none (some (i:Int))=(tb.take i).map Qy:=by rw [js,Q1w]
 have c6:cut (tb.map Qy) (some ((i:Int) + 1)) none=(tb.drop (i + 1)).map Qy:=by rw [js]; exact congrArg _ (Q1d _ (i + 1))
 have l3:(((tb.getD i []).take j).map PV.int).length=j:=by rw [O2,List.length_take,hrl]; omega
 have l4:(((tb.getD i []).drop (j + 1)).map PV.int).length=n - j:=by rw [O2,List.length_drop,hrl]; omega
 have l5:((tb.take i).map Qy).length=i:=by rw [O2,List.length_take,z.1]; omega
 have l6:((tb.drop (i + 1)).map Qy).length=n - (i + 1):=by rw [O2,List.length_drop,z.1]
 have b1:j + 1<=1000000:=by omega
 have b2:j + 1 + (n - j)<=1000000:=by omega
 have b3:i + 1<=1000000:=by omega
 have b4:i + 1 + (n - (i + 1))<=1000000:=by omega
 have hf:fin st (Q7 (Xm tb i j (ent tb i j + k))) st=.ok (Q7 (Xm tb i j (ent tb i j + k))) st:=Vm (by simp [Zi,Q7,Qy]);obtain ⟨c1,c2⟩:=c0;have q1:oSl st (Qy (tb.getD i [])) none (some (j:Int))=.ok (.tup (((tb.getD i []).take j).map .int)) st:=by unfold Qy; rw [jm,c3]
 have q2:oSl st (Qy (tb.getD i [])) (some ((j:Int) + 1)) none=.ok (.tup (((tb.getD i []).drop (j + 1)).map .int)) st:=by unfold Qy; rw [jm,c4]
 have q3:oSl st (Q7 tb) none (some (i:Int))=.ok (.tup ((tb.take i).map Qy)) st:=by unfold Q7; rw [jm,c5]
 have q4:oSl st (Q7 tb) (some ((i:Int) + 1)) none=.ok (.tup ((tb.drop (i + 1)).map Qy)) st:=by unfold Q7; rw [jm,c6]
 rw [g2] at hf ⊢;rw [g1] at hf ⊢;generalize ent tb i j=x at *;generalize ((tb.getD i []).take j).map PV.int=v3 at *;generalize ((tb.getD i []).drop (j + 1)).map PV.int=v4 at *;generalize (tb.take i).map Qy=v5 at *;generalize (tb.drop (i + 1)).map Qy=v6 at *;generalize Qy (tb.getD i [])=rv at *;generalize Q7 tb=T at *;simp -implicitDefEqProofs at hf;simp -implicitDefEqProofs [Q1i,Qq,Q7k,c1,c2,q1,q2,q3,q4,Zh,l3,l4,l5,l6,b1,b2,b3,b4,hf]
inductive Dd where
 | mk (h:Nat) (k:Int)
 | ld (h q:Nat) (k:Int)
 | us (h:Nat) (k:Int)
def Dd.h:Dd->Nat
 | .mk h _=>h
 | .ld h _ _=>h
 | .us h _=>h
def Dd.k:Dd->Int
 | .mk _ k=>k
 | .ld _ _ k=>k
 | .us _ k=>k
def Dd.pl (n:Nat):Dd->Nat
 | .mk h _=>h
 | .ld _ q _=>q
 | .us _ _=>n
def Dd.isM:Dd->Bool
 | .mk _ _=>true
 | _=>false
def Dd.V:Dd->PV
 | .mk h k=>.tup [.str "make",.int h,.int k]
 | .ld h q k=>.tup [.str "lend",.int h,.int q,.int k]
 | .us h k=>.tup [.str "use",.int h,.int k]
def Dd.ok (n:Nat):Dd->Prop
 | .mk h k=>h < n/\1<=k
 | .ld h q k=>h < n/\q < n/\q≠h/\1<=k
 | .us h k=>h < n/\1<=k
theorem Dd.ok_h {n:Nat} {d:Dd} (o:d.ok n):d.h < n:=by cases d <;> exact o.1
theorem Dd.ok_k {n:Nat} {d:Dd} (o:d.ok n):1<=d.k:=by
 cases d with
 | mk h k=>exact o.2
 | ld h q k=>exact o.2.2.2
 | us h k=>exact o.2
theorem Dd.ok_pl {n:Nat} {d:Dd} (o:d.ok n):d.pl n<=n:=by
 cases d with
 | mk h k=>exact E8 o.1
 | ld h q k=>exact E8 o.2.1
 | us h k=>exact O7 n
theorem Vc (x:Str) (ns:List Int) (hl:ns.length<=100) (st:Q2):Qj [.tup (.str x :: ns.map .int)] st=.ok (.bl true) st:=by
 have c1:cut (PV.str x :: ns.map .int) (some 1) none=ns.map .int:=Q1d _ 1;have hc:Z0 (Qn 0) Zn Wr [] (Zk [none] [some (.tup (.str x :: ns.map .int))]) (ns.map .int) st=.ok (ns.map fun _=>.bl true) st:=by
  refine Yx _ _ (by simp) fun i _=>⟨_,rfl,?_⟩
  simp [Zk,Wr,Q06]
 have e:(ns.map fun _=>PV.bl true)=(ns.map fun _=>true).map PV.bl:=by rw [List.map_map]; rfl
 have ha:(ns.map fun _=>true).all id=true:=by simp
 have a0:atI (PV.str x :: ns.map .int) 0=some (.str x):=Sm.atI_get (show (PV.str x :: ns.map .int)[0]?=some (.str x) from rfl);have hll:(ns.map PV.int).length<=1000000:=by rw [O2]; omega
 rw [e] at hc;have i1:isI "tuple" (.tup (.str x :: ns.map .int))=true:=rfl;have i2:isI "str" (.str x)=true:=rfl;have hz:¬ (((ns.map PV.int).length:Int) + 1=0):=by omega
 generalize (ns.map fun _=>true)=bs at *;generalize ns.map PV.int=nv at *;simp -implicitDefEqProofs [Qj,Qq,Vb,i1,i2,a0,c1,hc,ha,Zh,hll,hz,-F6]
theorem Qr9:¬ (Str.ofString "make" = Str.ofString "lend"):=by decide
theorem Qdx:¬ (Str.ofString "lend" = Str.ofString "make"):=by decide
theorem Qdv:¬ (Str.ofString "use" = Str.ofString "make"):=by decide
theorem Qdw:¬ (Str.ofString "use" = Str.ofString "lend"):=by decide
theorem Q80 {n:Nat} {d:Dd} (o:d.ok n) (st:Q2):Yv [d.V] st=.ok (.bl true) st:=by
 have hk:=Dd.ok_k o;cases d with
 | mk h k=>
  have t:=Vc "make" [h,k] (by simp) st;have a0:atI [PV.str "make",.int h,.int k] 0=some (.str "make"):=rfl;have a1:atI [PV.str "make",.int h,.int k] (-1)=some (.int k):=rfl;have hk:(1:Int)<=k:=hk;have t:Qj [.tup [.str "make",.int h,.int k]] st=.ok (.bl true) st:=t;unfold Dd.V;simp -implicitDefEqProofs [Yv,Qq,Vq,t,a0,a1,hk]
 | ld h q k=>
  have t:=Vc "lend" [h,q,k] (by simp) st;have a0:atI [PV.str "lend",.int h,.int q,.int k] 0=some (.str "lend"):=rfl;have a1:atI [PV.str "lend",.int h,.int q,.int k] (-1)=some (.int k):=rfl;have hk:(1:Int)<=k:=hk;have t:Qj [.tup [.str "lend",.int h,.int q,.int k]] st=.ok (.bl true) st:=t;unfold Dd.V;simp -implicitDefEqProofs [Yv,Qq,Vq,t,a0,a1,hk,Qdx]
 | us h k=>
  have t:=Vc "use" [h,k] (by simp) st;have a0:atI [PV.str "use",.int h,.int k] 0=some (.str "use"):=rfl;have a1:atI [PV.str "use",.int h,.int k] (-1)=some (.int k):=rfl;have hk:(1:Int)<=k:=hk;have t:Qj [.tup [.str "use",.int h,.int k]] st=.ok (.bl true) st:=t;unfold Dd.V;simp -implicitDefEqProofs [Yv,Qq,Vq,t,a0,a1,hk,Qdv,Qdw]
theorem Qcr {n:Nat} {tb:List (List Int)} (hn:tb.length=n) {d:Dd} (o:d.ok n) (st:Q2):J7 [Q7 tb,d.V] st=.ok .non st:=by
 have b1:Q27 (fun ns=>.bl (ns.all id)) st [.lst [.bl true]]=.ok (.bl true) st:=Q8i _ st [true]
 have b2:Q27 (fun ns=>.bl (ns.all id)) st [.lst [.bl true,.bl true]]=.ok (.bl true) st:=Q8i _ st [true,true]
 have hh:∀ i:Nat,i < n->Yd [Q7 tb,.int i] st=.ok (.bl true) st:=fun i hi=>by
  have:=Q18 (V:=Q7 tb) (n:=n) (st:=st) (by simp [Q7,hn]) (i:Int);rw [show (decide ((0:Int)<=(i:Int)) && decide ((i:Int) < (n:Int)))=true by simp; omega] at this;exact this
 cases d with
 | mk h k=>
  have e:=hh h o.1;have s1:cut [PV.str "make",.int h,.int k] (some 1) (some (-1))=[.int h]:=rfl;have a0:atI [PV.str "make",.int h,.int k] 0=some (.str "make"):=rfl;unfold Dd.V;generalize Q7 tb=T at *;simp -implicitDefEqProofs [J7,Qq,Yi,s1,a0,Z0,Qn,Zn,Zk,Yt,b1,b2,e,Zh,Qr9]
 | ld h q k=>
  have e:=hh h o.1;have e2:=hh q o.2.1;have s1:cut [PV.str "lend",.int h,.int q,.int k] (some 1) (some (-1))=[.int h,.int q]:=rfl;have a0:atI [PV.str "lend",.int h,.int q,.int k] 0=some (.str "lend"):=rfl;have a1:atI [PV.int (h:Int),.int q] 0=some (.int h):=rfl;have a2:atI [PV.int (h:Int),.int q] 1=some (.int q):=rfl;have hne:((h:Int) == (q:Int))=false:=by rw [beq_eq_false_iff_ne]; have:=o.2.2.1; omega
  have hne':¬ ((h:Int)=(q:Int)):=by have:=o.2.2.1; omega
  unfold Dd.V;generalize Q7 tb=T at *;simp -implicitDefEqProofs [J7,Qq,Yi,s1,a0,a1,a2,Z0,Qn,Zn,Zk,Yt,b1,b2,e,e2,Zh,hne,hne']
 | us h k=>
  have e:=hh h o.1;have s1:cut [PV.str "use",.int h,.int k] (some 1) (some (-1))=[.int h]:=rfl;have a0:atI [PV.str "use",.int h,.int k] 0=some (.str "use"):=rfl;unfold Dd.V;generalize Q7 tb=T at *;simp -implicitDefEqProofs [J7,Qq,Yi,s1,a0,Z0,Qn,Zn,Zk,Yt,b1,b2,e,Zh,Qdw]
theorem Qj5 {n:Nat} {tb:List (List Int)} (hn:tb.length=n) {d:Dd} (o:d.ok n) (st:Q2):W6 [Q7 tb,d.V] st=.ok (.int (d.pl n)) st:=by
 cases d with
 | mk h k=>
  have a0:atI [PV.str "make",.int h,.int k] 0=some (.str "make"):=rfl;have a1:atI [PV.str "make",.int h,.int k] 1=some (.int h):=rfl;unfold Dd.V Dd.pl;generalize Q7 tb=T at *;simp -implicitDefEqProofs [W6,Qq,Vk,a0,a1]
 | ld h q k=>
  have a0:atI [PV.str "lend",.int h,.int q,.int k] 0=some (.str "lend"):=rfl;have a1:atI [PV.str "lend",.int h,.int q,.int k] 2=some (.int q):=rfl;unfold Dd.V Dd.pl;generalize Q7 tb=T at *;simp -implicitDefEqProofs [W6,Qq,Vk,a0,a1,Qdx]
 | us h k=>
  have a0:atI [PV.str "use",.int h,.int k] 0=some (.str "use"):=rfl;have hl:(tb.map Qy).length=n:=by rw [O2]; exact hn
  unfold Dd.V Dd.pl Q7;generalize tb.map Qy=T at *;simp -implicitDefEqProofs [W6,Qq,Vk,a0,hl,Qdv,Qdw]
def Dd.fits (tb:List (List Int)) (d:Dd):Bool:=d.isM || decide (d.k<=Qr tb d.h)
def Dd.put (n:Nat) (tb:List (List Int)) (d:Dd):List (List Int):=Xm tb d.h (d.pl n) (ent tb d.h (d.pl n) + d.k)
theorem Dd.a0 (d:Dd) (st:Q2):∃ w:Str,oIx st d.V (.int 0)=.ok (.str w) st/\(w = "make" <-> d.isM=true):=by
 cases d with
 | mk h k=>exact ⟨"make",rfl,by simp [Dd.isM]⟩
 | ld h q k=>exact ⟨"lend",rfl,by simp [Dd.isM,Qdx]⟩
 | us h k=>exact ⟨"use",rfl,by simp [Dd.isM,Qdv]⟩
theorem Dd.a1 (d:Dd) (st:Q2):oIx st d.V (.int 1)=.ok (.int d.h) st:=by cases d <;> rfl
theorem Dd.al (d:Dd) (st:Q2):oIx st d.V (.int (-1))=.ok (.int d.k) st:=by cases d <;> rfl
theorem Qbh {n:Nat} {tb:List (List Int)} (w:Wt' n tb) {d:Dd} (o:d.ok n) (st:Q2):jj [Q7 tb,d.V] st=if d.fits tb=true then .ok (Q7 (d.put n tb)) st else .exc ⟨"Short",some ("had",.int (Qr tb d.h))⟩ st:=by
 have h8:=w.n8;have e1:=Q80 o st;have e2:=Qcr w.len o st;have e3:=Q9w w.sz (by omega) (Dd.ok_h o) st;have e4:=Qj5 w.len o st;have e5:=Qgh w.sz (by omega) (Dd.ok_h o) (Dd.ok_pl o) d.k st;obtain ⟨x,e6,hx⟩:=d.a0 st;have e7:=d.a1 st;have e8:=d.al st;have hpre:st <+: st:=List.prefix_refl _;have hf:fin st (Q7 (d.put n tb)) st=.ok (Q7 (d.put n tb)) st:=Vm (by simp [Zi,Q7,Qy]);have hfx:Qkc st ⟨"Short",some ("had",.int (Qr tb d.h))⟩ st=.exc ⟨"Short",some ("had",.int (Qr tb d.h))⟩ st:=by simp [Qkc,fz]
 unfold Dd.put Dd.fits at *;generalize Q7 (Xm tb d.h (d.pl n) (ent tb d.h (d.pl n) + d.k))=V2 at *;generalize Qr tb d.h=r at *;generalize Q7 tb=T at *;generalize d.V=DV at *;generalize (d.pl n:Int)=pl at *;generalize d.k=k at *;cases hm:d.isM with
 | true=>
  have hx:x = "make" := hx.mpr hm;subst hx;simp -implicitDefEqProofs [jj,Qq,Q7q,e1,e2,e4,e5,e6,e7,e8,hf]
 | false=>
  have hx':¬ x = "make" := fun z=>by rw [hx.mp z] at hm; cases hm
  by_cases hk:k<=r
  ·have hk':¬ r < k:=by omega
   simp -implicitDefEqProofs [jj,Qq,Q7q,e1,e2,e3,e4,e5,e6,e7,e8,hf,hx',hk,hk']
  ·have hk':r < k:=by omega
   simp -implicitDefEqProofs [jj,Qq,Q7q,e1,e2,e3,e6,e7,e8,hfx,hx',hk,hk']
theorem Qm {a b:MS} {Γ Γ1:Gam} {S S1:Q2} {r:SR} (h1:a Γ S=.nx Γ1 S1) (h2:b Γ1 S1=r):Qp a b Γ S=r:=by rw [Qcw,h1]; exact h2
theorem Jb {i:Nat} {m:ME} {Γ:Gam} {S S1:Q2} {v:PV} (h:m Γ S=.ok v S1):Je i m Γ S=.nx (Γ.set i (some v)) S1:=by rw [Qp8,h]; rfl
theorem Qu {n:Nat} {F:FN} {mr:ML} {Γ:Gam} {S S1 S2:Q2} {ps:List PV} {v:PV} (h1:mr Γ S=.ok ps S1) (h2:ps.length=n) (h3:F ps S1=.ok v S2):Qf n F mr Γ S=.ok v S2:=by rw [Qa4,h1,J4,if_pos h2,h3]
theorem Qe {o:OP} {a b:ME} {Γ:Gam} {S S1 S2 S3:Q2} {x y v:PV} (h1:a Γ S=.ok x S1) (h2:b Γ S1=.ok y S2) (h3:o S2 x y=.ok v S3):mOp o a b Γ S=.ok v S3:=by rw [Qsk,h1,J4,h2,J4,h3]
theorem Q5 {m:ME} {mr:ML} {Γ:Gam} {S S1 S2:Q2} {p:PV} {ps:List PV} (h1:m Γ S=.ok p S1) (h2:mr Γ S1=.ok ps S2):Q3 m mr Γ S=.ok (p :: ps) S2:=by rw [Qjy,h1,J4,h2,J4]
theorem Up {o:CF} {mr:ML} {Γ:Gam} {S S1 S2:Q2} {ps:List PV} {v:PV} (h1:mr Γ S=.ok ps S1) (h2:o S1 ps=.ok v S2):J5 o mr Γ S=.ok v S2:=by rw [Qjz,h1,J4,h2]
theorem Q50 {ga:GA} {mi:MI} {b:MS} {Γ:Gam} {S S1:Q2} {xs:List PV} {w:Wt} {r:SR} (h1:mi Γ S=.ok (xs,w) S1) (h2:y6 ga b w xs Γ S1=r):Q7r ga mi b Γ S=r:=by rw [Qpb,h1]; exact h2
theorem y0 {c:MT} {a b:MS} {Γ:Gam} {S S1:Q2} {r:SR} (h1:c Γ S=.ok true S1) (h2:a Γ S1=r):Ye c a b Γ S=r:=by rw [Qfn,h1]; exact h2
theorem Wq {c:MT} {a b:MS} {Γ:Gam} {S S1:Q2} {r:SR} (h1:c Γ S=.ok false S1) (h2:b Γ S1=r):Ye c a b Γ S=r:=by rw [Qfn,h1]; exact h2
theorem Qtb {ga:GA} {m:ME} {Γ Γ1:Gam} {S S1:Q2} {p:PV} (h1:m Γ S=.ok p S1) (h2:ga p Γ=some Γ1):Qk0 ga m Γ S=.nx Γ1 S1:=by rw [Qpd,h1]; show (match ga p Γ with | some Γ1=>SR.nx Γ1 S1 | none=>.stuck)=_; rw [h2]
theorem Qf4 {m:ME} {Γ:Gam} {S S1:Q2} {p:PV} {xs:List PV} {w:Wt} (h1:m Γ S=.ok p S1) (h2:Ut S1 p=some (xs,w)) (h3:xs.length<=1000000):zw m Γ S=.ok (xs,w) S1:=by rw [Qp9,h1,J4,h2]; exact if_pos h3
theorem Q42 {m:ML} {Γ:Gam} {S S1:Q2} {ps:List PV} (h:m Γ S=.ok ps S1):Xv m Γ S=.ok (.lst ps) S1:=by rw [Qp5,h,J4]
theorem qk {cap:List (Option Nat)} {ga:GA} {mi:MI} {mt:MT} {me:ME} {Γ:Gam} {S S1 S2:Q2} {xs ys:List PV} {w:Wt} (h1:mi Γ S=.ok (xs,w) S1) (h2:Z0 ga mt me w (Zk cap Γ) xs S1=.ok ys S2):Yb cap ga mi mt me Γ S=.ok ys S2:=by rw [Qh5,h1,J4,h2]; rfl
theorem yh {m:ML} {Γ:Gam} {S S1:Q2} {ps:List PV} (h:m Γ S=.ok ps S1):Q0i m Γ S=.ok (.ref S1.length) (S1 ++ [.lst ps]):=by rw [Qp7,h,J4]
theorem Q4n {t:MT} {Γ:Gam} {S S1:Q2} {b:Bool} (h:t Γ S=.ok b S1):Vg t Γ S=.ok (!b) S1:=by rw [Qii,h,J4]
theorem J3 {m:ME} {Γ:Gam} {S S1:Q2} {b:Bool} (h:m Γ S=.ok (.bl b) S1):toB m Γ S=.ok b S1:=by rw [Qr3,h]; rfl
theorem Q6p {mo mi m:ME} {Γ:Gam} {S S1 S2 S3 S4:Q2} {p o i:PV} (h1:m Γ S=.ok p S1) (h2:mo Γ S1=.ok o S2) (h3:mi Γ S2=.ok i S3) (h4:Q0q S3 o i p=some S4):Q03 mo mi m Γ S=.nx Γ S4:=by
 rw [Qh3,h1,Vj,h2,Vj,h3,Vj,h4]
theorem Q56 {f:MF} {mo:ME} {mr:ML} {Γ:Gam} {S S1 S2 S3:Q2} {p v:PV} {xs ps:List PV} (h1:mo Γ S=.ok p S1) (h2:zm S1 p=some xs) (h3:mr Γ S1=.ok ps S2) (h4:f S2 p ps=.ok v S3):W2 (mBM f mo mr) Γ S=.nx Γ S3:=by
 rw [Q7s,Qsp,h1,J4];simp only [h2];rw [h3,J4,h4,Vj]
theorem Q07 {m:ME} {Γ:Gam} {S S1:Q2} {v:PV} (h:m Γ S=.ok v S1):W2 m Γ S=.nx Γ S1:=by rw [Q7s,h]; rfl
theorem Qv1 {a b:MT} {Γ:Gam} {S S1:Q2} (h:a Γ S=.ok true S1):Q0m a b Γ S=.ok true S1:=by rw [Qf2,h]; rfl
theorem Qb2 {a b:MT} {Γ:Gam} {S S1:Q2} {r:Res Bool} (h:a Γ S=.ok false S1) (h2:b Γ S1=r):Q0m a b Γ S=r:=by rw [Qf2,h]; exact h2
theorem qt {a b:MS} {Γ:Gam} {S S1:Q2} {v:PV} (h:a Γ S=.rt v S1):Qp a b Γ S=.rt v S1:=by rw [Qcw,h]
theorem Kg {mr:ML} {Γ:Gam} {S S1:Q2} {ps:List PV} (h1:mr Γ S=.ok ps S1) (h2:ps.length<=1000000):Xn mr Γ S=.ok (.tup ps) S1:=by rw [Qp6,h1,J4]; exact if_pos h2
theorem Qks {n:Nat} {F:FN} {mr:ML} {Γ:Gam} {S S1 S2:Q2} {ps:List PV} {x:Exc} (h1:mr Γ S=.ok ps S1) (h2:ps.length=n) (h3:F ps S1=.exc x S2):Qf n F mr Γ S=.exc x S2:=by rw [Qa4,h1,J4,if_pos h2,h3]
theorem Q4m {C:Addr} {S:Q2} {i:Nat} {fs:List (Str × PV)} (h:S[i]?=some (.obj C fs)):Q2a C S (.ref i)=some (i,fs):=by
 unfold Q2a;simp only [h,if_true]
theorem Kt {C:Addr} {f:Str} {mo:ME} {Γ:Gam} {S:Q2} {i:Nat} {fs:List (Str × PV)} {q:PV} (h1:mo Γ S=.ok (.ref i) S) (h2:S[i]?=some (.obj C fs)) (h3:fs.lookup f=some q):Vr C f mo Γ S=.ok q S:=by
 rw [Qpc,h1,J4,Q4m h2];simp only [h3]
theorem Kz {C:Addr} {f:Str} {mo m:ME} {Γ:Gam} {S S1:Q2} {i:Nat} {fs:List (Str × PV)} {p:PV} (h1:m Γ S=.ok p S1) (h2:mo Γ S1=.ok (.ref i) S1) (h3:S1[i]?=some (.obj C fs)) (h4:fs.length < 1000):zx C f mo m Γ S=.nx Γ (S1.set i (.obj C (zt f p fs))):=by
 rw [Qcx,h1,Vj,h2,Vj,Q4m h3];exact if_pos h4
theorem Qdy {C:Addr} {f:Str} {mo m:ME} {Γ:Gam} {S S1:Q2} {x:Exc} (h1:m Γ S=.exc x S1):zx C f mo m Γ S=.exc x S1:=by
 rw [Qcx,h1]; rfl
theorem jn {C:Addr} {x:Str} {n:Nat} {F:FN} {mo:ME} {mr:ML} {Γ:Gam} {S S1:Q2} {i:Nat} {fs:List (Str × PV)} {ps:List PV} (h1:mo Γ S=.ok (.ref i) S) (h2:S[i]?=some (.obj C fs)) (h3:fs.lookup x=none) (h4:mr Γ S=.ok ps S1) (h5:ps.length + 1=n):zz C x n F mo mr Γ S=F (.ref i :: ps) S1:=by
 rw [Qjw,h1,J4,Q4m h2];simp only [h3,if_true];rw [h4,J4,if_pos h5]
def hsF (h:Nat) (now last:List (List Int)):List (Str × PV):=[("number",.int h),("now",Q7 now),("kept",Q7 last)]
theorem s1:((Str.ofString "now") == (Str.ofString "number"))=false:=by decide +kernel
theorem s2:((Str.ofString "kept") == (Str.ofString "number"))=false:=by decide +kernel
theorem s3:((Str.ofString "kept") == (Str.ofString "now"))=false:=by decide +kernel
theorem s1':¬ (Str.ofString "number" = Str.ofString "now"):=by decide +kernel
theorem s2':¬ (Str.ofString "number" = Str.ofString "kept"):=by decide +kernel
theorem s3':¬ (Str.ofString "now" = Str.ofString "kept"):=by decide +kernel
theorem Q1s (h:Nat) (a b:List (List Int)):(hsF h a b).lookup (Str.ofString "number")=some (.int h):=by unfold hsF; rw [D9,beq_self_eq_true]
theorem Q4y (h:Nat) (a b:List (List Int)):(hsF h a b).lookup (Str.ofString "now")=some (Q7 a):=by unfold hsF; rw [D9,s1,D9,beq_self_eq_true]
theorem Qft (h:Nat) (a b:List (List Int)):(hsF h a b).lookup (Str.ofString "kept")=some (Q7 b):=by unfold hsF; rw [D9,s2,D9,s3,D9,beq_self_eq_true]
theorem Q3a (h:Nat) (a b c:List (List Int)):zt "now" (Q7 c) (hsF h a b)=hsF h c b:=by
 unfold hsF;rw [zt,if_neg s1',zt,if_pos rfl]
theorem Qiy (h:Nat) (a b c:List (List Int)):zt "kept" (Q7 c) (hsF h a b)=hsF h a c:=by
 unfold hsF;rw [zt,if_neg s2',zt,if_neg s3',zt,if_pos rfl]
theorem Q4z (h:Nat) (a b:List (List Int)):(hsF h a b).length < 1000:=by unfold hsF; simp
theorem jr {x:Str} (h1:(x == (Str.ofString "number"))=false) (h2:(x == (Str.ofString "now"))=false) (h3:(x == (Str.ofString "kept"))=false) (h:Nat) (a b:List (List Int)):(hsF h a b).lookup x=none:=by
 unfold hsF;rw [D9,h1,D9,h2,D9,h3]; rfl
section
variable {C:Addr} {S:Q2} {i h n:Nat} {now last:List (List Int)}
def Q5j (C:Addr) (S:Q2) (i n:Nat) (now last:List (List Int)) (d:Dd):Res PV:=if d.fits now=true then .ok .non (S.set i (.obj C (hsF d.h (d.put n now) last))) else .exc ⟨"Short",some ("had",.int (Qr now d.h))⟩ S
theorem Qp2 (hS:S[i]?=some (.obj C (hsF h now last))) (w:Wt' n now) {k:Int} (o:(Dd.mk h k).ok n):Xg C [.ref i,.int k] S=Q5j C S i n now last (.mk h k):=by
 have e:=Qbh w o S;have hn:(Vr C "now" (Q4 0)) [some (.ref i),some (.int k)] S=.ok (Q7 now) S:=Kt rfl hS (Q4y _ _ _);have hh:(Vr C "number" (Q4 0)) [some (.ref i),some (.int k)] S=.ok (.int h) S:=Kt rfl hS (Q1s _ _ _);have ha:(Q3 (Vr C "now" (Q4 0)) (Q3 (Xn (Q3 (mC (.str "make")) (Q3 (Vr C "number" (Q4 0)) (Q3 (Q4 1) Q9)))) Q9)) [some (.ref i),some (.int k)] S=.ok [Q7 now,(Dd.mk h k).V] S:=Q5 hn (Q5 (Kg (Q5 rfl (Q5 hh rfl)) (by simp)) rfl);unfold Q5j;show Yj (qd C) 2 _ S=_;unfold Yj;rw [show (([.ref i,.int k]:List PV).map some ++ List.replicate (2 - [PV.ref i,.int k].length) none)=[some (.ref i),some (.int k)] from rfl];unfold qd
 by_cases q:(Dd.mk h k).fits now=true
 ·rw [if_pos q] at e ⊢;rw [Kz (Qu (n:=2) ha rfl e) rfl hS (Q4z _ _ _),Q3a]; rfl
 ·rw [if_neg q] at e ⊢;rw [Qdy (Qks (n:=2) ha rfl e)]
theorem Qpg (hS:S[i]?=some (.obj C (hsF h now last))) (w:Wt' n now) {t:Nat} {k:Int} (o:(Dd.ld h t k).ok n):Xh C [.ref i,.int t,.int k] S=Q5j C S i n now last (.ld h t k):=by
 have e:=Qbh w o S;have hn:(Vr C "now" (Q4 0)) [some (.ref i),some (.int t),some (.int k)] S=.ok (Q7 now) S:=Kt rfl hS (Q4y _ _ _);have hh:(Vr C "number" (Q4 0)) [some (.ref i),some (.int t),some (.int k)] S=.ok (.int h) S:=Kt rfl hS (Q1s _ _ _);have ha:(Q3 (Vr C "now" (Q4 0)) (Q3 (Xn (Q3 (mC (.str "lend")) (Q3 (Vr C "number" (Q4 0)) (Q3 (Q4 1) (Q3 (Q4 2) Q9))))) Q9)) [some (.ref i),some (.int t),some (.int k)] S=.ok [Q7 now,(Dd.ld h t k).V] S:=Q5 hn (Q5 (Kg (Q5 rfl (Q5 hh rfl)) (by simp)) rfl);unfold Q5j;show Yj (qe C) 3 _ S=_;unfold Yj;rw [show (([.ref i,.int t,.int k]:List PV).map some ++ List.replicate (3 - [PV.ref i,.int t,.int k].length) none)=[some (.ref i),some (.int t),some (.int k)] from rfl];unfold qe
 by_cases q:(Dd.ld h t k).fits now=true
 ·rw [if_pos q] at e ⊢;rw [Kz (Qu (n:=2) ha rfl e) rfl hS (Q4z _ _ _),Q3a]; rfl
 ·rw [if_neg q] at e ⊢;rw [Qdy (Qks (n:=2) ha rfl e)]
theorem Qqz (hS:S[i]?=some (.obj C (hsF h now last))) (w:Wt' n now) {k:Int} (o:(Dd.us h k).ok n):Kc C [.ref i,.int k] S=Q5j C S i n now last (.us h k):=by
 have e:=Qbh w o S;have hn:(Vr C "now" (Q4 0)) [some (.ref i),some (.int k)] S=.ok (Q7 now) S:=Kt rfl hS (Q4y _ _ _);have hh:(Vr C "number" (Q4 0)) [some (.ref i),some (.int k)] S=.ok (.int h) S:=Kt rfl hS (Q1s _ _ _);have ha:(Q3 (Vr C "now" (Q4 0)) (Q3 (Xn (Q3 (mC (.str "use")) (Q3 (Vr C "number" (Q4 0)) (Q3 (Q4 1) Q9)))) Q9)) [some (.ref i),some (.int k)] S=.ok [Q7 now,(Dd.us h k).V] S:=Q5 hn (Q5 (Kg (Q5 rfl (Q5 hh rfl)) (by simp)) rfl);unfold Q5j;show Yj (jp C) 2 _ S=_;unfold Yj;rw [show (([.ref i,.int k]:List PV).map some ++ List.replicate (2 - [PV.ref i,.int k].length) none)=[some (.ref i),some (.int k)] from rfl];unfold jp
 by_cases q:(Dd.us h k).fits now=true
 ·rw [if_pos q] at e ⊢;rw [Kz (Qu (n:=2) ha rfl e) rfl hS (Q4z _ _ _),Q3a]; rfl
 ·rw [if_neg q] at e ⊢;rw [Qdy (Qks (n:=2) ha rfl e)]
theorem Qpm (hS:S[i]?=some (.obj C (hsF h now last))):Xi C [.ref i] S=.ok .non (S.set i (.obj C (hsF h now now))):=by
 show Yj (qf C) 1 _ S=_;unfold Yj qf;rw [show (([.ref i]:List PV).map some ++ List.replicate (1 - [PV.ref i].length) none)=[some (.ref i)] from rfl,Kz (Kt rfl hS (Q4y _ _ _)) rfl hS (Q4z _ _ _),Qiy]
theorem Qpv (hS:S[i]?=some (.obj C (hsF h now last))):Xj C [.ref i] S=.ok .non (S.set i (.obj C (hsF h last last))):=by
 show Yj (qg C) 1 _ S=_;unfold Yj qg;rw [show (([.ref i]:List PV).map some ++ List.replicate (1 - [PV.ref i].length) none)=[some (.ref i)] from rfl,Kz (Kt rfl hS (Qft _ _ _)) rfl hS (Q4z _ _ _),Q3a]
theorem Qbe (S:Q2) (a:List (List Int)):fin S (Q7 a) S=.ok (Q7 a) S:=Vm (by simp [Zi,Q7,Qy])
theorem Qh7 (hS:S[i]?=some (.obj C (hsF h now last))):Ws C [.ref i] S=.ok (Q7 last) S:=by
 show Qq (X1 C) 1 _ S=_;unfold Qq X1;rw [show (([.ref i]:List PV).map some ++ List.replicate (1 - [PV.ref i].length) none)=[some (.ref i)] from rfl,Q3m,Kt rfl hS (Qft _ _ _)];exact Qbe S last
theorem Qih (hS:S[i]?=some (.obj C (hsF h now last))):U8 C [.ref i] S=.ok (Q7 now) S:=by
 show Qq (K3 C) 1 _ S=_;unfold Qq K3;rw [show (([.ref i]:List PV).map some ++ List.replicate (1 - [PV.ref i].length) none)=[some (.ref i)] from rfl,Q3m,Kt rfl hS (Q4y _ _ _)];exact Qbe S now
end
theorem Qq1 {C:Addr} {S:Q2} {i h n:Nat} {now last L:List (List Int)} (hS:S[i]?=some (.obj C (hsF h now last))) (w:Wt' n now) (wL:Wt' n L) (hh:h < n) (hr:Qc8 (L.getD h []) (now.getD h [])=true):Xk C [.ref i,Q7 L] S=.ok .non (S.set i (.obj C (hsF h (Wp now L) last))):=by
 have h8:=w.n8;have lim0:lim=1000000:=rfl;have hn:(Vr C "now" (Q4 0)) [some (.ref i),some (Q7 L)] S=.ok (Q7 now) S:=Kt rfl hS (Q4y _ _ _);have hm:(Vr C "number" (Q4 0)) [some (.ref i),some (Q7 L)] S=.ok (.int h) S:=Kt rfl hS (Q1s _ _ _);have e1:=Qfi (a:=now) (b:=L) (by rw [w.len,wL.len]) S;have gL:L[h]?=some (L.getD h []):=getD_some (by rw [wL.len]; exact hh) [];have gN:now[h]?=some (now.getD h []):=getD_some (by rw [w.len]; exact hh) [];have i1:oIx S (Q7 L) (.int h)=.ok (Qy (L.getD h [])) S:=by
  have:oIx S (Q7 L) (.int h)=okO S (atI (L.map Qy) (h:Int)):=rfl;rw [this,K5,Sm.atI_get gL]; rfl
 have i2:oIx S (Q7 now) (.int h)=.ok (Qy (now.getD h [])) S:=by
  have:oIx S (Q7 now) (.int h)=okO S (atI (now.map Qy) (h:Int)):=rfl;rw [this,K5,Sm.atI_get gN]; rfl
 have rl:∀ r∈now,r.length<=lim:=fun r hr=>by rw [w.sz.2 r hr,lim0]; omega
 have e2:=Q92 (L.getD h []) (now.getD h []) S (by rw [wL.sz.2 _ (D2 gL),lim0]; omega);rw [hr] at e2;have e3:=Qha (a:=now) (b:=L) (by rw [w.len,wL.len]) (by rw [w.len,lim0]; omega) rl S;have step:qh C [some (.ref i),some (Q7 L)] S=.nx [some (.ref i),some (Q7 L)] (S.set i (.obj C (zt "now" (Q7 (Wp now L)) (hsF h now last)))):=
  Qm (Q07 (Qu (n:=2) (Q5 hn rfl) rfl e1)) (Qm (Wq (Q4n (J3 (Qu (n:=2) (Q5 (Qe rfl hm i1) (Q5 (Qe hn hm i2) rfl)) rfl e2))) rfl) (Kz (Qu (n:=2) (Q5 hn rfl) rfl e3) rfl hS (Q4z _ _ _)))
 rw [Q3a] at step;show Yj (qh C) 2 _ S=_;unfold Yj;rw [show (([.ref i,Q7 L]:List PV).map some ++ List.replicate (2 - [PV.ref i,Q7 L].length) none)=[some (.ref i),some (Q7 L)] from rfl,step]
abbrev Tab:=List (List Int)
inductive Dx where
 | own (d:Dd)
 | kp (i:Nat)
 | fl (i:Nat)
 | sd (i:Nat)
 | cm (l i:Nat)
def Dx.V:Dx->PV
 | .own d=>d.V
 | .kp i=>.tup [.str "keep",.int i]
 | .fl i=>.tup [.str "fall",.int i]
 | .sd i=>.tup [.str "send",.int i]
 | .cm l i=>.tup [.str "come",.int l,.int i]
structure RS where
 now:List Tab
 last:List Tab
 le:List Tab
def Dx.ok (n:Nat) (s:RS):Dx->Prop
 | .own d=>d.ok n
 | .kp i=>i < n
 | .fl i=>i < n
 | .sd i=>i < n
 | .cm l i=>l < s.le.length/\i < n
def Yf (n:Nat) (s:RS):Dx->RS
 | .own d=>if d.fits (s.now.getD d.h [])=true then ⟨s.now.set d.h (d.put n (s.now.getD d.h [])),s.last,s.le⟩ else s
 | .kp i=>⟨s.now,s.last.set i (s.now.getD i []),s.le⟩
 | .fl i=>⟨s.now.set i (s.last.getD i []),s.last,s.le⟩
 | .sd i=>⟨s.now,s.last,s.le ++ [s.last.getD i []]⟩
 | .cm l i=>⟨s.now.set i (Wp (s.now.getD i []) (s.le.getD l [])),s.last,s.le⟩
def Q5y (s:RS):Dx->PV
 | .own d=>if d.fits (s.now.getD d.h [])=true then .str "done" else .int (Qr (s.now.getD d.h []) d.h)
 | _=>.str "done"
structure RI (n:Nat) (s:RS):Prop where
 ln:s.now.length=n
 ll:s.last.length=n
 wn:∀ i,i < n->Wt' n (s.now.getD i [])
 wl:∀ i,i < n->Wt' n (s.last.getD i [])
 we:∀ L∈s.le,Wt' n L
 up:∀ i j,i < n->j<=n->ent (s.last.getD i []) i j<=ent (s.now.getD i []) i j
 bn:∀ a i j,a < n->i < n->a≠i->j<=n->ent (s.now.getD a []) i j<=ent (s.last.getD i []) i j
 bl:∀ a i j,a < n->i < n->j<=n->ent (s.last.getD a []) i j<=ent (s.last.getD i []) i j
 be:∀ L∈s.le,∀ i j,i < n->j<=n->ent L i j<=ent (s.last.getD i []) i j
theorem Zm {α:Type} {xs:List α} {i:Nat} (hi:i < xs.length) (v d:α) (j:Nat):(xs.set i v).getD j d=if j=i then v else xs.getD j d:=by
 rw [F8,List.getElem?_set,F8]
 by_cases q:i=j
 ·subst q; rw [if_pos rfl,if_pos hi,if_pos rfl]; rfl
 ·rw [if_neg q,if_neg (fun z=>q z.symm)]
theorem Qix {n:Nat} {tb:Tab} (w:Wt' n tb) {d:Dd} (o:d.ok n):Wt' n (d.put n tb):=by
 unfold Dd.put Xm;refine Wt'.set0 w (Dd.ok_h o) ?_;have h1:=w.ent_nn (Dd.ok_h o) (Dd.ok_pl o);have h2:=Dd.ok_k o;omega
theorem Qf8 {n:Nat} {tb:Tab} (w:Wt' n tb) {d:Dd} (o:d.ok n) (a b:Nat):ent tb a b<=ent (d.put n tb) a b/\(a≠d.h->ent (d.put n tb) a b=ent tb a b):=by
 unfold Dd.put;rw [Q08 w.sz (Dd.ok_h o) (Dd.ok_pl o)];have h2:=Dd.ok_k o;refine ⟨?_,fun h=>if_neg fun z=>h z.1⟩
 split
 ·rename_i z; rw [z.1,z.2]; omega
 ·exact Int.le_refl _
theorem Qpn {n:Nat} {a b:Tab} (wa:Wt' n a) (wb:Wt' n b):Wt' n (Wp a b):=by
 refine Wt'.of_ent (Qmj wa.sz wb.sz) wa.n1 wa.n8 fun i j hi hj=>?_
 rw [Q3w wa.sz wb.sz hi hj];exact Int.le_trans (wa.ent_nn hi hj) (Qjs _ _)
theorem RI.step {n:Nat} {s:RS} (r:RI n s) {x:Dx} (o:x.ok n s):RI n (Yf n s x):=by
 cases x with
 | own d=>
  have hh:=Dd.ok_h o;unfold Yf
  by_cases q:d.fits (s.now.getD d.h [])=true
  ·simp only [if_pos q];have w:=r.wn d.h hh;have hl:d.h < s.now.length:=by rw [r.ln]; exact hh
   refine ⟨by simp only [D5]; exact r.ln,r.ll,fun i hi=>?_,r.wl,r.we,fun i j hi hj=>?_,fun a i j ha hi hne hj=>?_,r.bl,r.be⟩
   ·simp only [Zm hl]
    split
    ·exact Qix w o
    ·exact r.wn i hi
   ·simp only [Zm hl]
    split
    ·rename_i z; subst z;exact Int.le_trans (r.up _ j hi hj) (Qf8 w o _ _).1
    ·exact r.up i j hi hj
   ·simp only [Zm hl]
    split
    ·rename_i z; subst z;rw [(Qf8 w o i j).2 (fun z=>hne z.symm)];exact r.bn _ i j ha hi hne hj
    ·exact r.bn a i j ha hi hne hj
  ·simp only [if_neg q]; exact r
 | kp i0=>
  have hh:i0 < n:=o;have hl:i0 < s.last.length:=by rw [r.ll]; exact hh
  refine ⟨r.ln,by simp only [Yf,D5]; exact r.ll,r.wn,fun i hi=>?_,r.we,fun i j hi hj=>?_,fun a i j ha hi hne hj=>?_,fun a i j ha hi hj=>?_,fun L hL i j hi hj=>?_⟩
  ·simp only [Yf,Zm hl]
   split
   ·exact r.wn i0 hh
   ·exact r.wl i hi
  ·simp only [Yf,Zm hl]
   split
   ·rename_i z; subst z; exact Int.le_refl _
   ·exact r.up i j hi hj
  ·simp only [Yf,Zm hl]
   split
   ·rename_i z; subst z;exact Int.le_trans (r.bn a i j ha hi hne hj) (r.up i j hi hj)
   ·exact r.bn a i j ha hi hne hj
  ·simp only [Yf,Zm hl];have b1:ent (s.last.getD a []) i j<=ent (s.last.getD i []) i j:=r.bl a i j ha hi hj
   split
   ·rename_i z; subst z
    split
    ·rename_i z2; subst z2; exact Int.le_refl _
    ·rename_i z2;exact r.bn _ i j ha hi (fun z=>z2 z.symm) hj
   ·split
    ·rename_i z2; subst z2;exact Int.le_trans b1 (r.up _ j hi hj)
    ·exact b1
  ·simp only [Yf,Zm hl];have b1:=r.be L hL i j hi hj
   split
   ·rename_i z; subst z;exact Int.le_trans b1 (r.up _ j hi hj)
   ·exact b1
 | fl i0=>
  have hh:i0 < n:=o;have hl:i0 < s.now.length:=by rw [r.ln]; exact hh
  refine ⟨by simp only [Yf,D5]; exact r.ln,r.ll,fun i hi=>?_,r.wl,r.we,fun i j hi hj=>?_,fun a i j ha hi hne hj=>?_,r.bl,r.be⟩
  ·simp only [Yf,Zm hl]
   split
   ·exact r.wl i0 hh
   ·exact r.wn i hi
  ·simp only [Yf,Zm hl]
   split
   ·rename_i z; subst z; exact Int.le_refl _
   ·exact r.up i j hi hj
  ·simp only [Yf,Zm hl]
   split
   ·rename_i z; subst z; exact r.bl _ i j ha hi hj
   ·exact r.bn a i j ha hi hne hj
 | sd i0=>
  have hh:i0 < n:=o;refine ⟨r.ln,r.ll,r.wn,r.wl,fun L hL=>?_,r.up,r.bn,r.bl,fun L hL i j hi hj=>?_⟩
  ·rcases E9.mp hL with h | h
   ·exact r.we L h
   ·rw [List.mem_singleton.mp h]; exact r.wl i0 hh
  ·rcases E9.mp hL with h | h
   ·exact r.be L h i j hi hj
   ·rw [List.mem_singleton.mp h]; exact r.bl i0 i j hh hi hj
 | cm l i0=>
  obtain ⟨hl0,hh⟩:=o;have hl:i0 < s.now.length:=by rw [r.ln]; exact hh
  have hL:s.le.getD l []∈s.le:=D2 (getD_some hl0 []);have wL:=r.we _ hL;have wN:=r.wn i0 hh;refine ⟨by simp only [Yf,D5]; exact r.ln,r.ll,fun i hi=>?_,r.wl,r.we,fun i j hi hj=>?_,fun a i j ha hi hne hj=>?_,r.bl,r.be⟩
  ·simp only [Yf,Zm hl]
   split
   ·exact Qpn wN wL
   ·exact r.wn i hi
  ·simp only [Yf,Zm hl]
   split
   ·rename_i z; subst z;rw [Q3w wN.sz wL.sz hi hj];exact Int.le_trans (r.up _ j hi hj) (Qjs _ _)
   ·exact r.up i j hi hj
  ·simp only [Yf,Zm hl]
   split
   ·rename_i z; subst z;rw [Q3w wN.sz wL.sz hi hj];have b1:=r.bn _ i j ha hi hne hj;have b2:=r.be _ hL i j hi hj;rcases Qfj (ent (s.now.getD a []) i j) (ent (s.le.getD l []) i j) with e | e
    ·rw [e]; exact b1
    ·rw [e]; exact b2
   ·exact r.bn a i j ha hi hne hj
theorem RI.row {n:Nat} {s:RS} (r:RI n s) {L:Tab} (hL:L∈s.le) {i:Nat} (hi:i < n):Qc8 (L.getD i []) ((s.now.getD i []).getD i [])=true:=by
 unfold Qc8;rw [F7];intro z hz;obtain ⟨j,hj⟩:=List.mem_iff_getElem?.mp hz;rw [List.getElem?_zip_eq_some] at hj;have wL:=r.we L hL;have wN:=r.wn i hi;have gL:L[i]?=some (L.getD i []):=getD_some (by rw [wL.len]; exact hi) [];have lL:=wL.row _ (D2 gL);have hjl:j<=n:=by have:=(O1.mp hj.1).1; omega
 have b1:=Int.le_trans (r.be L hL i j hi hjl) (r.up i j hi hjl);unfold ent at b1;rw [F8,hj.1,F8,hj.2] at b1;simpa using b1
theorem Q3v (S:Q2) (a:Str):oEq S (.str a) (.str a)=.ok (.bl true) S:=by simp
theorem Kx {a b:Str} (S:Q2) (h:¬ a=b):oEq S (.str a) (.str b)=.ok (.bl false) S:=by simp [h]
theorem Z5:¬ (Str.ofString "make" = Str.ofString "lend"):=by decide +kernel
theorem Y3:¬ (Str.ofString "make" = Str.ofString "use"):=by decide +kernel
theorem Jr:¬ (Str.ofString "make" = Str.ofString "keep"):=by decide +kernel
theorem Js:¬ (Str.ofString "make" = Str.ofString "fall"):=by decide +kernel
theorem Jq:¬ (Str.ofString "make" = Str.ofString "send"):=by decide +kernel
theorem Jt:¬ (Str.ofString "make" = Str.ofString "come"):=by decide +kernel
theorem Jd:¬ (Str.ofString "lend" = Str.ofString "make"):=by decide +kernel
theorem Zw:¬ (Str.ofString "lend" = Str.ofString "use"):=by decide +kernel
theorem Jv:¬ (Str.ofString "lend" = Str.ofString "keep"):=by decide +kernel
theorem Jw:¬ (Str.ofString "lend" = Str.ofString "fall"):=by decide +kernel
theorem Ju:¬ (Str.ofString "lend" = Str.ofString "send"):=by decide +kernel
theorem Jx:¬ (Str.ofString "lend" = Str.ofString "come"):=by decide +kernel
theorem Jy:¬ (Str.ofString "use" = Str.ofString "make"):=by decide +kernel
theorem Zs:¬ (Str.ofString "use" = Str.ofString "lend"):=by decide +kernel
theorem Zt:¬ (Str.ofString "use" = Str.ofString "keep"):=by decide +kernel
theorem Zu:¬ (Str.ofString "use" = Str.ofString "fall"):=by decide +kernel
theorem Zr:¬ (Str.ofString "use" = Str.ofString "send"):=by decide +kernel
theorem Zv:¬ (Str.ofString "use" = Str.ofString "come"):=by decide +kernel
theorem Z7:¬ (Str.ofString "keep" = Str.ofString "make"):=by decide +kernel
theorem Z8:¬ (Str.ofString "keep" = Str.ofString "lend"):=by decide +kernel
theorem Y4:¬ (Str.ofString "keep" = Str.ofString "use"):=by decide +kernel
theorem Z9:¬ (Str.ofString "keep" = Str.ofString "fall"):=by decide +kernel
theorem Z6:¬ (Str.ofString "keep" = Str.ofString "send"):=by decide +kernel
theorem Za:¬ (Str.ofString "keep" = Str.ofString "come"):=by decide +kernel
theorem Zc:¬ (Str.ofString "fall" = Str.ofString "make"):=by decide +kernel
theorem Zd:¬ (Str.ofString "fall" = Str.ofString "lend"):=by decide +kernel
theorem Y5:¬ (Str.ofString "fall" = Str.ofString "use"):=by decide +kernel
theorem Jh:¬ (Str.ofString "fall" = Str.ofString "keep"):=by decide +kernel
theorem Zb:¬ (Str.ofString "fall" = Str.ofString "send"):=by decide +kernel
theorem Ze:¬ (Str.ofString "fall" = Str.ofString "come"):=by decide +kernel
theorem Z2:¬ (Str.ofString "send" = Str.ofString "make"):=by decide +kernel
theorem Z3:¬ (Str.ofString "send" = Str.ofString "lend"):=by decide +kernel
theorem Y2:¬ (Str.ofString "send" = Str.ofString "use"):=by decide +kernel
theorem Jf:¬ (Str.ofString "send" = Str.ofString "keep"):=by decide +kernel
theorem Jg:¬ (Str.ofString "send" = Str.ofString "fall"):=by decide +kernel
theorem Z4:¬ (Str.ofString "send" = Str.ofString "come"):=by decide +kernel
theorem Zf:¬ (Str.ofString "come" = Str.ofString "make"):=by decide +kernel
theorem Zg:¬ (Str.ofString "come" = Str.ofString "lend"):=by decide +kernel
theorem Y6:¬ (Str.ofString "come" = Str.ofString "use"):=by decide +kernel
theorem Jj:¬ (Str.ofString "come" = Str.ofString "keep"):=by decide +kernel
theorem Jk:¬ (Str.ofString "come" = Str.ofString "fall"):=by decide +kernel
theorem Ji:¬ (Str.ofString "come" = Str.ofString "send"):=by decide +kernel
theorem jd (S:Q2) (k:Int):oEq S (.int k) .non=.ok (.bl false) S:=rfl
def Dx.oth:Dx->Bool
 | .own _=>false
 | _=>true
theorem Qci (x:Dx) (S:Q2):J6 [x.V] S=.ok (.bl x.oth) S:=by
 cases x with
 | own d=>
  cases d with
  | mk h k=>
   have t:Qj [.tup [.str "make",.int h,.int k]] S=.ok (.bl true) S:=Vc "make" [h,k] (by simp) S;have a0:atI [PV.str "make",.int h,.int k] 0=some (.str "make"):=rfl;unfold Dx.V Dd.V Dx.oth;simp -implicitDefEqProofs [J6,Qq,Y1,qi,jd,t,a0,Z5,Y3,Jr,Js,Jq,Jt,Jd,Zw,Jv,Jw,Ju,Jx,Jy,Zs,Zt,Zu,Zr,Zv,Z7,Z8,Y4,Z9,Z6,Za,Zc,Zd,Y5,Jh,Zb,Ze,Z2,Z3,Y2,Jf,Jg,Z4,Zf,Zg,Y6,Jj,Jk,Ji]
  | ld h q k=>
   have t:Qj [.tup [.str "lend",.int h,.int q,.int k]] S=.ok (.bl true) S:=Vc "lend" [h,q,k] (by simp) S;have a0:atI [PV.str "lend",.int h,.int q,.int k] 0=some (.str "lend"):=rfl;unfold Dx.V Dd.V Dx.oth;simp -implicitDefEqProofs [J6,Qq,Y1,qi,jd,t,a0,Z5,Y3,Jr,Js,Jq,Jt,Jd,Zw,Jv,Jw,Ju,Jx,Jy,Zs,Zt,Zu,Zr,Zv,Z7,Z8,Y4,Z9,Z6,Za,Zc,Zd,Y5,Jh,Zb,Ze,Z2,Z3,Y2,Jf,Jg,Z4,Zf,Zg,Y6,Jj,Jk,Ji]
  | us h k=>
   have t:Qj [.tup [.str "use",.int h,.int k]] S=.ok (.bl true) S:=Vc "use" [h,k] (by simp) S;have a0:atI [PV.str "use",.int h,.int k] 0=some (.str "use"):=rfl;unfold Dx.V Dd.V Dx.oth;simp -implicitDefEqProofs [J6,Qq,Y1,qi,jd,t,a0,Z5,Y3,Jr,Js,Jq,Jt,Jd,Zw,Jv,Jw,Ju,Jx,Jy,Zs,Zt,Zu,Zr,Zv,Z7,Z8,Y4,Z9,Z6,Za,Zc,Zd,Y5,Jh,Zb,Ze,Z2,Z3,Y2,Jf,Jg,Z4,Zf,Zg,Y6,Jj,Jk,Ji]
 | kp i=>
  have t:Qj [.tup [.str "keep",.int i]] S=.ok (.bl true) S:=Vc "keep" [i] (by simp) S;have a0:atI [PV.str "keep",.int i] 0=some (.str "keep"):=rfl;unfold Dx.V Dx.oth;simp -implicitDefEqProofs [J6,Qq,Y1,qi,jd,t,a0,Z5,Y3,Jr,Js,Jq,Jt,Jd,Zw,Jv,Jw,Ju,Jx,Jy,Zs,Zt,Zu,Zr,Zv,Z7,Z8,Y4,Z9,Z6,Za,Zc,Zd,Y5,Jh,Zb,Ze,Z2,Z3,Y2,Jf,Jg,Z4,Zf,Zg,Y6,Jj,Jk,Ji]
 | fl i=>
  have t:Qj [.tup [.str "fall",.int i]] S=.ok (.bl true) S:=Vc "fall" [i] (by simp) S;have a0:atI [PV.str "fall",.int i] 0=some (.str "fall"):=rfl;unfold Dx.V Dx.oth;simp -implicitDefEqProofs [J6,Qq,Y1,qi,jd,t,a0,Z5,Y3,Jr,Js,Jq,Jt,Jd,Zw,Jv,Jw,Ju,Jx,Jy,Zs,Zt,Zu,Zr,Zv,Z7,Z8,Y4,Z9,Z6,Za,Zc,Zd,Y5,Jh,Zb,Ze,Z2,Z3,Y2,Jf,Jg,Z4,Zf,Zg,Y6,Jj,Jk,Ji]
 | sd i=>
  have t:Qj [.tup [.str "send",.int i]] S=.ok (.bl true) S:=Vc "send" [i] (by simp) S;have a0:atI [PV.str "send",.int i] 0=some (.str "send"):=rfl;unfold Dx.V Dx.oth;simp -implicitDefEqProofs [J6,Qq,Y1,qi,jd,t,a0,Z5,Y3,Jr,Js,Jq,Jt,Jd,Zw,Jv,Jw,Ju,Jx,Jy,Zs,Zt,Zu,Zr,Zv,Z7,Z8,Y4,Z9,Z6,Za,Zc,Zd,Y5,Jh,Zb,Ze,Z2,Z3,Y2,Jf,Jg,Z4,Zf,Zg,Y6,Jj,Jk,Ji]
 | cm l i=>
  have t:Qj [.tup [.str "come",.int l,.int i]] S=.ok (.bl true) S:=Vc "come" [l,i] (by simp) S;have a0:atI [PV.str "come",.int l,.int i] 0=some (.str "come"):=rfl;unfold Dx.V Dx.oth;simp -implicitDefEqProofs [J6,Qq,Y1,qi,jd,t,a0,Z5,Y3,Jr,Js,Jq,Jt,Jd,Zw,Jv,Jw,Ju,Jx,Jy,Zs,Zt,Zu,Zr,Zv,Z7,Z8,Y4,Z9,Z6,Za,Zc,Zd,Y5,Jh,Zb,Ze,Z2,Z3,Y2,Jf,Jg,Z4,Zf,Zg,Y6,Jj,Jk,Ji]
theorem Q3x {x:Dx} (h:x.oth=true) (S:Q2):Yv [x.V] S=.ok (.bl false) S:=by
 cases x with
 | own d=>cases h
 | kp i=>
  have t:Qj [.tup [.str "keep",.int i]] S=.ok (.bl true) S:=Vc "keep" [i] (by simp) S;have a0:atI [PV.str "keep",.int i] 0=some (.str "keep"):=rfl;unfold Dx.V;simp -implicitDefEqProofs [Yv,Qq,Vq,jd,t,a0,Z5,Y3,Jr,Js,Jq,Jt,Jd,Zw,Jv,Jw,Ju,Jx,Jy,Zs,Zt,Zu,Zr,Zv,Z7,Z8,Y4,Z9,Z6,Za,Zc,Zd,Y5,Jh,Zb,Ze,Z2,Z3,Y2,Jf,Jg,Z4,Zf,Zg,Y6,Jj,Jk,Ji]
 | fl i=>
  have t:Qj [.tup [.str "fall",.int i]] S=.ok (.bl true) S:=Vc "fall" [i] (by simp) S;have a0:atI [PV.str "fall",.int i] 0=some (.str "fall"):=rfl;unfold Dx.V;simp -implicitDefEqProofs [Yv,Qq,Vq,jd,t,a0,Z5,Y3,Jr,Js,Jq,Jt,Jd,Zw,Jv,Jw,Ju,Jx,Jy,Zs,Zt,Zu,Zr,Zv,Z7,Z8,Y4,Z9,Z6,Za,Zc,Zd,Y5,Jh,Zb,Ze,Z2,Z3,Y2,Jf,Jg,Z4,Zf,Zg,Y6,Jj,Jk,Ji]
 | sd i=>
  have t:Qj [.tup [.str "send",.int i]] S=.ok (.bl true) S:=Vc "send" [i] (by simp) S;have a0:atI [PV.str "send",.int i] 0=some (.str "send"):=rfl;unfold Dx.V;simp -implicitDefEqProofs [Yv,Qq,Vq,jd,t,a0,Z5,Y3,Jr,Js,Jq,Jt,Jd,Zw,Jv,Jw,Ju,Jx,Jy,Zs,Zt,Zu,Zr,Zv,Z7,Z8,Y4,Z9,Z6,Za,Zc,Zd,Y5,Jh,Zb,Ze,Z2,Z3,Y2,Jf,Jg,Z4,Zf,Zg,Y6,Jj,Jk,Ji]
 | cm l i=>
  have t:Qj [.tup [.str "come",.int l,.int i]] S=.ok (.bl true) S:=Vc "come" [l,i] (by simp) S;have a0:atI [PV.str "come",.int l,.int i] 0=some (.str "come"):=rfl;unfold Dx.V;simp -implicitDefEqProofs [Yv,Qq,Vq,jd,t,a0,Z5,Y3,Jr,Js,Jq,Jt,Jd,Zw,Jv,Jw,Ju,Jx,Jy,Zs,Zt,Zu,Zr,Zv,Z7,Z8,Y4,Z9,Z6,Za,Zc,Zd,Y5,Jh,Zb,Ze,Z2,Z3,Y2,Jf,Jg,Z4,Zf,Zg,Y6,Jj,Jk,Ji]
theorem Q1b {n i:Nat} {tb:Tab} (hn:tb.length=n) (hi:i < n) (S:Q2):Yd [Q7 tb,.int i] S=.ok (.bl true) S:=by
 have:=Q18 (V:=Q7 tb) (n:=n) (st:=S) (by simp [Q7,hn]) (i:Int);rw [show (decide ((0:Int)<=(i:Int)) && decide ((i:Int) < (n:Int)))=true by simp; omega] at this;exact this
theorem Qea {n:Nat} {s:RS} {tb:Tab} (hn:tb.length=n) {x:Dx} (o:x.ok n s) {S:Q2} {Lr:Nat} (hL:S[Lr]?=some (.lst (s.le.map Q7))):Jc [Q7 tb,.ref Lr,x.V] S=.ok .non S:=by
 have ll:Yp S [.ref Lr]=.ok (.int s.le.length) S:=by
  have hV:ListAt S (.ref Lr) (s.le.map Q7):=.inr (.inr ⟨Lr,rfl,hL⟩);rw [hV.len,O2]
 have e2:=Qci x S;cases x with
 | own d=>
  have e1:=Q80 o S;have e3:=Qcr hn o S;clear e2;show Jc [Q7 tb,.ref Lr,d.V] S=_;generalize Q7 tb=T at *;generalize d.V=V at *;simp -implicitDefEqProofs [Jc,Qq,Y7,e1,e3]
 | kp i=>
  have e1:=Q3x (x:=.kp i) rfl S;have e3:=Q1b hn o S;have a0:atI [PV.str "keep",.int i] 0=some (.str "keep"):=rfl;have a1:atI [PV.str "keep",.int i] (-1)=some (.int i):=rfl;unfold Dx.V Dx.oth at *;generalize Q7 tb=T at *;simp -implicitDefEqProofs [Jc,Qq,Y7,e1,e2,e3,a0,a1,Z5,Y3,Jr,Js,Jq,Jt,Jd,Zw,Jv,Jw,Ju,Jx,Jy,Zs,Zt,Zu,Zr,Zv,Z7,Z8,Y4,Z9,Z6,Za,Zc,Zd,Y5,Jh,Zb,Ze,Z2,Z3,Y2,Jf,Jg,Z4,Zf,Zg,Y6,Jj,Jk,Ji]
 | fl i=>
  have e1:=Q3x (x:=.fl i) rfl S;have e3:=Q1b hn o S;have a0:atI [PV.str "fall",.int i] 0=some (.str "fall"):=rfl;have a1:atI [PV.str "fall",.int i] (-1)=some (.int i):=rfl;unfold Dx.V Dx.oth at *;generalize Q7 tb=T at *;simp -implicitDefEqProofs [Jc,Qq,Y7,e1,e2,e3,a0,a1,Z5,Y3,Jr,Js,Jq,Jt,Jd,Zw,Jv,Jw,Ju,Jx,Jy,Zs,Zt,Zu,Zr,Zv,Z7,Z8,Y4,Z9,Z6,Za,Zc,Zd,Y5,Jh,Zb,Ze,Z2,Z3,Y2,Jf,Jg,Z4,Zf,Zg,Y6,Jj,Jk,Ji]
 | sd i=>
  have e1:=Q3x (x:=.sd i) rfl S;have e3:=Q1b hn o S;have a0:atI [PV.str "send",.int i] 0=some (.str "send"):=rfl;have a1:atI [PV.str "send",.int i] (-1)=some (.int i):=rfl;unfold Dx.V Dx.oth at *;generalize Q7 tb=T at *;simp -implicitDefEqProofs [Jc,Qq,Y7,e1,e2,e3,a0,a1,Z5,Y3,Jr,Js,Jq,Jt,Jd,Zw,Jv,Jw,Ju,Jx,Jy,Zs,Zt,Zu,Zr,Zv,Z7,Z8,Y4,Z9,Z6,Za,Zc,Zd,Y5,Jh,Zb,Ze,Z2,Z3,Y2,Jf,Jg,Z4,Zf,Zg,Y6,Jj,Jk,Ji]
 | cm l i=>
  have e1:=Q3x (x:=.cm l i) rfl S;have e3:=Q1b hn o.2 S;have a0:atI [PV.str "come",.int l,.int i] 0=some (.str "come"):=rfl;have a1:atI [PV.str "come",.int l,.int i] (-1)=some (.int i):=rfl;have a2:atI [PV.str "come",.int l,.int i] 1=some (.int l):=rfl;have hl:l < s.le.length:=o.1;unfold Dx.V Dx.oth at *;generalize Q7 tb=T at *;generalize s.le.length=nl at *;simp -implicitDefEqProofs [Jc,Qq,Y7,e1,e2,e3,a0,a1,a2,ll,hl,-Qky,Z5,Y3,Jr,Js,Jq,Jt,Jd,Zw,Jv,Jw,Ju,Jx,Jy,Zs,Zt,Zu,Zr,Zv,Z7,Z8,Y4,Z9,Z6,Za,Zc,Zd,Y5,Jh,Zb,Ze,Z2,Z3,Y2,Jf,Jg,Z4,Zf,Zg,Y6,Jj,Jk,Ji]
theorem Q1e {m:MS} {nl:Nat} {ps:List PV} {S S':Q2} {Γ':Gam} (h:m (ps.map some ++ List.replicate (nl - ps.length) none) S=.nx Γ' S'):Yj m nl ps S=.ok .non S':=by unfold Yj; rw [h]
theorem yd {m:MS} {nl:Nat} {ps:List PV} {S S':Q2} {v:PV} (h:m (ps.map some ++ List.replicate (nl - ps.length) none) S=.rt v S'):Yj m nl ps S=.ok v S':=by unfold Yj; rw [h]
theorem Yn {m:MS} {nl:Nat} {ps:List PV} {S S':Q2} {v:PV} (h:m (ps.map some ++ List.replicate (nl - ps.length) none) S=.rt v S'):Qq m nl ps S=fin S v S':=by unfold Qq; rw [h]
def hsV (B n:Nat):PV:=.lst ((List.range n).map fun i=>.ref (B + i))
structure HsAt (C:Addr) (B n:Nat) (s:RS) (S:Q2):Prop where
 at_:∀ i,i < n->S[B + i]?=some (.obj C (hsF i (s.now.getD i []) (s.last.getD i [])))
theorem Qd8 {B n i:Nat} (hi:i < n) (S:Q2):oIx S (hsV B n) (.int i)=.ok (.ref (B + i)) S:=by
 have:oIx S (hsV B n) (.int i)=okO S (atI ((List.range n).map fun i=>PV.ref (B + i)) (i:Int)):=rfl
 rw [this,K5,Sm.atI_get (show (List.range n)[i]?=some i by rw [List.getElem?_range hi])]; rfl
def Qnr (C:Addr) (S:Q2) (i n:Nat) (now last:Tab) (d:Dd) (Γ:Gam):SR:=if d.fits now=true then .nx Γ (S.set i (.obj C (hsF d.h (d.put n now) last))) else .exc ⟨"Short",some ("had",.int (Qr now d.h))⟩ S
theorem Qbf {C:Addr} {S:Q2} {i n:Nat} {now last:Tab} {d:Dd} {m:ME} {Γ:Gam} (h:m Γ S=Q5j C S i n now last d):W2 m Γ S=Qnr C S i n now last d Γ:=by
 rw [Q7s,h];unfold Q5j Qnr
 split <;> rfl
theorem Qhu {C:Addr} {S:Q2} {i n nl:Nat} {now last:Tab} {d:Dd} {m:MS} {ps:List PV} {Γ:Gam} (h:m (ps.map some ++ List.replicate (nl - ps.length) none) S=Qnr C S i n now last d Γ):Yj m nl ps S=Q5j C S i n now last d:=by
 unfold Yj;rw [h];unfold Q5j Qnr
 by_cases q:d.fits now=true
 ·rw [if_pos q,if_pos q]
 ·rw [if_neg q,if_neg q]
theorem Qkf {C:Addr} {B n:Nat} {s:RS} {S:Q2} (A:HsAt C B n s S) (r:RI n s) {d:Dd} (o:d.ok n):Wh C [hsV B n,d.V] S=Q5j C S (B + d.h) n (s.now.getD d.h []) (s.last.getD d.h []) d:=by
 have hh:=Dd.ok_h o;have w:=r.wn d.h hh;have hS:=A.at_ d.h hh;have ix:=Qd8 (B:=B) hh S;refine Qhu (Γ:=[some (hsV B n),some d.V,some (.ref (B + d.h))]) ?_;show ze C [some (hsV B n),some d.V,none] S=_;refine Qm (Γ1:=[some (hsV B n),some d.V,some (.ref (B + d.h))]) (Jb (Qe rfl (Qe rfl rfl (Dd.a1 d S)) ix)) ?_;cases d with
 | mk h k=>
  refine y0 (J3 (Qe (Qe rfl rfl rfl) rfl (Q3v S _))) (Qbf ?_);exact (jn (i:=B + h) rfl hS (jr (by decide +kernel) (by decide +kernel) (by decide +kernel) _ _ _) (ps:=[.int k]) (S1:=S) (Q5 (Qe rfl rfl rfl) rfl) rfl).trans (Qp2 hS w o)
 | ld h t k=>
  refine Wq (J3 (Qe (Qe rfl rfl rfl) rfl (Kx S Jd))) (y0 (J3 (Qe (Qe rfl rfl rfl) rfl (Q3v S _))) (Qbf ?_));exact (jn (i:=B + h) rfl hS (jr (by decide +kernel) (by decide +kernel) (by decide +kernel) _ _ _) (ps:=[.int t,.int k]) (S1:=S) (Q5 (Qe rfl rfl rfl) (Q5 (Qe rfl rfl rfl) rfl)) rfl).trans (Qpg hS w o)
 | us h k=>
  refine Wq (J3 (Qe (Qe rfl rfl rfl) rfl (Kx S Jy))) (Wq (J3 (Qe (Qe rfl rfl rfl) rfl (Kx S Zs))) (Qbf ?_));exact (jn (i:=B + h) rfl hS (jr (by decide +kernel) (by decide +kernel) (by decide +kernel) _ _ _) (ps:=[.int k]) (S1:=S) (Q5 (Qe rfl rfl rfl) rfl) rfl).trans (Qqz hS w o)
def Q24 (C:Addr) (B Lr n:Nat) (s:RS) (S:Q2):Dx->Q2
 | .own d=>if d.fits (s.now.getD d.h [])=true then S.set (B + d.h) (.obj C (hsF d.h (d.put n (s.now.getD d.h [])) (s.last.getD d.h []))) else S
 | .kp i=>S.set (B + i) (.obj C (hsF i (s.now.getD i []) (s.now.getD i [])))
 | .fl i=>S.set (B + i) (.obj C (hsF i (s.last.getD i []) (s.last.getD i [])))
 | .sd i=>S.set Lr (.lst (s.le.map Q7 ++ [Q7 (s.last.getD i [])]))
 | .cm l i=>S.set (B + i) (.obj C (hsF i (Wp (s.now.getD i []) (s.le.getD l [])) (s.last.getD i [])))
theorem Q1y {S:Q2} {L:Nat} {xs:List PV} (h:S[L]?=some (.lst xs)) (hl:xs.length < 1000000) (y:PV):Wz S (.ref L) [y]=.ok .non (S.set L (.lst (xs ++ [y]))):=by
 simp only [Wz,chg,h];rw [if_pos (show xs.length < lim from hl)]
theorem Qet {C:Addr} {B Lr n:Nat} {s:RS} {S:Q2} (A:HsAt C B n s S) (hL:S[Lr]?=some (.lst (s.le.map Q7))) (hl:s.le.length < 100000) (r:RI n s) {x:Dx} (o:x.ok n s) (hx:x.oth=true):Ua C [hsV B n,.ref Lr,x.V] S=.ok .non (Q24 C B Lr n s S x):=by
 have hV:ListAt S (.ref Lr) (s.le.map Q7):=.inr (.inr ⟨Lr,rfl,hL⟩);cases x with
 | own d=>cases hx
 | kp i=>
  have hi:i < n:=o;have hS:=A.at_ i hi;have st:W7 C [some (hsV B n),some (.ref Lr),some (Dx.kp i).V,none] S=.nx [some (hsV B n),some (.ref Lr),some (Dx.kp i).V,some (.ref (B + i))] (Q24 C B Lr n s S (.kp i)):=
   Qm (Jb (Qe rfl (Qe rfl rfl rfl) (Qd8 hi S))) (y0 (J3 (Qe (Qe rfl rfl rfl) rfl (Q3v S _))) (Q07 ((jn (i:=B + i) rfl hS (jr (by decide +kernel) (by decide +kernel) (by decide +kernel) _ _ _) (ps:=[]) (S1:=S) rfl rfl).trans (Qpm hS))))
  exact Q1e st
 | fl i=>
  have hi:i < n:=o;have hS:=A.at_ i hi;have st:W7 C [some (hsV B n),some (.ref Lr),some (Dx.fl i).V,none] S=.nx [some (hsV B n),some (.ref Lr),some (Dx.fl i).V,some (.ref (B + i))] (Q24 C B Lr n s S (.fl i)):=
   Qm (Jb (Qe rfl (Qe rfl rfl rfl) (Qd8 hi S))) (Wq (J3 (Qe (Qe rfl rfl rfl) rfl (Kx S Jh))) (y0 (J3 (Qe (Qe rfl rfl rfl) rfl (Q3v S _))) (Q07 ((jn (i:=B + i) rfl hS (jr (by decide +kernel) (by decide +kernel) (by decide +kernel) _ _ _) (ps:=[]) (S1:=S) rfl rfl).trans (Qpv hS)))))
  exact Q1e st
 | sd i=>
  have hi:i < n:=o;have hS:=A.at_ i hi;have lt:zz C "letter" 1 (Ws C) (Q4 3) Q9 [some (hsV B n),some (.ref Lr),some (Dx.sd i).V,some (.ref (B + i))] S=.ok (Q7 (s.last.getD i [])) S:=(jn (i:=B + i) rfl hS (jr (by decide +kernel) (by decide +kernel) (by decide +kernel) _ _ _) (ps:=[]) (S1:=S) rfl rfl).trans (Qh7 hS);have st:W7 C [some (hsV B n),some (.ref Lr),some (Dx.sd i).V,none] S=.nx [some (hsV B n),some (.ref Lr),some (Dx.sd i).V,some (.ref (B + i))] (Q24 C B Lr n s S (.sd i)):=
   Qm (Jb (Qe rfl (Qe rfl rfl rfl) (Qd8 hi S))) (Wq (J3 (Qe (Qe rfl rfl rfl) rfl (Kx S Jf))) (Wq (J3 (Qe (Qe rfl rfl rfl) rfl (Kx S Jg))) (y0 (J3 (Qe (Qe rfl rfl rfl) rfl (Q3v S _)))
    (Q56 (p:=.ref Lr) rfl (Uk hL) (Q5 lt rfl) (Q1y hL (by rw [O2]; omega) _)))))
  exact Q1e st
 | cm l i=>
  obtain ⟨hl0,hi⟩:=o;have hS:=A.at_ i hi;have hm:s.le.getD l []∈s.le:=D2 (getD_some hl0 []);have lx:oIx S (.ref Lr) (.int l)=.ok (Q7 (s.le.getD l [])) S:=by
   rw [hV.ix,K5,Sm.atI_get (getD_some hl0 [])]; rfl
  have st:W7 C [some (hsV B n),some (.ref Lr),some (Dx.cm l i).V,none] S=.nx [some (hsV B n),some (.ref Lr),some (Dx.cm l i).V,some (.ref (B + i))] (Q24 C B Lr n s S (.cm l i)):=
   Qm (Jb (Qe rfl (Qe rfl rfl rfl) (Qd8 hi S))) (Wq (J3 (Qe (Qe rfl rfl rfl) rfl (Kx S Jj))) (Wq (J3 (Qe (Qe rfl rfl rfl) rfl (Kx S Jk))) (Wq (J3 (Qe (Qe rfl rfl rfl) rfl (Kx S Ji)))
    (Q07 ((jn (i:=B + i) rfl hS (jr (by decide +kernel) (by decide +kernel) (by decide +kernel) _ _ _) (ps:=[Q7 (s.le.getD l [])]) (S1:=S) (Q5 (Qe rfl (Qe rfl rfl rfl) lx) rfl) rfl).trans (Qq1 hS (r.wn i hi) (r.we _ hm) hi (r.row hm hi)))))))
  exact Q1e st
theorem Qi2 {C:Addr} {B Lr n:Nat} {s:RS} {S:Q2} (A:HsAt C B n s S) (hL:S[Lr]?=some (.lst (s.le.map Q7))) (hl:s.le.length < 100000) (r:RI n s) {x:Dx} (o:x.ok n s):jt C [hsV B n,.ref Lr,x.V] S=.ok (Q5y s x) (Q24 C B Lr n s S x):=by
 have e1:(toB (Qf 1 J6 (Q3 (Q4 2) Q9))) [some (hsV B n),some (.ref Lr),some x.V,none] S=.ok x.oth S:=J3 (Qu (n:=1) (Q5 rfl rfl) rfl (Qci x S));cases hx:x.oth with
 | true=>
  rw [hx] at e1;have st:K8 C [some (hsV B n),some (.ref Lr),some x.V,none] S=.rt (.str "done") (Q24 C B Lr n s S x):=qt (y0 e1 (Qm (Q07 (Qu (n:=3) (Q5 rfl (Q5 rfl (Q5 rfl rfl))) rfl (Qet A hL hl r o hx))) rfl));refine (yd st).trans ?_;cases x with
  | own d=>cases hx
  | _=>rfl
 | false=>
  rw [hx] at e1;cases x with
  | own d=>
   have e2:=Qkf A r (d:=d) o;have e3:Qcv "Short" "had" 3 2 (Wh C) (Q3 (Q4 0) (Q3 (Q4 2) Q9)) [some (hsV B n),some (.ref Lr),some d.V,none] S=(match Wh C [hsV B n,d.V] S with
    | .ok _ st2=>SR.nx [some (hsV B n),some (.ref Lr),some d.V,none] st2
    | .exc x st2=>if x.cls = "Short" then (match x.fs with | some (f,.int z)=>if f = "had" then .rt (.int z) st2 else .stuck | _=>.stuck) else .stuck
    | .stuck=>.stuck):=by
    rw [Qjv,Q5 (m:=Q4 0) (p:=hsV B n) (S1:=S) rfl (Q5 (m:=Q4 2) (p:=d.V) (S1:=S) rfl (show Q9 _ S=.ok [] S from rfl)),Vj];exact if_pos ⟨rfl,show 3 < 4 by decide⟩
   rw [e2] at e3;unfold Q5j at e3
   by_cases q:d.fits (s.now.getD d.h [])=true
   ·rw [if_pos q] at e3;have st:K8 C [some (hsV B n),some (.ref Lr),some (Dx.own d).V,none] S=.rt (.str "done") (S.set (B + d.h) (.obj C (hsF d.h (d.put n (s.now.getD d.h [])) (s.last.getD d.h [])))):=Qm (Wq e1 rfl) (Qm e3 rfl);refine (yd st).trans ?_;unfold Q24 Q5y;simp only [if_pos q]
   ·rw [if_neg q] at e3;have e3:Qcv "Short" "had" 3 2 (Wh C) (Q3 (Q4 0) (Q3 (Q4 2) Q9)) [some (hsV B n),some (.ref Lr),some d.V,none] S=.rt (.int (Qr (s.now.getD d.h []) d.h)) S:=e3.trans (by simp);have st:K8 C [some (hsV B n),some (.ref Lr),some (Dx.own d).V,none] S=.rt (.int (Qr (s.now.getD d.h []) d.h)) S:=Qm (Wq e1 rfl) (qt e3);refine (yd st).trans ?_;unfold Q24 Q5y;simp only [if_neg q]
  | kp i=>cases hx
  | fl i=>cases hx
  | sd i=>cases hx
  | cm l i=>cases hx
theorem Qs2 {C:Addr} {B Lr n:Nat} {s:RS} {S:Q2} (A:HsAt C B n s S) (hL:S[Lr]?=some (.lst (s.le.map Q7))) (hLr:B + n<=Lr) (r:RI n s) {x:Dx} (o:x.ok n s):HsAt C B n (Yf n s x) (Q24 C B Lr n s S x)/\(Q24 C B Lr n s S x)[Lr]?=some (.lst ((Yf n s x).le.map Q7))/\(∀ t,(t < B\/Lr < t)->(Q24 C B Lr n s S x)[t]?=S[t]?)/\(Q24 C B Lr n s S x).length=S.length:=by
 have key:∀ (h:Nat) (a b:Tab),h < n->∀ s':RS,s'.le=s.le->(∀ i,i < n->s'.now.getD i []=if i=h then a else s.now.getD i [])->(∀ i,i < n->s'.last.getD i []=if i=h then b else s.last.getD i []) ->
   HsAt C B n s' (S.set (B + h) (.obj C (hsF h a b)))/\(S.set (B + h) (.obj C (hsF h a b)))[Lr]?=some (.lst (s'.le.map Q7))/\(∀ t,(t < B\/Lr < t)->(S.set (B + h) (.obj C (hsF h a b)))[t]?=S[t]?)/\(S.set (B + h) (.obj C (hsF h a b))).length=S.length:=by
  intro h a b hh s' e1 e2 e3;have hB:=(O1.mp (A.at_ h hh)).1;refine ⟨⟨fun i hi=>?_⟩,?_,fun t ht=>?_,D5⟩
  ·by_cases q:i=h
   ·subst q;rw [E2 hB,e2 i hi,e3 i hi,if_pos rfl,if_pos rfl]
   ·rw [O5 (by omega),A.at_ i hi,e2 i hi,e3 i hi,if_neg q,if_neg q]
  ·rw [O5 (by omega),hL,e1]
  ·rw [O5 (by omega)]
 cases x with
 | own d=>
  have hh:=Dd.ok_h o
  by_cases q:d.fits (s.now.getD d.h [])=true
  ·have z1:Q24 C B Lr n s S (.own d)=S.set (B + d.h) (.obj C (hsF d.h (d.put n (s.now.getD d.h [])) (s.last.getD d.h []))):=if_pos q;have z2:Yf n s (.own d)=⟨s.now.set d.h (d.put n (s.now.getD d.h [])),s.last,s.le⟩:=if_pos q;rw [z1,z2];refine key d.h _ _ hh _ rfl (fun i hi=>?_) (fun i hi=>?_)
   ·exact Zm (by rw [r.ln]; exact hh) _ _ _
   ·split
    ·rename_i z; rw [z]
    ·rfl
  ·have z1:Q24 C B Lr n s S (.own d)=S:=if_neg q;have z2:Yf n s (.own d)=s:=if_neg q;rw [z1,z2];exact ⟨A,hL,fun _ _=>rfl,rfl⟩
 | kp h=>
  have hh:h < n:=o;refine key h _ _ hh _ rfl (fun i hi=>?_) (fun i hi=>?_)
  ·split
   ·rename_i z; rw [z]; rfl
   ·rfl
  ·exact Zm (by rw [r.ll]; exact hh) _ _ _
 | fl h=>
  have hh:h < n:=o;refine key h _ _ hh _ rfl (fun i hi=>?_) (fun i hi=>?_)
  ·exact Zm (by rw [r.ln]; exact hh) _ _ _
  ·split
   ·rename_i z; rw [z]; rfl
   ·rfl
 | sd h=>
  have hh:h < n:=o;have hB:=(O1.mp hL).1;refine ⟨⟨fun i hi=>?_⟩,?_,fun t ht=>?_,D5⟩
  ·show (S.set Lr _)[B + i]?=_;rw [O5 (by omega)];exact A.at_ i hi
  ·show (S.set Lr _)[Lr]?=some (.lst ((s.le ++ [s.last.getD h []]).map Q7));rw [E2 hB,F3]; rfl
  ·show (S.set Lr _)[t]?=_;rw [O5 (by omega)]
 | cm l h=>
  obtain ⟨hl0,hh⟩:=o;refine key h _ _ hh _ rfl (fun i hi=>?_) (fun i hi=>?_)
  ·exact Zm (by rw [r.ln]; exact hh) _ _ _
  ·split
   ·rename_i z; rw [z]; rfl
   ·rfl
theorem Q2b {n:Nat} {tb:List (List Int)} (w:Wt' n tb) (c:Ca n tb) (st:Q2):Y8 [Q7 tb] st=.ok .non st:=by
 have e:=Qpx w st;rw [c.comes] at e;generalize Q7 tb=T at *;simp -implicitDefEqProofs [Y8,Qq,Ug,e]
def Ue (n:Nat):RS->List Dx->RS
 | s,[]=>s
 | s,x :: xs=>Ue n (Yf n s x) xs
def jk (n:Nat):RS->List Dx->List PV
 | _,[]=>[]
 | s,x :: xs=>Q5y s x :: jk n (Yf n s x) xs
def OkL (n:Nat):RS->List Dx->Prop
 | _,[]=>True
 | s,x :: xs=>x.ok n s/\OkL n (Yf n s x) xs
theorem Qay (n:Nat):∀ (xs ys:List Dx) (s:RS),Ue n s (xs ++ ys)=Ue n (Ue n s xs) ys
 | [],_,_=>rfl
 | x :: xs,ys,s=>Qay n xs ys (Yf n s x)
theorem Qbt (n:Nat):∀ (xs ys:List Dx) (s:RS),jk n s (xs ++ ys)=jk n s xs ++ jk n (Ue n s xs) ys
 | [],_,_=>rfl
 | x :: xs,ys,s=>congrArg (Q5y s x :: ·) (Qbt n xs ys (Yf n s x))
theorem Qb3 (n:Nat):∀ (xs ys:List Dx) (s:RS),OkL n s (xs ++ ys) <-> OkL n s xs/\OkL n (Ue n s xs) ys
 | [],_,_=>⟨fun h=>⟨trivial,h⟩,fun h=>h.2⟩
 | x :: xs,ys,s=>by
  have ih:=Qb3 n xs ys (Yf n s x);exact ⟨fun h=>⟨⟨h.1,(ih.mp h.2).1⟩,(ih.mp h.2).2⟩,fun h=>⟨h.1.1,ih.mpr ⟨h.1.2,h.2⟩⟩⟩
theorem RI.run {n:Nat}:∀ {xs:List Dx} {s:RS},RI n s->OkL n s xs->RI n (Ue n s xs)
 | [],_,r,_=>r
 | x :: xs,s,r,o=>RI.run (xs:=xs) (r.step o.1) o.2
theorem Qph (n:Nat) (s:RS) (x:Dx):(Yf n s x).le.length<=s.le.length + 1:=by
 cases x with
 | own d=>
  show (if d.fits (s.now.getD d.h [])=true then (⟨s.now.set d.h (d.put n (s.now.getD d.h [])),s.last,s.le⟩:RS) else s).le.length<=_
  split <;> simp
 | sd i=>simp [Yf]
 | _=>simp [Yf]
theorem Qep (n:Nat):∀ (xs:List Dx) (s:RS),(Ue n s xs).le.length<=s.le.length + xs.length
 | [],s=>O7 _
 | x :: xs,s=>by
  have h1:=Qep n xs (Yf n s x);have h2:=Qph n s x;simp only [Ue,D8];omega
theorem Q6b (n:Nat):∀ (xs:List Dx) (s:RS),(jk n s xs).length=xs.length
 | [],_=>rfl
 | x :: xs,s=>by simp only [jk,D8,Q6b n xs]
def s0 (n:Nat) (tb:Tab):RS:=⟨List.replicate n tb,List.replicate n tb,[]⟩
theorem Q6y {n i:Nat} {tb:Tab} (hi:i < n):(List.replicate n tb).getD i []=tb:=by
 rw [F8,List.getElem?_replicate,if_pos hi]; rfl
theorem RI.start {n:Nat} {tb:Tab} (w:Wt' n tb):RI n (s0 n tb):=by
 have e:∀ i,i < n->(List.replicate n tb).getD i []=tb:=fun i hi=>Q6y hi
 refine ⟨List.length_replicate,List.length_replicate,fun i hi=>?_,fun i hi=>?_,fun L hL=>absurd hL List.not_mem_nil,fun i j hi hj=>?_,fun a i j ha hi hne hj=>?_,fun a i j ha hi hj=>?_,fun L hL=>absurd hL List.not_mem_nil⟩
 ·show Wt' n ((List.replicate n tb).getD i []); rw [e i hi]; exact w
 ·show Wt' n ((List.replicate n tb).getD i []); rw [e i hi]; exact w
 ·exact Int.le_refl _
 ·show ent ((List.replicate n tb).getD a []) i j<=ent ((List.replicate n tb).getD i []) i j; rw [e i hi,e a ha]; exact Int.le_refl _
 ·show ent ((List.replicate n tb).getD a []) i j<=ent ((List.replicate n tb).getD i []) i j; rw [e i hi,e a ha]; exact Int.le_refl _
theorem Qpp {C:Addr} {n:Nat} {tb:Tab} (w:Wt' n tb) (c:Ca n tb) {h:Nat} (hh:h < n) (S:Q2):W3 C [.ref S.length,.int h,Q7 tb] (S ++ [.obj C []])=.ok .non (S ++ [.obj C (hsF h tb tb)]):=by
 have e1:=Q2b w c (S ++ [.obj C []]);have e2:=Q1b w.len hh (S ++ [.obj C []]);have gt:∀ fs:List (Str × PV),(S ++ [Cell.obj C fs])[S.length]?=some (.obj C fs):=fun fs=>by simp
 have st:∀ fs gs:List (Str × PV),(S ++ [Cell.obj C fs]).set S.length (.obj C gs)=S ++ [.obj C gs]:=fun fs gs=>by simp
 have p1:zt "number" (.int h) []=[(Str.ofString "number",PV.int h)]:=rfl;have p2:zt "now" (Q7 tb) [(Str.ofString "number",PV.int h)]=[(Str.ofString "number",.int h),(Str.ofString "now",Q7 tb)]:=by
  rw [zt,if_neg s1']; rfl
 have p3:zt "kept" (Q7 tb) [(Str.ofString "number",PV.int h),(Str.ofString "now",Q7 tb)]=hsF h tb tb:=by
  rw [zt,if_neg s2',zt,if_neg s3']; rfl
 have k3:Xu C [some (.ref S.length),some (.int h),some (Q7 tb)] (S ++ [.obj C []])=.nx [some (.ref S.length),some (.int h),some (Q7 tb)] (S ++ [.obj C (hsF h tb tb)]):=by
  refine Qm (Q07 (Qu (n:=1) (Q5 rfl rfl) rfl e1)) (Qm (Wq (Q4n (J3 (Qu (n:=2) (Q5 rfl (Q5 rfl rfl)) rfl e2))) rfl) ?_);refine Qm ((Kz (p:=.int h) rfl rfl (gt _) (by simp)).trans (by rw [p1,st])) ?_;refine Qm ((Kz (p:=Q7 tb) rfl rfl (gt _) (by simp)).trans (by rw [p2,st])) ?_;exact (Kz (p:=Q7 tb) rfl rfl (gt _) (by simp)).trans (by rw [p3,st])
 exact Q1e k3
theorem Qsi {C:Addr} {n:Nat} {tb:Tab} (w:Wt' n tb) (c:Ca n tb) {h:Nat} (hh:h < n) (S:Q2):Q09 C [some (.int h),some (Q7 tb)] S=.ok (.ref S.length) (S ++ [.obj C (hsF h tb tb)]):=by
 have ha:(Q3 (Q4 0) (Q3 (Q4 1) Q9)) [some (.int h),some (Q7 tb)] S=.ok [.int h,Q7 tb] S:=Q5 rfl (Q5 rfl rfl);show ((W3 C [PV.ref S.length,PV.int h,Q7 tb] (S ++ [Cell.obj C []])).bind _)=_;rw [Qpp w c hh S]; rfl
def h0 (C:Addr) (n:Nat) (tb:Tab):Q2:=(List.range n).map fun i=>.obj C (hsF i tb tb)
theorem Qhf {C:Addr} {n:Nat} {tb:Tab} (w:Wt' n tb) (c:Ca n tb) (S:Q2) (Γ:Gam) (hΓ:Γ[0]?=some (some (Q7 tb))):Z0 (Qn 0) Zn (Q09 C) [] (Zk [none,some 0] Γ) (Ya 0 n) S=.ok ((List.range n).map fun i=>.ref (S.length + i)) (S ++ h0 C n tb):=by
 have hc:Zk [none,some 0] Γ=[none,some (Q7 tb)]:=by
  simp [Zk,hΓ]
 obtain ⟨out,S',e,e1,e2⟩:=Qhk (g:=fun k:Nat=>PV.int (k:Int)) (xs:=List.range n) (ga:=Qn 0) (me:=Q09 C) (w:=[]) (Γ0:=[none,some (Q7 tb)]) (st:=S)
  (fun i out st=>out=((List.range i).map fun i=>PV.ref (S.length + i))/\st=S ++ h0 C i tb) (fun _ _ _ _=>by simp)
  (fun i x out st hx ⟨e1,e2⟩=>by
   subst e1; subst e2;have hin:i < n:=by simpa using (O1.mp hx).1
   rw [List.getElem?_range hin] at hx;cases hx;refine ⟨_,rfl,_,_,Qsi w c hin _,?_,?_⟩
   ·rw [List.range_succ,F3,O8];simp [h0]
   ·rw [h0,h0,List.range_succ,F3,List.append_assoc]; rfl)
  ⟨rfl,by simp [h0]⟩
 rw [G6] at e1 e2;rw [hc,Uy,e,e1,e2]
theorem Qed {α β:Type} (l:List α) (d:α) (f:α->β):l.map f=(List.range l.length).map fun i=>f (l.getD i d):=by
 refine List.ext_getElem? fun i=>?_
 rw [E6,E6]
 by_cases h:i < l.length
 ·rw [List.getElem?_range h,O4 h];simp [List.getD,O4 h]
 ·rw [List.getElem?_eq_none (by omega),List.getElem?_eq_none (by rw [G6]; omega)]; rfl
theorem Qsz (C:Addr) (n:Nat) (tb:Tab):(h0 C n tb).length=n:=by simp [h0]
theorem Qvq (C:Addr) {n i:Nat} (tb:Tab) (hi:i < n):(h0 C n tb)[i]?=some (.obj C (hsF i tb tb)):=by
 simp [h0,List.getElem?_range hi]
abbrev plG (tb:Tab) (DV:PV) (B n:Nat) (d:Option PV):Gam:=[some (Q7 tb),some DV,some (hsV B n),some (.ref (B + n)),some (.ref (B + n + 1)),d]
structure PI (C:Addr) (n:Nat) (tb:Tab) (S:Q2) (pre:List Dx) (st:Q2):Prop where
 hs:HsAt C S.length n (Ue n (s0 n tb) pre) st
 le:st[S.length + n]?=some (.lst ((Ue n (s0 n tb) pre).le.map Q7))
 an:st[S.length + n + 1]?=some (.lst (jk n (s0 n tb) pre))
 old:∀ t,t < S.length->st[t]?=S[t]?
 len:st.length=S.length + n + 2
theorem Qr2 {C:Addr} {n:Nat} {tb:Tab} (w:Wt' n tb) {S st:Q2} {pre:List Dx} {x:Dx} {post:List Dx} (hl:(pre ++ x :: post).length<=1000) (ok:OkL n (s0 n tb) (pre ++ x :: post)) (P:PI C n tb S pre st) (DV:PV):∃ st2,Q2z C (plG tb DV S.length n (some x.V)) st=.nx (plG tb DV S.length n (some x.V)) st2/\PI C n tb S (pre ++ [x]) st2:=by
 have o1:=(Qb3 n pre (x :: post) _).mp ok;have r:RI n (Ue n (s0 n tb) pre):=(RI.start w).run o1.1;have ox:=o1.2.1;have hlen:pre.length<=1000:=by rw [O8] at hl; omega
 have hle:=Qep n pre (s0 n tb);have hle':(Ue n (s0 n tb) pre).le.length < 100000:=by
  have:(s0 n tb).le.length=0:=rfl;omega
 have e1:=Qea w.len ox P.le;have e2:=Qi2 P.hs P.le hle' r ox;obtain ⟨a1,a2,a3,a4⟩:=Qs2 P.hs P.le (O7 _) r ox;obtain ⟨st1,hst1⟩:∃ z,Q24 C S.length (S.length + n) n (Ue n (s0 n tb) pre) st x=z:=⟨_,rfl⟩;rw [hst1] at e2 a1 a2 a3 a4;have an1:st1[S.length + n + 1]?=some (.lst (jk n (s0 n tb) pre)):=by rw [a3 _ (.inr (by omega))]; exact P.an
 have hb:=(O1.mp an1).1;have ap:=Q1y an1 (by rw [Q6b]; omega) (Q5y (Ue n (s0 n tb) pre) x);refine ⟨_,Qm (Q07 (Qu (n:=3) (Q5 rfl (Q5 rfl (Q5 rfl rfl))) rfl e1)) (Q56 (p:=.ref (S.length + n + 1)) rfl (Uk P.an) (Q5 (Qu (n:=3) (Q5 rfl (Q5 rfl (Q5 rfl rfl))) rfl e2) rfl) ap),?_⟩;have er:Ue n (s0 n tb) (pre ++ [x])=Yf n (Ue n (s0 n tb) pre) x:=by rw [Qay]; rfl
 have ea:jk n (s0 n tb) (pre ++ [x])=jk n (s0 n tb) pre ++ [Q5y (Ue n (s0 n tb) pre) x]:=by rw [Qbt]; rfl
 refine ⟨⟨fun i hi=>?_⟩,?_,?_,fun t ht=>?_,?_⟩
 ·rw [er,O5 (by omega)]; exact a1.at_ i hi
 ·rw [er,O5 (by omega)]; exact a2
 ·rw [ea,E2 hb]
 ·rw [O5 (by omega),a3 t (.inl ht)]; exact P.old t ht
 ·rw [D5,a4]; exact P.len
theorem Q4d {C:Addr} {n:Nat} {tb:Tab} (w:Wt' n tb) (c:Ca n tb) {S:Q2} {DV:PV} {xs:List Dx} {wt:Wt} (hs:∀ st:Q2,(∀ t,t < S.length->st[t]?=S[t]?)->Ut st DV=some (xs.map Dx.V,wt)/\wOk wt st) (hl:xs.length<=1000) (ok:OkL n (s0 n tb) xs) :
  ∃ S',Xc C [Q7 tb,DV] S=.ok (.tup [.ref (S.length + n + 1),.ref (S.length + n + 2)]) S'/\S'.length=S.length + n + 3/\(∀ t,t < S.length->S'[t]?=S[t]?)/\S'[S.length + n + 1]?=some (.lst (jk n (s0 n tb) xs))/\S'[S.length + n + 2]?=some (.lst ((Ue n (s0 n tb) xs).now.map Q7)):=by
 have h8:=w.n8;have lim0:lim=1000000:=rfl;have e1:=Q2b w c S;have eh:=Qhf (C:=C) w c S [some (Q7 tb),some DV,none,none,none,none] rfl;have hlen:Yp S [Q7 tb]=.ok (.int n) S:=by simp [Q7,w.len]
 have hrg:Ys (Q3 (J5 Yp (Q3 (Q4 0) Q9)) Q9) [some (Q7 tb),some DV,none,none,none,none] S=.ok (Ya 0 n,[]) S:=by
  rw [Xw,Q5 (Up (Q5 (m:=Q4 0) (p:=Q7 tb) (S1:=S) rfl (show Q9 _ S=.ok [] S from rfl)) hlen) (show Q9 _ S=.ok [] S from rfl),J4];show (if -(lim:Int)<=(n:Int)/\(n:Int)<=lim then _ else _)=_;rw [if_pos (by rw [lim0]; omega),Int.toNat_natCast]
 obtain ⟨S1,hS1⟩:∃ S1,S ++ h0 C n tb=S1:=⟨_,rfl⟩;rw [hS1] at eh;have l1:S1.length=S.length + n:=by rw [<- hS1,O8,Qsz]
 obtain ⟨S2,hS2⟩:∃ S2,S1 ++ [Cell.lst []] ++ [Cell.lst []]=S2:=⟨_,rfl⟩;have l2:S2.length=S.length + n + 2:=by rw [<- hS2,O8,O8,l1]; rfl
 have P0:PI C n tb S [] S2:=by
  refine ⟨⟨fun i hi=>?_⟩,?_,?_,fun t ht=>?_,l2⟩
  ·rw [<- hS2,List.append_assoc,O6 (by omega),<- hS1,D1 (by omega),Nat.add_sub_cancel_left,Qvq C tb hi];show _=some (Cell.obj C (hsF i ((List.replicate n tb).getD i []) ((List.replicate n tb).getD i [])));rw [Q6y hi]
  ·rw [<- hS2,List.append_assoc,D1 (by omega),show S.length + n - S1.length=0 by omega]; rfl
  ·rw [<- hS2,List.append_assoc,D1 (by omega),show S.length + n + 1 - S1.length=1 by omega]; rfl
  ·rw [<- hS2,List.append_assoc,O6 (by omega),<- hS1,O6 ht]
 obtain ⟨hsrc,_⟩:=hs S2 P0.old;obtain ⟨Γ',S3,ef,⟨d',rfl⟩,P⟩:=Qa8 (g:=Dx.V) (xs:=xs) (fun pre Γ st=>(∃ d,Γ=plG tb DV S.length n d)/\PI C n tb S pre st) (ga:=Qn 5) (body:=Q2z C) (w:=wt)
  (fun pre Γ st ⟨_,P⟩=>(hs st P.old).2)
  (fun pre x post Γ st hx ⟨⟨d,hΓ⟩,P⟩=>by
   subst hΓ;obtain ⟨st2,e,P2⟩:=Qr2 w (by rw [<- hx]; exact hl) (by rw [<- hx]; exact ok) P DV;exact ⟨_,rfl,_,_,e,⟨_,rfl⟩,P2⟩)
  (Γ:=plG tb DV S.length n none) (st:=S2) ⟨⟨_,rfl⟩,P0⟩
 have r:=(RI.start w).run ok;obtain ⟨s,hss⟩:∃ s,Ue n (s0 n tb) xs=s:=⟨_,rfl⟩;rw [hss] at r ⊢;have Phs:=P.hs;rw [hss] at Phs;have et:Z0 (Qn 0) Zn (Q8b C) [] (Zk [none] (plG tb DV S.length n d')) ((List.range n).map fun i=>PV.ref (S.length + i)) S3=.ok ((List.range n).map fun i=>Q7 (s.now.getD i [])) S3:=by
  refine Yx _ _ (by simp) fun i hi=>⟨_,rfl,?_⟩
  have hi:i < n:=E7.mp hi;have hS:=Phs.at_ i hi;exact (jn (i:=S.length + i) rfl hS (jr (by decide +kernel) (by decide +kernel) (by decide +kernel) _ _ _) (ps:=[]) (S1:=S3) rfl rfl).trans (Qih hS)
 have em:(List.range n).map (fun i=>Q7 (s.now.getD i []))=s.now.map Q7:=by
  have:=Qed s.now [] Q7;rw [this,r.ln]
 rw [em] at et;have l3:=P.len;have k:Q7m C [some (Q7 tb),some DV,none,none,none,none] S=.rt (.tup [.ref (S.length + n + 1),.ref (S.length + n + 2)]) (S3 ++ [.lst (s.now.map Q7)]):=by
  refine Qm (Q07 (Qu (n:=1) (Q5 rfl rfl) rfl e1)) ?_;refine Qm (Γ1:=[some (Q7 tb),some DV,some (hsV S.length n),none,none,none]) (Jb (Q42 (qk hrg eh))) ?_;refine Qm (Γ1:=[some (Q7 tb),some DV,some (hsV S.length n),some (.ref (S.length + n)),none,none]) (S1:=S1 ++ [.lst []]) ((Jb (yh (ps:=[]) (S1:=S1) rfl)).trans (by rw [l1]; rfl)) ?_;refine Qm (Γ1:=plG tb DV S.length n none) (S1:=S2) ((Jb (yh (ps:=[]) (S1:=S1 ++ [.lst []]) rfl)).trans (by rw [O8,l1,hS2]; rfl)) ?_;refine Qm (Q50 (Qf4 (p:=DV) rfl hsrc (by rw [O2]; omega)) ef) ?_;have a:zw (Q4 2) (plG tb DV S.length n d') S3=.ok ((List.range n).map fun i=>PV.ref (S.length + i),[]) S3:=Qf4 (p:=hsV S.length n) rfl rfl (by rw [O2,G6]; omega)
  rw [Q3m,Kg (Q5 (m:=Q4 4) (p:=.ref (S.length + n + 1)) rfl (Q5 (yh (qk a et)) rfl)) (by simp),Vj,l3]
 refine ⟨_,yd k,by rw [O8,l3]; rfl,fun t ht=>?_,?_,?_⟩
 ·rw [O6 (by omega)]; exact P.old t ht
 ·rw [O6 (by omega)]; exact P.an
 ·rw [D1 (by omega),show S.length + n + 2 - S3.length=0 by omega]; rfl
theorem Qes {st st':Q2} (h:st'.length=st.length) (d:Int):fin st (.int d) st'=.ok (.int d) st':=by
 unfold fin
 by_cases q:st <+: st'
 ·rw [if_pos q];have:st=st':=q.eq_of_length h.symm;rw [<- this,fz]; rfl
 ·rw [if_neg q]
structure Mv (L:Nat) (S S':Q2):Prop where
 len:S'.length=S.length
 keep:∀ t,t≠L->S'[t]?=S[t]?
theorem Mv.refl (L:Nat) (S:Q2):Mv L S S:=⟨rfl,fun _ _=>rfl⟩
theorem Mv.trans {L:Nat} {S S1 S2:Q2} (a:Mv L S S1) (b:Mv L S1 S2):Mv L S S2:=⟨b.len.trans a.len,fun t ht=>(b.keep t ht).trans (a.keep t ht)⟩
theorem Q52 {st st':Q2} (h:st'.length=st.length) {v:PV} (g:Zi 12 v=true):fin st v st'=.ok v st':=by
 unfold fin
 by_cases q:st <+: st'
 ·rw [if_pos q];have:st=st':=q.eq_of_length h.symm;rw [<- this,Q67 g (by decide)]; rfl
 ·rw [if_neg q]
def Tp (S:Q2) (L:Nat):Prop:=∃ c:Int,S[L]?=some (.lst [.int c])
theorem Q1z {S:Q2} {L:Nat} (T:Tp S L) (m:Nat) (h1:1<=m) (hm:m < 2 ^ 8000):∃ (d:Nat) (S':Q2),d < m/\Tp S' L/\Mv L S S'/\Qi [.ref L,.int m] S=.ok (.int d) S':=by
 obtain ⟨c,hS⟩:=T;have hL:=(O1.mp hS).1;have hV:ListAt S (.ref L) [.int c]:=.inr (.inr ⟨L,rfl,hS⟩);have i0:oIx S (.ref L) (.int 0)=.ok (.int c) S:=by rw [hV.ix]; rfl
 obtain ⟨d,hd,ed⟩:=Qxv c h1;have t0:Q0q S (.ref L) (.int 0) (.int (c / (m:Int)))=some (S.set L (.lst [.int (c / (m:Int))])):=by
  unfold Q0q;simp only [hS];rfl
 obtain ⟨S1,hS1⟩:∃ S1,S.set L (.lst [.int (c / (m:Int))])=S1:=⟨_,rfl⟩;rw [hS1] at t0;have M:Mv L S S1:=⟨by rw [<- hS1,D5],fun t ht=>by rw [<- hS1,O5 (fun u=>ht u.symm)]⟩;refine ⟨d,S1,hd,⟨_,by rw [<- hS1,E2 hL]⟩,M,?_⟩;have em:Q3g S (.int c) (.int m)=.ok (.int d) S:=by
  show (if 0 < (m:Int) then _ else _)=_;rw [if_pos (by omega),ed]
 have edv:=Qgw S c m h1 hm;have step:zj [some (.ref L),some (.int m),none] S=.rt (.int d) S1:=
  Qm (Γ1:=[some (.ref L),some (.int m),some (.int d)]) (Jb (Qe (Qe rfl rfl i0) rfl em)) (Qm (Q6p (Qe (Qe rfl rfl i0) rfl edv) rfl rfl t0) rfl)
 exact (Yn step).trans (Qes M.len d)
theorem Qex {m:Nat} (h:m < 10 ^ 100):m < 2 ^ 8000:=D3 h (F1 (Nat.pow_le_pow_left (show 10<=2 ^ 4 by decide) 100) (by rw [<- Nat.pow_mul]; exact Nat.pow_le_pow_right (by decide) (by decide)))
theorem Yw {S:Q2} {L:Nat} (T:Tp S L) (m:Nat) (h1:1<=m) (hm:m < 100):∃ (d:Nat) (S':Q2),d < m/\Tp S' L/\Mv L S S'/\Qi [.ref L,.int m] S=.ok (.int d) S':=Q1z T m h1 (Qex (D3 hm (by decide)))
theorem Qdj (ns:List Int) (k:Nat) (S:Q2):∃ c:Int,W1 [.fro (ns.map .int),.int k] S=.ok (.ref S.length) (S ++ [.lst [.int c]]):=by
 obtain ⟨c,hc⟩:∃ c:Int,Vs [.fro (ns.map .int),.int k] S=.ok (.int c) S:=by
  by_cases q:k < ns.length
  ·have e:atI (ns.map PV.int) (k:Int)=some (.int (ns.getD k 0)):=by rw [K5,Sm.atI_get (getD_some q 0)]; rfl
   have hl:(ns.map PV.int).length=ns.length:=O2 _;refine ⟨ns.getD k 0,?_⟩;generalize ns.getD k 0=x at *;generalize ns.length=nl at *;generalize ns.map PV.int=nv at *;simp -implicitDefEqProofs [Vs,Qq,qc,hl,q,e]
  ·have hl:(ns.map PV.int).length=ns.length:=O2 _;have q':¬ (k:Int) < (ns.length:Int):=by omega
   refine ⟨0,?_⟩;generalize ns.length=nl at *;generalize ns.map PV.int=nv at *;simp -implicitDefEqProofs [Vs,Qq,qc,hl,q,q']
 by_cases q:c % 2=0
 ·refine ⟨c / 2,?_⟩;generalize ns.map PV.int=nv at *;simp -implicitDefEqProofs [W1,Yj,qa,hc,q,Zh]
 ·obtain ⟨l0,hl0⟩:∃ l0:Int,(c % 2305843009213693951 * 48271 + 69621 * k + 11) % 2305843009213693951=l0:=⟨_,rfl⟩;have b0:=Q69 (c % 2305843009213693951 * 48271 + 69621 * k + 11) (b:=2305843009213693951) (by decide);rw [hl0] at b0;obtain ⟨Γ',S1,e,x,y,z,rfl,rfl,_⟩:=Q1c (g:=fun k:Nat=>PV.int (k:Int)) (xs:=List.range 5) (ga:=Qn 6) (body:=jh) (w:=[]) (Γ:=[some (.fro (ns.map .int)),some (.int k),some (.int c),some (.int 2305843009213693951),some (.int 0),some (.int l0),none]) (st:=S)
   (fun _ Γ st'=>∃ (x y:Int) (z:Option PV),Γ=[some (.fro (ns.map .int)),some (.int k),some (.int c),some (.int 2305843009213693951),some (.int x),some (.int y),z]/\st'=S/\0<=y/\y < 2305843009213693951)
   (fun _ _ _ _=>by simp)
   (fun i t Γ st' hx ⟨x,y,z,e1,e2,y1,y2⟩=>by
    subst e1; subst e2;obtain ⟨w,hw⟩:∃ w:Int,(y * y + 40692 * k + t) % 2305843009213693951=w:=⟨_,rfl⟩;have bw:=Q69 (y * y + 40692 * k + t) (b:=2305843009213693951) (by decide);rw [hw] at bw;have yb:-18446744073709551616 < y/\y < 18446744073709551616:=by omega
    refine ⟨_,rfl,[some (.fro (ns.map .int)),some (.int k),some (.int c),some (.int 2305843009213693951),some (.int (x * 2305843009213693951 + y)),some (.int w),some (.int t)],st',?_,_,_,_,rfl,rfl,bw.1,bw.2⟩;generalize ns.map PV.int=nv at *;simp -implicitDefEqProofs [jh,yb,hw])
   ⟨_,_,_,rfl,rfl,b0.1,b0.2⟩
  rw [<- Uy] at e;refine ⟨x,?_⟩;generalize ns.map PV.int=nv at *;simp -implicitDefEqProofs [W1,Yj,qa,hc,q,Zh,hl0,e]
theorem Q30 {n h:Nat} {tb:Tab} (z:Sz n tb) (hn:n<=100) (hh:h < n) (st:Q2):Zj [Q7 tb,.int h] st=.ok (.int (Qr tb h)) st:=by
 have hc1:Z0 (Qn 0) Zn y9 [] (Zk [none,some 1,some 0] [some (Q7 tb),some (.int h),none]) (Ya 0 n) st=.ok ((List.range n).map fun j=>.int (ent tb j h)) st:=by
  rw [Uy];refine Yx _ _ (by simp) fun j hj=>⟨_,rfl,?_⟩
  have hj:=E7.mp hj;have c:=Q0b z hj (E8 hh) st;exact Qe (Qe rfl rfl c.1) rfl c.2
 obtain ⟨c1,c2⟩:=Q0b z hh (E8 hh) st;have hc2:Z0 (Qn 0) Zn y8 [] (Zk [none] [some (Q7 tb),some (.int h),some (.int (W9 n fun j=>ent tb j h))]) ((tb.getD h []).map .int) st=.ok ((tb.getD h []).map .int) st:=Yx _ _ (by simp) fun j hj=>⟨_,rfl,rfl⟩
 have hlen:Yp st [Q7 tb]=.ok (.int n) st:=by simp [Q7,z.1]
 have hrg:Ys (Q3 (J5 Yp (Q3 (Q4 0) Q9)) Q9) [some (Q7 tb),some (.int h),none] st=.ok (Ya 0 n,[]) st:=by
  rw [Xw,Q5 (Up (Q5 (m:=Q4 0) (p:=Q7 tb) (S1:=st) rfl (show Q9 _ st=.ok [] st from rfl)) hlen) (show Q9 _ st=.ok [] st from rfl),J4];show (if -(lim:Int)<=(n:Int)/\(n:Int)<=lim then _ else _)=_;rw [if_pos (by rw [Zh]; omega),Int.toNat_natCast]
 have s1:Xb (fun ns=>some (.int ns.sum)) st [.lst ((List.range n).map fun j=>.int (ent tb j h))]=.ok (.int (W9 n fun j=>ent tb j h)) st:=by
  rw [Qhx]; rfl
 have s2:Xb (fun ns=>some (.int ns.sum)) st [.lst ((tb.getD h []).map .int)]=.ok (.int (tb.getD h []).sum) st:=by simp
 have sr:Ut st (Qy (tb.getD h []))=some ((tb.getD h []).map .int,[]):=rfl;have hl:((tb.getD h []).map PV.int).length<=1000000:=by rw [O2,(z.row hh).2]; omega
 have step:j9 [some (Q7 tb),some (.int h),none] st=.rt (.int (Qr tb h)) st:=by
  refine Qm (Γ1:=[some (Q7 tb),some (.int h),some (.int (W9 n fun j=>ent tb j h))]) (Jb (Up (Q5 (Q42 (qk hrg hc1)) rfl) s1)) ?_;rw [Q3m,Qe (Qe rfl (Up (Q5 (Q42 (qk (Qf4 (Qe rfl rfl c1) sr hl) hc2)) rfl) s2) rfl) (Qe (Qe rfl rfl c1) rfl c2) rfl,Vj];unfold Qr;rw [z.1];congr 2;omega
 exact (Yn step).trans (Qfu st _)
theorem jg {a b:ME} {Γ:Gam} {S S1 S2:Q2} {x y:PV} {r:Res PV} (h1:a Γ S=.ok x S1) (h2:b Γ S1=.ok y S2) (h3:Q5d S2 x y=r):Wf a b Γ S=r:=by unfold Wf; rw [h1,J4,h2,J4,h3]
theorem Qdn {a b:MT} {Γ:Gam} {S S1:Q2} {r:Res Bool} (h:a Γ S=.ok true S1) (h2:b Γ S1=r):Q0d a b Γ S=r:=by rw [Qbz,h]; exact h2
theorem Qm7 {a b:MT} {Γ:Gam} {S S1:Q2} (h:a Γ S=.ok false S1):Q0d a b Γ S=.ok false S1:=by rw [Qbz,h]; rfl
theorem Vu {m:ME} {Γ:Gam} {S S1:Q2} {v:PV} (h:m Γ S=.ok v S1):Jp m Γ S=.rt v S1:=by rw [Q3m,h]; rfl
theorem Q88 (S:Q2) {a b:Int} (h:a=b):oEq S (.int a) (.int b)=.ok (.bl true) S:=by simp [h]
theorem Q89 (S:Q2) {a b:Int} (h:¬ a=b):oEq S (.int a) (.int b)=.ok (.bl false) S:=by simp [h]
theorem Q7t (S:Q2) {a b:Int} (h:a < b):oLt S (.int a) (.int b)=.ok (.bl true) S:=by simp [h]
theorem Qa5 (S:Q2) {a b:Int} (h:¬ a < b):oLt S (.int a) (.int b)=.ok (.bl false) S:=by
 have:oLt S (.int a) (.int b)=.ok (.bl (decide (a < b))) S:=by simp
 rw [this,decide_eq_false h]
theorem Qqq (S:Q2) {a b:Int} (h:b < a):(oI fun a b=>.bl (decide (b < a))) S (.int a) (.int b)=.ok (.bl true) S:=by
 show Res.ok (PV.bl (decide (b < a))) S=_; rw [decide_eq_true h]
theorem Qqr (S:Q2) {a b:Int} (h:¬ b < a):(oI fun a b=>.bl (decide (b < a))) S (.int a) (.int b)=.ok (.bl false) S:=by
 show Res.ok (PV.bl (decide (b < a))) S=_; rw [decide_eq_false h]
theorem Qsh (S:Q2) {a b:Int} (h:0 < b):Q3g S (.int a) (.int b)=.ok (.int (a % b)) S:=by
 show (if 0 < b then _ else _)=_; rw [if_pos h]
theorem Q5z (S:Q2) (a b:Int):We S (.int a) (.int b)=.ok (.int (a + b)) S:=by simp
theorem Qmk (S:Q2) (a b:Int):(oI fun a b=>.int (a - b)) S (.int a) (.int b)=.ok (.int (a - b)) S:=rfl
theorem Q0c {n i j:Nat} {tb:List (List Int)} (z:Sz n tb) (hn:n<=100) (hi:i < n) (hj:j<=n) (k:Int) (st:Q2):Y0 [Q7 tb,.int i,.int j,.int k] st=.ok (Q7 (Xm tb i j (ent tb i j + k))) st:=by
 have c0:=Q0b z hi hj st;have hrl:=(z.row hi).2;have g1:Qy ((tb.getD i []).set j (ent tb i j + k))=.tup (((tb.getD i []).take j).map .int ++ [.int (ent tb i j + k)] ++ ((tb.getD i []).drop (j + 1)).map .int):=by
  unfold Qy;rw [<- Q61 _ _ _ (by omega),F3,F3]; rfl
 have g2:Q7 (Xm tb i j (ent tb i j + k))=.tup ((tb.take i).map Qy ++ [Qy ((tb.getD i []).set j (ent tb i j + k))] ++ (tb.drop (i + 1)).map Qy):=by
  unfold Q7 Xm;rw [<- Q61 _ _ _ (by rw [z.1]; exact hi),F3,F3]; rfl
 have c3:cut ((tb.getD i []).map PV.int) none (some (j:Int))=((tb.getD i []).take j).map .int:=by rw [js,Q1w]
 have c4:cut ((tb.getD i []).map PV.int) (some ((j:Int) + 1)) none=((tb.getD i []).drop (j + 1)).map .int:=by rw [js]; exact congrArg _ (Q1d _ (j + 1))
 have c5:cut (tb.map Qy) none (some (i:Int))=(tb.take i).map Qy:=by rw [js,Q1w]
 have c6:cut (tb.map Qy) (some ((i:Int) + 1)) none=(tb.drop (i + 1)).map Qy:=by rw [js]; exact congrArg _ (Q1d _ (i + 1))
 have l3:(((tb.getD i []).take j).map PV.int).length=j:=by rw [O2,List.length_take,hrl]; omega
 have l4:(((tb.getD i []).drop (j + 1)).map PV.int).length=n - j:=by rw [O2,List.length_drop,hrl]; omega
 have l5:((tb.take i).map Qy).length=i:=by rw [O2,List.length_take,z.1]; omega
 have l6:((tb.drop (i + 1)).map Qy).length=n - (i + 1):=by rw [O2,List.length_drop,z.1]
 have b1:j + 1<=1000000:=by omega
 have b2:j + 1 + (n - j)<=1000000:=by omega
 have b3:i + 1<=1000000:=by omega
 have b4:i + 1 + (n - (i + 1))<=1000000:=by omega
 have hf:fin st (Q7 (Xm tb i j (ent tb i j + k))) st=.ok (Q7 (Xm tb i j (ent tb i j + k))) st:=Vm (by simp [Zi,Q7,Qy]);obtain ⟨c1,c2⟩:=c0;have q1:oSl st (Qy (tb.getD i [])) none (some (j:Int))=.ok (.tup (((tb.getD i []).take j).map .int)) st:=by unfold Qy; rw [jm,c3]
 have q2:oSl st (Qy (tb.getD i [])) (some ((j:Int) + 1)) none=.ok (.tup (((tb.getD i []).drop (j + 1)).map .int)) st:=by unfold Qy; rw [jm,c4]
 have q3:oSl st (Q7 tb) none (some (i:Int))=.ok (.tup ((tb.take i).map Qy)) st:=by unfold Q7; rw [jm,c5]
 have q4:oSl st (Q7 tb) (some ((i:Int) + 1)) none=.ok (.tup ((tb.drop (i + 1)).map Qy)) st:=by unfold Q7; rw [jm,c6]
 rw [g2] at hf ⊢;rw [g1] at hf ⊢;generalize ent tb i j=x at *;generalize ((tb.getD i []).take j).map PV.int=v3 at *;generalize ((tb.getD i []).drop (j + 1)).map PV.int=v4 at *;generalize (tb.take i).map Qy=v5 at *;generalize (tb.drop (i + 1)).map Qy=v6 at *;generalize Qy (tb.getD i [])=rv at *;generalize Q7 tb=T at *;simp -implicitDefEqProofs at hf;simp -implicitDefEqProofs [Y0,Qq,ja,c1,c2,q1,q2,q3,q4,Zh,l3,l4,l5,l6,b1,b2,b3,b4,hf]
theorem Qjp (st:Q2) (xs:List PV) (b:Int):Q5t st (.lst xs) (.int b)=if -(2 ^ 63)<=b/\b < 2 ^ 63/\xs.length * b.toNat<=lim then .ok (.lst (List.replicate b.toNat xs).flatten) st else .stuck:=rfl
theorem Quf {α:Type} (x:α):∀ n,(List.replicate n [x]).flatten=List.replicate n x
 | 0=>rfl
 | n + 1=>by rw [List.replicate_succ,List.flatten_cons,Quf x n]; rfl
theorem Qbr {mr:ML} {Γ:Gam} {S S1:Q2} {ps:List PV} (h:mr Γ S=.ok ps S1) (hl:ps.length<=1000000:=by decide):Q3p mr Γ S=.ok (.lst ps) S1:=by
 unfold Q3p;rw [h,J4];exact if_pos hl
theorem Qm9 {n:Nat} (hn:n<=8) (S:Q2):qp [.int n] S=.ok (Q7 (List.replicate n (K6 n))) S:=by
 have h5:((n:Int) + 1).toNat=n + 1:=by omega
 have ev:jf [some (.int 0),some (.int n)] S=.ok (Qy (K6 n)) S:=by
  have:Qy (K6 n)=.tup (List.replicate (n + 1) (.int 0)):=by simp [Qy,K6]
  rw [this];have em:Q5t S (.lst [.int 0]) (.int ((n:Int) + 1))=.ok (.lst (List.replicate (n + 1) (.int 0))) S:=by
   rw [Qjp,if_pos ⟨by omega,by omega,by rw [Zh,h5]; simp; omega⟩,h5,Quf]
  exact Up (Q5 (Qe (Qbr rfl) (Qe rfl rfl (Q5z S _ _)) em) rfl) rfl
 have hc:Z0 (Qn 0) Zn jf [] (Zk [none,some 0] [some (.int n)]) (Ya 0 n) S=.ok ((List.range n).map fun _=>Qy (K6 n)) S:=by
  rw [Uy];refine Yx _ _ (by simp) fun j hj=>⟨_,rfl,?_⟩
  exact ev
 have hm:((List.range n).map fun _=>Qy (K6 n))=(List.replicate n (K6 n)).map Qy:=by
  rw [List.map_replicate];exact List.eq_replicate_iff.mpr ⟨by simp,fun b hb=>by obtain ⟨_,_,rfl⟩:=List.mem_map.mp hb; rfl⟩
 rw [hm] at hc;have hrg:Ys (Q3 (Q4 0) Q9) [some (.int n)] S=.ok (Ya 0 n,[]) S:=by
  rw [Xw,Q5 (m:=Q4 0) (p:=.int n) (S1:=S) rfl (show Q9 _ S=.ok [] S from rfl),J4];show (if -(lim:Int)<=(n:Int)/\(n:Int)<=lim then _ else _)=_;rw [if_pos (by rw [Zh]; omega),Int.toNat_natCast]
 have ct:Uh S [.lst ((List.replicate n (K6 n)).map Qy)]=.ok (Q7 (List.replicate n (K6 n))) S:=by
  have hl:((List.replicate n (K6 n)).map Qy).length<=1000000:=by simp; omega
  unfold Q7;generalize (List.replicate n (K6 n)).map Qy=q at *;simp [Zh,hl]
 have step:Q02 [some (.int n)] S=.rt (Q7 (List.replicate n (K6 n))) S:=Vu (Up (Q5 (Q42 (qk hrg hc)) rfl) ct);exact (Yn step).trans (Qbe S _)
theorem Qf0 {a b:Tab} (h:a.length=b.length) (hl:a.length<=1000) (hr:∀ r∈a,r.length<=1000) (S:Q2):Xf [Q7 a,Q7 b] S=.ok (Q7 (Wp a b)) S:=by
 obtain ⟨Γ',S',e,⟨c3,c4,rfl⟩,rfl⟩:=Qa8 (g:=fun z:List Int × List Int=>PV.tup [Qy z.1,Qy z.2]) (xs:=a.zip b)
  (fun pre Γ st=>(∃ c3 c4,Γ=[some (Q7 a),some (Q7 b),some (.ref S.length),c3,c4])/\st=S ++ [.lst (pre.map fun z=>Qy (V1 z.1 z.2))])
  (ga:=K9 (Zx (Qn 3) (Zx (Qn 4) Ka))) (body:=yf) (w:=[]) (fun _ _ _ _=>by simp)
  (fun pre z post Γ st hx ⟨⟨c3,c4,hΓ⟩,hst⟩=>by
   subst hΓ; subst hst;have hz:z∈a.zip b:=by rw [hx]; simp
   have hpl:pre.length<=1000:=by
    have:=congrArg List.length hx;rw [List.length_zip,O8,D8,<- h,Nat.min_self] at this;omega
   have hrl:z.1.length<=lim:=by have:=hr _ (List.of_mem_zip hz).1; rw [Zh]; omega
   obtain ⟨st,hst⟩:∃ st,S ++ [Cell.lst (pre.map fun z=>Qy (V1 z.1 z.2))]=st:=⟨_,rfl⟩
   have gt:st[S.length]?=some (.lst (pre.map fun z=>Qy (V1 z.1 z.2))):=by rw [<- hst]; simp
   rw [hst];have hc:Z0 (K9 (Zx (Qn 0) (Zx (Qn 1) Ka))) Zn Xz [] (Zk [none,none] [some (Q7 a),some (Q7 b),some (.ref S.length),some (Qy z.1),some (Qy z.2)]) ((z.1.zip z.2).map fun z=>.tup [.int z.1,.int z.2]) st=.ok ((z.1.zip z.2).map fun z=>.int (Lw.maxI z.1 z.2)) st:=by
    refine Yx _ _ (by simp) fun u hu=>⟨_,rfl,?_⟩
    simp [Zk,Xz,Lw.maxI]
   have em:((z.1.zip z.2).map fun z=>PV.int (Lw.maxI z.1 z.2))=(V1 z.1 z.2).map .int:=by unfold V1; rw [List.map_map]; rfl
   rw [em] at hc;have hzip:Q5v (Q3 (Q4 3) (Q3 (Q4 4) Q9)) [some (Q7 a),some (Q7 b),some (.ref S.length),some (Qy z.1),some (Qy z.2)] st=.ok ((z.1.zip z.2).map fun z=>.tup [.int z.1,.int z.2],[]) st:=by
    have hrl':=hrl;rw [Zh] at hrl';unfold Qy;simp [Q0k,hrl,hrl',Zh]
   have hjl:((V1 z.1 z.2).map PV.int).length<=1000000:=by
    unfold V1;rw [O2,O2,List.length_zip];have:=Nat.min_le_left z.1.length z.2.length;rw [Zh] at hrl;omega
   have ct:Uh st [.lst ((V1 z.1 z.2).map .int)]=.ok (Qy (V1 z.1 z.2)) st:=by
    unfold Qy;generalize (V1 z.1 z.2).map PV.int=q at *;simp [Zh,hjl]
   have ap:=Q1y gt (by rw [O2]; omega) (Qy (V1 z.1 z.2));refine ⟨_,rfl,_,_,Q56 (p:=.ref S.length) rfl (Uk gt) (Q5 (Up (Q5 (Q42 (qk hzip hc)) rfl) ct) rfl) ap,⟨_,_,rfl⟩,?_⟩;rw [<- hst,F3];simp)
  (Γ:=[some (Q7 a),some (Q7 b),some (.ref S.length),none,none]) (st:=S ++ [.lst []]) ⟨⟨_,_,rfl⟩,rfl⟩
 have em:((a.zip b).map fun z=>Qy (V1 z.1 z.2))=(Wp a b).map Qy:=by unfold Wp; rw [List.map_map]; rfl
 rw [em] at e;have hjl:((Wp a b).map Qy).length<=1000000:=by
  unfold Wp;rw [O2,O2,List.length_zip,<- h,Nat.min_self];omega
 obtain ⟨st,hst⟩:∃ st,S ++ [Cell.lst ((Wp a b).map Qy)]=st:=⟨_,rfl⟩;have gt:ListAt st (.ref S.length) ((Wp a b).map Qy):=.inr (.inr ⟨_,rfl,by rw [<- hst]; simp⟩);have hzip:Q5v (Q3 (Q4 0) (Q3 (Q4 1) Q9)) [some (Q7 a),some (Q7 b),some (.ref S.length),none,none] (S ++ [.lst []])=.ok ((a.zip b).map fun z=>.tup [Qy z.1,Qy z.2],[]) (S ++ [.lst []]):=by
  have hl':a.length<=1000000:=by omega
  unfold Q7;simp [Q0k,hl',Zh]
 have ct:Uh st [.ref S.length]=.ok (Q7 (Wp a b)) st:=by
  have z:st[S.length]?=some (.lst ((Wp a b).map Qy)):=by rw [<- hst]; simp
  show (match Uv st (.ref S.length) with | some xs=>Res.ok (PV.tup xs) st | none=>.stuck)=_
  rw [show Uv st (.ref S.length)=some ((Wp a b).map Qy) from Uk z]; rfl
 rw [hst] at e;have step:jc [some (Q7 a),some (Q7 b),none,none,none] S=.rt (Q7 (Wp a b)) st:=
  Qm (Γ1:=[some (Q7 a),some (Q7 b),some (.ref S.length),none,none]) (S1:=S ++ [.lst []]) (Jb (yh (ps:=[]) rfl)) (Qm (Q50 hzip e) (Vu (Up (Q5 rfl rfl) ct)))
 refine (Yn step).trans ?_;rw [<- hst];exact Q53 (by simp [Zi,Q7,Qy])
def bM (t:Nat):Int:=10 ^ (21 + t)
theorem Q40 (t:Nat):bM (t + 1)=10 * bM t:=by
 unfold bM;rw [show 21 + (t + 1)=(21 + t) + 1 by omega,Int.pow_succ];omega
theorem Q8k:∀ t,1000000000000000000000<=bM t
 | 0=>by decide
 | t + 1=>by have:=Q8k t; rw [Q40]; omega
theorem Qqv {t:Nat} (h:t<=60):8 * bM t + 2 < 10 ^ 100:=by
 have h1:bM t<=10 ^ 90:=by
  unfold bM
  exact_mod_cast Nat.pow_le_pow_right (n:=10) (by decide) (show 21 + t<=90 by omega)
 have h2:(8:Int) * 10 ^ 90 + 2 < 10 ^ 100:=by decide +kernel
 omega
structure Bd (n:Nat) (M:Int) (tb:Tab):Prop where
 le:∀ i j,i < n->j<=n->ent tb i j<=M
theorem Qmg {n:Nat} {f:Nat->Int} {M:Int} (h:∀ o,o < n->f o<=M):W9 n f<=n * M:=by
 induction n with
 | zero=>simp [W9]
 | succ n ih=>
  rw [Jn];have h1:=ih fun o ho=>h o (by omega)
  have h2:=h n (by omega);have:((n + 1:Nat):Int) * M=n * M + M:=by push_cast; rw [Int.add_mul,Int.one_mul]
  omega
theorem Qmf {n:Nat} {f:Nat->Int} (h:∀ o,o < n->0<=f o):0<=W9 n f:=by
 induction n with
 | zero=>simp [W9]
 | succ n ih=>
  rw [Jn];have h1:=ih fun o ho=>h o (by omega)
  have h2:=h n (by omega);omega
theorem Qie {n:Nat} {f:Nat->Int} (h:∀ o,o < n->0<=f o) {k:Nat} (hk:k < n):f k<=W9 n f:=by
 induction n with
 | zero=>omega
 | succ n ih=>
  rw [Jn];have h2:=h n (by omega);have h3:=Qmf (n:=n) fun o ho=>h o (by omega)
  by_cases q:k=n
  ·subst q; omega
  ·have h1:=ih (fun o ho=>h o (by omega)) (by omega)
   omega
theorem Q4b {n h:Nat} {tb:Tab} (w:Wt' n tb) {M:Int} (b:Bd n M tb) (hM:0<=M) (hh:h < n):Qr tb h<=8 * M:=by
 rw [j7 w.sz hh];have h1:=Qmg (n:=n) (f:=fun o=>ent tb o h) fun o ho=>b.le o h ho (E8 hh)
 have h2:=Qie (n:=n) (f:=fun j=>ent tb h j) (fun o ho=>w.ent_nn hh (E8 ho)) hh
 have h3:=w.ent_nn hh (O7 n);have h4:(n:Int) * M<=8 * M:=Int.mul_le_mul_of_nonneg_right (by have:=w.n8; omega) hM;have h2:ent tb h h<=W9 n fun j=>ent tb h j:=h2
 omega
theorem Bd.put {n:Nat} {tb:Tab} (w:Wt' n tb) {M:Int} (b:Bd n M tb) {d:Dd} (o:d.ok n) {K:Int} (hK:M + d.k<=K):Bd n K (d.put n tb):=by
 refine ⟨fun i j hi hj=>?_⟩;unfold Dd.put;rw [Q08 w.sz (Dd.ok_h o) (Dd.ok_pl o)];have h1:=b.le i j hi hj;have h2:=Dd.ok_k o;have h3:=b.le d.h (d.pl n) (Dd.ok_h o) (Dd.ok_pl o)
 split <;> omega
theorem Bd.up {n:Nat} {tb:Tab} {M K:Int} (b:Bd n M tb) (h:M<=K):Bd n K tb:=⟨fun i j hi hj=>Int.le_trans (b.le i j hi hj) h⟩
theorem Qt3 {n:Nat} {tb:Tab} (w:Wt' n tb) (c:Ca n tb) {d:Dd} (o:d.ok n) (hf:d.isM=false->d.k<=Qr tb d.h):Wt' n (d.put n tb)/\Ca n (d.put n tb):=by
 have hh:=Dd.ok_h o;have hk:=Dd.ok_k o;have w':Wt' n (d.put n tb):=Qix w o;refine ⟨w',?_⟩;cases d with
 | mk h k=>exact Ca.make w c hh (by have:(1:Int)<=k:=hk; omega) w'
 | ld h q k=>
  have h1:k<=Qr tb h:=hf rfl;have hk:(1:Int)<=k:=hk;exact Ca.give w c hh (E8 o.2.1) o.2.2.1 (by omega) h1 (Int.le_trans hk h1) w'
 | us h k=>
  have h1:k<=Qr tb h:=hf rfl;have hk:(1:Int)<=k:=hk;have hh:h < n:=hh;exact Ca.give w c hh (O7 n) (by omega) (by omega) h1 (Int.le_trans hk h1) w'
theorem Qdp {S:Q2} {L:Nat} (T:Tp S L):∃ (k:Int) (S':Q2),(1<=k/\k<=100000000000000000000)/\Tp S' L/\Mv L S S'/\Ww [.ref L] S=.ok (.int k) S':=by
 obtain ⟨d,S1,hd,T1,M1,e1⟩:=Yw T 12 (by decide) (by decide);have e1:Qi [.ref L,.int 12] S=.ok (.int d) S1:=e1
 by_cases q:d=11
 ·obtain ⟨x,S2,hx,T2,M2,e2⟩:=Yw T1 3 (by decide) (by decide);have e2:Qi [.ref L,.int 3] S1=.ok (.int x) S2:=e2;have M:=M1.trans M2;have hp:Qjn S1 (.int 10) (.int 20)=.ok (.int 100000000000000000000) S1:=by
   rw [Qjm,if_pos (by decide)]; rfl
  have step:qb [some (.ref L),none] S=.rt (.int (100000000000000000000 - (x:Int))) S2:=
   Qm (Γ1:=[some (.ref L),some (.int d)]) (Jb (Qu (n:=2) (Q5 rfl (Q5 rfl rfl)) rfl e1)) (qt (y0 (J3 (Qe rfl rfl (Q88 S1 (by omega)))) (Vu (Qe (Qe rfl rfl hp) (Qu (n:=2) (Q5 rfl (Q5 rfl rfl)) rfl e2) (Qmk S2 _ _)))))
  exact ⟨_,S2,by omega,T2,M,(Yn step).trans (Qes M.len _)⟩
 ·have b:=Q69 (d:Int) (b:=7) (by decide);have step:qb [some (.ref L),none] S=.rt (.int (1 + (d:Int) % 7)) S1:=
   Qm (Γ1:=[some (.ref L),some (.int d)]) (Jb (Qu (n:=2) (Q5 rfl (Q5 rfl rfl)) rfl e1)) (Qm (Wq (J3 (Qe rfl rfl (Q89 S1 (by omega)))) rfl) (Vu (Qe rfl (Qe rfl rfl (Qsh S1 (by decide))) (Q5z S1 _ _))))
  exact ⟨_,S1,by omega,T1,M1,(Yn step).trans (Qes M1.len _)⟩
theorem Qff {n i y:Nat} (hi:i < n) (hy:y < n - 1):∃ q:Nat,((i:Int) + 1 + (y:Int)) % (n:Int)=(q:Int)/\q < n/\q≠i:=by
 by_cases h:i + 1 + y < n
 ·exact ⟨i + 1 + y,by rw [Int.emod_eq_of_lt (by omega) (by omega)]; omega,h,by omega⟩
 ·refine ⟨i + 1 + y - n,?_,by omega,by omega⟩;have e:((i:Int) + 1 + (y:Int))=((i + 1 + y - n:Nat):Int) + (n:Int):=by omega
  rw [e,Int.add_emod_right,Int.emod_eq_of_lt (by omega) (by omega)]
abbrev tbG (L n m:Nat) (tb:Tab) (c4 c5 c6 c7 c8:Option PV):Gam:=[some (.ref L),some (.int n),some (.int m),some (Q7 tb),c4,c5,c6,c7,c8]
structure TbI (n:Nat) (t:Nat) (tb:Tab):Prop where
 w:Wt' n tb
 c:Ca n tb
 b:Bd n (bM t) tb
theorem TbI.put {n t:Nat} {tb:Tab} (I:TbI n t tb) {d:Dd} (o:d.ok n) (hf:d.isM=false->d.k<=Qr tb d.h) (hk:d.isM=true->d.k<=100000000000000000000):TbI n (t + 1) (d.put n tb):=by
 have h:=Qt3 I.w I.c o hf;refine ⟨h.1,h.2,I.b.put I.w o ?_⟩;have g:=Q8k t;rw [Q40];cases hm:d.isM with
 | true=>have:=hk hm; omega
 | false=>
  have h1:=hf hm;have h2:=Q4b I.w I.b (by omega) (Dd.ok_h o);omega
theorem Qdk {S:Q2} {L n m t:Nat} {tb:Tab} (T:Tp S L) (I:TbI n t tb) (ht:t<=20) (c4 c5 c6 c7 c8:Option PV):∃ (tb':Tab) (S':Q2) (d5 d6 d7 d8:Option PV),TbI n (t + 1) tb'/\Tp S' L/\Mv L S S'/\Ku (tbG L n m tb c4 c5 c6 c7 c8) S=.nx (tbG L n m tb' c4 d5 d6 d7 d8) S':=by
 have w:=I.w;have h1:=w.n1;have h8:=w.n8;obtain ⟨i,S1,hi,T1,M1,e1⟩:=Yw T n h1 (by omega);obtain ⟨y,S2,hy,T2,M2,e2⟩:=Yw T1 4 (by decide) (by decide);have e2:Qi [.ref L,.int 4] S1=.ok (.int y) S2:=e2;have e3:=Q30 w.sz (by omega) hi S2;obtain ⟨r,hr⟩:∃ r:Nat,Qr tb i=(r:Int):=⟨(Qr tb i).toNat,by have:=I.c.nn i hi; omega⟩;rw [hr] at e3;have M12:=M1.trans M2;have k1:Je 5 (Qf 2 Qi (Q3 (Q4 0) (Q3 (Q4 1) Q9))) (tbG L n m tb c4 c5 c6 c7 c8) S=.nx (tbG L n m tb c4 (some (.int i)) c6 c7 c8) S1:=Jb (Qu (n:=2) (Q5 rfl (Q5 rfl rfl)) rfl e1);have k2:Je 6 (Qf 2 Qi (Q3 (Q4 0) (Q3 (mC (.int 4)) Q9))) (tbG L n m tb c4 (some (.int i)) c6 c7 c8) S1=.nx (tbG L n m tb c4 (some (.int i)) (some (.int y)) c7 c8) S2:=Jb (Qu (n:=2) (Q5 rfl (Q5 rfl rfl)) rfl e2);have k3:Je 7 (Qf 2 Zj (Q3 (Q4 3) (Q3 (Q4 5) Q9))) (tbG L n m tb c4 (some (.int i)) (some (.int y)) c7 c8) S2=.nx (tbG L n m tb c4 (some (.int i)) (some (.int y)) (some (.int r)) c8) S2:=Jb (Qu (n:=2) (Q5 rfl (Q5 rfl rfl)) rfl e3)
 have hrb:=Q4b w I.b (by have:=Q8k t; omega) hi;have hbl:=Qqv (t:=t) (by omega);have hrN:r < 2 ^ 8000:=Qex (by
  have:(r:Int) < 10 ^ 100:=by omega
  exact_mod_cast this)
 by_cases q:y < 2\/r=0
 ·obtain ⟨k,S3,hk,T3,M3,e4⟩:=Qdp T2;have o:(Dd.mk i k).ok n:=⟨hi,hk.1⟩;have e5:=Q0c w.sz (by omega) hi (E8 hi) k S3;refine ⟨_,S3,_,_,_,_,I.put o (fun z=>by cases z) (fun _=>hk.2),T3,M12.trans M3,Qm k1 (Qm k2 (Qm k3 (y0 ?_ (Jb (Qu (n:=4) (Q5 rfl (Q5 rfl (Q5 rfl (Q5 (Qu (n:=1) (Q5 rfl rfl) rfl e4) rfl)))) rfl e5)))))⟩
  by_cases q1:y < 2
  ·exact Qv1 (J3 (Qe rfl rfl (Q7t S2 (by omega))))
  ·exact Qb2 (J3 (Qe rfl rfl (Qa5 S2 (by omega)))) (J3 (Qe rfl rfl (Q88 S2 (by omega))))
 ·have hr1:1<=r:=by omega
  have t1:Q0m (toB (mOp oLt (Q4 6) (mC (.int 2)))) (toB (mOp oEq (Q4 7) (mC (.int 0)))) (tbG L n m tb c4 (some (.int i)) (some (.int y)) (some (.int r)) c8) S2=.ok false S2:=Qb2 (J3 (Qe rfl rfl (Qa5 S2 (by omega)))) (J3 (Qe rfl rfl (Q89 S2 (by omega))))
  by_cases q2:y=2/\1 < n
  ·obtain ⟨z,S3,hz,T3,M3,e4⟩:=Yw T2 (n - 1) (by omega) (by omega);have e4:Qi [.ref L,.int ((n:Int) - 1)] S2=.ok (.int z) S3:=by rw [show ((n:Int) - 1)=((n - 1:Nat):Int) by omega]; exact e4
   obtain ⟨j,ej,hj,hne⟩:=Qff hi hz;obtain ⟨x,S4,hx,T4,M4,e5⟩:=Q1z T3 r hr1 hrN;have o:(Dd.ld i j (1 + (x:Int))).ok n:=⟨hi,hj,hne,by omega⟩;have e6:=Q0c w.sz (by omega) hi (E8 hj) (1 + (x:Int)) S4;refine ⟨_,S4,_,_,_,_,I.put o (fun _=>?_) (fun z=>by cases z),T4,(M12.trans M3).trans M4,Qm k1 (Qm k2 (Qm k3 (Wq t1 (y0 (Qdn (J3 (Qe rfl rfl (Q88 S2 (by omega)))) (J3 (Qe rfl rfl (Qqq S2 (by omega))))) (Qm (Γ1:=tbG L n m tb c4 (some (.int i)) (some (.int y)) (some (.int r)) (some (.int j))) (S1:=S3) (Jb (Qe (Qe (Qe rfl rfl (Q5z S2 _ _)) (Qu (n:=2) (Q5 rfl (Q5 (Qe rfl rfl (Qmk S2 _ _)) rfl)) rfl e4) (Q5z S3 _ _)) rfl ?_)) (Jb (Qu (n:=4) (Q5 rfl (Q5 rfl (Q5 rfl (Q5 (Qe rfl (Qu (n:=2) (Q5 rfl (Q5 rfl rfl)) rfl e5) (Q5z S4 _ _)) rfl)))) rfl e6)))))))⟩
   ·show 1 + (x:Int)<=Qr tb i;rw [hr]; omega
   ·rw [Qsh S3 (by omega),ej]
  ·obtain ⟨x,S4,hx,T4,M4,e5⟩:=Q1z T2 r hr1 hrN;have o:(Dd.us i (1 + (x:Int))).ok n:=⟨hi,by omega⟩;have e6:=Q0c w.sz (by omega) hi (O7 n) (1 + (x:Int)) S4;have t2:Q0d (toB (mOp oEq (Q4 6) (mC (.int 2)))) (toB (mOp (oI fun a b=>.bl (decide (b < a))) (Q4 1) (mC (.int 1)))) (tbG L n m tb c4 (some (.int i)) (some (.int y)) (some (.int r)) c8) S2=.ok false S2:=by
    by_cases q3:y=2
    ·exact Qdn (J3 (Qe rfl rfl (Q88 S2 (by omega)))) (J3 (Qe rfl rfl (Qqr S2 (by omega))))
    ·exact Qm7 (J3 (Qe rfl rfl (Q89 S2 (by omega))))
   refine ⟨_,S4,_,_,_,_,I.put o (fun _=>?_) (fun z=>by cases z),T4,M12.trans M4,Qm k1 (Qm k2 (Qm k3 (Wq t1 (Wq t2 (Jb (Qu (n:=4) (Q5 rfl (Q5 rfl (Q5 rfl (Q5 (Qe rfl (Qu (n:=2) (Q5 rfl (Q5 rfl rfl)) rfl e5) (Q5z S4 _ _)) rfl)))) rfl e6))))))⟩;show 1 + (x:Int)<=Qr tb i;rw [hr]; omega
theorem Qke {n i j:Nat} (hi:i < n) (hj:j<=n):ent (List.replicate n (K6 n)) i j=0:=by
 unfold ent;rw [F8 (l:=List.replicate n (K6 n)),List.getElem?_replicate,if_pos hi,Option.getD_some,K6,F8,List.getElem?_replicate,if_pos (by omega)]; rfl
theorem Qi0 {S:Q2} {L n m:Nat} (T:Tp S L) (h1:1<=n) (h8:n<=8) (hm:m<=9):∃ (tb:Tab) (S':Q2),TbI n m tb/\Tp S' L/\Mv L S S'/\U4 [.ref L,.int n,.int m] S=.ok (Q7 tb) S':=by
 have w0:=Qma h1 h8;have I0:TbI n 0 (List.replicate n (K6 n)):=⟨w0,Ca.zero h1 h8 w0,⟨fun i j hi hj=>by rw [Qke hi hj]; have:=Q8k 0; omega⟩⟩;obtain ⟨Γ',S',e,tb,c4,c5,c6,c7,c8,rfl,I,T',M⟩:=Q1c (g:=fun k:Nat=>PV.int (k:Int)) (xs:=List.range m) (ga:=Qn 4) (body:=Ku) (w:=[]) (Γ:=tbG L n m (List.replicate n (K6 n)) none none none none none) (st:=S)
  (fun t Γ st=>∃ tb c4 c5 c6 c7 c8,Γ=tbG L n m tb c4 c5 c6 c7 c8/\TbI n t tb/\Tp st L/\Mv L S st) (fun _ _ _ _=>by simp)
  (fun t x Γ st hx ⟨tb,c4,c5,c6,c7,c8,hΓ,I,T,M⟩=>by
   subst hΓ;have htm:t < m:=by simpa using (O1.mp hx).1
   obtain ⟨tb',S',d5,d6,d7,d8,I',T',M',e⟩:=Qdk (m:=m) T I (by omega) (some (.int x)) c5 c6 c7 c8;exact ⟨_,rfl,_,_,e,_,_,_,_,_,_,rfl,I',T',M.trans M'⟩)
  ⟨_,_,_,_,_,_,rfl,I0,T,Mv.refl L S⟩
 rw [G6] at I;rw [<- Uy] at e;have hrg:Ys (Q3 (Q4 2) Q9) (tbG L n m (List.replicate n (K6 n)) none none none none none) S=.ok (Ya 0 m,[]) S:=by
  rw [Xw,Q5 (m:=Q4 2) (p:=.int m) (S1:=S) rfl (show Q9 _ S=.ok [] S from rfl),J4];show (if -(lim:Int)<=(m:Int)/\(m:Int)<=lim then _ else _)=_;rw [if_pos (by rw [Zh]; omega),Int.toNat_natCast]
 have step:zf [some (.ref L),some (.int n),some (.int m),none,none,none,none,none,none] S=.rt (Q7 tb) S':=
  Qm (Γ1:=tbG L n m (List.replicate n (K6 n)) none none none none none) (Jb (Qu (n:=1) (Q5 rfl rfl) rfl (Qm9 h8 S))) (Qm (Q50 hrg e) rfl)
 exact ⟨tb,S',I,T',M,(Yn step).trans (Q52 M.len (by simp [Zi,Q7,Qy]))⟩
theorem Qi4 (ns:List Int):∃ (n:Nat) (tb:Tab),(1<=n/\n<=8)/\TbI n 8 tb/\U7 [.fro (ns.map .int)] []=.ok (Q7 tb) []:=by
 obtain ⟨c,e0⟩:=Qdj ns 0 [];have e0:W1 [.fro (ns.map .int),.int 0] []=.ok (.ref 0) [.lst [.int c]]:=e0;have T0:Tp [.lst [.int c]] 0:=⟨c,rfl⟩;obtain ⟨a,S1,ha,T1,M1,e1⟩:=Yw T0 8 (by decide) (by decide);have e1:Qi [.ref 0,.int 8] [.lst [.int c]]=.ok (.int a) S1:=e1;obtain ⟨m,S2,hm,T2,M2,e2⟩:=Yw T1 9 (by decide) (by decide);have e2:Qi [.ref 0,.int 9] S1=.ok (.int m) S2:=e2;obtain ⟨tb,S3,I,T3,M3,e3⟩:=Qi0 (n:=1 + a) (m:=m) T2 (by omega) (by omega) (by omega);have e3:U4 [.ref 0,.int (1 + (a:Int)),.int m] S2=.ok (Q7 tb) S3:=by rw [show (1 + (a:Int))=((1 + a:Nat):Int) by omega]; exact e3
 have up:∀ t k,bM t<=bM (t + k):=fun t k=>by
  induction k with
  | zero=>exact Int.le_refl _
  | succ k ih=>have:=Q40 (t + k); have:=Q8k (t + k); rw [show t + (k + 1)=t + k + 1 by omega]; omega
 refine ⟨1 + a,tb,by omega,⟨I.w,I.c,I.b.up ?_⟩,?_⟩
 ·have:=up m (8 - m); rwa [show m + (8 - m)=8 by omega] at this
 have step:zk [some (.fro (ns.map .int)),none,none] []=.rt (Q7 tb) S3:=
  Qm (Γ1:=[some (.fro (ns.map .int)),some (.ref 0),none]) (Jb (Qu (n:=2) (Q5 rfl (Q5 rfl rfl)) rfl e0)) (Qm (Γ1:=[some (.fro (ns.map .int)),some (.ref 0),some (.int (1 + (a:Int)))]) (Jb (Qe rfl (Qu (n:=2) (Q5 rfl (Q5 rfl rfl)) rfl e1) (Q5z S1 _ _))) (Vu (Qu (n:=3) (Q5 rfl (Q5 rfl (Q5 (Qu (n:=2) (Q5 rfl (Q5 rfl rfl)) rfl e2) rfl))) rfl e3)))
 refine (Yn step).trans ?_;exact Q53 (st:=[]) (more:=S3) (by simp [Zi,Q7,Qy])
def stD:List (Key × PV):=[(.inr "now",.ref 0),(.inr "last",.ref 1),(.inr "letters",.ref 2)]
structure LS (s:RS) (S:Q2):Prop where
 now:S[0]?=some (.lst (s.now.map Q7))
 last:S[1]?=some (.lst (s.last.map Q7))
 le:S[2]?=some (.lst (s.le.map Q7))
 st:S[3]?=some (.dic stD)
theorem LS.of {s:RS} {S S':Q2} (h:LS s S) (e:∀ t,t < 4->S'[t]?=S[t]?):LS s S':=
 ⟨by rw [e 0 (by decide)]; exact h.now,by rw [e 1 (by decide)]; exact h.last,by rw [e 2 (by decide)]; exact h.le,by rw [e 3 (by decide)]; exact h.st⟩
theorem LS.mv {s:RS} {S S':Q2} {L:Nat} (h:LS s S) (M:Mv L S S') (hL:4<=L):LS s S':=h.of fun t ht=>M.keep t (by omega)
theorem Qeb:¬ ((.inr (Str.ofString "now"):Key)=.inr (Str.ofString "last")):=by decide +kernel
theorem Qgx:¬ ((.inr (Str.ofString "now"):Key)=.inr (Str.ofString "letters")):=by decide +kernel
theorem Qec:¬ ((.inr (Str.ofString "last"):Key)=.inr (Str.ofString "letters")):=by decide +kernel
theorem Qty:Q20 stD (.inr "now")=some (.ref 0):=by simp [Q20,stD]
theorem Qqy:Q20 stD (.inr "last")=some (.ref 1):=by
 unfold Q20 stD;rw [List.find?_cons_of_neg (by simpa using Qeb)];simp
theorem Qtz:Q20 stD (.inr "letters")=some (.ref 2):=by
 unfold Q20 stD;rw [List.find?_cons_of_neg (by simpa using Qgx),List.find?_cons_of_neg (by simpa using Qec)];simp
theorem Qkk {S:Q2} {i:Nat} {kvs:List (Key × PV)} (h:S[i]?=some (.dic kvs)) {x:Str} {v:PV} (e:Q20 kvs (.inr x)=some v):Q5d S (.ref i) (.str x)=.ok v S:=by
 have h1:Qab S (.ref i)=some kvs:=by unfold Qab; simp only [h]
 unfold Q5d;rw [h1];show (match Q20 kvs (.inr x) with | some v=>Res.ok v S | none=>.stuck)=_
 rw [e]
section
variable {s:RS} {S:Q2}
theorem LS.gn (h:LS s S):Q5d S (.ref 3) (.str "now")=.ok (.ref 0) S:=Qkk h.st Qty
theorem LS.gl (h:LS s S):Q5d S (.ref 3) (.str "last")=.ok (.ref 1) S:=Qkk h.st Qqy
theorem LS.ge (h:LS s S):Q5d S (.ref 3) (.str "letters")=.ok (.ref 2) S:=Qkk h.st Qtz
theorem Q2e {k i:Nat} {xs:List Tab} (h:S[k]?=some (.lst (xs.map Q7))) (hi:i < xs.length):oIx S (.ref k) (.int i)=.ok (Q7 (xs.getD i [])) S:=by
 have hV:ListAt S (.ref k) (xs.map Q7):=.inr (.inr ⟨k,rfl,h⟩);rw [hV.ix,K5,Sm.atI_get (getD_some hi [])]; rfl
theorem Q60 {k i:Nat} {xs:List Tab} (h:S[k]?=some (.lst (xs.map Q7))) (hi:i < xs.length) (t:Tab):Q0q S (.ref k) (.int i) (Q7 t)=some (S.set k (.lst ((xs.set i t).map Q7))):=by
 have e:ixN (xs.map Q7).length (i:Int)=some i:=by
  rw [O2];unfold ixN;rw [if_pos (by omega),if_pos (by omega)]; simp
 unfold Q0q;simp only [h,e];rw [List.map_set]; rfl
end
theorem Qm4 {n:Nat} {s:RS} {S:Q2} (h:LS s S) (r:RI n s) {x:Dx} (o:x.ok n s) (hl:s.le.length < 100000):∃ S',qm [.ref 3,x.V] S=.ok (Q5y s x) S'/\LS (Yf n s x) S'/\S'.length=S.length/\∀ t,3<=t->S'[t]?=S[t]?:=by
 have b0:=(O1.mp h.now).1;have b1:=(O1.mp h.last).1;have b2:=(O1.mp h.le).1;have upd0:∀ xs:List Tab,LS ⟨xs,s.last,s.le⟩ (S.set 0 (.lst (xs.map Q7))):=fun xs=>⟨E2 b0,by rw [O5 (by decide)]; exact h.last,by rw [O5 (by decide)]; exact h.le,by rw [O5 (by decide)]; exact h.st⟩
 have ext:∀ (k:Nat) (c:Cell),k < 3->∀ t,3<=t->(S.set k c)[t]?=S[t]?:=fun k c hk t ht=>O5 (by omega)
 have fg:∀ (k:Nat) (c:Cell),fin S (.str "done") (S.set k c)=.ok (.str "done") (S.set k c):=fun k c=>Q52 D5 rfl
 cases x with
 | own d=>
  have hh:=Dd.ok_h o;have hi:d.h < s.now.length:=by rw [r.ln]; exact hh
  have w:=r.wn d.h hh;have h8:=w.n8;have ix:=Q2e h.now hi;have er:=Q30 w.sz (by omega) hh S;have en:Yp S [.ref 0]=.ok (.int n) S:=by
   have hV:ListAt S (.ref 0) (s.now.map Q7):=.inr (.inr ⟨0,rfl,h.now⟩);rw [hV.len,O2,r.ln]
  have ea:=Q0c w.sz (by omega) hh (Dd.ok_pl o) d.k S;have es:=Q60 h.now hi (d.put n (s.now.getD d.h []));have key:∀ (wd:Str) (pl:PV),oIx S d.V (.int 0)=.ok (.str wd) S->¬ wd = "keep" -> ¬ wd = "fall" -> ¬ wd = "send" -> ¬ wd = "come" -> (wd = "make" <-> d.isM=true)->oIx S d.V (.int 2)=.ok pl S->Q58 "make" "use" "lend" (.int d.h) (.int n) pl S (.str wd)=.ok (.int (d.pl n)) S ->
    Wa [some (.ref 3),some d.V,none,none,none,none] S=(if d.fits (s.now.getD d.h [])=true then .rt (.str "done") (S.set 0 (.lst ((s.now.set d.h (d.put n (s.now.getD d.h []))).map Q7))) else .rt (.int (Qr (s.now.getD d.h []) d.h)) S):=by
   intro wd pl a0 k1 k2 k3 k4 km a2 pk;refine Qm (Γ1:=[some (.ref 3),some d.V,some (.ref 0),none,none,none]) (Jb (jg rfl rfl h.gn)) ?_;have g1:∀ Γ4 Γ5:Option PV,∀ u:Str,¬ wd=u->toB (mOp oEq (mOp oIx (Q4 1) (mC (.int 0))) (mC (.str u))) [some (.ref 3),some d.V,some (.ref 0),none,Γ4,Γ5] S=.ok false S:=fun Γ4 Γ5 u hu=>J3 (Qe (Qe rfl rfl a0) rfl (Kx S hu))
   have c1:Je 3 (mOp oIx (Q4 1) (mC (.int 1))) [some (.ref 3),some d.V,some (.ref 0),none,none,none] S=.nx [some (.ref 3),some d.V,some (.ref 0),some (.int d.h),none,none] S:=Jb (Qe rfl rfl (Dd.a1 d S));have c2:Je 4 (Qf 2 Zj (Q3 (mOp oIx (Q4 2) (Q4 3)) (Q3 (Q4 3) Q9))) [some (.ref 3),some d.V,some (.ref 0),some (.int d.h),none,none] S=.nx [some (.ref 3),some d.V,some (.ref 0),some (.int d.h),some (.int (Qr (s.now.getD d.h []) d.h)),none] S:=Jb (Qu (n:=2) (Q5 (Qe rfl rfl ix) (Q5 rfl rfl)) rfl er);have al:mOp oIx (Q4 1) (Q4s (mC (.int 1))) [some (.ref 3),some d.V,some (.ref 0),some (.int d.h),some (.int (Qr (s.now.getD d.h []) d.h)),none] S=.ok (.int d.k) S:=Qe rfl rfl (Dd.al d S);have cond:Q0d (toB (mOp oNe (mOp oIx (Q4 1) (mC (.int 0))) (mC (.str "make")))) (toB (mOp oLt (Q4 4) (mOp oIx (Q4 1) (Q4s (mC (.int 1)))))) [some (.ref 3),some d.V,some (.ref 0),some (.int d.h),some (.int (Qr (s.now.getD d.h []) d.h)),none] S=.ok (!d.fits (s.now.getD d.h [])) S:=by
    unfold Dd.fits;cases hm:d.isM with
    | true=>
     have hw:=km.mpr hm;rw [Bool.true_or,Bool.not_true];exact Qm7 (J3 (Qe (Qe rfl rfl a0) rfl (show oNe S (.str wd) (.str "make")=.ok (.bl false) S by rw [hw]; simp)))
    | false=>
     have hw:¬ wd = "make" := fun z=>by rw [km.mp z] at hm; cases hm
     refine (Qdn (J3 (Qe (Qe rfl rfl a0) rfl (show oNe S (.str wd) (.str "make")=.ok (.bl true) S by simp [hw]))) ?_)
     by_cases q:d.k<=Qr (s.now.getD d.h []) d.h
     ·rw [decide_eq_true q];exact J3 (Qe rfl al (Qa5 S (by omega)))
     ·rw [decide_eq_false q];exact J3 (Qe rfl al (Q7t S (by omega)))
   by_cases q:d.fits (s.now.getD d.h [])=true
   ·rw [if_pos q];rw [q] at cond;have c3:Je 5 (Qcy "make" "use" "lend" (Q4 3) (J5 Yp (Q3 (Q4 2) Q9)) (mOp oIx (Q4 1) (mC (.int 2))) (mOp oIx (Q4 1) (mC (.int 0)))) [some (.ref 3),some d.V,some (.ref 0),some (.int d.h),some (.int (Qr (s.now.getD d.h []) d.h)),none] S=.nx [some (.ref 3),some d.V,some (.ref 0),some (.int d.h),some (.int (Qr (s.now.getD d.h []) d.h)),some (.int (d.pl n))] S:=by
     refine Jb ?_;rw [Qjx,show Q4 3 [some (PV.ref 3),some d.V,some (.ref 0),some (.int d.h),some (.int (Qr (s.now.getD d.h []) d.h)),none] S=.ok (.int d.h) S from rfl,J4,Up (Q5 (m:=Q4 2) (p:=.ref 0) rfl rfl) en,J4,Qe rfl rfl a2,J4,Qe rfl rfl a0,J4,pk]
    have c4:Q03 (Q4 2) (Q4 3) (Qf 4 Y0 (Q3 (mOp oIx (Q4 2) (Q4 3)) (Q3 (Q4 3) (Q3 (Q4 5) (Q3 (mOp oIx (Q4 1) (Q4s (mC (.int 1)))) Q9))))) [some (.ref 3),some d.V,some (.ref 0),some (.int d.h),some (.int (Qr (s.now.getD d.h []) d.h)),some (.int (d.pl n))] S=.nx [some (.ref 3),some d.V,some (.ref 0),some (.int d.h),some (.int (Qr (s.now.getD d.h []) d.h)),some (.int (d.pl n))] (S.set 0 (.lst ((s.now.set d.h (d.put n (s.now.getD d.h []))).map Q7))):=
     Q6p (Qu (n:=4) (Q5 (Qe rfl rfl ix) (Q5 rfl (Q5 rfl (Q5 (Qe rfl rfl (Dd.al d S)) rfl)))) rfl ea) rfl rfl es
    exact Qm (Wq (g1 none none _ k1) (Wq (g1 none none _ k2) (Wq (g1 none none _ k3) (Wq (g1 none none _ k4) (Qm c1 (Qm c2 (Qm (Wq cond rfl) (Qm c3 c4)))))))) rfl
   ·rw [if_neg q];rw [Bool.not_eq_true] at q;rw [q] at cond;exact qt (Wq (g1 none none _ k1) (Wq (g1 none none _ k2) (Wq (g1 none none _ k3) (Wq (g1 none none _ k4) (Qm c1 (Qm c2 (qt (y0 cond rfl))))))))
  have fin1:Wa [some (.ref 3),some d.V,none,none,none,none] S=(if d.fits (s.now.getD d.h [])=true then .rt (.str "done") (S.set 0 (.lst ((s.now.set d.h (d.put n (s.now.getD d.h []))).map Q7))) else .rt (.int (Qr (s.now.getD d.h []) d.h)) S):=by
   cases d with
   | mk hh k=>exact key "make" (.int k) rfl Jr Js Jq Jt ⟨fun _=>rfl,fun _=>rfl⟩ rfl (by rw [Q4e,if_pos rfl]; rfl)
   | ld hh q k=>exact key "lend" (.int q) rfl Jv Jw Ju Jx ⟨fun z=>absurd z Jd,fun z=>by cases z⟩ rfl (by rw [Q4e,if_neg Jd,if_neg Zw,if_pos rfl]; rfl)
   | us hh k=>exact key "use" (.int k) rfl Zt Zu Zr Zv ⟨fun z=>absurd z Jy,fun z=>by cases z⟩ rfl (by rw [Q4e,if_neg Jy,if_pos rfl]; rfl)
  by_cases q:d.fits (s.now.getD d.h [])=true
  ·rw [if_pos q] at fin1;have z1:Q5y s (.own d)=.str "done" := if_pos q;have z2:Yf n s (.own d)=⟨s.now.set d.h (d.put n (s.now.getD d.h [])),s.last,s.le⟩:=if_pos q;rw [z1,z2];exact ⟨_,(Yn fin1).trans (fg _ _),upd0 _,D5,ext 0 _ (by decide)⟩
  ·rw [if_neg q] at fin1;have z1:Q5y s (.own d)=.int (Qr (s.now.getD d.h []) d.h):=if_neg q;have z2:Yf n s (.own d)=s:=if_neg q;rw [z1,z2];exact ⟨S,(Yn fin1).trans (Qfu S _),h,rfl,fun _ _=>rfl⟩
 | kp i=>
  have hi:i < n:=o;have k:Wa [some (.ref 3),some (Dx.kp i).V,none,none,none,none] S=.rt (.str "done") (S.set 1 (.lst ((s.last.set i (s.now.getD i [])).map Q7))):=
   Qm (Γ1:=[some (.ref 3),some (Dx.kp i).V,some (.ref 0),none,none,none]) (Jb (jg rfl rfl h.gn)) (Qm (y0 (J3 (Qe (Qe rfl rfl rfl) rfl (Q3v S _))) (Q6p (Qe rfl (Qe rfl rfl rfl) (Q2e h.now (by rw [r.ln]; exact hi))) (jg rfl rfl h.gl) (Qe rfl rfl rfl) (Q60 h.last (by rw [r.ll]; exact hi) _))) rfl)
  exact ⟨_,(Yn k).trans (fg _ _),⟨by rw [O5 (by decide)]; exact h.now,E2 b1,by rw [O5 (by decide)]; exact h.le,by rw [O5 (by decide)]; exact h.st⟩,D5,ext 1 _ (by decide)⟩
 | fl i=>
  have hi:i < n:=o;have k:Wa [some (.ref 3),some (Dx.fl i).V,none,none,none,none] S=.rt (.str "done") (S.set 0 (.lst ((s.now.set i (s.last.getD i [])).map Q7))):=
   Qm (Γ1:=[some (.ref 3),some (Dx.fl i).V,some (.ref 0),none,none,none]) (Jb (jg rfl rfl h.gn)) (Qm (Wq (J3 (Qe (Qe rfl rfl rfl) rfl (Kx S Jh))) (y0 (J3 (Qe (Qe rfl rfl rfl) rfl (Q3v S _))) (Q6p (Qe (jg rfl rfl h.gl) (Qe rfl rfl rfl) (Q2e h.last (by rw [r.ll]; exact hi))) rfl (Qe rfl rfl rfl) (Q60 h.now (by rw [r.ln]; exact hi) _)))) rfl)
  exact ⟨_,(Yn k).trans (fg _ _),upd0 _,D5,ext 0 _ (by decide)⟩
 | sd i=>
  have hi:i < n:=o;have k:Wa [some (.ref 3),some (Dx.sd i).V,none,none,none,none] S=.rt (.str "done") (S.set 2 (.lst (s.le.map Q7 ++ [Q7 (s.last.getD i [])]))):=
   Qm (Γ1:=[some (.ref 3),some (Dx.sd i).V,some (.ref 0),none,none,none]) (Jb (jg rfl rfl h.gn)) (Qm (Wq (J3 (Qe (Qe rfl rfl rfl) rfl (Kx S Jf))) (Wq (J3 (Qe (Qe rfl rfl rfl) rfl (Kx S Jg))) (y0 (J3 (Qe (Qe rfl rfl rfl) rfl (Q3v S _)))
    (Q56 (jg rfl rfl h.ge) (Uk h.le) (Q5 (Qe (jg rfl rfl h.gl) (Qe rfl rfl rfl) (Q2e h.last (by rw [r.ll]; exact hi))) rfl) (Q1y h.le (by rw [O2]; omega) _))))) rfl)
  refine ⟨_,(Yn k).trans (fg _ _),⟨by rw [O5 (by decide)]; exact h.now,by rw [O5 (by decide)]; exact h.last,?_,by rw [O5 (by decide)]; exact h.st⟩,D5,ext 2 _ (by decide)⟩;rw [E2 b2];show _=some (Cell.lst ((s.le ++ [s.last.getD i []]).map Q7));rw [F3]; rfl
 | cm l i=>
  obtain ⟨hl0,hi⟩:=o;have wN:=r.wn i hi;have hm:s.le.getD l []∈s.le:=D2 (getD_some hl0 []);have wL:=r.we _ hm;have h8:=wN.n8;have ej:=Qf0 (a:=s.now.getD i []) (b:=s.le.getD l []) (by rw [wN.len,wL.len]) (by rw [wN.len]; omega) (fun q hq=>by rw [wN.row q hq]; omega) S;have k:Wa [some (.ref 3),some (Dx.cm l i).V,none,none,none,none] S=.rt (.str "done") (S.set 0 (.lst ((s.now.set i (Wp (s.now.getD i []) (s.le.getD l []))).map Q7))):=
   Qm (Γ1:=[some (.ref 3),some (Dx.cm l i).V,some (.ref 0),none,none,none]) (Jb (jg rfl rfl h.gn)) (Qm (Wq (J3 (Qe (Qe rfl rfl rfl) rfl (Kx S Jj))) (Wq (J3 (Qe (Qe rfl rfl rfl) rfl (Kx S Jk))) (Wq (J3 (Qe (Qe rfl rfl rfl) rfl (Kx S Ji))) (y0 (J3 (Qe (Qe rfl rfl rfl) rfl (Q3v S _)))
    (Q6p (Qu (n:=2) (Q5 (Qe rfl (Qe rfl rfl rfl) (Q2e h.now (by rw [r.ln]; exact hi))) (Q5 (Qe (jg rfl rfl h.ge) (Qe rfl rfl rfl) (Q2e h.le hl0)) rfl)) rfl ej) rfl (Qe rfl rfl rfl) (Q60 h.now (by rw [r.ln]; exact hi) _)))))) rfl)
  exact ⟨_,(Yn k).trans (fg _ _),upd0 _,D5,ext 0 _ (by decide)⟩
structure RB (n:Nat) (M:Int) (s:RS):Prop where
 now:∀ i,i < n->Bd n M (s.now.getD i [])
 last:∀ i,i < n->Bd n M (s.last.getD i [])
 le:∀ L∈s.le,Bd n M L
def Dx.kb (M:Int):Dx->Prop
 | .own d=>d.k<=9 * M
 | _=>True
theorem RB.up {n:Nat} {M K:Int} {s:RS} (b:RB n M s) (h:M<=K):RB n K s:=⟨fun i hi=>(b.now i hi).up h,fun i hi=>(b.last i hi).up h,fun L hL=>(b.le L hL).up h⟩
theorem RB.step {n t:Nat} {s:RS} (b:RB n (bM t) s) (r:RI n s) {x:Dx} (o:x.ok n s) (k:x.kb (bM t)):RB n (bM (t + 1)) (Yf n s x):=by
 have g:=Q8k t;have hM:bM t<=bM (t + 1):=by rw [Q40]; omega
 have u:=b.up hM;have one:∀ {xs:List Tab} {h:Nat} {v:Tab},xs.length=n->h < n->(∀ i,i < n->Bd n (bM (t + 1)) (xs.getD i []))->Bd n (bM (t + 1)) v->∀ i,i < n->Bd n (bM (t + 1)) ((xs.set h v).getD i []):=fun {xs h v} hl hh ha hv i hi=>by
  rw [Zm (by omega)]
  split
  ·exact hv
  ·exact ha i hi
 cases x with
 | own d=>
  have hh:=Dd.ok_h o
  by_cases q:d.fits (s.now.getD d.h [])=true
  ·have z2:Yf n s (.own d)=⟨s.now.set d.h (d.put n (s.now.getD d.h [])),s.last,s.le⟩:=if_pos q;rw [z2];have k:d.k<=9 * bM t:=k;exact ⟨one r.ln hh u.now ((b.now _ hh).put (r.wn _ hh) o (by rw [Q40]; omega)),u.last,u.le⟩
  ·have z2:Yf n s (.own d)=s:=if_neg q;rw [z2]; exact u
 | kp i=>exact ⟨u.now,one r.ll o u.last (u.now i o),u.le⟩
 | fl i=>exact ⟨one r.ln o u.now (u.last i o),u.last,u.le⟩
 | sd i=>
  refine ⟨u.now,u.last,fun L hL=>?_⟩;rcases E9.mp hL with h | h
  ·exact u.le L h
  ·rw [List.mem_singleton.mp h]; exact u.last i o
 | cm l i=>
  obtain ⟨hl0,hh⟩:=o;have hm:s.le.getD l []∈s.le:=D2 (getD_some hl0 []);refine ⟨one r.ln hh u.now ⟨fun a j ha hj=>?_⟩,u.last,u.le⟩;rw [Q3w (r.wn i hh).sz (r.we _ hm).sz ha hj];have h1:=(u.now i hh).le a j ha hj;have h2:=(u.le _ hm).le a j ha hj;rcases Qfj (ent (s.now.getD i []) a j) (ent (s.le.getD l []) a j) with e | e
  ·rw [e]; exact h1
  ·rw [e]; exact h2
theorem Qvk {S:Q2} {k:Nat} {xs:List Tab} (h:S[k]?=some (.lst (xs.map Q7))) (hx:xs≠[]):oEq S (.ref k) (.lst [])=.ok (.bl false) S:=by
 have g:Zi dep (.lst (xs.map Q7))=true:=by
  simp [dep,Zi,Q7,Qy]
 cases xs with
 | nil=>exact absurd rfl hx
 | cons a xs=>
  have g2:Zi dep (.lst [])=true:=rfl;have hp:peq (.lst (Q7 a :: xs.map Q7)) (.lst [])=false:=by rw [peq]; rfl
  simp only [F2] at h g;simp [oEq,der,h,g,g2,hp]
abbrev drG (L:Nat) (c2 c3 c4 c5 c6:Option PV):Gam:=[some (.ref L),some (.ref 3),c2,c3,c4,c5,c6]
theorem Qi3 {n t L:Nat} {s:RS} {S:Q2} (h:LS s S) (r:RI n s) (b:RB n (bM t) s) (ht:t<=60) (T:Tp S L) (hL:4<=L) (hle:s.le.length < 90) (h1:1<=n) (h8:n<=8) :
  ∃ (x:Dx) (S':Q2),x.ok n s/\x.kb (bM t)/\Tp S' L/\Mv L S S'/\U6 [.ref L,.ref 3] S=.ok x.V S':=by
 have en:Yp S [.ref 0]=.ok (.int n) S:=by
  have hV:ListAt S (.ref 0) (s.now.map Q7):=.inr (.inr ⟨0,rfl,h.now⟩);rw [hV.len,O2,r.ln]
 obtain ⟨i,S1,hi,T1,M1,e1⟩:=Yw T n h1 (by omega);obtain ⟨y,S2,hy,T2,M2,e2⟩:=Yw T1 12 (by decide) (by decide);have e2:Qi [.ref L,.int 12] S1=.ok (.int y) S2:=e2;have M12:=M1.trans M2;have l2:=h.mv M12 hL;have w:=r.wn i hi;have e3:=Q30 w.sz (by omega) hi S2;have ix:=Q2e l2.now (show i < s.now.length by rw [r.ln]; exact hi);obtain ⟨v,hv⟩:∃ v:Nat,(if Qr (s.now.getD i []) i > 0 then Qr (s.now.getD i []) i else 0)=(v:Int):=⟨(if Qr (s.now.getD i []) i > 0 then Qr (s.now.getD i []) i else 0).toNat,by split <;> omega⟩;have g:=Q8k t;have hvb:(v:Int)<=8 * bM t:=by
  have:=Q4b w (b.now i hi) (by omega) hi;rw [<- hv]; split <;> omega
 have hbl:=Qqv (t:=t) ht;have hvN:v + 2 < 2 ^ 8000:=Qex (by
  have:((v + 2:Nat):Int) < 10 ^ 100:=by omega
  exact_mod_cast this)
 obtain ⟨z,S3,hz,T3,M3,e4⟩:=Q1z T2 (v + 2) (by omega) hvN;have e4:Qi [.ref L,.int ((v:Int) + 2)] S2=.ok (.int z) S3:=e4;have M123:=M12.trans M3;have l3:=h.mv M123 hL;have em:Q8h S2 [.int 0,.int (Qr (s.now.getD i []) i)]=.ok (.int v) S2:=by rw [Qdg,hv]
 have k1:Je 2 (J5 Yp (Q3 (Wf (Q4 1) (mC (.str "now"))) Q9)) (drG L none none none none none) S=.nx (drG L (some (.int n)) none none none none) S:=Jb (Up (Q5 (jg rfl rfl h.gn) rfl) en);have k2:Je 3 (Qf 2 Qi (Q3 (Q4 0) (Q3 (Q4 2) Q9))) (drG L (some (.int n)) none none none none) S=.nx (drG L (some (.int n)) (some (.int i)) none none none) S1:=Jb (Qu (n:=2) (Q5 rfl (Q5 rfl rfl)) rfl e1);have k3:Je 4 (Qf 2 Qi (Q3 (Q4 0) (Q3 (mC (.int 12)) Q9))) (drG L (some (.int n)) (some (.int i)) none none none) S1=.nx (drG L (some (.int n)) (some (.int i)) (some (.int y)) none none) S2:=Jb (Qu (n:=2) (Q5 rfl (Q5 rfl rfl)) rfl e2);have k4:Je 5 (J5 Q8h (Q3 (mC (.int 0)) (Q3 (Qf 2 Zj (Q3 (mOp oIx (Wf (Q4 1) (mC (.str "now"))) (Q4 3)) (Q3 (Q4 3) Q9))) Q9))) (drG L (some (.int n)) (some (.int i)) (some (.int y)) none none) S2=.nx (drG L (some (.int n)) (some (.int i)) (some (.int y)) (some (.int v)) none) S2:=Jb (Up (Q5 rfl (Q5 (Qu (n:=2) (Q5 (Qe (jg rfl rfl l2.gn) rfl ix) (Q5 rfl rfl)) rfl e3) rfl)) em)
 obtain ⟨G,hG⟩:∃ G,drG L (some (.int n)) (some (.int i)) (some (.int y)) (some (.int v)) (some (.int (1 + (z:Int))))=G:=⟨_,rfl⟩;have k5:Je 6 (mOp We (mC (.int 1)) (Qf 2 Qi (Q3 (Q4 0) (Q3 (mOp We (Q4 5) (mC (.int 2))) Q9)))) (drG L (some (.int n)) (some (.int i)) (some (.int y)) (some (.int v)) none) S2=.nx G S3:=by
  rw [<- hG];exact Jb (Qe rfl (Qu (n:=2) (Q5 rfl (Q5 (Qe rfl rfl (Q5z S2 _ _)) rfl)) rfl e4) (Q5z S3 _ _))
 have v0:Q4 0 G S3=.ok (.ref L) S3:=by rw [<- hG]; rfl
 have v1:Q4 1 G S3=.ok (.ref 3) S3:=by rw [<- hG]; rfl
 have v2:∀ S,Q4 2 G S=.ok (.int n) S:=fun S=>by rw [<- hG]; rfl
 have v3:∀ S,Q4 3 G S=.ok (.int i) S:=fun S=>by rw [<- hG]; rfl
 have v4:Q4 4 G S3=.ok (.int y) S3:=by rw [<- hG]; rfl
 have v6:∀ S,Q4 6 G S=.ok (.int (1 + (z:Int))) S:=fun S=>by rw [<- hG]; rfl
 have fg:∀ {S':Q2} (x:Dx),Mv L S S'->fin S x.V S'=.ok x.V S':=fun {S'} x M=>Q52 M.len (by cases x with | own d=>cases d <;> rfl | _=>rfl)
 have fini:∀ (x:Dx) (S':Q2),Mv L S S'->_->U6 [.ref L,.ref 3] S=.ok x.V S':=fun x S' M (q:_=SR.rt x.V S')=>(Yn (m:=zi) (nl:=7) (ps:=[.ref L,.ref 3]) (Qm k1 (Qm k2 (Qm k3 (Qm k4 (Qm k5 q)))))).trans (fg x M)
 by_cases q0:y=0
 ·obtain ⟨k,S4,hk,T4,M4,e5⟩:=Qdp T3;refine ⟨.own (.mk i k),S4,⟨hi,hk.1⟩,?_,T4,M123.trans M4,fini _ _ (M123.trans M4) (qt (y0 (J3 (Qe v4 rfl (Q88 S3 (by omega)))) (Vu (Kg (Q5 rfl (Q5 (v3 S3) (Q5 (Qu (n:=1) (Q5 v0 rfl) rfl e5) rfl))) (by simp)))))⟩;show k<=9 * bM t;omega
 have t0:Ye (toB (mOp oEq (Q4 4) (mC (.int 0)))) (Jp (Xn (Q3 (mC (.str "make")) (Q3 (Q4 3) (Q3 (Qf 1 Ww (Q3 (Q4 0) Q9)) Q9))))) Zy G S3=.nx G S3:=Wq (J3 (Qe v4 rfl (Q89 S3 (by omega)))) rfl
 by_cases q1:y < 4/\1 < n
 ·obtain ⟨u,S4,hu,T4,M4,e5⟩:=Yw T3 (n - 1) (by omega) (by omega);have e5:Qi [.ref L,.int ((n:Int) - 1)] S3=.ok (.int u) S4:=by rw [show ((n:Int) - 1)=((n - 1:Nat):Int) by omega]; exact e5
  obtain ⟨j,ej,hj,hne⟩:=Qff hi hu;refine ⟨.own (.ld i j (1 + (z:Int))),S4,⟨hi,hj,hne,by omega⟩,?_,T4,M123.trans M4,fini _ _ (M123.trans M4) (Qm t0 (qt (y0 (Qdn (J3 (Qe v4 rfl (Q7t S3 (by omega)))) (J3 (Qe (v2 S3) rfl (Qqq S3 (by omega))))) (Vu (Kg (Q5 rfl (Q5 (v3 S3) (Q5 (Qe (Qe (Qe (v3 S3) rfl (Q5z S3 _ _)) (Qu (n:=2) (Q5 v0 (Q5 (Qe (v2 S3) rfl (Qmk S3 _ _)) rfl)) rfl e5) (Q5z S4 _ _)) (v2 S4) (by rw [Qsh S4 (by omega),ej])) (Q5 (v6 S4) rfl)))) (by simp))))))⟩;show 1 + (z:Int)<=9 * bM t;omega
 have t1:Ye (Q0d (toB (mOp oLt (Q4 4) (mC (.int 4)))) (toB (mOp (oI fun a b=>.bl (decide (b < a))) (Q4 2) (mC (.int 1))))) (Jp (Xn (Q3 (mC (.str "lend")) (Q3 (Q4 3) (Q3 (mOp Q3g (mOp We (mOp We (Q4 3) (mC (.int 1))) (Qf 2 Qi (Q3 (Q4 0) (Q3 (mOp (oI fun a b=>.int (a - b)) (Q4 2) (mC (.int 1))) Q9)))) (Q4 2)) (Q3 (Q4 6) Q9)))))) Zy G S3=.nx G S3:=by
  refine Wq ?_ rfl
  by_cases q2:y < 4
  ·exact Qdn (J3 (Qe v4 rfl (Q7t S3 (by omega)))) (J3 (Qe (v2 S3) rfl (Qqr S3 (by omega))))
  ·exact Qm7 (J3 (Qe v4 rfl (Qa5 S3 (by omega))))
 by_cases q2:y < 6
 ·refine ⟨.own (.us i (1 + (z:Int))),S3,⟨hi,by omega⟩,?_,T3,M123,fini _ _ M123 (Qm t0 (Qm t1 (qt (y0 (J3 (Qe v4 rfl (Q7t S3 (by omega)))) (Vu (Kg (Q5 rfl (Q5 (v3 S3) (Q5 (v6 S3) rfl))) (by simp)))))))⟩;show 1 + (z:Int)<=9 * bM t;omega
 have t2:Ye (toB (mOp oLt (Q4 4) (mC (.int 6)))) (Jp (Xn (Q3 (mC (.str "use")) (Q3 (Q4 3) (Q3 (Q4 6) Q9))))) Zy G S3=.nx G S3:=Wq (J3 (Qe v4 rfl (Qa5 S3 (by omega)))) rfl
 by_cases q3:y < 8
 ·obtain ⟨u,S4,hu,T4,M4,e5⟩:=Yw T3 3 (by decide) (by decide);have e5:Qi [.ref L,.int 3] S3=.ok (.int u) S4:=e5;have lst0:Q3p (Q3 (mC (.str "keep")) (Q3 (mC (.str "fall")) Q9)) G S3=.ok (.lst [.str "keep",.str "fall"]) S3:=Qbr rfl;have dig:Qf 2 Qi (Q3 (Q4 0) (Q3 (mC (.int 3)) Q9)) G S3=.ok (.int u) S4:=Qu (n:=2) (Q5 v0 (Q5 rfl rfl)) rfl e5
  by_cases qu:u=0
  ·refine ⟨.fl i,S4,hi,trivial,T4,M123.trans M4,fini _ _ (M123.trans M4) (Qm t0 (Qm t1 (Qm t2 (qt (y0 (J3 (Qe v4 rfl (Q7t S3 (by omega)))) (Vu (Kg (Q5 (Qe lst0 (Up (Q5 (Qe dig rfl (Q88 S4 (by omega))) rfl) rfl) rfl) (Q5 (v3 S4) rfl)) (by simp))))))))⟩
  ·refine ⟨.kp i,S4,hi,trivial,T4,M123.trans M4,fini _ _ (M123.trans M4) (Qm t0 (Qm t1 (Qm t2 (qt (y0 (J3 (Qe v4 rfl (Q7t S3 (by omega)))) (Vu (Kg (Q5 (Qe lst0 (Up (Q5 (Qe dig rfl (Q89 S4 (by omega))) rfl) rfl) rfl) (Q5 (v3 S4) rfl)) (by simp))))))))⟩
 have t3:∀ X,Ye (toB (mOp oLt (Q4 4) (mC (.int 8)))) X Zy G S3=.nx G S3:=fun X=>Wq (J3 (Qe v4 rfl (Qa5 S3 (by omega)))) rfl
 have ed:Wf (Q4 1) (mC (.str "letters")) G S3=.ok (.ref 2) S3:=jg v1 rfl l3.ge
 by_cases q4:y=8\/s.le=[]
 ·refine ⟨.sd i,S3,hi,trivial,T3,M123,fini _ _ M123 (Qm t0 (Qm t1 (Qm t2 (Qm (t3 _) (qt (y0 ?_ (Vu (Kg (Q5 rfl (Q5 (v3 S3) rfl)) (by simp)))))))))⟩
  by_cases q5:y=8
  ·exact Qv1 (J3 (Qe v4 rfl (Q88 S3 (by omega))))
  ·have hz:s.le=[]:=q4.resolve_left q5;have hV:ListAt S3 (.ref 2) []:=.inr (.inr ⟨2,rfl,by rw [l3.le,hz]; rfl⟩);exact Qb2 (J3 (Qe v4 rfl (Q89 S3 (by omega)))) (J3 (Qe ed rfl (hV.eqs rfl).2.2.2))
 ·have hne:s.le≠[]:=fun z=>q4 (.inr z)
  have hl1:1<=s.le.length:=by cases hs:s.le with | nil=>exact absurd hs hne | cons a b=>simp
  obtain ⟨u,S4,hu,T4,M4,e5⟩:=Yw T3 s.le.length hl1 (by omega);have hV:ListAt S3 (.ref 2) (s.le.map Q7):=.inr (.inr ⟨2,rfl,l3.le⟩);have el:Yp S3 [.ref 2]=.ok (.int s.le.length) S3:=by rw [hV.len,O2]
  have ne:oEq S3 (.ref 2) (.lst [])=.ok (.bl false) S3:=Qvk l3.le hne;have t4:Ye (Q0m (toB (mOp oEq (Q4 4) (mC (.int 8)))) (toB (mOp oEq (Wf (Q4 1) (mC (.str "letters"))) (Q3p Q9)))) (Jp (Xn (Q3 (mC (.str "send")) (Q3 (Q4 3) Q9)))) Zy G S3=.nx G S3:=Wq (Qb2 (J3 (Qe v4 rfl (Q89 S3 (by omega)))) (J3 (Qe ed rfl ne))) rfl;exact ⟨.cm u i,S4,⟨hu,hi⟩,trivial,T4,M123.trans M4,fini _ _ (M123.trans M4) (Qm t0 (Qm t1 (Qm t2 (Qm (t3 _) (Qm t4 (Vu (Kg (Q5 rfl (Q5 (Qu (n:=2) (Q5 v0 (Q5 (Up (Q5 ed rfl) el) rfl)) rfl e5) (Q5 (v3 S4) rfl))) (by simp))))))))⟩
theorem Qdm (xs:List PV) (v:PV):atI (xs ++ [v]) (-1)=some v:=by
 have e:ixN (xs ++ [v]).length (-1)=some xs.length:=by
  rw [O8];unfold ixN;rw [if_neg (by omega),if_pos (by simp; omega)];simp; omega
 unfold atI;rw [e];simp
structure AI (n:Nat) (tb:Tab) (xs:List Dx) (S:Q2):Prop where
 ok:OkL n (s0 n tb) xs
 ls:LS (Ue n (s0 n tb) xs) S
 de:S[4]?=some (.lst (xs.map Dx.V))
 an:S[5]?=some (.lst (jk n (s0 n tb) xs))
 rb:RB n (bM (8 + xs.length)) (Ue n (s0 n tb) xs)
 len:6<=S.length
abbrev apG (ns:List Int) (m:Nat) (tb:Tab) (c7 c8 c9:Option PV):Gam:=[some (.fro (ns.map .int)),some (.int 1),some (.int m),some (Q7 tb),some (.ref 3),some (.ref 4),some (.ref 5),c7,c8,c9]
theorem Qt8 {n:Nat} {tb:Tab} (w:Wt' n tb) {xs:List Dx} {S:Q2} {L:Nat} (I:AI n tb xs S) (T:Tp S L) (hL:6<=L) (hx:xs.length<=45) (ns:List Int) (m:Nat) (c7 c9:Option PV):∃ (x:Dx) (S':Q2),K0 (apG ns m tb c7 (some (.ref L)) c9) S=.nx (apG ns m tb c7 (some (.ref L)) c9) S'/\AI n tb (xs ++ [x]) S'/\Tp S' L:=by
 have r:=(RI.start w).run I.ok;have hle:=Qep n xs (s0 n tb);have hle0:(s0 n tb).le.length=0:=rfl;obtain ⟨x,S1,ox,kx,T1,M1,e1⟩:=Qi3 I.ls r I.rb (by omega) T (by omega) (by omega) w.n1 w.n8;have l1:=I.ls.mv M1 (by omega);have d1:S1[4]?=some (.lst (xs.map Dx.V)):=by rw [M1.keep 4 (by omega)]; exact I.de
 have a1:S1[5]?=some (.lst (jk n (s0 n tb) xs)):=by rw [M1.keep 5 (by omega)]; exact I.an
 have b4:=(O1.mp d1).1;have b5:=(O1.mp a1).1;have ap1:=Q1y d1 (by rw [O2]; omega) x.V;obtain ⟨S2,hS2⟩:∃ S2,S1.set 4 (.lst (xs.map Dx.V ++ [x.V]))=S2:=⟨_,rfl⟩;rw [hS2] at ap1;have d2:S2[4]?=some (.lst (xs.map Dx.V ++ [x.V])):=by rw [<- hS2]; exact E2 b4
 have k2:∀ t,t≠4->S2[t]?=S1[t]?:=fun t ht=>by rw [<- hS2]; exact O5 (by omega)
 have l2:LS (Ue n (s0 n tb) xs) S2:=l1.of fun t ht=>k2 t (by omega)
 have a2:S2[5]?=some (.lst (jk n (s0 n tb) xs)):=by rw [k2 5 (by omega)]; exact a1
 obtain ⟨S3,e2,l3,len3,k3⟩:=Qm4 l2 r ox (by omega);have a3:S3[5]?=some (.lst (jk n (s0 n tb) xs)):=by rw [k3 5 (by omega)]; exact a2
 have b53:=(O1.mp a3).1;have hV:ListAt S2 (.ref 4) (xs.map Dx.V ++ [x.V]):=.inr (.inr ⟨4,rfl,d2⟩);have ix:oIx S2 (.ref 4) (.int (-1))=.ok x.V S2:=by rw [hV.ix,Qdm]; rfl
 have ap2:=Q1y a3 (by rw [Q6b]; omega) (Q5y (Ue n (s0 n tb) xs) x);have er:Ue n (s0 n tb) (xs ++ [x])=Yf n (Ue n (s0 n tb) xs) x:=by rw [Qay]; rfl
 have ea:jk n (s0 n tb) (xs ++ [x])=jk n (s0 n tb) xs ++ [Q5y (Ue n (s0 n tb) xs) x]:=by rw [Qbt]; rfl
 refine ⟨x,_,Qm (Q56 (p:=.ref 4) rfl (Uk I.de) (Q5 (Qu (n:=2) (Q5 rfl (Q5 rfl rfl)) rfl e1) rfl) ap1) (Q56 (p:=.ref 5) rfl (Uk a2) (Q5 (Qu (n:=2) (Q5 rfl (Q5 (Qe rfl rfl ix) rfl)) rfl e2) rfl) ap2),⟨?_,?_,?_,?_,?_,?_⟩,?_⟩
 ·exact (Qb3 n xs [x] _).mpr ⟨I.ok,ox,trivial⟩
 ·rw [er]; exact l3.of fun t ht=>O5 (by omega)
 ·rw [O5 (by decide),k3 4 (by decide),d2,F3]; rfl
 ·rw [ea,E2 b53]
 ·rw [er,O8]; exact I.rb.step r ox kx
 ·rw [D5,len3,<- hS2,D5,M1.len]; exact I.len
 ·obtain ⟨c,hc⟩:=T1;exact ⟨c,by rw [O5 (by omega),k3 L (by omega),k2 L (by omega)]; exact hc⟩
theorem Qt9 {n:Nat} {tb:Tab} (w:Wt' n tb) {xs:List Dx} {S:Q2} (I:AI n tb xs S) (hx:xs.length<=40) (ns:List Int) (m k:Nat) (c8 c9:Option PV):∃ (ys:List Dx) (S':Q2) (d8 d9:Option PV),ys.length=xs.length + 3/\K1 (apG ns m tb (some (.int (1 + (k:Int)))) c8 c9) S=.nx (apG ns m tb (some (.int (1 + (k:Int)))) d8 d9) S'/\AI n tb ys S':=by
 obtain ⟨c,e0⟩:=Qdj ns (1 + k) S;rw [show ((1 + k:Nat):Int)=1 + (k:Int) by omega] at e0;obtain ⟨S1,hS1⟩:∃ S1,S ++ [Cell.lst [.int c]]=S1:=⟨_,rfl⟩;rw [hS1] at e0;have T1:Tp S1 S.length:=⟨c,by rw [<- hS1]; simp⟩;have hl:=I.len;have k1:∀ t,t < 6->S1[t]?=S[t]?:=fun t ht=>by rw [<- hS1,O6 (by omega)]
 have I1:AI n tb xs S1:=⟨I.ok,I.ls.of fun t ht=>k1 t (by omega),by rw [k1 4 (by decide)]; exact I.de,by rw [k1 5 (by decide)]; exact I.an,I.rb,by rw [<- hS1,O8]; omega⟩;obtain ⟨Γ',S',e,ys,c9',hys,rfl,I',_⟩:=Q1c (g:=fun k:Nat=>PV.int (k:Int)) (xs:=List.range 3) (ga:=Qn 9) (body:=K0) (w:=[]) (Γ:=apG ns m tb (some (.int (1 + (k:Int)))) (some (.ref S.length)) c9) (st:=S1)
  (fun j Γ st=>∃ ys c9',ys.length=xs.length + j/\Γ=apG ns m tb (some (.int (1 + (k:Int)))) (some (.ref S.length)) c9'/\AI n tb ys st/\Tp st S.length) (fun _ _ _ _=>by simp)
  (fun j x Γ st hj ⟨ys,c9',hys,hΓ,I,T⟩=>by
   subst hΓ;have hj3:j < 3:=by simpa using (O1.mp hj).1
   obtain ⟨y,S',e,I',T'⟩:=Qt8 w I T hl (by omega) ns m (some (.int (1 + (k:Int)))) (some (.int x));exact ⟨_,rfl,_,_,e,ys ++ [y],_,by rw [O8,hys]; rfl,rfl,I',T'⟩)
  ⟨xs,_,rfl,rfl,I1,T1⟩
 rw [<- Uy] at e;have hrg:Ys (Q3 (mC (.int 3)) Q9) (apG ns m tb (some (.int (1 + (k:Int)))) (some (.ref S.length)) c9) S1=.ok (Ya 0 3,[]) S1:=by
  rw [Xw,Q5 (m:=mC (.int 3)) (p:=.int 3) (S1:=S1) rfl (show Q9 _ S1=.ok [] S1 from rfl),J4];exact if_pos (by rw [Zh]; omega)
 exact ⟨ys,S',_,_,hys,Qm (Γ1:=apG ns m tb (some (.int (1 + (k:Int)))) (some (.ref S.length)) c9) (Jb (Qu (n:=2) (Q5 rfl (Q5 rfl rfl)) rfl e0)) (Q50 hrg e),I'⟩
theorem Qi1 {n:Nat} {tb:Tab} (w:Wt' n tb):U5 [Q7 tb] []=.ok (.ref 3) [.lst ((List.replicate n tb).map Q7),.lst ((List.replicate n tb).map Q7),.lst [],.dic stD]:=by
 have h8:=w.n8;have hm:((List.range n).map fun _=>Q7 tb)=(List.replicate n tb).map Q7:=by
  rw [List.map_replicate];exact List.eq_replicate_iff.mpr ⟨by simp,fun b hb=>by obtain ⟨_,_,rfl⟩:=List.mem_map.mp hb; rfl⟩
 have hrg:∀ S:Q2,Ys (Q3 (J5 Yp (Q3 (Q4 0) Q9)) Q9) [some (Q7 tb)] S=.ok (Ya 0 n,[]) S:=fun S=>by
  have hlen:Yp S [Q7 tb]=.ok (.int n) S:=by simp [Q7,w.len]
  rw [Xw,Q5 (Up (Q5 (m:=Q4 0) (p:=Q7 tb) (S1:=S) rfl (show Q9 _ S=.ok [] S from rfl)) hlen) (show Q9 _ S=.ok [] S from rfl),J4];show (if -(lim:Int)<=(n:Int)/\(n:Int)<=lim then _ else _)=_;rw [if_pos (by rw [Zh]; omega),Int.toNat_natCast]
 have hc1:∀ S:Q2,Z0 (Qn 0) Zn Q0g [] (Zk [none,some 0] [some (Q7 tb)]) (Ya 0 n) S=.ok ((List.replicate n tb).map Q7) S:=fun S=>by
  rw [Uy,<- hm];exact Yx _ _ (by simp) fun j hj=>⟨_,rfl,rfl⟩
 have hc2:∀ S:Q2,Z0 (Qn 0) Zn Q0f [] (Zk [none,some 0] [some (Q7 tb)]) (Ya 0 n) S=.ok ((List.replicate n tb).map Q7) S:=fun S=>by
  rw [Uy,<- hm];exact Yx _ _ (by simp) fun j hj=>⟨_,rfl,rfl⟩
 have step:zg [some (Q7 tb)] []=.rt (.ref 3) [.lst ((List.replicate n tb).map Q7),.lst ((List.replicate n tb).map Q7),.lst [],.dic stD]:=by
  refine Vu ?_;rw [Qh4,yh (qk (hrg _) (hc1 _)),J4,yh (qk (hrg _) (hc2 _)),J4,yh (ps:=[]) rfl,J4];rfl
 exact yd step
theorem Qey {n:Nat} {tb:Tab} (I0:TbI n 8 tb) (ns:List Int) (m:Nat) (hm:m<=13):∃ (xs:List Dx) (S':Q2),xs.length=3 * m/\AI n tb xs S'/\Vn [.fro (ns.map .int),.int 1,.int m,Q7 tb] []=.ok (.tup [.ref 4,.ref 5,.ref 3]) S':=by
 have w:=I0.w;have e0:=Qi1 w;obtain ⟨A,hA⟩:∃ A,[Cell.lst ((List.replicate n tb).map Q7),.lst ((List.replicate n tb).map Q7),.lst [],.dic stD]=A:=⟨_,rfl⟩;have A6:A ++ [Cell.lst []] ++ [Cell.lst []]=[Cell.lst ((List.replicate n tb).map Q7),.lst ((List.replicate n tb).map Q7),.lst [],.dic stD,.lst [],.lst []]:=by rw [<- hA]; rfl
 have IA:AI n tb [] (A ++ [Cell.lst []] ++ [Cell.lst []]):=by
  rw [A6];refine ⟨trivial,⟨rfl,rfl,rfl,rfl⟩,rfl,rfl,?_,O7 6⟩;have e:∀ i,i < n->(List.replicate n tb).getD i []=tb:=fun i hi=>Q6y hi
  refine ⟨fun i hi=>?_,fun i hi=>?_,fun L hL=>absurd hL List.not_mem_nil⟩
  ·show Bd n (bM 8) ((List.replicate n tb).getD i []); rw [e i hi]; exact I0.b
  ·show Bd n (bM 8) ((List.replicate n tb).getD i []); rw [e i hi]; exact I0.b
 rw [hA] at e0;have lA:A.length=4:=by rw [<- hA]; rfl
 obtain ⟨Γ',S',e,xs,c7,c8,c9,hxs,rfl,I⟩:=Q1c (g:=fun k:Nat=>PV.int (1 + (k:Int))) (xs:=List.range m) (ga:=Qn 7) (body:=K1) (w:=[]) (Γ:=apG ns m tb none none none) (st:=A ++ [Cell.lst []] ++ [Cell.lst []])
  (fun j Γ st=>∃ xs c7 c8 c9,xs.length=3 * j/\Γ=apG ns m tb c7 c8 c9/\AI n tb xs st) (fun _ _ _ _=>by simp)
  (fun j x Γ st hj ⟨xs,c7,c8,c9,hxs,hΓ,I⟩=>by
   subst hΓ;have hjm:j < m:=by simpa using (O1.mp hj).1
   obtain ⟨ys,S',d8,d9,hys,e,I'⟩:=Qt9 w I (by omega) ns m x c8 c9;exact ⟨_,rfl,_,_,e,ys,_,_,_,by omega,rfl,I'⟩)
  ⟨[],_,_,_,rfl,rfl,IA⟩
 rw [G6] at hxs;have hrg:Q3n (Q3 (Q4 1) (Q3 (mOp We (Q4 1) (Q4 2)) Q9)) (apG ns m tb none none none) (A ++ [Cell.lst []] ++ [Cell.lst []])=.ok ((List.range m).map fun k:Nat=>PV.int (1 + (k:Int)),[]) (A ++ [Cell.lst []] ++ [Cell.lst []]):=by
  rw [Qeh,Q5 (m:=Q4 1) (p:=.int 1) rfl (Q5 (Qe (a:=Q4 1) (b:=Q4 2) (x:=.int 1) (y:=.int m) rfl rfl (Q5z _ _ _)) (show Q9 _ _=.ok [] _ from rfl)),J4];show (if -(lim:Int)<=1/\1<=(lim:Int)/\-(lim:Int)<=1 + (m:Int)/\1 + (m:Int)<=lim then _ else _)=_;rw [if_pos (by rw [Zh]; omega),show (1 + (m:Int) - 1).toNat=m by omega]; rfl
 refine ⟨xs,S',hxs,I,?_⟩;have s1:Je 4 (Qf 1 U5 (Q3 (Q4 3) Q9)) [some (.fro (ns.map .int)),some (.int 1),some (.int m),some (Q7 tb),none,none,none,none,none,none] []=.nx [some (.fro (ns.map .int)),some (.int 1),some (.int m),some (Q7 tb),some (.ref 3),none,none,none,none,none] A:=Jb (Qu (n:=1) (Q5 rfl rfl) rfl e0);have s2:Je 5 (Q0i (jq Q9)) [some (.fro (ns.map .int)),some (.int 1),some (.int m),some (Q7 tb),some (.ref 3),none,none,none,none,none] A=.nx [some (.fro (ns.map .int)),some (.int 1),some (.int m),some (Q7 tb),some (.ref 3),some (.ref 4),none,none,none,none] (A ++ [.lst []]):=(Jb (yh (ps:=[]) (S1:=A) rfl)).trans (by rw [lA]; rfl);have s3:Je 6 (Q0i (jq Q9)) [some (.fro (ns.map .int)),some (.int 1),some (.int m),some (Q7 tb),some (.ref 3),some (.ref 4),none,none,none,none] (A ++ [.lst []])=.nx (apG ns m tb none none none) (A ++ [.lst []] ++ [.lst []]):=(Jb (yh (ps:=[]) (S1:=A ++ [.lst []]) rfl)).trans (by rw [O8,lA]; rfl)
 exact yd (m:=jb) (nl:=10) (Qm s1 (Qm s2 (Qm s3 (Qm (Q50 hrg e) (Vu (Kg (Q5 rfl (Q5 rfl (Q5 rfl rfl))) (by simp)))))))
theorem eq2 {st:Q2} {V W:PV} {xs:List PV} (h:ListAt st V xs) (k:ListAt st W xs) (g:Zi dep (.lst xs)=true):oEq st V W=.ok (.bl true) st:=by
 have hp:Kq xs xs=true:=by have:=Q0x g; rwa [peq] at this
 have g2:Zi dep (.fro xs)=true:=g;rcases h with rfl | rfl | ⟨i,rfl,e⟩ <;> rcases k with rfl | rfl | ⟨j,rfl,f⟩
 ·simp [oEq,der,g,peq,hp]
 ·simp [oEq,der,g,g2,peq,hp]
 ·simp [oEq,der,g,g2,peq,hp,f]
 ·simp [oEq,der,g,g2,peq,hp]
 ·simp [oEq,der,g,g2,peq,hp]
 ·simp [oEq,der,g,g2,peq,hp,f]
 ·simp [oEq,der,g,g2,peq,hp,e]
 ·simp [oEq,der,g,g2,peq,hp,e]
 ·simp [oEq,der,g,g2,peq,hp,e,f]
theorem Qi5 (xs:List PV):Q31 xs xs=xs.map fun a=>.tup [a,a]:=by
 induction xs with
 | nil=>rfl
 | cons x xs ih=>rw [Q31,ih]; rfl
def SI (v:PV):Prop:=(∃ x,v=.str x)\/∃ k,v=.int k
theorem Qm6 (n:Nat):∀ (xs:List Dx) (s:RS),∀ v∈jk n s xs,SI v
 | [],_,v,h=>absurd h List.not_mem_nil
 | x :: xs,s,v,h=>by
  rcases E3.mp h with h | h
  ·rw [h];cases x with
   | own d=>
    by_cases q:d.fits (s.now.getD d.h [])=true
    ·exact .inl ⟨_,if_pos q⟩
    ·exact .inr ⟨_,if_neg q⟩
   | _=>exact .inl ⟨_,rfl⟩
  ·exact Qm6 n xs _ v h
theorem Q05 {T:String} {m:ME} {Γ:Gam} {S:Q2} {p:PV} {b:Bool} (h1:m Γ S=.ok p S) (h2:y3 S p=false) (h3:isI T (dpv S p)=b):Q2u T m Γ S=.ok (.bl b) S:=by
 rw [Qpa,h1,J4,h2,h3]; rfl
theorem Qf6 {a b:ME} {Γ:Gam} {S:Q2} {r:Res PV} (h1:a Γ S=.ok (.bl true) S) (h2:b Γ S=r):Q4t a b Γ S=r:=by
 rw [Qpe,h1,J4,h2]; rfl
theorem Q55 {S:Q2} {P Q:Nat} {AV TV:PV} {an:List PV} {ts:List Tab} (hP:S[P]?=some (.lst an)) (hQ:S[Q]?=some (.lst (ts.map Q7))) (hA:ListAt S AV an) (hT:ListAt S TV (ts.map Q7)) (hs:∀ v∈an,SI v) (hl:an.length<=1000):Ym [.tup [.ref P,.ref Q],AV,TV] S=.ok (.bl true) S:=by
 have LP:ListAt S (.ref P) an:=.inr (.inr ⟨P,rfl,hP⟩);have LQ:ListAt S (.ref Q) (ts.map Q7):=.inr (.inr ⟨Q,rfl,hQ⟩);have g1:Zi dep (.lst an)=true:=by
  show an.all _=true;rw [F7];intro v hv;rcases hs v hv with ⟨x,rfl⟩ | ⟨k,rfl⟩ <;> rfl
 have g2:Zi dep (.lst (ts.map Q7))=true:=by simp [dep,Zi,Q7,Qy]
 obtain ⟨w1,s1,o1⟩:=LP.src;obtain ⟨w2,s2,o2⟩:=hA.src;obtain ⟨G,hG⟩:∃ G:Option PV->Option PV->Gam,G=fun c3 c4=>[some (.tup [.ref P,.ref Q]),some AV,some TV,c3,c4]:=⟨_,rfl⟩
 obtain ⟨Γ',S',e,⟨c3,c4,rfl⟩,rfl⟩:=Q1c (g:=fun a:PV=>PV.tup [a,a]) (xs:=an) (ga:=K9 (Zx (Qn 3) (Zx (Qn 4) Ka))) (body:=Q0h) (w:=w1 ++ w2) (Γ:=[some (.tup [.ref P,.ref Q]),some AV,some TV,none,none]) (st:=S)
  (fun _ Γ st=>(∃ c3 c4,Γ=[some (.tup [.ref P,.ref Q]),some AV,some TV,c3,c4])/\st=S) (fun _ _ st ⟨_,h⟩=>by
   rw [h];exact fun x hx=>(E9.mp hx).elim (o1 x) (o2 x))
  (fun i a Γ st hi ⟨⟨c3,c4,hΓ⟩,hst⟩=>by
   subst hΓ; subst hst;refine ⟨_,rfl,_,_,Wq ?_ rfl,⟨_,_,rfl⟩,rfl⟩;rcases hs a (D2 hi) with ⟨x,rfl⟩ | ⟨k,rfl⟩
   ·exact Qb2 (J3 (Qe (Q05 (b:=true) rfl rfl rfl) (Q05 (b:=true) rfl rfl rfl) rfl)) (J3 (Q05 rfl rfl rfl))
   ·exact Qb2 (J3 (Qe (Q05 (b:=false) rfl rfl rfl) (Q05 (b:=false) rfl rfl rfl) rfl)) (J3 (Q05 rfl rfl rfl)))
  ⟨⟨_,_,rfl⟩,rfl⟩
 rw [<- Qi5] at e;have f0:∀ (c3 c4:Option PV),mOp oIx (Q4 0) (mC (.int 0)) [some (.tup [.ref P,.ref Q]),some AV,some TV,c3,c4] S'=.ok (.ref P) S':=fun _ _=>rfl
 have f1:∀ (c3 c4:Option PV),mOp oIx (Q4 0) (mC (.int 1)) [some (.tup [.ref P,.ref Q]),some AV,some TV,c3,c4] S'=.ok (.ref Q) S':=fun _ _=>rfl
 have frP:y3 S' (.ref P)=false:=by unfold y3; simp only [hP]
 have frQ:y3 S' (.ref Q)=false:=by unfold y3; simp only [hQ]
 have liP:isI "list" (dpv S' (.ref P))=true:=by unfold dpv; simp only [hP]; rfl
 have liQ:isI "list" (dpv S' (.ref Q))=true:=by unfold dpv; simp only [hQ]; rfl
 have hz:Q5v (Q3 (mOp oIx (Q4 0) (mC (.int 0))) (Q3 (Q4 1) Q9)) [some (.tup [.ref P,.ref Q]),some AV,some TV,none,none] S'=.ok (Q31 an an,w1 ++ w2) S':=by
  rw [Qp4,Q5 (f0 none none) (Q5 (m:=Q4 1) (p:=AV) (S1:=S') rfl (show Q9 _ S'=.ok [] S' from rfl)),J4];simp only [s1,s2];exact if_pos (by rw [Zh]; omega)
 have step:zh [some (.tup [.ref P,.ref Q]),some AV,some TV,none,none] S'=.rt (.bl true) S':=
  Qm (Wq (Qb2 (Q4n (J3 (Q05 (b:=true) rfl rfl rfl))) (Qb2 (J3 (Qe (Up (Q5 rfl rfl) rfl) rfl rfl)) (Q4n (J3 (Q05 (f0 none none) frP liP))))) rfl) (Qm (Q50 hz e) (Vu (Qf6 (Qe (f0 _ _) rfl (eq2 LP hA g1)) (Qf6 (Q05 (f1 _ _) frQ liQ) (Qe (f1 _ _) rfl (eq2 LQ hT g2))))))
 exact (Yn step).trans (Qkb S' true)
theorem Qkr {mo:ME} {Γ:Gam} {S:Q2} {i:Nat} {xs:List PV} (h1:mo Γ S=.ok (.ref i) S) (h2:S[i]?=some (.lst xs)):W2 (Qej mo) Γ S=.nx Γ (S.set i (.lst [])):=by
 refine Q07 (v:=.non) ?_;unfold Qej;rw [h1,J4];simp only [h2]
theorem Qpj (C:Addr):∀ ns:List Int,ns.length<=63->∃ st',Qqw C [.fro (ns.map .int)] []=.ok (.bl true) st':=by
 intro ns hns;obtain ⟨n,tb,hn,I0,e1⟩:=Qi4 ns;have w:=I0.w;have c:=I0.c;obtain ⟨m,hm,em⟩:∃ m:Nat,m<=13/\(if (if (ns.length:Int) - 1 < 13 then (ns.length:Int) - 1 else 13) > 4 then (if (ns.length:Int) - 1 < 13 then (ns.length:Int) - 1 else 13) else 4)=(m:Int):=by
  refine ⟨(if (if (ns.length:Int) - 1 < 13 then (ns.length:Int) - 1 else 13) > 4 then (if (ns.length:Int) - 1 < 13 then (ns.length:Int) - 1 else 13) else 4).toNat,?_,?_⟩ <;> split <;> split <;> omega
 obtain ⟨xs,S1,hxs,A,e2⟩:=Qey I0 ns m hm;have hxl:xs.length<=1000:=by omega
 have si:=Qm6 n xs (s0 n tb);have al:(jk n (s0 n tb) xs).length<=1000:=by rw [Q6b]; exact hxl
 have gd:Zi dep (.lst (xs.map Dx.V))=true:=by
  show (xs.map Dx.V).all _=true;rw [F7];intro v hv;obtain ⟨x,_,rfl⟩:=List.mem_map.mp hv;cases x with
  | own d=>cases d <;> rfl
  | _=>rfl
 have l6:=A.len;obtain ⟨S2,e3,len2,old2,an2,tb2⟩:=Q4d (C:=C) (S:=S1) (DV:=.lst (xs.map Dx.V)) (xs:=xs) (wt:=[]) w c (fun st _=>⟨rfl,yg st⟩) hxl A.ok;have now2:S2[0]?=some (.lst ((Ue n (s0 n tb) xs).now.map Q7)):=by rw [old2 0 (by omega)]; exact A.ls.now
 have ans2:S2[5]?=some (.lst (jk n (s0 n tb) xs)):=by rw [old2 5 (by omega)]; exact A.an
 have de2:S2[4]?=some (.lst (xs.map Dx.V)):=by rw [old2 4 (by omega)]; exact A.de
 have ls2:LS (Ue n (s0 n tb) xs) S2:=A.ls.of fun t ht=>old2 t (by omega)
 have r2:=Q55 an2 tb2 (AV:=.ref 5) (TV:=.ref 0) (.inr (.inr ⟨5,rfl,ans2⟩)) (.inr (.inr ⟨0,rfl,now2⟩)) si al;have ne2:=(ListAt.eqs (st:=S2) (V:=.ref 4) (.inr (.inr ⟨4,rfl,de2⟩)) gd).1;obtain ⟨S3,hS3⟩:∃ S3,S2.set (S1.length + n + 1) (.lst [])=S3:=⟨_,rfl⟩;have t3:S3[S1.length + n + 2]?=some (.lst ((Ue n (s0 n tb) xs).now.map Q7)):=by rw [<- hS3,O5 (by omega)]; exact tb2
 obtain ⟨S4,hS4⟩:∃ S4,S3.set (S1.length + n + 2) (.lst [])=S4:=⟨_,rfl⟩;have len4:S4.length=S1.length + n + 3:=by rw [<- hS4,D5,<- hS3,D5,len2]
 have old4:∀ t,t < S1.length->S4[t]?=S1[t]?:=fun t ht=>by rw [<- hS4,O5 (by omega),<- hS3,O5 (by omega),old2 t ht]
 have de4:S4[4]?=some (.lst (xs.map Dx.V)):=by rw [old4 4 (by omega)]; exact A.de
 obtain ⟨S5,e5,len5,old5,an5,tb5⟩:=Q4d (C:=C) (S:=S4) (DV:=.ref 4) (xs:=xs) (wt:=[(4,.lst (xs.map Dx.V))]) w c (fun st hst=>by
  have q:st[4]?=some (.lst (xs.map Dx.V)):=by rw [hst 4 (by omega)]; exact de4
  refine ⟨?_,fun x hx=>?_⟩
  ·unfold Ut; simp only [q]
  ·rw [List.mem_singleton.mp hx]; exact q) hxl A.ok
 have old5':∀ t,t < S1.length->S5[t]?=S1[t]?:=fun t ht=>by rw [old5 t (by omega),old4 t ht]
 have ls5:LS (Ue n (s0 n tb) xs) S5:=A.ls.of fun t ht=>old5' t (by omega)
 have ans5:S5[5]?=some (.lst (jk n (s0 n tb) xs)):=by rw [old5' 5 (by omega)]; exact A.an
 have r5:=Q55 an5 tb5 (AV:=.ref 5) (TV:=.ref 0) (.inr (.inr ⟨5,rfl,ans5⟩)) (.inr (.inr ⟨0,rfl,ls5.now⟩)) si al;obtain ⟨S6,e6,len6,old6,an6,tb6⟩:=Q4d (C:=C) (S:=S5) (DV:=.lst []) (xs:=[]) (wt:=[]) w c (fun st _=>⟨rfl,yg st⟩) (by simp) trivial;have hm6:(tb.map fun _=>Q7 tb)=(List.replicate n tb).map Q7:=by
  rw [List.map_replicate];exact List.eq_replicate_iff.mpr ⟨by rw [O2,w.len],fun b hb=>by obtain ⟨_,_,rfl⟩:=List.mem_map.mp hb; rfl⟩
 have r6:=Q55 (AV:=.lst []) (TV:=.lst ((List.replicate n tb).map Q7)) an6 tb6 (.inl rfl) (.inl rfl) (fun v hv=>absurd hv List.not_mem_nil) (by simp [jk]);obtain ⟨G,hG⟩:∃ G:Gam,[some (PV.fro (ns.map .int)),some (Q7 tb),some (.ref 4),some (.ref 5),some (.ref 3),some (.lst (xs.map Dx.V)),some (.tup [.ref (S1.length + n + 1),.ref (S1.length + n + 2)])]=G:=⟨_,rfl⟩;have v1:∀ S,Q4 1 G S=.ok (Q7 tb) S:=fun S=>by rw [<- hG]; rfl
 have v2:∀ S,Q4 2 G S=.ok (.ref 4) S:=fun S=>by rw [<- hG]; rfl
 have v3:∀ S,Q4 3 G S=.ok (.ref 5) S:=fun S=>by rw [<- hG]; rfl
 have v4:∀ S,Q4 4 G S=.ok (.ref 3) S:=fun S=>by rw [<- hG]; rfl
 have v5:∀ S,Q4 5 G S=.ok (.lst (xs.map Dx.V)) S:=fun S=>by rw [<- hG]; rfl
 have v6:∀ S,Q4 6 G S=.ok (.tup [.ref (S1.length + n + 1),.ref (S1.length + n + 2)]) S:=fun S=>by rw [<- hG]; rfl
 have hc6:Z0 (Qn 0) Zn (Qbg C) [] (Zk [none,some 1] G) (tb.map Qy) S6=.ok ((List.replicate n tb).map Q7) S6:=by
  rw [<- hm6,<- hG];exact Yx _ _ (by simp) fun j hj=>⟨_,rfl,rfl⟩
 have sq6:zw (Q4 1) G S6=.ok (tb.map Qy,[]) S6:=Qf4 (v1 S6) rfl (by rw [O2,w.len]; omega);have emin:Qhv [] [.int 13,.int ((ns.length:Int) - 1)]=.ok (.int (if (ns.length:Int) - 1 < 13 then (ns.length:Int) - 1 else 13)) []:=Qkx _ _ _;have emax:Q8h [] [.int 4,.int (if (ns.length:Int) - 1 < 13 then (ns.length:Int) - 1 else 13)]=.ok (.int m) []:=by rw [Qdg,em]
 have ln:Yp [] [.fro (ns.map .int)]=.ok (.int ns.length) []:=by simp
 have hl1:Q1f S1 [.ref 4]=.ok (.lst (xs.map Dx.V)) S1:=(show ListAt S1 (.ref 4) (xs.map Dx.V) from .inr (.inr ⟨4,rfl,A.de⟩)).list;have k1:Je 1 (Qf 1 U7 (Q3 (Q4 0) Q9)) [some (.fro (ns.map .int)),none,none,none,none,none,none] []=.nx [some (.fro (ns.map .int)),some (Q7 tb),none,none,none,none,none] []:=Jb (Qu (n:=1) (Q5 rfl rfl) rfl e1);have k2:Qk0 (K9 (Zx (Qn 2) (Zx (Qn 3) (Zx (Qn 4) Ka)))) (Qf 4 Vn (Q3 (Q4 0) (Q3 (mC (.int 1)) (Q3 (J5 Q8h (Q3 (mC (.int 4)) (Q3 (J5 Qhv (Q3 (mC (.int 13)) (Q3 (mOp (oI fun a b=>.int (a - b)) (J5 Yp (Q3 (Q4 0) Q9)) (mC (.int 1))) Q9))) Q9))) (Q3 (Q4 1) Q9))))) [some (.fro (ns.map .int)),some (Q7 tb),none,none,none,none,none] []=.nx [some (.fro (ns.map .int)),some (Q7 tb),some (.ref 4),some (.ref 5),some (.ref 3),none,none] S1:=
  Qtb (Qu (n:=4) (Q5 rfl (Q5 rfl (Q5 (Up (Q5 rfl (Q5 (Up (Q5 rfl (Q5 (Qe (Up (Q5 rfl rfl) ln) rfl (Qmk [] _ _)) rfl)) emin) rfl)) emax) (Q5 rfl rfl)))) rfl e2) rfl
 have k3:Je 5 (J5 Q1f (Q3 (Q4 2) Q9)) [some (.fro (ns.map .int)),some (Q7 tb),some (.ref 4),some (.ref 5),some (.ref 3),none,none] S1=.nx [some (.fro (ns.map .int)),some (Q7 tb),some (.ref 4),some (.ref 5),some (.ref 3),some (.lst (xs.map Dx.V)),none] S1:=Jb (Up (Q5 rfl rfl) hl1);have k4:Je 6 (Qf 2 (Xc C) (Q3 (Q4 1) (Q3 (Q4 5) Q9))) [some (.fro (ns.map .int)),some (Q7 tb),some (.ref 4),some (.ref 5),some (.ref 3),some (.lst (xs.map Dx.V)),none] S1=.nx G S2:=by
  rw [<- hG];exact Jb (Qu (n:=2) (Q5 rfl (Q5 rfl rfl)) rfl e3)
 have k5:(Ye (Q0m (Vg (toB (Qf 3 Ym (Q3 (Q4 6) (Q3 (Q4 3) (Q3 (Wf (Q4 4) (mC (.str "now"))) Q9)))))) (toB (mOp oNe (Q4 5) (Q4 2)))) (Jp (mC (.bl false))) Zy) G S2=.nx G S2:=
  Wq (Qb2 (Q4n (J3 (Qu (n:=3) (Q5 (v6 S2) (Q5 (v3 S2) (Q5 (jg (v4 S2) rfl ls2.gn) rfl))) rfl r2))) (J3 (Qe (v5 S2) (v2 S2) ne2))) rfl
 have k6:W2 (Qej (mOp oIx (Q4 6) (mC (.int 0)))) G S2=.nx G S3:=by rw [<- hS3]; exact Qkr (Qe (v6 S2) rfl rfl) an2
 have k7:W2 (Qej (mOp oIx (Q4 6) (mC (.int 1)))) G S3=.nx G S4:=by rw [<- hS4]; exact Qkr (Qe (v6 S3) rfl rfl) t3
 have k8:(Ye (Vg (toB (Qf 3 Ym (Q3 (Qf 2 (Xc C) (Q3 (Q4 1) (Q3 (Q4 2) Q9))) (Q3 (Q4 3) (Q3 (Wf (Q4 4) (mC (.str "now"))) Q9)))))) (Jp (mC (.bl false))) Zy) G S4=.nx G S5:=
  Wq (Q4n (J3 (Qu (n:=3) (Q5 (Qu (n:=2) (Q5 (v1 S4) (Q5 (v2 S4) rfl)) rfl e5) (Q5 (v3 S5) (Q5 (jg (v4 S5) rfl ls5.gn) rfl))) rfl r5))) rfl
 have k9:Jp (Qf 3 Ym (Q3 (Qf 2 (Xc C) (Q3 (Q4 1) (Q3 (Q3p Q9) Q9))) (Q3 (Q3p Q9) (Q3 (Xv (Yb [none,some 1] (Qn 0) (zw (Q4 1)) Zn (Qbg C))) Q9)))) G S5=.rt (.bl true) S6:=
  Vu (Qu (n:=3) (Q5 (Qu (n:=2) (Q5 (v1 S5) (Q5 (Qbr (ps:=[]) rfl) rfl)) rfl e6) (Q5 (Qbr (ps:=[]) rfl) (Q5 (Q42 (qk sq6 hc6)) rfl))) rfl r6)
 have step:Qju C [some (.fro (ns.map .int)),none,none,none,none,none,none] []=.rt (.bl true) S6:=Qm k1 (Qm k2 (Qm k3 (Qm k4 (Qm k5 (Qm k6 (Qm k7 (Qm k8 k9)))))));exact ⟨[],(Yn step).trans (Q53 (st:=[]) (more:=S6) rfl)⟩
end Lw
namespace Lw
open PySem PySem.Spec L2 Sm
theorem all_mk {l:PySem.W.OpenLaw} {w:World} {K:PySem.W.Frag} {h:Heap} {mg:Str->Option Value} {fa f1 f2 f3 f4 f5 f6 f7 f8 f9 f10 f11 f12 f13 f14 f15 f16 f17 f18 f19 f20 f21 f22 f23 f24 f25 f26 f27 f28 f29 f30 f31 f32 f33 f34 f35 f36 f37 f38 f39 f40 f41 f42 f43 f44 f45 f46 f47 f48 f49 f50 f51 f52 f53 f54 f55 f56 f57 f58 f59:Addr} (X:K.In h) (G:h.Ns mainGlobals mg) (hfa:mg "law" = some (.ref fa))
  {od59 an59:Option Addr} {sl59:Array (Option Value)} {oc59 kV59 dc59 pm59 cd59 ct59:Value}
  {e_NoDeed e_NoHouse e_NoLetter e_NoTable:Addr}
  {eH:Addr}
  {t_MOST_HOUSES:Tok}
  {eW eS fI pd xN:Addr} {xnm xqn:Str} {xbs xsub:List Value} {xsn:List Str} {xab:Bool} {xcol:Option Bool} {xdd odI anI:Option Addr} {xk0 xk1 xk2 xk3 xk5:Option Value} {slI:Array (Option Value)} {kVI dcI pmI cdI ctI:Value} {pt1 pt2 pt3 pu1 pu2 pu3:Tok} {pep:Nat} {cdx:ClassData} {pdO:Addr} {qt1 qt2 qt3 qt4 qu1 qu2 qu3 qu4:Tok} {pepO:Nat}
  (aH:PySem.W.nsIn K mainGlobals "House" = some (some (.ref eH)))
  (Hpg:PySem.W.plainGet K eH Str.empty=true)
  (Hhd:PySem.W.hasDictIn K eH=true)
  (Hpo:PySem.W.plainOver K eH=true)
  (Hsa:PySem.W.findIn K (.ref eH) "__setattr__" = some (some (.builtin "object.__setattr__")))
  (Hmk:PySem.W.makesIn K eH=true)
  (Hkc:PySem.W.keepIn K (.ref eH)=true)
  (Hn_number:PySem.W.findIn K (.ref eH) "number" = some none)
  (Hn_now:PySem.W.findIn K (.ref eH) "now" = some none)
  (Hn_kept:PySem.W.findIn K (.ref eH) "kept" = some none)
  (a59:PySem.W.nsIn K mainGlobals "law" = some (some (.ref f59)))
  (l59:K.lookup f59=some ⟨oc59,od59,.func (PySem.W.fnOf "law" "law" (Wm Q38) (Yh Q38) (Q8 Q38) .none kV59 dc59 pm59 an59 cd59 ct59),sl59⟩)
  (c59:PySem.W.codeIn K cd59 "law" = true)
  (k59:PySem.W.keepIn K (.ref f59)=true)
  (al_rights_tables:PySem.W.nsIn K mainGlobals "rights_tables" = some (some (.ref f7)))
  (z_all:PySem.W.nsIn K mainGlobals "all" = some none)
  (z_any:PySem.W.nsIn K mainGlobals "any" = some none)
  (z_bool:PySem.W.nsIn K mainGlobals "bool" = some none)
  (z_int:PySem.W.nsIn K mainGlobals "int" = some none)
  (z_isinstance:PySem.W.nsIn K mainGlobals "isinstance" = some none)
  (z_len:PySem.W.nsIn K mainGlobals "len" = some none)
  (z_list:PySem.W.nsIn K mainGlobals "list" = some none)
  (z_max:PySem.W.nsIn K mainGlobals "max" = some none)
  (z_min:PySem.W.nsIn K mainGlobals "min" = some none)
  (z_range:PySem.W.nsIn K mainGlobals "range" = some none)
  (z_str:PySem.W.nsIn K mainGlobals "str" = some none)
  (z_sum:PySem.W.nsIn K mainGlobals "sum" = some none)
  (z_tuple:PySem.W.nsIn K mainGlobals "tuple" = some none)
  (z_zip:PySem.W.nsIn K mainGlobals "zip" = some none)
  (v_MOST_HOUSES:PySem.W.nsIn K mainGlobals "MOST_HOUSES" = some (some (.int 8 t_MOST_HOUSES)))
  (n_NoDeed:PySem.W.nsIn K mainGlobals "NoDeed" = some (some (.ref e_NoDeed)))
  (n_NoHouse:PySem.W.nsIn K mainGlobals "NoHouse" = some (some (.ref e_NoHouse)))
  (n_NoLetter:PySem.W.nsIn K mainGlobals "NoLetter" = some (some (.ref e_NoLetter)))
  (n_NoTable:PySem.W.nsIn K mainGlobals "NoTable" = some (some (.ref e_NoTable)))
  (nW:PySem.W.nsIn K mainGlobals "WharfError" = some (some (.ref eW)))
  (nS:PySem.W.nsIn K mainGlobals "Short" = some (some (.ref eS)))
  (xlk:K.lookup eS=some (excClassObj xnm xqn eS xN xbs (.ref eW :: Ui) true xsn xsub xab xcol xdd xk0 xk1 xk2 xk3 xk5 "ValueError.__new__"))
  (xfi:PySem.W.findIn K (.ref eS) "__init__" = some (some (.ref fI)))
  (li:K.lookup fI=some ⟨.type "function",odI,.func (PySem.W.fnOf "__init__" "Short.__init__" (Wm Q9u) (Yh Q9u) (Q8 Q9u) .none kVI dcI pmI anI cdI ctI),slI⟩)
  (ci:PySem.W.codeIn K cdI "Short.__init__" = true)
  (ki:PySem.W.keepIn K (.ref fI)=true)
  (xkp:PySem.W.keepIn K (.ref eS)=true)
  (xcga:PySem.W.specialIn K (.ref eW) "__getattribute__" = some (some (.builtin "type.__getattribute__")))
  (xcrd:PySem.W.readsIn K eW (.type "type")=true)
  (xcfc:PySem.W.findCls K (.ref eW) (.type "type") "__init__" = some (.val (.builtin "ValueError.__init__")))
  (xsa:PySem.W.findIn K (.ref eS) "__setattr__" = some (some (.builtin "object.__setattr__")))
  (xno:PySem.W.findIn K (.ref eS) "had" = some none)
  (xob:PySem.W.mroIn K eS (.type "object")=some true)
  (pns:PySem.W.nsIn K mainGlobals "PARTS_OF_DEED" = some (some (.ref pd)))
  (plk:K.lookup pd=some ⟨.type "dict",none,.dict #[⟨PyData.keyHash w.params "make",.str "make" pt1,.int 3 pu1⟩,⟨PyData.keyHash w.params "lend",.str "lend" pt2,.int 4 pu2⟩,⟨PyData.keyHash w.params "use",.str "use" pt3,.int 3 pu3⟩] pep,#[]⟩)
  (xcls:PySem.W.clsIn K eS=some cdx)
  (xga:PySem.W.findIn K (.ref eS) "__getattribute__" = some (some (.builtin "BaseException.__getattribute__")))
  (xgt:PySem.W.findIn K (.ref eS) "__getattr__" = some none)
  (xcl:PySem.W.findIn K (.ref eS) "__class__" = some (some (.builtin "object.__class__")))
  (xgs:PySem.W.specialIn K (.builtin "object.__class__") "__get__" = some (some (.builtin "getset_descriptor.__get__")))
  (xtk:PySem.W.takesIn K (.builtin "object.__class__")=some true)
  (xbe:PySem.W.mroIn K eS (.type "BaseException")=some true)
  (pnsO:PySem.W.nsIn K mainGlobals "PARTS_OF_OTHER_DEED" = some (some (.ref pdO)))
  (plkO:K.lookup pdO=some ⟨.type "dict",none,.dict #[⟨PyData.keyHash w.params "keep",.str "keep" qt1,.int 2 qu1⟩,⟨PyData.keyHash w.params "fall",.str "fall" qt2,.int 2 qu2⟩,⟨PyData.keyHash w.params "send",.str "send" qt3,.int 2 qu3⟩,⟨PyData.keyHash w.params "come",.str "come" qt4,.int 3 qu4⟩] pepO,#[]⟩)
  (h27:FM K eH "__init__" "House.__init__" Xr f27)
  (h28:FM K eH "make" "House.make" xh f28)
  (h29:FM K eH "lend" "House.lend" xi f29)
  (h30:FM K eH "use" "House.use" Q0v f30)
  (h31:FM K eH "keep" "House.keep" xj f31)
  (h32:FM K eH "fall" "House.fall" xk f32)
  (h33:FM K eH "letter" "House.letter" j6 f33)
  (h34:FM K eH "come" "House.come" xm f34)
  (h35:FM K eH "table" "House.table" zc f35)
  (h36:FM K eH "rights" "House.rights" j4 f36)
  (h37:FM K eH "used" "House.used" xg f37)
  (h1:FA K "_wall" Qax f1)
  (h2:FA K "is_whole" Q2h f2)
  (h3:FA K "is_between" yw f3)
  (h4:FA K "is_row" Q6w f4)
  (h5:FA K "is_table" Q2i f5)
  (h6:FA K "is_house" Q2j f6)
  (h7:FA K "rights" Q6s f7)
  (h8:FA K "need_as_many_houses" V8 f8)
  (h9:FA K "is_row_within" Km f9)
  (h10:FA K "joined_row" yu f10)
  (h11:FA K "joined" Q6v f11)
  (h12:FA K "is_text_and_numbers" V9 f12)
  (h13:FA K "is_deed" Q4a f13)
  (h14:FA K "need_houses_of_deed" V7 f14)
  (h15:FA K "place_in_row" qv f15)
  (h16:FA K "raised" Q6t f16)
  (h17:FA K "done" Qe1 f17)
  (h18:FA K "made_some" Q0t f18)
  (h19:FA K "lent_or_used_some" Vt f19)
  (h20:FA K "was_lent_some" Kj f20)
  (h21:FA K "has_root" Q2k f21)
  (h22:FA K "rooted_houses" Kk f22)
  (h23:FA K "rootless_houses" Uw f23)
  (h24:FA K "comes_about" jv f24)
  (h25:FA K "does_come_about" Ux f25)
  (h26:FA K "need_comes_about" Ud f26)
  (h38:FA K "is_other_deed" Kn f38)
  (h39:FA K "need_deed_of_run" Uc f39)
  (h40:FA K "do_own_deed" ju f40)
  (h41:FA K "do_other_deed" Kp f41)
  (h42:FA K "answer_to" Q0u f42)
  (h43:FA K "played" Q6u f43)
  (h44:FA K "_law_acell" x9 f44)
  (h45:FA K "_law_atape" yx f45)
  (h46:FA K "_law_adigit" z8 f46)
  (h47:FA K "_law_arights" qw f47)
  (h48:FA K "_law_abare" xb f48)
  (h49:FA K "_law_araised" qx f49)
  (h50:FA K "_law_ajoined" qz f50)
  (h51:FA K "_law_amuch" x8 f51)
  (h52:FA K "_law_atable" jw f52)
  (h53:FA K "_law_astart" jx f53)
  (h54:FA K "_law_astep" yy f54)
  (h55:FA K "_law_adrawn" jz f55)
  (h56:FA K "_law_aplayed" qy f56)
  (h57:FA K "_law_abegun" z9 f57)
  (h58:FA K "_law_aright" jy f58)
  (x_NoDeed:PySem.W.excIn K e_NoDeed Ui "ValueError.__new__" = true)
  (x_NoHouse:PySem.W.excIn K e_NoHouse Ui "ValueError.__new__" = true)
  (x_NoLetter:PySem.W.excIn K e_NoLetter Ui "ValueError.__new__" = true)
  (x_NoTable:PySem.W.excIn K e_NoTable Ui "ValueError.__new__" = true)
  (xw:PySem.W.excIn K eW Ui "ValueError.__new__" = true)
  (psm:(pd == sysModules)=false)
  (psmO:(pdO == sysModules)=false)
  (xes:PySem.W.exmOne K (.ref eS) (.ref eS)=some true)
  (hL:noL K=true) :
  ∃ fd:FuncData,(∀ (s:Shared) (v:Value),BindsTo s fd ⟨[v],[]⟩ [("script",v)])/\∀ base:Heap,K.In base->base.Ns mainGlobals mg->FnOk l.prog w K mg base (CXD l.prog w) 11 fa fd ["script"] (Qat K):=by
 have e:=hfa.symm.trans (PySem.W.mg_of X G a59);cases e;have T:Txt mg:=⟨PySem.W.mg_none_of X G z_all,PySem.W.mg_none_of X G z_any,PySem.W.mg_none_of X G z_bool,PySem.W.mg_none_of X G z_int,PySem.W.mg_none_of X G z_isinstance,PySem.W.mg_none_of X G z_len,PySem.W.mg_none_of X G z_list,PySem.W.mg_none_of X G z_max,PySem.W.mg_none_of X G z_min,PySem.W.mg_none_of X G z_range,PySem.W.mg_none_of X G z_str,PySem.W.mg_none_of X G z_sum,PySem.W.mg_none_of X G z_tuple,PySem.W.mg_none_of X G z_zip,⟨_,PySem.W.mg_of X G v_MOST_HOUSES⟩⟩;have C_NoDeed:∃ C,mg "NoDeed" = some (.ref C)/\PySem.W.excIn K C Ui "ValueError.__new__" = true:=⟨_,PySem.W.mg_of X G n_NoDeed,x_NoDeed⟩;have C_NoHouse:∃ C,mg "NoHouse" = some (.ref C)/\PySem.W.excIn K C Ui "ValueError.__new__" = true:=⟨_,PySem.W.mg_of X G n_NoHouse,x_NoHouse⟩;have C_NoLetter:∃ C,mg "NoLetter" = some (.ref C)/\PySem.W.excIn K C Ui "ValueError.__new__" = true:=⟨_,PySem.W.mg_of X G n_NoLetter,x_NoLetter⟩
 have C_NoTable:∃ C,mg "NoTable" = some (.ref C)/\PySem.W.excIn K C Ui "ValueError.__new__" = true:=⟨_,PySem.W.mg_of X G n_NoTable,x_NoTable⟩;have CD:∃ cd,PySem.W.clsIn K eS=some cd/\cd.mro=.ref eS :: .ref eW :: Ui/\cd.hasDict=true:=⟨_,by unfold PySem.W.clsIn; rw [xlk],rfl,rfl⟩;have OS:ShortOk K mg eW eS fI:=⟨PySem.W.mg_of X G nW,PySem.W.mg_of X G nS,⟨⟨_,_,_,_,_,_,_,_,_,_,_,_,_,_,xlk⟩,xw,xfi,⟨_,li,rfl⟩,xkp⟩,⟨xcga,xcrd,xcfc⟩,⟨xsa,xob,CD,xno⟩⟩;have FI:=Qer (x := "__init__") (qual := "Short.__init__") (st:=Q9u) li ci ki;have BI:=FI.binds (ps:=["self", "had"]) fun _ _ _ _ _ _ us hl=>match us,hl with | [_,_],_=>rfl
 have PK:PartsOk l.prog w K mg:=Qjf (PySem.W.mg_of X G pns) plk psm;have PO:PartsO l.prog w K mg:=Qgq (PySem.W.mg_of X G pnsO) plkO psmO;have XC:XCls K eS:=⟨show (PySem.W.clsIn K eS).isSome=true by rw [xcls]; rfl,xga,xgt,xcl,xgs,xtk,xob,xbe⟩;have Sx:∃ C,mg "Short" = some (.ref C)/\PySem.W.exmOne K (.ref C) (.ref C)=some true/\XGet K C "had" := ⟨_,OS.ms,xes,XC,(let ⟨cd,a,_,b⟩:=CD; ⟨cd,a,b⟩),xno⟩;have TC:ClsT K eH:=⟨⟨Hpg,Hhd,Hpo,Hsa⟩,Hn_number,Hn_now,Hn_kept⟩;obtain ⟨_,A1⟩:=W5 ["k"] X G h1;obtain ⟨_,A2⟩:=W5 ["thing"] X G h2;obtain ⟨_,A3⟩:=W5 ["thing", "least", "most"] X G h3;obtain ⟨_,A4⟩:=W5 ["thing", "n"] X G h4;obtain ⟨_,A5⟩:=W5 ["thing"] X G h5;obtain ⟨_,A6⟩:=W5 ["table", "thing"] X G h6;obtain ⟨_,A7⟩:=W5 ["table", "house"] X G h7;obtain ⟨_,A8⟩:=W5 ["one", "other"] X G h8;obtain ⟨_,A9⟩:=W5 ["one", "other"] X G h9;obtain ⟨_,A10⟩:=W5 ["one", "other"] X G h10;obtain ⟨_,A11⟩:=W5 ["one", "other"] X G h11
 obtain ⟨_,A12⟩:=W5 ["thing"] X G h12;obtain ⟨_,A13⟩:=W5 ["thing"] X G h13;obtain ⟨_,A14⟩:=W5 ["table", "deed"] X G h14;obtain ⟨_,A15⟩:=W5 ["table", "deed"] X G h15;obtain ⟨_,A16⟩:=W5 ["table", "house", "place", "k"] X G h16;obtain ⟨_,A17⟩:=W5 ["table", "deed"] X G h17;obtain ⟨_,A18⟩:=W5 ["table", "house"] X G h18;obtain ⟨_,A19⟩:=W5 ["table", "house"] X G h19;obtain ⟨_,A20⟩:=W5 ["table", "house", "lenders"] X G h20;obtain ⟨_,A21⟩:=W5 ["table", "house", "ahead"] X G h21;obtain ⟨_,A22⟩:=W5 ["table"] X G h22;obtain ⟨_,A23⟩:=W5 ["table"] X G h23;obtain ⟨_,A24⟩:=W5 ["table"] X G h24;obtain ⟨_,A25⟩:=W5 ["thing"] X G h25;obtain ⟨_,A26⟩:=W5 ["thing"] X G h26;obtain ⟨_,A27,B27⟩:=h27.at ["self", "number", "table"];obtain ⟨_,A28,B28⟩:=h28.at ["self", "k"];obtain ⟨_,A29,B29⟩:=h29.at ["self", "to", "k"];obtain ⟨_,A30,B30⟩:=h30.at ["self", "k"];obtain ⟨_,A31,B31⟩:=h31.at ["self"];obtain ⟨_,A32,B32⟩:=h32.at ["self"]
 obtain ⟨_,A33,B33⟩:=h33.at ["self"];obtain ⟨_,A34,B34⟩:=h34.at ["self", "table"];obtain ⟨_,A35,B35⟩:=h35.at ["self"];obtain ⟨_,A36,B36⟩:=h36.at ["self"];obtain ⟨_,A37,B37⟩:=h37.at ["self"];obtain ⟨_,A38⟩:=W5 ["thing"] X G h38;obtain ⟨_,A39⟩:=W5 ["table", "letters", "deed"] X G h39;obtain ⟨_,A40⟩:=W5 ["houses", "deed"] X G h40;obtain ⟨_,A41⟩:=W5 ["houses", "letters", "deed"] X G h41;obtain ⟨_,A42⟩:=W5 ["houses", "letters", "deed"] X G h42;obtain ⟨_,A43⟩:=W5 ["table", "deeds"] X G h43;obtain ⟨_,A44⟩:=W5 ["script", "k"] X G h44;obtain ⟨_,A45⟩:=W5 ["script", "k"] X G h45;obtain ⟨_,A46⟩:=W5 ["tape", "many"] X G h46;obtain ⟨_,A47⟩:=W5 ["table", "i"] X G h47;obtain ⟨_,A48⟩:=W5 ["size"] X G h48;obtain ⟨_,A49⟩:=W5 ["table", "i", "at", "k"] X G h49;obtain ⟨_,A50⟩:=W5 ["one", "other"] X G h50;obtain ⟨_,A51⟩:=W5 ["tape"] X G h51;obtain ⟨_,A52⟩:=W5 ["tape", "size", "many"] X G h52;obtain ⟨_,A53⟩:=W5 ["table"] X G h53
 obtain ⟨_,A54⟩:=W5 ["state", "deed"] X G h54;obtain ⟨_,A55⟩:=W5 ["tape", "state"] X G h55;obtain ⟨_,A56⟩:=W5 ["script", "start", "many", "table"] X G h56;obtain ⟨_,A57⟩:=W5 ["script"] X G h57;obtain ⟨_,A58⟩:=W5 ["found", "answers", "tables"] X G h58;have A59:=Qta (st:=Q38) (ps:=["script"]) X G a59 l59 c59 k59 fun _ _ _ _ _ _ us hl=>match us,hl with | [_],_=>rfl
 refine ⟨PySem.W.fnOf "law" "law" (Wm Q38) (Yh Q38) (Q8 Q38) .none kV59 dc59 pm59 an59 cd59 ct59,fun s v=>.of_eq rfl,fun base kb nb=>?_⟩;have O_Short:ShortS l.prog w K mg base:=⟨_,_,_,_,OS.M,Qny FI OS,BI,OS.ms⟩;have D__wall:=A1.d l.prog w base rfl (Qjk A1.F T    );have D_is_whole:=A2.d l.prog w base rfl (Qcj A2.F T    );have D_is_between:=A3.d l.prog w base rfl (Q96 A3.F T   D_is_whole );have D_is_row:=A4.d l.prog w base rfl (Qgu A4.F T   D_is_whole );have D_is_table:=A5.d l.prog w base rfl (Qck A5.F T   D_is_row );have D_is_house:=A6.d l.prog w base rfl (Qcm A6.F T   D_is_between );have D_rights:=A7.d l.prog w base rfl (Qa2 A7.F T  C_NoHouse D_is_house );have D_rights_tables:DefS l.prog w K mg base 4 "rights_tables" 2 U3:=⟨_,_,_,Qa2 A7.F T  C_NoHouse D_is_house ,PySem.W.mg_of X G al_rights_tables,A7.F.kp,A7.b,rfl⟩;have D_need_as_many_houses:=A8.d l.prog w base rfl (xu A8.F T  C_NoTable  )
 have D_is_row_within:=A9.d l.prog w base rfl (Q4i A9.F T    );have D_joined_row:=A10.d l.prog w base rfl (Q95 A10.F T    );have D_joined:=A11.d l.prog w base rfl (Qgt A11.F T   D_need_as_many_houses D_joined_row );have D_is_text_and_numbers:=A12.d l.prog w base rfl (xx A12.F T   D_is_whole );have D_is_deed:=A13.d l.prog w base rfl (Qe8 A13.F T PK   D_is_text_and_numbers );have D_need_houses_of_deed:=A14.d l.prog w base rfl (xt A14.F T  C_NoHouse D_is_house );have D_place_in_row:=A15.d l.prog w base rfl (Q5k A15.F T    );have D_raised:=A16.d l.prog w base rfl (Qgr A16.F T    );have D_done:=A17.d l.prog w base rfl (Qnz A17.F T O_Short  C_NoDeed D_is_deed D_need_houses_of_deed D_rights_tables D_raised D_place_in_row );have D_made_some:=A18.d l.prog w base rfl (Qb4 A18.F T    );have D_lent_or_used_some:=A19.d l.prog w base rfl (Q11 A19.F T    );have D_was_lent_some:=A20.d l.prog w base rfl (Q4g A20.F T    )
 have D_has_root:=A21.d l.prog w base rfl (Qcn A21.F T   D_made_some D_was_lent_some );have D_rooted_houses:=A22.d l.prog w base rfl (Q4h A22.F T   D_has_root );have D_rootless_houses:=A23.d l.prog w base rfl (Q2p A23.F T   D_rooted_houses D_lent_or_used_some );have D_comes_about:=A24.d l.prog w base rfl (Q77 A24.F T   D_rights_tables D_rootless_houses D_rooted_houses );have D_does_come_about:=A25.d l.prog w base rfl (Q2q A25.F T   D_is_table D_comes_about );have D_need_comes_about:=A26.d l.prog w base rfl (Q26 A26.F T  C_NoTable D_does_come_about );have M_House:MakeS l.prog w K mg base 8 eH "House" 3 (W3 eH):=⟨_,_,_,Q3e A27 T TC  C_NoHouse D_need_comes_about D_is_house ,⟨Hmk,h27.1,h27.2.1,Hkc⟩,PySem.W.mg_of X G aH,B27,rfl⟩;have D_House_make:MethS l.prog w K mg base 6 eH "make" 2 (Xg eH):=⟨_,_,_,Q9d A28 T TC   D_done ,⟨h28.1,h28.2.1,A28.kp⟩,B28,rfl⟩;have D_House_lend:MethS l.prog w K mg base 6 eH "lend" 3 (Xh eH):=⟨_,_,_,Q9e A29 T TC   D_done ,⟨h29.1,h29.2.1,A29.kp⟩,B29,rfl⟩
 have D_House_use:MethS l.prog w K mg base 6 eH "use" 2 (Kc eH):=⟨_,_,_,Qb6 A30 T TC   D_done ,⟨h30.1,h30.2.1,A30.kp⟩,B30,rfl⟩;have D_House_keep:MethS l.prog w K mg base 1 eH "keep" 1 (Xi eH):=⟨_,_,_,Q9f A31 T TC    ,⟨h31.1,h31.2.1,A31.kp⟩,B31,rfl⟩;have D_House_fall:MethS l.prog w K mg base 1 eH "fall" 1 (Xj eH):=⟨_,_,_,Q9g A32 T TC    ,⟨h32.1,h32.2.1,A32.kp⟩,B32,rfl⟩;have D_House_letter:MethS l.prog w K mg base 1 eH "letter" 1 (Ws eH):=⟨_,_,_,Q5s A33 T TC    ,⟨h33.1,h33.2.1,A33.kp⟩,B33,rfl⟩;have D_House_come:MethS l.prog w K mg base 3 eH "come" 2 (Xk eH):=⟨_,_,_,Q9h A34 T TC  C_NoLetter D_need_as_many_houses D_is_row_within D_joined ,⟨h34.1,h34.2.1,A34.kp⟩,B34,rfl⟩;have D_House_table:MethS l.prog w K mg base 1 eH "table" 1 (U8 eH):=⟨_,_,_,Q7e A35 T TC    ,⟨h35.1,h35.2.1,A35.kp⟩,B35,rfl⟩;have D_House_rights:MethS l.prog w K mg base 5 eH "rights" 1 (Q1m eH):=⟨_,_,_,Q5r A36 T TC   D_rights_tables ,⟨h36.1,h36.2.1,A36.kp⟩,B36,rfl⟩
 have D_House_used:MethS l.prog w K mg base 2 eH "used" 1 (Q41 eH):=⟨_,_,_,Q9c A37 T TC   D__wall ,⟨h37.1,h37.2.1,A37.kp⟩,B37,rfl⟩;have D_is_other_deed:=A38.d l.prog w base rfl (Q4j A38.F T PO   D_is_text_and_numbers );have D_need_deed_of_run:=A39.d l.prog w base rfl (Q25 A39.F T  C_NoDeed C_NoHouse C_NoLetter D_is_deed D_need_houses_of_deed D_is_other_deed D_is_house );have D_do_own_deed:=A40.d l.prog w base rfl (Q76 A40.F T TC    D_House_make D_House_lend D_House_use);have D_do_other_deed:=A41.d l.prog w base rfl (Q4k A41.F T TC    D_House_keep D_House_fall D_House_letter D_House_come);have D_answer_to:=A42.d l.prog w base rfl (Qb5 A42.F T TC Sx   D_is_other_deed D_do_other_deed D_do_own_deed );have D_played:=A43.d l.prog w base rfl (Qgs A43.F T TC   D_need_comes_about D_need_deed_of_run D_answer_to M_House D_House_table);have D__law_acell:=A44.d l.prog w base rfl (Q9a A44.F T    );have D__law_atape:=A45.d l.prog w base rfl (Q97 A45.F T   D__law_acell )
 have D__law_adigit:=A46.d l.prog w base rfl (Q7c A46.F T    );have D__law_arights:=A47.d l.prog w base rfl (Q5m A47.F T    );have D__law_abare:=A48.d l.prog w base rfl (Q9b A48.F T    );have D__law_araised:=A49.d l.prog w base rfl (Q5n A49.F T    );have D__law_ajoined:=A50.d l.prog w base rfl (Q5q A50.F T    );have D__law_amuch:=A51.d l.prog w base rfl (Q99 A51.F T   D__law_adigit );have D__law_atable:=A52.d l.prog w base rfl (Q78 A52.F T   D__law_abare D__law_adigit D__law_arights D__law_araised D__law_amuch );have D__law_astart:=A53.d l.prog w base rfl (Q79 A53.F T    );have D__law_astep:=A54.d l.prog w base rfl (Q98 A54.F T   D__law_ajoined D__law_arights D__law_araised );have D__law_adrawn:=A55.d l.prog w base rfl (Q7b A55.F T   D__law_adigit D__law_arights D__law_amuch );have D__law_aplayed:=A56.d l.prog w base rfl (Q5p A56.F T   D__law_astart D__law_atape D__law_adrawn D__law_astep )
 have D__law_abegun:=A57.d l.prog w base rfl (Q7d A57.F T   D__law_atape D__law_adigit D__law_atable );have D__law_aright:=A58.d l.prog w base rfl (Q7a A58.F T    );exact Qpi hL (Qsd A59.F T TC   D__law_abegun D__law_aplayed D_played D__law_aright ) (Qpj _)
end Lw
theorem PySem.W.Fast.tw6342540566423113422 : True := trivial
theorem PySem.W.Fast.tw15524849241138500534 : True := trivial
theorem PySem.W.Fast.tw12318731446636004922 : True := trivial
theorem PySem.W.Fast.tw5606164664347651521 : True := trivial
theorem PySem.W.Fast.tw11144612618583890288 : True := trivial
theorem PySem.W.Fast.tw2008859006556419946 : True := trivial
theorem PySem.W.Fast.tw4984489075229757054 : True := trivial
theorem PySem.W.Fast.tw16992674108829270897 : True := trivial
theorem PySem.W.Fast.tw14114130732704320250 : True := trivial
theorem PySem.W.Fast.tw550836042850762946 : True := trivial
theorem PySem.W.Fast.tw4211509760191664319 : True := trivial
theorem PySem.W.Fast.tw14492600028468385536 : True := trivial
theorem PySem.W.Fast.tw5873573079118646655 : True := trivial
theorem PySem.W.Fast.tw983752077640997194 : True := trivial
theorem PySem.W.Fast.te10554139536708027413 : True := trivial
open PySem PySem.W PyProof.Rows Sm
set_option maxRecDepth 100000 in
set_option maxHeartbeats 0 in
theorem PySem.Challenge.cw_lendwharf_k17_runs_played_holds : PySem.Challenge.rw_lendwharf_k17_runs_played.Holds := by
 w_on; o_law; k_head; (case hw=>w_witness2)
 k_fill
 refine Sm.walkS (l:=PySem.Challenge.rw_lendwharf_k17_runs_played) (k:=11) rfl ⟨rfl,by decide,by decide⟩ rfl (fun w h Y=>PySem.W.kIn_of Y) ?F
 case F=>
  intro w mg fa h KX G hmg;refine' Lw.all_mk KX G hmg ..
  any_goals k_is
  any_goals exact FA.mk (by k_is) (by k_is) (by k_is) (by k_is)
  any_goals exact FM.mk (by k_is) (by k_is) (by k_is) (by k_is) (by k_is)
  any_goals k_exc
  all_goals first | kts_exm | rfl | decide
