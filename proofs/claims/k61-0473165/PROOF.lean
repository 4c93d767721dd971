import PyProof.Rows.All
import Wide.All
import OpenK.AllK
import Wide.FinOn
import Lean
import PyProof.EqAt
import PyProof.EqKinds
import PyProof.TupleCall
import PyProof.ZipIter
import PyProof.Draws
import PyProof.SumAny
import PyProof.EnumMake
import PyProof.WalkInts
import PyProof.ExcArgsOwn
import PyProof.ExcAttrAll.ValueError
import PyProof.NsDelKeeps
import KE.KTryMore
import OpenK.KOwn
import PyProof.ListMulRoad
import PyProof.FactsAll.tuple_2
import PyProof.NeKinds
import PyProof.Rows.RuleIs
import PyProof.ExcInit
import PyProof.ExcClass3
import OpenK.KCls
import PyProof.InstStoreFacts
import OpenK.KMake
import PyProof.DictRoads
import PyProof.Rows.CountFlat
import PyProof.ListRange
import PyProof.Rows.SetFrom
import PyProof.CollectStr
import PyProof.Rows.TupMore
import PyProof.AttrMissHeap
import KE.KDictOf
import PyProof.DictWalks
import KE.KSortTup
import PyProof.DictItemsLoops
import KE.KDictList
import PyProof.CallStr
import PyProof.StrWalks
import PyProof.StrOps
import PyProof.StrCalls2
import PyProof.Conv_int_bool
import PySem.Challenge.RW_lendwharf_k61_runs_looked_at
set_option Elab.async false
set_option linter.all false
set_option maxRecDepth 100000
set_option maxHeartbeats 4000000
noncomputable section
namespace L2
open PySem PySem.Spec PyProof.Rows
abbrev Key:=Sum Int Str
def keyIs:Key->Value->Bool
  | .inl k,v=>Value.isInt k v
  | .inr x,v=>Value.isStrOf x v
def keyH (w:World):Key->Int
  | .inl k=>hashInt k
  | .inr x=>hashStr w x
theorem keyIs_shape:∀ {k:Key} {v:Value},keyIs k v=true->(∃ i t,k=Sum.inl i/\v=Value.int i t)\/(∃ x t,k=Sum.inr x/\v=Value.str x t)
  | .inl i,v,h=>by
    obtain ⟨t,e⟩:=Value.isInt_shape (k:=i) (v:=v) h
    exact .inl ⟨i,t,rfl,e⟩
  | .inr x,v,h=>by
    obtain ⟨t,e⟩:=Value.isStrOf_shape (x:=x) (v:=v) h
    exact .inr ⟨x,t,rfl,e⟩
theorem keyIs_int (i:Int) (t:Tok):keyIs (.inl i) (.int i t)=true:=by simp [keyIs,Value.isInt]
theorem keyIs_str (x:Str) (t:Tok):keyIs (.inr x) (.str x t)=true:=by simp [keyIs,Value.isStrOf]
theorem key_ll (a b:Int):decide ((Sum.inl a:Key)=Sum.inl b)=(a == b):=by
  by_cases e:a=b
  · subst e; simp
  · have h:¬ (Sum.inl a:Key)=Sum.inl b:=fun q=>e (Sum.inl.inj q)
    rw [decide_eq_false h]
    exact (beq_eq_false_iff_ne.mpr e).symm
theorem key_rr (a b:Str):decide ((Sum.inr a:Key)=Sum.inr b)=decide (a=b):=by
  by_cases e:a=b
  · subst e; simp
  · have h:¬ (Sum.inr a:Key)=Sum.inr b:=fun q=>e (Sum.inr.inj q)
    rw [decide_eq_false h,decide_eq_false e]
theorem key_lr (a:Int) (b:Str):decide ((Sum.inl a:Key)=Sum.inr b)=false:=decide_eq_false (fun q=>nomatch q)
theorem key_rl (a:Str) (b:Int):decide ((Sum.inr a:Key)=Sum.inl b)=false:=decide_eq_false (fun q=>nomatch q)
def mixKind (prog:Program) (w:World):PySem.KeyKind prog w Key where
  is:=keyIs
  hash:=keyH w
  inj:=fun v a b ha hb=>by
    rcases keyIs_shape ha with ⟨i,t,rfl,rfl⟩ | ⟨x,t,rfl,rfl⟩
    · rcases keyIs_shape hb with ⟨j,u,rfl,e⟩ | ⟨y,u,rfl,e⟩
      · injection e with e1 _; rw [e1]
      · exact nomatch e
    · rcases keyIs_shape hb with ⟨j,u,rfl,e⟩ | ⟨y,u,rfl,e⟩
      · exact nomatch e
      · injection e with e1 _; rw [e1]
  byValue:=fun k v h=>by
    rcases keyIs_shape h with ⟨i,t,rfl,rfl⟩ | ⟨x,t,rfl,rfl⟩ <;> rfl
  pyHash:=fun hv h=>by
    rcases keyIs_shape hv with ⟨i,t,rfl,rfl⟩ | ⟨x,t,rfl,rfl⟩
    · exact wpAny_pyHash_int h
    · exact wpAny_pyHash_str h
  eqBool:=fun hu hv h=>by
    rcases keyIs_shape hu with ⟨i,t,rfl,rfl⟩ | ⟨x,t,rfl,rfl⟩
    · rcases keyIs_shape hv with ⟨j,u,rfl,rfl⟩ | ⟨y,u,rfl,rfl⟩
      · rw [key_ll] at h; exact wpAny_eqBool_int h
      · rw [key_lr] at h; exact SeqAt.EqAt.int_str i t y u _ _ _ _ h
    · rcases keyIs_shape hv with ⟨j,u,rfl,rfl⟩ | ⟨y,u,rfl,rfl⟩
      · rw [key_rl] at h; exact SeqAt.EqAt.str_int x t j u _ _ _ _ h
      · rw [key_rr] at h; exact wpAny_eqBool_str h
  «strs»:=fun k x t v h=>by
    rcases keyIs_shape h with ⟨i,u,rfl,e⟩ | ⟨y,u,rfl,e⟩
    · exact nomatch e
    · injection e with e1 _
      subst e1
      cases v <;> rfl
inductive HK where
  | int (i:Int) | str (x:Str) | tup (l:List HK)
instance:DecidableEq HK:=fun _ _=>Classical.propDecidable _
mutual
def KIs (h:Heap):HK->Value->Prop
  | .int i,v=>∃ t,v=.int i t
  | .str x,v=>∃ t,v=.str x t
  | .tup l,v=>∃ a items,v=.ref a/\IsTup h a items/\KIsL h l items.toList
def KIsL (h:Heap):List HK->List Value->Prop
  | [],vs=>vs=[]
  | k :: l,vs=>∃ v r,vs=v :: r/\KIs h k v/\KIsL h l r
end
def Dp:Nat->HK->Prop
  | _,.int _=>True
  | _,.str _=>True
  | 0,.tup _=>False
  | d + 1,.tup l=>∀ k ∈ l,Dp d k
theorem KIsL.len {h:Heap}:∀ {l:List HK} {vs:List Value},KIsL h l vs->l.length=vs.length
  | [],_,r=>by cases r; rfl
  | k :: l,_,⟨v,r,e,_,q⟩=>by subst e; rw [List.length_cons,List.length_cons,q.len]
theorem KIsL.get {h:Heap}:∀ {l:List HK} {vs:List Value},KIsL h l vs->∀ (j:Nat) (h1:j < l.length) (h2:j < vs.length),KIs h l[j] vs[j]
  | [],_,_,j,h1,_=>by simp at h1
  | k :: l,_,⟨v,r,e,q,t⟩,0,h1,h2=>by subst e; exact q
  | k :: l,_,⟨v,r,e,q,t⟩,j + 1,h1,h2=>by subst e; exact t.get j (by simpa using h1) (by simpa using h2)
theorem KIsL.of {h h':Heap}:∀ {l:List HK} {vs:List Value},KIsL h l vs->(∀ k v,k ∈ l->KIs h k v->KIs h' k v)->KIsL h' l vs
  | [],_,r,_=>r
  | k :: l,_,⟨v,r,e,q,t⟩,f=>⟨v,r,e,f k v (by simp) q,t.of fun k v hk=>f k v (List.mem_cons_of_mem _ hk)⟩
theorem KIs.keep {h h':Heap} (hk:∀ a its,IsTup h a its->IsTup h' a its):∀ (d:Nat) {k:HK} {v:Value},Dp d k->KIs h k v->KIs h' k v
  | d,.int _,_,_,r=>r
  | d,.str _,_,_,r=>r
  | 0,.tup _,_,p,_=>p.elim
  | d + 1,.tup l,_,p,⟨a,its,e,i,r⟩=>⟨a,its,e,hk a its i,r.of fun k v hm=>KIs.keep hk d (p k hm)⟩
theorem tup_uniq {h:Heap} {a:Addr} {x y:Array Value} (p:IsTup h a x) (q:IsTup h a y):x=y:=by
  obtain ⟨o,h1,h2,n,h3⟩:=p
  obtain ⟨o',g1,g2,n',g3⟩:=q
  rw [h1] at g1; cases g1
  rw [h3] at g3; cases g3; rfl
theorem KIs.inj {h:Heap}:∀ (d:Nat) {x y:HK} {v:Value},Dp d x->Dp d y->KIs h x v->KIs h y v->x=y:=by
  intro d
  induction d with
  | zero=>
    intro x y v dx dy p q
    cases x with
    | tup l=>exact dx.elim
    | int i=>
      obtain ⟨t,rfl⟩:=p
      cases y with
      | tup l=>exact dy.elim
      | int j=>obtain ⟨u,e⟩:=q; cases e; rfl
      | str j=>obtain ⟨u,e⟩:=q; cases e
    | str i=>
      obtain ⟨t,rfl⟩:=p
      cases y with
      | tup l=>exact dy.elim
      | int j=>obtain ⟨u,e⟩:=q; cases e
      | str j=>obtain ⟨u,e⟩:=q; cases e; rfl
  | succ d ih=>
    intro x y v dx dy p q
    cases x with
    | int i=>
      obtain ⟨t,rfl⟩:=p
      cases y with
      | tup l=>obtain ⟨_,_,e,_⟩:=q; cases e
      | int j=>obtain ⟨u,e⟩:=q; cases e; rfl
      | str j=>obtain ⟨u,e⟩:=q; cases e
    | str i=>
      obtain ⟨t,rfl⟩:=p
      cases y with
      | tup l=>obtain ⟨_,_,e,_⟩:=q; cases e
      | int j=>obtain ⟨u,e⟩:=q; cases e
      | str j=>obtain ⟨u,e⟩:=q; cases e; rfl
    | tup l=>
      obtain ⟨a,its,rfl,p1,p2⟩:=p
      cases y with
      | int j=>obtain ⟨u,e⟩:=q; cases e
      | str j=>obtain ⟨u,e⟩:=q; cases e
      | tup m=>
        obtain ⟨b,jts,e,q1,q2⟩:=q
        cases e
        have e:=tup_uniq p1 q1
        subst e
        have l1:=p2.len
        have l2:=q2.len
        congr 1
        refine List.ext_getElem (by omega) fun j h1 h2=>?_
        exact ih (dx _ (List.getElem_mem h1)) (dy _ (List.getElem_mem h2)) (p2.get j h1 (by omega)) (q2.get j h2 (by omega))
theorem all_eqA {α:Type} [DecidableEq α] (d:α) (xs ys:List α):((List.range (min xs.length ys.length)).all (fun j=>decide (xs.getD j d=ys.getD j d)) && xs.length == ys.length)=decide (xs=ys):=by
  rw [Bool.eq_iff_iff]
  simp only [Bool.and_eq_true,List.all_eq_true,List.mem_range,decide_eq_true_eq,beq_iff_eq]
  constructor
  · rintro ⟨h,e⟩
    refine List.ext_getElem e fun i h1 h2=>?_
    have:=h i (by omega)
    simpa [List.getD_eq_getElem?_getD,h1,h2] using this
  · rintro rfl
    simp
section
variable {prog:Program} {w:World}
mutual
def hkH (prog:Program) (w:World):HK->Int
  | .int i=>(mixKind prog w).hash (.inl i)
  | .str x=>(mixKind prog w).hash (.inr x)
  | .tup l=>reduceHash (Builtin.Tuple.tupleHashOf (hkHL prog w l))
def hkHL (prog:Program) (w:World):List HK->List Int
  | []=>[]
  | k :: l=>hkH prog w k :: hkHL prog w l
end
mutual
def hkD:HK->Nat
  | .int _=>1
  | .str _=>1
  | .tup l=>hkDL l + 1
def hkDL:List HK->Nat
  | []=>0
  | k :: l=>hkD k + hkDL l
end
theorem hkHL_map (l:List HK):hkHL prog w l=l.map (hkH prog w):=by
  induction l with
  | nil=>rfl
  | cons k l ih=>rw [hkHL,ih]; rfl
theorem hkDL_app (l m:List HK):hkDL (l ++ m)=hkDL l + hkDL m:=by
  induction l with
  | nil=>simp [hkDL]
  | cons k l ih=>rw [List.cons_append,hkDL,hkDL,ih]; omega
variable {A:Around} {E:Value->Shared->Prop}
theorem all_eqK (xs ys:List HK):((List.range (min xs.length ys.length)).all (fun j=>decide (xs.getD j (.int 0)=ys.getD j (.int 0))) && xs.length == ys.length)=decide (xs=ys):=all_eqA (.int 0) xs ys
theorem hk_hash:∀ (d:Nat) {A:Around} {s:Shared} {k:HK} {v:Value} {Q:Int->Shared->Prop},Dp d k->A.units + d < cLine->KIs s.heap k v->Q (hkH prog w k) { s with toks:=s.toks + hkD k } ->
    wpAny (model prog w) A (pyHash v) Q E s:=by
  intro d
  induction d with
  | zero=>
    intro A s k v Q dk hu r q
    cases k with
    | tup l=>exact dk.elim
    | int i=>obtain ⟨t,rfl⟩:=r; exact (mixKind prog w).pyHash (k:=.inl i) (keyIs_int i t) q
    | str i=>obtain ⟨t,rfl⟩:=r; exact (mixKind prog w).pyHash (k:=.inr i) (keyIs_str i t) q
  | succ d ih=>
    intro A s k v Q dk hu r q
    cases k with
    | int i=>obtain ⟨t,rfl⟩:=r; exact (mixKind prog w).pyHash (k:=.inl i) (keyIs_int i t) q
    | str i=>obtain ⟨t,rfl⟩:=r; exact (mixKind prog w).pyHash (k:=.inr i) (keyIs_str i t) q
    | tup ks=>
      obtain ⟨a,items,rfl,⟨o,ho,hc,n,hd⟩,hi⟩:=r
      have hT:s.TypeIs (.ref a) "tuple" := ⟨o,ho,hc⟩
      have hu0:A.units < cLine:=by omega
      unfold pyHash
      unfold pyHashByItsType
      have nb:¬ (some (Value.builtin "tuple.__hash__") == some Value.none)=true:=by rw [beq_builtin_none]; exact Bool.false_ne_true
      have sp {Q:Option Value->Shared->Prop} (h:Q (some (.builtin "tuple.__hash__")) s):wpAny (model prog w) A (specialOf (.ref a) "__hash__") Q E s:=wpAny_specialOf hT F.slot_tuple_hash.lookup h
      refine wpAny_bind (wpAny_cRoomFor_or (.inr hu0) (wpAny_bind (sp ?_)))
      show wpAny _ _ (if (some (Value.builtin "tuple.__hash__") == some Value.none)=true then _ else _) _ _ _
      rw [if_neg nb]
      refine wpAny_bind (sp (wpAny_bind (wpAny_callSpecialIfBoundUnlessNone?_slot hT F.slot_tuple_hash (wpAny_call_entry F.slot_tuple_hash hT F.entry_tuple_hash ?_ (F.args_tuple_hash_1 _)))))
      show wpAny _ A.in1 (Builtin.Tuple.tupleItemsOf (.ref a) >>= _) _ _ s
      refine wpAny_bind (wpAny_tupleItemsOf ho hd (wpAny_bind ?_))
      rw [<- Array.forIn_toList]
      have hin:A.in1.units + d < cLine:=by show A.units + 1 + d < cLine; omega
      refine wpAny_forIn_list _ (fun rest (b:Array Int) s'=>∃ dn lf,ks=dn ++ lf/\KIsL s.heap lf rest/\b.toList=dn.map (hkH prog w)/\s'={ s with toks:=s.toks + hkDL dn }) _ ?_ ?_ _ _ ⟨[],ks,rfl,hi,rfl,rfl⟩
      · rintro x rest b s' ⟨dn,lf,rfl,hl,hb,rfl⟩
        cases lf with
        | nil=>cases hl
        | cons k lf=>
          obtain ⟨v,r,e,h1,h2⟩:=hl
          cases e
          refine wpAny_bind (ih (s:={ s with toks:=s.toks + hkDL dn }) (dk k (by simp)) hin h1 ?_)
          exact wpAny_pure ⟨dn ++ [k],lf,by simp,h2,by simp [hb],by simp [hkDL_app,hkDL,Nat.add_assoc]⟩
      · rintro b s' ⟨dn,lf,rfl,hl,hb,rfl⟩
        cases lf with
        | cons k lf=>obtain ⟨_,_,e,_⟩:=hl; cases e
        | nil=>
          rw [List.append_nil] at q
          show wpAny _ _ (retInt (Builtin.Tuple.tupleHashOf b.toList)) _ _ _
          rw [hb,<- hkHL_map]
          refine wpAny_ret_mkInt ?_
          have q:Q (reduceHash (Builtin.Tuple.tupleHashOf (hkHL prog w dn))) { s with toks:=s.toks + (hkDL dn + 1) }:=q
          generalize Builtin.Tuple.tupleHashOf (hkHL prog w dn)=z at *
          show wpAny _ _ (if (decide (-(2:Int) ^ 63<=z) && decide (z < 2 ^ 63))=true then _ else _) Q E _
          unfold reduceHash at q
          split
          · rename_i hr
            rw [if_pos hr] at q
            exact wpAny_pure (by simpa [Nat.add_assoc] using q)
          · rename_i hr
            rw [if_neg hr] at q
            exact wpAny_bind (wpAny_rule (wpAny_pure (by simpa [Nat.add_assoc] using q)))
theorem hk_eq:∀ (d:Nat) {A:Around} {s:Shared} {x y:HK} {u v:Value},Dp d x->Dp d y->A.units + d < cLine->KIs s.heap x u->KIs s.heap y v->SeqAt.EqAt A s u v (decide (x=y)):=by
  intro d
  have leaf:∀ {A:Around} {s:Shared} {x y:HK} {u v:Value},(∀ l,x ≠ .tup l)->(∀ l,y ≠ .tup l)->KIs s.heap x u->KIs s.heap y v->SeqAt.EqAt A s u v (decide (x=y)):=by
    intro A s x y u v nx ny p q
    cases x with
    | tup l=>exact absurd rfl (nx l)
    | int i=>
      obtain ⟨t,rfl⟩:=p
      cases y with
      | tup l=>exact absurd rfl (ny l)
      | int j=>
        obtain ⟨t',rfl⟩:=q
        have:=SeqAt.EqAt.int_int (A:=A) (s:=s) i t j t'
        rwa [show (i == j)=decide (HK.int i=HK.int j) by by_cases e:i=j <;> simp [e]] at this
      | str j=>
        obtain ⟨t',rfl⟩:=q
        rw [decide_eq_false (by simp)]
        exact SeqAt.EqAt.int_str _ _ _ _
    | str i=>
      obtain ⟨t,rfl⟩:=p
      cases y with
      | tup l=>exact absurd rfl (ny l)
      | int j=>
        obtain ⟨t',rfl⟩:=q
        rw [decide_eq_false (by simp)]
        exact SeqAt.EqAt.str_int _ _ _ _
      | str j=>
        obtain ⟨t',rfl⟩:=q
        have:=SeqAt.EqAt.str_str (A:=A) (s:=s) i t j t'
        rwa [show (i == j)=decide (HK.str i=HK.str j) by by_cases e:i=j <;> simp [e]] at this
  induction d with
  | zero=>
    intro A s x y u v dx dy hu p q
    exact leaf (fun l e=>by subst e; exact dx) (fun l e=>by subst e; exact dy) p q
  | succ d ih=>
    intro A s x y u v dx dy hu p q
    have hu0:A.units < cLine:=by omega
    cases x with
    | tup l=>
      obtain ⟨a,its,rfl,p1,p2⟩:=p
      cases y with
      | int j=>
        obtain ⟨t',rfl⟩:=q
        rw [decide_eq_false (by simp)]
        exact SeqAt.EqAt.tuple_int _ _ p1 hu0
      | str j=>
        obtain ⟨t',rfl⟩:=q
        rw [decide_eq_false (by simp)]
        exact SeqAt.EqAt.tuple_str _ _ p1 hu0
      | tup m=>
        obtain ⟨b,jts,rfl,q1,q2⟩:=q
        by_cases e:a=b
        · subst e
          have e:=KIs.inj (d + 1) (h:=s.heap) dx dy ⟨a,its,rfl,p1,p2⟩ ⟨a,jts,rfl,q1,q2⟩
          rw [decide_eq_true e]
          exact SeqAt.EqAt.same _
        · have l1:=p2.len
          have l2:=q2.len
          have he:∀ j (h1:j < its.size) (h2:j < jts.size),SeqAt.EqAt A.in1 s its[j] jts[j] (decide (l.getD j (.int 0)=m.getD j (.int 0))):=fun j h1 h2=>by
            have k1:j < l.length:=by rw [l1,Array.length_toList]; exact h1
            have k2:j < m.length:=by rw [l2,Array.length_toList]; exact h2
            have e1:l.getD j (.int 0)=l[j]:=by rw [List.getD_eq_getElem?_getD,List.getElem?_eq_getElem k1]; rfl
            have e2:m.getD j (.int 0)=m[j]:=by rw [List.getD_eq_getElem?_getD,List.getElem?_eq_getElem k2]; rfl
            rw [e1,e2]
            exact ih (dx _ (List.getElem_mem k1)) (dy _ (List.getElem_mem k2)) (by show A.units + 1 + d < cLine; omega) (p2.get j k1 (by simpa using h1)) (q2.get j k2 (by simpa using h2))
          have rc:=SeqAt.RcAt.tuples p1 q1 hu0 he
          have s1:its.size=l.length:=by rw [l1,Array.length_toList]
          have s2:jts.size=m.length:=by rw [l2,Array.length_toList]
          rw [s1,s2,all_eqK] at rc
          exact SeqAt.EqAt.of_refs e (by simpa using rc)
    | int i=>
      cases y with
      | tup m=>
        obtain ⟨t',rfl⟩:=p
        obtain ⟨b,jts,rfl,q1,q2⟩:=q
        rw [decide_eq_false (by simp)]
        exact SeqAt.EqAt.int_tuple _ _ q1 hu0
      | _=>exact leaf (by simp) (by simp) p q
    | str i=>
      cases y with
      | tup m=>
        obtain ⟨t',rfl⟩:=p
        obtain ⟨b,jts,rfl,q1,q2⟩:=q
        rw [decide_eq_false (by simp)]
        exact SeqAt.EqAt.str_tuple _ _ q1 hu0
      | _=>exact leaf (by simp) (by simp) p q
theorem hk_quiet:∀ (d:Nat) {A:Around} {s:Shared} {k:HK} {v:Value} {Q:Bool->Shared->Prop} (m:Nat),d < m->Dp d k->KIs s.heap k v->Q true s->wpAny (model prog w) A (eqIsQuiet m v) Q E s:=by
  intro d
  have leaf:∀ {A:Around} {s:Shared} {v:Value} {Q:Bool->Shared->Prop} (m:Nat),carriedByValue v=true->Q true s->wpAny (model prog w) A (eqIsQuiet m v) Q E s:=by
    intro A s v Q m hv q
    rw [eqIsQuiet_byValue m hv]
    exact wpAny_pure q
  induction d with
  | zero=>
    intro A s k v Q m hm dk r q
    cases k with
    | tup l=>exact dk.elim
    | int i=>obtain ⟨t,rfl⟩:=r; exact leaf m rfl q
    | str i=>obtain ⟨t,rfl⟩:=r; exact leaf m rfl q
  | succ d ih=>
    intro A s k v Q m hm dk r q
    cases k with
    | int i=>obtain ⟨t,rfl⟩:=r; exact leaf m rfl q
    | str i=>obtain ⟨t,rfl⟩:=r; exact leaf m rfl q
    | tup ks=>
      obtain ⟨a,items,rfl,⟨o,ho,hc,n,hd⟩,hi⟩:=r
      have hT:s.TypeIs (.ref a) "tuple" := ⟨o,ho,hc⟩
      obtain ⟨m,rfl⟩:∃ m',m=m' + 1:=⟨m - 1,by omega⟩
      unfold eqIsQuiet
      refine wpAny_bind (wpAny_specialOf hT F.slot_tuple_eq.lookup ?_)
      show wpAny _ _ (isInstance (.ref a) (.type "tuple") >>= _) _ _ s
      refine wpAny_bind (wpAny_isInstance hT isSubtype_tuple_tuple ?_)
      simp only [Bool.not_true,Bool.false_eq_true,if_false]
      refine wpAny_bind (wpAny_seqItems ho hd (wpAny_bind ?_))
      show wpAny _ _ (forIn items _ _) _ _ s
      rw [<- Array.forIn_toList]
      refine wpAny_forIn_list _ (fun rest r s'=>r.1=none/\s'=s/\∃ l,KIsL s.heap l rest/\∀ k ∈ l,k ∈ ks) _ ?_ ?_ _ _ ⟨rfl,rfl,ks,hi,fun _ h=>h⟩
      · rintro v rest r s' ⟨hr,rfl,l,hl,hall⟩
        cases l with
        | nil=>cases hl
        | cons k l=>
          obtain ⟨v',r',e,h1,h2⟩:=hl
          cases e
          refine wpAny_bind (ih m (by omega) (dk k (hall k (by simp))) h1 ?_)
          simp only [Bool.not_true,Bool.false_eq_true,if_false]
          exact wpAny_pure ⟨rfl,rfl,l,h2,fun x hx=>hall x (List.mem_cons_of_mem _ hx)⟩
      · rintro ⟨r1,r2⟩ s' ⟨hr,rfl,_⟩
        simp only at hr
        subst hr
        exact wpAny_pure q
def nk (prog:Program) (w:World):HeapKind prog w HK where
  is:=fun h k a=>KIs h k (.ref a)/\Dp 5 k
  hash:=hkH prog w
  draws:=hkD
  room:=fun A=>A.units + 5 < cLine
  inj:=fun hx hy=>KIs.inj 5 hx.2 hy.2 hx.1 hy.1
  keeps:=fun {h h' k a d o es ep} x ho hd hs=>⟨KIs.keep (fun b its ⟨ob,h1,h2,n,h3⟩=>⟨ob,(hs.2 b fun e=>by
    subst e
    rw [ho] at h1; cases h1
    rw [hd] at h3; cases h3).trans h1,h2,n,h3⟩) 5 x.2 x.1,x.2⟩
  pyHash:=fun hu hk h=>hk_hash 5 hk.2 hu hk.1 h
  eqBool:=fun hu hx hy h=>hk_eq 5 hx.2 hy.2 hu hx.1 hy.1 prog w _ _ h
  quiet:=fun hk h=>hk_quiet 5 8 (by decide) hk.2 hk.1 h
end
theorem mixKind_int (prog:Program) (w:World) (i:Int) (t:Tok):(mixKind prog w).is (.inl i) (.int i t)=true:=keyIs_int i t
theorem mixKind_str (prog:Program) (w:World) (x:Str) (t:Tok):(mixKind prog w).is (.inr x) (.str x t)=true:=keyIs_str x t
end L2
namespace L2
open PySem PySem.Spec PyProof.Rows
inductive V where
  | non | bl (b:Bool) | int (i:Int) | str (x:Str) | byt (b:Array UInt8) | flt (b:UInt64) | ref (a:Addr) | ty (n:String)
  deriving DecidableEq
def RelV:V->Value->Prop
  | .non,u=>u=Value.none
  | .bl b,u=>u=Value.bool b
  | .int i,u=>∃ t,u=Value.int i t
  | .str x,u=>∃ t,u=Value.str x t
  | .byt b,u=>∃ t,u=Value.bytes b t
  | .flt b,u=>∃ t,u=Value.float b t
  | .ref a,u=>u=Value.ref a
  | .ty n,u=>u=Value.type n
abbrev Vals:List V->List Value->Prop:=Paired RelV
theorem Vals.length {xs:List V} {us:List Value} (r:Vals xs us):xs.length=us.length:=Paired.length r
theorem Vals.get:∀ {xs:List V} {us:List Value} {i:Nat} {x:V},Vals xs us->xs[i]?=some x->∃ u,us[i]?=some u/\RelV x u
  | _,_,_,_,.nil,e=>by simp at e
  | _,_,0,_,.cons r _,e=>by simp at e; subst e; exact ⟨_,rfl,r⟩
  | _,_,i + 1,x,.cons _ t,e=>by
    obtain ⟨u,h1,h2⟩:=Vals.get (i:=i) (x:=x) t (by simpa using e)
    exact ⟨u,by simpa using h1,h2⟩
theorem Vals.set {x:V} {u:Value} (r:RelV x u):∀ {xs:List V} {us:List Value} (i:Nat),Vals xs us->Vals (xs.set i x) (us.set i u)
  | _,_,_,.nil=>.nil
  | _,_,0,.cons _ t=>.cons r t
  | _,_,i + 1,.cons q t=>.cons q (Vals.set r i t)
theorem Vals.append:∀ {xs ys:List V} {us ws:List Value},Vals xs us->Vals ys ws->Vals (xs ++ ys) (us ++ ws)
  | _,_,_,_,.nil,s=>s
  | _,_,_,_,.cons r t,s=>.cons r (Vals.append t s)
theorem Vals.take:∀ {xs:List V} {us:List Value} (n:Nat),Vals xs us->Vals (xs.take n) (us.take n)
  | _,_,0,_=>.nil
  | _,_,_ + 1,.nil=>.nil
  | _,_,n + 1,.cons r t=>.cons r (Vals.take n t)
theorem Vals.drop:∀ {xs:List V} {us:List Value} (n:Nat),Vals xs us->Vals (xs.drop n) (us.drop n)
  | _,_,0,r=>r
  | _,_,_ + 1,.nil=>.nil
  | _,_,n + 1,.cons _ t=>Vals.drop n t
def RelO:Option V->Option Value->Prop
  | some v,some u=>RelV v u
  | none,none=>True
  | _,_=>False
def KV {κ:Type}:List (κ × V)->List (κ × Value)->Prop:=Paired fun (p:κ × V) (q:κ × Value)=>p.1=q.1/\RelV p.2 q.2
def kV:Key->V
  | .inl i=>.int i
  | .inr x=>.str x
inductive HO where
  | lst (xs:List V)
  | tup (xs:List V)
  | dK (kvs:List (Key × V)) | dT (kvs:List (HK × V))
  | set (S:Int->Bool) (n:Nat)
  | ins (C dx:Addr) (fs:List (Str × V))
  | own (x:Addr)
  | xd (fs:List (Str × V))
  | met (f x:Addr)
  | rng (lo hi:Int)
  | frz (o:Obj) (u:HO)
  | tbl (ps:Array Value)
  | ext (φ:Heap->Prop)
abbrev Hp:=Addr->Option HO
def upd (H:Hp) (a:Addr) (o:HO):Hp:=fun b=>if b=a then some o else H b
theorem upd_same {H:Hp} {a:Addr} {o:HO}:upd H a o a=some o:=by unfold upd; rw [if_pos rfl]
theorem upd_ne {H:Hp} {a b:Addr} {o:HO} (h:b ≠ a):upd H a o b=H b:=by unfold upd; rw [if_neg h]
theorem ne_of {H:Hp} {a b:Addr} {o u:HO} (h:H a=some o) (h':H b=some u) (d:o ≠ u):a ≠ b:=by
  intro e; subst e; rw [h] at h'; exact d (Option.some.inj h')
theorem ne_of_none {H:Hp} {a b:Addr} {o:HO} (h:H a=some o) (h':H b=none):a ≠ b:=by
  intro e; subst e; rw [h] at h'; cases h'
mutual
def KAt (H:Hp):HK->V->Prop
  | .int i,v=>v=.int i
  | .str x,v=>v=.str x
  | .tup l,v=>∃ a vs,v=.ref a/\H a=some (.tup vs)/\KAtL H l vs
def KAtL (H:Hp):List HK->List V->Prop
  | [],vs=>vs=[]
  | k :: l,vs=>∃ v r,vs=v :: r/\KAt H k v/\KAtL H l r
end
mutual
theorem KAt.keep {H H':Hp} (ht:∀ b xs,H b=some (.tup xs)->H' b=some (.tup xs)):∀ {k:HK} {v:V},KAt H k v->KAt H' k v
  | .int _,_,r=>r
  | .str _,_,r=>r
  | .tup _,_,⟨a,vs,e,h,r⟩=>⟨a,vs,e,ht a vs h,KAtL.keep ht r⟩
theorem KAtL.keep {H H':Hp} (ht:∀ b xs,H b=some (.tup xs)->H' b=some (.tup xs)):∀ {l:List HK} {vs:List V},KAtL H l vs->KAtL H' l vs
  | [],_,r=>r
  | _ :: _,_,⟨v,r,e,h,t⟩=>⟨v,r,e,KAt.keep ht h,KAtL.keep ht t⟩
end
def KR (H:Hp) (k:HK) (b:Addr):Prop:=KAt H k (.ref b)/\Dp 5 k
theorem KR.keep {H H':Hp} {k:HK} {b:Addr} (r:KR H k b) (ht:∀ b xs,H b=some (.tup xs)->H' b=some (.tup xs)):KR H' k b:=⟨r.1.keep ht,r.2⟩
section
variable (P:Program) (w:World)
def ObjOk (H:Hp) (h:Heap) (a:Addr):HO->Prop
  | .lst xs=>xs.length<=sizeLine/\∃ (its:List Value) (n:Nat),Vals xs its/\h.get? a=some { cls:=.type "list",data:=.seq its.toArray n }
  | .tup xs=>xs.length<=sizeLine/\∃ its:List Value,Vals xs its/\IsTup h a its.toArray
  | .dK kvs=>kvs.length<=sizeLine/\(a == sysModules)=false/\∃ vs,KV kvs vs/\h.DictOf (mixKind P w) a vs
  | .dT kvs=>kvs.length<=sizeLine/\(a == sysModules)=false/\∃ xs:List (HK × Addr × Value),
      Paired (fun (p:HK × V) (q:HK × Addr × Value)=>p.1=q.1/\KR H p.1 q.2.1/\RelV p.2 q.2.2) kvs xs /\
      ∃ o es ep,h.get? a=some o/\o.ExactDict/\o.data=.dict es ep/\es.toList=xs.map (entryOfKey (nk P w))/\(xs.map (·.1)).Nodup
  | .set S n=>h.SetOf (intKind P w) a S n
  | .ins C dx fs=>H dx=some (.own a)/\fs.length<=1000/\dx ≠ a/\h.get? a=some (PySem.W.instObj C dx) /\
      ∃ mA,h.Ns1 dx mA/\(∀ f,RelO (fs.lookup f) (mA f))/\PySem.Within mA (fs.map (·.1))
  | .own _=>∃ o,h.get? a=some o
  | .xd fs=>∃ mA,h.Ns1 a mA/\∀ f,RelO (fs.lookup f) (mA f)
  | .rng lo hi=>∃ t u v,h.get? a=some { cls:=.type "range",data:=.fields #[.int lo t,.int hi u,.int 1 v] }
  | .frz o u=>h.get? a=some o/\ObjOk H h a u
  | .tbl ps=>h.get? a=some { cls:=.none,data:=.fields ps }
  | .met f x=>h.get? a=some (PySem.W.methodObj (.ref f) (.ref x))
  | .ext φ=>φ h/\(∃ o,h.get? a=some o)/\∀ h1 h2:Heap,φ h1->(∀ o,h1.get? a=some o->h2.get? a=some o)->φ h2
def HOk (H:Hp) (h:Heap):Prop:=∀ a o,H a=some o->ObjOk P w H h a o
end
section
variable {P:Program} {w:World} {H H':Hp} {h h':Heap} {a:Addr} {o:HO}
theorem ObjOk.lt (x:ObjOk P w H h a o):a < h.objs.size:=by
  cases o with
  | lst xs=>obtain ⟨_,_,_,_,e⟩:=x; exact Heap.lt_size e
  | tup xs=>obtain ⟨_,_,_,p⟩:=x; exact p.lt
  | dK kvs=>obtain ⟨_,_,_,_,o,_,_,e,_⟩:=x; exact Heap.lt_size e
  | dT kvs=>obtain ⟨_,_,_,_,o,_,_,e,_⟩:=x; exact Heap.lt_size e
  | set S n=>obtain ⟨o,_,_,_,e,_⟩:=x; exact Heap.lt_size e
  | ins C dx fs=>obtain ⟨_,_,_,e,_⟩:=x; exact Heap.lt_size e
  | own y=>obtain ⟨_,e⟩:=x; exact Heap.lt_size e
  | xd fs=>obtain ⟨_,⟨_,_,_,e,_⟩,_⟩:=x; exact Heap.lt_size e
  | rng lo hi=>obtain ⟨_,_,_,e⟩:=x; exact Heap.lt_size e
  | frz ob u=>obtain ⟨e,_⟩:=x; exact Heap.lt_size e
  | tbl ps=>exact Heap.lt_size (show h.get? a=some _ from x)
  | met f y=>exact Heap.lt_size (show h.get? a=some _ from x)
  | ext φ=>obtain ⟨_,⟨_,e⟩,_⟩:=x; exact Heap.lt_size e
theorem Paired.mapP {α β:Type} {F G:α->β->Prop}:∀ {l₁:List α} {l₂:List β},Paired F l₁ l₂->(∀ a b,F a b->G a b)->Paired G l₁ l₂
  | _,_,.nil,_=>.nil
  | _,_,.cons r t,f=>.cons (f _ _ r) (Paired.mapP t f)
theorem ObjOk.stay (x:ObjOk P w H h a o) (k:∀ b u,(b=a\/H b=some (.own a))->h.get? b=some u->h'.get? b=some u)
    (ho:∀ b,H b=some (.own a)->H' b=some (.own a)) (ht:∀ b xs,H b=some (.tup xs)->H' b=some (.tup xs)):ObjOk P w H' h' a o:=by
  induction o with
  | lst xs=>obtain ⟨z,its,n,r,e⟩:=x; exact ⟨z,its,n,r,k _ _ (.inl rfl) e⟩
  | tup xs=>obtain ⟨z,its,r,ob,e,c⟩:=x; exact ⟨z,its,r,ob,k _ _ (.inl rfl) e,c⟩
  | dK kvs=>obtain ⟨z,y,vs,r,ob,es,ep,e,c⟩:=x; exact ⟨z,y,vs,r,ob,es,ep,k _ _ (.inl rfl) e,c⟩
  | dT kvs=>
    obtain ⟨z,y,xs,r,ob,es,ep,e,c⟩:=x
    exact ⟨z,y,xs,Paired.mapP r fun p q z=>⟨z.1,z.2.1.keep ht,z.2.2⟩,ob,es,ep,k _ _ (.inl rfl) e,c⟩
  | set S n=>obtain ⟨ob,es,ep,t,e,c⟩:=x; exact ⟨ob,es,ep,t,k _ _ (.inl rfl) e,c⟩
  | ins C dx fs=>
    obtain ⟨d,z,ne,e,mA,⟨od,es,ep,e2,c⟩,r⟩:=x
    exact ⟨ho _ d,z,ne,k _ _ (.inl rfl) e,mA,⟨od,es,ep,k _ _ (.inr d) e2,c⟩,r⟩
  | own y=>obtain ⟨ob,e⟩:=x; exact ⟨ob,k _ _ (.inl rfl) e⟩
  | xd fs=>obtain ⟨mA,⟨od,es,ep,e,c⟩,r⟩:=x; exact ⟨mA,⟨od,es,ep,k _ _ (.inl rfl) e,c⟩,r⟩
  | rng lo hi=>obtain ⟨t,u,v,e⟩:=x; exact ⟨t,u,v,k _ _ (.inl rfl) e⟩
  | frz ob u ih=>obtain ⟨e,q⟩:=x; exact ⟨k _ _ (.inl rfl) e,ih q⟩
  | tbl ps=>
    have e:h.get? a=some { cls:=.none,data:=.fields ps }:=x
    show h'.get? a=some { cls:=.none,data:=.fields ps }
    exact k a _ (.inl rfl) e
  | met f y=>
    have e:h.get? a=some (PySem.W.methodObj (.ref f) (.ref y)):=x
    show h'.get? a=some (PySem.W.methodObj (.ref f) (.ref y))
    exact k a _ (.inl rfl) e
  | ext φ=>obtain ⟨p,⟨o,e⟩,st⟩:=x; exact ⟨st _ _ p fun o q=>k _ _ (.inl rfl) q,⟨o,k _ _ (.inl rfl) e⟩,st⟩
theorem HOk.lt (x:HOk P w H h) (e:H a=some o):a < h.objs.size:=(x a o e).lt
theorem HOk.fresh (x:HOk P w H h) (e:h.objs.size<=a):H a=none:=by
  cases q:H a with
  | none=>rfl
  | some u=>exact absurd (Nat.lt_of_lt_of_le (x.lt q) e) (Nat.lt_irrefl _)
theorem HOk.kept (x:HOk P w H h) (k:∀ b u,h.get? b=some u->h'.get? b=some u):HOk P w H h':=fun a o e=>
  (x a o e).stay (fun b u _ q=>k b u q) (fun _ q=>q) fun _ _ q=>q
theorem HOk.laid (x:HOk P w H h) (k:∀ b u,h.get? b=some u->h'.get? b=some u) (hp:h.objs.size<=a) (new:ObjOk P w (upd H a o) h' a o):HOk P w (upd H a o) h':=fun b u e=>by
  have hn:=x.fresh hp
  by_cases hb:b=a
  · subst hb; rw [upd_same] at e; cases e; exact new
  · rw [upd_ne hb] at e
    exact (x b u e).stay (fun c v _ q=>k c v q) (fun c q=>by rw [upd_ne (ne_of_none q hn)]; exact q) fun c xs q=>by rw [upd_ne (ne_of_none q hn)]; exact q
end
def Rd (H:Hp) (a:Addr) (u:HO):Prop:=H a=some u\/∃ o,H a=some (.frz o u)
theorem Rd.ok {P:Program} {w:World} {H:Hp} {h:Heap} {a:Addr} {u:HO} (r:Rd H a u) (x:HOk P w H h):ObjOk P w H h a u:=by
  rcases r with r | ⟨o,r⟩
  · exact x a u r
  · obtain ⟨_,q⟩:=x a _ r
    exact q
def Mut:Option HO->Prop
  | some (.lst _)=>True
  | some (.dK _)=>True
  | some (.dT _)=>True
  | some (.set _ _)=>True
  | some (.ins _ _ _)=>True
  | some (.ext _)=>True
  | _=>False
section
variable {P:Program} {w:World} {H:Hp} {h h':Heap} {x e:Addr} {o':HO}
theorem HOk.write (ok:HOk P w H h) (mu:Mut (H x)) (he:e=x\/H e=some (.own x)) (k:∀ b u,b ≠ e->h.get? b=some u->h'.get? b=some u) (heo:∃ u,h'.get? e=some u)
    (new:ObjOk P w (upd H x o') h' x o'):HOk P w (upd H x o') h':=fun b u q=>by
  have nown:∀ c y,H c=some (.own y)->c ≠ x:=fun c y r z=>by subst z; rw [r] at mu; exact mu
  have ntup:∀ c xs,H c=some (.tup xs)->c ≠ x:=fun c xs r z=>by subst z; rw [r] at mu; exact mu
  by_cases hb:b=x
  · subst hb; rw [upd_same] at q; cases q; exact new
  · rw [upd_ne hb] at q
    by_cases hbe:b=e
    · have q':H b=some (.own x):=by
        rcases he with z | z
        · exact absurd (hbe.trans z) hb
        · rw [hbe]; exact z
      rw [q] at q'; cases q'
      obtain ⟨v,hv⟩:=heo
      exact ⟨v,by rw [hbe]; exact hv⟩
    · refine (ok b u q).stay (fun c v hc r=>k c v ?_ r) (fun c r=>by rw [upd_ne (nown c b r)]; exact r) fun c xs r=>by rw [upd_ne (ntup c xs r)]; exact r
      rcases hc with rfl | hc
      · exact hbe
      · rintro rfl
        rcases he with z | z
        · exact nown c b hc z
        · rw [hc] at z; cases z; exact hb rfl
end
structure Un (fs ex:List Addr) (H H':Hp) (h h':Heap):Prop where
  keep:∀ b o,h.get? b=some o->H b=none->b ∉ fs->b ∉ ex->h'.get? b=some o
  slot:∀ b o,h.get? b=some o->H b=none->b ∈ fs->b ∉ ex->∃ sl,h'.get? b=some { o with slots:=sl }
  free:∀ b o,h.get? b=some o->H b=none->b ∉ ex->H' b=none
  there:∀ b o,h.get? b=some o->b ∉ ex->∃ o',h'.get? b=some o'
  tups:∀ b xs,H b=some (.tup xs)->H' b=some (.tup xs)
  frzs:∀ b o u,H b=some (.frz o u)->H' b=some (.frz o u)
  tbls:∀ b ps,H b=some (.tbl ps)->∃ more,H' b=some (.tbl (ps ++ more))
section
variable {fs fs' ex ex':List Addr} {H H1 H2:Hp} {h h1 h2 h':Heap} {a x e:Addr} {o:HO}
theorem Un.any (u:Un fs ex H H1 h h1) {b:Addr} {ob:Obj} (q:h.get? b=some ob) (n:H b=none) (hx:b ∉ ex):∃ sl,h1.get? b=some { ob with slots:=sl }:=by
  by_cases hb:b ∈ fs
  · exact u.slot b ob q n hb hx
  · exact ⟨ob.slots,u.keep b ob q n hb hx⟩
theorem Un.kept (k:∀ b u,h.get? b=some u->h'.get? b=some u):Un fs ex H H h h':=
  ⟨fun b ob q _ _ _=>k b ob q,fun b ob q _ _ _=>⟨ob.slots,k b ob q⟩,fun _ _ _ n _=>n,fun b ob q _=>⟨ob,k b ob q⟩,fun _ _ q=>q,fun _ _ _ q=>q,fun _ ps q=>⟨#[],by rw [q]; simp⟩⟩
theorem Un.refl:Un fs ex H H h h:=Un.kept fun _ _ q=>q
theorem Un.laid (k:∀ b u,h.get? b=some u->h'.get? b=some u) (hp:h.objs.size<=a) (hn:H a=none):Un fs ex H (upd H a o) h h' where
  keep:=fun b u q _ _ _=>k b u q
  slot:=fun b u q _ _ _=>⟨u.slots,k b u q⟩
  free:=fun b u q n _=>by rw [upd_ne (Nat.ne_of_lt (Nat.lt_of_lt_of_le (Heap.lt_size q) hp))]; exact n
  there:=fun b u q _=>⟨u,k b u q⟩
  tups:=fun b xs q=>by rw [upd_ne (ne_of_none q hn)]; exact q
  frzs:=fun b u xs q=>by rw [upd_ne (ne_of_none q hn)]; exact q
  tbls:=fun b ps q=>⟨#[],by rw [upd_ne (ne_of_none q hn),q]; simp⟩
theorem Un.write (mu:Mut (H x)) (he:e=x\/H e=some (.own x)) (k:∀ b u,b ≠ e->h.get? b=some u->h'.get? b=some u) (heo:∃ u,h'.get? e=some u):Un fs ex H (upd H x o) h h':=by
  have hx:∀ b,H b=none->b ≠ x:=fun b n z=>by subst z; rw [n] at mu; exact mu
  have hb:∀ b,H b=none->b ≠ e:=fun b n z=>by
    subst z
    rcases he with r | r
    · exact hx b n r
    · rw [n] at r; cases r
  have hm:∀ b u,H b=some u->¬ Mut (some u)->b ≠ x:=fun b u q nm z=>by subst z; rw [q] at mu; exact nm mu
  refine ⟨fun b u q n _ _=>k b u (hb b n) q,fun b u q n _ _=>⟨u.slots,k b u (hb b n) q⟩,fun b u q n _=>by rw [upd_ne (hx b n)]; exact n,fun b u q _=>?_,
    fun b xs q=>by rw [upd_ne (hm b _ q fun z=>z)]; exact q,fun b u xs q=>by rw [upd_ne (hm b _ q fun z=>z)]; exact q,fun b ps q=>⟨#[],by rw [upd_ne (hm b _ q fun z=>z),q]; simp⟩⟩
  by_cases hbe:b=e
  · subst hbe; exact heo
  · exact ⟨u,k b u hbe q⟩
end
def trk (h:Heap) (H:Hp):List Addr:=(List.range h.objs.size).filter fun a=>(H a).isSome
def hidT (h:Heap) (H:Hp):Heap:=PySem.W.hideAll h (trk h H)
theorem hidT_size (h:Heap) (H:Hp):(hidT h H).objs.size=h.objs.size:=PySem.W.hideAll_size _ _
theorem hidT_get {h:Heap} {H:Hp} {b:Addr} {o:Obj} (e:h.get? b=some o) (n:H b=none):(hidT h H).get? b=some o:=
  PySem.W.hideAll_get _ e fun hm=>by
    have q:(H b).isSome=true:=(List.mem_filter.mp hm).2
    rw [n] at q; simp at q
theorem of_hidT {h:Heap} {H:Hp} {b:Addr} {o:Obj} (e:(hidT h H).get? b=some o):h.get? b=some o/\H b=none:=by
  have e':h.get? b=some o:=PySem.W.of_hideAll (trk h H) e
  refine ⟨e',?_⟩
  cases q:H b with
  | none=>rfl
  | some x=>
    have hm:b ∈ trk h H:=List.mem_filter.mpr ⟨List.mem_range.mpr (Heap.lt_size e'),by simp [q]⟩
    have z:(hidT h H).get? b=none:=PySem.W.hideAll_none (trk h H) hm
    rw [z] at e; cases e
def allNews (g h:Heap) (L:Addr):List (Addr × Obj):=(List.range h.objs.size).filterMap fun a=>if a=L\/(g.get? a).isSome=true then none else (h.get? a).map fun o=>(a,o)
def rest (g h:Heap) (L d:Addr):List (Addr × Obj):=(allNews g h L).filter fun p=>decide (p.1 ≠ d)
end L2
namespace L2
open PySem PySem.Spec PyProof.Rows
structure Mod (K:PySem.W.Frag) (mg:Str->Option Value) (base:Heap):Prop where
  kin:K.In base
  glob:base.Ns mainGlobals mg
  blt:∃ mb,base.Ns builtinsNs mb/\∀ x:Str,x ≠ "__name__" -> mb x=bootBuiltins x
  nolimit:base.NoLimit
structure Cx where
  prog:Program
  w:World
  K:PySem.W.Frag
  mg:Str->Option Value
  base:Heap
  A:Around
  N:List Str
  s₀:Shared
  H₀:Hp
  env:Env
  outer:List Env
  stack:List Env
  ex:List Addr
  fn:Str->Bool
  calm:Bool
  pn:List (Addr × Obj)
  xe:Value->Shared->Prop
def frs (l:List Env):List Addr:=l.filterMap (·.frame)
abbrev Cx.fs (X:Cx):List Addr:=frs X.outer
def Vis (sc:Scope) (x:Str):Prop:=sc.names.lookup x=some .local\/sc.names.lookup x=some .cell\/sc.names.lookup x=some .free
def Loc (sc:Scope) (x:Str):Prop:=sc.names.lookup x=some .local\/sc.names.lookup x=some .cell
def Look (env:Env) (h:Heap) (m:Str->Option Value) (x:Str) (u:Value):Prop:=
  (env.kindOf x=some .local/\m x=some u)\/((env.kindOf x=some .cell\/env.kindOf x=some .free)/\∃ c,env.cells.lookup x=some c/\h.IsCell c (some u))
structure Cx.Ok (X:Cx):Prop where
  mod:Mod X.K X.mg X.base
  kind:X.env.scope.kind=.function
  glob:X.env.globals=mainGlobals
  blt:X.env.builtins=builtinsNs
  above:X.s₀.heap.objs.size<=X.env.locals
  inj:∀ x y c,X.env.cells.lookup x=some c->X.env.cells.lookup y=some c->x=y
  has:∀ x,(X.env.kindOf x=some .cell\/X.env.kindOf x=some .free)->∃ c,X.env.cells.lookup x=some c
  cab:∀ x c,X.fn x=true->X.env.cells.lookup x=some c->X.s₀.heap.objs.size<=c
  hd:X.calm=true->X.A.handled=none
  frames:X.A.frames=some X.stack
  stk:X.stack=X.outer\/(X.stack=X.env :: X.outer/\X.env.frame=some X.env.locals)
  exf:∀ b ∈ X.ex,b ≠ X.env.locals/\∀ x c,X.env.cells.lookup x=some c->c ≠ b
  bs:∀ b o,X.base.get? b=some o->X.s₀.heap.get? b=some o/\X.H₀ b=none
  bsz:X.base.objs.size<=X.s₀.heap.objs.size
  noex:∀ b o,X.base.get? b=some o->b ∉ X.ex
  exfs:∀ b ∈ X.ex,b ∉ X.fs
  funs:X.s₀.heap.FunFrames X.base X.outer
  frf:∀ b ∈ X.fs,X.H₀ b=none
structure Inv (X:Cx) (pins:List (Addr × Obj)) (σ:List (Option V)) (H:Hp) (s:Shared):Prop where
  ok:X.Ok
  os:s.os=X.s₀.os
  bare:AllBare s.gens
  base:Un X.fs X.ex X.H₀ H X.s₀.heap s.heap
  loc:∃ m,s.heap.Ns X.env.locals m/\∀ (i:Nat) (x:Str) (v:V),X.N[i]?=some x->σ[i]?=some (some v)->Vis X.env.scope x->∃ u,RelV v u/\Look X.env s.heap m x u
  cell:∀ x c,X.env.cells.lookup x=some c->∃ v,s.heap.IsCell c v
  free:H X.env.locals=none
  freeC:∀ x c,X.env.cells.lookup x=some c->H c=none
  pin:∀ p ∈ X.pn ++ pins,s.heap.get? p.1=some p.2/\H p.1=none/\p.1 ≠ X.env.locals/\p.1 ∉ X.fs/\∀ v,p.2.data ≠ .cell v
  hok:HOk X.prog X.w H s.heap
  len:σ.length=X.N.length
section
variable {X:Cx} {pins:List (Addr × Obj)} {σ:List (Option V)} {H H':Hp} {s:Shared} {h':Heap}
theorem Cx.Ok.nofr (ok:X.Ok) {b:Addr} {o:Obj} (e:X.base.get? b=some o):b ∉ X.fs:=fun hb=>by
  have:=(ok.funs.mem hb).1
  rw [e] at this; cases this
theorem Inv.bs (I:Inv X pins σ H s):∀ b o,X.base.get? b=some o->s.heap.get? b=some o/\H b=none:=fun b o e=>
  ⟨I.base.keep b o (I.ok.bs b o e).1 (I.ok.bs b o e).2 (I.ok.nofr e) (I.ok.noex b o e),I.base.free b o (I.ok.bs b o e).1 (I.ok.bs b o e).2 (I.ok.noex b o e)⟩
theorem Inv.bk (I:Inv X pins σ H s):∀ b o,X.base.get? b=some o->s.heap.get? b=some o:=fun b o e=>(I.bs b o e).1
theorem Inv.mod (I:Inv X pins σ H s):Mod X.K X.mg X.base:=I.ok.mod
theorem Inv.kIn (I:Inv X pins σ H s):X.K.In s.heap:=I.ok.mod.kin.keeps I.bk
theorem Inv.lt (I:Inv X pins σ H s):X.env.locals < s.heap.objs.size:=let ⟨_,hn,_⟩:=I.loc; hn.lt
theorem Inv.sz (I:Inv X pins σ H s):X.s₀.heap.objs.size<=s.heap.objs.size:=Nat.le_trans I.ok.above (Nat.le_of_lt I.lt)
theorem Inv.nofs (I:Inv X pins σ H s) {a:Addr} (h:s.heap.objs.size<=a):a ∉ X.fs:=fun hb=>by
  obtain ⟨_,o,ho,_⟩:=I.ok.funs.mem hb
  exact absurd (Nat.lt_of_lt_of_le (Heap.lt_size ho) (Nat.le_trans I.sz h)) (Nat.lt_irrefl _)
theorem Inv.cne (I:Inv X pins σ H s):∀ x c,X.env.cells.lookup x=some c->c ≠ X.env.locals:=fun x c e z=>by
  obtain ⟨v,o,ho,hd⟩:=I.cell x c e
  obtain ⟨m,⟨o',es,ep,ho',hd',_⟩,_⟩:=I.loc
  rw [z,ho'] at ho; cases ho; rw [hd'] at hd; cases hd
theorem Inv.funs (I:Inv X pins σ H s):s.heap.FunFrames X.base X.outer:=by
  have all:∀ (l:List Env),(∀ b ∈ frs l,b ∈ X.fs)->X.s₀.heap.FunFrames X.base l->s.heap.FunFrames X.base l:=by
    intro l
    induction l with
    | nil=>intro _ _; trivial
    | cons env r ih=>
      intro hs hl
      obtain ⟨hk,⟨L,o,hf,hn,ho,hd⟩,hr⟩:=hl
      have hL:L ∈ X.fs:=hs L (by unfold frs; rw [List.filterMap_cons,hf]; exact List.mem_cons_self)
      obtain ⟨sl,e⟩:=I.base.slot L o ho (I.ok.frf L hL) hL fun z=>I.ok.exfs L z hL
      exact ⟨hk,⟨L,_,hf,hn,e,hd⟩,ih (fun b hb=>hs b (by unfold frs; rw [List.filterMap_cons,hf]; exact List.mem_cons_of_mem _ hb)) hr⟩
  exact all X.outer (fun _ hb=>hb) I.ok.funs
theorem Inv.stack (I:Inv X pins σ H s):s.heap.FunFrames X.base X.stack:=by
  rcases I.ok.stk with e | ⟨e,hf⟩
  · rw [e]; exact I.funs
  · rw [e]
    obtain ⟨m,hn,_⟩:=I.loc
    refine .cons (by rw [I.ok.kind]; decide) hf hn ?_ I.funs
    exact Heap.get?_none_of_le (Nat.le_trans I.ok.bsz I.ok.above)
theorem Inv.stkSub (I:Inv X pins σ H s):∀ b ∈ frs X.stack,b ∈ X.env.locals :: X.fs:=fun b hb=>by
  rcases I.ok.stk with e | ⟨e,hf⟩
  · rw [e] at hb; exact List.mem_cons_of_mem _ hb
  · rw [e] at hb
    unfold frs at hb
    rw [List.filterMap_cons,hf] at hb
    exact hb
theorem Inv.stkFree (I:Inv X pins σ H s):∀ b ∈ frs X.stack,H b=none:=fun b hb=>by
  rcases List.mem_cons.mp (I.stkSub b hb) with e | hb
  · rw [e]; exact I.free
  · obtain ⟨_,o,ho,_⟩:=I.ok.funs.mem hb
    exact I.base.free b o ho (I.ok.frf b hb) fun z=>I.ok.exfs b z hb
theorem Inv.step {g':Array GenState} {t':Nat} {d':Drawn} {ch:List Addr} (I:Inv X pins σ H s)
    (hch:∀ b ∈ ch,(b ∈ X.ex\/X.s₀.heap.objs.size<=b)/\b ≠ X.env.locals/\(∀ x c,X.env.cells.lookup x=some c->c ≠ b)/\∀ p ∈ X.pn ++ pins,p.1 ≠ b)
    (keep:∀ b o,b ≠ X.env.locals->b ∉ X.fs->b ∉ ch->s.heap.get? b=some o->H b=none->h'.get? b=some o)
    (slot:∀ b o,b ≠ X.env.locals->b ∈ X.fs->b ∉ ch->s.heap.get? b=some o->H b=none->∃ sl,h'.get? b=some { o with slots:=sl }) (free:∀ b o,b ∉ ch->s.heap.get? b=some o->H b=none->H' b=none)
    (there:∀ b o,b ∉ ch->s.heap.get? b=some o->∃ o',h'.get? b=some o')
    (tups:∀ b xs,H b=some (.tup xs)->H' b=some (.tup xs)) (frzs:∀ b o u,H b=some (.frz o u)->H' b=some (.frz o u)) (tbls:∀ b ps,H b=some (.tbl ps)->∃ more,H' b=some (.tbl (ps ++ more)))
    (ns:∀ m,s.heap.Ns X.env.locals m->h'.Ns X.env.locals m) (hok:HOk X.prog X.w H' h') (hg:AllBare g') :
    Inv X pins σ H' { s with heap:=h',gens:=g',drawn:=d',toks:=t' }:=by
  have neL:∀ b o,X.s₀.heap.get? b=some o->b ≠ X.env.locals:=fun b o e=>Nat.ne_of_lt (Nat.lt_of_lt_of_le (Heap.lt_size e) I.ok.above)
  have neC:∀ b o,X.s₀.heap.get? b=some o->b ∉ X.ex->b ∉ ch:=fun b o e hx hb=>by
    rcases (hch b hb).1 with z | z
    · exact hx z
    · exact absurd (Nat.lt_of_lt_of_le (Heap.lt_size e) z) (Nat.lt_irrefl _)
  have cellK:∀ x c,X.env.cells.lookup x=some c->∀ v,s.heap.IsCell c v->h'.IsCell c v:=fun x c e v ⟨o,ho,hd⟩=>by
    have nch:c ∉ ch:=fun z=>(hch c z).2.2.1 x c e rfl
    by_cases hc:c ∈ X.fs
    · obtain ⟨sl,q⟩:=slot c o (I.cne x c e) hc nch ho (I.freeC x c e)
      exact ⟨_,q,hd⟩
    · exact ⟨o,keep c o (I.cne x c e) hc nch ho (I.freeC x c e),hd⟩
  refine ⟨I.ok,I.os,hg,⟨fun b o e n hb hx=>?_,fun b o e n hb hx=>?_,fun b o e n hx=>?_,fun b o e hx=>?_,fun b xs e=>tups b xs (I.base.tups b xs e),fun b o xs e=>frzs b o xs (I.base.frzs b o xs e),fun b ps e=>?_⟩,?_,fun x c e=>?_,?_,fun x c e=>?_,fun p hp=>?_,hok,I.len⟩
  · exact keep b o (neL b o e) hb (neC b o e hx) (I.base.keep b o e n hb hx) (I.base.free b o e n hx)
  · obtain ⟨sl,e1⟩:=I.base.slot b o e n hb hx
    obtain ⟨sl',e2⟩:=slot b _ (neL b o e) hb (neC b o e hx) e1 (I.base.free b o e n hx)
    exact ⟨sl',e2⟩
  · obtain ⟨o',e1⟩:=I.base.there b o e hx
    exact free b o' (neC b o e hx) e1 (I.base.free b o e n hx)
  · obtain ⟨o',e1⟩:=I.base.there b o e hx
    exact there b o' (neC b o e hx) e1
  · obtain ⟨m1,e1⟩:=I.base.tbls b ps e
    obtain ⟨m2,e2⟩:=tbls b _ e1
    exact ⟨m1 ++ m2,by rw [e2,Array.append_assoc]⟩
  · obtain ⟨m,hn,hl⟩:=I.loc
    refine ⟨m,ns m hn,fun i x v e1 e2 e3=>?_⟩
    obtain ⟨u,r,l⟩:=hl i x v e1 e2 e3
    refine ⟨u,r,?_⟩
    rcases l with l | ⟨k,c,e,z⟩
    · exact .inl l
    · exact .inr ⟨k,c,e,cellK x c e _ z⟩
  · obtain ⟨v,z⟩:=I.cell x c e
    exact ⟨v,cellK x c e v z⟩
  · obtain ⟨m,⟨o,_,_,ho,_⟩,_⟩:=I.loc
    exact free _ o (fun z=>(hch _ z).2.1 rfl) ho I.free
  · obtain ⟨v,o,ho,hd⟩:=I.cell x c e
    exact free c o (fun z=>(hch c z).2.2.1 x c e rfl) ho (I.freeC x c e)
  · obtain ⟨e,n,ne,nf,d⟩:=I.pin p hp
    have nch:p.1 ∉ ch:=fun z=>(hch p.1 z).2.2.2 p hp rfl
    exact ⟨keep p.1 p.2 ne nf nch e n,free p.1 p.2 nch e n,ne,nf,d⟩
theorem Inv.un {t':Nat} (I:Inv X pins σ H s) (u:Un X.fs [] H H' s.heap h') (hok:HOk X.prog X.w H' h'):Inv X pins σ H' { s with heap:=h',toks:=t' }:=by
  obtain ⟨m,⟨o,es,ep,ho,r⟩,_⟩:=id I.loc
  obtain ⟨sl,hL⟩:=u.any ho I.free (by simp)
  exact I.step (g':=s.gens) (d':=s.drawn) (ch:=[]) (fun _ z=>nomatch z) (fun b o _ hb _ e n=>u.keep b o e n hb (by simp)) (fun b o _ hb _ e n=>u.slot b o e n hb (by simp)) (fun b o _ e n=>u.free b o e n (by simp)) (fun b o _ e=>u.there b o e (by simp)) u.tups u.frzs u.tbls (fun m' hm=>by
    obtain ⟨o',es',ep',ho',r'⟩:=hm
    rw [ho] at ho'; cases ho'
    exact ⟨_,es',ep',hL,r'⟩) hok I.bare
theorem Inv.call {g':Array GenState} {t':Nat} {d':Drawn} {ch:List Addr} (I:Inv X pins σ H s) (u:Un (frs X.stack) ch H H' s.heap h') (hok:HOk X.prog X.w H' h') (hg:AllBare g')
    (hch:∀ b ∈ ch,(b ∈ X.ex\/X.s₀.heap.objs.size<=b)/\b ≠ X.env.locals/\(∀ x c,X.env.cells.lookup x=some c->c ≠ b)/\∀ p ∈ X.pn ++ pins,p.1 ≠ b) :
    Inv X pins σ H' { s with heap:=h',gens:=g',drawn:=d',toks:=t' }:=by
  obtain ⟨m,⟨o,es,ep,ho,r⟩,_⟩:=id I.loc
  obtain ⟨sl,hL⟩:=u.any ho I.free fun z=>(hch _ z).2.1 rfl
  exact I.step (ch:=ch) hch (fun b o hL hb hc e n=>u.keep b o e n (fun z=>(List.mem_cons.mp (I.stkSub b z)).elim hL hb) hc) (fun b o _ _ hc e n=>u.any e n hc) (fun b o hc e n=>u.free b o e n hc) (fun b o hc e=>u.there b o e hc) u.tups u.frzs u.tbls (fun m' hm=>by
    obtain ⟨o',es',ep',ho',r'⟩:=hm
    rw [ho] at ho'; cases ho'
    exact ⟨_,es',ep',hL,r'⟩) hok hg
theorem Inv.turned {t':Nat} {it:Addr} (I:Inv X pins σ H s) (k:∀ b o,b ≠ it->s.heap.get? b=some o->h'.get? b=some o) (hn:H it=none) (hL:it ≠ X.env.locals)
    (h1:it ∈ X.ex\/X.s₀.heap.objs.size<=it) (h2:∀ x c,X.env.cells.lookup x=some c->c ≠ it) (h3:∀ p ∈ X.pn ++ pins,p.1 ≠ it):Inv X pins σ H { s with heap:=h',toks:=t' }:=by
  have nit:∀ b u,H b=some u->b ≠ it:=fun b u e z=>by rw [z,hn] at e; cases e
  refine I.step (g':=s.gens) (d':=s.drawn) (ch:=[it]) (fun b hb=>?_) (fun b o _ _ hc e _=>k b o (fun z=>hc (by simp [z])) e) (fun b o _ _ hc e _=>⟨o.slots,k b o (fun z=>hc (by simp [z])) e⟩) (fun _ _ _ _ n=>n)
    (fun b o hc e=>⟨o,k b o (fun z=>hc (by simp [z])) e⟩) (fun _ _ e=>e) (fun _ _ _ e=>e) (fun b ps e=>⟨#[],by rw [e]; simp⟩) (fun m hm=>?_) (fun b u e=>?_) I.bare
  · have e:b=it:=by simpa using hb
    subst e
    exact ⟨h1,hL,h2,h3⟩
  · obtain ⟨o,es,ep,ho,r⟩:=hm
    exact ⟨o,es,ep,k _ o (Ne.symm hL) ho,r⟩
  · refine (I.hok b u e).stay (fun c v hc q=>k c v ?_ q) (fun _ q=>q) fun _ _ q=>q
    rcases hc with z | z
    · rw [z]; exact nit b u e
    · exact nit c _ z
theorem Inv.tok (I:Inv X pins σ H s) (t:Nat):Inv X pins σ H { s with toks:=t }:=I.un (h':=s.heap) (t':=t) Un.refl I.hok
theorem Inv.kept {t':Nat} (I:Inv X pins σ H s) (k:∀ b u,s.heap.get? b=some u->h'.get? b=some u):Inv X pins σ H { s with heap:=h',toks:=t' }:=I.un (Un.kept k) (I.hok.kept k)
theorem Inv.laid {a:Addr} {o:HO} {t':Nat} (I:Inv X pins σ H s) (k:∀ b u,s.heap.get? b=some u->h'.get? b=some u) (hp:s.heap.objs.size<=a) (new:ObjOk X.prog X.w (upd H a o) h' a o) :
    Inv X pins σ (upd H a o) { s with heap:=h',toks:=t' }:=I.un (Un.laid k hp (I.hok.fresh hp)) (I.hok.laid k hp new)
theorem Inv.write {x e:Addr} {o:HO} {t':Nat} (I:Inv X pins σ H s) (mu:Mut (H x)) (he:e=x\/H e=some (.own x)) (k:∀ b u,b ≠ e->s.heap.get? b=some u->h'.get? b=some u) (heo:∃ u,h'.get? e=some u)
    (new:ObjOk X.prog X.w (upd H x o) h' x o):Inv X pins σ (upd H x o) { s with heap:=h',toks:=t' }:=I.un (Un.write mu he k heo) (I.hok.write mu he k heo new)
theorem Inv.pins_of {pins':List (Addr × Obj)} (I:Inv X pins σ H s) (h:∀ p ∈ pins',s.heap.get? p.1=some p.2/\H p.1=none/\p.1 ≠ X.env.locals/\p.1 ∉ X.fs/\∀ v,p.2.data ≠ .cell v):Inv X pins' σ H s:=
  ⟨I.ok,I.os,I.bare,I.base,I.loc,I.cell,I.free,I.freeC,fun p hp=>(List.mem_append.mp hp).elim (fun z=>I.pin p (List.mem_append_left _ z)) (h p),I.hok,I.len⟩
theorem nodup_ix {N:List Str} (hN:N.Nodup) {i j:Nat} {x:Str} (a:N[i]?=some x) (b:N[j]?=some x):i=j:=by
  obtain ⟨h1,e1⟩:=List.getElem?_eq_some_iff.mp a
  obtain ⟨h2,e2⟩:=List.getElem?_eq_some_iff.mp b
  exact (List.getElem_inj hN).mp (e1.trans e2.symm)
theorem store_ok2 {M:Model} {A:Around} {E:Value->Shared->Prop} {i:Nat} {x:Str} {v:V} {u:Value} {Q:Unit->Shared->Prop} (I:Inv X pins σ H s) (hN:X.N.Nodup) (hi:X.N[i]?=some x) (hx:Loc X.env.scope x) (r:RelV v u)
    (h:∀ s',Inv X pins (σ.set i (some v)) H s'->(∃ a,Heap.SameBut a s.heap s'.heap/\(a=X.env.locals\/X.env.cells.lookup x=some a))->Q () s') (hf:X.fn x=true\/X.env.scope.names.lookup x=some .local:=by first | exact .inl rfl | exact .inr rfl | assumption):wpAny M A (storeName X.env x u) Q E s:=by
  obtain ⟨m,hn,hl⟩:=id I.loc
  have hcls:(X.env.scope.kind == .class || (X.env.scope.kind == .module && X.env.locals != X.env.globals))=false:=by rw [I.ok.kind]; rfl
  have hiσ:i < σ.length:=by rw [I.len]; exact (List.getElem?_eq_some_iff.mp hi).1
  have cne:=I.cne
  have tracked:∀ {a:Addr} {h':Heap},(∃ o,s.heap.get? a=some o/\H a=none)->Heap.SameBut a s.heap h'->HOk X.prog X.w H h':=fun {a h'} ha hs b ob e=>by
    obtain ⟨_,_,hfree⟩:=ha
    refine (I.hok b ob e).stay (fun c w' hc q=>(hs.2 c ?_).trans q) (fun _ q=>q) fun _ _ q=>q
    rintro rfl
    rcases hc with rfl | hc
    · rw [hfree] at e; cases e
    · rw [hfree] at hc; cases hc
  rcases hx with hk | hk
  · refine wpAny_storeName_local hk hn (fun h' hn' hs=>?_) hcls
    obtain ⟨oL,_,_,hoL,_⟩:=id hn
    refine h _ ⟨I.ok,I.os,I.bare,⟨fun b o e n hb hx=>?_,fun b o e n hb hx=>?_,I.base.free,fun b o e hx=>?_,I.base.tups,I.base.frzs,I.base.tbls⟩,⟨_,hn',fun j y v' e1 e2 e3=>?_⟩,fun y c e=>?_,I.free,I.freeC,fun p hp=>?_,tracked ⟨oL,hoL,I.free⟩ hs,by simpa using I.len⟩ ⟨_,hs,.inl rfl⟩
    · exact (hs.2 b (Nat.ne_of_lt (Nat.lt_of_lt_of_le (Heap.lt_size e) I.ok.above))).trans (I.base.keep b o e n hb hx)
    · obtain ⟨sl,e1⟩:=I.base.slot b o e n hb hx
      exact ⟨sl,(hs.2 b (Nat.ne_of_lt (Nat.lt_of_lt_of_le (Heap.lt_size e) I.ok.above))).trans e1⟩
    · obtain ⟨o',e1⟩:=I.base.there b o e hx
      exact ⟨o',(hs.2 b (Nat.ne_of_lt (Nat.lt_of_lt_of_le (Heap.lt_size e) I.ok.above))).trans e1⟩
    · by_cases hj:j=i
      · subst hj
        rw [hi] at e1; cases e1
        rw [List.getElem?_set_self hiσ] at e2
        cases e2
        exact ⟨u,r,.inl ⟨hk,by simp⟩⟩
      · rw [List.getElem?_set_ne (Ne.symm hj)] at e2
        obtain ⟨u',r',q⟩:=hl j y v' e1 e2 e3
        refine ⟨u',r',?_⟩
        rcases q with ⟨k,e⟩ | ⟨k,c,e,z⟩
        · refine .inl ⟨k,?_⟩
          have:y ≠ x:=fun e=>hj (nodup_ix hN e1 (e ▸ hi))
          simp [this,e]
        · exact .inr ⟨k,c,e,z.sameBut hs (cne y c e)⟩
    · obtain ⟨w',z⟩:=I.cell y c e
      exact ⟨w',z.sameBut hs (cne y c e)⟩
    · obtain ⟨e,n,ne,nf,d⟩:=I.pin p hp
      exact ⟨(hs.2 p.1 ne).trans e,n,ne,nf,d⟩
  · have hfn:X.fn x=true:=by
      rcases hf with z | z
      · exact z
      · rw [z] at hk; cases hk
    obtain ⟨c,hc⟩:=I.ok.has x (.inl hk)
    obtain ⟨w',z⟩:=I.cell x c hc
    refine wpAny_storeName_cell I.ok.kind hk hc z (fun h' hc' hs=>?_)
    obtain ⟨oc,hoc,hocd⟩:=id z
    refine h { s with heap:=h' } ⟨I.ok,I.os,I.bare,⟨fun b o e n hb hx=>?_,fun b o e n hb hx=>?_,I.base.free,fun b o e hx=>?_,I.base.tups,I.base.frzs,I.base.tbls⟩,⟨m,hn.sameBut hs (Ne.symm (cne x c hc)),fun j y v' e1 e2 e3=>?_⟩,fun y c' e=>?_,I.free,I.freeC,fun p hp=>?_,tracked ⟨oc,hoc,I.freeC x c hc⟩ hs,by simpa using I.len⟩ ⟨c,hs,.inr hc⟩
    · exact (hs.2 b (Nat.ne_of_lt (Nat.lt_of_lt_of_le (Heap.lt_size e) (I.ok.cab x c hfn hc)))).trans (I.base.keep b o e n hb hx)
    · obtain ⟨sl,e1⟩:=I.base.slot b o e n hb hx
      exact ⟨sl,(hs.2 b (Nat.ne_of_lt (Nat.lt_of_lt_of_le (Heap.lt_size e) (I.ok.cab x c hfn hc)))).trans e1⟩
    · obtain ⟨o',e1⟩:=I.base.there b o e hx
      exact ⟨o',(hs.2 b (Nat.ne_of_lt (Nat.lt_of_lt_of_le (Heap.lt_size e) (I.ok.cab x c hfn hc)))).trans e1⟩
    · by_cases hj:j=i
      · subst hj
        rw [hi] at e1; cases e1
        rw [List.getElem?_set_self hiσ] at e2
        cases e2
        exact ⟨u,r,.inr ⟨.inl hk,c,hc,hc'⟩⟩
      · rw [List.getElem?_set_ne (Ne.symm hj)] at e2
        obtain ⟨u',r',q⟩:=hl j y v' e1 e2 e3
        refine ⟨u',r',?_⟩
        rcases q with q | ⟨k,c',e,z'⟩
        · exact .inl q
        · refine .inr ⟨k,c',e,z'.sameBut hs ?_⟩
          rintro rfl
          exact hj (nodup_ix hN e1 (I.ok.inj _ _ _ e hc ▸ hi))
    · by_cases hcc:c'=c
      · subst hcc; exact ⟨_,hc'⟩
      · obtain ⟨w2,z2⟩:=I.cell y c' e
        exact ⟨w2,z2.sameBut hs hcc⟩
    · obtain ⟨e,n,ne,nf,d⟩:=I.pin p hp
      refine ⟨(hs.2 p.1 ?_).trans e,n,ne,nf,d⟩
      intro q
      rw [q,hoc] at e
      have q':oc=p.2:=Option.some.inj e
      exact d w' (by rw [<- q']; exact hocd)
theorem store_ok {M:Model} {A:Around} {E:Value->Shared->Prop} {i:Nat} {x:Str} {v:V} {u:Value} {Q:Unit->Shared->Prop} (I:Inv X pins σ H s) (hN:X.N.Nodup) (hi:X.N[i]?=some x) (hx:Loc X.env.scope x) (r:RelV v u)
    (h:∀ s',Inv X pins (σ.set i (some v)) H s'->Q () s') (hf:X.fn x=true\/X.env.scope.names.lookup x=some .local:=by first | exact .inl rfl | exact .inr rfl | assumption):wpAny M A (storeName X.env x u) Q E s:=
  store_ok2 I hN hi hx r (fun s' I' _=>h s' I') hf
theorem Inv.call' {s':Shared} {ch:List Addr} (I:Inv X pins σ H s) (ho:s'.os=s.os) (u:Un (frs X.stack) ch H H' s.heap s'.heap) (hok:HOk X.prog X.w H' s'.heap) (hg:AllBare s'.gens)
    (hch:∀ b ∈ ch,(b ∈ X.ex\/X.s₀.heap.objs.size<=b)/\b ≠ X.env.locals/\(∀ x c,X.env.cells.lookup x=some c->c ≠ b)/\∀ p ∈ X.pn ++ pins,p.1 ≠ b):Inv X pins σ H' s':=by
  obtain ⟨h',g',d',t',o'⟩:=s'
  have e:o'=s.os:=ho
  subst e
  exact I.call (g':=g') (t':=t') (d':=d') u hok hg hch
end
abbrev XK:=Value->Option Addr->Hp->Prop
abbrev St:=List (Option V)
abbrev VK:=V->Hp->Prop
abbrev TE:=St->Hp->VK->Prop
abbrev TT:=St->Hp->(Bool->Hp->Prop)->Prop
abbrev TA:=St->Hp->(List V->Hp->Prop)->Prop
structure Ends where
  nx:St->Hp->Prop
  rt:VK
  bk:St->Hp->Prop:=fun _ _=>False
  ct:St->Hp->Prop:=fun _ _=>False
abbrev TS:=Ends->St->Hp->Prop
def EP (X:Cx) (pins:List (Addr × Obj)) (σ:St) (Q:VK) (u:Value) (s':Shared):Prop:=∃ v H',Inv X pins σ H' s'/\RelV v u/\Q v H'
def TP (X:Cx) (pins:List (Addr × Obj)) (σ:St) (Q:Bool->Hp->Prop) (b:Bool) (s':Shared):Prop:=∃ H',Inv X pins σ H' s'/\Q b H'
def AP (X:Cx) (pins:List (Addr × Obj)) (σ:St) (Q:List V->Hp->Prop) (us:List Value) (s':Shared):Prop:=∃ vs H',Inv X pins σ H' s'/\Vals vs us/\Q vs H'
def SP (X:Cx) (pins:List (Addr × Obj)) (D:Ends) (f:Flow) (s':Shared):Prop:=
  match f with
  | .next=>∃ σ' H',Inv X pins σ' H' s'/\D.nx σ' H'
  | .brk=>∃ σ' H',Inv X pins σ' H' s'/\D.bk σ' H'
  | .cont=>∃ σ' H',Inv X pins σ' H' s'/\D.ct σ' H'
  | .ret u=>∃ v σ' H',Inv X pins σ' H' s'/\RelV v u/\D.rt v H'
def PE (X:Cx) (e:Expr) (t:TE):Prop:=
  ∀ (pins:List (Addr × Obj)) (s:Shared) (σ:St) (H:Hp) (Q:VK),Inv X pins σ H s->t σ H Q->wpAny (model X.prog X.w) X.A (eval e X.env) (EP X pins σ Q) X.xe s
def PT (X:Cx) (e:Expr) (t:TT):Prop:=
  ∀ (pins:List (Addr × Obj)) (s:Shared) (σ:St) (H:Hp) (Q:Bool->Hp->Prop),Inv X pins σ H s->t σ H Q->wpAny (model X.prog X.w) X.A (isTrue e X.env (eval e X.env)) (TP X pins σ Q) X.xe s
def PW (X:Cx) (e:Expr) (t:TT):Prop:=
  ∀ (whole:Sem Value) (pins:List (Addr × Obj)) (s:Shared) (σ:St) (H:Hp) (Q:Bool->Hp->Prop),Inv X pins σ H s->t σ H Q->wpAny (model X.prog X.w) X.A (isTrue e X.env whole) (TP X pins σ Q) X.xe s
def PA (X:Cx) (es:List Expr) (t:TA):Prop:=
  ∀ (pos:Pos) (pins:List (Addr × Obj)) (s:Shared) (σ:St) (H:Hp) (Q:List V->Hp->Prop),Inv X pins σ H s->t σ H Q->wpAny (model X.prog X.w) X.A (spliced (backTo pos (starEach es X.env))) (AP X pins σ Q) X.xe s
def PS (X:Cx) (st:Stmt) (t:TS):Prop:=
  ∀ (pins:List (Addr × Obj)) (s:Shared) (σ:St) (H:Hp) (D:Ends),Inv X pins σ H s->t D σ H->wpAny (model X.prog X.w) X.A (exec st X.env) (SP X pins D) X.xe s
def PSs (X:Cx) (st:List Stmt) (t:TS):Prop:=
  ∀ (pins:List (Addr × Obj)) (s:Shared) (σ:St) (H:Hp) (D:Ends),Inv X pins σ H s->t D σ H->wpAny (model X.prog X.w) X.A (execs st X.env) (SP X pins D) X.xe s
theorem thn {α:Type} {t:Sem α} {Q Q':α->Shared->Prop} {M:Model} {A:Around} {E:Value->Shared->Prop} {s:Shared} (h:wpAny M A t Q E s) (hQ:∀ a s,Q a s->Q' a s):wpAny M A t Q' E s:=wpAny_mono h hQ fun _ _ x=>x
end L2
namespace L2
open PySem PySem.Spec PyProof.Rows
section
variable {X:Cx}
def tVar (i:Nat):TE:=fun σ H Q=>∃ v,σ[i]?=some (some v)/\Q v H
def tC (v:V):TE:=fun _ H Q=>Q v H
theorem pe_var {i:Nat} {x:Str} {pos:Pos} (hN:X.N[i]?=some x) (hv:Vis X.env.scope x) (hd:(x == ("__debug__" : Str))=false:=by decide) (hcd:(x == ("__classdict__" : Str))=false:=by decide):PE X (.Name x pos) (tVar i):=by
  intro pins s σ H Q I h
  obtain ⟨v,e,h⟩:=h
  obtain ⟨m,hn,hl⟩:=I.loc
  obtain ⟨u,r,l⟩:=hl i x v hN e hv
  have fin:EP X pins σ Q u s:=⟨v,H,I,r,h⟩
  rcases l with ⟨hk,hm⟩ | ⟨hk,c,hc,hcell⟩
  · exact wpAny_Name (wpAny_loadName_local I.ok.kind hk hn hm fin) hd
  · rcases hk with hk | hk
    · exact wpAny_Name (wpAny_loadName_cell I.ok.kind hk hc hcell fin) hd
    · exact wpAny_Name (wpAny_loadName_free I.ok.kind hk hc hcell fin hcd) hd
theorem pe_int {i j pos}:PE X (.Constant (.int i) j pos) (tC (.int i)):=fun _ _ _ H _ I h=>wpAny_Constant_int ⟨.int i,H,I.tok _,⟨_,rfl⟩,h⟩
theorem pe_bl {b j pos}:PE X (.Constant (.bool b) j pos) (tC (.bl b)):=fun _ _ _ H _ I h=>Constant_bool ⟨.bl b,H,I,rfl,h⟩
theorem pe_non {j pos}:PE X (.Constant .none j pos) (tC .non):=fun _ _ _ H _ I h=>Constant_none ⟨.non,H,I,rfl,h⟩
theorem pe_str {x j pos}:PE X (.Constant (.str x) j pos) (tC (.str x)):=fun _ _ _ H _ I h=>Calls.Constant_str ⟨.str x,H,I.tok _,⟨_,rfl⟩,h⟩
def Gl (X:Cx) (x:Str):Prop:=X.env.kindOf x=some .globalImplicit
theorem ld_glob {E:Value->Shared->Prop} {pins:List (Addr × Obj)} {s:Shared} {σ:St} {H:Hp} {x:Str} {u:Value} {pos:Pos} {Q:Value->Shared->Prop} (I:Inv X pins σ H s) (hg:Gl X x) (hm:X.mg x=some u) (h:Q u s)
    (hd:(x == ("__debug__" : Str))=false:=by decide):wpAny (model X.prog X.w) X.A (eval (.Name x pos) X.env) Q E s:=
  Calls.Name_function_global I.ok.kind hg (Calls.loadGlobal_global (by rw [I.ok.glob]; exact I.mod.glob.keeps I.bk) hm h) hd
theorem ld_blt {E:Value->Shared->Prop} {pins:List (Addr × Obj)} {s:Shared} {σ:St} {H:Hp} {x:Str} {u:Value} {pos:Pos} {Q:Value->Shared->Prop} (I:Inv X pins σ H s) (hg:Gl X x) (hm:X.mg x=none) (hv:bootBuiltins x=some u) (h:Q u s)
    (hn:x ≠ "__name__" := by decide) (hd:(x == ("__debug__" : Str))=false:=by decide):wpAny (model X.prog X.w) X.A (eval (.Name x pos) X.env) Q E s:=by
  obtain ⟨mb,h1,h2⟩:=I.mod.blt
  exact Calls.Name_function_global I.ok.kind hg (Calls.loadGlobal_builtin (by rw [I.ok.glob]; exact I.mod.glob.keeps I.bk) hm (by rw [I.ok.blt]; exact h1.keeps I.bk) ((h2 x hn).trans hv) h) hd
theorem pe_glob {x:Str} {v:V} {u:Value} {pos:Pos} (hg:Gl X x) (hm:X.mg x=some u) (r:RelV v u) (hd:(x == ("__debug__" : Str))=false:=by decide):PE X (.Name x pos) (tC v):=
  fun _ _ _ H _ I h=>ld_glob I hg hm ⟨v,H,I,r,h⟩ hd
theorem pe_bltn {x:Str} {v:V} {u:Value} {pos:Pos} (hg:Gl X x) (hm:X.mg x=none) (hv:bootBuiltins x=some u) (r:RelV v u) (hn:x ≠ "__name__" := by decide) (hd:(x == ("__debug__" : Str))=false:=by decide):PE X (.Name x pos) (tC v):=
  fun _ _ _ H _ I h=>ld_blt I hg hm hv ⟨v,H,I,r,h⟩ hn hd
variable {a b:Expr} {ta tb:TE} {pos:Pos}
def tB (t:TE):TT:=fun σ H Q=>t σ H fun x H1=>∃ c,x=.bl c/\Q c H1
theorem pt_val {e:Expr} {t:TE} (h:PE X e t) (he:∀ whole,isTrue e X.env whole=(do let v <- whole; standAt e.pos; holding [v] (truthy v)):=by intro _; rfl):PT X e (tB t):=by
  intro pins s σ H Q I hw
  refine isTrue_plain (thn (h pins s σ H _ I hw) fun v s1 ⟨x,H1,I1,r1,q1⟩=>?_) (he _)
  obtain ⟨d,rfl,q⟩:=q1
  cases r1
  exact wpAny_truthy_bool ⟨H1,I1,q⟩
variable {tA tB':TT} {rest:List Expr}
def tAnd (t u:TT):TT:=fun σ H Q=>t σ H fun c H1=>if c=true then u σ H1 Q else Q false H1
def tOr (t u:TT):TT:=fun σ H Q=>t σ H fun c H1=>if c=true then Q true H1 else u σ H1 Q
def tNot (t:TT):TT:=fun σ H Q=>t σ H fun c H1=>Q (!c) H1
theorem pw_and1 (ha:PT X a tA):PW X (.BoolOp .And [a] pos) tA:=by
  intro wh pins s σ H Q I h
  refine isTrue_and (thn (ha pins s σ H Q I h) fun c s1 e=>?_)
  cases c with
  | true=>exact isTrue_and_nil e
  | false=>exact e
theorem pw_or1 (ha:PT X a tA):PW X (.BoolOp .Or [a] pos) tA:=by
  intro wh pins s σ H Q I h
  refine isTrue_or (thn (ha pins s σ H Q I h) fun c s1 e=>?_)
  cases c with
  | false=>exact isTrue_or_nil e
  | true=>exact e
theorem pw_and (ha:PT X a tA) (hb:PW X (.BoolOp .And (b :: rest) pos) tB'):PW X (.BoolOp .And (a :: b :: rest) pos) (tAnd tA tB'):=by
  intro wh pins s σ H Q I h
  refine isTrue_and (thn (ha pins s σ H _ I h) fun c s1 ⟨H1,I1,q1⟩=>?_)
  cases c with
  | true=>exact hb wh pins s1 σ H1 Q I1 q1
  | false=>exact ⟨H1,I1,q1⟩
theorem pw_or (ha:PT X a tA) (hb:PW X (.BoolOp .Or (b :: rest) pos) tB'):PW X (.BoolOp .Or (a :: b :: rest) pos) (tOr tA tB'):=by
  intro wh pins s σ H Q I h
  refine isTrue_or (thn (ha pins s σ H _ I h) fun c s1 ⟨H1,I1,q1⟩=>?_)
  cases c with
  | true=>exact ⟨H1,I1,q1⟩
  | false=>exact hb wh pins s1 σ H1 Q I1 q1
theorem pt_not (ha:PT X a tA):PT X (.UnaryOp .Not a pos) (tNot tA):=by
  intro pins s σ H Q I h
  exact isTrue_not (ha pins s σ H (fun c H1=>Q (!c) H1) I h)
def tAndV (ta tb:TE):TE:=fun σ H Q=>ta σ H fun x H1=>∃ c,x=.bl c/\if c=true then tb σ H1 Q else Q (.bl false) H1
def tOrV (ta tb:TE):TE:=fun σ H Q=>ta σ H fun x H1=>∃ c,x=.bl c/\if c=true then Q (.bl true) H1 else tb σ H1 Q
def tNotV (ta:TE):TE:=fun σ H Q=>ta σ H fun x H1=>∃ c,x=.bl c/\Q (.bl (!c)) H1
theorem pe_one {op} {t:TE} (h:PE X a t):PE X (.BoolOp op [a] pos) t:=fun pins s σ H Q I hw=>BoolOp_one (h pins s σ H Q I hw)
theorem pe_and (ha:PE X a ta) (hb:PE X (.BoolOp .And (b :: rest) pos) tb):PE X (.BoolOp .And (a :: b :: rest) pos) (tAndV ta tb):=by
  intro pins s σ H Q I h
  refine BoolOp_and (thn (ha pins s σ H _ I h) fun v s1 ⟨x,H1,I1,r1,q1⟩=>?_)
  obtain ⟨c,rfl,q1⟩:=q1
  cases r1
  refine wpAny_truthy_bool ?_
  cases c with
  | true=>exact hb pins s1 σ H1 Q I1 q1
  | false=>exact ⟨.bl false,H1,I1,rfl,q1⟩
theorem pe_or (ha:PE X a ta) (hb:PE X (.BoolOp .Or (b :: rest) pos) tb):PE X (.BoolOp .Or (a :: b :: rest) pos) (tOrV ta tb):=by
  intro pins s σ H Q I h
  refine BoolOp_or (thn (ha pins s σ H _ I h) fun v s1 ⟨x,H1,I1,r1,q1⟩=>?_)
  obtain ⟨c,rfl,q1⟩:=q1
  cases r1
  refine wpAny_truthy_bool ?_
  cases c with
  | false=>exact hb pins s1 σ H1 Q I1 q1
  | true=>exact ⟨.bl true,H1,I1,rfl,q1⟩
theorem pe_not (ha:PE X a ta):PE X (.UnaryOp .Not a pos) (tNotV ta):=by
  intro pins s σ H Q I h
  refine UnaryOp_ (thn (ha pins s σ H _ I h) fun v s1 ⟨x,H1,I1,r1,q1⟩=>?_)
  obtain ⟨c,rfl,q1⟩:=q1
  cases r1
  exact not_of (wpAny_truthy_bool ⟨.bl (!c),H1,I1,rfl,q1⟩)
end
end L2
namespace L2
open PySem PySem.Spec PyProof.Rows
def SqL (K:PySem.W.Frag) (H:Hp) (a:Addr) (xs:List V):Prop:=
  Rd H a (.lst xs) \/
    ∃ (o:Obj) (its:Array Value) (n:Nat),K.lookup a=some o/\o.cls=.type "list" /\ o.dict=none/\o.data=.seq its n/\its.size<=sizeLine/\Vals xs its.toList
def SqT (K:PySem.W.Frag) (H:Hp) (a:Addr) (xs:List V):Prop:=
  Rd H a (.tup xs) \/
    ∃ (o:Obj) (its:Array Value) (n:Nat),K.lookup a=some o/\o.cls=.type "tuple" /\ o.data=.seq its n/\its.size<=sizeLine/\Vals xs its.toList
def absV:Value->Option V
  | .none=>some .non
  | .bool b=>some (.bl b)
  | .int i _=>some (.int i)
  | .str x _=>some (.str x)
  | .bytes b _=>some (.byt b)
  | .float b _=>some (.flt b)
  | .ref a=>some (.ref a)
  | .type n=>some (.ty n)
  | _=>none
theorem RelV.abs {x:V} {u:Value} (r:RelV x u):absV u=some x:=by
  cases x with
  | non=>cases r; rfl
  | bl _=>cases r; rfl
  | int _=>obtain ⟨t,rfl⟩:=r; rfl
  | str _=>obtain ⟨t,rfl⟩:=r; rfl
  | byt _=>obtain ⟨t,rfl⟩:=r; rfl
  | flt _=>obtain ⟨t,rfl⟩:=r; rfl
  | ref _=>cases r; rfl
  | ty _=>cases r; rfl
theorem RelV.inj {x y:V} {u:Value} (r:RelV x u) (q:RelV y u):x=y:=Option.some.inj (r.abs.symm.trans q.abs)
theorem Vals.inj:∀ {xs ys:List V} {us:List Value},Vals xs us->Vals ys us->xs=ys
  | _,_,_,.nil,.nil=>rfl
  | _,_,_,.cons r t,.cons r' t'=>by rw [r.inj r',Vals.inj t t']
section
variable {X:Cx} {pins:List (Addr × Obj)} {σ:St} {H:Hp} {s:Shared} {a:Addr} {xs ys:List V}
theorem SqL.of {K:PySem.W.Frag} (h:H a=some (.lst xs)):SqL K H a xs:=.inl (.inl h)
theorem SqT.of {K:PySem.W.Frag} (h:H a=some (.tup xs)):SqT K H a xs:=.inl (.inl h)
theorem Inv.list (I:Inv X pins σ H s) (h:SqL X.K H a xs):∃ its:List Value,Vals xs its/\PlainL s.heap a its.toArray/\xs.length<=sizeLine:=by
  rcases h with h | ⟨o,its,n,hk,hc,hd,hs,hz,r⟩
  · obtain ⟨z,its,n,r,e⟩:=h.ok I.hok
    exact ⟨its,r,⟨_,n,e,rfl,rfl,rfl⟩,z⟩
  · refine ⟨its.toList,r,⟨o,n,I.kIn a o hk,hc,hd,by simpa using hs⟩,?_⟩
    have e:=r.length
    simp only [Array.length_toList] at e
    omega
theorem Inv.tuple (I:Inv X pins σ H s) (h:SqT X.K H a xs):∃ its:List Value,Vals xs its/\IsTup s.heap a its.toArray/\xs.length<=sizeLine:=by
  rcases h with h | ⟨o,its,n,hk,hc,hs,hz,r⟩
  · obtain ⟨z,its,r,p⟩:=h.ok I.hok
    exact ⟨its,r,p,z⟩
  · refine ⟨its.toList,r,⟨o,I.kIn a o hk,hc,n,by simpa using hs⟩,?_⟩
    have e:=r.length
    simp only [Array.length_toList] at e
    omega
theorem Inv.list_inj (I:Inv X pins σ H s) (h:SqL X.K H a xs) (h':SqL X.K H a ys):xs=ys:=by
  obtain ⟨its,r,⟨o,n,e,_,_,d⟩,_⟩:=I.list h
  obtain ⟨its',r',⟨o',n',e',_,_,d'⟩,_⟩:=I.list h'
  rw [e] at e'; cases e'
  rw [d] at d'
  injection d' with d1 _
  have:its=its':=by simpa using congrArg Array.toList d1
  subst this
  exact r.inj r'
theorem Inv.tuple_inj (I:Inv X pins σ H s) (h:SqT X.K H a xs) (h':SqT X.K H a ys):xs=ys:=by
  obtain ⟨its,r,⟨o,e,_,n,d⟩,_⟩:=I.tuple h
  obtain ⟨its',r',⟨o',e',_,n',d'⟩,_⟩:=I.tuple h'
  rw [e] at e'; cases e'
  rw [d] at d'
  injection d' with d1 _
  have:its=its':=by simpa using congrArg Array.toList d1
  subst this
  exact r.inj r'
end
section
variable {X:Cx} {pins:List (Addr × Obj)} {σ:St} {H:Hp} {s:Shared} {E:Value->Shared->Prop}
end
section
variable {X:Cx} {st:Stmt} {rest:List Stmt} {t u:TS} {e:Expr} {te:TE} {pos:Pos}
def tNext:TS:=fun D σ H=>D.nx σ H
def tSeq (t u:TS):TS:=fun D σ H=>t { D with nx:=u D } σ H
theorem pss_nil:PSs X [] tNext:=fun _ _ σ H _ I h=>wpAny_execs_nil ⟨σ,H,I,h⟩
theorem pss_cons (h1:PS X st t) (h2:PSs X rest u):PSs X (st :: rest) (tSeq t u):=by
  intro pins s σ H D I h
  refine wpAny_execs_cons (thn (h1 pins s σ H { D with nx:=u D } I h) fun f s1 q=>?_)
  cases f with
  | next=>
    obtain ⟨σ',H',I',q⟩:=q
    exact h2 pins s1 σ' H' D I' q
  | ret v=>exact q
  | brk=>exact q
  | cont=>exact q
theorem pss_one (h1:PS X st t):PSs X [st] t:=by
  intro pins s σ H D I h
  refine wpAny_execs_cons (thn (h1 pins s σ H D I h) fun f s1 q=>?_)
  cases f with
  | next=>exact wpAny_execs_nil q
  | ret v=>exact q
  | brk=>exact q
  | cont=>exact q
def tBreak:TS:=fun D σ H=>D.bk σ H
theorem ps_break:PS X (.Break pos) tBreak:=fun _ _ σ H _ I h=>wpAny_Break ⟨σ,H,I,h⟩
theorem Inv.quiet {pins:List (Addr × Obj)} {σ:St} {H:Hp} {s:Shared} (I:Inv X pins σ H s):interactive X.env=false:=by simp [interactive,I.ok.kind]
def tDrop (te:TE):TS:=fun D σ H=>te σ H fun _ H1=>D.nx σ H1
theorem ps_expr (he:PE X e te) (hs:swapsWith e none pos.line X.env=pure false:=by rfl):PS X (.Expr e pos) (tDrop te):=by
  intro pins s σ H D I h
  exact wpAny_Expr_any (thn (he pins s σ H _ I h) fun v s1 ⟨x,H1,I1,r1,q1⟩=>⟨σ,H1,I1,q1⟩) I.quiet hs
def tRet (te:TE):TS:=fun D σ H=>te σ H D.rt
theorem ps_ret (he:PE X e te):PS X (.Return (some e) pos) (tRet te):=by
  intro pins s σ H D I h
  exact wpAny_Return_some (thn (he pins s σ H _ I h) fun v s1 ⟨x,H1,I1,r1,q1⟩=>⟨x,σ,H1,I1,r1,q1⟩)
def tIfS (c:TT) (t u:TS):TS:=fun D σ H=>c σ H fun b H1=>if b=true then t D σ H1 else u D σ H1
theorem ps_if {c:Expr} {a b:List Stmt} {tc:TT} (hc:PT X c tc) (ha:PSs X a t) (hb:PSs X b u):PS X (.If c a b pos) (tIfS tc t u):=by
  intro pins s σ H D I h
  refine wpAny_If (thn (hc pins s σ H _ I h) fun d s1 ⟨H1,I1,q1⟩=>?_)
  cases d with
  | true=>exact ha pins s1 σ H1 D I1 q1
  | false=>exact hb pins s1 σ H1 D I1 q1
end
abbrev TG:=V->St->Hp->(St->Hp->Prop)->Prop
abbrev TGs:=List V->St->Hp->(St->Hp->Prop)->Prop
def PG (X:Cx) (target:Expr) (t:TG):Prop:=
  ∀ (pins:List (Addr × Obj)) (s:Shared) (σ:St) (H:Hp) (v:V) (u:Value) (Q:St->Hp->Prop),Inv X pins σ H s->RelV v u->t v σ H Q ->
    wpAny (model X.prog X.w) X.A (assign target X.env u) (fun _ s'=>∃ σ' H',Inv X pins σ' H' s'/\Q σ' H') X.xe s
def PGs (X:Cx) (ts:List Expr) (t:TGs):Prop:=
  ∀ (pins:List (Addr × Obj)) (s:Shared) (σ:St) (H:Hp) (vs:List V) (us:List Value) (Q:St->Hp->Prop),Inv X pins σ H s->Vals vs us->t vs σ H Q ->
    wpAny (model X.prog X.w) X.A (assignInOrder ((assignEach ts X.env).map (·.2)) us) (fun _ s'=>∃ σ' H',Inv X pins σ' H' s'/\Q σ' H') X.xe s
abbrev TSet:=V->V->V->Hp->(Hp->Prop)->Prop
def PSet (X:Cx) (t:TSet):Prop:=
  ∀ (pins:List (Addr × Obj)) (s:Shared) (σ:St) (H:Hp) (o i v:V) (ov iv u:Value) (Q:Hp->Prop),Inv X pins σ H s->RelV o ov->RelV i iv->RelV v u->t o i v H Q ->
    wpAny (model X.prog X.w) X.A (setItem ov iv u) (fun _ s'=>∃ H',Inv X pins σ H' s'/\Q H') X.xe s
abbrev TIp:=V->V->Hp->VK->Prop
def PIp (X:Cx) (op:Operator) (t:TIp):Prop:=
  ∀ (pins:List (Addr × Obj)) (s:Shared) (σ:St) (H:Hp) (x y:V) (v u:Value) (Q:VK),Inv X pins σ H s->RelV x v->RelV y u->t x y H Q ->
    wpAny (model X.prog X.w) X.A (inplaceOp op v u) (EP X pins σ Q) X.xe s
section
variable {X:Cx} {pos:Pos}
def gName (i:Nat):TG:=fun v σ H Q=>Q (σ.set i (some v)) H
theorem pg_name {i:Nat} {x:Str} (hN:X.N.Nodup) (hi:X.N[i]?=some x) (hx:Loc X.env.scope x) (hf:X.fn x=true\/X.env.scope.names.lookup x=some .local:=by first | exact .inl rfl | exact .inr rfl | assumption):PG X (.Name x pos) (gName i):=by
  intro pins s σ H v u Q I r h
  exact wpAny_assign_Name (store_ok I hN hi hx r (fun s' I'=>⟨_,H,I',h⟩) hf)
def gNil:TGs:=fun vs σ H Q=>vs=[]/\Q σ H
def gCons (t:TG) (u:TGs):TGs:=fun vs σ H Q=>∃ v r,vs=v :: r/\t v σ H fun σ' H'=>u r σ' H' Q
theorem pgs_nil:PGs X [] gNil:=by
  intro pins s σ H vs us Q I r h
  obtain ⟨e,h⟩:=h
  subst e
  cases r
  exact assignInOrder_nil ⟨σ,H,I,h⟩
theorem pgs_cons {e:Expr} {es:List Expr} {t:TG} {u:TGs} (h1:PG X e t) (h2:PGs X es u)
    (hs:(assignEach (e :: es) X.env).map (·.2)=assign e X.env :: (assignEach es X.env).map (·.2):=by rfl):PGs X (e :: es) (gCons t u):=by
  intro pins s σ H vs us Q I r h
  obtain ⟨v,vr,e1,h⟩:=h
  subst e1
  cases r with
  | cons r rr=>
    rw [hs]
    refine assignInOrder_cons (thn (h1 pins s σ H _ _ _ I r h) fun _ s1 ⟨σ1,H1,I1,q1⟩=>?_)
    exact h2 pins s1 σ1 H1 _ _ Q I1 rr q1
def gTup (K:PySem.W.Frag) (n:Nat) (t:TGs):TG:=fun v σ H Q=>∃ a xs,v=.ref a/\SqT K H a xs/\xs.length=n/\t xs σ H Q
theorem pg_tup {es:List Expr} {k:Nat} {t:TGs} {n:Nat} (hc:X.calm=true) (h:PGs X es t)
    (hn:(assignEach es X.env).length=n:=by rfl) (hst:(assignEach es X.env).findIdx? (·.1)=none:=by rfl):PG X (.Tuple es k pos) (gTup X.K n t):=by
  intro pins s σ H v u Q I r hw
  obtain ⟨a,xs,e1,hq,hl,hw⟩:=hw
  subst e1
  cases r
  obtain ⟨its,rv,ht,hz⟩:=I.tuple hq
  refine assign_Tuple_tuple (I.ok.hd hc) ht (by simp [hn,<- hl,rv.length]) hst fun h' hx=>?_
  have I1:Inv X pins σ H { s with heap:=h' }:=I.kept (t':=s.toks) fun b o e=>hx b o (Nat.ne_of_lt (Heap.lt_size e)) e
  exact h pins _ σ H xs _ Q I1 (by simpa using rv) hw
def gSub (to ti:TE) (t:TSet):TG:=fun v σ H Q=>to σ H fun o H1=>ti σ H1 fun i H2=>t o i v H2 fun H3=>Q σ H3
theorem pg_sub {o i:Expr} {to ti:TE} {t:TSet} (ho:PE X o to) (hi:PE X i ti) (hs:PSet X t)
    (ha:∀ v,assign (.Subscript o i pos) X.env v=(do
      let ov <- holding [v] (eval o X.env)
      let iv <- holding [v,ov] (eval i X.env)
      standAt pos
      holding [v,ov,iv] (setItem ov iv v)
      release [v,ov,iv] []):=by intro _; rfl):PG X (.Subscript o i pos) (gSub to ti t):=by
  intro pins s σ H v u Q I r h
  rw [ha]
  refine wpAny_bind (wpAny_holding (thn (ho pins s σ H _ I h) fun ov s1 ⟨x,H1,I1,r1,q1⟩=>?_))
  refine wpAny_bind (wpAny_holding (thn (hi pins s1 σ H1 _ I1 q1) fun iv s2 ⟨y,H2,I2,r2,q2⟩=>?_))
  refine wpAny_bind (wpAny_standAt (wpAny_bind (wpAny_holding (thn (hs pins s2 σ H2 x y v ov iv u _ I2 r1 r2 r q2) fun _ s3 ⟨H3,I3,q3⟩=>?_))))
  exact wpAny_release ⟨σ,H3,I3,q3⟩
def tAsg (te:TE) (g:TG):TS:=fun D σ H=>te σ H fun x H1=>g x σ H1 D.nx
theorem ps_asg {tg e:Expr} {te:TE} {g:TG} (he:PE X e te) (hg:PG X tg g) (hs:swapsWithSole [tg] e pos.line X.env=pure false:=by rfl) (hw:swappedStores [tg] e X.env=pure none:=by rfl)
    (h1:(assignEach [tg] X.env).map (·.2)=[assign tg X.env]:=by rfl):PS X (.Assign [tg] e pos) (tAsg te g):=by
  intro pins s σ H D I h
  refine wpAny_Assign_stores (thn (he pins s σ H _ I h) fun v s1 ⟨x,H1,I1,r1,q1⟩=>?_) hs hw
  rw [h1]
  exact thn (hg pins s1 σ H1 x v _ I1 r1 q1) fun _ s2 q=>q
theorem ps_set {i:Nat} {x:Str} {e:Expr} {te:TE} {pos':Pos} (hN:X.N.Nodup) (hi:X.N[i]?=some x) (hx:Loc X.env.scope x) (he:PE X e te) (hs:swapsWith e (some (.Name x pos')) pos.line X.env=pure false:=by rfl) (hf:X.fn x=true\/X.env.scope.names.lookup x=some .local:=by first | exact .inl rfl | exact .inr rfl | assumption) :
    PS X (.Assign [.Name x pos'] e pos) (tAsg te (gName i)):=by
  intro pins s σ H D I h
  refine wpAny_Assign_Name (thn (he pins s σ H _ I h) fun v s1 ⟨y,H1,I1,r1,q1⟩=>?_) hs
  exact store_ok I1 hN hi hx r1 (fun s2 I2=>⟨_,H1,I2,q1⟩) hf
def tAug (i:Nat) (te:TE) (ti:TIp):TS:=fun D σ H=>∃ x,σ[i]?=some (some x)/\te σ H fun y H1=>ti x y H1 fun z H2=>D.nx (σ.set i (some z)) H2
theorem ps_aug {i:Nat} {x:Str} {e:Expr} {te:TE} {op:Operator} {ti:TIp} {pos':Pos} (hN:X.N.Nodup) (hi:X.N[i]?=some x) (hx:Loc X.env.scope x) (he:PE X e te) (ho:PIp X op ti) (hf:X.fn x=true\/X.env.scope.names.lookup x=some .local:=by first | exact .inl rfl | exact .inr rfl | assumption) :
    PS X (.AugAssign (.Name x pos') op e pos) (tAug i te ti):=by
  intro pins s σ H D I h
  obtain ⟨v,e1,h⟩:=h
  obtain ⟨m,hn,hl⟩:=I.loc
  have vis:Vis X.env.scope x:=by rcases hx with k | k; exact .inl k; exact .inr (.inl k)
  obtain ⟨u,r,l⟩:=hl i x v hi e1 vis
  refine wpAny_AugAssign_Name ?_
  have go:wpAny (model X.prog X.w) X.A (eval e X.env) (fun w s₂=>wpAny (model X.prog X.w) X.A (inplaceOp op u w) (fun r s₃=>wpAny (model X.prog X.w) X.A (storeName X.env x r) (fun _=>SP X pins D .next) X.xe s₃) X.xe s₂) X.xe s:=by
    refine thn (he pins s σ H _ I h) fun w s1 ⟨y,H1,I1,r1,q1⟩=>?_
    refine thn (ho pins s1 σ H1 v y u w _ I1 r r1 q1) fun z s2 ⟨zv,H2,I2,r2,q2⟩=>?_
    exact store_ok I2 hN hi hx r2 (fun s3 I3=>⟨_,H2,I3,q2⟩) hf
  rcases l with ⟨hk,hm⟩ | ⟨hk,c,hc,hcell⟩
  · exact wpAny_loadName_local I.ok.kind hk hn hm go
  · rcases hk with hk | hk
    · exact wpAny_loadName_cell I.ok.kind hk hc hcell go
    · rcases hx with k | k
      · have:X.env.scope.names.lookup x=some .free:=hk
        rw [k] at this; cases this
      · have:X.env.scope.names.lookup x=some .free:=hk
        rw [k] at this; cases this
def ipI (f:Int->Int->Int):TIp:=fun x y H Q=>∃ i j,x=.int i/\y=.int j/\Q (.int (f i j)) H
theorem ip_add:PIp X .Add (ipI fun i j=>i + j):=by
  intro pins s σ H x y v u Q I r1 r2 h
  obtain ⟨i,j,e1,e2,q⟩:=h
  subst e1; subst e2
  obtain ⟨t,rfl⟩:=r1
  obtain ⟨t',rfl⟩:=r2
  exact iadd_int ⟨.int _,H,I.tok _,⟨_,rfl⟩,q⟩
end
section
variable {X:Cx} {pos:Pos}
end
structure It where
  go:Nat->Hp->Prop
  yld:Nat->Hp->V->Hp->Prop
  stop:Nat->Hp->Prop
def FpOk (X:Cx) (pins:List (Addr × Obj)) (H:Hp) (b:Addr):Prop:=
  H b=none/\b ≠ X.env.locals/\b ∉ X.fs/\(b ∈ X.ex\/X.s₀.heap.objs.size<=b)/\(∀ x c,X.env.cells.lookup x=some c->c ≠ b)/\∀ p ∈ X.pn ++ pins,p.1 ≠ b
theorem Inv.fpOk {X:Cx} {pins:List (Addr × Obj)} {σ:St} {H H':Hp} {s:Shared} {b:Addr} (I:Inv X pins σ H s) (hb:s.heap.objs.size<=b) (hn:H' b=none):FpOk X pins H' b:=by
  refine ⟨hn,Nat.ne_of_gt (Nat.lt_of_lt_of_le I.lt hb),I.nofs hb,.inr (Nat.le_trans I.sz hb),fun x c e z=>?_,fun p hp z=>?_⟩
  · obtain ⟨v,q⟩:=I.cell x c e
    exact absurd (Nat.lt_of_lt_of_le q.lt (by rw [z]; exact hb)) (Nat.lt_irrefl _)
  · exact absurd (Nat.lt_of_lt_of_le (Heap.lt_size (I.pin p hp).1) (by rw [z]; exact hb)) (Nat.lt_irrefl _)
structure Turn (P:Program) (w:World) (K:PySem.W.Frag) (tg:Expr) (J:It) (fp:List Addr) (it:Addr) (tn:Nat->Heap->Prop):Prop where
  mem:it ∈ fp
  obj:∀ i h,tn i h->∀ b ∈ fp,∃ o,h.get? b=some o/\∀ v,o.data ≠ .cell v
  keep:∀ i h h',tn i h->(∀ b ∈ fp,∀ o,h.get? b=some o->h'.get? b=some o)->tn i h'
  item:∀ (X:Cx),X.prog=P->X.w=w->X.K=K->X.calm=true->∀ (i:Nat) (pins:List (Addr × Obj)) (s:Shared) (σ:St) (H:Hp) (E:Value->Shared->Prop),Inv X pins σ H s->(∀ b ∈ fp,FpOk X pins H b)->tn i s.heap->J.go i H ->
    wpAny (model P w) X.A (pyNext (.ref it)) (fun r s1=>∃ u,r=some u /\
      wpAny (model P w) X.A (letOwnedTupleGo tg (.ref it) u) (fun _ s2=>∃ x H',Inv X pins σ H' s2/\RelV x u/\J.yld i H x H'/\tn (i + 1) s2.heap/\∀ b ∈ fp,H' b=none) E s1) E s
  done:∀ (X:Cx),X.prog=P->X.w=w->X.K=K->X.calm=true->∀ (i:Nat) (pins:List (Addr × Obj)) (s:Shared) (σ:St) (H:Hp) (E:Value->Shared->Prop),Inv X pins σ H s->(∀ b ∈ fp,FpOk X pins H b)->tn i s.heap->J.stop i H ->
    wpAny (model P w) X.A (pyNext (.ref it)) (fun r s1=>r=none/\Inv X pins σ H s1) E s
  self:∀ (A:Around) (i:Nat) (s:Shared) (Q:Value->Shared->Prop) (E:Value->Shared->Prop),tn i s.heap->Q (.ref it) s->wpAny (model P w) A (pyIter (.ref it)) Q E s
abbrev TI:=St->Hp->(It->Hp->Prop)->Prop
def PIE (X:Cx) (pins:List (Addr × Obj)) (σ:St) (tg:Expr) (R:It->Hp->Prop) (itv:Value) (s2:Shared):Prop:=
  ∃ (it:Addr) (fp:List Addr) (tn:Nat->Heap->Prop) (J:It) (H':Hp),itv=.ref it/\Inv X pins σ H' s2/\Turn X.prog X.w X.K tg J fp it tn/\tn 0 s2.heap/\(∀ b ∈ fp,FpOk X pins H' b)/\R J H'
def PI (X:Cx) (tg iter:Expr) (wi:TI):Prop:=
  ∀ (pins:List (Addr × Obj)) (s:Shared) (σ:St) (H:Hp) (R:It->Hp->Prop),Inv X pins σ H s->wi σ H R ->
    wpAny (model X.prog X.w) X.A (eval iter X.env) (fun v s1=>wpAny (model X.prog X.w) X.A (pyIter v) (PIE X pins σ tg R) X.xe s1) X.xe s
theorem go_of {M:Model} {A:Around} {E:Value->Shared->Prop} {s:Shared} {tg:Expr} {it:Addr} {u:Value} {o:Obj} {n:String} {vs:Array Value} {Q:Unit->Shared->Prop} (ho:s.heap.get? it=some o) (hc:o.cls=.type n) (hd:o.data=.fields vs)
    (hn:["enumerate", "zip", "dict_itemiterator", "dict_reverseitemiterator", "odict_iterator", "itertools.zip_longest", "itertools.pairwise"].contains n=false) (hQ:Q () s):wpAny M A (letOwnedTupleGo tg (.ref it) u) Q E s:=by
  unfold letOwnedTupleGo
  cases tg <;> first
    | exact wpAny_pure hQ
    | (cases u <;> first
        | exact wpAny_pure hQ
        | (refine wpAny_bind (wpAny_load ho ?_)
           rw [hc,hd]
           show wpAny M A (if (["enumerate", "zip", "dict_itemiterator", "dict_reverseitemiterator", "odict_iterator", "itertools.zip_longest", "itertools.pairwise"].contains n && vs[0]? == some (rawInt _))=true then _ else _) Q E s
           rw [if_neg (by intro h; rw [hn,Bool.false_and] at h; cases h)]
           exact wpAny_pure hQ))
def Itl (K:PySem.W.Frag) (a:Addr):It:=
  ⟨fun i H=>∃ xs x,SqL K H a xs/\xs[i]?=some x,fun i H x H'=>H'=H/\∀ xs,SqL K H a xs->xs[i]?=some x,fun i H=>∃ xs,SqL K H a xs/\xs.length<=i⟩
def Itt (K:PySem.W.Frag) (a:Addr):It:=
  ⟨fun i H=>∃ xs x,SqT K H a xs/\xs[i]?=some x,fun i H x H'=>H'=H/\∀ xs,SqT K H a xs->xs[i]?=some x,fun i H=>∃ xs,SqT K H a xs/\xs.length<=i⟩
def Itr (lo:Int) (n:Nat):It:=⟨fun i _=>i < n,fun i H x H'=>H'=H/\x=.int (lo + i),fun i _=>n<=i⟩
theorem turn_list {P:Program} {w:World} {K:PySem.W.Frag} {tg:Expr} (a it:Addr):Turn P w K tg (Itl K a) [it] it (fun i h=>h.IsListIter it a i) where
  mem:=by simp
  obj:=fun i h st b hb=>by
    have e:b=it:=by simpa using hb
    subst e
    obtain ⟨o,e,c,d⟩:=st
    exact ⟨o,e,fun v z=>by rw [d] at z; cases z⟩
  keep:=fun i h h' st k=>st.at fun o e=>k it (by simp) o e
  item:=by
    intro X hP hw hK hc i pins s σ H E I hf st hg
    subst hP hw hK
    obtain ⟨xs,x,hq,hx⟩:=hg
    obtain ⟨its,rv,p,hz⟩:=I.list hq
    obtain ⟨u,hu,ru⟩:=rv.get hx
    obtain ⟨f0,f1,f2,f3,f4,f5⟩:=hf it (by simp)
    refine wpAny_pyNext_list_item st p.isList (x:=u) (by simpa using hu) fun h' st' sb=>?_
    have I1:Inv X pins σ H { s with heap:=h' }:=I.turned (t':=s.toks) (fun b o hb e=>(sb.2 b hb).trans e) f0 f1 f3 f4 f5
    obtain ⟨o,e,c,d⟩:=id st'
    exact ⟨u,rfl,go_of (s:={ s with heap:=h' }) e c d (by decide) ⟨x,H,I1,ru,⟨rfl,fun ys hy=>by rw [I.list_inj hy hq]; exact hx⟩,st',fun b hb=>(hf b hb).1⟩⟩
  done:=by
    intro X hP hw hK hc i pins s σ H E I hf st hg
    subst hP hw hK
    obtain ⟨xs,hq,hx⟩:=hg
    obtain ⟨its,rv,p,hz⟩:=I.list hq
    obtain ⟨f0,f1,f2,f3,f4,f5⟩:=hf it (by simp)
    have hl:=rv.length
    exact wpAny_pyNext_list_end (I.ok.hd hc) st p.isList (by simp; omega) fun h' eb=>⟨rfl,I.turned (t':=s.toks) (fun b o hb e=>eb b o hb e) f0 f1 f3 f4 f5⟩
  self:=fun _ _ _ _ _ st h=>wpAny_pyIter_listiter st h
theorem turn_tuple {P:Program} {w:World} {K:PySem.W.Frag} {tg:Expr} (a it:Addr):Turn P w K tg (Itt K a) [it] it (fun i h=>h.IsTupleIter it a i) where
  mem:=by simp
  obj:=fun i h st b hb=>by
    have e:b=it:=by simpa using hb
    subst e
    obtain ⟨o,e,c,d⟩:=st
    exact ⟨o,e,fun v z=>by rw [d] at z; cases z⟩
  keep:=fun i h h' st k=>st.at fun o e=>k it (by simp) o e
  item:=by
    intro X hP hw hK hc i pins s σ H E I hf st hg
    subst hP hw hK
    obtain ⟨xs,x,hq,hx⟩:=hg
    obtain ⟨its,rv,p,hz⟩:=I.tuple hq
    obtain ⟨u,hu,ru⟩:=rv.get hx
    obtain ⟨f0,f1,f2,f3,f4,f5⟩:=hf it (by simp)
    refine wpAny_pyNext_tuple_item st (show s.heap.IsTuple a its.toArray from p) (x:=u) (by simpa using hu) fun h' st' sb=>?_
    have I1:Inv X pins σ H { s with heap:=h' }:=I.turned (t':=s.toks) (fun b o hb e=>(sb.2 b hb).trans e) f0 f1 f3 f4 f5
    obtain ⟨o,e,c,d⟩:=id st'
    exact ⟨u,rfl,go_of (s:={ s with heap:=h' }) e c d (by decide) ⟨x,H,I1,ru,⟨rfl,fun ys hy=>by rw [I.tuple_inj hy hq]; exact hx⟩,st',fun b hb=>(hf b hb).1⟩⟩
  done:=by
    intro X hP hw hK hc i pins s σ H E I hf st hg
    subst hP hw hK
    obtain ⟨xs,hq,hx⟩:=hg
    obtain ⟨its,rv,p,hz⟩:=I.tuple hq
    obtain ⟨f0,f1,f2,f3,f4,f5⟩:=hf it (by simp)
    have hl:=rv.length
    exact wpAny_pyNext_tuple_end (I.ok.hd hc) st (show s.heap.IsTuple a its.toArray from p) (by simp; omega) fun h' eb=>⟨rfl,I.turned (t':=s.toks) (fun b o hb e=>eb b o hb e) f0 f1 f3 f4 f5⟩
  self:=fun _ _ _ _ _ st h=>wpAny_pyIter_tupleiter st h
theorem turn_range {P:Program} {w:World} {K:PySem.W.Frag} {tg:Expr} (it:Addr) (lo:Int) (n:Nat):Turn P w K tg (Itr lo n) [it] it (fun i h=>IsRangeIter h it (lo + (i:Nat) * 1) ((n:Int) - (i:Nat)) 1) where
  mem:=by simp
  obj:=fun i h st b hb=>by
    have e:b=it:=by simpa using hb
    subst e
    exact ⟨_,st,fun v z=>by
      have z':Data.fields _=Data.cell v:=z
      cases z'⟩
  keep:=fun i h h' st k=>k it (by simp) _ st
  item:=by
    intro X hP hw hK hc i pins s σ H E I hf st hg
    subst hP hw hK
    obtain ⟨f0,f1,f2,f3,f4,f5⟩:=hf it (by simp)
    have W:=Walks.range (prog:=X.prog) (w:=X.w) (I.ok.hd hc) it lo 1 n
    refine W.item i s _ _ hg st fun v h' tk hv st' kk=>?_
    obtain ⟨t,rfl⟩:=hv
    have I1:Inv X pins σ H { s with heap:=h',toks:=tk }:=I.turned (fun b o hb e=>kk b o (by simpa using hb) e) f0 f1 f3 f4 f5
    refine ⟨_,rfl,go_of (s:={ s with heap:=h',toks:=tk }) (n := "range_iterator") st' rfl rfl (by decide) ⟨.int (lo + i),H,I1,⟨t,?_⟩,⟨rfl,rfl⟩,st',fun b hb=>(hf b hb).1⟩⟩
    rw [Int.mul_one]
  done:=by
    intro X hP hw hK hc i pins s σ H E I hf st hg
    subst hP hw hK
    obtain ⟨f0,f1,f2,f3,f4,f5⟩:=hf it (by simp)
    exact wpAny_pyNext_range_end (I.ok.hd hc) st (by have:n<=i:=hg; omega) fun h' eb=>⟨rfl,I.turned (t':=s.toks) (fun b o hb e=>eb b o hb e) f0 f1 f3 f4 f5⟩
  self:=fun _ _ _ _ _ st h=>wpAny_pyIter_rangeiter st h
end L2
namespace L2
open PySem PySem.Spec PyProof.Rows
section
variable {X:Cx} {tg:Expr}
def iList (K:PySem.W.Frag) (tl:TE):TI:=fun σ H R=>tl σ H fun x H1=>∃ a,x=.ref a/\(∃ xs,SqL K H1 a xs)/\R (Itl K a) H1
def iTup (K:PySem.W.Frag) (tl:TE):TI:=fun σ H R=>tl σ H fun x H1=>∃ a,x=.ref a/\(∃ xs,SqT K H1 a xs)/\R (Itt K a) H1
theorem pi_list {l:Expr} {tl:TE} (hl:PE X l tl):PI X tg l (iList X.K tl):=by
  intro pins s σ H R I h
  refine thn (hl pins s σ H _ I h) fun v s1 ⟨x,H1,I1,r1,q1⟩=>?_
  obtain ⟨a,e,⟨xs,hq⟩,q⟩:=q1
  subst e
  cases r1
  obtain ⟨its,rv,p,hz⟩:=I1.list hq
  refine wpAny_pyIter_list p.isList ?_
  refine ⟨s1.heap.objs.size,[s1.heap.objs.size],_,_,H1,rfl,I1.kept (t':=s1.toks) fun b o e=>Heap.get?_push_of_some _ e,turn_list a _,⟨_,Heap.get?_push_size _ rfl,rfl,rfl⟩,fun b hb=>?_,q⟩
  have e:b=s1.heap.objs.size:=by simpa using hb
  subst e
  exact I1.fpOk (Nat.le_refl _) (I1.hok.fresh (Nat.le_refl _))
theorem pi_tup {l:Expr} {tl:TE} (hl:PE X l tl):PI X tg l (iTup X.K tl):=by
  intro pins s σ H R I h
  refine thn (hl pins s σ H _ I h) fun v s1 ⟨x,H1,I1,r1,q1⟩=>?_
  obtain ⟨a,e,⟨xs,hq⟩,q⟩:=q1
  subst e
  cases r1
  obtain ⟨its,rv,p,hz⟩:=I1.tuple hq
  refine wpAny_pyIter_tuple (show s1.heap.IsTuple a its.toArray from p) ?_
  refine ⟨s1.heap.objs.size,[s1.heap.objs.size],_,_,H1,rfl,I1.kept (t':=s1.toks) fun b o e=>Heap.get?_push_of_some _ e,turn_tuple a _,⟨_,Heap.get?_push_size _ rfl,rfl,rfl⟩,fun b hb=>?_,q⟩
  have e:b=s1.heap.objs.size:=by simpa using hb
  subst e
  exact I1.fpOk (Nat.le_refl _) (I1.hok.fresh (Nat.le_refl _))
theorem range_it {pins:List (Addr × Obj)} {σ:St} {H:Hp} {s:Shared} {R:It->Hp->Prop} {E:Value->Shared->Prop} {lo hi:Int} {t u v:Tok} {tk:Nat} (I:Inv X pins σ H s) (h1:-(2 ^ 62)<=lo) (h2:lo < 2 ^ 62) (h3:-(2 ^ 62)<=hi) (h4:hi < 2 ^ 62)
    (q:R (Itr lo (hi - lo).toNat) H):wpAny (model X.prog X.w) X.A (pyIter (.ref s.heap.objs.size)) (PIE X pins σ tg R) E { s with heap:=s.heap.push { cls:=.type "range",data:=.fields #[.int lo t,.int hi u,.int 1 v] },toks:=tk }:=by
  refine wpAny_pyIter_range (IsRange.new ..) (small_one h1 h2 h3 h4) ?_
  have I1:Inv X pins σ H { s with heap:=s.heap.push { cls:=.type "range",data:=.fields #[.int lo t,.int hi u,.int 1 v] },toks:=tk }:=I.kept fun b o e=>Heap.get?_push_of_some _ e
  refine ⟨(s.heap.push { cls:=.type "range",data:=.fields #[.int lo t,.int hi u,.int 1 v] }).objs.size,[(s.heap.push { cls:=.type "range",data:=.fields #[.int lo t,.int hi u,.int 1 v] }).objs.size],_,_,H,rfl,
    I1.kept (t':=tk) fun b o e=>Heap.get?_push_of_some _ e,turn_range _ lo (hi - lo).toNat,?_,fun b hb=>?_,q⟩
  · have e1:lo + ((0:Nat):Int) * 1=lo:=by simp
    have e2:(((hi - lo).toNat:Nat):Int) - ((0:Nat):Int)=Builtin.Range.rangeSize lo hi 1:=by rw [rangeSize_one]; split <;> omega
    show IsRangeIter _ _ (lo + ((0:Nat):Int) * 1) ((((hi - lo).toNat:Nat):Int) - ((0:Nat):Int)) 1
    rw [e1,e2]
    exact Heap.get?_push_size _ rfl
  · have e:b=(s.heap.push { cls:=.type "range",data:=.fields #[.int lo t,.int hi u,.int 1 v] }).objs.size:=by simpa using hb
    subst e
    exact I1.fpOk (Nat.le_refl _) (I1.hok.fresh (Nat.le_refl _))
def iRng1 (ta:TA):TI:=fun σ H R=>ta σ H fun vs H1=>∃ j:Int,vs=[.int j]/\-(2 ^ 62)<=j/\j < 2 ^ 62/\R (Itr 0 j.toNat) H1
theorem pi_range1 {a:Expr} {ta:TA} {p pos:Pos} (hg:Gl X "range") (hm:X.mg "range" = none) (ha:PA X [a] ta) (hs:starEach [a] X.env=[(false,eval a X.env)]:=by rfl):PI X tg (.Call (.Name "range" p) [a] [] pos) (iRng1 ta):=by
  intro pins s σ H R I h
  refine Call_ (ld_blt I hg hm boot_range (PyProof.Rows.callWith_type1 (thn (ha pos pins s σ H _ I h) fun us s1 ⟨vs,H1,I1,r1,q1⟩=>?_) hs rfl))
  obtain ⟨j,e,q1,q2,q⟩:=q1
  subst e
  cases r1 with
  | cons r rr=>
    cases rr
    obtain ⟨t,rfl⟩:=r
    exact call_range_1 (range_it I1 (by omega) (by omega) q1 q2 (by simpa using q))
def tFor (wi:TI) (g:TG) (tb:TS):TS:=fun D σ H=>wi σ H fun J H1=>∃ W:Nat->Nat->St->Hp->Prop,(∃ m,W 0 m σ H1)/\∀ i m σ H,W i m σ H ->
  (J.stop i H/\D.nx σ H)\/(J.go i H/\∃ N:St->Hp->Prop,(∀ σ' H',N σ' H'->∃ m',m' < m/\W (i + 1) m' σ' H')/\∀ x H',J.yld i H x H'->g x σ H' fun σ2 H2=>tb { D with nx:=N,ct:=N,bk:=D.nx } σ2 H2)
def pinsAt (fp:List Addr) (h:Heap):List (Addr × Obj):=fp.filterMap fun b=>(h.get? b).map fun o=>(b,o)
theorem mem_pinsAt {fp:List Addr} {h:Heap} {b:Addr} {o:Obj} (hb:b ∈ fp) (e:h.get? b=some o):(b,o) ∈ pinsAt fp h:=List.mem_filterMap.mpr ⟨b,hb,by rw [e]; rfl⟩
theorem of_pinsAt {fp:List Addr} {h:Heap} {p:Addr × Obj} (hp:p ∈ pinsAt fp h):p.1 ∈ fp/\h.get? p.1=some p.2:=by
  obtain ⟨b,hb,e⟩:=List.mem_filterMap.mp hp
  cases q:h.get? b with
  | none=>rw [q] at e; cases e
  | some o=>
    rw [q] at e
    have e':(b,o)=p:=Option.some.inj e
    subst e'
    exact ⟨hb,q⟩
theorem Inv.pinned {pins:List (Addr × Obj)} {σ:St} {H:Hp} {s:Shared} {fp:List Addr} (I:Inv X pins σ H s) (hf:∀ b ∈ fp,FpOk X pins H b) (ho:∀ b ∈ fp,∃ o,s.heap.get? b=some o/\∀ v,o.data ≠ .cell v):Inv X (pins ++ pinsAt fp s.heap) σ H s:=
  I.pins_of fun p hp=>(List.mem_append.mp hp).elim (fun z=>I.pin p (List.mem_append_right _ z)) fun z=>by
    obtain ⟨hb,e⟩:=of_pinsAt z
    obtain ⟨f0,f1,f2,_⟩:=hf p.1 hb
    obtain ⟨o,e',d⟩:=ho p.1 hb
    rw [e] at e'; cases e'
    exact ⟨e,f0,f1,f2,d⟩
theorem Inv.unpinned {pins pl:List (Addr × Obj)} {σ:St} {H:Hp} {s:Shared} (I:Inv X (pins ++ pl) σ H s):Inv X pins σ H s:=I.pins_of fun p hp=>I.pin p (List.mem_append_right _ (List.mem_append_left _ hp))
theorem ps_for {iter:Expr} {body:List Stmt} {wi:TI} {g:TG} {tb:TS} {pos:Pos} (hp:PassesOwn (model X.prog X.w) X.A X.env X.xe) (hc:X.calm=true) (hi:PI X tg iter wi) (hg:PG X tg g) (hb:PSs X body tb)
    (hs:∀ x,foldedSetIterable iter X.env x=pure x:=by intro _; rfl):PS X (.For tg iter body [] pos) (tFor wi g tb):=by
  intro pins s σ H D I h
  refine wpAny_For (thn (hi pins s σ H _ I h) fun v s1 h1=>thn h1 fun itv s2 h2=>?_) hs
  obtain ⟨it,fp,tn,J,H2,e,I2,T,st2,f2,W,⟨m0,w0⟩,turn⟩:=h2
  subst e
  have stat:∀ {H':Hp},(∀ b ∈ fp,H' b=none)->∀ b ∈ fp,FpOk X pins H' b:=fun hn b hb=>⟨hn b hb,(f2 b hb).2⟩
  refine codeAny_forLoop_any (fun n s'=>∃ i σ' H',Inv X pins σ' H' s'/\tn i s'.heap/\(∀ b ∈ fp,H' b=none)/\W i n σ' H') ?_ m0 ⟨0,σ,H2,I2,st2,fun b hb=>(f2 b hb).1,w0⟩
  rintro n s3 ⟨i,σ3,H3,I3,st3,fr3,w3⟩
  rcases turn i n σ3 H3 w3 with ⟨stop,qn⟩ | ⟨go,N,hN,step⟩
  · refine wpAny_passesOwn hp (thn (T.done X rfl rfl rfl hc i pins s3 σ3 H3 X.xe I3 (stat fr3) st3 stop) fun r s4 ⟨hr,I4⟩=>?_)
    subst hr
    exact wpAny_execs_nil ⟨σ3,H3,I4,qn⟩
  · refine wpAny_passesOwn hp (thn (T.item X rfl rfl rfl hc i pins s3 σ3 H3 X.xe I3 (stat fr3) st3 go) fun r s4 ⟨u,hr,h4⟩=>?_)
    subst hr
    refine wpAny_passesOwn hp (thn h4 fun _ s5 ⟨x,H5,I5,r5,y5,st5,fr5⟩=>?_)
    have I5':=I5.pinned (stat fr5) (T.obj _ _ st5)
    refine wpAny_passesOwn hp (thn (hg _ s5 σ3 H5 x u _ I5' r5 (step x H5 y5)) fun _ s6 ⟨σ6,H6,I6,q6⟩=>?_)
    refine wpAny_passesOwn hp (thn (hb _ s6 σ6 H6 _ I6 q6) fun f s7 q7=>?_)
    have again:∀ {σ7:St} {H7:Hp},Inv X (pins ++ pinsAt fp s5.heap) σ7 H7 s7->N σ7 H7->∃ m,m < n/\∃ i σ' H',Inv X pins σ' H' s7/\tn i s7.heap/\(∀ b ∈ fp,H' b=none)/\W i m σ' H':=fun {σ7 H7} I7 n7=>by
      obtain ⟨m',hm,w7⟩:=hN σ7 H7 n7
      refine ⟨m',hm,i + 1,σ7,H7,I7.unpinned,T.keep _ _ _ st5 fun b hb o e=>(I7.pin (b,o) (List.mem_append_right _ (List.mem_append_right _ (mem_pinsAt hb e)))).1,fun b hb=>?_,w7⟩
      obtain ⟨o,e,d⟩:=T.obj _ _ st5 b hb
      exact (I7.pin (b,o) (List.mem_append_right _ (List.mem_append_right _ (mem_pinsAt hb e)))).2.1
    cases f with
    | next=>obtain ⟨σ7,H7,I7,n7⟩:=q7; exact again I7 n7
    | cont=>obtain ⟨σ7,H7,I7,n7⟩:=q7; exact again I7 n7
    | brk=>obtain ⟨σ7,H7,I7,q7⟩:=q7; exact ⟨σ7,H7,I7.unpinned,q7⟩
    | ret v=>obtain ⟨x7,σ7,H7,I7,r7,q7⟩:=q7; exact ⟨x7,σ7,H7,I7.unpinned,r7,q7⟩
end
end L2
namespace L2
open PySem PySem.Spec PyProof.Rows
abbrev R2:=V->V->Hp->VK->Prop
def OpR (X:Cx) (f:Value->Value->Sem Value) (r:R2):Prop:=
  ∀ (pins:List (Addr × Obj)) (s:Shared) (σ:St) (H:Hp) (x y:V) (v u:Value) (Q:VK),Inv X pins σ H s->RelV x v->RelV y u->r x y H Q ->
    wpAny (model X.prog X.w) X.A (f v u) (EP X pins σ Q) X.xe s
def UnR (X:Cx) (f:Value->Sem Value) (r:V->Hp->VK->Prop):Prop:=
  ∀ (pins:List (Addr × Obj)) (s:Shared) (σ:St) (H:Hp) (x:V) (v:Value) (Q:VK),Inv X pins σ H s->RelV x v->r x H Q ->
    wpAny (model X.prog X.w) X.A (f v) (EP X pins σ Q) X.xe s
def CallR (X:Cx) (f:Value) (r:List V->Hp->VK->Prop):Prop:=
  ∀ (pins:List (Addr × Obj)) (s:Shared) (σ:St) (H:Hp) (xs:List V) (us:List Value) (Q:VK),Inv X pins σ H s->Vals xs us->r xs H Q ->
    wpAny (model X.prog X.w) X.A (call f us) (EP X pins σ Q) X.xe s
def tOp (r:R2) (ta tb:TE):TE:=fun σ H Q=>ta σ H fun x H1=>tb σ H1 fun y H2=>r x y H2 Q
def tUn (r:V->Hp->VK->Prop) (ta:TE):TE:=fun σ H Q=>ta σ H fun x H1=>r x H1 Q
def rI (C:Int->Int->Prop) (g:Int->Int->V):R2:=fun x y H Q=>∃ i j,x=.int i/\y=.int j/\C i j/\Q (g i j) H
def rI0 (g:Int->Int->V):R2:=fun x y H Q=>∃ i j,x=.int i/\y=.int j/\Q (g i j) H
def rU (g:Int->V):V->Hp->VK->Prop:=fun x H Q=>∃ i,x=.int i/\Q (g i) H
section
variable {X:Cx} {a b c:Expr} {ta tb tc:TE} {pos:Pos}
theorem binT (ha:PE X a ta) (hb:PE X b tb) {pins:List (Addr × Obj)} {s:Shared} {σ:St} {H:Hp} {R:V->V->Hp->Prop} (I:Inv X pins σ H s)
    (h:ta σ H fun x H1=>tb σ H1 fun y H2=>R x y H2) {Q:Value->Shared->Prop} {f:Value->Value->Sem Value}
    (hf:∀ v u s2 x y H2,Inv X pins σ H2 s2->RelV x v->RelV y u->R x y H2->wpAny (model X.prog X.w) X.A (f v u) Q X.xe s2) :
    wpAny (model X.prog X.w) X.A (eval a X.env) (fun v s₁=>wpAny (model X.prog X.w) X.A (eval b X.env) (fun u s₂=>wpAny (model X.prog X.w) X.A (f v u) Q X.xe s₂) X.xe s₁) X.xe s:=by
  refine thn (ha pins s σ H _ I h) fun v s1 ⟨x,H1,I1,r1,q1⟩=>?_
  refine thn (hb pins s1 σ H1 _ I1 q1) fun u s2 ⟨y,H2,I2,r2,q2⟩=>?_
  exact hf v u s2 x y H2 I2 r1 r2 q2
theorem pe_op {op:Operator} {r:R2} (ho:OpR X (binaryOp op) r) (ha:PE X a ta) (hb:PE X b tb):PE X (.BinOp a op b pos) (tOp r ta tb):=by
  intro pins s σ H Q I h
  exact wpAny_BinOp (binT ha hb I h fun v u s2 x y H2 I2 rx ry q=>ho pins s2 σ H2 x y v u Q I2 rx ry q)
theorem pe_un {op:UnaryOp} {r:V->Hp->VK->Prop} (ho:UnR X (unaryOp op) r) (ha:PE X a ta):PE X (.UnaryOp op a pos) (tUn r ta):=by
  intro pins s σ H Q I h
  exact UnaryOp_ (thn (ha pins s σ H _ I h) fun v s1 ⟨x,H1,I1,r1,q1⟩=>ho pins s1 σ H1 x v Q I1 r1 q1)
theorem opI {f:Value->Value->Sem Value} {C:Int->Int->Prop} {g:Int->Int->Int}
    (rule:∀ (i j:Int) (t u:Tok) (s:Shared) (Q:Value->Shared->Prop) (E:Value->Shared->Prop),C i j->Q (.int (g i j) s.toks) { s with toks:=s.toks + 1 }->wpAny (model X.prog X.w) X.A (f (.int i t) (.int j u)) Q E s) :
    OpR X f (rI C fun i j=>.int (g i j)):=by
  intro pins s σ H x y v u Q I rx ry h
  obtain ⟨i,j,rfl,rfl,hc,q⟩:=h
  obtain ⟨t,rfl⟩:=rx
  obtain ⟨t',rfl⟩:=ry
  exact rule i j t t' s _ _ hc ⟨.int (g i j),H,I.tok _,⟨_,rfl⟩,q⟩
theorem opI0 {f:Value->Value->Sem Value} {g:Int->Int->Int}
    (rule:∀ (i j:Int) (t u:Tok) (s:Shared) (Q:Value->Shared->Prop) (E:Value->Shared->Prop),Q (.int (g i j) s.toks) { s with toks:=s.toks + 1 }->wpAny (model X.prog X.w) X.A (f (.int i t) (.int j u)) Q E s) :
    OpR X f (rI0 fun i j=>.int (g i j)):=by
  intro pins s σ H x y v u Q I rx ry h
  obtain ⟨i,j,rfl,rfl,q⟩:=h
  obtain ⟨t,rfl⟩:=rx
  obtain ⟨t',rfl⟩:=ry
  exact rule i j t t' s _ _ ⟨.int (g i j),H,I.tok _,⟨_,rfl⟩,q⟩
theorem opB0 {f:Value->Value->Sem Value} {g:Int->Int->Bool}
    (rule:∀ (i j:Int) (t u:Tok) (s:Shared) (Q:Value->Shared->Prop) (E:Value->Shared->Prop),Q (.bool (g i j)) s->wpAny (model X.prog X.w) X.A (f (.int i t) (.int j u)) Q E s) :
    OpR X f (rI0 fun i j=>.bl (g i j)):=by
  intro pins s σ H x y v u Q I rx ry h
  obtain ⟨i,j,rfl,rfl,q⟩:=h
  obtain ⟨t,rfl⟩:=rx
  obtain ⟨t',rfl⟩:=ry
  exact rule i j t t' s _ _ ⟨.bl (g i j),H,I,rfl,q⟩
def CPow (i j:Int):Prop:=0<=j/\j<=1000000/\i.natAbs < 2 ^ 64
def CMul (i j:Int):Prop:=(-(2 ^ 64) < i/\i < 2 ^ 64)\/(-(2 ^ 64) < j/\j < 2 ^ 64)
theorem CMul.ok {i j:Int} (h:CMul i j):IntMulOk i j:=by
  rcases h with ⟨h1,h2⟩ | ⟨h1,h2⟩
  · exact .of_left (intBits_le_64 h1 h2)
  · exact .of_right (intBits_le_64 h1 h2)
theorem op_add:OpR X (binaryOp .Add) (rI0 fun i j=>.int (i + j)):=opI0 fun _ _ _ _ _ _ _ q=>add_int q
theorem op_sub:OpR X (binaryOp .Sub) (rI0 fun i j=>.int (i - j)):=opI0 fun _ _ _ _ _ _ _ q=>sub_int q
theorem op_mul:OpR X (binaryOp .Mult) (rI CMul fun i j=>.int (i * j)):=opI fun _ _ _ _ _ _ _ hc q=>mul_int q hc.ok
theorem op_mod:OpR X (binaryOp .Mod) (rI (fun _ j=>0 < j) fun i j=>.int (i % j)):=opI fun i j _ _ _ _ _ hc q=>by
  have h1:(0:Int) < j:=hc
  exact mod_int' (by omega) (by rw [Int.fmod_eq_emod_of_nonneg i (by omega)]; exact q)
theorem op_pow:OpR X (binaryOp .Pow) (rI CPow fun i j=>.int (i ^ j.toNat)):=opI fun _ _ _ _ _ _ _ hc q=>pow_int_small hc.1 hc.2.1 hc.2.2 q
theorem unI {f:Value->Sem Value} {g:Int->Int}
    (rule:∀ (i:Int) (t:Tok) (s:Shared) (Q:Value->Shared->Prop) (E:Value->Shared->Prop),Q (.int (g i) s.toks) { s with toks:=s.toks + 1 }->wpAny (model X.prog X.w) X.A (f (.int i t)) Q E s) :
    UnR X f (rU fun i=>.int (g i)):=by
  intro pins s σ H x v Q I rx h
  obtain ⟨i,rfl,q⟩:=h
  obtain ⟨t,rfl⟩:=rx
  exact rule i t s _ _ ⟨.int (g i),H,I.tok _,⟨_,rfl⟩,q⟩
theorem un_neg:UnR X (unaryOp .USub) (rU fun i=>.int (-i)):=unI fun _ _ _ _ _ q=>neg_int q
end
section
variable {X:Cx} {a b c:Expr} {ta tb tc:TE} {pos:Pos}
theorem fin_bl {pins:List (Addr × Obj)} {σ:St} {H:Hp} {s:Shared} {Q:VK} {k k':Bool} (I:Inv X pins σ H s) (q:Q (.bl k) H) (e:k=k'):EP X pins σ Q (.bool k') s:=by
  subst e
  exact ⟨.bl k,H,I,rfl,q⟩
theorem op_lt:OpR X (compareOp .Lt) (rI0 fun i j=>.bl (decide (i < j))):=opB0 fun _ _ _ _ _ _ _ q=>lt_int q
theorem op_le:OpR X (compareOp .LtE) (rI0 fun i j=>.bl (decide (i<=j))):=opB0 fun _ _ _ _ _ _ _ q=>le_int q
theorem op_gt:OpR X (compareOp .Gt) (rI0 fun i j=>.bl (decide (j < i))):=opB0 fun _ _ _ _ _ _ _ q=>gt_int q
theorem op_ge:OpR X (compareOp .GtE) (rI0 fun i j=>.bl (decide (j<=i))):=opB0 fun _ _ _ _ _ _ _ q=>ge_int q
theorem op_notN:OpR X (compareOp .IsNot) (fun x y H Q=>y=.non/\Q (.bl (!decide (x=.non))) H):=by
  intro pins s σ H x y v u Q I rx ry h
  obtain ⟨rfl,q⟩:=h
  cases ry
  refine isnot_none_gen (fin_bl I q ?_)
  cases x <;> first
    | (cases rx; rfl)
    | (obtain ⟨t,rfl⟩:=rx; rfl)
theorem OpR.or {f:Value->Value->Sem Value} {r r':R2} (h:OpR X f r) (h':OpR X f r'):OpR X f (fun x y H Q=>r x y H Q\/r' x y H Q):=by
  intro pins s σ H x y v u Q I rx ry q
  rcases q with q | q
  · exact h pins s σ H x y v u Q I rx ry q
  · exact h' pins s σ H x y v u Q I rx ry q
theorem nomark (b:Expr) {op:CmpOp} (h:op ≠ .In:=by decide) (h2:op ≠ .NotIn:=by decide):behindInMarks op b=false:=by
  have e1:(op == CmpOp.In)=false:=by cases op <;> first | rfl | exact absurd rfl h
  have e2:(op == CmpOp.NotIn)=false:=by cases op <;> first | rfl | exact absurd rfl h2
  cases b <;> simp [behindInMarks,e1,e2]
theorem pe_cmpR {op:CmpOp} {r:R2} (ho:OpR X (compareOp op) r) (ha:PE X a ta) (hb:PE X b tb) (hm:behindInMarks op b=false):PE X (.Compare a [op] [b] pos) (tOp r ta tb):=by
  intro pins s σ H Q I h
  exact wpAny_Compare1 (binT ha hb I h fun v u s2 x y H2 I2 rx ry q=>ho pins s2 σ H2 x y v u Q I2 rx ry q) hm
def tTest (t:TE):TT:=fun σ H Q=>t σ H fun x H'=>∃ k,x=.bl k/\Q k H'
theorem pt_cmpR {op:CmpOp} {r:R2} (ho:OpR X (compareOp op) r) (ha:PE X a ta) (hb:PE X b tb) (hm:behindInMarks op b=false):PT X (.Compare a [op] [b] pos) (tTest (tOp r ta tb)):=by
  intro pins s σ H Q I h
  refine wpAny_isTrue_Compare1 (thn (ha pins s σ H _ I h) fun v s1 ⟨x,H1,I1,r1,q1⟩=>thn (hb pins s1 σ H1 _ I1 q1) fun u s2 ⟨y,H2,I2,r2,q2⟩=>
    thn (ho pins s2 σ H2 x y v u _ I2 r1 r2 q2) fun c s3 ⟨z,H3,I3,r3,k,e,q3⟩=>?_) hm
  subst e
  cases r3
  exact wpAny_truthy_bool ⟨H3,I3,q3⟩
def tChain (r r':R2) (ta tb tc:TE):TE:=fun σ H Q=>ta σ H fun x H1=>tb σ H1 fun y H2=>r x y H2 fun z H3=>∃ k,z=.bl k /\
  (if k=true then tc σ H3 fun w' H4=>r' y w' H4 Q else Q (.bl false) H3)
theorem pe_chain {op op':CmpOp} {r r':R2} (ho:OpR X (compareOp op) r) (ho':OpR X (compareOp op') r') (ha:PE X a ta) (hb:PE X b tb) (hc:PE X c tc)
    (hm:lastMarks [op,op'] [b,c]=false:=by with_unfolding_all rfl):PE X (.Compare a [op,op'] [b,c] pos) (tChain r r' ta tb tc):=by
  intro pins s σ H Q I h
  refine Compare_chain (thn (ha pins s σ H _ I h) fun v s1 ⟨x,H1,I1,r1,q1⟩=>chain_link (thn (hb pins s1 σ H1 _ I1 q1) fun u s2 ⟨y,H2,I2,r2,q2⟩=>
    thn (ho pins s2 σ H2 x y v u _ I2 r1 r2 q2) fun d s3 ⟨z,H3,I3,r3,k,e,q3⟩=>?_)) hm
  subst e
  cases r3
  refine wpAny_truthy_bool ?_
  cases k with
  | false=>exact ite_ff ⟨.bl false,H3,I3,rfl,q3⟩
  | true=>exact ite_tt (chain_last (thn (hc pins s3 σ H3 _ I3 q3) fun w' s4 ⟨z',H4,I4,r4,q4⟩=>ho' pins s4 σ H4 y z' u w' Q I4 r2 r4 q4))
theorem pt_chain {op op':CmpOp} {r r':R2} (ho:OpR X (compareOp op) r) (ho':OpR X (compareOp op') r') (ha:PE X a ta) (hb:PE X b tb) (hc:PE X c tc)
    (hm:lastMarks [op,op'] [b,c]=false:=by with_unfolding_all rfl):PT X (.Compare a [op,op'] [b,c] pos) (tTest (tChain r r' ta tb tc)):=by
  intro pins s σ H Q I h
  refine isTrue_chain (thn (ha pins s σ H _ I h) fun v s1 ⟨x,H1,I1,r1,q1⟩=>test_link (thn (hb pins s1 σ H1 _ I1 q1) fun u s2 ⟨y,H2,I2,r2,q2⟩=>
    thn (ho pins s2 σ H2 x y v u _ I2 r1 r2 q2) fun d s3 ⟨z,H3,I3,r3,k,e,q3⟩=>?_)) hm
  subst e
  cases r3
  refine wpAny_truthy_bool ?_
  cases k with
  | false=>
    obtain ⟨k',e',q'⟩:=q3
    cases e'
    exact ite_ff ⟨H3,I3,q'⟩
  | true=>
    refine ite_tt (test_last (thn (hc pins s3 σ H3 _ I3 q3) fun w' s4 ⟨z',H4,I4,r4,q4⟩=>thn (ho' pins s4 σ H4 y z' u w' _ I4 r2 r4 q4) fun d' s5 ⟨z2,H5,I5,r5,k2,e2,q5⟩=>?_))
    subst e2
    cases r5
    exact wpAny_truthy_bool ⟨H5,I5,q5⟩
theorem line63:(sizeLine:Nat) < 2 ^ 63:=by rw [sizeLine_eq]; decide
theorem op_add_str:OpR X (binaryOp .Add) (fun x y H Q=>∃ i j,x=.str i/\y=.str j/\i.length + j.length<=sizeLine/\Q (.str (i ++ j)) H):=by
  intro pins s σ H x y v u Q I rx ry h
  obtain ⟨i,j,rfl,rfl,hz,q⟩:=h
  obtain ⟨t,rfl⟩:=rx
  obtain ⟨t',rfl⟩:=ry
  exact add_str (fun t' tk=>⟨.str (i ++ j),H,I.tok _,⟨_,rfl⟩,q⟩) hz
theorem vals1 {x:V} {us:List Value} (r:Vals [x] us):∃ u,us=[u]/\RelV x u:=by
  cases r with
  | cons r1 r2=>cases r2; exact ⟨_,rfl,r1⟩
theorem vals2 {x y:V} {us:List Value} (r:Vals [x,y] us):∃ u w',us=[u,w']/\RelV x u/\RelV y w':=by
  cases r with
  | cons r1 r2=>
    cases r2 with
    | cons r3 r4=>cases r4; exact ⟨_,_,rfl,r1,r3⟩
end
end L2
namespace L2
open PySem PySem.Spec PyProof.Rows
structure ObjM (h:Heap) (x dx C:Addr) (mA:Str->Option Value):Prop where
  obj:h.get? x=some (PySem.W.instObj C dx)
  ns:h.Ns1 dx mA
  ne:dx ≠ x
theorem lookIn_ns {h:Heap} {dx:Addr} {mA:Str->Option Value} (n:h.Ns1 dx mA):∃ od,h.get? dx=some od/\∀ name,PySem.W.lookIn name od=some (mA name):=by
  obtain ⟨o,es,ep,ho,hd,hk,_,hm⟩:=n
  refine ⟨o,ho,fun name=>?_⟩
  have e:=hm name
  unfold nsFind findBy at e
  rw [<- Array.find?_toList] at e
  unfold PySem.W.lookIn
  rw [hd]
  dsimp only
  split
  · rename_i y q
    rw [q] at e
    exact congrArg some e
  · rename_i q
    rw [q] at e
    have a:es.toList.any (·.refKey)=false:=by
      rw [List.any_eq_false]
      intro y hy
      obtain ⟨z,t,hkey⟩:=hk y (Array.mem_toList_iff.mp hy)
      simp [DictEntry.refKey,hkey]
    have a':¬ es.toList.any (·.refKey)=true:=by rw [a]; exact Bool.false_ne_true
    rw [if_neg a']
    exact congrArg some e
theorem ObjM.look {h:Heap} {x dx C:Addr} {mA:Str->Option Value} (I:ObjM h x dx C mA):∃ od,PySem.W.InstAt h x (PySem.W.instObj C dx) C (some od)/\∀ name,PySem.W.lookIn name od=some (mA name):=
  let ⟨od,ho,hl⟩:=lookIn_ns I.ns
  ⟨od,⟨I.obj,rfl,rfl,ho⟩,hl⟩
section
variable {prog:Program} {w:World} {A:Around} {E:Value->Shared->Prop} {s:Shared} {K:PySem.W.Frag} {x dx C f:Addr} {mA:Str->Option Value} {name:Str} {v:Value}
end
section
variable {P:Program} {w:World} {H H':Hp} {h h':Heap} {a C dx:Addr} {fs fs':List (Str × V)}
theorem ins_get (hok:HOk P w H h) (e:H a=some (.ins C dx fs)):∃ mA,ObjM h a dx C mA/\(∀ f,RelO (fs.lookup f) (mA f))/\PySem.Within mA (fs.map (·.1))/\fs.length<=1000/\H dx=some (.own a):=by
  obtain ⟨d,z,ne,ob,mA,n,r,q⟩:=(show ObjOk P w H h a (.ins C dx fs) from hok a _ e)
  exact ⟨mA,⟨ob,n,ne⟩,r,q,z,d⟩
end
structure Cls (K:PySem.W.Frag) (C:Addr):Prop where
  pg:PySem.W.plainGet K C Str.empty=true
  hd:PySem.W.hasDictIn K C=true
  po:PySem.W.plainOver K C=true
  sa:PySem.W.findIn K (.ref C) "__setattr__" = some (some (.builtin "object.__setattr__"))
theorem Cls.get {K:PySem.W.Frag} {C:Addr} (c:Cls K C) (f:Str):PySem.W.plainGet K C f=true:=c.pg
section
variable {X:Cx} {pins:List (Addr × Obj)} {σ:St} {H:Hp} {s:Shared} {a C dx:Addr} {fs:List (Str × V)} {f:Str} {v:V} {A:Around} {E:Value->Shared->Prop}
end
section
variable {X:Cx} {o e value:Expr} {f:Str} {pos pos' tpos:Pos} {ta tv:TE}
end
section
variable {X:Cx} {pins:List (Addr × Obj)} {σ:St} {H:Hp} {s:Shared} {A:Around} {E:Value->Shared->Prop} {Q:Value->Shared->Prop} {c:Value} {b:Bool}
inductive TyOf (K:PySem.W.Frag) (H:Hp):V->Value->Prop where
  | non:TyOf K H .non (.type "NoneType")
  | bl (x:Bool):TyOf K H (.bl x) (.type "bool")
  | int (i:Int):TyOf K H (.int i) (.type "int")
  | str (x:Str):TyOf K H (.str x) (.type "str")
  | flt (x:UInt64):TyOf K H (.flt x) (.type "float")
  | lst {a:Addr} {xs:List V} (e:H a=some (.lst xs)):TyOf K H (.ref a) (.type "list")
  | frz {a:Addr} {o:Obj} {xs:List V} (e:H a=some (.frz o (.lst xs))):TyOf K H (.ref a) (.type "list")
  | tup {a:Addr} {xs:List V} (e:H a=some (.tup xs)):TyOf K H (.ref a) (.type "tuple")
  | dK {a:Addr} {kvs:List (Key × V)} (e:H a=some (.dK kvs)):TyOf K H (.ref a) (.type "dict")
  | dT {a:Addr} {kvs:List (HK × V)} (e:H a=some (.dT kvs)):TyOf K H (.ref a) (.type "dict")
  | ins {a C dx:Addr} {fs:List (Str × V)} (e:H a=some (.ins C dx fs)) (cl:Cls K C) (ha:PySem.W.findIn K (.ref C) "__class__" = some (some (.builtin "object.__class__")))
      (hn:PySem.W.specialIn K (.builtin "object.__class__") "__get__" = some (some (.builtin "getset_descriptor.__get__"))) (htk:PySem.W.takesIn K (.builtin "object.__class__")=some true)
      (hm:PySem.W.mroIn K C (.type "object")=some true):TyOf K H (.ref a) (.ref C)
theorem isinst_ok {x:V} {u t:Value} (I:Inv X pins σ H s) (rx:RelV x u) (ty:TyOf X.K H x t) (e:PySem.W.kitOne X.K t c=some b) (h:∀ tk,Q (.bool b) { s with toks:=tk }) :
    wpAny (model X.prog X.w) A (call (.builtin "isinstance") [u,c]) Q E s:=by
  cases ty with
  | non=>cases (show u=Value.none from rx); exact PySem.W.kia_one PySem.W.kitx_none I.kIn True.intro e (fun z=>nomatch z) h
  | bl y=>cases (show u=Value.bool y from rx); exact PySem.W.kia_one PySem.W.kitx_bool I.kIn True.intro e (fun z=>nomatch z) h
  | int i=>obtain ⟨t,q⟩:=(show ∃ t,u=Value.int i t from rx); cases q; exact PySem.W.kia_one PySem.W.kitx_int I.kIn True.intro e (fun z=>nomatch z) h
  | str y=>obtain ⟨t,q⟩:=(show ∃ t,u=Value.str y t from rx); cases q; exact PySem.W.kia_one PySem.W.kitx_str I.kIn True.intro e (fun z=>nomatch z) h
  | flt y=>obtain ⟨t,q⟩:=(show ∃ t,u=Value.float y t from rx); cases q; exact PySem.W.kia_one PySem.W.kitx_float I.kIn True.intro e (fun z=>nomatch z) h
  | @lst a xs ea=>
    cases (show u=Value.ref a from rx)
    obtain ⟨_,_,n,_,h1⟩:=(show ObjOk X.prog X.w H s.heap a (.lst xs) from I.hok a _ ea)
    exact PySem.W.kia_one PySem.W.kitx_list I.kIn ⟨_,h1,rfl⟩ e (fun z=>nomatch z) h
  | @frz a ob xs ea=>
    cases (show u=Value.ref a from rx)
    obtain ⟨_,_,_,n,_,h1⟩:=(show ObjOk X.prog X.w H s.heap a (.frz ob (.lst xs)) from I.hok a _ ea)
    exact PySem.W.kia_one PySem.W.kitx_list I.kIn ⟨_,h1,rfl⟩ e (fun z=>nomatch z) h
  | @tup a xs ea=>
    cases (show u=Value.ref a from rx)
    obtain ⟨_,_,_,p⟩:=(show ObjOk X.prog X.w H s.heap a (.tup xs) from I.hok a _ ea)
    obtain ⟨o,h1,h2,_⟩:=p
    exact PySem.W.kia_one PySem.W.kitx_tuple I.kIn ⟨o,h1,h2⟩ e (fun z=>nomatch z) h
  | @dK a kvs ea=>
    cases (show u=Value.ref a from rx)
    obtain ⟨_,_,vs,_,p⟩:=(show ObjOk X.prog X.w H s.heap a (.dK kvs) from I.hok a _ ea)
    obtain ⟨o,es,ep,h1,h2,_⟩:=p
    exact PySem.W.kia_one PySem.W.kitx_dict I.kIn ⟨o,h1,h2.1⟩ e (fun z=>nomatch z) h
  | @dT a kvs ea=>
    cases (show u=Value.ref a from rx)
    obtain ⟨_,_,xs,_,o,es,ep,h1,h2,_⟩:=(show ObjOk X.prog X.w H s.heap a (.dT kvs) from I.hok a _ ea)
    exact PySem.W.kia_one PySem.W.kitx_dict I.kIn ⟨o,h1,h2.1⟩ e (fun z=>nomatch z) h
  | @ins a C dx fs ea cl ha hn htk hm=>
    cases (show u=Value.ref a from rx)
    obtain ⟨mA,O,_⟩:=ins_get I.hok ea
    obtain ⟨od,J,_⟩:=O.look
    exact PySem.W.kia_one (PySem.W.kitx_own (cl.get _) cl.hd ha hn htk hm) I.kIn J e (fun z=>nomatch z) h
end
end L2
namespace L2
open PySem PySem.Spec PyProof.Rows
structure Room (k:Nat) (A:Around):Prop where
  hd:A.handled=none
  dp:A.depth + 3 * k + 5 < recursionLimit
  un:A.units + 16 * k + 200 < cLine
theorem Room.mono {j k:Nat} {A:Around} (r:Room k A) (h:j<=k):Room j A:=⟨r.hd,by have:=r.dp; omega,by have:=r.un; omega⟩
theorem Room.deeper {k:Nat} {A:Around} (r:Room (k + 1) A) (env:Env):Room k (A.deeper env):=
  ⟨r.hd,by have:=r.dp; show A.depth + 1 + 3 * k + 5 < _; omega,by have:=r.un; show A.units + 3 + 16 * k + 200 < _; omega⟩
theorem Room.depth {k:Nat} {A:Around} (r:Room k A):A.depth < recursionLimit:=by have:=r.dp; omega
theorem Room.units {k:Nat} {A:Around} (r:Room k A):A.units + 64 < cLine:=by have:=r.un; omega
def tNil:TA:=fun _ H Q=>Q [] H
def tCons (ta:TE) (tr:TA):TA:=fun σ H Q=>ta σ H fun x H1=>tr σ H1 fun xs H2=>Q (x :: xs) H2
section
variable {X:Cx} {e:Expr} {es:List Expr} {te:TE} {t:TA} {pos:Pos}
theorem pa_nil:PA X [] tNil:=fun _ _ _ _ H Q I h=>Calls.spliced_nil ⟨[],H,I,.nil,h⟩
theorem pa_cons (ha:PE X e te) (hr:PA X es t) (hs:starEach (e :: es) X.env=(false,eval e X.env) :: starEach es X.env:=by rfl):PA X (e :: es) (tCons te t):=by
  intro pos pins s σ H Q I h
  rw [hs]
  show wpAny _ _ (spliced ((false,eval e X.env) :: backTo pos (starEach es X.env))) _ _ s
  refine Calls.spliced_cons (thn (ha pins s σ H _ I h) fun u s1 ⟨x,H1,I1,r1,q1⟩=>?_)
  exact thn (hr pos pins s1 σ H1 _ I1 q1) fun us s2 ⟨xs,H2,I2,r2,q2⟩=>⟨x :: xs,H2,I2,.cons r1 r2,q2⟩
def tTup (t:TA):TE:=fun σ H Q=>t σ H fun xs H1=>xs.length<=sizeLine/\∀ p,H1 p=none->Q (.ref p) (upd H1 p (.tup xs))
def tLst (t:TA):TE:=fun σ H Q=>t σ H fun xs H1=>xs.length<=sizeLine/\∀ p,H1 p=none->Q (.ref p) (upd H1 p (.lst xs))
theorem pe_tup {x1} (h:PA X es t):PE X (.Tuple es x1 pos) (tTup t):=by
  intro pins s σ H Q I hq
  refine wpAny_Tuple_spliced (thn (h pos pins s σ H _ I hq) fun us s1 ⟨xs,H1,I1,r,z,q⟩=>⟨by rw [<- r.length]; exact z,?_⟩)
  have hf:H1 s1.heap.objs.size=none:=I1.hok.fresh (Nat.le_refl _)
  refine ⟨.ref s1.heap.objs.size,upd H1 s1.heap.objs.size (.tup xs),I1.laid (t':=s1.toks) (fun b u e=>Heap.get?_push_of_some _ e) (Nat.le_refl _) ?_,rfl,q _ hf⟩
  exact ⟨z,us,r,⟨_,Heap.get?_push_size _ rfl,rfl,_,rfl⟩⟩
theorem pe_lst (h:PA X es t):PE X (.List es pos) (tLst t):=by
  intro pins s σ H Q I hq
  refine wpAny_List_spliced (thn (h pos pins s σ H _ I hq) fun us s1 ⟨xs,H1,I1,r,z,q⟩=>⟨by rw [<- r.length]; exact z,?_⟩)
  have hf:H1 s1.heap.objs.size=none:=I1.hok.fresh (Nat.le_refl _)
  refine ⟨.ref s1.heap.objs.size,upd H1 s1.heap.objs.size (.lst xs),I1.laid (t':=s1.toks) (fun b u e=>Heap.get?_push_of_some _ e) (Nat.le_refl _) ?_,rfl,q _ hf⟩
  exact ⟨z,us,0,r,Heap.get?_push_size _ rfl⟩
end
abbrev Sp:=List V->Hp->VK->XK->Prop
abbrev CXT:=List Env->Hp->Shared->XK->Value->Shared->Prop
structure Env0 (P:Program) (w:World) (K:PySem.W.Frag) (mg:Str->Option Value) (base:Heap) (A:Around) (outer:List Env) (s:Shared) (H:Hp):Prop where
  frames:A.frames=some outer
  mod:Mod K mg base
  bs:∀ b o,base.get? b=some o->s.heap.get? b=some o/\H b=none
  bsz:base.objs.size<=s.heap.objs.size
  funs:s.heap.FunFrames base outer
  frf:∀ b ∈ frs outer,H b=none
  hok:HOk P w H s.heap
  bare:AllBare s.gens
def CE (outer:List Env) (P:Program) (w:World) (H:Hp) (s:Shared) (Q:VK) (u:Value) (s':Shared):Prop:=
  ∃ v H',s'.os=s.os/\AllBare s'.gens/\Un (frs outer) [] H H' s.heap s'.heap/\HOk P w H' s'.heap/\RelV v u/\Q v H'
def CR (CX:CXT) (outer:List Env) (P:Program) (w:World) (H:Hp) (s:Shared) (Q:VK) (E:XK) (r:Result) (s':Shared):Prop:=
  match r with
  | .ok (.ret u)=>CE outer P w H s Q u s'
  | .ok _=>False
  | .error e=>CX outer H s E e s'
structure FnOk (P:Program) (w:World) (K:PySem.W.Frag) (mg:Str->Option Value) (base:Heap) (CX:CXT) (k:Nat) (f:Addr) (fd:FuncData) (ps:List Str) (sp:Sp):Prop where
  len:∀ vs H Q E,sp vs H Q E->vs.length=ps.length
  run:∀ (A:Around) (outer:List Env) (s:Shared) (H:Hp) (args:Args) (us:List Value) (vs:List V) (Q:VK) (E:XK),Room k A->Env0 P w K mg base A outer s H->BindsTo s fd args (ps.zip us)->Vals vs us->sp vs H Q E ->
    codeAny (model P w) A (.call (.ref f) args) (CR CX outer P w H s Q E) s
theorem FnOk.imp {P:Program} {w:World} {K:PySem.W.Frag} {mg:Str->Option Value} {base:Heap} {CX:CXT} {k:Nat} {f:Addr} {fd:FuncData} {ps:List Str} {sp sp':Sp} (F:FnOk P w K mg base CX k f fd ps sp)
    (h:∀ vs H Q E,sp' vs H Q E->sp vs H Q E):FnOk P w K mg base CX k f fd ps sp':=
  ⟨fun vs H Q E q=>F.len vs H Q E (h _ _ _ _ q),fun A outer s H args us vs Q E hr he hb hv hs=>F.run A outer s H args us vs Q E hr he hb hv (h _ _ _ _ hs)⟩
section
variable {X:Cx} {pins:List (Addr × Obj)} {σ:St} {H:Hp} {s s':Shared}
theorem Inv.env0 (I:Inv X pins σ H s):Env0 X.prog X.w X.K X.mg X.base X.A X.stack s H:=
  ⟨I.ok.frames,I.ok.mod,I.bs,Nat.le_trans I.ok.bsz I.sz,I.stack,I.stkFree,I.hok,I.bare⟩
theorem Inv.after {Q:VK} {u:Value} (I:Inv X pins σ H s) (h:CE X.stack X.prog X.w H s Q u s'):EP X pins σ Q u s':=by
  obtain ⟨v,H',os,bare,un,hok,r,q⟩:=h
  obtain ⟨hh,g,d,t,os'⟩:=s'
  obtain rfl:os'=s.os:=os
  exact ⟨v,H',I.call (h':=hh) (g':=g) (d':=d) (t':=t) (ch:=[]) un hok bare (fun b z=>absurd z (by simp)),r,q⟩
end
def tCall (sp:Sp) (dvs:List V) (E:XK) (t:TA):TE:=fun σ H Q=>t σ H fun vs H1=>sp (vs ++ dvs) H1 Q E
def Binds (K:PySem.W.Frag) (fd:FuncData) (ps:List Str) (ds:List Value):Prop:=
  ∀ (s:Shared) (us:List Value),K.In s.heap->(us ++ ds).length=ps.length->BindsTo s fd ⟨us,[]⟩ (ps.zip (us ++ ds))
theorem Binds.all {K:PySem.W.Frag} {fd:FuncData} {ps:List Str} (h:∀ us:List Value,us.length=ps.length->bindArgs fd ⟨us,[]⟩=pure (ps.zip us)):Binds K fd ps []:=fun s us _ hl=>by
  rw [List.append_nil] at hl ⊢
  exact .of_eq (h us hl)
def Passes (CX:CXT) (X:Cx) (E:XK):Prop:=∀ (pins:List (Addr × Obj)) (σ:St) (H:Hp) (s:Shared) (e:Value) (s':Shared),Inv X pins σ H s->CX X.stack H s E e s'->X.xe e s'
section
variable {X:Cx} {CX:CXT} {k:Nat} {f C:Addr} {fd:FuncData} {ps:List Str} {sp:Sp} {dvs:List V} {ds:List Value} {E:XK} {x m:Str} {p pos apos:Pos} {e o:Expr} {es:List Expr} {ta:TE} {t:TA}
theorem run_fn {pins:List (Addr × Obj)} {σ:St} {H:Hp} {s:Shared} {Q:VK} {us:List Value} {vs:List V} (F:FnOk X.prog X.w X.K X.mg X.base CX k f fd ps sp) (hr:Room k X.A) (hb:Binds X.K fd ps ds) (hd:Vals dvs ds) (hx:Passes CX X E)
    (I:Inv X pins σ H s) (r:Vals vs us) (h:sp (vs ++ dvs) H Q E):wpAny (model X.prog X.w) X.A (call (.ref f) us) (EP X pins σ Q) X.xe s:=by
  have r2:Vals (vs ++ dvs) (us ++ ds):=r.append hd
  have hl:(us ++ ds).length=ps.length:=by rw [<- r2.length]; exact F.len _ _ _ _ h
  refine wpAny_call (codeAny_mono (F.run X.A X.stack s H ⟨us,[]⟩ (us ++ ds) (vs ++ dvs) Q E hr I.env0 (hb s us I.kIn hl) r2 h) fun r s' hq=>?_)
  cases r with
  | error e=>exact hx pins σ H s e s' I hq
  | ok fl=>
    cases fl with
    | ret u=>exact I.after hq
    | next=>exact False.elim hq
    | brk=>exact False.elim hq
    | cont=>exact False.elim hq
theorem pe_call (F:FnOk X.prog X.w X.K X.mg X.base CX k f fd ps sp) (hr:Room k X.A) (hg:Gl X x) (hm:X.mg x=some (.ref f)) (hk:PySem.W.keepIn X.K (.ref f)=true) (hb:Binds X.K fd ps ds) (hd:Vals dvs ds) (hx:Passes CX X E)
    (ha:PA X (e :: es) t) (hdb:(x == ("__debug__" : Str))=false:=by decide) (he:starEach (e :: es) X.env=(false,eval e X.env) :: starEach es X.env:=by rfl) (hpl:(backTo pos (starEach es X.env)).any (·.1)=false:=by rfl) :
    PE X (.Call (.Name x p) (e :: es) [] pos) (tCall sp dvs E t):=by
  intro pins s σ H Q I h
  refine wpAny_Call_Name_kw (ld_glob I hg hm ?_ hdb)
  refine PySem.W.callWith_K (h₀:=X.base) I.ok.mod.kin hk (thn (ha pos pins s σ H _ I h) fun us s1 ⟨vs,H1,I1,r,q⟩=>⟨I1.kIn,?_⟩) he hpl
  exact run_fn F hr hb hd hx I1 r q
end
section
variable {X:Cx} {CX:CXT} {k:Nat} {f C:Addr} {fd:FuncData} {ps ks:List Str} {sp:Sp} {E:XK} {x m:Str} {p pos apos kpos:Pos} {e o:Expr} {es:List Expr} {kws:List Keyword} {te ta:TE} {t tk:TA} {nm:Option Str}
variable {g:List Value->List Value->List Value} {gV:List V->List V->List V}
end
structure FnScope (N P:List Str) (sc:Scope):Prop where
  kind:sc.kind=.function
  co:sc.isCoroutine=false
  gen:sc.isGenerator=false
  nd:N.Nodup
  pre:N.take P.length=P
  par:∀ x ∈ P,sc.names.lookup x=some .local\/sc.names.lookup x=some .cell
  nofree:∀ y ∈ sc.names,y.2 ≠ .free
theorem bindL_out {kindOf:Str->Option NameKind} {x:Str}:∀ {binds:List (Str × Value)} {m:Str->Option Value},(∀ v,(x,v) ∉ binds)->bindL kindOf binds m x=m x
  | [],_,_=>rfl
  | (n,v) :: r,m,h=>by
    unfold bindL
    rw [bindL_out fun w hw=>h w (List.mem_cons_of_mem _ hw)]
    split
    · have:x ≠ n:=by rintro rfl; exact h v List.mem_cons_self
      simp [this]
    · rfl
theorem bindC_out {kindOf:Str->Option NameKind} {x:Str}:∀ {binds:List (Str × Value)} {m:Str->Option Value},(∀ v,(x,v) ∉ binds)->bindC kindOf binds m x=m x
  | [],_,_=>rfl
  | (n,v) :: r,m,h=>by
    unfold bindC
    rw [bindC_out fun w hw=>h w (List.mem_cons_of_mem _ hw)]
    split
    · rfl
    · have:x ≠ n:=by rintro rfl; exact h v List.mem_cons_self
      simp [this]
theorem bindL_get {kindOf:Str->Option NameKind} {x:Str} {v:Value}:∀ {P:List Str} {vs:List Value} {i:Nat} {m:Str->Option Value},P.Nodup->P[i]?=some x->vs[i]?=some v->kindOf x=some .local ->
    bindL kindOf (P.zip vs) m x=some v
  | [],_,_,_,_,h,_,_=>by simp at h
  | _ :: _,[],_,_,_,_,h,_=>by simp at h
  | p :: P,w :: vs,0,m,nd,h1,h2,hk=>by
    simp at h1 h2; subst h1; subst h2
    show bindL kindOf ((p,w) :: P.zip vs) m p=_
    unfold bindL
    rw [bindL_out fun v hv=>(List.nodup_cons.mp nd).1 (List.of_mem_zip hv).1,if_pos hk]
    simp
  | p :: P,w :: vs,i + 1,m,nd,h1,h2,hk=>by
    show bindL kindOf ((p,w) :: P.zip vs) m x=_
    unfold bindL
    exact bindL_get (i:=i) (List.nodup_cons.mp nd).2 (by simpa using h1) (by simpa using h2) hk
theorem bindC_get {kindOf:Str->Option NameKind} {x:Str} {v:Value}:∀ {P:List Str} {vs:List Value} {i:Nat} {m:Str->Option Value},P.Nodup->P[i]?=some x->vs[i]?=some v->kindOf x ≠ some .local ->
    bindC kindOf (P.zip vs) m x=some v
  | [],_,_,_,_,h,_,_=>by simp at h
  | _ :: _,[],_,_,_,_,h,_=>by simp at h
  | p :: P,w :: vs,0,m,nd,h1,h2,hk=>by
    simp at h1 h2; subst h1; subst h2
    show bindC kindOf ((p,w) :: P.zip vs) m p=_
    unfold bindC
    rw [bindC_out fun v hv=>(List.nodup_cons.mp nd).1 (List.of_mem_zip hv).1,if_neg hk]
    simp
  | p :: P,w :: vs,i + 1,m,nd,h1,h2,hk=>by
    show bindC kindOf ((p,w) :: P.zip vs) m x=_
    unfold bindC
    exact bindC_get (i:=i) (List.nodup_cons.mp nd).2 (by simpa using h1) (by simpa using h2) hk
def start (N:List Str) (vs:List V):St:=vs.map some ++ List.replicate (N.length - vs.length) none
def cxOf (CX:CXT) (P:Program) (w:World) (K:PySem.W.Frag) (mg:Str->Option Value) (base:Heap) (N:List Str) (qual:Str) (scope:Scope) (f:Addr) (cd:Value) (A:Around) (outer:List Env) (s:Shared) (H:Hp) (E:XK):Cx where
  prog:=P
  w:=w
  K:=K
  mg:=mg
  base:=base
  A:=A.deeper (envOfC qual scope s.heap.objs.size f cd)
  N:=N
  s₀:=s
  H₀:=H
  env:=envOfC qual scope s.heap.objs.size f cd
  outer:=outer
  stack:=envOfC qual scope s.heap.objs.size f cd :: outer
  ex:=[]
  calm:=true
  fn:=fun _=>true
  pn:=[]
  xe:=fun e s'=>wpAny (model P w) (A.deeper (envOfC qual scope s.heap.objs.size f cd)) (leaving (envOfC qual scope s.heap.objs.size f cd) e) (fun _ s''=>CX outer H s E e s'') (fun e' s''=>CX outer H s E e' s'') s'
theorem cell_has {sc:Scope} {n:Nat} {x:Str} (h:sc.names.lookup x=some .cell):∃ c,(cellsFrom n sc.names []).lookup x=some c:=by
  have q:=PySem.W.cellsFrom_some sc.names n [] (.inl h)
  exact Option.isSome_iff_exists.mp q
theorem inv_start {CX:CXT} {P:Program} {w:World} {K:PySem.W.Frag} {mg:Str->Option Value} {base:Heap} {N ps:List Str} {qual:Str} {scope:Scope} {f:Addr} {cd:Value} {A:Around} {outer:List Env} {s s1:Shared} {H:Hp} {E:XK} {us:List Value} {vs:List V}
    (S:FnScope N ps scope) (hd:A.handled=none) (e0:Env0 P w K mg base A outer s H) (hl:vs.length=ps.length) (r:Vals vs us)
    (x:InCallC s s.heap.objs.size (bindL (envOfC qual scope s.heap.objs.size f cd).kindOf (ps.zip us) fun _=>none) (cellsFrom (s.heap.objs.size + 1) scope.names []) (bindC (envOfC qual scope s.heap.objs.size f cd).kindOf (ps.zip us) fun _=>none) s1) :
    Inv (cxOf CX P w K mg base N qual scope f cd A outer s H E) [] (start N vs) H s1:=by
  have hpl:ps.length<=N.length:=by have:=congrArg List.length S.pre; rw [List.length_take] at this; omega
  obtain ⟨h1,tk,rfl,hk⟩:=x.done
  have noA:∀ b:Addr,b ∉ (cxOf CX P w K mg base N qual scope f cd A outer s H E).ex:=fun b z=>absurd (show b ∈ ([]:List Addr) from z) (by simp)
  refine ⟨⟨e0.mod,S.kind,rfl,rfl,Nat.le_refl _,fun y z c h1 h2=>?_,fun y hy=>?_,fun y c _ h=>?_,fun _=>hd,Around.frames_deeper e0.frames,.inr ⟨rfl,rfl⟩,fun b z=>absurd z (noA b),e0.bs,e0.bsz,fun b _ _=>noA b,fun b z=>absurd z (noA b),e0.funs,e0.frf⟩,
    rfl,e0.bare,Un.kept hk,⟨_,x.toInCall.ns,fun i y v h1 h2 h3=>?_⟩,fun y c h=>⟨_,x.cell y c h⟩,e0.hok.fresh (Nat.le_refl _),fun y c h=>?_,fun p hp=>absurd (show p ∈ ([]:List (Addr × Obj)) from hp) (by simp),e0.hok.kept hk,?_⟩
  · exact name_of_addr x.apart (PySem.mem_of_lookup h1) (PySem.mem_of_lookup h2)
  · have hy:scope.names.lookup y=some .cell\/scope.names.lookup y=some .free:=hy
    rcases hy with hy | hy
    · exact cell_has hy
    · exact absurd rfl (S.nofree _ (PySem.mem_of_lookup hy))
  · exact Nat.le_of_lt (x.above y c (PySem.mem_of_lookup h))
  · have hi:i < vs.length:=by
      unfold start at h2
      by_cases hi:i < vs.length
      · exact hi
      · rw [List.getElem?_append_right (by simpa using hi)] at h2
        rw [List.getElem?_replicate] at h2
        split at h2 <;> cases h2
    have ha:vs[i]?=some v:=by
      unfold start at h2
      rw [List.getElem?_append_left (by simpa using hi),List.getElem?_map] at h2
      cases e:vs[i]? with
      | none=>rw [e] at h2; cases h2
      | some a=>rw [e] at h2; cases h2; rfl
    obtain ⟨u,hu,rv⟩:=r.get ha
    have hp:ps[i]?=some y:=by
      rw [<- S.pre,List.getElem?_take_of_lt (by omega)]; exact h1
    have ndP:ps.Nodup:=by rw [<- S.pre]; exact S.nd.sublist (List.take_sublist _ _)
    refine ⟨u,rv,?_⟩
    rcases S.par y (List.mem_of_getElem? hp) with k | k
    · exact .inl ⟨k,bindL_get ndP hp hu k⟩
    · obtain ⟨c,e⟩:=cell_has (n:=s.heap.objs.size + 1) k
      refine .inr ⟨.inl k,c,e,?_⟩
      have q:=x.cell y c e
      rw [bindC_get ndP hp hu (by show scope.names.lookup y ≠ _; rw [k]; decide)] at q
      exact q
  · exact e0.hok.fresh (Nat.le_of_lt (x.above y c (PySem.mem_of_lookup h)))
  · unfold start
    show _=N.length
    rw [List.length_append,List.length_map,List.length_replicate]
    omega
theorem fn_of {CX:CXT} {P:Program} {w:World} {K:PySem.W.Frag} {mg:Str->Option Value} {base:Heap} {k:Nat} {f:Addr} {name qual:Str} {params:Arguments} {body:List Stmt} {scope:Scope} {dV kV doc pm cdv ct oc:Value} {an od:Option Addr}
    {osl:Array (Option Value)} {N ps:List Str} {sp:Sp} (lk:K.lookup f=some ⟨oc,od,.func (PySem.W.fnOf name qual params body scope dV kV doc pm an cdv ct),osl⟩) (hcd:PySem.W.codeIn K cdv qual=true) (S:FnScope N ps scope)
    (len:∀ vs H Q E,sp vs H Q E->vs.length=ps.length)
    (hbody:∀ (A:Around) (outer:List Env) (s:Shared) (H:Hp) (vs:List V) (Q:VK) (E:XK),Room k (A.deeper (envOfC qual scope s.heap.objs.size f cdv))->sp vs H Q E ->
      ∃ t,PSs (cxOf CX P w K mg base N qual scope f cdv A outer s H E) body t/\t { nx:=fun _ H'=>Q .non H',rt:=Q } (start N vs) H) :
    FnOk P w K mg base CX (k + 1) f (PySem.W.fnOf name qual params body scope dV kV doc pm an cdv ct) ps sp:=by
  refine ⟨len,fun A outer s H args us vs Q E hr e0 hb r hsp=>?_⟩
  have hl:=len _ _ _ _ hsp
  have KX:K.In s.heap:=e0.mod.kin.keeps fun b o e=>(e0.bs b o e).1
  have lim:s.heap.NoLimit:=e0.mod.nolimit.keeps fun b o e=>(e0.bs b o e).1
  have hkind:∀ y ∈ ps.zip us,scope.names.lookup y.1=some .local\/(scope.names.lookup y.1=some .cell/\((cellsFrom (s.heap.objs.size + 1) scope.names []).lookup y.1).isSome=true):=fun ⟨n,v⟩ hy=>by
    rcases S.par n (List.of_mem_zip hy).1 with q | q
    · exact .inl q
    · exact .inr ⟨q,PySem.W.cellsFrom_some _ _ _ (.inl q)⟩
  refine codeAny_call_function hr.depth (KX _ _ lk) rfl S.co S.gen rfl (PySem.W.codeRec_of KX hcd) (hb _ _ _ _ ?_)
  refine wpAny_newFunctionEnv_cells S.kind hkind fun env he s1 x=>?_
  subst he
  refine ⟨lim.keeps x.toInCall.keep,codeAny_func ?_⟩
  obtain ⟨t,ht,hq⟩:=hbody A outer s H vs Q E (hr.deeper _) hsp
  have I:Inv (cxOf CX P w K mg base N qual scope f cdv A outer s H E) [] (start N vs) H s1:=inv_start S hr.hd e0 hl r x
  refine wpAny_mono (ht [] s1 (start N vs) H _ I hq) (fun fl s' hs=>?_) fun e s' hs=>hs
  have fin:∀ {σ':St} {H':Hp} {v:V} {u:Value},Inv (cxOf CX P w K mg base N qual scope f cdv A outer s H E) [] σ' H' s'->RelV v u->Q v H'->CE outer P w H s Q u s':=
    fun {σ' H' v u} J rv q=>⟨v,H',J.os,J.bare,J.base,J.hok,rv,q⟩
  cases fl with
  | ret u=>
    obtain ⟨v,σ',H',J,rv,q⟩:=hs
    exact fin J rv q
  | next=>
    obtain ⟨σ',H',J,q⟩:=hs
    exact fin (v:=V.non) (u:=Value.none) J rfl q
  | brk=>
    obtain ⟨_,_,_,q⟩:=hs
    exact False.elim q
  | cont=>
    obtain ⟨_,_,_,q⟩:=hs
    exact False.elim q
end L2
namespace L2
open PySem PySem.Spec PyProof.Rows
section
variable {X:Cx} {x:Str} {p pos:Pos} {e:Expr} {es:List Expr} {t:TA} {id T:String} {r:List V->Hp->VK->Prop}
def tCB (r:List V->Hp->VK->Prop) (t:TA):TE:=fun σ H Q=>t σ H fun vs H1=>r vs H1 Q
theorem pe_callB (hc:CallR X (.builtin id) r) (hg:Gl X x) (hm:X.mg x=none) (hv:bootBuiltins x=some (.builtin id)) (ha:PA X (e :: es) t) (hn:x ≠ "__name__" := by decide) (hdb:(x == ("__debug__" : Str))=false:=by decide)
    (he:starEach (e :: es) X.env=(false,eval e X.env) :: starEach es X.env:=by rfl) (hpl:(backTo pos (starEach es X.env)).any (·.1)=false:=by rfl):PE X (.Call (.Name x p) (e :: es) [] pos) (tCB r t):=by
  intro pins s σ H Q I h
  refine wpAny_Call_Name_kw (ld_blt I hg hm hv ?_ hn hdb)
  exact PyProof.Rows.callWith_builtin1 (thn (ha pos pins s σ H _ I h) fun us s1 ⟨vs,H1,I1,r1,q1⟩=>hc pins s1 σ H1 vs us Q I1 r1 q1) he hpl
theorem pe_callTy (hc:CallR X (.type T) r) (hg:Gl X x) (hm:X.mg x=none) (hv:bootBuiltins x=some (.type T)) (ha:PA X (e :: es) t) (hn:x ≠ "__name__" := by decide) (hdb:(x == ("__debug__" : Str))=false:=by decide)
    (he:starEach (e :: es) X.env=(false,eval e X.env) :: starEach es X.env:=by rfl) (hpl:(backTo pos (starEach es X.env)).any (·.1)=false:=by rfl):PE X (.Call (.Name x p) (e :: es) [] pos) (tCB r t):=by
  intro pins s σ H Q I h
  refine wpAny_Call_Name_kw (ld_blt I hg hm hv ?_ hn hdb)
  exact PyProof.Rows.callWith_type1 (thn (ha pos pins s σ H _ I h) fun us s1 ⟨vs,H1,I1,r1,q1⟩=>hc pins s1 σ H1 vs us Q I1 r1 q1) he hpl
end
end L2
namespace HT
open PySem PyProof.Rows
def lexLt:List Int->List Int->Bool
  | [],[]=>false
  | [],_ :: _=>true
  | _ :: _,[]=>false
  | x :: xs,y :: ys=>if x=y then lexLt xs ys else decide (x < y)
theorem lexLt_cons (x y:Int) (xs ys:List Int):lexLt (x :: xs) (y :: ys)=if x=y then lexLt xs ys else decide (x < y):=rfl
theorem lexLt_nil_nil:lexLt [] []=false:=rfl
theorem lexLt_nil_cons (y:Int) (ys:List Int):lexLt [] (y :: ys)=true:=rfl
theorem lexLt_cons_nil (x:Int) (xs:List Int):lexLt (x :: xs) []=false:=rfl
theorem eqAt_int (A:Around) (s:Shared) (a:Int) (t:Tok) (c:Int) (u:Tok):∃ e,SeqAt.EqAt A s (.int a t) (.int c u) e/\(e=true <-> a=c):=
  ⟨(a == c),SeqAt.EqAt.int_int a t c u,by simp⟩
theorem rcLt_int (A:Around) (s:Shared) (a:Int) (t:Tok) (c:Int) (u:Tok) (prog:Program) (w:World) (E:Value->Shared->Prop) (Q:Value->Shared->Prop) (h:Q (.bool (decide (a < c))) s) :
    wpAny (model prog w) A (richCompare .Lt (.int a t) (.int c u)) Q E s:=
  (PyProof.Rows.lt_int h:wpAny (model prog w) A (compareOp .Lt (.int a t) (.int c u)) Q E s)
section
open PySem.SeqAt
open PySem.AutoSeq1 (wpAny_loadPart')
open PySem.MeetsSeq PySem.MeetsSeq2 PySem.MeetsSeq3
theorem tuple_lt_ints (l b:Addr) (items items2:Array Value) (n n2:Nat) (dd dd2:Option Addr) (sl sl2:Array (Option Value)) (ns ms:List Int) (hi:IntsAre items.toList ns) (hj:IntsAre items2.toList ms) :
    Meets (Builtin.«tuple.__lt__» ⟨[.ref l,.ref b],[]⟩)
      (fun _ R s=>s.heap.get? l=some { cls:=.type "tuple",dict:=dd,data:=.seq items n,slots:=sl }/\s.heap.get? b=some { cls:=.type "tuple",dict:=dd2,data:=.seq items2 n2,slots:=sl2 } /\
        R (.ok (.ret (.bool (lexLt ns ms)))) s):=
  .of_wp fun prog w A R s h=>by
    obtain ⟨hp,g,d,tk,os⟩:=s; obtain ⟨hl,hb,h⟩:=h
    have f2:=AutoSeq1.sub_tuple_tuple
    have z1:items.size=ns.length:=by rw [<- hi.length]; simp
    have z2:items2.size=ms.length:=by rw [<- hj.length]; simp
    wp_walk using wpAny_loadPart' hl,wpAny_loadPart' hb,wpAny_forIn_list _ (fun rest b s'=>b.1=none/\s'=⟨hp,g,d,tk,os⟩/\∃ (vs ws:List Value) (ns' ms':List Int),rest=vs.zip ws /\
      IntsAre vs ns'/\IntsAre ws ms'/\ns'.length + items2.size=ms'.length + items.size/\R (.ok (.ret (.bool (lexLt ns' ms')))) ⟨hp,g,d,tk,os⟩) _
    case turn=>
      rintro ⟨y,x⟩ rest b s' ⟨hb',rfl,vs,ws,ns',ms',hz,hvi,hwi,hlen,hR⟩
      cases hvi with
      | nil=>rw [List.zip_nil_left] at hz; cases hz
      | cons a t hvi'=>
        cases hwi with
        | nil=>rw [List.zip_nil_right] at hz; cases hz
        | cons c u hwi'=>
          rw [List.zip_cons_cons] at hz
          injection hz with hyx hrest
          injection hyx with hy hx
          subst hy hx
          rw [lexLt_cons] at hR
          simp only [List.length_cons] at hlen
          obtain ⟨e,he,hiff⟩:=eqAt_int A.in1 ⟨hp,g,d,tk,os⟩ a t c u
          refine wpAny_bind (he prog w _ _ ?_)
          cases e with
          | true=>
            rw [if_pos (hiff.mp rfl)] at hR
            wp_walk
            exact ⟨rfl,rfl,_,_,_,_,hrest,hvi',hwi',by omega,hR⟩
          | false=>
            rw [if_neg (fun q=>absurd (hiff.mpr q) Bool.false_ne_true)] at hR
            have hri:=rcLt_int A.in1 ⟨hp,g,d,tk,os⟩ a t c u prog w
            wp_walk using hri
            exact ⟨_,rfl,by simpa using hR⟩
    case fin=>
      rintro ⟨b1,b2⟩ s' ⟨hb',rfl,vs,ws,ns',ms',hz,hvi,hwi,hlen,hR⟩
      simp only at hb'
      subst hb'
      have hv:lexLt ns' ms'=decide (items.size < items2.size):=by
        cases hvi with
        | nil=>
          cases hwi with
          | nil=>
            simp only [List.length_nil] at hlen
            rw [lexLt_nil_nil]
            exact (decide_eq_false (by omega)).symm
          | cons c u hw=>
            simp only [List.length_nil,List.length_cons] at hlen
            rw [lexLt_nil_cons]
            exact (decide_eq_true (by omega)).symm
        | cons a t hv=>
          cases hwi with
          | nil=>
            simp only [List.length_nil,List.length_cons] at hlen
            rw [lexLt_cons_nil]
            exact (decide_eq_false (by omega)).symm
          | cons c u hw=>
            rw [List.zip_cons_cons] at hz
            cases hz
      rw [hv] at hR
      wp_walk
      exact ⟨_,rfl,by simpa [Builtin.Tuple.tupleCompareSizes] using hR⟩
    case h=>
      exact ⟨rfl,rfl,items.toList,items2.toList,ns,ms,rfl,hi,hj,by omega,h⟩
end
section
variable {prog:Program} {w:World} {A:Around} {E:Value->Shared->Prop} {s:Shared}
theorem lt_tupInts {l b:Addr} {items items2:Array Value} {ns ms:List Int} {Q:Value->Shared->Prop} (hl:IsTup s.heap l items) (hb:IsTup s.heap b items2) (hi:IntsAre items.toList ns) (hj:IntsAre items2.toList ms)
    (hu:A.units < cLine) (h:Q (.bool (lexLt ns ms)) s):wpAny (model prog w) A (compareOp .Lt (.ref l) (.ref b)) Q E s:=by
  obtain ⟨⟨cls,dd,data,sl⟩,ho,hc,n,hd⟩:=id hl
  obtain ⟨⟨cls2,dd2,data2,sl2⟩,ho2,hc2,n2,hd2⟩:=id hb
  simp only at hc hd hc2 hd2
  subst hc hd hc2 hd2
  exact richCompare_meets_room (op:=.Lt) ⟨_,ho,rfl⟩ ⟨_,ho2,rfl⟩ PySem.F.slot_tuple_lt PySem.F.entry_tuple_lt (PySem.F.args_tuple_lt_2 _ _) (tuple_lt_ints l b items items2 n n2 dd dd2 sl sl2 ns ms hi hj)
    ⟨ho,ho2,show Value.bool (lexLt ns ms) ≠ Value.notImplemented/\Q (.bool (lexLt ns ms)) s from ⟨(fun x=>nomatch x),h⟩⟩ hu
theorem cat_tup {t b:Addr} {vs ws:List Value} {Q:Value->Shared->Prop} (ht:IsTup s.heap t vs.toArray) (hb:IsTup s.heap b ws.toArray) (hv:vs ≠ [])
    (h1:ws=[]->Q (.ref t) s) (h2:ws ≠ []->Q (.ref s.heap.objs.size) { s with heap:=s.heap.push { cls:=.type "tuple",data:=.seq (vs ++ ws).toArray } })
    (hsz:vs.length + ws.length<=sizeLine):wpAny (model prog w) A (binaryOp .Add (.ref t) (.ref b)) Q E s:=by
  obtain ⟨⟨cls,dd,data,sl⟩,ho,hc,n,hd⟩:=id ht
  obtain ⟨⟨cls2,dd2,data2,sl2⟩,ho2,hc2,n2,hd2⟩:=id hb
  simp only at hc hd hc2 hd2
  subst hc hd hc2 hd2
  have e:vs.toArray ++ ws.toArray=(vs ++ ws).toArray:=by simp
  by_cases hw:ws=[]
  · exact concat_meets ⟨_,ho,rfl⟩ ⟨_,ho2,rfl⟩ noFill_tuple_add seq_tuple_add PySem.F.slot_tuple_add PySem.F.entry_tuple_add (PySem.F.args_tuple_add_2 _ _)
      (tuple_addW1 t b vs.toArray ws.toArray n n2 dd dd2 sl sl2 (by simpa using hv) (by simp [hw])) ⟨ho,ho2,h1 hw⟩
  · refine concat_meets ⟨_,ho,rfl⟩ ⟨_,ho2,rfl⟩ noFill_tuple_add seq_tuple_add PySem.F.slot_tuple_add PySem.F.entry_tuple_add (PySem.F.args_tuple_add_2 _ _)
      (tuple_addW2 t b vs.toArray ws.toArray n n2 dd dd2 sl sl2 (by simpa using hv) (by simpa using hw) (by rw [List.size_toArray,List.size_toArray]; exact hsz)) ⟨ho,ho2,?_⟩
    rw [e]
    exact h2 hw
def sIx (n d:Nat):Option Int->Nat
  | none=>d
  | some v=>if v < 0 then (v + (n:Int)).toNat else min v.toNat n
theorem sIx_none (n d:Nat):sIx n d none=d:=rfl
theorem sIx_nat (n d k:Nat):sIx n d (some (k:Int))=min k n:=by
  show (if (k:Int) < 0 then ((k:Int) + (n:Int)).toNat else min (k:Int).toNat n)=min k n
  rw [if_neg (by omega),Int.toNat_natCast]
theorem sIx_le (n d:Nat) (hd:d<=n) (o:Option Int):sIx n d o<=n:=by
  cases o with
  | none=>exact hd
  | some v=>
    show (if v < 0 then (v + (n:Int)).toNat else min v.toNat n)<=n
    by_cases hv:v < 0
    · rw [if_pos hv]; omega
    · rw [if_neg hv]; exact Nat.min_le_right _ _
theorem clip_eq (v:Int) (n d:Nat):(if v < 0 then max (v + (n:Int)) 0 else min v (n:Int))=((sIx n d (some v):Nat):Int):=by
  show (if v < 0 then max (v + (n:Int)) 0 else min v (n:Int))=(((if v < 0 then (v + (n:Int)).toNat else min v.toNat n):Nat):Int)
  by_cases hv:v < 0
  · simp only [if_pos hv]; omega
  · simp only [if_neg hv]; omega
theorem adjust_gen (lo hi:Option Int) (n:Nat):Builtin.Slice.sliceAdjust lo hi 1 (n:Int)=(((sIx n 0 lo:Nat):Int),((sIx n n hi:Nat):Int)):=by
  have h1:¬ ((1:Int) < 0):=by omega
  unfold Builtin.Slice.sliceAdjust
  simp only [h1,if_false]
  refine Prod.ext ?_ ?_
  · cases lo with
    | none=>rfl
    | some v=>exact clip_eq v n 0
  · cases hi with
    | none=>rfl
    | some v=>exact clip_eq v n n
theorem places_gen (i j:Nat):Builtin.Slice.slicePlaces (i:Int) (j:Int) 1=j - i:=by
  unfold Builtin.Slice.slicePlaces
  have h1:(1:Int) > 0:=by omega
  simp only [h1,if_true,Int.ediv_one]
  split <;> omega
theorem slicePart_ {v:Value} {o:Option Int} {Q:Option Int->Shared->Prop} (p:IsPart v o) (h:Q o s):wpAny (model prog w) A (Builtin.Slice.slicePartIndex v) Q E s:=by
  cases p with
  | none=>exact slicePart_none h
  | int i t=>exact slicePart_int h
theorem sliceApplied_gen {sl:Addr} {vl vu:Value} {lo hi:Option Int} {n:Nat} {Q:Int × Int × Nat->Shared->Prop} (hs:s.heap.IsSliceOf sl vl vu .none) (pl:IsPart vl lo) (pu:IsPart vu hi)
    (h:Q (((sIx n 0 lo:Nat):Int),1,sIx n n hi - sIx n 0 lo) s):wpAny (model prog w) A (Builtin.Slice.sliceApplied (.ref sl) (pure (n:Int))) Q E s:=by
  obtain ⟨os,hos,hcs,hds⟩:=id hs
  unfold Builtin.Slice.sliceApplied Builtin.Slice.sliceFields
  refine wpAny_bind (wpAny_bind (wpAny_field hos hds (x:=vl) rfl (wpAny_bind (wpAny_field hos hds (x:=vu) rfl (wpAny_bind (wpAny_field hos hds (x:=.none) rfl (wpAny_pure ?_)))))))
  refine wpAny_bind (slicePart_none ?_)
  show wpAny _ _ (if ((1:Int) == 0)=true then _ else _) _ _ s
  rw [if_neg (by decide)]
  refine wpAny_bind (slicePart_ pl (wpAny_bind (slicePart_ pu (wpAny_bind (wpAny_pure ?_)))))
  show wpAny _ _ (match Builtin.Slice.sliceAdjust lo hi 1 (n:Int) with | (lo,hi)=>pure (lo,(1:Int),Builtin.Slice.slicePlaces lo hi 1)) _ _ s
  rw [adjust_gen lo hi n]
  show wpAny _ _ (pure (((sIx n 0 lo:Nat):Int),(1:Int),Builtin.Slice.slicePlaces ((sIx n 0 lo:Nat):Int) ((sIx n n hi:Nat):Int) 1)) _ _ s
  rw [places_gen]
  exact wpAny_pure h
theorem pick_gen (xs:Array Value) (i k:Nat):((List.range k).filterMap fun (m:Nat)=>xs[((i:Int) + (m:Int) * 1).toNat]?).toArray=((xs.toList.drop i).take k).toArray:=by
  have e:(fun (m:Nat)=>xs[((i:Int) + (m:Int) * 1).toNat]?)=fun m=>xs[i + m]?:=by
    funext m
    have:((i:Int) + (m:Int) * 1).toNat=i + m:=by omega
    rw [this]
  rw [e]
  have:=pick_run xs i k
  rw [List.filterMap_map] at this
  have e2:((fun x=>xs[x]?) ∘ fun x=>i + x)=fun m=>xs[i + m]?:=rfl
  rw [e2] at this
  rw [this]
theorem getItem_tuple_cut {t sl:Addr} {items:Array Value} {vl vu:Value} {lo hi:Option Int} {Q:Value->Shared->Prop} (ht:IsTup s.heap t items) (hs:s.heap.IsSliceOf sl vl vu .none) (pl:IsPart vl lo) (pu:IsPart vu hi)
    (hw:¬ (sIx items.size 0 lo=0/\sIx items.size items.size hi=items.size))
    (h:Q (.ref s.heap.objs.size) { s with heap:=s.heap.push { cls:=.type "tuple",data:=.seq ((items.toList.drop (sIx items.size 0 lo)).take (sIx items.size items.size hi - sIx items.size 0 lo)).toArray } })
    (hsz:items.size<=sizeLine):wpAny (model prog w) A (getItem (.ref t) (.ref sl)) Q E s:=by
  have htake:sizeOk (.seq ((items.toList.drop (sIx items.size 0 lo)).take (sIx items.size items.size hi - sIx items.size 0 lo)).toArray):=by
    show ((items.toList.drop (sIx items.size 0 lo)).take (sIx items.size items.size hi - sIx items.size 0 lo)).toArray.size<=sizeLine
    rw [List.size_toArray,List.length_take,List.length_drop,Array.length_toList]
    omega
  have hj:sIx items.size items.size hi<=items.size:=sIx_le _ _ (Nat.le_refl _) hi
  obtain ⟨os,hos,hcs,hds⟩:=id hs
  have hTs:s.TypeIs (.ref sl) "slice" := ⟨os,hos,hcs⟩
  unfold getItem
  try with_reducible refine wpAny_holding ?_
  first | refine wpAny_bind (wpAny_pure ?_) | skip
  refine wpAny_bind (wpAny_sequenceKey ht.typeIs (by decide) ?_)
  refine wpAny_bind (wpAny_callSpecial?_slot (name:=Str.ofString "__getitem__") ht.typeIs PyProof.Rows.slot_tuple_getitem
    (wpAny_call_entry PyProof.Rows.slot_tuple_getitem ht.typeIs entry_tuple_getitem ?_ (args_tuple_getitem _ _)))
  show wpAny _ _ (Builtin.Tuple.tupleItemsOf (.ref t) >>= _) _ _ s
  refine wpAny_bind (tupleItemsOf_ ht ?_)
  refine wpAny_bind (wpAny_typeOf hTs ?_)
  rw [if_pos (by decide)]
  refine wpAny_bind (sliceApplied_gen hs pl pu ?_)
  have hno:¬ ((((sIx items.size 0 lo:Nat):Int) == 0 && (1:Int) == 1 && (sIx items.size items.size hi - sIx items.size 0 lo) == items.size)=true):=by
    intro q
    rw [Bool.and_eq_true,Bool.and_eq_true] at q
    have q1:((sIx items.size 0 lo:Nat):Int)=0:=eq_of_beq q.1.1
    have q2:sIx items.size items.size hi - sIx items.size 0 lo=items.size:=eq_of_beq q.2
    exact hw ⟨by omega,by omega⟩
  show wpAny _ _ (if (((sIx items.size 0 lo:Nat):Int) == 0 && (1:Int) == 1 && (sIx items.size items.size hi - sIx items.size 0 lo) == items.size)=true then _ else _) _ _ s
  rw [if_neg hno,pick_gen]
  first
    | exact wpAny_bind (m:=Builtin.Tuple.tupleExact _) (wpAny_newObj_type (wpAny_pure ⟨_,rfl,wpAny_pure h⟩) htake)
    | exact wpAny_bind (m:=Builtin.Tuple.tupleExact _) (wpAny_newObj_type (wpAny_bind (wpAny_pure (wpAny_pure ⟨_,rfl,wpAny_pure h⟩))) htake)
    | exact wpAny_bind (wpAny_bind (m:=Builtin.Tuple.tupleExact _) (wpAny_newObj_type (wpAny_pure (wpAny_pure ⟨_,rfl,wpAny_pure h⟩)) htake))
    | exact wpAny_bind (wpAny_bind (m:=Builtin.Tuple.tupleExact _) (wpAny_newObj_type (wpAny_pure ⟨_,rfl,wpAny_pure h⟩) htake))
end
end HT
namespace L2
open PySem PySem.Spec PyProof.Rows
abbrev TO:=St->Hp->(Option Int->Hp->Prop)->Prop
def PO (X:Cx) (e:Option Expr) (t:TO):Prop:=
  ∀ (pins:List (Addr × Obj)) (s:Shared) (σ:St) (H:Hp) (Q:Option Int->Hp->Prop),Inv X pins σ H s->t σ H Q ->
    wpAny (model X.prog X.w) X.A (evalPart e X.env) (fun u s'=>∃ o H',Inv X pins σ H' s'/\IsPart u o/\Q o H') X.xe s
def tNoPart:TO:=fun _ H Q=>Q none H
def tPart (t:TE):TO:=fun σ H Q=>t σ H fun x H1=>∃ i,x=.int i/\Q (some i) H1
theorem intsAre_of {ns:List Int}:∀ {us:List Value},Vals (ns.map V.int) us->IntsAre us ns:=by
  induction ns with
  | nil=>intro us r; rw [List.map_nil] at r; cases r; exact .nil
  | cons n ns ih=>
    intro us r
    rw [List.map_cons] at r
    cases r with
    | cons r1 r2=>
      obtain ⟨t,e⟩:=r1
      subst e
      exact .cons n t (ih r2)
section
variable {X:Cx} {e:Expr} {te:TE} {lo hi:Option Expr} {tl th:TO} {pos p2:Pos}
theorem po_none:PO X none tNoPart:=by
  intro pins s σ H Q I h
  rw [evalPart_none]
  exact wpAny_pure ⟨none,H,I,.none,h⟩
theorem po_some (h:PE X e te):PO X (some e) (tPart te):=by
  intro pins s σ H Q I hw
  rw [evalPart_some]
  refine thn (h pins s σ H _ I hw) fun u s1 ⟨x,H1,I1,r1,q1⟩=>?_
  obtain ⟨i,rfl,q⟩:=q1
  obtain ⟨t,rfl⟩:=r1
  exact ⟨some i,H1,I1,.int i t,q⟩
def SlR (X:Cx) (r:V->Option Int->Option Int->Hp->VK->Prop):Prop:=
  ∀ (pins:List (Addr × Obj)) (s:Shared) (σ:St) (H:Hp) (x:V) (v vl vu:Value) (lo hi:Option Int) (sl:Addr) (Q:VK),Inv X pins σ H s->RelV x v->s.heap.IsSliceOf sl vl vu .none->IsPart vl lo->IsPart vu hi->r x lo hi H Q ->
    ∃ T id,typeLookup (.type T) "__getitem__" = pure (some (.builtin id))/\s.TypeIs v T/\wpAny (model X.prog X.w) X.A (getItem v (.ref sl)) (EP X pins σ Q) X.xe s
theorem SlR.or {r r':V->Option Int->Option Int->Hp->VK->Prop} (h:SlR X r) (h':SlR X r'):SlR X (fun x lo hi H Q=>r x lo hi H Q\/r' x lo hi H Q):=by
  intro pins s σ H x v vl vu lo hi sl Q I rx hs pl pu q
  rcases q with q | q
  · exact h pins s σ H x v vl vu lo hi sl Q I rx hs pl pu q
  · exact h' pins s σ H x v vl vu lo hi sl Q I rx hs pl pu q
def tSl (r:V->Option Int->Option Int->Hp->VK->Prop) (te:TE) (tl th:TO):TE:=fun σ H Q=>te σ H fun x H1=>tl σ H1 fun l H2=>th σ H2 fun u H3=>r x l u H3 Q
theorem pe_slice {r:V->Option Int->Option Int->Hp->VK->Prop} (hr:SlR X r) (he:PE X e te) (hl:PO X lo tl) (hu:PO X hi th):PE X (.Subscript e (.Slice lo hi none p2) pos) (tSl r te tl th):=by
  intro pins s σ H Q I h
  refine Subscript_ (thn (he pins s σ H _ I h) fun v s1 ⟨x,H1,I1,r1,q1⟩=>?_)
  refine wpAny_Slice (thn (hl pins s1 σ H1 _ I1 q1) fun vl s2 ⟨l,H2,I2,pl,q2⟩=>thn (hu pins s2 σ H2 _ I2 q2) fun vu s3 ⟨u,H3,I3,pu,q3⟩=>?_)
  rw [evalPart_none]
  refine wpAny_pure ?_
  have I4:Inv X pins σ H3 { s3 with heap:=s3.heap.push { cls:=.type "slice",data:=.fields #[vl,vu,.none] } }:=I3.kept (t':=s3.toks) fun b ob q=>Heap.get?_push_of_some _ q
  obtain ⟨T,id,hT,ht,hg⟩:=hr pins { s3 with heap:=s3.heap.push { cls:=.type "slice",data:=.fields #[vl,vu,.none] } } σ H3 x v vl vu l u s3.heap.objs.size Q I4 r1 (Heap.IsSliceOf.new ..) pl pu q3
  show wpAny (model X.prog X.w) X.A (subscriptTail e (.Slice lo hi none p2) v (.ref s3.heap.objs.size)) (EP X pins σ Q) X.xe { s3 with heap:=s3.heap.push { cls:=.type "slice",data:=.fields #[vl,vu,.none] } }
  exact tail_any (ops:=[.ref s3.heap.objs.size,v]) ht hT hg (by with_unfolding_all rfl)
def cutV (xs:List V) (lo hi:Option Int):List V:=(xs.drop (HT.sIx xs.length 0 lo)).take (HT.sIx xs.length xs.length hi - HT.sIx xs.length 0 lo)
theorem cutV_length (xs:List V) (lo hi:Option Int):(cutV xs lo hi).length<=xs.length:=by
  unfold cutV
  rw [List.length_take,List.length_drop]
  omega
def rSlT (K:PySem.W.Frag):V->Option Int->Option Int->Hp->VK->Prop:=fun x lo hi H Q=>∃ a xs,x=.ref a/\SqT K H a xs /\
  ¬ (HT.sIx xs.length 0 lo=0/\HT.sIx xs.length xs.length hi=xs.length)/\∀ p,H p=none->Q (.ref p) (upd H p (.tup (cutV xs lo hi)))
theorem sl_tup:SlR X (rSlT X.K):=by
  intro pins s σ H x v vl vu lo hi sl Q I rx hs pl pu h
  obtain ⟨a,xs,rfl,hx,hw,q⟩:=h
  cases rx
  obtain ⟨its,r,ht,hz⟩:=I.tuple hx
  have hlen:its.toArray.size=xs.length:=by rw [List.size_toArray]; exact r.length.symm
  refine ⟨"tuple",_,PyProof.Rows.slot_tuple_getitem.lookup,ht.typeIs,?_⟩
  refine HT.getItem_tuple_cut ht hs pl pu (by rw [hlen]; exact hw) ?_ (by rw [hlen]; exact hz)
  rw [hlen]
  refine ⟨.ref s.heap.objs.size,_,I.laid (t':=s.toks) (o:=.tup (cutV xs lo hi)) (fun b ob q=>Heap.get?_push_of_some _ q) (Nat.le_refl _) ?_,rfl,q _ (I.hok.fresh (Nat.le_refl _))⟩
  exact ⟨Nat.le_trans (cutV_length xs lo hi) hz,_,(r.drop (HT.sIx xs.length 0 lo)).take (HT.sIx xs.length xs.length hi - HT.sIx xs.length 0 lo),IsTup.new _ _⟩
def rLtT (K:PySem.W.Frag):R2:=fun x y H Q=>∃ a b ns ms,x=.ref a/\y=.ref b/\SqT K H a (ns.map V.int)/\SqT K H b (ms.map V.int)/\Q (.bl (HT.lexLt ns ms)) H
theorem op_ltT (hu:X.A.units < cLine):OpR X (compareOp .Lt) (rLtT X.K):=by
  intro pins s σ H x y v u Q I rx ry h
  obtain ⟨a,b,ns,ms,rfl,rfl,ha,hb,q⟩:=h
  cases rx
  cases ry
  obtain ⟨its,r1,p1,_⟩:=I.tuple ha
  obtain ⟨its2,r2,p2,_⟩:=I.tuple hb
  have i1:IntsAre its.toArray.toList ns:=intsAre_of r1
  have i2:IntsAre its2.toArray.toList ms:=intsAre_of r2
  exact HT.lt_tupInts p1 p2 i1 i2 hu ⟨.bl (HT.lexLt ns ms),H,I,rfl,q⟩
def rCatT (K:PySem.W.Frag):R2:=fun x y H Q=>∃ a b xs ys,x=.ref a/\y=.ref b/\SqT K H a xs/\SqT K H b ys/\xs ≠ []/\xs.length + ys.length<=sizeLine /\
  (ys=[]->Q (.ref a) H)/\(ys ≠ []->∀ p,H p=none->Q (.ref p) (upd H p (.tup (xs ++ ys))))
theorem Vals.nil_iff {xs:List V} {us:List Value} (r:Vals xs us):us=[] <-> xs=[]:=by
  cases r with
  | nil=>simp
  | cons _ _=>simp
theorem op_catT:OpR X (binaryOp .Add) (rCatT X.K):=by
  intro pins s σ H x y v u Q I rx ry h
  obtain ⟨a,b,xs,ys,rfl,rfl,ha,hb,hx,hz,q1,q2⟩:=h
  cases rx
  cases ry
  obtain ⟨its,r1,p1,_⟩:=I.tuple ha
  obtain ⟨its2,r2,p2,_⟩:=I.tuple hb
  refine HT.cat_tup p1 p2 (fun z=>hx (r1.nil_iff.mp z)) (fun z=>⟨.ref a,H,I,rfl,q1 (r2.nil_iff.mp z)⟩) (fun z=>?_) (by rw [<- r1.length,<- r2.length]; exact hz)
  refine ⟨.ref s.heap.objs.size,_,I.laid (t':=s.toks) (o:=.tup (xs ++ ys)) (fun b ob q=>Heap.get?_push_of_some _ q) (Nat.le_refl _) ?_,rfl,q2 (fun w=>z (r2.nil_iff.mpr w)) _ (I.hok.fresh (Nat.le_refl _))⟩
  exact ⟨by rw [List.length_append]; exact hz,_,r1.append r2,IsTup.new _ _⟩
end
end L2
namespace L2
open PySem PySem.Spec PyProof.Rows
def ixN (n:Nat) (i:Int):Option Nat:=if 0<=i then (if i < n then some i.toNat else none) else if -(n:Int)<=i then some (i + n).toNat else none
def atI {α:Type} (xs:List α) (i:Int):Option α:=(ixN xs.length i).bind fun j=>xs[j]?
theorem ixN_seq {n:Nat} {i:Int} {j:Nat} (h:ixN n i=some j):seqIndex? i n=some j/\j < n/\-(n:Int)<=i/\i < n:=by
  unfold ixN at h
  by_cases h0:0<=i
  · rw [if_pos h0] at h
    by_cases h1:i < n
    · rw [if_pos h1] at h
      have e:i.toNat=j:=Option.some.inj h
      exact ⟨by rw [seqIndex_of h0 h1,e],by omega,by omega,h1⟩
    · rw [if_neg h1] at h; cases h
  · rw [if_neg h0] at h
    by_cases h1:-(n:Int)<=i
    · rw [if_pos h1] at h
      have e:(i + n).toNat=j:=Option.some.inj h
      exact ⟨by rw [seqIndex_neg (by omega) h1,e],by omega,h1,by omega⟩
    · rw [if_neg h1] at h; cases h
theorem atI_get {α:Type} {xs:List α} {i:Int} {v:α} (h:atI xs i=some v):∃ j,seqIndex? i xs.length=some j/\xs[j]?=some v/\j < xs.length/\-(xs.length:Int)<=i/\i < xs.length:=by
  unfold atI at h
  cases e:ixN xs.length i with
  | none=>rw [e] at h; cases h
  | some j=>
    rw [e] at h
    obtain ⟨h1,h2,h3,h4⟩:=ixN_seq e
    exact ⟨j,h1,h,h2,h3,h4⟩
theorem atI_nat {α:Type} {xs:List α} {j:Nat} {v:α} (h:xs[j]?=some v):atI xs (j:Int)=some v:=by
  have hj:j < xs.length:=(List.getElem?_eq_some_iff.mp h).1
  have e:ixN xs.length (j:Int)=some j:=by
    unfold ixN
    rw [if_pos (by omega),if_pos (by omega)]; simp
  unfold atI; rw [e]; exact h
def PlainIx (b:Expr):Prop:=∀ o i,subscripted b false o i=operate [o,i] (getItem o i)
def IxR (X:Cx) (r:R2):Prop:=
  ∀ (value slice:Expr) (pins:List (Addr × Obj)) (s:Shared) (σ:St) (H:Hp) (x y:V) (v u:Value) (Q:VK),Inv X pins σ H s->RelV x v->RelV y u->r x y H Q ->
    subscripted slice false v u=operate [v,u] (getItem v u)->wpAny (model X.prog X.w) X.A (subscriptTail value slice v u) (EP X pins σ Q) X.xe s
def MtR (X:Cx) (id:String) (r:V->List V->Hp->VK->Prop):Prop:=
  ∀ (pins:List (Addr × Obj)) (s:Shared) (σ:St) (H:Hp) (x:V) (xs:List V) (v:Value) (us:List Value) (Q:VK),Inv X pins σ H s->RelV x v->Vals xs us->r x xs H Q ->
    wpAny (model X.prog X.w) X.A (call (.builtin id) (v :: us)) (EP X pins σ Q) X.xe s
section
variable {X:Cx} {a b:Expr} {ta tb:TE} {pos:Pos}
theorem IxR.or {r r':R2} (h:IxR X r) (h':IxR X r'):IxR X (fun x y H Q=>r x y H Q\/r' x y H Q):=by
  intro value slice pins s σ H x y v u Q I rx ry q hs
  rcases q with q | q
  · exact h value slice pins s σ H x y v u Q I rx ry q hs
  · exact h' value slice pins s σ H x y v u Q I rx ry q hs
theorem pe_ix {r:R2} (hr:IxR X r) (ha:PE X a ta) (hb:PE X b tb) (hs:PlainIx b):PE X (.Subscript a b pos) (tOp r ta tb):=by
  intro pins s σ H Q I h
  exact Subscript_ (binT ha hb I h fun v u s2 x y H2 I2 rx ry q=>hr a b pins s2 σ H2 x y v u Q I2 rx ry q (hs _ _))
def rIxL (K:PySem.W.Frag):R2:=fun x y H Q=>∃ p xs i v,x=.ref p/\y=.int i/\SqL K H p xs/\atI xs i=some v/\Q v H
def rIxT (K:PySem.W.Frag):R2:=fun x y H Q=>∃ p xs i v,x=.ref p/\y=.int i/\SqT K H p xs/\atI xs i=some v/\Q v H
def rIxS:R2:=fun x y H Q=>∃ z i c,x=.str z/\y=.int i/\z.length<=sizeLine/\atI z.cps.toList i=some c/\Q (.str ⟨#[c]⟩) H
theorem ix_list:IxR X (rIxL X.K):=by
  intro value slice pins s σ H x y v u Q I rx ry h hs
  obtain ⟨p,xs,i,z,rfl,rfl,hq,he,q⟩:=h
  cases rx
  obtain ⟨t,rfl⟩:=ry
  obtain ⟨its,r,pl,hz⟩:=I.list hq
  obtain ⟨j,h1,h2,h3,h4,h5⟩:=atI_get he
  obtain ⟨w,ew,rw'⟩:=r.get h2
  have hl:=r.length
  have hn:=line63
  have fin:EP X pins σ Q w s:=⟨z,H,I,rw',q⟩
  by_cases h0:0<=i
  · have hj:i.toNat=j:=by
      rw [seqIndex_of h0 h5] at h1
      exact Option.some.inj h1
    exact item_listR pl.isList h0 (by omega) (by rw [hj]; simpa using ew) fin hs
  · have hj:(i + (its.toArray.size:Int)).toNat=j:=by
      rw [seqIndex_neg (by omega) h4] at h1
      rw [List.size_toArray,<- hl]
      exact Option.some.inj h1
    exact subscriptTail_builtinR (x:=w) pl.isList.typeIs slot_list_getitem.lookup
      (wpAny_getItem_list_neg (Q:=fun r s'=>r=w/\EP X pins σ Q r s') pl.isList (by omega) (by rw [List.size_toArray] <;> omega) (by omega) (by rw [hj]; simpa using ew) ⟨rfl,fin⟩) hs
theorem ix_tup:IxR X (rIxT X.K):=by
  intro value slice pins s σ H x y v u Q I rx ry h hs
  obtain ⟨p,xs,i,z,rfl,rfl,hq,he,q⟩:=h
  cases rx
  obtain ⟨t,rfl⟩:=ry
  obtain ⟨its,r,pl,hz⟩:=I.tuple hq
  obtain ⟨j,h1,h2,h3,h4,h5⟩:=atI_get he
  obtain ⟨w,ew,rw'⟩:=r.get h2
  have hl:=r.length
  have hn:=line63
  have fin:EP X pins σ Q w s:=⟨z,H,I,rw',q⟩
  exact subscriptTail_builtinR (x:=w) pl.typeIs slot_tuple_getitem.lookup
    (getItem_tuple (j:=j) (Q:=fun r s'=>r=w/\EP X pins σ Q r s') pl (by omega) (by omega) (by rw [List.size_toArray,<- hl]; exact h1) (by simpa using ew) ⟨rfl,fin⟩) hs
theorem ix_str:IxR X rIxS:=by
  intro value slice pins s σ H x y v u Q I rx ry h hs
  obtain ⟨z,i,c,rfl,rfl,hz,he,q⟩:=h
  obtain ⟨t,rfl⟩:=rx
  obtain ⟨t',rfl⟩:=ry
  obtain ⟨j,h1,h2,h3,h4,h5⟩:=atI_get he
  have hl:z.cps.toList.length=z.length:=by simp [Str.length]
  rw [hl] at h1 h4 h5
  have hn:=line63
  exact tail_any (typeIs_str s z t) slot_str_getitem.lookup (getItem_str (c:=c) (by
    have e1:decide (i < -(2 ^ 63:Int))=false:=decide_eq_false (by omega)
    have e2:decide (i>=2 ^ 63)=false:=decide_eq_false (by omega)
    rw [e1,e2,Bool.or_false]) (by rw [h1]; simpa using h2) ⟨.str ⟨#[c]⟩,H,I.tok _,⟨_,rfl⟩,q⟩) hs
def rIx (K:PySem.W.Frag):R2:=fun x y H Q=>rIxL K x y H Q\/rIxT K x y H Q\/rIxS x y H Q
theorem ix_seq:IxR X (rIx X.K):=ix_list.or (ix_tup.or ix_str)
theorem mapSeq_set (its:List Value) (n j:Nat) (u:Value):Obj.mapSeq (·.setIfInBounds j u) { cls:=.type "list",data:=.seq its.toArray n }={ cls:=.type "list",data:=.seq (its.set j u).toArray n }:=by
  simp [Obj.mapSeq]
theorem Inv.lst {pins:List (Addr × Obj)} {σ:St} {H:Hp} {s:Shared} {p:Addr} {xs:List V} (I:Inv X pins σ H s) (h:H p=some (.lst xs)) :
    ∃ (its:List Value) (n:Nat),Vals xs its/\s.heap.get? p=some { cls:=.type "list",data:=.seq its.toArray n }/\xs.length<=sizeLine:=by
  obtain ⟨z,its,n,r,e⟩:=I.hok p _ h
  exact ⟨its,n,r,e,z⟩
theorem Inv.lstUpd {pins:List (Addr × Obj)} {σ:St} {H:Hp} {s:Shared} {p:Addr} {xs ys:List V} {its its':List Value} {n n':Nat} {f:Obj->Obj} (I:Inv X pins σ H s) (h:H p=some (.lst xs))
    (ho:s.heap.get? p=some { cls:=.type "list",data:=.seq its.toArray n }) (hf:f { cls:=.type "list",data:=.seq its.toArray n }={ cls:=.type "list",data:=.seq its'.toArray n' }) (r:Vals ys its') (hz:ys.length<=sizeLine) (t:Nat) :
    Inv X pins σ (upd H p (.lst ys)) { s with heap:=s.heap.update p f,toks:=t }:=by
  have e:(s.heap.update p f).get? p=some { cls:=.type "list",data:=.seq its'.toArray n' }:=by
    rw [Heap.get?_update_self f ho (by rw [hf] <;> rfl),hf]
  refine I.write (x:=p) (e:=p) (by rw [h]; trivial) (.inl rfl) (fun b u hb q=>(Heap.get?_update_other _ _ (Ne.symm hb)).trans q) ⟨_,e⟩ ?_
  exact ⟨hz,its',n',r,e⟩
def rSetL:V->V->V->Hp->(Hp->Prop)->Prop:=fun o i v H Q=>∃ p xs k j,o=.ref p/\i=.int k/\H p=some (.lst xs)/\ixN xs.length k=some j/\Q (upd H p (.lst (xs.set j v)))
theorem set_list:PSet X rSetL:=by
  intro pins s σ H o i v ov iv u Q I ro ri rv h
  obtain ⟨p,xs,k,j,rfl,rfl,hp,hj,q⟩:=h
  cases ro
  obtain ⟨t,rfl⟩:=ri
  obtain ⟨its,n,r,ho,hz⟩:=I.lst hp
  obtain ⟨h1,h2,h3,h4⟩:=ixN_seq hj
  have hl:=r.length
  have hn:=line63
  have I':Inv X pins σ (upd H p (.lst (xs.set j v))) { s with heap:=s.heap.update p (Obj.mapSeq (·.setIfInBounds j u)) }:=
    I.lstUpd hp ho (mapSeq_set its n j u) (r.set rv j) (by rw [List.length_set]; exact hz) s.toks
  by_cases h0:0<=k
  · have hk:k.toNat=j:=by
      rw [seqIndex_of h0 h4] at h1
      exact Option.some.inj h1
    exact PySem.W.ki_setAt ho h0 (by omega) (by rw [List.size_toArray,<- hl]; exact h4) (by rw [hk]; exact ⟨_,I',q⟩)
  · have hk:(k + (its.toArray.size:Int)).toNat=j:=by
      rw [seqIndex_neg (by omega) h3] at h1
      rw [List.size_toArray,<- hl]
      exact Option.some.inj h1
    exact PySem.W.ki_setBack ho (by omega) (by rw [List.size_toArray,<- hl]; exact h3) (by omega) (by rw [hk]; exact ⟨_,I',q⟩)
theorem slice_bounds (lo hi:Option Int) (n:Nat):(sliceBounds lo hi none n).1=((HT.sIx n 0 lo:Nat):Int)/\(sliceBounds lo hi none n).2.1=((HT.sIx n n hi:Nat):Int)/\(sliceBounds lo hi none n).2.2=1:=by
  refine ⟨?_,?_,rfl⟩
  · cases lo with
    | none=>simp [sliceBounds,HT.sIx]
    | some i=>
      simp only [sliceBounds,HT.sIx,Option.getD_none,show (1:Int) > 0 by decide,if_true]
      by_cases h:i < 0
      · simp only [h,if_true] <;> omega
      · simp only [h,if_false] <;> omega
  · cases hi with
    | none=>simp [sliceBounds,HT.sIx]
    | some i=>
      simp only [sliceBounds,HT.sIx,Option.getD_none,show (1:Int) > 0 by decide,if_true]
      by_cases h:i < 0
      · simp only [h,if_true] <;> omega
      · simp only [h,if_false] <;> omega
theorem slicePick_cut (its:List Value) (lo hi:Option Int):slicePick its.toArray lo hi none=((its.drop (HT.sIx its.length 0 lo)).take (HT.sIx its.length its.length hi - HT.sIx its.length 0 lo)).toArray:=by
  obtain ⟨h1,h2,h3⟩:=slice_bounds lo hi its.toArray.size
  unfold slicePick
  rw [h1,h2,h3]
  simp only [sliceRange_one,pick_run,List.size_toArray] <;> rfl
def rSlL (K:PySem.W.Frag):V->Option Int->Option Int->Hp->VK->Prop:=fun x lo hi H Q=>∃ a xs,x=.ref a/\SqL K H a xs/\∀ p,H p=none->Q (.ref p) (upd H p (.lst (cutV xs lo hi)))
theorem sl_list:SlR X (rSlL X.K):=by
  intro pins s σ H x v vl vu lo hi sl Q I rx hs pl pu h
  obtain ⟨a,xs,rfl,hx,q⟩:=h
  cases rx
  obtain ⟨its,r,ht,hz⟩:=I.list hx
  have hlen:=r.length
  refine ⟨"list",_,slot_list_getitem.lookup,ht.isList.typeIs,?_⟩
  refine wpAny_getItem_list_slice ht.isList hs pl pu .none (by simp) ?_ (by rw [List.size_toArray] <;> omega)
  rw [slicePick_cut,<- hlen]
  refine ⟨.ref s.heap.objs.size,_,I.laid (t':=s.toks) (o:=.lst (cutV xs lo hi)) (fun b ob q=>Heap.get?_push_of_some _ q) (Nat.le_refl _) ?_,rfl,q _ (I.hok.fresh (Nat.le_refl _))⟩
  exact ⟨Nat.le_trans (cutV_length xs lo hi) hz,_,0,(r.drop (HT.sIx xs.length 0 lo)).take (HT.sIx xs.length xs.length hi - HT.sIx xs.length 0 lo),Heap.get?_push_size _ rfl⟩
def flatV:V->Bool
  | .non=>true
  | .bl _=>true
  | .int _=>true
  | .str _=>true
  | _=>false
def eqV:V->V->Bool
  | .non,.non=>true
  | .bl a,.bl b=>a == b
  | .bl a,.int b=>(if a then 1 else 0) == b
  | .int a,.bl b=>a == (if b then 1 else 0)
  | .int a,.int b=>a == b
  | .str a,.str b=>a == b
  | _,_=>false
theorem eqAt_V {A:Around} {s:Shared} {y x:V} {u v:Value} (ry:RelV y u) (rx:RelV x v) (fy:flatV y=true) (fx:flatV x=true):SeqAt.EqAt A s u v (eqV y x):=by
  cases y with
  | non=>
    cases ry
    cases x with
    | non=>cases rx; exact SeqAt.EqAt.same _
    | bl b=>cases rx; exact SeqAt.EqAt.none_bool b
    | int b=>obtain ⟨t,rfl⟩:=rx; exact SeqAt.EqAt.none_int b t
    | str b=>obtain ⟨t,rfl⟩:=rx; exact SeqAt.EqAt.none_str b t
    | _=>exact absurd (show false=true from fx) Bool.false_ne_true
  | bl a=>
    cases ry
    cases x with
    | non=>cases rx; exact SeqAt.EqAt.bool_none a
    | bl b=>cases rx; exact SeqAt.EqAt.bool_bool a b
    | int b=>obtain ⟨t,rfl⟩:=rx; exact SeqAt.EqAt.bool_int a b t
    | str b=>obtain ⟨t,rfl⟩:=rx; exact SeqAt.EqAt.bool_str a b t
    | _=>exact absurd (show false=true from fx) Bool.false_ne_true
  | int a=>
    obtain ⟨t',rfl⟩:=ry
    cases x with
    | non=>cases rx; exact SeqAt.EqAt.int_none a t'
    | bl b=>cases rx; exact SeqAt.EqAt.int_bool a t' b
    | int b=>obtain ⟨t,rfl⟩:=rx; exact SeqAt.EqAt.int_int a t' b t
    | str b=>obtain ⟨t,rfl⟩:=rx; exact SeqAt.EqAt.int_str a t' b t
    | _=>exact absurd (show false=true from fx) Bool.false_ne_true
  | str a=>
    obtain ⟨t',rfl⟩:=ry
    cases x with
    | non=>cases rx; exact SeqAt.EqAt.str_none a t'
    | bl b=>cases rx; exact SeqAt.EqAt.str_bool a t' b
    | int b=>obtain ⟨t,rfl⟩:=rx; exact SeqAt.EqAt.str_int a t' b t
    | str b=>obtain ⟨t,rfl⟩:=rx; exact SeqAt.EqAt.str_str a t' b t
    | _=>exact absurd (show false=true from fx) Bool.false_ne_true
  | _=>exact absurd (show false=true from fy) Bool.false_ne_true
def eqU (x:V) (u:Value):Bool:=match u with
  | .none=>eqV .non x
  | .bool b=>eqV (.bl b) x
  | .int i _=>eqV (.int i) x
  | .str z _=>eqV (.str z) x
  | _=>false
theorem eqU_of {x y:V} {u:Value} (r:RelV y u) (f:flatV y=true):eqU x u=eqV y x:=by
  cases y with
  | non=>cases r; rfl
  | bl b=>cases r; rfl
  | int i=>obtain ⟨t,rfl⟩:=r; rfl
  | str z=>obtain ⟨t,rfl⟩:=r; rfl
  | _=>exact absurd (show false=true from f) Bool.false_ne_true
theorem any_eqU {x:V}:∀ {xs:List V} {us:List Value},Vals xs us->xs.all flatV=true->us.any (eqU x)=xs.any fun y=>eqV y x
  | _,_,.nil,_=>rfl
  | y :: xs,u :: us,.cons r t,f=>by
    rw [List.all_cons,Bool.and_eq_true] at f
    rw [List.any_cons,List.any_cons,eqU_of r f.1,any_eqU t f.2]
theorem mem_eqAt {A:Around} {s:Shared} {x:V} {v:Value} (rx:RelV x v) (fx:flatV x=true):∀ {xs:List V} {us:List Value},Vals xs us->xs.all flatV=true->∀ u ∈ us,SeqAt.EqAt A s u v (eqU x u)
  | _,_,.nil,_=>fun u hu=>by cases hu
  | y :: xs,u :: us,.cons r t,f=>fun u' hu=>by
    rw [List.all_cons,Bool.and_eq_true] at f
    rcases List.mem_cons.mp hu with rfl | hu
    · rw [eqU_of r f.1]; exact eqAt_V r rx f.1 fx
    · exact mem_eqAt rx fx t f.2 u' hu
def inV (x:V) (xs:List V):Bool:=xs.any fun y=>eqV y x
def rIn (K:PySem.W.Frag) (neg:Bool):R2:=fun x y H Q=>∃ p xs,y=.ref p/\(SqL K H p xs\/SqT K H p xs)/\flatV x=true/\xs.all flatV=true/\Q (.bl (if neg then !inV x xs else inV x xs)) H
theorem op_in_seq:OpR X (compareOp .In) (rIn X.K false):=by
  intro pins s σ H x y v u Q I rx ry h
  obtain ⟨p,xs,rfl,hq,fx,fs,q⟩:=h
  cases ry
  rcases hq with hq | hq
  · obtain ⟨its,r,pl,hz⟩:=I.list hq
    refine SeqAt.in_listAt (eqU x) pl.isList (fun w hw=>mem_eqAt rx fx r fs w (by simpa using hw)) ⟨.bl _,H,I,rfl,?_⟩
    rw [show its.toArray.any (eqU x)=its.any (eqU x) by simp,any_eqU r fs]
    exact q
  · obtain ⟨its,r,pl,hz⟩:=I.tuple hq
    refine SeqAt.in_tupleAt (eqU x) pl (fun w hw=>mem_eqAt rx fx r fs w (by simpa using hw)) ⟨.bl _,H,I,rfl,?_⟩
    rw [show its.toArray.any (eqU x)=its.any (eqU x) by simp,any_eqU r fs]
    exact q
theorem op_notIn_seq:OpR X (compareOp .NotIn) (rIn X.K true):=by
  intro pins s σ H x y v u Q I rx ry h
  obtain ⟨p,xs,rfl,hq,fx,fs,q⟩:=h
  cases ry
  rcases hq with hq | hq
  · obtain ⟨its,r,pl,hz⟩:=I.list hq
    refine SeqAt.notIn_listAt (eqU x) pl.isList (fun w hw=>mem_eqAt rx fx r fs w (by simpa using hw)) ⟨.bl _,H,I,rfl,?_⟩
    rw [show its.toArray.any (eqU x)=its.any (eqU x) by simp,any_eqU r fs]
    exact q
  · obtain ⟨its,r,pl,hz⟩:=I.tuple hq
    refine SeqAt.notIn_tupleAt (eqU x) pl (fun w hw=>mem_eqAt rx fx r fs w (by simpa using hw)) ⟨.bl _,H,I,rfl,?_⟩
    rw [show its.toArray.any (eqU x)=its.any (eqU x) by simp,any_eqU r fs]
    exact q
theorem call_len_seq:CallR X (.builtin "len") (fun xs H Q=>∃ p ys,xs=[.ref p]/\(SqL X.K H p ys\/SqT X.K H p ys)/\Q (.int ys.length) H):=by
  intro pins s σ H xs us Q I r h
  obtain ⟨p,ys,rfl,hq,q⟩:=h
  obtain ⟨u,rfl,rx⟩:=vals1 r
  cases rx
  have hn:=line63
  rcases hq with hq | hq
  · obtain ⟨its,r',pl,hz⟩:=I.list hq
    have hlen:=r'.length
    exact Calls.call_len_list pl.isList (by simp only [List.size_toArray] <;> omega) ⟨.int ys.length,H,I.tok _,⟨s.toks + 1,by rw [List.size_toArray,hlen]⟩,q⟩
  · obtain ⟨its,r',pl,hz⟩:=I.tuple hq
    have hlen:=r'.length
    exact len_tuple pl (by simp only [List.size_toArray] <;> omega) ⟨.int ys.length,H,I.tok _,⟨s.toks + 1,by rw [List.size_toArray,hlen]⟩,q⟩
theorem call_len_str:CallR X (.builtin "len") (fun xs H Q=>∃ z,xs=[.str z]/\z.length<=sizeLine/\Q (.int z.length) H):=by
  intro pins s σ H xs us Q I r h
  obtain ⟨z,rfl,hz,q⟩:=h
  obtain ⟨u,rfl,t,rfl⟩:=vals1 r
  have hn:=line63
  exact len_str (by omega) ⟨.int z.length,H,I.tok _,⟨_,rfl⟩,q⟩
theorem call_list_of:CallR X (.type "list") (fun xs H Q=>∃ p ys,xs=[.ref p]/\(SqL X.K H p ys\/SqT X.K H p ys)/\∀ l,H l=none->Q (.ref l) (upd H l (.lst ys))):=by
  intro pins s σ H xs us Q I r h
  obtain ⟨p,ys,rfl,hq,q⟩:=h
  obtain ⟨u,rfl,rx⟩:=vals1 r
  cases rx
  have fin:∀ (its:List Value),Vals ys its->ys.length<=sizeLine->∀ (h':Heap) (c':Nat),(∀ b o',s.heap.get? b=some o'->h'.get? b=some o') ->
      h'.get? s.heap.objs.size=some { cls:=.type "list",dict:=none,data:=.seq its.toArray c',slots:=#[] }->EP X pins σ Q (.ref s.heap.objs.size) { s with heap:=h' }:=fun its r' hz h' c' kp e=>
    ⟨.ref s.heap.objs.size,_,I.laid (t':=s.toks) kp (Nat.le_refl _) (show ObjOk X.prog X.w _ h' _ (.lst ys) from ⟨hz,its,c',r',e⟩),rfl,q _ (I.hok.fresh (Nat.le_refl _))⟩
  rcases hq with hq | hq
  · obtain ⟨its,r',pl,hz⟩:=I.list hq
    have hlen:=r'.length
    obtain ⟨o,ho,hc,n,hd⟩:=pl.isList
    exact call_list_seq p (.inl rfl) ho hc hd (fun h' c' kp e=>fin its r' hz h' c' kp e) (by simp only [List.size_toArray] <;> omega)
  · obtain ⟨its,r',pl,hz⟩:=I.tuple hq
    have hlen:=r'.length
    obtain ⟨o,ho,hc,n,hd⟩:=pl
    exact call_list_seq p (.inr rfl) ho hc hd (fun h' c' kp e=>fin its r' hz h' c' kp e) (by simp only [List.size_toArray] <;> omega)
theorem call_tuple_of:CallR X (.type "tuple") (fun xs H Q=>∃ p ys,xs=[.ref p]/\((SqL X.K H p ys/\∀ l,H l=none->Q (.ref l) (upd H l (.tup ys)))\/(SqT X.K H p ys/\Q (.ref p) H))):=by
  intro pins s σ H xs us Q I r h
  obtain ⟨p,ys,rfl,h⟩:=h
  obtain ⟨u,rfl,rx⟩:=vals1 r
  cases rx
  rcases h with ⟨hq,q⟩ | ⟨hq,q⟩
  · obtain ⟨its,r',pl,hz⟩:=I.list hq
    have hlen:=r'.length
    refine call_tuple_list pl.isList (fun h' kp=>?_) (by simp only [List.size_toArray] <;> omega)
    have I1:Inv X pins σ H { s with heap:=h' }:=I.kept (t':=s.toks) kp
    have I2:Inv X pins σ (upd H h'.objs.size (.tup ys)) { s with heap:=h'.push { cls:=.type "tuple",data:=.seq its.toArray } }:=
      I1.laid (t':=s.toks) (fun b o e=>Heap.get?_push_of_some _ e) (Nat.le_refl _) (show ObjOk X.prog X.w _ _ _ (.tup ys) from ⟨hz,its,r',IsTup.new _ _⟩)
    exact ⟨.ref h'.objs.size,_,I2,rfl,q _ (I1.hok.fresh (Nat.le_refl _))⟩
  · obtain ⟨its,r',pl,hz⟩:=I.tuple hq
    exact call_tuple_same pl ⟨.ref p,H,I,rfl,q⟩
def tyV (K:PySem.W.Frag) (T:String) (x:V) (H:Hp):Prop:=match x with
  | .str _=>T = "str"
  | .int _=>T = "int"
  | .ref p=>(T = "list" /\ ∃ xs,SqL K H p xs)\/(T = "tuple" /\ ∃ o,K.lookup p=some o/\o.cls=.type "tuple" /\ o.dict=none) \/
      (T = "dict" /\ ((∃ kvs,H p=some (.dK kvs))\/∃ kvs,H p=some (.dT kvs)))\/(T = "set" /\ ∃ S n,H p=some (.set S n))
  | _=>False
theorem tyV_is {pins:List (Addr × Obj)} {σ:St} {H:Hp} {s:Shared} {T:String} {x:V} {v:Value} (I:Inv X pins σ H s) (r:RelV x v) (ty:tyV X.K T x H) :
    s.TypeIs v T/\∀ a,v=.ref a->∃ ob,s.heap.get? a=some ob/\ob.dict=none:=by
  cases x with
  | str z=>
    obtain ⟨t,rfl⟩:=r
    cases (show T = "str" from ty)
    exact ⟨typeIs_str s z t,fun _ e=>nomatch e⟩
  | int i=>
    obtain ⟨t,rfl⟩:=r
    cases (show T = "int" from ty)
    exact ⟨typeIs_int s i t,fun _ e=>nomatch e⟩
  | ref p=>
    cases r
    rcases ty with ⟨rfl,xs,hq⟩ | ⟨rfl,o,hk,hc,hd⟩ | ⟨rfl,hk⟩ | ⟨rfl,S,n,hk⟩
    · obtain ⟨its,_,pl,_⟩:=I.list hq
      refine ⟨pl.isList.typeIs,fun a e=>?_⟩
      cases e
      obtain ⟨o,n,e,c,hd,_⟩:=pl
      exact ⟨o,e,hd⟩
    · refine ⟨⟨o,I.kIn p o hk,hc⟩,fun a e=>?_⟩
      cases e
      exact ⟨o,I.kIn _ o hk,hd⟩
    · have z:∃ o,s.heap.get? p=some o/\o.ExactDict:=by
        rcases hk with ⟨kvs,hk⟩ | ⟨kvs,hk⟩
        · obtain ⟨_,_,_,_,o,_,_,e,ex,_⟩:=I.hok p _ hk
          exact ⟨o,e,ex⟩
        · obtain ⟨_,_,_,_,o,_,_,e,ex,_⟩:=I.hok p _ hk
          exact ⟨o,e,ex⟩
      obtain ⟨o,e,ex⟩:=z
      refine ⟨⟨o,e,ex.1⟩,fun a e2=>?_⟩
      cases e2
      exact ⟨o,e,ex.2.1⟩
    · obtain ⟨o,_,_,_,e,ex,_⟩:=I.hok p _ hk
      refine ⟨⟨o,e,ex.1⟩,fun a e2=>?_⟩
      cases e2
      exact ⟨o,e,ex.2.1⟩
  | _=>exact False.elim ty
def tBM (K:PySem.W.Frag) (T:String) (r:V->List V->Hp->VK->Prop) (to:TE) (t:TA):TE:=fun σ H Q=>to σ H fun x H1=>tyV K T x H1/\t σ H1 fun xs H2=>r x xs H2 Q
variable {o e:Expr} {es:List Expr} {to:TE} {t:TA} {name:Str} {apos cpos:Pos} {T id:String} {r:V->List V->Hp->VK->Prop}
theorem pe_bm (pa:PlainAttrs T) (slot:Slot T name id) (hty:typeOf (.builtin id)=pure (.type "method_descriptor")) (hm:MtR X id r) (ho:PE X o to) (ha:PA X (e :: es) t)
    (hbase:attributeBase o name X.env (eval o X.env)=eval o X.env:=by rfl)
    (hfew:((backTo cpos (starEach (e :: es) X.env)).all (fun x=>!x.1) && (backToKw cpos (keywordEach [] X.env)).all (fun x=>x.1.isSome)
      && decide ((e :: es).length + ([]:List Keyword).length + (if ([]:List Keyword).isEmpty then 0 else 1) < 30))=true:=by rfl)
    (hline:(apos.endLine == cpos.line)=true:=by rfl) (hs:starEach (e :: es) X.env=(false,eval e X.env) :: starEach es X.env:=by rfl) (hplain:(backTo cpos (starEach es X.env)).any (·.1)=false:=by rfl) :
    PE X (.Call (.Attribute o name apos) (e :: es) [] cpos) (tBM X.K T r to t):=by
  intro pins s σ H Q I h
  refine wpAny_Call_method_late hbase hfew hline rfl (thn (ho pins s σ H _ I h) fun v s1 ⟨x,H1,I1,r1,ty,q1⟩=>?_)
  obtain ⟨h1,h2⟩:=tyV_is I1 r1 ty
  refine ⟨T,id,pa,slot,hty,h1,h2,?_⟩
  have hA:=ha cpos pins s1 σ H1 _ I1 q1
  rw [hs] at hA ⊢
  refine Calls.callWith_builtin (by show (false || (backTo cpos (starEach es X.env)).any (·.1))=false; rw [hplain] <;> rfl) (Calls.evalArgs_plain ?_)
  exact thn hA fun us s2 ⟨vs,H2,I2,r2,q2⟩=>hm pins s2 σ H2 x vs v us Q I2 r1 r2 q2
end
end L2
namespace L2
open PySem PySem.Spec PyProof.Rows
def MtM (X:Cx) (id:String) (r:V->List V->Hp->VK->Prop):Prop:=
  ∀ (pins:List (Addr × Obj)) (s:Shared) (σ:St) (H:Hp) (x:V) (xs:List V) (v:Value) (us:List Value) (Q:VK),Inv X pins σ H s->RelV x v->Vals xs us->r x xs H Q ->
    wpAny (model X.prog X.w) X.A (call (.builtin id) (v :: us)) (EP X pins σ Q) X.xe s
theorem Vals.one:∀ {x:V} {us:List Value},Vals [x] us->∃ u,us=[u]/\RelV x u
  | _,_,.cons r .nil=>⟨_,rfl,r⟩
theorem Vals.reverse {xs:List V} {us:List Value} (h:Vals xs us):Vals xs.reverse us.reverse:=by
  induction h with
  | nil=>exact .nil
  | cons r t ih=>rw [List.reverse_cons,List.reverse_cons]; exact Vals.append ih (.cons r .nil)
theorem Vals.rep {xs:List V} {us:List Value} (h:Vals xs us):∀ k:Nat,Vals (List.replicate k xs).flatten (List.replicate k us).flatten
  | 0=>.nil
  | k + 1=>by
    rw [List.replicate_succ,List.replicate_succ,List.flatten_cons,List.flatten_cons]
    exact Vals.append h (Vals.rep h k)
theorem foldl_rep (its:List Value):∀ (k:Nat) (acc:List Value),
    List.foldl (fun x1 x2=>x1 ++ x2) acc.toArray (List.replicate k its.toArray)=(acc ++ (List.replicate k its).flatten).toArray
  | 0,acc=>by simp
  | k + 1,acc=>by
    have e:acc.toArray ++ its.toArray=(acc ++ its).toArray:=by simp
    have e2:(acc ++ its) ++ (List.replicate k its).flatten=acc ++ (List.replicate (k + 1) its).flatten:=by
      rw [List.replicate_succ,List.flatten_cons,List.append_assoc]
    rw [<- e2,<- foldl_rep its k (acc ++ its),<- e,List.replicate_succ,List.foldl_cons]
section
variable {X:Cx} {pins:List (Addr × Obj)} {σ:St} {H:Hp} {s:Shared} {l b:Addr} {xs ys zs:List V}
theorem Inv.lset {its its':List Value} {n:Nat} {f:Array Value->Array Value} {t':Nat} (I:Inv X pins σ H s) (hH:H l=some (.lst xs))
    (e:s.heap.get? l=some { cls:=.type "list",data:=.seq its.toArray n }) (hf:f its.toArray=its'.toArray) (hv:Vals ys its') (hz:ys.length<=sizeLine) :
    Inv X pins σ (upd H l (.lst ys)) { s with heap:=s.heap.update l (Obj.mapSeq f),toks:=t' }:=by
  have q:=PySem.IsL.update e f
  rw [hf] at q
  refine I.write (x:=l) (e:=l) (by rw [hH]; exact trivial) (.inl rfl) (fun b' u hb hu=>(Heap.get?_update_other s.heap (Obj.mapSeq f) (Ne.symm hb)).trans hu) ⟨_,q⟩ ?_
  exact ⟨hz,its',_,hv,q⟩
theorem Inv.lnew {its:List Value} {t':Nat} (I:Inv X pins σ H s) (hv:Vals ys its) (hz:ys.length<=sizeLine) :
    Inv X pins σ (upd H s.heap.objs.size (.lst ys)) { s with heap:=s.heap.push { cls:=.type "list",data:=.seq its.toArray },toks:=t' }:=
  I.laid (fun _ _ q=>Heap.get?_push_of_some _ q) (Nat.le_refl _) ⟨hz,its,0,hv,Heap.get?_push_size _ rfl⟩
theorem Inv.fresh (I:Inv X pins σ H s):H s.heap.objs.size=none:=I.hok.fresh (Nat.le_refl _)
theorem Inv.lstM (I:Inv X pins σ H s) (hH:H l=some (.lst xs)):xs.length<=sizeLine/\∃ (its:List Value) (n:Nat),Vals xs its/\xs.length=its.length/\s.heap.get? l=some { cls:=.type "list",data:=.seq its.toArray n }:=by
  obtain ⟨z,its,n,r,e⟩:=I.hok l _ hH
  exact ⟨z,its,n,r,r.length,e⟩
theorem notLongL {n:Nat} (h:n<=sizeLine):Builtin.List.listTooLong n=false:=by
  unfold Builtin.List.listTooLong
  exact decide_eq_false (by omega)
end
section
variable {X:Cx}
def rAppend:V->List V->Hp->VK->Prop:=fun x vs H Q=>∃ l xs y,x=.ref l/\vs=[y]/\H l=some (.lst xs)/\xs.length < sizeLine/\Q .non (upd H l (.lst (xs ++ [y])))
theorem mt_append:MtM X "list.append" rAppend:=by
  intro pins s σ H x vs v us Q I rx rv h
  obtain ⟨l,xs,y,rfl,rfl,hH,hz,q⟩:=h
  cases rx
  obtain ⟨u,rfl,ru⟩:=rv.one
  obtain ⟨z,its,n,r,hl,e⟩:=I.lstM hH
  refine call_meets F.slot_list_append ⟨_,e,rfl⟩ F.entry_list_append (F.args_list_append_2 _ _) (PySem.list_append l its.toArray n u (by rw [List.size_toArray]; omega)) ⟨e,?_⟩
  refine ⟨.non,_,I.lset (its':=its ++ [u]) hH e (by simp) (r.append (.cons ru .nil)) ?_,rfl,q⟩
  rw [List.length_append,List.length_singleton]
  omega
def rCat:R2:=fun x y H Q=>∃ l b xs zs,x=.ref l/\y=.ref b/\H l=some (.lst xs)/\H b=some (.lst zs)/\xs.length + zs.length<=sizeLine/\∀ p,H p=none->Q (.ref p) (upd H p (.lst (xs ++ zs)))
theorem op_cat:OpR X (binaryOp .Add) rCat:=by
  intro pins s σ H x y v u Q I rx ry h
  obtain ⟨l,b,xs,zs,rfl,rfl,hH,hB,hz,q⟩:=h
  cases rx
  cases ry
  obtain ⟨z,its,n,r,hl,e⟩:=I.lstM hH
  obtain ⟨z2,its2,n2,r2,hl2,e2⟩:=I.lstM hB
  refine PySem.P.add_list e e2 ?_ (by rw [List.size_toArray,List.size_toArray]; omega)
  have ea:its.toArray ++ its2.toArray=(its ++ its2).toArray:=by simp
  rw [ea]
  exact ⟨.ref _,_,I.lnew (t':=s.toks) (r.append r2) (by rw [List.length_append]; omega),rfl,q _ I.fresh⟩
def rRep:R2:=fun x y H Q=>∃ l k xs,x=.ref l/\y=.int k/\H l=some (.lst xs)/\-(2 ^ 63)<=k/\k < 2 ^ 63/\xs.length * k.toNat<=sizeLine /\
  ∀ p,H p=none->Q (.ref p) (upd H p (.lst (List.replicate k.toNat xs).flatten))
theorem len_rep {α:Type} (xs:List α) (k:Nat):(List.replicate k xs).flatten.length=k * xs.length:=by
  induction k with
  | zero=>simp
  | succ k ih=>rw [List.replicate_succ,List.flatten_cons,List.length_append,ih,Nat.succ_mul,Nat.add_comm]
theorem op_rep:OpR X (binaryOp .Mult) rRep:=by
  intro pins s σ H x y v u Q I rx ry h
  obtain ⟨l,k,xs,rfl,rfl,hH,h1,h2,hz,q⟩:=h
  cases rx
  obtain ⟨t,rfl⟩:=ry
  obtain ⟨z,its,n,r,hl,e⟩:=I.lstM hH
  have hlen:its.toArray.size * k.toNat<=sizeLine:=by rw [List.size_toArray,<- hl]; exact hz
  have hcap:¬ its.toArray.size * k.toNat > (2 ^ 63 - 1) / 8:=by
    have:(sizeLine:Nat)<=(2 ^ 63 - 1) / 8:=by decide
    omega
  have hfit:¬ (!Builtin.List.listFitsIndex k)=true:=by
    rw [fitsIndex_both h1 h2]
    exact Bool.false_ne_true
  have hlong:¬ Builtin.List.listTooLong (its.toArray.size * k.toNat)=true:=by
    rw [notLongL hlen]
    exact Bool.false_ne_true
  have hnew:List.foldl (fun x1 x2=>x1 ++ x2) #[] (List.replicate (if its.toArray.isEmpty=true then 0 else k.toNat) its.toArray)=(List.replicate k.toNat its).flatten.toArray:=by
    have f0:∀ m:Nat,List.foldl (fun x1 x2=>x1 ++ x2) #[] (List.replicate m its.toArray)=(List.replicate m its).flatten.toArray:=fun m=>by
      have:=foldl_rep its m []
      rw [List.nil_append] at this
      exact this
    rw [f0]
    cases its with
    | nil=>simp
    | cons a r'=>rw [if_neg (by simp)]
  refine wpAny_binaryOp_repeat_ref (T := "list") (U := "int") (by decide) ⟨_,e,rfl⟩ (fun s'=>typeIs_int s' k t) noFill_list_mul F.fills_int_mul F.slot_int_rmul repeat_list F.slot_int_index.lookup
    (call_meets F.slot_int_rmul (typeIs_int s k t) F.entry_int_rmul (F.args_int_rmul_2 _ _) (int___rmul___int_list k t l its.toArray n)
      ⟨e,rfl,⟨_,e,rfl⟩,call_meets F.slot_list_mul ⟨_,e,rfl⟩ F.entry_list_mul (F.args_list_mul_2 _ _) (AutoListH.list___mul___list_int_3 l its.toArray n k t hfit hcap hlong) ⟨e,?_⟩⟩)
  rw [hnew]
  exact ⟨.ref _,_,I.lnew (t':=s.toks) (r.rep k.toNat) (by rw [len_rep,Nat.mul_comm]; exact hz),rfl,q _ I.fresh⟩
end
section
variable {prog:Program} {w:World} {A:Around} {E:Value->Shared->Prop} {s:Shared}
end
section
variable {X:Cx}
end
end L2
namespace Att
open PySem PySem.W PySem.Calls PyProof.Rows
theorem ints_of_wellAll {P:Params} {h:Heap}:∀ (ns:List Int) (vs:List Value),WellAll P h vs (ns.map WData.int)->IntsAre vs ns:=by
  intro ns
  induction ns with
  | nil=>
    intro vs w
    rw [List.map_nil] at w
    cases w
    exact .nil
  | cons n ns ih=>
    intro vs w
    rw [List.map_cons] at w
    cases w with
    | cons a b=>
      cases a
      exact .cons _ _ (ih _ b)
theorem script_of {l:OpenLaw} {n:Nat} (hn:l.most=some n) {P:Params} {h:Heap} {args:List WData} {vals:List Value}
    (hpre:l.row.toRowW.claim.pre args=true) (hwl:WellAll P h vals args) :
    ∃ a vs ns,vals=[Value.ref a]/\args=[WData.list (ns.map WData.int)]/\h.get? a=some { cls:=.type "list",data:=.seq vs.toArray }/\IntsAre vs ns/\ns.length<=n:=by
  have hsh:WShape.hasAll [] args [.list .int]=true:=(pre_splitW hpre).1
  have hc:l.pre.holds [] { args:=args }=true:=(pre_splitW hpre).2
  obtain ⟨d,r,rfl,h1,h2⟩:=hasAllW_cons hsh
  obtain rfl:=hasAllW_nil h2
  obtain ⟨xs,rfl,h3⟩:=hasW_list h1
  obtain ⟨ns,rfl⟩:=items_int h3
  have hlen:ns.length<=n:=by
    unfold OpenLaw.pre at hc
    have h4:(WTm.not (.lt (.lit (.int (n:Int))) (.len (.arg 0)))).holds [] { args:=[.list (ns.map .int)] }=true:=by
      have h4:=(holds_andW hc).1
      rw [hn] at h4
      exact h4
    have h5:=condW_of h4 (w_not (w_lt w_lit (w_len_list (w_arg rfl))))
    rw [List.length_map] at h5
    refine Nat.le_of_not_lt fun q=>?_
    have q':(n:Int) < ((ns.length:Nat):Int):=by omega
    first
      | (rw [decide_eq_true q'] at h5; exact absurd h5 (by decide))
      | (simp at h5; omega)
  cases hwl with
  | cons w1 w2=>
    cases w2
    cases w1 with
    | list ho hall=>exact ⟨_,_,ns,rfl,rfl,ho,ints_of_wellAll ns _ hall,hlen⟩
theorem post_true (l:OpenLaw) (args:List WData):l.row.toRowW.claim.post args (.bool true) args=true:=
  postW_of (r:=l.row.toRowW) (X:=(true == true))
    (show WShape.has [] (.bool true) .bool=true by first | rfl | decide | simp [WShape.has,WShape.arms,WShape.armsAll])
    (show (WTm.eq .res (.lit (.bool true))).value [] { args:=args,res:=some (.bool true),after:=args }=some (.bool (true == true)) from w_eq_bool (w_res rfl) w_lit) rfl
theorem attach_call {l:OpenLaw} {n:Nat} {q:Program} {loose:List Str} {XP:(Str->Option Value)->Heap->Prop} {YP:World->Heap->Prop} {d:DefRec}
    (hn:l.most=some n) (hdf:d.params.defaults=[])
    (call:∀ (w:World) (s₀ s₁:Shared) (mg mb:Str->Option Value) (fa:Addr) (o:Obj) (pm cd doc:Value) (a:Addr) (vs:List Value) (ns:List Int),
      Ground q loose [] XP w s₀ mg mb s₁.heap->YP w s₁.heap ->
      s₁.heap.get? fa=some o->o.data=.func (docDef d.name d.params d.body d.scope pm cd doc)->s₁.heap.CodeRec cd d.name->mg d.name=some (.ref fa) ->
      s₁.heap.get? a=some { cls:=.type "list",data:=.seq vs.toArray }->IntsAre vs ns->ns.length<=n->s₁.gens=#[] ->
      codeAny (model l.prog w) callerA (.call (.ref fa) ⟨[.ref a],[]⟩) (fun r s'=>r=.ok (.ret (.bool true))/\OldK s₁.heap s'.heap/\s'.os=s₁.os/\AllBare s'.gens) s₁) :
    WalkO q loose XP YP l.row.toRowW d [] (fun f vs=>PySem.call f vs):=by
  intro w s₀ s₁ mg mb G Y fa o pm cd doc dV kV ho hd hcd hD hmg hg args vals as hpre hlay hrd hwl hlo
  obtain rfl:dV=.none:=Dflts.none hD hdf
  obtain rfl:kV=.none:=Dflts.noKw hD
  obtain ⟨a,vs,ns,rfl,rfl,hobj,hints,hlen⟩:=script_of hn hpre hwl
  refine enter_call (codeAny_mono (call w s₀ s₁ mg mb fa o pm cd doc a vs ns G Y ho (fd_plain hd) hcd hmg hobj hints hlen hg) fun r s' hq=>?_)
  obtain ⟨rfl,h2,h3,h4⟩:=hq
  exact ⟨.inl ⟨.bool true,.bool true,[],rfl,fun _=>rfl,.bool true,post_true l _,fun _=>⟨List.Pairwise.nil,fun _ hm=>(nomatch hm)⟩⟩,h2,h3,h4⟩
section
variable {prog:Program} {w:World} {A:Around} {E:Value->Shared->Prop} {s:Shared} {K:Frag}
end
end Att
namespace L2
open PySem PySem.Spec PyProof.Rows
theorem vals_ints:∀ {vs:List Value} {ns:List Int},IntsAre vs ns->Vals (ns.map V.int) vs
  | _,_,.nil=>.nil
  | _,_,.cons n t h=>.cons ⟨t,rfl⟩ (vals_ints h)
def Only (H:Hp):Prop:=∀ b,H b=none\/∃ o xs,H b=some (.frz o (.lst xs))
theorem law_call {P:Program} {w:World} {K:PySem.W.Frag} {mg mb:Str->Option Value} {CX:CXT} {k:Nat} {fa a:Addr} {fd:FuncData} {x:Str} {sp:Sp} {s₁:Shared} {vs:List Value} {ns:List Int}
    (KX:K.In s₁.heap) (hns:s₁.heap.Ns mainGlobals mg) (hb:s₁.heap.Ns builtinsNs mb) (hbb:∀ x:Str,x ≠ "__name__" -> mb x=bootBuiltins x) (hlim:s₁.heap.NoLimit) (hg:s₁.gens=#[])
    (ha:s₁.heap.get? a=some { cls:=.type "list",data:=.seq vs.toArray }) (hi:IntsAre vs ns) (hl:ns.length<=sizeLine) (hr:Room k callerA)
    (F:∀ base:Heap,K.In base->base.Ns mainGlobals mg->FnOk P w K mg base CX k fa fd [x] sp) (hbind:∀ (s:Shared) (u:Value),BindsTo s fd ⟨[u],[]⟩ [(x,u)])
    (hsp:∀ H:Hp,Only H->SqL K H a (ns.map V.int)->sp [.ref a] H (fun v _=>v=.bl true) fun _ _ _=>False)
    (hCX:∀ H e s',CX [] H s₁ (fun _ _ _=>False) e s'->False) :
    codeAny (model P w) callerA (.call (.ref fa) ⟨[.ref a],[]⟩) (fun r s'=>r=.ok (.ret (.bool true))/\OldK s₁.heap s'.heap/\s'.os=s₁.os/\AllBare s'.gens) s₁:=by
  have rv:=vals_ints hi
  have lenV:=hi.length
  have core:∀ H:Hp,Only H->SqL K H a (ns.map V.int)->HOk P w H s₁.heap->(∀ b,H b ≠ none->b=a)->(H a ≠ none->K.lookup a=none) ->
      codeAny (model P w) callerA (.call (.ref fa) ⟨[.ref a],[]⟩) (fun r s'=>r=.ok (.ret (.bool true))/\OldK s₁.heap s'.heap/\s'.os=s₁.os/\AllBare s'.gens) s₁:=by
    intro H hO hS hok hA hK
    have base_of:∀ {b:Addr} {o:Obj},s₁.heap.get? b=some o->H b=none->(hidT s₁.heap H).get? b=some o:=fun e n=>hidT_get e n
    have noA:∀ {b:Addr} {o:Obj} {es:Array DictEntry} {ep:Nat},s₁.heap.get? b=some o->o.data=.dict es ep->H b=none:=fun {b o es ep} e d=>by
      cases q:H b with
      | none=>rfl
      | some u=>
        have e':b=a:=hA b (by rw [q]; simp)
        subst e'
        rw [ha] at e; cases e
        have d':Data.seq vs.toArray _=Data.dict es ep:=d
        cases d'
    have nsK:∀ {b:Addr} {m:Str->Option Value},s₁.heap.Ns b m->(hidT s₁.heap H).Ns b m:=fun {b m} ⟨o,es,ep,e,d,r⟩=>⟨o,es,ep,base_of e (noA e d),d,r⟩
    have hKb:K.In (hidT s₁.heap H):=fun b o e=>base_of (KX b o e) (by
      cases q:H b with
      | none=>rfl
      | some u=>
        have e':b=a:=hA b (by rw [q]; simp)
        subst e'
        rw [hK (by rw [q]; simp)] at e; cases e)
    have hM:Mod K mg (hidT s₁.heap H):=⟨hKb,nsK hns,⟨mb,nsK hb,hbb⟩,let ⟨mc,h1,h2⟩:=hlim; ⟨mc,nsK h1,h2⟩⟩
    have e0:Env0 P w K mg (hidT s₁.heap H) callerA [] s₁ H:=⟨rfl,hM,fun b o e=>of_hidT e,Nat.le_of_eq (hidT_size _ _),trivial,fun b hb=>absurd (show b ∈ ([]:List Addr) from hb) (by simp),hok,.of_eq hg⟩
    refine codeAny_mono ((F _ hKb (nsK hns)).run callerA [] s₁ H ⟨[.ref a],[]⟩ [.ref a] [.ref a] _ _ hr e0 (hbind s₁ (.ref a)) (.cons rfl .nil) (hsp H hO hS)) fun r s' h=>?_
    cases r with
    | error e=>exact (hCX H e s' h).elim
    | ok fl=>
      cases fl with
      | next=>exact False.elim h
      | brk=>exact False.elim h
      | cont=>exact False.elim h
      | ret u=>
        obtain ⟨v,H',os,bare,un,hok',r',q⟩:=h
        have q':v=.bl true:=q
        subst q'
        obtain rfl:u=Value.bool true:=r'
        refine ⟨rfl,OldK.of_keep fun b o e=>?_,os,bare⟩
        cases q:H b with
        | none=>exact un.keep b o e q (by intro z; exact absurd (show b ∈ ([]:List Addr) from z) (by simp)) (by simp)
        | some u=>
          rcases hO b with z | ⟨ob,xs,z⟩
          · rw [q] at z; cases z
          · have z2:=un.frzs b ob _ z
            obtain ⟨e1,_⟩:=hok b _ z
            obtain ⟨e2,_⟩:=hok' b _ z2
            rw [e] at e1; cases e1
            exact e2
  cases hk:K.lookup a with
  | some o=>
    have e:=KX a o hk
    rw [ha] at e
    cases e
    refine core (fun _=>none) (fun _=>.inl rfl) (.inr ⟨_,vs.toArray,_,hk,rfl,rfl,rfl,by rw [List.size_toArray,lenV]; exact hl,by simpa using rv⟩) (fun b u z=>by have z':(none:Option HO)=some u:=z; cases z') (fun b z=>absurd rfl z) fun z=>absurd rfl z
  | none=>
    refine core (fun b=>if b=a then some (.frz { cls:=.type "list",data:=.seq vs.toArray } (.lst (ns.map V.int))) else none) (fun b=>?_) (.inl (.inr ⟨{ cls:=.type "list",data:=.seq vs.toArray },if_pos rfl⟩)) (fun b u z=>?_) (fun b z=>?_) fun _=>hk
    · by_cases hb:b=a
      · exact .inr ⟨_,_,if_pos hb⟩
      · exact .inl (if_neg hb)
    · by_cases hb:b=a
      · have z':=(if_pos hb).symm.trans z
        cases z'
        subst hb
        exact ⟨ha,by rw [List.length_map]; exact hl,vs,_,rv,ha⟩
      · have z':=(if_neg hb).symm.trans z
        cases z'
    · by_cases hb:b=a
      · exact hb
      · exact absurd (if_neg hb) z
end L2
namespace L2
open PySem PySem.Spec PyProof.Rows
theorem walk_of {l:PySem.W.OpenLaw} {n k:Nat} {q:Program} {loose:List Str} {XP:(Str->Option Value)->Heap->Prop} {YP:World->Heap->Prop} {d:DefRec} {K:Params->PySem.W.Frag} {CX:World->CXT} {sp:World->Sp} {x:Str}
    (hn:l.most=some n) (hn2:n<=sizeLine) (hdf:d.params.defaults=[]) (hr:Room k callerA)
    (hY:∀ (w:World) (h:Heap),YP w h->(K w.params).In h)
    (F:∀ (w:World) (mg:Str->Option Value) (fa:Addr) (h:Heap),(K w.params).In h->h.Ns mainGlobals mg->mg d.name=some (.ref fa) ->
      ∃ fd:FuncData,(∀ (s:Shared) (u:Value),BindsTo s fd ⟨[u],[]⟩ [(x,u)]) /\
        ∀ base:Heap,(K w.params).In base->base.Ns mainGlobals mg->FnOk l.prog w (K w.params) mg base (CX w) k fa fd [x] (sp w))
    (hsp:∀ (w:World) (H:Hp) (a:Addr) (ns:List Int),ns.length<=n->Only H->SqL (K w.params) H a (ns.map V.int)->sp w [.ref a] H (fun v _=>v=.bl true) fun _ _ _=>False)
    (hCX:∀ (w:World) (H:Hp) (s:Shared) (e:Value) (s':Shared),CX w [] H s (fun _ _ _=>False) e s'->False) :
    PySem.W.WalkO q loose XP YP l.row.toRowW d [] (fun f vs=>PySem.call f vs):=by
  refine Att.attach_call hn hdf fun w s₀ s₁ mg mb fa o pm cd doc a vs ns G Y ho hd hcd hmg hobj hints hlen hg=>?_
  have KX:=hY w _ Y
  obtain ⟨fd,hb,hF⟩:=F w mg fa _ KX G.T.g hmg
  exact law_call KX G.T.g G.T.b G.T.builtins G.T.nolimit hg hobj hints (Nat.le_trans hlen hn2) hr hF hb (fun H hO hS=>hsp w H a ns hlen hO hS) fun H e s'=>hCX w H s₁ e s'
end L2
namespace L2
open PySem PySem.Spec PyProof.Rows
def defArgs (s:Stmt):Arguments:=match s with
  | .FunctionDef _ a _ _ _ _ _ _ _ _=>a
  | _=>{ posonlyargs:=[],args:=[],vararg:=none,kwonlyargs:=[],kw_defaults:=[],kwarg:=none,defaults:=[] }
def defBody (s:Stmt):List Stmt:=match s with
  | .FunctionDef _ _ b _ _ _ _ _ _ _=>b
  | _=>[]
def defScope (s:Stmt):Scope:=match s with
  | .FunctionDef _ _ _ _ _ _ sc _ _ _=>sc
  | _=>{ kind:=.function,names:=[],isGenerator:=false,isCoroutine:=false }
abbrev E0:XK:=fun _ _ _=>False
structure Fun (K:PySem.W.Frag) (x qual:Str) (st:Stmt) (f:Addr) (fd:FuncData):Prop where
  ex:∃ (oc:Value) (od:Option Addr) (kV doc pm:Value) (an:Option Addr) (cdv ct:Value) (osl:Array (Option Value)),
    fd=PySem.W.fnOf x qual (defArgs st) (defBody st) (defScope st) .none kV doc pm an cdv ct/\K.lookup f=some ⟨oc,od,.func fd,osl⟩/\PySem.W.codeIn K cdv qual=true
  kp:PySem.W.keepIn K (.ref f)=true
section
variable {P:Program} {w:World} {K:PySem.W.Frag} {mg:Str->Option Value} {base:Heap}
theorem Fun.binds {x qual:Str} {st:Stmt} {f:Addr} {fd:FuncData} {ps:List Str} (F:Fun K x qual st f fd)
    (h:∀ (kV doc pm:Value) (an:Option Addr) (cdv ct:Value) (us:List Value),us.length=ps.length->bindArgs (PySem.W.fnOf x qual (defArgs st) (defBody st) (defScope st) .none kV doc pm an cdv ct) ⟨us,[]⟩=pure (ps.zip us)):Binds K fd ps []:=by
  obtain ⟨oc,od,kV,doc,pm,an,cdv,ct,osl,rfl,lk,hcd⟩:=F.ex
  exact .all (h kV doc pm an cdv ct)
theorem fun_mk {x qual:Str} {st:Stmt} {f:Addr} {oc:Value} {od an:Option Addr} {osl:Array (Option Value)} {kV doc pm cdv ct:Value} (l:K.lookup f=some ⟨oc,od,.func (PySem.W.fnOf x qual (defArgs st) (defBody st) (defScope st) .none kV doc pm an cdv ct),osl⟩)
    (c:PySem.W.codeIn K cdv qual=true) (k:PySem.W.keepIn K (.ref f)=true):Fun K x qual st f (PySem.W.fnOf x qual (defArgs st) (defBody st) (defScope st) .none kV doc pm an cdv ct):=⟨⟨oc,od,kV,doc,pm,an,cdv,ct,osl,rfl,l,c⟩,k⟩
end
section
variable {X:Cx}
end
def Same (H H':Hp):Prop:=∀ b o,H b=some o->H' b=some o
theorem Same.refl (H:Hp):Same H H:=fun _ _ h=>h
end L2
namespace L2
open PySem PySem.Spec PyProof.Rows
section
variable {X:Cx} {tg:Expr}
end
end L2
namespace L2
open PySem PySem.Spec PyProof.Rows
theorem closure_of {scope:Scope} {env:Env} (h:∀ x ∈ scope.names,x.2=.free->∃ c,env.cells.lookup x.1=some c) :
    ∃ cl,closureFor scope env=pure cl/\(∀ x c,cl.lookup x=some c->env.cells.lookup x=some c)/\(∀ x ∈ scope.names,x.2=.free->∃ c,cl.lookup x.1=some c):=by
  have key:∀ (l:List (Str × NameKind)) (acc:List (Str × Addr)),(∀ x ∈ l,x.2=.free->∃ c,env.cells.lookup x.1=some c)->(∀ x c,acc.lookup x=some c->env.cells.lookup x=some c) ->
      ∃ cl,(forIn l acc fun (x:Str × NameKind) (r:List (Str × Addr))=>(match x with
        | (name,kind)=>if (kind == NameKind.free)=true then (do let c <- cellOf env name; pure (ForInStep.yield ((name,c) :: r))) else (do pure PUnit.unit; pure (ForInStep.yield r)):Sem (ForInStep (List (Str × Addr)))))=pure cl /\
        (∀ x c,cl.lookup x=some c->env.cells.lookup x=some c)/\(∀ x ∈ l,x.2=.free->∃ c,cl.lookup x.1=some c)/\(∀ x c,acc.lookup x=some c->∃ c',cl.lookup x=some c'):=by
    intro l
    induction l with
    | nil=>intro acc _ ha; exact ⟨acc,rfl,ha,fun x hx=>(by simp at hx),fun x c e=>⟨c,e⟩⟩
    | cons x r ih=>
      intro acc hl ha
      obtain ⟨n,k⟩:=x
      by_cases hk:k=.free
      · subst hk
        obtain ⟨c,hc⟩:=hl (n,.free) List.mem_cons_self rfl
        have ha':∀ x c',((n,c) :: acc).lookup x=some c'->env.cells.lookup x=some c':=fun x c' e=>by
          rw [List.lookup_cons] at e
          by_cases hx:x=n
          · subst hx; simp at e; rw [<- e]; exact hc
          · have:(x == n)=false:=by simpa using hx
            rw [this] at e; exact ha x c' e
        obtain ⟨cl,e1,e2,e3,e4⟩:=ih ((n,c) :: acc) (fun y hy=>hl y (List.mem_cons_of_mem _ hy)) ha'
        refine ⟨cl,?_,e2,fun y hy hf=>?_,fun y c' e=>?_⟩
        · rw [List.forIn_cons]
          have hcell:cellOf env n=pure c:=by unfold cellOf; rw [hc]
          simp only [beq_self_eq_true,if_true,hcell]
          exact e1
        · rcases List.mem_cons.mp hy with e | hy
          · subst e
            exact e4 n c (by simp)
          · exact e3 y hy hf
        · by_cases hy:y=n
          · subst hy; exact e4 y c (by simp)
          · have:(y == n)=false:=by simpa using hy
            exact e4 y c' (by rw [List.lookup_cons,this]; exact e)
      · obtain ⟨cl,e1,e2,e3,e4⟩:=ih acc (fun y hy=>hl y (List.mem_cons_of_mem _ hy)) ha
        refine ⟨cl,?_,e2,fun y hy hf=>?_,e4⟩
        · rw [List.forIn_cons]
          have:(k == NameKind.free)=false:=by simpa using hk
          simp only [this,Bool.false_eq_true,if_false]
          exact e1
        · rcases List.mem_cons.mp hy with e | hy
          · subst e; exact absurd hf hk
          · exact e3 y hy hf
  obtain ⟨cl,e1,e2,e3,_⟩:=key scope.names [] h (fun x c e=>by simp at e)
  refine ⟨cl,?_,e2,e3⟩
  unfold closureFor
  exact (congrArg (fun z=>z >>= pure) e1).trans rfl
theorem lookup_relab (f:Str->NameKind->NameKind) (x:Str):∀ l:List (Str × NameKind),(l.map fun y=>(y.1,f y.1 y.2)).lookup x=(l.lookup x).map (f x)
  | []=>rfl
  | (n,k) :: r=>by
    have ih:=lookup_relab f x r
    rw [List.map_cons,List.lookup_cons,List.lookup_cons]
    by_cases hx:x=n
    · subst hx; simp
    · have hb:(x == n)=false:=by simpa using hx
      rw [hb]; exact ih
theorem relabel_lookup {scope:Scope} {env:Env} {x:Str}:(relabel scope env).names.lookup x =
    (scope.names.lookup x).map fun k=>if (k == .free && env.scope.kind == .function && env.kindOf x == some .cell) then .cell else k:=by
  rw [<- lookup_relab (fun n k=>if (k == .free && env.scope.kind == .function && env.kindOf n == some .cell) then .cell else k)]
  unfold relabel
  refine congrArg (List.lookup x) (List.map_congr_left fun y _=>?_)
  obtain ⟨n,k⟩:=y
  show (if (k == NameKind.free && env.scope.kind == .function && env.kindOf n == some .cell)=true then (n,NameKind.cell) else (n,k))=_
  split <;> rfl
def capOf (cap:List (Option Nat)) (σ:St):St:=cap.map fun c=>c.bind fun j=>(σ[j]?).join
section
variable {prog:Program} {w:World} {A:Around} {R:Result->Shared->Prop} {s:Shared}
end
section
variable {X:Cx}
end
end L2
namespace L2
open PySem PySem.Spec PyProof.Rows
def HasItems (t:Bool) (h:Heap) (a:Addr) (items:Array Value):Prop:=if t=true then h.IsTuple a items else h.IsList a items
def IterAt (t:Bool) (h:Heap) (it a:Addr) (i:Nat):Prop:=if t=true then h.IsTupleIter it a i else h.IsListIter it a i
theorem HasItems.at {t:Bool} {h h':Heap} {a:Addr} {items:Array Value} (x:HasItems t h a items) (k:∀ o,h.get? a=some o->h'.get? a=some o):HasItems t h' a items:=by
  cases t
  · exact Heap.IsList.at x k
  · obtain ⟨o,e,r⟩:=x
    exact ⟨o,k o e,r⟩
theorem HasItems.there {t:Bool} {h:Heap} {a:Addr} {items:Array Value} (x:HasItems t h a items):∃ o,h.get? a=some o:=by
  cases t
  · obtain ⟨o,e,_⟩:=x; exact ⟨o,e⟩
  · obtain ⟨o,e,_⟩:=x; exact ⟨o,e⟩
section
variable {prog:Program} {w:World} {A:Around} {E:Value->Shared->Prop} {s:Shared}
def iterObj (t:Bool) (l:Addr):Obj:=if t=true then { cls:=.type "tuple_iterator",data:=.fields #[.ref l,.int 0 0] } else { cls:=.type "list_iterator",data:=.fields #[.ref l,.int 0 0] }
theorem pyIter_seq {t:Bool} {l:Addr} {items:Array Value} {Q:Value->Shared->Prop} (hl:HasItems t s.heap l items)
    (hQ:Q (.ref s.heap.objs.size) { s with heap:=s.heap.push (iterObj t l) }):wpAny (model prog w) A (pyIter (.ref l)) Q E s:=by
  cases t
  · exact wpAny_pyIter_list hl hQ
  · exact wpAny_pyIter_tuple hl hQ
theorem iterObj_at {t:Bool} {h:Heap} {it l:Addr} (e:h.get? it=some (iterObj t l)):IterAt t h it l 0:=by
  cases t
  · exact ⟨_,e,rfl,rfl⟩
  · exact ⟨_,e,rfl,rfl⟩
theorem iterObj_free (t:Bool) (l:Addr):(iterObj t l).isFreed=false:=by cases t <;> rfl
end
section
variable {prog:Program} {w:World} {A:Around} {E:Value->Shared->Prop} {s:Shared}
end
def SqK (K:PySem.W.Frag) (t:Bool) (H:Hp) (a:Addr) (xs:List V):Prop:=if t=true then SqT K H a xs else SqL K H a xs
section
variable {X:Cx} {pins:List (Addr × Obj)} {σ:St} {H:Hp} {s:Shared}
theorem Inv.seqK {t:Bool} {a:Addr} {xs:List V} (I:Inv X pins σ H s) (h:SqK X.K t H a xs):∃ its:List Value,Vals xs its/\HasItems t s.heap a its.toArray/\xs.length<=sizeLine:=by
  cases t
  · obtain ⟨its,r,p,z⟩:=I.list h
    exact ⟨its,r,p.isList,z⟩
  · obtain ⟨its,r,p,z⟩:=I.tuple h
    exact ⟨its,r,p,z⟩
end
section
variable {X:Cx}
end
end L2
namespace L2
open PySem PySem.Spec PyProof.Rows
theorem walksK {prog:Program} {w:World} {A:Around} (hh:A.handled=none) (t:Bool) (I ax:Addr) (hne:ax ≠ I) (items:Array Value) :
    Walks prog w A I [I,ax] [I] items.size (fun i v=>items[i]?=some v) (fun i h=>IterAt t h I ax i/\HasItems t h ax items):=by
  cases t
  · exact Walks.list hh I ax hne items
  · exact Walks.tuple hh I ax hne items
section
variable {X:Cx} {pins:List (Addr × Obj)} {σ:St} {H:Hp} {s:Shared}
theorem Inv.movedNew {s':Shared} (I:Inv X pins σ H s) {o:Obj} (m:Moved [s.heap.objs.size] (fun a b=>b=a) { s with heap:=s.heap.push o } s'):Inv X pins σ H s':=by
  obtain ⟨m1,m2,m3,m4,m5⟩:=m
  obtain ⟨h',g',d',t',o'⟩:=s'
  have e1:g'=s.gens:=m2
  have e2:d'=s.drawn:=m3
  have e3:o'=s.os:=m4
  subst e1 e2 e3
  refine I.kept (t':=t') fun b u e=>m1 b u (fun z=>?_) (Heap.get?_push_of_some _ e)
  have:b=s.heap.objs.size:=by simpa using z
  exact absurd (Heap.lt_size e) (by rw [this]; exact Nat.lt_irrefl _)
theorem bools_get {bs:List Bool} {its:List Value} (r:Vals (bs.map V.bl) its):∀ (i:Nat) (v:Value),its.toArray[i]?=some v->v=Value.bool (bs.getD i false):=fun i v e=>by
  have e':its[i]?=some v:=by simpa using e
  have hi:i < its.length:=(List.getElem?_eq_some_iff.mp e').1
  have hl:=r.length
  rw [List.length_map] at hl
  have hn:(bs.map V.bl)[i]?=some (V.bl (bs.getD i false)):=by
    have:i < bs.length:=by omega
    simp [List.getD,this]
  obtain ⟨u,hu,ru⟩:=r.get hn
  rw [e'] at hu
  cases hu
  exact ru
theorem iterObj_walk {t:Bool} {l:Addr} {items:Array Value} (hl:HasItems t s.heap l items):l ≠ s.heap.objs.size /\
    (IterAt t (s.heap.push (iterObj t l)) s.heap.objs.size l 0/\HasItems t (s.heap.push (iterObj t l)) l items)/\∀ b ∈ [s.heap.objs.size,l],b < (s.heap.push (iterObj t l)).objs.size:=by
  obtain ⟨o,e⟩:=hl.there
  have hlt:=Heap.lt_size e
  refine ⟨Nat.ne_of_lt hlt,⟨iterObj_at (Heap.get?_push_size _ (iterObj_free _ _)),hl.at fun o e=>Heap.get?_push_of_some _ e⟩,fun b hb=>?_⟩
  rw [Heap.size_push]
  simp at hb
  rcases hb with rfl | rfl
  · exact Nat.lt_succ_self _
  · exact Nat.lt_succ_of_lt hlt
end
section
variable {X:Cx}
theorem range_all (bs:List Bool):(List.range bs.length).all (fun i=>bs.getD i false)=bs.all id:=by
  induction bs with
  | nil=>rfl
  | cons b r ih=>
    rw [List.length_cons,List.range_succ_eq_map,List.all_cons,List.all_map,List.all_cons,<- ih]
    rfl
theorem call_all (t:Bool) (hc:X.calm=true):CallR X (.builtin "all") (fun xs H Q=>∃ (a:Addr) (bs:List Bool),xs=[.ref a]/\SqK X.K t H a (bs.map V.bl)/\Q (.bl (bs.all id)) H):=by
  intro pins s σ H xs us Q I r h
  obtain ⟨a,bs,rfl,hq,q⟩:=h
  obtain ⟨u,rfl,r1⟩:=vals1 r
  cases r1
  obtain ⟨its,rv,p,_⟩:=I.seqK hq
  obtain ⟨w1,w2,w3⟩:=iterObj_walk p
  have hl:=rv.length
  rw [List.length_map] at hl
  refine call_all_walkS (pyIter_seq p ⟨_,_,_,_,_,_,_,fun j=>bs.getD j false,rfl,(walksK (A:=X.A.in1) (I.ok.hd hc) t _ a w1 its.toArray).toS,w2,fun i v s' Q' E' hv hQ=>?_,fun s' m=>?_⟩)
  · rw [bools_get rv i v hv]
    exact wpAny_truthy_bool hQ
  · refine ⟨.bl (bs.all id),H,I.movedNew m,?_,q⟩
    show Value.bool _=_
    rw [List.size_toArray,<- hl,range_all]
end
section
variable {prog:Program} {w:World} {A:Around} {E:Value->Shared->Prop} {s:Shared}
end
section
variable {X:Cx}
end
end L2
namespace L2
open PySem PySem.Spec PyProof.Rows
section
variable {K:PySem.W.Frag} {cap:List (Option Nat)} {te:TE} {σ:St} {H1:Hp} {Q:VK}
abbrev g2 (K:PySem.W.Frag):TG:=gTup K 2 (gCons (gName 0) (gCons (gName 1) gNil))
end
def clsV:V->Option Value
  | .ty n=>some (.type n)
  | .ref a=>some (.ref a)
  | _=>none
theorem clsV_rel {c:V} {cv u:Value} (e:clsV c=some cv) (r:RelV c u):u=cv:=by
  cases c with
  | ty n=>cases e; exact r
  | ref a=>cases e; exact r
  | _=>cases e
section
variable {X:Cx}
theorem call_isinst:CallR X (.builtin "isinstance") (fun xs H Q=>∃ x c cv t b,xs=[x,c]/\clsV c=some cv/\TyOf X.K H x t/\PySem.W.kitOne X.K t cv=some b/\Q (.bl b) H):=by
  intro pins s σ H xs us Q I r h
  obtain ⟨x,c,cv,t,b,rfl,hc,ty,e,q⟩:=h
  obtain ⟨u,w',rfl,r1,r2⟩:=vals2 r
  rw [clsV_rel hc r2]
  exact isinst_ok I r1 ty e fun tk=>⟨.bl b,H,I.tok tk,rfl,q⟩
theorem boot_isinstance:bootBuiltins "isinstance" = some (.builtin "isinstance"):=by decide +kernel
theorem boot_all:bootBuiltins "all" = some (.builtin "all"):=by decide +kernel
theorem boot_tuple:bootBuiltins "tuple" = some (.type "tuple"):=by decide +kernel
theorem boot_list:bootBuiltins "list" = some (.type "list"):=by decide +kernel
theorem boot_int:bootBuiltins "int" = some (.type "int"):=by decide +kernel
theorem boot_bool:bootBuiltins "bool" = some (.type "bool"):=by decide +kernel
theorem boot_str:bootBuiltins "str" = some (.type "str"):=by decide +kernel
end
section
variable {X:Cx} (K:PySem.W.Frag)
end
end L2
namespace L2
open PySem PySem.Spec PyProof.Rows PySem.W PySem.Builtin.Getset_descriptor
section
variable {prog:Program} {w:World} {A:Around} {E:Value->Shared->Prop} {h:Heap} {g:Array GenState} {d:Drawn} {t:Nat} {os:OsState} {K:Frag} {x C:Addr}
end
end L2
namespace L2
open PySem PySem.Spec PyProof.Rows
theorem ObjOk.there {P:Program} {w:World} {H:Hp} {h:Heap} {a:Addr} {o:HO} (x:ObjOk P w H h a o):∃ u,h.get? a=some u:=by
  cases o with
  | lst xs=>obtain ⟨_,_,_,_,e⟩:=x; exact ⟨_,e⟩
  | tup xs=>obtain ⟨_,_,_,o,e,_⟩:=x; exact ⟨o,e⟩
  | dK kvs=>obtain ⟨_,_,_,_,o,_,_,e,_⟩:=x; exact ⟨o,e⟩
  | dT kvs=>obtain ⟨_,_,_,_,o,_,_,e,_⟩:=x; exact ⟨o,e⟩
  | set S n=>obtain ⟨o,_,_,_,e,_⟩:=x; exact ⟨o,e⟩
  | ins C dx fs=>obtain ⟨_,_,_,e,_⟩:=x; exact ⟨_,e⟩
  | own y=>exact x
  | xd fs=>obtain ⟨_,⟨o,_,_,e,_⟩,_⟩:=x; exact ⟨o,e⟩
  | rng lo hi=>obtain ⟨_,_,_,e⟩:=x; exact ⟨_,e⟩
  | frz ob u=>obtain ⟨e,_⟩:=x; exact ⟨_,e⟩
  | tbl ps=>exact ⟨_,x⟩
  | met f y=>exact ⟨_,x⟩
  | ext φ=>exact x.2.1
theorem HOk.none_of {P:Program} {w:World} {H:Hp} {h:Heap} {a:Addr} (x:HOk P w H h) (e:h.get? a=none):H a=none:=by
  cases q:H a with
  | none=>rfl
  | some o=>
    obtain ⟨u,z⟩:=(x a o q).there
    rw [e] at z
    cases z
structure Fly (P:Program) (w:World) (outer:List Env) (H H':Hp) (s s':Shared) (a:Addr) (cls a0:Value) (B:Heap):Prop where
  os:s'.os=s.os
  bare:AllBare s'.gens
  fl:Heap.FlyingW B outer a cls a0 s'.heap
  hokB:HOk P w H' B
  keep:∀ b o,s.heap.get? b=some o->H b=none->b ∉ frs outer->B.get? b=some o
  there:∀ b o,s.heap.get? b=some o->b ∉ frs outer->∃ o',B.get? b=some o'
  slot:∀ b o,s.heap.get? b=some o->b ∈ frs outer->∃ sl,s'.heap.get? b=some { o with slots:=sl }
  free:∀ b o,s.heap.get? b=some o->H b=none->H' b=none
  tups:∀ b xs,H b=some (.tup xs)->H' b=some (.tup xs)
  frzs:∀ b o u,H b=some (.frz o u)->H' b=some (.frz o u)
  tbls:∀ b ps,H b=some (.tbl ps)->∃ more,H' b=some (.tbl (ps ++ more))
section
variable {P:Program} {w:World} {K:PySem.W.Frag} {mg:Str->Option Value} {base:Heap} {N:List Str} {qual:Str} {scope:Scope} {f:Addr} {cd:Value} {A:Around} {outer:List Env} {s:Shared} {H:Hp} {E:XK}
end
abbrev bmVE:List Value:=[.type "ValueError",.type "Exception",.type "BaseException",.type "object"]
theorem own_obj {K:PySem.W.Frag} {h:Heap} {C:Addr} {bmB:List Value} {newId:String} {x:Str} {mg:Str->Option Value} (X:K.In h) (m:mg x=some (.ref C)) (q:PySem.W.excIn K C bmB newId=true):OwnCls x C bmB newId mg h:=by
  refine ⟨m,?_⟩
  unfold PySem.W.excIn at q
  split at q
  · rename_i dd cd sl ho
    split at q
    · rename_i C' bm k0 k1 k2 k3 n k5 hm hs
      simp only [Bool.and_eq_true,beq_iff_eq,Bool.not_eq_true'] at q
      obtain ⟨⟨⟨⟨⟨rfl,rfl⟩,hdel⟩,ht⟩,hok⟩,hni⟩:=q
      obtain ⟨nm,bs,mro,ns,qn,hd,sn,sub,ab,col,del⟩:=cd
      dsimp only at hm hdel hok hni
      subst hm hdel
      have hsl:sl=#[k0,k1,k2,k3,some (.builtin n),k5]:=by
        obtain ⟨l⟩:=sl
        simp only at hs
        rw [hs]
      subst hsl
      exact ⟨bm,ns,nm,qn,bs,hd,sn,sub,ab,col,dd,k0,k1,k2,k3,k5,_,X _ _ ho,.of_isNs (PySem.W.isNs_of_in X hok),PySem.W.nsMap_none_of_in X hok hni,PySem.W.tail_of_in X ht⟩
    · cases q
  · cases q
section
variable {X:Cx}
def tRaise (C:Addr) (E:XK) (t:TA):TS:=fun _ σ H=>t σ H fun vs H1=>vs.length<=sizeLine/\E (.ref C) none H1
end
end L2
namespace L2
open PySem PySem.Spec PyProof.Rows
section
variable {X:Cx} {pins:List (Addr × Obj)} {σ:St} {H H':Hp} {s s':Shared} {a C:Addr}
end
section
variable {X:Cx}
end
section
variable {X:Cx}
end
end L2
namespace L2
open PySem PySem.Spec PyProof.Rows
theorem tuple_mul_same (l:Addr) (items:Array Value) (n:Nat) (dd:Option Addr) (sl:Array (Option Value)) (t:Tok) :
    Meets (Builtin.«tuple.__mul__» ⟨[.ref l,.int 1 t],[]⟩) (fun _ R s=>s.heap.get? l=some { cls:=.type "tuple",dict:=dd,data:=.seq items n,slots:=sl }/\R (.ok (.ret (.ref l))) s):=
  .of_wp fun prog w A R s h=>by
    obtain ⟨hp,g,d,tk,os⟩:=s; obtain ⟨hl,h⟩:=h
    wp_walk using wpAny_loadPart' hl
    exact ⟨_,rfl,h⟩
theorem tuple_mul_many (l:Addr) (items:Array Value) (n:Nat) (dd:Option Addr) (sl:Array (Option Value)) (x:Int) (t:Tok) (h1:¬ (decide (x < -(2 ^ 63)) || decide (x>=2 ^ 63))=true) (h2:¬ (items.isEmpty || x == 1)=true) (h3:¬ (decide (x<=0) || items.isEmpty)=true) (h4:¬ (items.size:Int) * x > (2 ^ 63 - 1) / 8) (h5:¬ Builtin.Tuple.tupleTooMany ((items.size:Int) * x)=true)
    (h6:((List.replicate x.toNat items).foldl (fun x1 x2=>x1 ++ x2) #[]).size<=sizeLine) :
    Meets (Builtin.«tuple.__mul__» ⟨[.ref l,.int x t],[]⟩) (fun _ R s=>s.heap.get? l=some { cls:=.type "tuple",dict:=dd,data:=.seq items n,slots:=sl } /\
      R (.ok (.ret (Value.ref s.heap.objs.size))) { s with heap:=s.heap.push { cls:=Value.type "tuple",data:=Data.seq ((List.replicate x.toNat items).foldl (fun x1 x2=>x1 ++ x2) #[]) } }):=
  .of_wp fun prog w A R s h=>by
    obtain ⟨hp,g,d,tk,os⟩:=s; obtain ⟨hl,h⟩:=h
    wp_walk using wpAny_loadPart' hl
    refine wpAny_ite_false (decide_eq_false h1) ?_
    wp_walk using wpAny_loadPart' hl
    refine wpAny_ite_false (decide_eq_false h4) ?_
    wp_walk using wpAny_loadPart' hl
    all_goals first | exact ⟨_,rfl,h⟩ | (refine wpAny_ite_false (decide_eq_false h5) ?_; wp_walk) | skip
    all_goals first | exact ⟨_,rfl,h⟩ | (refine wpAny_ite_false (decide_eq_false (Nat.not_lt.mpr h6)) ?_; wp_walk; exact ⟨_,rfl,h⟩)
theorem int_rmul_tuple (a:Int) (t:Tok) (l:Addr) (items:Array Value) (n:Nat) (dd:Option Addr) (sl:Array (Option Value)) :
    Meets (Builtin.«int.__rmul__» ⟨[.int a t,.ref l],[]⟩) (fun _ R s=>s.heap.get? l=some { cls:=.type "tuple",dict:=dd,data:=.seq items n,slots:=sl }/\R (.ok (.ret Value.notImplemented)) s):=
  .of_wp fun prog w A R s h=>by obtain ⟨hp,g,d,tk,os⟩:=s; obtain ⟨hl,h⟩:=h; wp_walk using wpAny_loadPart' hl; exact ⟨_,rfl,h⟩
theorem noFill_tuple_mul:fillsNumberSlot (.type "tuple") "mul" = pure false:=
  PySem.fillsNumberSlot_seq (id := "tuple.__mul__") (r:=some (.builtin "tuple.__rmul__")) F.slot_tuple_mul.lookup (by decide +kernel) F.slot_tuple_rmul.lookup (by decide +kernel)
theorem repeat_tuple:seqRepeat? (.type "tuple")=pure (some (.builtin "tuple.__mul__")):=by
  unfold seqRepeat?
  rw [PySem.seqSlot_of (T := "tuple") (name := "__mul__") (id := "tuple.__mul__") F.slot_tuple_mul.lookup (by decide +kernel),PySem.seqSlot_of (T := "tuple") (name := "__rmul__") (id := "tuple.__rmul__") F.slot_tuple_rmul.lookup (by decide +kernel)]
  rfl
section
variable {X:Cx}
def rRepT (K:PySem.W.Frag):R2:=fun x y H Q=>∃ a k xs,x=.ref a/\y=.int k/\SqT K H a xs/\xs ≠ []/\1<=k/\xs.length * k.toNat<=4096 /\
  (k=1->Q (.ref a) H)/\(k ≠ 1->∀ p,H p=none->Q (.ref p) (upd H p (.tup (List.replicate k.toNat xs).flatten)))
theorem op_repT:OpR X (binaryOp .Mult) (rRepT X.K):=by
  intro pins s σ H x y v u Q I rx ry h
  obtain ⟨a,k,xs,rfl,rfl,ha,hne,hk,hz,q1,q2⟩:=h
  cases rx
  obtain ⟨t,rfl⟩:=ry
  obtain ⟨its,r,p1,hs⟩:=I.tuple ha
  obtain ⟨⟨cls,dd,data,sl⟩,ho,hc,n,hd⟩:=id p1
  simp only at hc hd
  subst hc hd
  have hl:its.length=xs.length:=r.length.symm
  have hpos:0 < its.length:=by rw [hl]; exact List.length_pos_iff.mpr hne
  have hkz:k.toNat<=4096:=by
    have:1 * k.toNat<=xs.length * k.toNat:=Nat.mul_le_mul_right _ (by omega)
    omega
  refine wpAny_binaryOp_repeat_ref (T := "tuple") (U := "int") (by decide) ⟨_,ho,rfl⟩ (fun s'=>typeIs_int s' k t) noFill_tuple_mul F.fills_int_mul F.slot_int_rmul repeat_tuple F.slot_int_index.lookup
    (call_meets F.slot_int_rmul (typeIs_int s k t) F.entry_int_rmul (F.args_int_rmul_2 _ _) (int_rmul_tuple k t a its.toArray n dd sl)
      ⟨ho,rfl,⟨_,ho,rfl⟩,?_⟩)
  by_cases h1:k=1
  · subst h1
    exact call_meets F.slot_tuple_mul ⟨_,ho,rfl⟩ F.entry_tuple_mul (F.args_tuple_mul_2 _ _) (tuple_mul_same a its.toArray n dd sl t) ⟨ho,⟨.ref a,H,I,rfl,q1 rfl⟩⟩
  · have f0:List.foldl (fun x1 x2=>x1 ++ x2) #[] (List.replicate k.toNat its.toArray)=(List.replicate k.toNat its).flatten.toArray:=by
      have:=foldl_rep its k.toNat []
      rw [List.nil_append] at this
      exact this
    have hlen:(its.toArray.size:Int) * k=((its.length * k.toNat:Nat):Int):=by
      rw [List.size_toArray,Int.natCast_mul,Int.toNat_of_nonneg (by omega)]
    have hfl:(List.replicate k.toNat its).flatten.length<=4096:=by rw [len_rep,hl,Nat.mul_comm]; exact hz
    have hb:its.length * k.toNat<=4096:=by rw [hl]; exact hz
    refine call_meets F.slot_tuple_mul ⟨_,ho,rfl⟩ F.entry_tuple_mul (F.args_tuple_mul_2 _ _) (tuple_mul_many a its.toArray n dd sl k t ?_ ?_ ?_ ?_ ?_ ?_) ⟨ho,?_⟩
    · rw [decide_eq_false (by omega),decide_eq_false (by omega)]; exact Bool.false_ne_true
    · intro z
      rcases Bool.or_eq_true_iff.mp z with z | z
      · rw [List.isEmpty_toArray,List.isEmpty_iff] at z; rw [z] at hpos; simp at hpos
      · exact h1 (eq_of_beq z)
    · intro z
      rcases Bool.or_eq_true_iff.mp z with z | z
      · have:=of_decide_eq_true z; omega
      · rw [List.isEmpty_toArray,List.isEmpty_iff] at z; rw [z] at hpos; simp at hpos
    · rw [hlen]; omega
    · rw [hlen]
      have:(4096:Int)<=sizeLine:=by decide
      show ¬ decide (((its.length * k.toNat:Nat):Int) > (sizeLine:Int))=true
      rw [decide_eq_false (by omega)]; exact Bool.false_ne_true
    · rw [f0,List.size_toArray]; exact Nat.le_trans hfl (by decide)
    · rw [f0]
      refine ⟨.ref s.heap.objs.size,_,I.laid (t':=s.toks) (o:=.tup (List.replicate k.toNat xs).flatten) (fun b ob q=>Heap.get?_push_of_some _ q) (Nat.le_refl _) ?_,rfl,q2 h1 _ (I.hok.fresh (Nat.le_refl _))⟩
      exact ⟨by rw [len_rep,Nat.mul_comm]; exact Nat.le_trans hz (by decide),_,r.rep k.toNat,IsTup.new _ _⟩
end
section
variable {X:Cx} {pins:List (Addr × Obj)} {s:Shared} {σ:St} {H:Hp}
open PySem.SeqAt
theorem op_isnot_bl:OpR X (compareOp .IsNot) (fun x y H Q=>∃ b c,x=.bl b/\y=.bl c/\Q (.bl (b != c)) H):=by
  intro pins s σ H x y v u Q I rx ry h
  obtain ⟨b,c,rfl,rfl,q⟩:=h
  cases rx
  cases ry
  exact PyProof.Rows.isnot_bool ⟨.bl _,H,I,rfl,q⟩
end
end L2
namespace L2
open PySem PySem.Spec PyProof.Rows
end L2
namespace L2
open PySem PySem.Spec PyProof.Rows
section
variable {K:PySem.W.Frag} {cap:List (Option Nat)} {te:TE} {σ:St} {H1:Hp} {Q:VK}
end
section
variable {X:Cx} {pos:Pos}
end
end L2
namespace L2
open PySem PySem.Spec PyProof.Rows
theorem cellsFrom_look:∀ (names:List (Str × NameKind)) (h:Heap) (acc:List (Str × Addr)) (x:Str) (c:Addr),(cellsFrom h.objs.size names acc).lookup x=some c ->
    acc.lookup x=some c\/((x,NameKind.cell) ∈ names/\h.objs.size<=c/\(pushCells h names).IsCell c none)
  | [],_,_,_,_,e=>.inl e
  | (name,kind) :: r,h,acc,x,c,e=>by
    unfold cellsFrom at e
    unfold pushCells
    by_cases hk:(kind == NameKind.cell)=true
    · rw [if_pos hk] at e ⊢
      have hk':kind=.cell:=by simpa using hk
      have ih:=cellsFrom_look r (h.push { cls:=.type "cell",data:=.cell none }) ((name,h.objs.size) :: acc) x c (by rw [Heap.size_push]; exact e)
      rw [Heap.size_push] at ih
      rcases ih with z | ⟨z1,z2,z3⟩
      · rw [List.lookup_cons] at z
        cases hb:x == name with
        | true=>
          rw [hb] at z; cases z
          exact .inr ⟨by rw [beq_iff_eq.mp hb,hk']; exact List.mem_cons_self,Nat.le_refl _,⟨_,pushCells_keeps _ _ _ _ (Heap.get?_push_size _ rfl),rfl⟩⟩
        | false=>rw [hb] at z; exact .inl z
      · exact .inr ⟨List.mem_cons_of_mem _ z1,by omega,z3⟩
    · rw [if_neg hk] at e ⊢
      rcases cellsFrom_look r h acc x c e with z | ⟨z1,z2,z3⟩
      · exact .inl z
      · exact .inr ⟨List.mem_cons_of_mem _ z1,z2,z3⟩
theorem cellsFrom_old {x:Str}:∀ (names:List (Str × NameKind)) (n:Nat) (acc:List (Str × Addr)),(x,NameKind.cell) ∉ names->(cellsFrom n names acc).lookup x=acc.lookup x
  | [],_,_,_=>rfl
  | (name,kind) :: r,n,acc,h=>by
    unfold cellsFrom
    have hr:(x,NameKind.cell) ∉ r:=fun z=>h (List.mem_cons_of_mem _ z)
    by_cases hk:(kind == NameKind.cell)=true
    · rw [if_pos hk,cellsFrom_old r _ _ hr,List.lookup_cons]
      cases hb:x == name with
      | true=>exact absurd (by rw [beq_iff_eq.mp hb,show kind=.cell by simpa using hk]; exact List.mem_cons_self) h
      | false=>rfl
    · rw [if_neg hk,cellsFrom_old r _ _ hr]
theorem cellsFrom_new {x:Str} {c:Addr}:∀ (names:List (Str × NameKind)) (n:Nat) (acc:List (Str × Addr)),(x,NameKind.cell) ∈ names->(cellsFrom n names acc).lookup x=some c->n<=c
  | [],_,_,h,_=>by cases h
  | (name,kind) :: r,n,acc,h,e=>by
    unfold cellsFrom at e
    by_cases hr:(x,NameKind.cell) ∈ r
    · by_cases hk:(kind == NameKind.cell)=true
      · rw [if_pos hk] at e
        exact Nat.le_of_succ_le (cellsFrom_new r _ _ hr e)
      · rw [if_neg hk] at e
        exact cellsFrom_new r _ _ hr e
    · rcases List.mem_cons.mp h with q | q
      · cases q
        rw [if_pos (by decide),cellsFrom_old r _ _ hr,List.lookup_cons] at e
        simp at e
        exact Nat.le_of_eq e
      · exact absurd q hr
theorem cellsFrom_inj:∀ (names:List (Str × NameKind)) (n:Nat) (acc:List (Str × Addr)),(∀ x c,acc.lookup x=some c->c < n)->(∀ x y c,acc.lookup x=some c->acc.lookup y=some c->x=y) ->
    ∀ x y c,(cellsFrom n names acc).lookup x=some c->(cellsFrom n names acc).lookup y=some c->x=y
  | [],_,_,_,h=>h
  | (name,kind) :: r,n,acc,h1,h2=>by
    unfold cellsFrom
    by_cases hk:(kind == NameKind.cell)=true
    · rw [if_pos hk]
      refine cellsFrom_inj r (n + 1) _ (fun x c e=>?_) (fun x y c e e'=>?_)
      · rw [List.lookup_cons] at e
        cases hb:x == name with
        | true=>rw [hb] at e; cases e; exact Nat.lt_succ_self _
        | false=>rw [hb] at e; exact Nat.lt_succ_of_lt (h1 x c e)
      · rw [List.lookup_cons] at e e'
        cases hb:x == name with
        | true=>
          rw [hb] at e; cases e
          cases hb':y == name with
          | true=>rw [beq_iff_eq.mp hb,beq_iff_eq.mp hb']
          | false=>rw [hb'] at e'; exact absurd (h1 y _ e') (Nat.lt_irrefl _)
        | false=>
          rw [hb] at e
          cases hb':y == name with
          | true=>rw [hb'] at e'; cases e'; exact absurd (h1 x _ e) (Nat.lt_irrefl _)
          | false=>rw [hb'] at e'; exact h2 x y c e e'
    · rw [if_neg hk]
      exact cellsFrom_inj r n acc h1 h2
theorem wpAny_newEnvC {M:Model} {A:Around} {E:Value->Shared->Prop} {s:Shared} {scope:Scope} {globals:Addr} {cl:List (Str × Addr)} {qual:Str} {func:Option Addr} {code:Value} {env:Env} {builtins:Addr} {Q:Env->Shared->Prop}
    (hQ:Q (newEnv scope s.heap.objs.size globals (cellsFrom (s.heap.objs.size + 1) scope.names cl) qual func code (some env) builtins) { s with heap:=pushCells (s.heap.push { cls:=.type "dict",data:=.dict #[] }) scope.names }) :
    wpAny M A (newFunctionEnv scope globals cl [] qual func code (some env) builtins) Q E s:=by
  simp only [newFunctionEnv,Option.isSome_some,if_true]
  refine wpAny_bind (wpAny_alloc ?_)
  refine wpAny_bind (wpAny_layCells _ (fun name kind cells=>by cases hkc:kind == NameKind.cell <;> simp [hkc]) _ _ _ _ ?_)
  rw [show ({ s with heap:=s.heap.push { cls:=.type "dict",data:=.dict #[] } }:Shared).heap.objs.size=s.heap.objs.size + 1 from Heap.size_push ..]
  refine wpAny_bind ?_
  rw [List.forIn_nil]
  exact wpAny_pure (wpAny_pure hQ)
def compOkC (N N':List Str) (sc scE:Scope) (cap:List (Option Nat)):Bool:=
  sc.kind == .function && sc.names.all (fun x=>x.2 != .cell || sc.names.lookup x.1 == some .cell) && sc.names.all (fun x=>x.2 != .local || sc.names.lookup x.1 == some .local) &&
  sc.names.all (fun x=>x.2 != .free || scE.names.lookup x.1 == some .cell || scE.names.lookup x.1 == some .free) && cap.length == N'.length &&
  (List.range cap.length).all (fun i=>match cap[i]? with
    | some (some j)=>(match N'[i]?,N[j]? with | some a,some b=>a == b && sc.names.lookup a == some .free | _,_=>false)
    | _=>true)
structure CompOkC (N N':List Str) (sc scE:Scope) (cap:List (Option Nat)):Prop where
  kind:sc.kind=.function
  cel:∀ x ∈ sc.names,x.2=.cell->sc.names.lookup x.1=some .cell
  loc:∀ x ∈ sc.names,x.2=.local->sc.names.lookup x.1=some .local
  fre:∀ x ∈ sc.names,x.2=.free->scE.names.lookup x.1=some .cell\/scE.names.lookup x.1=some .free
  len:cap.length=N'.length
  at_:∀ (i j:Nat),cap[i]?=some (some j)->∃ x,N'[i]?=some x/\N[j]?=some x/\sc.names.lookup x=some .free
theorem compOkC.of {N N':List Str} {sc scE:Scope} {cap:List (Option Nat)} (h:compOkC N N' sc scE cap=true):CompOkC N N' sc scE cap:=by
  unfold compOkC at h
  simp only [Bool.and_eq_true,List.all_eq_true,beq_iff_eq,Bool.or_eq_true,bne_iff_ne] at h
  obtain ⟨⟨⟨⟨⟨h1,h2⟩,h3⟩,h4⟩,h5⟩,h6⟩:=h
  refine ⟨h1,fun x hx e=>?_,fun x hx e=>?_,fun x hx e=>?_,h5,fun i j e=>?_⟩
  · rcases h2 x hx with z | z
    · exact absurd e z
    · exact z
  · rcases h3 x hx with z | z
    · exact absurd e z
    · exact z
  · rcases h4 x hx with (z | z) | z
    · exact absurd e z
    · exact .inl z
    · exact .inr z
  · have hi:i < cap.length:=(List.getElem?_eq_some_iff.mp e).1
    have:=h6 i (List.mem_range.mpr hi)
    rw [e] at this
    simp only at this
    cases e1:N'[i]? with
    | none=>rw [e1] at this; cases this
    | some a=>
      cases e2:N[j]? with
      | none=>rw [e1,e2] at this; cases this
      | some b=>
        rw [e1,e2] at this
        simp only [Bool.and_eq_true,beq_iff_eq] at this
        obtain ⟨rfl,z⟩:=this
        exact ⟨a,rfl,rfl,z⟩
def blkC (X:Cx) (N':List Str) (sc:Scope) (cl:List (Str × Addr)) (C:Addr) (s0:Shared) (H0:Hp) (ex:List Addr):Cx:=
  { X with N:=N',s₀:=s0,H₀:=H0,env:=compEnvC sc cl C X.env,outer:=X.stack,ex:=ex,fn:=fun x=>sc.names.lookup x == some .cell,pn:=[],xe:=fun _ _=>False }
section
variable {X:Cx}
theorem blk_invC {pins:List (Addr × Obj)} {σ:St} {H:Hp} {s:Shared} {N N':List Str} {sc scE:Scope} {cap:List (Option Nat)} {cl:List (Str × Addr)} {fp:List Addr}
    (I:Inv X pins σ H s) (hN:X.N=N) (hE:X.env.scope=scE) (ck:CompOkC N N' sc scE cap) (c1:∀ x c,cl.lookup x=some c->X.env.cells.lookup x=some c) (c2:∀ x ∈ sc.names,x.2=.free->∃ c,cl.lookup x.1=some c)
    (hf:∀ b ∈ fp,FpOk X pins H b) (hfs:∀ b ∈ fp,b < s.heap.objs.size) :
    Inv (blkC X N' sc (cellsFrom (s.heap.objs.size + 1) sc.names cl) s.heap.objs.size s H fp) [] (capOf cap σ) H { s with heap:=pushCells (s.heap.push { cls:=.type "dict",data:=.dict #[] }) sc.names }:=by
  obtain ⟨h₁,hh₁⟩:∃ h₁,pushCells (s.heap.push { cls:=.type "dict",data:=.dict #[] }) sc.names=h₁:=⟨_,rfl⟩
  obtain ⟨cl',hcl'⟩:∃ cl',cellsFrom (s.heap.objs.size + 1) sc.names cl=cl':=⟨_,rfl⟩
  rw [hh₁,hcl']
  have keep:∀ b o,s.heap.get? b=some o->h₁.get? b=some o:=fun b o e=>by rw [<- hh₁]; exact pushCells_keeps _ _ b o (Heap.get?_push_of_some _ e)
  have hns:h₁.Ns s.heap.objs.size (fun _=>none):=by rw [<- hh₁]; exact (Heap.Ns.new s.heap (.type "dict")).keeps (pushCells_keeps _ _)
  have look:∀ x c,cl'.lookup x=some c->cl.lookup x=some c\/(s.heap.objs.size + 1<=c/\h₁.IsCell c none):=fun x c e=>by
    rw [<- hcl'] at e
    have:=cellsFrom_look (sc.names) (s.heap.push { cls:=.type "dict",data:=.dict #[] }) cl x c (by rw [Heap.size_push]; exact e)
    rw [Heap.size_push,hh₁] at this
    rcases this with z | ⟨_,z,z'⟩
    · exact .inl z
    · exact .inr ⟨z,z'⟩
  have cellLt:∀ x c,cl.lookup x=some c->c < s.heap.objs.size:=fun x c e=>by
    obtain ⟨v,o,ho,_⟩:=I.cell x c (c1 x c e)
    exact Heap.lt_size ho
  have inj:∀ x y c,cl'.lookup x=some c->cl'.lookup y=some c->x=y:=by
    rw [<- hcl']
    exact cellsFrom_inj _ _ _ (fun x c e=>Nat.lt_succ_of_lt (cellLt x c e)) fun x y c a b=>I.ok.inj x y c (c1 x c a) (c1 y c b)
  have isC:∀ x,sc.names.lookup x=some .cell->∃ c,cl'.lookup x=some c:=fun x e=>by
    rw [<- hcl']
    exact Option.isSome_iff_exists.mp (PySem.W.cellsFrom_some _ _ _ (.inl e))
  have isF:∀ x,sc.names.lookup x=some .free->cl'.lookup x=cl.lookup x:=fun x e=>by
    rw [<- hcl']
    refine cellsFrom_old _ _ _ fun z=>?_
    have:=ck.cel _ z rfl
    rw [e] at this; cases this
  have kindOf:∀ x k,(compEnvC sc cl' s.heap.objs.size X.env).kindOf x=some k->k=.cell\/k=.free->sc.names.lookup x=some .free\/sc.names.lookup x=some .cell:=fun x k e hk=>by
    have e':(relabel sc X.env).names.lookup x=some k:=e
    rw [relabel_lookup] at e'
    cases q:sc.names.lookup x with
    | none=>rw [q] at e'; cases e'
    | some k'=>
      rw [q] at e'
      have e'':(if (k' == NameKind.free && X.env.scope.kind == .function && X.env.kindOf x == some .cell)=true then NameKind.cell else k')=k:=Option.some.inj e'
      by_cases hc:(k' == NameKind.free && X.env.scope.kind == .function && X.env.kindOf x == some .cell)=true
      · simp only [Bool.and_eq_true,beq_iff_eq] at hc
        rw [hc.1.1]; exact .inl rfl
      · rw [if_neg hc] at e''
        subst e''
        rcases hk with z | z
        · rw [z]; exact .inr rfl
        · rw [z]; exact .inl rfl
  have cellAt:∀ x c,X.env.cells.lookup x=some c->∀ v,s.heap.IsCell c v->h₁.IsCell c v:=fun x c e v ⟨o,ho,hd⟩=>⟨o,keep c o ho,hd⟩
  have Hnew:∀ c,s.heap.objs.size<=c->H c=none:=fun c hc=>I.hok.fresh hc
  refine ⟨⟨I.ok.mod,ck.kind,I.ok.glob,I.ok.blt,Nat.le_refl _,inj,fun x hx=>?_,fun x c h1 h2=>?_,I.ok.hd,I.ok.frames,.inl rfl,fun b hb=>?_,I.bs,
    Nat.le_trans I.ok.bsz I.sz,fun b o e hb=>?_,fun b hb hz=>?_,I.stack,I.stkFree⟩,rfl,I.bare,Un.kept keep,⟨_,hns,fun i x v e1 e2 e3=>?_⟩,fun x c e=>?_,Hnew _ (Nat.le_refl _),fun x c e=>?_,fun p hp=>(by cases hp),I.hok.kept keep,?_⟩
  · have hx:(compEnvC sc cl' s.heap.objs.size X.env).kindOf x=some .cell\/(compEnvC sc cl' s.heap.objs.size X.env).kindOf x=some .free:=hx
    have q:sc.names.lookup x=some .free\/sc.names.lookup x=some .cell:=by
      rcases hx with z | z
      · exact kindOf x _ z (.inl rfl)
      · exact kindOf x _ z (.inr rfl)
    rcases q with q | q
    · obtain ⟨c,hc⟩:=c2 _ (PySem.mem_of_lookup q) rfl
      exact ⟨c,(isF x q).trans hc⟩
    · exact isC x q
  · have h1:sc.names.lookup x=some .cell:=by simpa [blkC] using h1
    have h2:cl'.lookup x=some c:=h2
    rw [<- hcl'] at h2
    exact Nat.le_trans (Nat.le_succ _) (cellsFrom_new _ _ _ (PySem.mem_of_lookup h1) h2)
  · refine ⟨Nat.ne_of_lt (hfs b hb),fun x c e=>?_⟩
    rcases look x c e with z | ⟨z,_⟩
    · exact (hf b hb).2.2.2.2.1 x c (c1 x c z)
    · exact fun q=>absurd (Nat.lt_of_lt_of_le (hfs b hb) (Nat.le_trans (Nat.le_succ _) (q ▸ z))) (Nat.lt_irrefl _)
  · rcases (hf b hb).2.2.2.1 with z | z
    · exact I.ok.noex b o e z
    · exact absurd (Nat.lt_of_lt_of_le (Heap.lt_size e) (Nat.le_trans I.ok.bsz z)) (Nat.lt_irrefl _)
  · rcases List.mem_cons.mp (I.stkSub b hz) with e | z
    · exact (hf b hb).2.1 e
    · exact (hf b hb).2.2.1 z
  · have e1:N'[i]?=some x:=e1
    have e2:(capOf cap σ)[i]?=some (some v):=e2
    unfold capOf at e2
    rw [List.getElem?_map] at e2
    cases q:cap[i]? with
    | none=>rw [q] at e2; cases e2
    | some oj=>
      rw [q] at e2
      cases oj with
      | none=>cases e2
      | some j=>
        obtain ⟨y,z1,z2,z3⟩:=ck.at_ i j q
        rw [e1] at z1; cases z1
        have ev:σ[j]?=some (some v):=by
          have e2':(σ[j]?).join=some v:=Option.some.inj e2
          cases r:σ[j]? with
          | none=>rw [r] at e2'; cases e2'
          | some o=>rw [r] at e2'; exact congrArg some e2'
        obtain ⟨m',hm',hl⟩:=I.loc
        have sK:X.env.scope.names.lookup x=some .cell\/X.env.scope.names.lookup x=some .free:=by rw [hE]; exact ck.fre _ (PySem.mem_of_lookup z3) rfl
        obtain ⟨u,ru,l⟩:=hl j x v (by rw [hN]; exact z2) ev (sK.elim (fun z=>.inr (.inl z)) fun z=>.inr (.inr z))
        refine ⟨u,ru,?_⟩
        obtain ⟨c,hc⟩:=c2 _ (PySem.mem_of_lookup z3) rfl
        rcases l with ⟨k,_⟩ | ⟨k,c',hc',hcell⟩
        · have k:X.env.scope.names.lookup x=some .local:=k
          rcases sK with z | z <;> (rw [k] at z; cases z)
        · have:c=c':=by
            have q1:=c1 x c hc
            rw [hc'] at q1
            exact (Option.some.inj q1).symm
          subst this
          refine .inr ⟨?_,c,(isF x z3).trans hc,cellAt x c hc' _ hcell⟩
          show (relabel sc X.env).names.lookup x=some .cell\/(relabel sc X.env).names.lookup x=some .free
          rw [relabel_lookup,z3]
          show some (if _ then NameKind.cell else NameKind.free)=_\/some (if _ then NameKind.cell else NameKind.free)=_
          split
          · exact .inl rfl
          · exact .inr rfl
  · rcases look x c e with z | ⟨_,z⟩
    · obtain ⟨v,q⟩:=I.cell x c (c1 x c z)
      exact ⟨v,cellAt x c (c1 x c z) v q⟩
    · exact ⟨_,z⟩
  · rcases look x c e with z | ⟨z,_⟩
    · exact I.freeC x c (c1 x c z)
    · exact Hnew c (by omega)
  · unfold capOf
    show _=N'.length
    rw [List.length_map]
    exact ck.len
end
end L2
namespace L2
open PySem PySem.Spec PyProof.Rows
section
variable {X:Cx}
end
end L2
namespace PySem
open Sem (wp)
section
variable {prog:Program} {w:World} {A:Around} {E:Value->Shared->Prop} {hp:Heap} {gs:Array GenState} {dr:Drawn} {tk:Nat} {sy:OsState}
variable {cn cq:Str} {kC kN:Addr} {bas tl tB:List Value} {hd:Bool} {sns:List Str} {subs:List Value} {abb:Bool} {coll:Option Bool} {dic:Option Addr} {j0 j1 j2 j3 j5:Option Value} {BB Bn newI nI initI inN:String} {tN:List Value}
end
section
variable {M:Model} {A:Around} {E:Value->Shared->Prop} {env:Env}
variable {cn cq:Str} {kC kN:Addr} {bas tl:List Value} {hd:Bool} {sns:List Str} {subs:List Value} {abb:Bool} {coll:Option Bool} {dic:Option Addr} {j0 j1 j2 j3 j5:Option Value} {newI:String}
end
end PySem
namespace L2
open PySem PySem.Spec PyProof.Rows PySem.W PySem.Builtin.ObjectAttr
section
variable {prog:Program} {w:World} {A:Around} {E:Value->Shared->Prop} {s:Shared} {K:Frag} {x C W:Addr} {name:Str} {v:Value}
end
end L2
namespace L2
open PySem PySem.Spec PyProof.Rows PySem.W
section
variable {prog:Program} {w:World} {A:Around} {E:Value->Shared->Prop} {s:Shared} {K:Frag} {x C W f:Addr}
end
section
variable {X:Cx} {x C W f:Addr}
end
end L2
namespace PySem
open Sem (wp)
def fld2 (o:Obj):Option Value:=match o.data with | .fields vs=>vs[2]? | _=>none
theorem fld2_map {o:Obj} {vs:Array Value} {x:Value} (od:o.data=.fields vs):fld2 (Obj.mapFields (·.setIfInBounds 1 x) o)=fld2 o:=by
  have d:=Obj.data_mapFields od (·.setIfInBounds 1 x)
  unfold fld2
  rw [d,od]
  exact Array.getElem?_setIfInBounds_ne (by decide)
section
variable {M:Model} {A:Around} {E:Value->Shared->Prop} {s:Shared} {bs:Heap} {en:Env} {ou:List Env} {L e:Addr} {ob:Obj} {vs:Array Value} {a0:Value} {Q:Unit->Shared->Prop}
theorem entry_dict {head:Value} {nx:Bool} (fr:A.frames=some (en :: ou)) (ff:s.heap.FunFrames bs (en :: ou)) (ef:en.frame=some L) (oe:s.heap.get? e=some ob) (kb:bs.StaysIn s.heap) (ne:bs.get? e=none)
    (od:ob.data=.fields vs) (z1:1 < vs.size) (z0:vs[0]?=some a0)
    (h:∀ h',Heap.LeftW bs (en :: ou) e ob.cls a0 s.heap h'->(∃ o',h'.get? e=some o'/\o'.dict=ob.dict/\fld2 o'=fld2 ob)->Q () { s with heap:=h' }) :
    wpAny M A (do
      let a <- frameOf en
      let pl <- entryPlaceOf L nx
      let b <- EntryCells.newEntry head a .none (rawInt L) .none pl
      setField (.ref e) 1 b) (fun _ s'=>wpAny M A (setFlight (.ref e) none) Q E s') E s:=by
  have nf:e ∉ (en :: ou).filterMap (·.frame):=fun m=>by
    obtain ⟨_,o,q,n⟩:=ff.mem m
    rw [oe] at q
    cases q
    exact n vs od
  refine wpAny_bind (wpAny_frameOf_fun fr ff ef fun g gs=>?_)
  refine wpAny_bind (wpAny_entryPlaceOf fun pl hp=>?_)
  unfold EntryCells.newEntry newFields
  refine wpAny_bind (wpAny_newObj_type ?_ (hp.sizeOk5 _ _ _ _ _))
  have ge:g.get? e=some ob:=(gs.2.1 e nf).trans oe
  have gb:bs.StaysIn g:=fun b o q=>(gs.2.1 b fun m=>by
    rw [(ff.mem m).1] at q
    cases q).trans (kb b o q)
  obtain ⟨tb,etb⟩:∃ tb:List Value,[head,.ref L,.none,rawInt L,.none] ++ (if pl.isEmpty then List.replicate 6 Value.none else pl)=tb:=⟨_,rfl⟩
  have l5:3 < tb.length/\tb[3]?=some (rawInt L):=by
    rw [<- etb]
    exact ⟨by simp,by simp⟩
  rw [etb]
  have ge2:=Heap.get?_push_of_some (h:=g) { cls:=.type "traceback",dict:=none,data:=.fields tb.toArray } ge
  refine wpAny_setField ge2 od z1 ?_
  have te:g.objs.size ≠ e:=Nat.ne_of_gt (Heap.lt_size ge)
  have d3:=Obj.data_mapFields od (·.setIfInBounds 1 (Value.ref g.objs.size))
  have ge3:=Heap.get?_update_self (Obj.mapFields (·.setIfInBounds 1 (Value.ref g.objs.size))) ge2 (Obj.isFreed_of_fields d3)
  have gt3:=(Heap.get?_update_other (g.push { cls:=.type "traceback",dict:=none,data:=.fields tb.toArray })
    (Obj.mapFields (·.setIfInBounds 1 (Value.ref g.objs.size))) te.symm).trans
    (Heap.get?_push_size g rfl)
  unfold setFlight
  refine wpAny_bind (wpAny_field ge3 d3 (x:=.ref g.objs.size) (by simp [z1]) ?_)
  rw [if_pos (show (Value.ref g.objs.size != Value.none)=true by simp)]
  refine wpAny_setField gt3 rfl (by simpa using l5.1) (h _ ?_ ?_)
  all_goals
    obtain ⟨g3,eg3⟩:∃ g3,((g.push { cls:=.type "traceback",dict:=none,data:=.fields tb.toArray }).update e (Obj.mapFields (·.setIfInBounds 1 (Value.ref g.objs.size))))=g3:=⟨_,rfl⟩
    rw [eg3] at ge3 gt3 ⊢
  · have kp:∀ b o,b ≠ e->g.get? b=some o->(g3.update g.objs.size (Obj.mapFields (·.setIfInBounds 3 ((none:Option Addr).elim Value.none fun f=>rawInt f)))).get? b=some o:=fun b o n q=>by
      rw [Heap.get?_update_other _ _ (Nat.ne_of_gt (Heap.lt_size q)),<- eg3,Heap.get?_update_other _ _ n.symm]
      exact Heap.get?_push_of_some _ q
    have nr:∀ b o,s.heap.get? b=some o->(∀ ws,o.data ≠ .fields ws)->b ≠ e:=fun b o q n z=>by
      rw [z,oe] at q
      cases q
      exact n vs od
    refine ⟨fun b o q=>kp b o (fun z=>by rw [z,ne] at q; cases q) (gb b o q),ff.of_keeps fun b o q n=>?_,?_,fun b o q n=>?_⟩
    · obtain ⟨sl,z⟩:=gs.2.2 b o q
      exact ⟨_,kp b _ (nr b o q n) z,rfl⟩
    · refine ⟨_,_,g.objs.size,_,_,?_,⟨Obj.cls_mapFields _ _,?_⟩,d3,by simp [z1],gb.fresh,te,Heap.get?_update_self _ gt3 (Obj.isFreed_of_fields (Obj.data_mapFields rfl _)),Obj.data_mapFields rfl _,?_⟩
      · rw [Heap.get?_update_other _ _ te]
        exact ge3
      · rw [Array.getElem?_setIfInBounds_ne (by decide)]
        exact z0
      · have:=l5.1
        simp [this]
    · obtain ⟨sl,z⟩:=gs.2.2 b o q
      exact ⟨sl,kp b _ (nr b o q n) z⟩
  · refine ⟨_,(Heap.get?_update_other _ _ te).trans ge3,?_,fld2_map od⟩
    cases ob with
    | mk c d dt sl=>cases dt <;> first | rfl | cases od
theorem leave1_dict (fr:A.frames=some (en :: ou)) (ff:s.heap.FunFrames bs (en :: ou)) (ef:en.frame=some L) (oe:s.heap.get? e=some ob) (kb:bs.StaysIn s.heap) (ne:bs.get? e=none)
    (od:ob.data=.fields vs) (z1:vs[1]?=some .none) (z0:vs[0]?=some a0)
    (h:∀ h',Heap.LeftW bs (en :: ou) e ob.cls a0 s.heap h'->(∃ o',h'.get? e=some o'/\o'.dict=ob.dict/\fld2 o'=fld2 ob)->Q () { s with heap:=h' }):wpAny M A (leaving en (.ref e)) Q E s:=by
  unfold leaving noteFrame
  simp only [ef]
  refine wpAny_bind (wpAny_bind (wpAny_field oe od z1 ?_))
  rw [if_neg (by decide)]
  exact entry_dict fr ff ef oe kb ne od (Array.getElem?_eq_some_iff.mp z1).1 z0 h
theorem leave2_dict {cls:Value} {dv:Option Addr} (fr:A.frames=some (en :: ou)) (ef:en.frame=some L) (fl:Heap.FlyingW bs (en :: ou) e cls a0 s.heap) (dd:∃ o',s.heap.get? e=some o'/\o'.dict=dv/\fld2 o'=some .none)
    (h:∀ h',Heap.FlyingW bs ou e cls a0 h'->(∃ o',h'.get? e=some o'/\o'.dict=dv/\fld2 o'=some .none)->s.heap.UpToSlots h'->Q () { s with heap:=h' }):wpAny M A (leaving en (.ref e)) Q E s:=by
  obtain ⟨kb,ne,ff,oe,ws,T,oT,ts,he,⟨hc,z0⟩,od,z1,nT,Te,hT,dT,z3⟩:=fl
  obtain ⟨o',ho',hdv,hfl⟩:=dd
  rw [he] at ho'
  cases ho'
  unfold leaving noteFrame
  simp only [ef]
  refine wpAny_bind (wpAny_bind (wpAny_field he od z1 ?_))
  rw [if_pos (show (Value.ref T != Value.none)=true by simp)]
  refine wpAny_bind (wpAny_field hT dT z3 ?_)
  rw [if_neg (show ¬ ((Value.none == rawInt L)=true) by simp [rawInt])]
  refine wpAny_bind (wpAny_setField hT dT (Array.getElem?_eq_some_iff.mp z3).1 ?_)
  have ot:∀ b,b ≠ T->(s.heap.update T (Obj.mapFields (·.setIfInBounds 3 Value.none))).get? b=s.heap.get? b:=fun b n=>Heap.get?_update_other _ _ n.symm
  have nr:∀ b o,s.heap.get? b=some o->(∀ ws,o.data ≠ .fields ws)->b ≠ T:=fun b o q n z=>by
    rw [z,hT] at q
    cases q
    exact n ts dT
  refine entry_dict fr (ff.of_keeps fun b o q n=>⟨o,(ot b (nr b o q n)).trans q,rfl⟩) ef ((ot e Te.symm).trans he) (fun b o q=>(ot b fun z=>by rw [z,nT] at q; cases q).trans (kb b o q)) ne od (Array.getElem?_eq_some_iff.mp z1).1 z0 fun h' lf d'=>?_
  obtain ⟨k1,⟨_,_,k2⟩,k3,k4⟩:=lf
  rw [hc] at k3
  exact h h' ⟨k1,ne,k2,k3⟩ (d'.imp fun o q=>⟨q.1,q.2.1.trans hdv,q.2.2.trans hfl⟩) fun b o q n=>k4 b o ((ot b (nr b o q n)).trans q) n
end
end PySem
namespace L2
open PySem PySem.Spec PyProof.Rows
def CXD (P:Program) (w:World):CXT:=fun outer H s E e s'=>∃ a cls a0 dv H' B,e=Value.ref a/\Fly P w outer H H' s s' a cls a0 B/\(∃ o',s'.heap.get? a=some o'/\o'.dict=dv/\fld2 o'=some .none)/\E cls dv H'
theorem pass00D {P:Program} {w:World} {X:Cx}:Passes (CXD P w) X E0:=fun _ _ _ _ _ _ _ h=>by
  obtain ⟨_,_,_,_,_,_,_,_,_,z⟩:=h
  exact z.elim
section
variable {P:Program} {w:World} {K:PySem.W.Frag} {mg:Str->Option Value} {base:Heap} {N:List Str} {qual:Str} {scope:Scope} {f:Addr} {cd:Value} {A:Around} {outer:List Env} {s:Shared} {H:Hp} {E:XK}
abbrev cxD (P:Program) (w:World) (K:PySem.W.Frag) (mg:Str->Option Value) (base:Heap) (N:List Str) (qual:Str) (scope:Scope) (f:Addr) (cd:Value) (A:Around) (outer:List Env) (s:Shared) (H:Hp) (E:XK):Cx:=cxOf (CXD P w) P w K mg base N qual scope f cd A outer s H E
theorem stk_neD {pins:List (Addr × Obj)} {σ:St} {H1:Hp} {s1:Shared} (I:Inv (cxD P w K mg base N qual scope f cd A outer s H E) pins σ H1 s1) {b:Addr} {o:Obj} (e:s.heap.get? b=some o) (n:b ∉ frs outer):b ∉ frs (cxD P w K mg base N qual scope f cd A outer s H E).stack:=fun hb=>by
  rcases List.mem_cons.mp (I.stkSub b hb) with z | z
  · have h1:b < s.heap.objs.size:=Heap.lt_size e
    have h2:s.heap.objs.size<=(cxD P w K mg base N qual scope f cd A outer s H E).env.locals:=I.ok.above
    rw [<- z] at h2
    exact absurd (Nat.lt_of_lt_of_le h1 h2) (Nat.lt_irrefl _)
  · exact n z
theorem frs_subD {b:Addr} (h:b ∈ frs outer):b ∈ frs (cxD P w K mg base N qual scope f cd A outer s H E).stack:=by
  show b ∈ frs (_ :: outer)
  unfold frs at h ⊢
  rw [List.filterMap_cons]
  split
  · exact h
  · exact List.mem_cons_of_mem _ h
theorem raiseD {pins:List (Addr × Obj)} {σ:St} {H1:Hp} {s1:Shared} {hx:Heap} {e C t:Addr} {dv:Option Addr} (I:Inv (cxD P w K mg base N qual scope f cd A outer s H E) pins σ H1 s1)
    (hk:∀ b o,b ≠ e->s1.heap.get? b=some o->hx.get? b=some o) (he1:∀ o,s1.heap.get? e=some o->∃ vs,o.data=.fields vs) (new:s.heap.get? e=none) (hH:H1 e=none)
    (oe:hx.get? e=some { cls:=.ref C,dict:=dv,data:=.fields #[.ref t,.none,.none,.none,.bool false,.none] }) (hE:E (.ref C) dv H1) :
    (cxD P w K mg base N qual scope f cd A outer s H E).xe (.ref e) { s1 with heap:=hx }:=by
  have hin:∀ en ∈ (cxD P w K mg base N qual scope f cd A outer s H E).stack,∀ b,en.frame=some b->b ∈ e :: frs (cxD P w K mg base N qual scope f cd A outer s H E).stack:=fun en he b hb=>List.mem_cons_of_mem _ (List.mem_filterMap.mpr ⟨en,he,hb⟩)
  have ff:=PySem.W.funFrames_hide I.stack hin
  have nee:∀ b o,s1.heap.get? b=some o->(∀ vs,o.data ≠ .fields vs)->b ≠ e:=fun b o q n z=>by
    subst z
    obtain ⟨vs,d⟩:=he1 o q
    exact n vs d
  have hid:(PySem.W.hideAll s1.heap (e :: frs (cxD P w K mg base N qual scope f cd A outer s H E).stack)).get? e=none:=PySem.W.hideAll_none _ List.mem_cons_self
  have kb:(PySem.W.hideAll s1.heap (e :: frs (cxD P w K mg base N qual scope f cd A outer s H E).stack)).StaysIn hx:=fun b o q=>hk b o (fun z=>by rw [z,hid] at q; cases q) (PySem.W.of_hideAll _ q)
  show wpAny (model P w) _ (leaving _ (.ref e)) _ _ _
  refine leave1_dict (bs:=PySem.W.hideAll s1.heap (e :: frs (cxD P w K mg base N qual scope f cd A outer s H E).stack)) (a0:=.ref t) (s:={ s1 with heap:=hx }) I.ok.frames (ff.of_keeps fun b o q n=>⟨o,hk b o (nee b o q n) q,rfl⟩) rfl oe kb hid rfl rfl rfl fun h2 lf dd=>?_
  obtain ⟨k1,⟨_,_,k2⟩,k3,k4⟩:=lf
  have noex:∀ b:Addr,b ∉ (cxD P w K mg base N qual scope f cd A outer s H E).ex:=fun b z=>absurd (show b ∈ ([]:List Addr) from z) (by simp)
  have nse:∀ b o,s.heap.get? b=some o->b ≠ e:=fun b o q z=>by rw [z,new] at q; cases q
  have out:∀ b o,s.heap.get? b=some o->b ∉ frs outer->b ∉ e :: frs (cxD P w K mg base N qual scope f cd A outer s H E).stack:=fun b o q n m=>by
    rcases List.mem_cons.mp m with z | z
    · exact nse b o q z
    · exact stk_neD I q n z
  refine ⟨e,.ref C,.ref t,dv,H1,_,rfl,⟨I.os,I.bare,⟨k1,hid,k2,k3⟩,fun b u q=>?_,fun b o q n hb=>?_,fun b o q hb=>?_,fun b o q hb=>?_,fun b o q n=>I.base.free b o q n (noex b),I.base.tups,I.base.frzs,I.base.tbls⟩,dd,hE⟩
  · have ne:∀ c v,H1 c=some v->c ∉ e :: frs (cxD P w K mg base N qual scope f cd A outer s H E).stack:=fun c v z m=>by
      rcases List.mem_cons.mp m with m | m
      · rw [m,hH] at z; cases z
      · rw [I.stkFree c m] at z; cases z
    refine (I.hok b u q).stay (fun c v hc r=>PySem.W.hideAll_get _ r ?_) (fun _ r=>r) fun _ _ r=>r
    rcases hc with rfl | hc
    · exact ne c u q
    · exact ne c _ hc
  · exact PySem.W.hideAll_get _ (I.base.keep b o q n hb (noex b)) (out b o q hb)
  · obtain ⟨o',z⟩:=I.base.there b o q (noex b)
    exact ⟨o',PySem.W.hideAll_get _ z (out b o q hb)⟩
  · obtain ⟨sl,z⟩:=I.base.slot b o q (I.ok.frf b hb) hb (noex b)
    obtain ⟨_,o',ho',hnf⟩:=I.ok.funs.mem hb
    have ho2:s.heap.get? b=some o':=ho'
    rw [q] at ho2
    cases ho2
    obtain ⟨sl',z'⟩:=k4 b _ (hk b _ (nse b o q) z) hnf
    exact ⟨sl',z'⟩
theorem pass_onD:Passes (CXD P w) (cxD P w K mg base N qual scope f cd A outer s H E) E:=by
  intro pins σ H1 s1 e s' I h
  obtain ⟨a,cls,a0,dv,H',B,rfl,F,dd,hE⟩:=h
  show wpAny (model P w) _ (leaving _ (.ref a)) _ _ _
  have noex:∀ b:Addr,b ∉ (cxD P w K mg base N qual scope f cd A outer s H E).ex:=fun b z=>absurd (show b ∈ ([]:List Addr) from z) (by simp)
  refine leave2_dict I.ok.frames rfl F.fl dd fun h2 x1 d2 x2=>?_
  refine ⟨a,cls,a0,dv,H',B,rfl,⟨F.os.trans I.os,F.bare,x1,F.hokB,fun b o q n hb=>?_,fun b o q hb=>?_,fun b o q hb=>?_,fun b o q n=>?_,fun b xs q=>F.tups b xs (I.base.tups b xs q),fun b o u q=>F.frzs b o u (I.base.frzs b o u q),fun b ps q=>?_⟩,d2,hE⟩
  · exact F.keep b o (I.base.keep b o q n hb (noex b)) (I.base.free b o q n (noex b)) (stk_neD I q hb)
  · obtain ⟨o',z⟩:=I.base.there b o q (noex b)
    exact F.there b o' z (stk_neD I q hb)
  · obtain ⟨sl,z⟩:=I.base.slot b o q (I.ok.frf b hb) hb (noex b)
    obtain ⟨_,o',ho',hnf⟩:=I.ok.funs.mem hb
    have ho2:s.heap.get? b=some o':=ho'
    rw [q] at ho2
    cases ho2
    obtain ⟨sl',z'⟩:=F.slot b _ z (frs_subD hb)
    obtain ⟨sl2,z2⟩:=x2 b _ z' hnf
    exact ⟨sl2,z2⟩
  · obtain ⟨o',z⟩:=I.base.there b o q (noex b)
    exact F.free b o' z (I.base.free b o q n (noex b))
  · obtain ⟨m1,e1⟩:=I.base.tbls b ps q
    obtain ⟨m2,e2⟩:=F.tbls b _ e1
    exact ⟨m1 ++ m2,by rw [e2,Array.append_assoc]⟩
end
section
variable {X:Cx}
def RaiseD (X:Cx) (E:XK):Prop:=∀ (pins:List (Addr × Obj)) (σ:St) (H0 H1:Hp) (s0 s1:Shared) (hx:Heap) (e C t:Addr) (dv:Option Addr),Inv X pins σ H0 s0->s0.heap.get? e=none->Inv X pins σ H1 s1->(∀ b o,b ≠ e->s1.heap.get? b=some o->hx.get? b=some o) ->
  (∀ o,s1.heap.get? e=some o->∃ vs,o.data=.fields vs)->H1 e=none->hx.get? e=some { cls:=.ref C,dict:=dv,data:=.fields #[.ref t,.none,.none,.none,.bool false,.none] }->E (.ref C) dv H1->X.xe (.ref e) { s1 with heap:=hx }
theorem ps_raiseD {x:Str} {C:Addr} {e:Expr} {t:TA} {E:XK} {np cpos pos:Pos} (hcalm:X.calm=true) (RO:RaiseD X E) (hg:Gl X x) (hm:X.mg x=some (.ref C)) (q:PySem.W.excIn X.K C bmVE "ValueError.__new__" = true) (ha:PA X [e] t)
    (hdb:(x == ("__debug__" : Str))=false:=by decide) (he:starEach [e] X.env=[(false,eval e X.env)]:=by rfl):PS X (.Raise (some (.Call (.Name x np) [e] [] cpos)) none pos) (tRaise C E t):=by
  intro pins s σ H D I h
  obtain ⟨tl,N,nm,qn,bs,hdct,sn,sub,ab,col,dd,k0,k1,k2,k3,k5,mN,hC,hN,hni,T⟩:=(own_obj I.mod.kin hm q).obj
  refine wpAny_Raise_call_subU (C:=C) (nm:=nm) (q:=qn) (N:=N) (bs:=bs) (bm:=tl) (hdct:=hdct) (sn:=sn) (sub:=sub) (ab:=ab) (col:=col) (dd:=dd) (k0:=k0) (k1:=k1) (k2:=k2) (k3:=k3) (k5:=k5)
    PySem.F.excBase_ValueError (by decide +kernel) PySem.F.excBase_ValueError (mN:=mN) (T.hasType (by decide +kernel)) (I.ok.hd hcalm) (by rw [he]; rfl) hni (ld_glob I hg hm ⟨rfl,?_⟩ hdb)
  have ha':=ha cpos pins s σ H _ I h
  rw [he] at ha' ⊢
  refine Calls.evalArgs_plain (wpAny_mono ha' (fun us s1 ⟨vs,H1,I1,r,z,hE⟩=>?_) fun _ _ y=>y)
  refine ⟨rfl,by rw [<- r.length]; exact z,I1.bk _ _ hC,hN.keeps I1.bk,T.keeps I1.bk,fun h' e' hx=>?_⟩
  obtain ⟨t,oe,_,_⟩:=hx.there
  exact RO pins σ H1 H1 s1 s1 h' e' C t none I1 hx.new I1 (fun b o _ k=>hx.keeps b o k) (fun o k=>by rw [hx.new] at k; cases k) (I1.hok.none_of hx.new) oe hE
end
theorem raiseDok {P:Program} {w:World} {K:PySem.W.Frag} {mg:Str->Option Value} {base:Heap} {N:List Str} {qual:Str} {scope:Scope} {f:Addr} {cd:Value} {A:Around} {outer:List Env} {s:Shared} {H:Hp} {E:XK} :
    RaiseD (cxD P w K mg base N qual scope f cd A outer s H E) E:=fun pins σ H0 H1 s0 s1 hx e C t dv I0 g0 I hk he1 hH oe hE=>by
  refine raiseD I hk he1 ?_ hH oe hE
  cases q:s.heap.get? e with
  | none=>rfl
  | some o=>
    obtain ⟨o',z⟩:=I0.base.there e o q (fun z=>absurd (show e ∈ ([]:List Addr) from z) (by simp))
    rw [g0] at z; cases z
theorem Fun.okD {P:Program} {w:World} {K:PySem.W.Frag} {mg:Str->Option Value} {base:Heap} {x qual:Str} {st:Stmt} {f:Addr} {fd:FuncData} {N ps:List Str} {k:Nat} {sp:Sp} (F:Fun K x qual st f fd) (S:FnScope N ps (defScope st)) (len:∀ vs H Q E,sp vs H Q E->vs.length=ps.length)
    (hbody:∀ (cdv:Value) (A:Around) (outer:List Env) (s:Shared) (H:Hp) (vs:List V) (Q:VK) (E:XK),Room k (A.deeper (envOfC qual (defScope st) s.heap.objs.size f cdv))->sp vs H Q E ->
      ∃ t,PSs (cxD P w K mg base N qual (defScope st) f cdv A outer s H E) (defBody st) t/\t { nx:=fun _ H'=>Q .non H',rt:=Q } (start N vs) H):FnOk P w K mg base (CXD P w) (k + 1) f fd ps sp:=by
  obtain ⟨oc,od,kV,doc,pm,an,cdv,ct,osl,rfl,lk,hcd⟩:=F.ex
  exact fn_of lk hcd S len fun A outer s H vs Q E hr hsp=>hbody cdv A outer s H vs Q E hr hsp
end L2
namespace L2
open PySem PySem.Spec PyProof.Rows PySem.W PySem.Builtin.Getset_descriptor
section
variable {prog:Program} {w:World} {A:Around} {E:Value->Shared->Prop} {h:Heap} {g:Array GenState} {d:Drawn} {t:Nat} {os:OsState} {K:Frag} {x C dx:Addr} {name:Str} {v:Value} {m:Str->Option Value}
end
section
variable {X:Cx}
end
section
variable {X:Cx} {pins:List (Addr × Obj)} {σ:St} {H H':Hp} {s s':Shared} {a C:Addr}
end
end L2
namespace L2
open PySem PySem.Spec PyProof.Rows
section
variable {X:Cx}
end
section
variable {X:Cx}
end
end L2
namespace L2
open PySem PySem.Spec PyProof.Rows PySem.W PySem.Builtin.Getset_descriptor
section
variable {X:Cx} {pins:List (Addr × Obj)} {σ:St} {H H':Hp} {s s':Shared} {a C:Addr}
end
end L2
namespace L2
open PySem PySem.Spec PyProof.Rows
section
variable {X:Cx}
end
end L2
namespace L2
open PySem PySem.Spec PyProof.Rows PySem.W PySem.Builtin.Getset_descriptor
section
variable {X:Cx} {pins:List (Addr × Obj)} {σ:St} {H H':Hp} {s s':Shared} {a C:Addr}
end
section
variable {X:Cx}
end
end L2
namespace L2
open PySem PySem.Spec PyProof.Rows PySem.SeqAt
section
variable {prog:Program} {w:World} {A:Around} {E:Value->Shared->Prop} {s:Shared}
end
section
variable {X:Cx}
end
end L2
namespace L2
open PySem PySem.Spec PyProof.Rows PySem.SeqAt
section
variable {X:Cx}
end
end L2
namespace L2
open PySem PySem.Spec PyProof.Rows
section
variable {X:Cx}
def rCatT0 (K:PySem.W.Frag):R2:=fun x y H Q=>∃ a b ys,x=.ref a/\y=.ref b/\SqT K H a []/\SqT K H b ys/\Q (.ref b) H
theorem op_catT0:OpR X (binaryOp .Add) (rCatT0 X.K):=by
  intro pins s σ H x y v u Q I rx ry h
  obtain ⟨a,b,ys,rfl,rfl,ha,hb,q⟩:=h
  cases rx
  cases ry
  obtain ⟨its,r1,p1,_⟩:=I.tuple ha
  obtain ⟨its2,r2,p2,_⟩:=I.tuple hb
  have e1:its=[]:=r1.nil_iff.mpr rfl
  subst e1
  obtain ⟨⟨cls,dd,data,sl⟩,ho,hc,n,hd⟩:=id p1
  obtain ⟨⟨cls2,dd2,data2,sl2⟩,ho2,hc2,n2,hd2⟩:=id p2
  simp only at hc hd hc2 hd2
  subst hc hd hc2 hd2
  exact concat_meets ⟨_,ho,rfl⟩ ⟨_,ho2,rfl⟩ noFill_tuple_add seq_tuple_add PySem.F.slot_tuple_add PySem.F.entry_tuple_add (PySem.F.args_tuple_add_2 _ _)
    (tuple_addW0 a b ([]:List Value).toArray its2.toArray n n2 dd dd2 sl sl2 (by simp)) ⟨ho,ho2,⟨.ref b,H,I,rfl,q⟩⟩
abbrev rCat2 (K:PySem.W.Frag):R2:=fun x y H Q=>rCatT K x y H Q\/rCatT0 K x y H Q
theorem op_cat2:OpR X (binaryOp .Add) (rCat2 X.K):=op_catT.or op_catT0
end
end L2
namespace L2
open PySem PySem.Spec PyProof.Rows
def PTs (X:Cx) (ifs:List Expr) (t:TT):Prop:=
  ∀ (pins:List (Addr × Obj)) (s:Shared) (σ:St) (H:Hp) (Q:Bool->Hp->Prop),Inv X pins σ H s->t σ H Q ->
    wpAny (model X.prog X.w) X.A (forIn ifs true fun c r=>if r=true then do let ok <- isTrue c X.env (eval c X.env); pure (ForInStep.yield ok) else pure (ForInStep.yield r)) (TP X pins σ Q) X.xe s
def tTrue:TT:=fun _ H Q=>Q true H
theorem pts_nil {X:Cx}:PTs X [] tTrue:=fun _ _ _ H _ I h=>wpAny_tests_nil ⟨H,I,h⟩
theorem pts_one {X:Cx} {c:Expr} {t:TT} (h:PT X c t):PTs X [c] t:=fun pins s σ H Q I q=>wpAny_tests_one (h pins s σ H Q I q)
def compBodyT (J:It) (cap:List (Option Nat)) (g:TG) (tt:TT) (te:TE) (σ:St) (H1:Hp) (Q:VK):Prop:=∀ acc,H1 acc=none ->
  ∃ W:Nat->Nat->List V->St->Hp->Prop,(∃ m,W 0 m [] (capOf cap σ) (upd H1 acc (.lst [])))/\∀ i m ys σ' H',W i m ys σ' H'->H' acc=some (.lst ys) /\
    ((J.stop i H'/\Q (.ref acc) H')\/(J.go i H'/\ys.length < sizeLine/\∀ x H2,J.yld i H' x H2->g x σ' H2 fun σ3 H3=>tt σ3 H3 fun b H4=>
      if b=true then te σ3 H4 fun y H5=>H5 acc=some (.lst ys)/\∃ m',m' < m/\W (i + 1) m' (ys ++ [y]) σ3 (upd H5 acc (.lst (ys ++ [y])))
      else ∃ m',m' < m/\W (i + 1) m' ys σ3 H4))
def tCompT (cap:List (Option Nat)) (wi:TI) (g:TG) (tt:TT) (te:TE):TE:=fun σ H Q=>wi σ H fun J H1=>compBodyT J cap g tt te σ H1 Q
section
variable {prog:Program} {w:World} {A:Around} {R:Result->Shared->Prop} {s:Shared}
theorem compLoop_anyT {elt target iter:Expr} {ifs:List Expr} {scope:Scope} {pos:Pos} {it acc:Value} {env:Env} (I:Nat->Shared->Prop)
    (turn:∀ n s,I n s->wpAny (model prog w) A (pyNext it) (fun r s₁=>match r with
      | none=>R (.ok .next) s₁
      | some v=>wpAny (model prog w) A (letOwnedTupleGo target it v) (fun _ s₁'=>wpAny (model prog w) A (assign target env v) (fun _ s₂=>
          wpAny (model prog w) A (forIn ifs true fun c r=>if r=true then do let ok <- isTrue c env (eval c env); pure (ForInStep.yield ok) else pure (ForInStep.yield r)) (fun ok s₃=>
            if ok=true then wpAny (model prog w) A (eval elt env) (fun x s₄=>
              wpAny (model prog w) A (call (.builtin "list.append") [acc,x]) (fun _ s₅=>∃ m,m < n/\I m s₅) (fun _ _=>False) s₄) (fun _ _=>False) s₃
            else ∃ m,m < n/\I m s₃) (fun _ _=>False) s₂)
          (fun _ _=>False) s₁') (fun _ _=>False) s₁) (fun _ _=>False) s)
    (n:Nat) (h:I n s):codeAny (model prog w) A (.compLoop (.ListComp elt [⟨target,iter,ifs,0⟩] scope pos) 0 it acc env) R s:=by
  refine codeAny_loop rfl I (fun n s hI=>?_) n h
  show wpAny _ A ((compTurn (.ListComp elt [⟨target,iter,ifs,0⟩] scope pos) 0 it acc env).onRaise (fun x=>do noteFrame x env; theTreesLotGoes x)) _ _ s
  refine wpAny_noted ?_
  rw [compTurn_list]
  refine wpAny_bind (wpAny_standAt (wpAny_bind (wpAny_mono (turn n s hI) (fun r s₁ h₁=>?_) fun _ _ h'=>h'.elim)))
  cases r with
  | none=>exact wpAny_pure h₁
  | some v=>
    refine wpAny_bind (wpAny_mono h₁ (fun _ s₁' h₁'=>?_) fun _ _ h'=>h'.elim)
    refine wpAny_bind (wpAny_mono h₁' (fun _ s₂ h₂=>wpAny_bind (wpAny_mono h₂ (fun ok s₃ h₃=>?_) fun _ _ h'=>h'.elim)) fun _ _ h'=>h'.elim)
    cases ok with
    | true=>
      rw [if_pos rfl] at h₃
      exact wpAny_bind (wpAny_bind (wpAny_mono h₃ (fun x s₄ h₄=>wpAny_bind (wpAny_mono h₄ (fun _ s₅ h₅=>wpAny_pure (wpAny_pure ⟨rfl,h₅⟩)) fun _ _ h'=>h'.elim)) fun _ _ h'=>h'.elim))
    | false=>
      rw [if_neg Bool.false_ne_true] at h₃
      exact wpAny_bind (wpAny_pure (wpAny_pure ⟨rfl,h₃⟩))
end
section
variable {X:Cx}
theorem comp_coreT {elt tg iter:Expr} {ifs:List Expr} {tt:TT} {pos:Pos} {N N':List Str} {sc scE:Scope} {cap:List (Option Nat)} {wi:TI} {g:TG} {te:TE} {use:Option (Value->Sem Unit)} {QQ:Value->Shared->Prop} (hcalm:X.calm=true) (hi:PI X tg iter wi)
    (hg:∀ cl C s0 H0 ex,PG (blkC X N' sc cl C s0 H0 ex) tg g) (he:∀ cl C s0 H0 ex,PE (blkC X N' sc cl C s0 H0 ex) elt te) (htt:∀ cl C s0 H0 ex,PTs (blkC X N' sc cl C s0 H0 ex) ifs tt)
    (hN:X.N=N) (hE:X.env.scope=scE) (hc:compOkC N N' sc scE cap=true) (hs:∀ x,foldedSetIterable iter X.env x=pure x)
    {pins:List (Addr × Obj)} {s:Shared} {σ:St} {H:Hp} {Q:VK} (I:Inv X pins σ H s) (h:tCompT cap wi g tt te σ H Q)
    (fin:∀ acc C H' s' m,Inv X pins σ H' s'->s'.heap.Ns C m->FpOk X pins H' C->Q (.ref acc) H'->compPost (model X.prog X.w) X.A X.xe use QQ (.ref acc) C (.ok .next) s') {pos':Pos} :
    wpAny (model X.prog X.w) X.A (comprehension (.ListComp elt [⟨tg,iter,ifs,0⟩] sc pos) sc X.env pos' (newList []) false (eval iter X.env) use) QQ X.xe s:=by
  have ck:=compOkC.of hc
  obtain ⟨cl,hcl,c1,c2⟩:=closure_of (scope:=sc) (env:=X.env) fun x hx hf=>I.ok.has x.1 (by
    have:=ck.fre x hx hf
    rw [<- hE] at this
    exact this)
  refine wpAny_comprehension_free (use:=use) rfl hs hcl ck.kind ck.loc (thn (hi pins s σ H _ I h) fun v s1 h1=>thn h1 fun itv s2 h2=>?_)
  obtain ⟨it,fp,tn,J,H2,e,I2,T,st2,f2,hw⟩:=h2
  subst e
  have fsz:∀ b ∈ fp,b < s2.heap.objs.size:=fun b hb=>by
    obtain ⟨o,e,_⟩:=T.obj _ _ st2 b hb
    exact Heap.lt_size e
  obtain ⟨W,⟨m0,w0⟩,turn⟩:=hw s2.heap.objs.size I2.fresh
  refine wpAny_newObj_type (wpAny_newEnvC ?_)
  dsimp only
  have I3:Inv X pins σ (upd H2 s2.heap.objs.size (.lst [])) { s2 with heap:=s2.heap.push { cls:=.type "list",data:=.seq ([]:List Value).toArray } }:=
    I2.lnew (its:=[]) (ys:=[]) (t':=s2.toks) .nil (Nat.zero_le _)
  generalize hs3:({ s2 with heap:=s2.heap.push { cls:=.type "list",data:=.seq ([]:List Value).toArray } }:Shared)=s3 at I3
  have hh3:s3.heap=s2.heap.push { cls:=.type "list",data:=.seq ([]:List Value).toArray }:=by rw [<- hs3]
  have hsz:s3.heap.objs.size=s2.heap.objs.size + 1:=by rw [hh3,Heap.size_push]
  have f3:∀ b ∈ fp,FpOk X pins (upd H2 s2.heap.objs.size (.lst [])) b:=fun b hb=>by
    obtain ⟨g0,g1⟩:=f2 b hb
    exact ⟨by rw [upd_ne (Nat.ne_of_lt (fsz b hb))]; exact g0,g1⟩
  have k3:∀ b o,s2.heap.get? b=some o->s3.heap.get? b=some o:=fun b o e=>by rw [hh3]; exact Heap.get?_push_of_some _ e
  obtain ⟨cl',hcl'⟩:∃ cl',cellsFrom (s3.heap.objs.size + 1) sc.names cl=cl':=⟨_,rfl⟩
  obtain ⟨h₁,hh₁⟩:∃ h₁,pushCells (s3.heap.push { cls:=.type "dict",data:=.dict #[] }) sc.names=h₁:=⟨_,rfl⟩
  have k1:∀ b o,s3.heap.get? b=some o->h₁.get? b=some o:=fun b o e=>by rw [<- hh₁]; exact pushCells_keeps _ _ b o (Heap.get?_push_of_some _ e)
  have c1':∀ x c,cl'.lookup x=some c->cl.lookup x=some c\/s3.heap.objs.size + 1<=c:=fun x c e=>by
    rw [<- hcl'] at e
    have:=cellsFrom_look (sc.names) (s3.heap.push { cls:=.type "dict",data:=.dict #[] }) cl x c (by rw [Heap.size_push]; exact e)
    rcases this with z | ⟨_,z,_⟩
    · exact .inl z
    · rw [Heap.size_push] at z; exact .inr z
  have I4:Inv (blkC X N' sc cl' s3.heap.objs.size s3 (upd H2 s2.heap.objs.size (.lst [])) fp) [] (capOf cap σ) (upd H2 s2.heap.objs.size (.lst [])) { s3 with heap:=h₁ }:=by
    rw [<- hcl',<- hh₁]
    exact blk_invC I3 hN hE ck c1 c2 f3 (fun b hb=>Nat.lt_of_lt_of_le (fsz b hb) (by rw [hsz]; exact Nat.le_succ _))
  have st4:tn 0 h₁:=T.keep _ _ _ st2 fun b hb o e=>k1 b o (k3 b o e)
  generalize hX':blkC X N' sc cl' s3.heap.objs.size s3 (upd H2 s2.heap.objs.size (.lst [])) fp=X' at I4
  have hxe:X'.xe=fun _ _=>False:=by rw [<- hX']; rfl
  have hprog:X'.prog=X.prog:=by rw [<- hX']; rfl
  have hww:X'.w=X.w:=by rw [<- hX']; rfl
  have hKK:X'.K=X.K:=by rw [<- hX']; rfl
  have hAA:X'.A=X.A:=by rw [<- hX']; rfl
  have hcc:X'.calm=true:=by rw [<- hX']; exact hcalm
  have henv:X'.env=compEnvC sc cl' s3.heap.objs.size X.env:=by rw [<- hX']; rfl
  have hloc:X'.env.locals=s3.heap.objs.size:=by rw [henv]; rfl
  have hg':PG X' tg g:=by rw [<- hX']; exact hg _ _ _ _ _
  have he':PE X' elt te:=by rw [<- hX']; exact he _ _ _ _ _
  have htt':PTs X' ifs tt:=by rw [<- hX']; exact htt _ _ _ _ _
  have stat:∀ {H':Hp},(∀ b ∈ fp,H' b=none)->∀ b ∈ fp,FpOk X' [] H' b:=fun {H'} hn b hb=>by
    obtain ⟨_,g1,g2,g3,g4,g5⟩:=f3 b hb
    refine ⟨hn b hb,by rw [hloc,hsz]; exact Nat.ne_of_lt (Nat.lt_succ_of_lt (fsz b hb)),?_,?_,?_,fun p hp=>?_⟩
    · rw [<- hX']
      intro z
      rcases List.mem_cons.mp (I3.stkSub b z) with e | z
      · exact g1 e
      · exact g2 z
    · left
      rw [<- hX']
      exact hb
    · intro x c e
      rw [henv] at e
      rcases c1' x c e with z | z
      · exact g4 x c (c1 x c z)
      · exact fun q=>absurd (Nat.lt_of_lt_of_le (fsz b hb) (Nat.le_trans (Nat.le_trans (Nat.le_succ _) (hsz ▸ Nat.le_succ _)) (q ▸ z))) (Nat.lt_irrefl _)
    · rw [<- hX'] at hp
      cases hp
  have fin':∀ {σ':St} {H':Hp} {s':Shared},Inv X' [] σ' H' s'->Q (.ref s2.heap.objs.size) H'->compPost (model X.prog X.w) X.A X.xe use QQ (.ref s2.heap.objs.size) s3.heap.objs.size (.ok .next) s':=fun {σ' H' s'} J q=>by
    obtain ⟨mm,hmm,_⟩:=J.loc
    rw [hloc] at hmm
    have hfree:H' s3.heap.objs.size=none:=by have:=J.free; rw [hloc] at this; exact this
    have hok:=J.hok
    rw [hprog,hww] at hok
    have u1:Un (frs X.stack) fp (upd H2 s2.heap.objs.size (.lst [])) H' s3.heap s'.heap:=by
      have:=J.base
      rw [<- hX'] at this
      exact this
    have hos:s'.os=s3.os:=by have:=J.os; rw [<- hX'] at this; exact this
    refine fin _ _ H' s' mm (I3.call' (s':=s') hos u1 hok J.bare fun b hb=>?_) hmm (I3.fpOk (Nat.le_refl _) hfree) q
    obtain ⟨_,g1,g2,g3,g4,g5⟩:=f3 b hb
    exact ⟨g3,g1,g4,g5⟩
  have loop:codeAny (model X.prog X.w) X.A (.compLoop (.ListComp elt [⟨tg,iter,ifs,0⟩] sc pos) 0 (.ref it) (.ref s2.heap.objs.size) X'.env)
      (compPost (model X.prog X.w) X.A X.xe use QQ (.ref s2.heap.objs.size) s3.heap.objs.size) { s3 with heap:=h₁ }:=by
    refine compLoop_anyT (fun n s'=>∃ i ys σ' H',Inv X' [] σ' H' s'/\tn i s'.heap/\(∀ b ∈ fp,H' b=none)/\W i n ys σ' H') ?_ m0 ⟨0,[],_,_,I4,st4,fun b hb=>(f3 b hb).1,w0⟩
    rintro n s5 ⟨i,ys,σ5,H5,I5,st5,fr5,w5⟩
    obtain ⟨hacc,q⟩:=turn i n ys σ5 H5 w5
    rcases q with ⟨stop,q⟩ | ⟨go,hlen,step⟩
    · refine thn (hAA ▸ T.done X' hprog hww hKK hcc i [] s5 σ5 H5 _ I5 (stat fr5) st5 stop) fun r s6 ⟨hr,I6⟩=>?_
      subst hr
      exact fin' I6 q
    · refine thn (hAA ▸ T.item X' hprog hww hKK hcc i [] s5 σ5 H5 _ I5 (stat fr5) st5 go) fun r s6 ⟨u,hr,h6⟩=>?_
      subst hr
      refine thn h6 fun _ s7 ⟨x,H7,I7,r7,y7,st7,fr7⟩=>?_
      have I7':=I7.pinned (stat fr7) (T.obj _ _ st7)
      have g7:=hg' _ s7 σ5 H7 x u _ I7' r7 (step x H7 y7)
      rw [hprog,hww,hAA,hxe] at g7
      refine thn g7 fun _ s8 ⟨σ8,H8,I8,q8⟩=>?_
      have t8:=htt' _ s8 σ8 H8 _ I8 q8
      rw [hprog,hww,hAA,hxe] at t8
      refine thn t8 fun okb s8t ⟨H8t,I8t,q8t⟩=>?_
      cases okb with
      | false=>
        rw [if_neg Bool.false_ne_true] at q8t ⊢
        obtain ⟨m',hm',w9⟩:=q8t
        refine ⟨m',hm',i + 1,_,σ8,_,I8t.unpinned,T.keep _ _ _ st7 fun b hb o eo=>(I8t.pin (b,o) (List.mem_append_right _ (List.mem_append_right _ (mem_pinsAt hb eo)))).1,fun b hb=>?_,w9⟩
        obtain ⟨o,eo,d⟩:=T.obj _ _ st7 b hb
        exact (I8t.pin (b,o) (List.mem_append_right _ (List.mem_append_right _ (mem_pinsAt hb eo)))).2.1
      | true=>
      rw [if_pos rfl] at q8t ⊢
      have g8:=he' _ s8t σ8 H8t _ I8t q8t
      rw [hprog,hww,hAA,hxe] at g8
      refine thn g8 fun y s9 ⟨yv,H9,I9,r9,a9,m',hm',w9⟩=>?_
      obtain ⟨z,its,nn,rr,hl,e⟩:=I9.lstM a9
      refine call_meets F.slot_list_append ⟨_,e,rfl⟩ F.entry_list_append (F.args_list_append_2 _ _) (PySem.list_append _ its.toArray nn y (by rw [List.size_toArray]; omega)) ⟨e,?_⟩
      have I10:Inv X' ([] ++ pinsAt fp s7.heap) σ8 (upd H9 s2.heap.objs.size (.lst (ys ++ [yv]))) { s9 with heap:=s9.heap.update s2.heap.objs.size (Obj.mapSeq fun a=>a.push y) }:=
        I9.lset (t':=s9.toks) (its':=its ++ [y]) a9 e (by simp) (rr.append (.cons r9 .nil)) (by rw [List.length_append,List.length_singleton]; omega)
      refine ⟨m',hm',i + 1,_,σ8,_,I10.unpinned,T.keep _ _ _ st7 fun b hb o eo=>(I10.pin (b,o) (List.mem_append_right _ (List.mem_append_right _ (mem_pinsAt hb eo)))).1,fun b hb=>?_,w9⟩
      obtain ⟨o,eo,d⟩:=T.obj _ _ st7 b hb
      exact (I10.pin (b,o) (List.mem_append_right _ (List.mem_append_right _ (mem_pinsAt hb eo)))).2.1
  rw [henv] at loop
  have goal:=codeAny_compStart_list (rest:=[]) (ifs:=ifs) loop (T.self X.A 0 _ _ _ st4 loop)
  subst hs3
  rw [<- hcl',<- hh₁] at goal
  exact goal
theorem pe_compT {elt tg iter:Expr} {ifs:List Expr} {tt:TT} {pos:Pos} {N N':List Str} {sc scE:Scope} {cap:List (Option Nat)} {wi:TI} {g:TG} {te:TE} (hcalm:X.calm=true) (hi:PI X tg iter wi)
    (hg:∀ cl C s0 H0 ex,PG (blkC X N' sc cl C s0 H0 ex) tg g) (he:∀ cl C s0 H0 ex,PE (blkC X N' sc cl C s0 H0 ex) elt te) (htt:∀ cl C s0 H0 ex,PTs (blkC X N' sc cl C s0 H0 ex) ifs tt)
    (hN:X.N=N:=by rfl) (hE:X.env.scope=scE:=by rfl) (hc:compOkC N N' sc scE cap=true:=by decide +kernel) (hs:∀ x,foldedSetIterable iter X.env x=pure x:=by intro _; rfl) :
    PE X (.ListComp elt [⟨tg,iter,ifs,0⟩] sc pos) (tCompT cap wi g tt te):=by
  intro pins s σ H Q I h
  rw [eval_ListComp]
  refine comp_coreT (use:=none) hcalm hi hg he htt hN hE hc hs I h fun acc C H' s' m I' hm hf q=>⟨m,hm,fun h' hs'=>?_⟩
  obtain ⟨f0,f1,f2,f3,f4,f5⟩:=hf
  exact ⟨.ref acc,H',I'.turned (t':=s'.toks) (fun b o hb e=>(hs'.2 b hb).trans e) f0 f1 f3 f4 f5,rfl,q⟩
theorem ps_compT {ifs:List Expr} {tt:TT} {i:Nat} {x:Str} {px spos:Pos} {elt tg iter:Expr} {pos:Pos} {N N':List Str} {sc scE:Scope} {cap:List (Option Nat)} {wi:TI} {g:TG} {te:TE} (hnd:X.N.Nodup) (hix:X.N[i]?=some x) (hx:Loc X.env.scope x) (hcalm:X.calm=true) (hi:PI X tg iter wi)
    (hg:∀ cl C s0 H0 ex,PG (blkC X N' sc cl C s0 H0 ex) tg g) (he:∀ cl C s0 H0 ex,PE (blkC X N' sc cl C s0 H0 ex) elt te) (htt:∀ cl C s0 H0 ex,PTs (blkC X N' sc cl C s0 H0 ex) ifs tt)
    (hsw:swapsWith (.ListComp elt [⟨tg,iter,ifs,0⟩] sc pos) (some (.Name x px)) spos.line X.env=pure true:=by rfl)
    (hN:X.N=N:=by rfl) (hE:X.env.scope=scE:=by rfl) (hc:compOkC N N' sc scE cap=true:=by decide +kernel) (hs:∀ x,foldedSetIterable iter X.env x=pure x:=by intro _; rfl)
    (hf:X.fn x=true\/X.env.scope.names.lookup x=some .local:=by first | exact .inl rfl | exact .inr rfl | assumption) :
    PS X (.Assign [.Name x px] (.ListComp elt [⟨tg,iter,ifs,0⟩] sc pos) spos) (tAsg (tCompT cap wi g tt te) (gName i)):=by
  intro pins s σ H D I h
  rw [exec_Assign_Name_used _ _ _ _ hsw]
  refine wpAny_bind (wpAny_standAt (wpAny_bind ?_))
  show wpAny _ _ (do let _ <- comprehension (.ListComp elt [⟨tg,iter,ifs,0⟩] sc pos) sc X.env _ (newList []) false (eval iter X.env) (some (assign (.Name x px) X.env))) _ _ s
  refine wpAny_bind (wpAny_mono (comp_coreT (use:=some (assign (.Name x px) X.env)) (QQ:=fun _ s'=>SP X pins D .next s') hcalm hi hg he htt hN hE hc hs I h ?_) (fun _ s' hq=>wpAny_pure (wpAny_pure hq)) fun _ _ e=>e)
  intro acc C H' s' m I' hm hfp q
  obtain ⟨f0,f1,f2,f3,f4,f5⟩:=hfp
  show wpAny _ _ (assign (.Name x px) X.env (.ref acc)) _ _ _
  refine wpAny_assign_Name (store_ok2 I' hnd hix hx (v:=.ref acc) rfl (fun s2 I2 ⟨a,sb,ha⟩=>⟨m,?_,fun h' hs'=>?_⟩) hf)
  · refine hm.sameBut sb fun z=>?_
    rcases ha with ha | ha
    · exact f1 (z.trans ha)
    · exact f4 x a ha z.symm
  · exact ⟨_,H',I2.turned (t':=s2.toks) (fun b o hb e=>(hs'.2 b hb).trans e) f0 f1 f3 f4 f5,q⟩
end
end L2
namespace L2
open PySem PySem.Spec PyProof.Rows
theorem fm_congr {α β:Type} {f g:α->Option β}:∀ {l:List α},(∀ x ∈ l,f x=g x)->l.filterMap f=l.filterMap g
  | [],_=>rfl
  | x :: l,h=>by
    rw [List.filterMap_cons,List.filterMap_cons,h x List.mem_cons_self,fm_congr fun y hy=>h y (List.mem_cons_of_mem _ hy)]
theorem pick_down (its:List Value):∀ k,k<=its.length->((List.range k).filterMap fun (m:Nat)=>its[its.length - 1 - m]?)=(its.reverse.take k)
  | 0,_=>by simp
  | k + 1,h=>by
    have ih:=pick_down its k (by omega)
    rw [List.range_succ,List.filterMap_append,ih]
    have e:its[its.length - 1 - k]?=some its[its.length - 1 - k]:=List.getElem?_eq_getElem (by omega)
    rw [List.take_add_one]
    congr 1
    rw [List.getElem?_reverse (by omega),e]
    simp [e]
theorem slicePick_rev (its:List Value):slicePick its.toArray none none (some (-1))=its.reverse.toArray:=by
  unfold slicePick
  have hb:(sliceBounds none none (some (-1)) its.toArray.size)=((its.length:Int) - 1,-1,-1):=by
    rw [List.size_toArray]
    rfl
  rw [hb]
  unfold sliceRange
  have hc:(if (-1:Int) > 0 then (if (its.length:Int) - 1 < -1 then ((-1:Int) - ((its.length:Int) - 1) + -1 - 1) / -1 else 0) else (if (its.length:Int) - 1 > -1 then ((its.length:Int) - 1 - -1 - -1 - 1) / (- -1) else 0)).toNat=its.length:=by
    rw [if_neg (by omega)]
    split
    · rw [show (- -1:Int)=1 from rfl,Int.ediv_one]; omega
    · omega
  simp only [hc]
  congr 1
  rw [List.filterMap_map]
  have e:((fun x=>its.toArray[x]?) ∘ fun (k:Nat)=>((its.length:Int) - 1 + -1 * (k:Int)).toNat)=fun (m:Nat)=>its[(((its.length:Int) - 1 + -1 * (m:Int)).toNat)]?:=by
    funext m
    simp
  rw [e]
  have:=pick_down its its.length (Nat.le_refl _)
  rw [show its.reverse.take its.length=its.reverse from List.take_of_length_le (by simp)] at this
  rw [<- this]
  refine fm_congr fun m hm=>?_
  have hm':=List.mem_range.mp hm
  congr 1
  omega
section
variable {X:Cx} {e e3:Expr} {te t3:TE} {pos p2:Pos}
def tRev (K:PySem.W.Frag) (te t3:TE):TE:=fun σ H Q=>te σ H fun x H1=>t3 σ H1 fun y H2=>y=.int (-1)/\∃ a xs,x=.ref a/\SqL K H2 a xs/\∀ p,H2 p=none->Q (.ref p) (upd H2 p (.lst xs.reverse))
theorem pe_rev (he:PE X e te) (h3:PE X e3 t3):PE X (.Subscript e (.Slice none none (some e3) p2) pos) (tRev X.K te t3):=by
  intro pins s σ H Q I h
  refine Subscript_ (thn (he pins s σ H _ I h) fun v s1 ⟨x,H1,I1,r1,q1⟩=>?_)
  refine wpAny_Slice ?_
  rw [evalPart_none]
  refine wpAny_pure (wpAny_pure ?_)
  rw [evalPart_some]
  refine thn (h3 pins s1 σ H1 _ I1 q1) fun vs s2 ⟨y,H2,I2,r2,q2⟩=>?_
  obtain ⟨rfl,a,xs,rfl,hx,q⟩:=q2
  obtain ⟨t,rfl⟩:=r2
  cases r1
  have I4:Inv X pins σ H2 { s2 with heap:=s2.heap.push { cls:=.type "slice",data:=.fields #[.none,.none,.int (-1) t] } }:=I2.kept (t':=s2.toks) fun b ob q=>Heap.get?_push_of_some _ q
  have hs:({ s2 with heap:=s2.heap.push { cls:=.type "slice",data:=.fields #[.none,.none,.int (-1) t] } }:Shared).heap.IsSliceOf s2.heap.objs.size .none .none (.int (-1) t):=Heap.IsSliceOf.new ..
  obtain ⟨its,r,ht,hz⟩:=I4.list hx
  have hlen:=r.length
  show wpAny (model X.prog X.w) X.A (subscriptTail e (.Slice none none (some e3) p2) (.ref a) (.ref s2.heap.objs.size)) (EP X pins σ Q) X.xe { s2 with heap:=s2.heap.push { cls:=.type "slice",data:=.fields #[.none,.none,.int (-1) t] } }
  refine tail_any (ops:=[.ref a,.ref s2.heap.objs.size]) ht.isList.typeIs slot_list_getitem.lookup ?_ (by with_unfolding_all rfl)
  refine wpAny_getItem_list_slice ht.isList hs .none .none (.int (-1) t) (by simp) ?_ (by rw [List.size_toArray] <;> omega)
  rw [slicePick_rev]
  refine ⟨.ref _,_,I4.laid (t':=s2.toks) (o:=.lst xs.reverse) (fun b ob q=>Heap.get?_push_of_some _ q) (Nat.le_refl _) ?_,rfl,q _ (I4.hok.fresh (Nat.le_refl _))⟩
  exact ⟨by rw [List.length_reverse]; exact hz,_,0,r.reverse,Heap.get?_push_size _ rfl⟩
end
end L2
namespace L2
open PySem PySem.Spec PyProof.Rows
section
variable {X:Cx} {a:Expr} {ta:TA} {p p' pos pos':Pos}
end
end L2
namespace L2
open PySem PySem.Spec PyProof.Rows
section
variable {X:Cx}
end
end L2
namespace L2
open PySem PySem.Spec PyProof.Rows
section
variable {κ:Type} [DecidableEq κ]
def valV (kvs:List (κ × V)) (k:κ):Option V:=(kvs.find? fun kv=>decide (kv.1=k)).map (·.2)
def putK (kvs:List (κ × V)) (k:κ) (v:V):List (κ × V):=
  if (kvs.any fun kv=>decide (kv.1=k))=true then kvs.map (fun kv=>if kv.1=k then (kv.1,v) else kv) else kvs ++ [(k,v)]
theorem valV_pos {p:κ × V} {r:List (κ × V)} {k:κ} (e:p.1=k):valV (p :: r) k=some p.2:=by simp [valV,List.find?_cons,e]
theorem valV_neg {p:κ × V} {r:List (κ × V)} {k:κ} (e:¬ p.1=k):valV (p :: r) k=valV r k:=by simp [valV,List.find?_cons,e]
theorem valV_any (k:κ):∀ kvs:List (κ × V),(kvs.any fun kv=>decide (kv.1=k))=(valV kvs k).isSome
  | []=>rfl
  | p :: r=>by
    rw [List.any_cons]
    by_cases e:p.1=k
    · simp only [valV_pos e,decide_eq_true e,Bool.true_or,Option.isSome_some]
    · rw [valV_neg e,decide_eq_false e,Bool.false_or]; exact valV_any k r
theorem length_putK (kvs:List (κ × V)) (k:κ) (v:V):(putK kvs k v).length<=kvs.length + 1:=by
  unfold putK
  split
  · rw [List.length_map]; omega
  · rw [List.length_append,List.length_cons,List.length_nil]; omega
theorem RelO.isSome_eq {o:Option V} {u:Option Value} (r:RelO o u):o.isSome=u.isSome:=by
  cases o with
  | none=>cases u with
    | none=>rfl
    | some _=>exact (show False from r).elim
  | some _=>cases u with
    | none=>exact (show False from r).elim
    | some _=>rfl
theorem KV.val {kvs:List (κ × V)} {vs:List (κ × Value)} (r:KV kvs vs) (k:κ):RelO (valV kvs k) (valueAt vs k):=by
  unfold KV at r
  induction r with
  | nil=>exact True.intro
  | @cons p q ps qs h t ih=>
    obtain ⟨h1,h2⟩:=h
    by_cases e:p.1=k
    · have e':q.1=k:=h1.symm.trans e
      have b:valueAt (q :: qs) k=some q.2:=by simp [valueAt,List.find?_cons,e']
      rw [valV_pos e,b]; exact h2
    · have e':¬ q.1=k:=fun z=>e (h1.trans z)
      have b:valueAt (q :: qs) k=valueAt qs k:=by simp [valueAt,List.find?_cons,e']
      rw [valV_neg e,b]; exact ih
theorem KV.any {kvs:List (κ × V)} {vs:List (κ × Value)} (r:KV kvs vs) (k:κ):(kvs.any fun kv=>decide (kv.1=k))=vs.any fun kv=>decide (kv.1=k):=by
  unfold KV at r
  induction r with
  | nil=>rfl
  | cons h t ih=>rw [List.any_cons,List.any_cons,ih,h.1]
theorem KV.repl {kvs:List (κ × V)} {vs:List (κ × Value)} (r:KV kvs vs) (k:κ) {y:V} {u:Value} (ry:RelV y u) :
    KV (kvs.map fun kv=>if kv.1=k then (kv.1,y) else kv) (vs.map fun kv=>if kv.1=k then (kv.1,u) else kv):=by
  unfold KV at r ⊢
  induction r with
  | nil=>exact .nil
  | @cons p q ps qs h t ih=>
    rw [List.map_cons,List.map_cons]
    refine .cons ?_ ih
    obtain ⟨h1,h2⟩:=h
    by_cases e:p.1=k
    · rw [if_pos e,if_pos (h1.symm.trans e)]; exact ⟨h1,ry⟩
    · rw [if_neg e,if_neg (fun z=>e (h1.trans z))]; exact ⟨h1,h2⟩
theorem KV.put {kvs:List (κ × V)} {vs:List (κ × Value)} (r:KV kvs vs) (k:κ) {y:V} {u:Value} (ry:RelV y u):KV (putK kvs k y) (stored vs k u):=by
  unfold putK stored
  rw [r.any k]
  by_cases e:(vs.any fun kv=>decide (kv.1=k))=true
  · rw [if_pos e,if_pos e]; exact r.repl k ry
  · rw [if_neg e,if_neg e]; exact Paired.snoc r ⟨rfl,ry⟩
theorem KV.length {kvs:List (κ × V)} {vs:List (κ × Value)} (r:KV kvs vs):kvs.length=vs.length:=Paired.length r
end
theorem kV_is {P:Program} {w:World} {k:Key} {u:Value} (r:RelV (kV k) u):(mixKind P w).is k u=true:=by
  cases k with
  | inl i=>obtain ⟨t,e⟩:=(show ∃ t,u=Value.int i t from r); subst e; exact mixKind_int P w i t
  | inr x=>obtain ⟨t,e⟩:=(show ∃ t,u=Value.str x t from r); subst e; exact mixKind_str P w x t
abbrev KT (H:Hp):List (HK × V)->List (HK × Addr × Value)->Prop:=Paired fun p q=>p.1=q.1/\KR H p.1 q.2.1/\RelV p.2 q.2.2
theorem KT.val {H:Hp} {kvs:List (HK × V)} {xs:List (HK × Addr × Value)} (r:KT H kvs xs) (k:HK):RelO (valV kvs k) ((atKey xs k).map (·.2)):=by
  induction r with
  | nil=>exact True.intro
  | @cons p q ps qs h t ih=>
    obtain ⟨h1,_,h2⟩:=h
    by_cases e:p.1=k
    · have e':q.1=k:=h1.symm.trans e
      have b:atKey (q :: qs) k=some q.2:=by simp [atKey,List.find?_cons,e']
      rw [valV_pos e,b]; exact h2
    · have e':¬ q.1=k:=fun z=>e (h1.trans z)
      have b:atKey (q :: qs) k=atKey qs k:=by simp [atKey,List.find?_cons,e']
      rw [valV_neg e,b]; exact ih
theorem KT.repl {H:Hp} {kvs:List (HK × V)} {xs:List (HK × Addr × Value)} (r:KT H kvs xs) (k:HK) {y:V} {u:Value} (ry:RelV y u) :
    KT H (kvs.map fun kv=>if kv.1=k then (kv.1,y) else kv) (xs.map (putAt k u)):=by
  induction r with
  | nil=>exact .nil
  | @cons p q ps qs h t ih=>
    rw [List.map_cons,List.map_cons]
    refine .cons ?_ ih
    obtain ⟨h1,h2,h3⟩:=h
    unfold putAt
    by_cases e:p.1=k
    · rw [if_pos e,if_pos (h1.symm.trans e)]; exact ⟨h1,h2,ry⟩
    · rw [if_neg e,if_neg (fun z=>e (h1.trans z))]; exact ⟨h1,h2,h3⟩
theorem KT.put {H:Hp} {kvs:List (HK × V)} {xs:List (HK × Addr × Value)} (r:KT H kvs xs) (k:HK) {b:Addr} {y:V} {u:Value} (hb:KR H k b) (ry:RelV y u) :
    KT H (putK kvs k y) (storedH xs k b u):=by
  have e:(kvs.any fun kv=>decide (kv.1=k))=(atKey xs k).isSome:=by
    rw [valV_any,(r.val k).isSome_eq,Option.isSome_map]
  unfold putK storedH
  rw [e]
  by_cases q:(atKey xs k).isSome=true
  · rw [if_pos q,if_pos q]; exact r.repl k ry
  · rw [if_neg q,if_neg q]; exact Paired.snoc r ⟨rfl,hb,ry⟩
theorem KT.keeps {H H':Hp} {kvs:List (HK × V)} {xs:List (HK × Addr × Value)} (r:KT H kvs xs) (ht:∀ b ys,H b=some (.tup ys)->H' b=some (.tup ys)):KT H' kvs xs:=
  Paired.mapP r fun _ _ z=>⟨z.1,z.2.1.keep ht,z.2.2⟩
section
variable {P:Program} {w:World} {H:Hp} {h:Heap} {a:Addr}
theorem rd_of {u:HO} (ok:HOk P w H h) (e:Rd H a u):ObjOk P w H h a u:=e.ok ok
theorem dk_rd {kvs:List (Key × V)} (ok:HOk P w H h) (e:Rd H a (.dK kvs)):kvs.length<=sizeLine/\(a == sysModules)=false/\∃ vs,KV kvs vs/\h.DictOf (mixKind P w) a vs:=
  show ObjOk P w H h a (.dK kvs) from rd_of ok e
theorem dk_of {kvs:List (Key × V)} (ok:HOk P w H h) (e:H a=some (.dK kvs)):kvs.length<=sizeLine/\(a == sysModules)=false/\∃ vs,KV kvs vs/\h.DictOf (mixKind P w) a vs:=dk_rd ok (.inl e)
mutual
theorem kat_is (ok:HOk P w H h):∀ {k:HK} {v:V} {u:Value},KAt H k v->RelV v u->KIs h k u
  | .int _,_,_,r,ru=>by cases r; exact ru
  | .str _,_,_,r,ru=>by cases r; exact ru
  | .tup l,_,u,⟨a,vs,e,hh,r⟩,ru=>by
    subst e
    cases (show u=Value.ref a from ru)
    obtain ⟨_,its,rv,p⟩:=(show ObjOk P w H h a (.tup vs) from ok a _ hh)
    exact ⟨a,its.toArray,rfl,p,by simpa using katL_is ok r rv⟩
theorem katL_is (ok:HOk P w H h):∀ {l:List HK} {vs:List V} {us:List Value},KAtL H l vs->Vals vs us->KIsL h l us
  | [],_,_,r,ru=>by cases r; cases ru; rfl
  | _ :: _,_,_,⟨v,r,e,h1,t⟩,ru=>by
    subst e
    cases ru with
    | cons a b=>exact ⟨_,_,rfl,kat_is ok h1 a,katL_is ok t b⟩
end
theorem key_of {k:HK} (ok:HOk P w H h) (e:KR H k a):(nk P w).is h k a:=⟨kat_is ok e.1 rfl,e.2⟩
theorem nk_room {A:Around} (hu:A.units + 9 < cLine):(nk P w).room A.in1:=by show A.units + 1 + 5 < cLine; omega
theorem dt_rd {kvs:List (HK × V)} (ok:HOk P w H h) (e:Rd H a (.dT kvs)):kvs.length<=sizeLine/\(a == sysModules)=false /\
    ∃ xs,KT H kvs xs/\h.DictOfH (nk P w) a xs:=by
  obtain ⟨z,y,xs,r,o,es,ep,h1,h2,h3,h4,h5⟩:=(show ObjOk P w H h a (.dT kvs) from rd_of ok e)
  refine ⟨z,y,xs,r,o,es,ep,h1,h2,h3,h4,fun x hx=>?_,h5⟩
  have all:∀ {l:List (HK × V)} {m:List (HK × Addr × Value)},KT H l m->∀ x ∈ m,(nk P w).is h x.1 x.2.1:=by
    intro l m q
    induction q with
    | nil=>intro x hx; exact nomatch hx
    | @cons p q ps qs hq t ih=>
      intro x hx
      rcases List.mem_cons.mp hx with e | hx
      · subst e
        exact key_of ok (by rw [<- hq.1]; exact hq.2.1)
      · exact ih x hx
  exact all r x hx
theorem dt_of {kvs:List (HK × V)} (ok:HOk P w H h) (e:H a=some (.dT kvs)):kvs.length<=sizeLine/\(a == sysModules)=false /\
    ∃ xs,KT H kvs xs/\h.DictOfH (nk P w) a xs:=dt_rd ok (.inl e)
end
def DGet (H:Hp) (a:Addr) (y:V) (r:Option V):Prop:=
  (∃ kvs k,Rd H a (.dK kvs)/\y=kV k/\r=valV kvs k)\/∃ kvs k b,Rd H a (.dT kvs)/\y=.ref b/\KR H k b/\r=valV kvs k
def DPut (H:Hp) (a:Addr) (y v:V) (H':Hp):Prop:=
  (∃ kvs k,H a=some (.dK kvs)/\y=kV k/\kvs.length < sizeLine/\H'=upd H a (.dK (putK kvs k v))) \/
  ∃ kvs k b,H a=some (.dT kvs)/\y=.ref b/\KR H k b/\kvs.length < sizeLine/\H'=upd H a (.dT (putK kvs k v))
theorem DGet.t {H:Hp} {a b:Addr} {kvs:List (HK × V)} {k:HK} (e:H a=some (.dT kvs)) (eb:KR H k b):DGet H a (.ref b) (valV kvs k):=.inr ⟨kvs,k,b,.inl e,rfl,eb,rfl⟩
theorem DPut.t {H:Hp} {a b:Addr} {kvs:List (HK × V)} {k:HK} {v:V} (e:H a=some (.dT kvs)) (eb:KR H k b) (hl:kvs.length < sizeLine) :
    DPut H a (.ref b) v (upd H a (.dT (putK kvs k v))):=.inr ⟨kvs,k,b,e,rfl,eb,hl,rfl⟩
section
variable {X:Cx} {pins:List (Addr × Obj)} {σ:St} {H:Hp} {s:Shared} {a:Addr} {y v:V} {u r:Value} {o:Option V} {A:Around} {E:Value->Shared->Prop}
theorem Inv.big (I:Inv X pins σ H s):sysModules < s.heap.objs.size:=by
  have h:mainGlobals < s.heap.objs.size:=(I.mod.glob.keeps I.bk).lt
  exact Nat.lt_trans (by decide) h
theorem d_in {Q:Value->Shared->Prop} (hu:A.units + 9 < cLine) (I:Inv X pins σ H s) (g:DGet H a y o) (ry:RelV y u) (h:∀ s',Inv X pins σ H s'->Q (.bool o.isSome) s') :
    wpAny (model X.prog X.w) A (compareOp .In u (.ref a)) Q E s:=by
  rcases g with ⟨kvs,k,e,ey,l⟩ | ⟨kvs,k,b,e,ey,eb,l⟩
  · subst ey
    obtain ⟨z,hd,vs,rel,dd⟩:=dk_rd I.hok e
    refine wpAny_in_of (kV_is ry) hd dd.mapOf ?_
    rw [<- (rel.val k).isSome_eq,<- l]
    exact h _ (I.tok _)
  · subst ey
    cases (show u=Value.ref b from ry)
    obtain ⟨z,hd,xs,rel,dd⟩:=dt_rd I.hok e
    refine wpAny_in_heap (nk_room hu) (key_of I.hok eb) hd dd ?_
    have q:=(rel.val k).isSome_eq
    rw [Option.isSome_map] at q
    rw [<- q,<- l]
    exact h _ (I.tok _)
theorem d_write {h':Heap} {t':Nat} {ob:HO} (I:Inv X pins σ H s) (mu:Mut (H a)) (hs:Heap.SameBut a s.heap h') (he:∃ q,h'.get? a=some q) (new:ObjOk X.prog X.w (upd H a ob) h' a ob) :
    Inv X pins σ (upd H a ob) { s with heap:=h',toks:=t' }:=
  I.write (x:=a) (e:=a) mu (.inl rfl) (fun b q hb z=>(hs.2 b hb).trans z) he new
theorem dk_new {P:Program} {w:World} {H':Hp} {h':Heap} {kvs:List (Key × V)} {vs:List (Key × Value)} (z:kvs.length<=sizeLine) (hd:(a == sysModules)=false) (rel:KV kvs vs) (dd:h'.DictOf (mixKind P w) a vs) :
    ObjOk P w H' h' a (.dK kvs):=⟨z,hd,vs,rel,dd⟩
theorem d_setItem {H':Hp} {Q:Unit->Shared->Prop} (hu:A.units + 9 < cLine) (I:Inv X pins σ H s) (g:DPut H a y v H') (ry:RelV y u) (rv:RelV v r) (h:∀ s',Inv X pins σ H' s'->Q () s') :
    wpAny (model X.prog X.w) A (setItem (.ref a) u r) Q E s:=by
  rcases g with ⟨kvs,k,e,ey,l,eH⟩ | ⟨kvs,k,b,e,ey,eb,l,eH⟩
  · subst ey eH
    obtain ⟨z,hd,vs,rel,dd⟩:=dk_of I.hok e
    have hz:vs.length<=sizeLine:=by rw [<- rel.length]; exact z
    have hl:(putK kvs k v).length<=sizeLine:=by have:=length_putK kvs k v; omega
    refine wpAny_setItem_pairs (hsz:=hz) (kV_is ry) dd fun h' dd' hs=>h _ ?_
    have he:∃ q,h'.get? a=some q:=let ⟨q,_,_,hq,_⟩:=dd'; ⟨q,hq⟩
    exact d_write I (by rw [e]; exact True.intro) hs he (dk_new hl hd (rel.put k rv) dd')
  · subst ey eH
    cases (show u=Value.ref b from ry)
    obtain ⟨z,hd,xs,rel,dd⟩:=dt_of I.hok e
    have hz:xs.length<=sizeLine:=by rw [<- Paired.length rel]; exact z
    have hl:(putK kvs k v).length<=sizeLine:=by have:=length_putK kvs k v; omega
    refine wpAny_setItem_heap (hsz:=hz) (nk_room hu) (key_of I.hok eb) dd fun h' dd' hs=>h _ ?_
    obtain ⟨q,es,ep,hq,h2,h3,h4,_,h5⟩:=dd'
    refine d_write I (by rw [e]; exact True.intro) hs ⟨q,hq⟩ ⟨hl,hd,_,(rel.put k eb rv).keeps fun c ys ec=>?_,q,es,ep,hq,h2,h3,h4,h5⟩
    rw [upd_ne (ne_of ec e (fun z=>nomatch z))]
    exact ec
end
section
variable {X:Cx} {pins:List (Addr × Obj)} {σ:St} {H:Hp} {s:Shared} {a:Addr} {kvs:List (Key × V)} {k:Key} {u:Value} {A:Around} {E:Value->Shared->Prop}
end
def sDPut (td ty tv:TE):TS:=fun D σ H=>tv σ H fun v H1=>td σ H1 fun x H2=>ty σ H2 fun y H3=>∃ a H4,x=.ref a/\DPut H3 a y v H4/\D.nx σ H4
section
variable {X:Cx} {o i e value:Expr} {pos pos' tpos:Pos} {td ty tv:TE}
theorem ps_dput (hu:X.A.units + 9 < cLine) (ho:PE X o td) (hi:PE X i ty) (hv:PE X value tv) (hs:swapsWith value (some (.Subscript o i pos')) pos.line X.env=pure false) :
    PS X (.Assign [.Subscript o i pos'] value pos) (sDPut td ty tv):=by
  intro pins s σ H D I h
  refine wpAny_Assign_Subscript (thn (hv pins s σ H _ I h) fun r s1 ⟨v,H1,I1,rv,q1⟩=>thn (ho pins s1 σ H1 _ I1 q1) fun u s2 ⟨x,H2,I2,rx,q2⟩=>thn (hi pins s2 σ H2 _ I2 q2) fun iv s3 ⟨y,H3,I3,ry,a,H4,ex,g,q3⟩=>?_) hs
  subst ex
  obtain rfl:u=Value.ref a:=rx
  exact d_setItem hu I3 g ry rv fun s4 I4=>⟨σ,H4,I4,q3⟩
end
theorem dt_empty {P:Program} {w:World} {H:Hp} (h:Heap) (hb:sysModules < h.objs.size):ObjOk P w H (h.push { cls:=.type "dict",data:=.dict #[] }) h.objs.size (.dT []):=
  ⟨Nat.zero_le _,beq_eq_false_iff_ne.mpr (Ne.symm (Nat.ne_of_lt hb)),[],.nil,_,#[],0,Heap.get?_push_size _ rfl,⟨rfl,rfl,rfl⟩,rfl,rfl,List.nodup_nil⟩
def tDNewT:TE:=fun _ H Q=>∀ p,H p=none->Q (.ref p) (upd H p (.dT []))
section
variable {X:Cx} {pos:Pos}
theorem pe_dnewT:PE X (.Dict [] [] pos) tDNewT:=fun pins s σ H Q I h=>
  wpAny_Dict_empty ⟨.ref s.heap.objs.size,_,I.laid (a:=s.heap.objs.size) (o:=.dT []) (t':=s.toks) (fun _ _ q=>Heap.get?_push_of_some _ q) (Nat.le_refl _) (dt_empty s.heap I.big),rfl,h _ (I.hok.fresh (Nat.le_refl _))⟩
end
structure M1 (X:Cx) (o:Expr) (m:Str) (apos:Pos) (e:Expr) (cpos:Pos):Prop where
  base:attributeBase o m X.env (eval o X.env)=eval o X.env
  few:((backTo cpos (starEach [e] X.env)).all (fun x=>!x.1) && (backToKw cpos (keywordEach [] X.env)).all (fun x=>x.1.isSome)
    && decide (([e]:List Expr).length + ([]:List Keyword).length + (if ([]:List Keyword).isEmpty then 0 else 1) < 30))=true
  line:(apos.endLine == cpos.line)=true
  trees:backTo cpos (starEach [e] X.env)=[(false,eval e X.env)]
structure M2 (X:Cx) (o:Expr) (m:Str) (apos:Pos) (e f:Expr) (cpos:Pos):Prop where
  base:attributeBase o m X.env (eval o X.env)=eval o X.env
  few:((backTo cpos (starEach [e,f] X.env)).all (fun x=>!x.1) && (backToKw cpos (keywordEach [] X.env)).all (fun x=>x.1.isSome)
    && decide (([e,f]:List Expr).length + ([]:List Keyword).length + (if ([]:List Keyword).isEmpty then 0 else 1) < 30))=true
  line:(apos.endLine == cpos.line)=true
  trees:backTo cpos (starEach [e,f] X.env)=[(false,eval e X.env),(false,eval f X.env)]
section
variable {X:Cx} {pins:List (Addr × Obj)} {σ:St} {H:Hp} {s:Shared} {a:Addr} {y d:V} {u r:Value} {o:Option V} {A:Around} {E:Value->Shared->Prop}
end
section
variable {X:Cx} {o e f:Expr} {apos cpos:Pos} {td ty tx:TE}
end
section
variable {X:Cx} {pins:List (Addr × Obj)} {σ:St} {H:Hp} {s:Shared} {a:Addr} {kvs:List (Key × V)} {A:Around} {E:Value->Shared->Prop}
end
section
variable {X:Cx} {pins:List (Addr × Obj)} {σ:St} {H:Hp} {s:Shared} {a:Addr} {y:V} {u:Value} {A:Around} {E:Value->Shared->Prop}
end
section
variable {X:Cx}
end
end L2
namespace L2
open PySem PySem.Spec PyProof.Rows
open AutoSeq1 (wpAny_loadPart')
section
variable {prog:Program} {w:World} {A:Around} {E:Value->Shared->Prop} {s:Shared}
end
section
variable {prog:Program} {w:World} {A:Around} {E:Value->Shared->Prop} {s:Shared}
end
section
variable {X:Cx} {a:Expr} {ta:TA} {p p' pos pos':Pos}
end
end L2
namespace L2
open PySem PySem.Spec PyProof.Rows
section
variable {prog:Program} {w:World} {A:Around} {E:Value->Shared->Prop} {s:Shared}
end
section
variable {X:Cx} {e e3:Expr} {te t3:TE} {pos p2:Pos}
end
end L2
namespace L2
open PySem PySem.Spec PyProof.Rows
theorem noKeys_list:typeLookup (.type "list") "keys" = pure none:=am_miss_of_fast (by decide +kernel)
theorem getAttrQ_list {prog:Program} {w:World} {A:Around} {E:Value->Shared->Prop} {s:Shared} {a:Addr} {xs:Array Value} {k:Nat} {sl:Array (Option Value)} {Q:Option Value->Shared->Prop}
    (hx:s.heap.get? a=some { cls:=.type "list",dict:=none,data:=.seq xs k,slots:=sl }) (hA:A.handled=none)
    (h:∀ h' tk,(∀ b o,s.heap.get? b=some o->h'.get? b=some o)->Q none { s with heap:=h',toks:=tk }) :
    wpAny (model prog w) A (getAttr? (.ref a) "keys") Q E s:=by
  obtain ⟨hp,g,d,tk,os⟩:=s
  have hT:∀ tk',(⟨hp,g,d,tk',os⟩:Shared).TypeIs (.ref a) "list" := fun _=>⟨_,hx,rfl⟩
  have f1:=sub_AttributeError
  have f3:=F.slot_list_getattribute.lookup
  have f4:=F.slot_list_getattribute.bind (.ref a)
  have f5:=am_list_getattr_none
  have hname:(["__module__", "__name__", "__qualname__", "__doc__", "__annotations__"]:List Str).contains "keys" = false:=by decide +kernel
  unfold getAttr? getAttrBy? getAttrBy
  repeat (any_goals (first | assumption | exact hT _ | ((with_reducible show wpAny _ _ (call (Value.builtin "list.__getattribute__") _ _) _ _ _); refine call_meets F.slot_list_getattribute (hT _) am_entry_list_getattribute (F.args_list_getattribute_2 _ _) (meets_getattribute_miss_list a xs k sl "keys" _ noKeys_list hname) ⟨hx,hA,fun h' tk' e hx'=>?_⟩) | wp_step))
  obtain ⟨t',u',he⟩:=hx'.there
  show wpAny _ _ (getattributeRaised _ _ _ _ _ _ _) _ _ _
  unfold getattributeRaised
  repeat (any_goals (first | assumption | wp_step))
  exact h _ _ hx'.of.keeps
theorem entry_dict_loop:entryFor table "dict.update.loop" = some Builtin.«dict.update.loop»:=entryFor_of_tree (by kernel_rfl)
theorem plain_dict_loop:plainId "dict.update.loop" = true:=by decide +kernel
section
variable {prog:Program} {w:World} {K:Type} [DecidableEq K] {knd:KeyKind prog w K} {A:Around} {R:Result->Shared->Prop}
end
end L2
namespace L2
open PySem PySem.Spec PyProof.Rows
section
variable {X:Cx} {pins:List (Addr × Obj)} {σ:St} {H:Hp} {s:Shared} {a:Addr} {tg:Expr}
end
end L2
namespace L2
open PySem PySem.Spec PyProof.Rows PySem.W
def evT {α:Type} (c:Nat->Nat->Bool):KasT α->α
  | .ret a=>a
  | .ask i j k=>evT c (k (c i j))
theorem evT_bind {α β:Type} (c:Nat->Nat->Bool) (f:α->KasT β):∀ t:KasT α,evT c (t.bind f)=evT c (f (evT c t))
  | .ret _=>rfl
  | .ask i j k=>evT_bind c f (k (c i j))
section
variable (r:Nat->Nat)
def rk (p:Array Nat) (i:Nat):Nat:=r (p.getD i 0)
def cR:Nat->Nat->Bool:=fun i j=>decide (r i < r j)
variable {r}
theorem rk_of {p q:Array Nat} {i j:Nat} (h:p[i]?=q[j]?):rk r p i=rk r q j:=by
  unfold rk
  rw [Array.getD_eq_getD_getElem?,Array.getD_eq_getD_getElem?,h]
theorem rk_rev {p:Array Nat} {i j:Nat} (hj:j<=p.size) (k:Nat):rk r (kas_rev p i j) k=if i<=k/\k < j then rk r p (i + j - 1 - k) else rk r p k:=by
  have h:=getElem?_mirror_all (xs:=p) (i:=i) hj k
  by_cases q:i<=k/\k < j
  · rw [if_pos q] at h ⊢; exact rk_of h
  · rw [if_neg q] at h ⊢; exact rk_of h
theorem rk_bub {p:Array Nat} {src d:Nat} (hs:src < p.size) (hd:d<=src) (k:Nat):rk r (bubble p src d) k=if k=src - d then rk r p src else if src - d < k/\k<=src then rk r p (k - 1) else rk r p k:=by
  have h:=getElem?_bubble hs d hd k
  by_cases q:k=src - d
  · rw [if_pos q] at h ⊢; exact rk_of h
  · rw [if_neg q] at h ⊢
    by_cases q2:src - d < k/\k<=src
    · rw [if_pos q2] at h ⊢; exact rk_of h
    · rw [if_neg q2] at h ⊢; exact rk_of h
theorem rev_size {p:Array Nat} (i j:Nat):(kas_rev p i j).size=p.size:=mirror_size _ _ _ _
theorem rev_perm {p:Array Nat} (i j:Nat):(kas_rev p i j).Perm p:=mirror_perm _ _ _ _
theorem asc_ev (p:Array Nat):∀ f n,1<=n->n<=evT (cR r) (kas_asc p f n)/\evT (cR r) (kas_asc p f n)<=n + f/\(∀ i,n<=i->i < evT (cR r) (kas_asc p f n)->rk r p (i - 1)<=rk r p i)/\(evT (cR r) (kas_asc p f n) < n + f->rk r p (evT (cR r) (kas_asc p f n)) < rk r p (evT (cR r) (kas_asc p f n) - 1))
  | 0,n,_=>⟨Nat.le_refl _,Nat.le_refl _,fun i h1 h2=>absurd h2 (by show ¬ i < n; omega),fun h=>absurd h (by show ¬ n < n + 0; omega)⟩
  | f + 1,n,hn=>by
    have e:evT (cR r) (kas_asc p (f + 1) n)=if rk r p n < rk r p (n - 1) then n else evT (cR r) (kas_asc p f (n + 1)):=by
      show evT (cR r) (if decide (rk r p n < rk r p (n - 1))=true then KasT.ret n else kas_asc p f (n + 1))=_
      by_cases q:rk r p n < rk r p (n - 1)
      · rw [if_pos (by simpa using q),if_pos q]; rfl
      · rw [if_neg (by simpa using q),if_neg q]
    rw [e]
    by_cases q:rk r p n < rk r p (n - 1)
    · rw [if_pos q]
      exact ⟨Nat.le_refl _,by omega,fun i h1 h2=>by omega,fun _=>q⟩
    · rw [if_neg q]
      obtain ⟨h1,h2,h3,h4⟩:=asc_ev p f (n + 1) (by omega)
      refine ⟨by omega,by omega,fun i g1 g2=>?_,fun g=>h4 (by omega)⟩
      by_cases z:i=n
      · subst z; omega
      · exact h3 i (by omega) g2
theorem rk_eqrev {p:Array Nat} {i j:Nat} (hj:j<=p.size) (h:∀ k,i<=k->k < j->rk r p k=rk r p (j - 1)) (k:Nat):rk r (kas_rev p i j) k=rk r p k:=by
  rw [rk_rev hj]
  by_cases q:i<=k/\k < j
  · rw [if_pos q,h (i + j - 1 - k) (by omega) (by omega),h k q.1 q.2]
  · rw [if_neg q]
structure Dsc (r:Nat->Nat) (p:Array Nat) (n q:Nat):Prop where
  n1:1<=n
  sz:n<=p.size
  qn:q + 1<=n
  de:∀ i,1<=i->i < n->rk r p i<=rk r p (i - 1)
  eq:∀ i,n - (q + 1)<=i->i < n->rk r p i=rk r p (n - 1)
theorem desc_ev:∀ f (p:Array Nat) n q,Dsc r p n q->n + f<=p.size->Dsc r (evT (cR r) (kas_desc f p n q)).1 (evT (cR r) (kas_desc f p n q)).2.1 (evT (cR r) (kas_desc f p n q)).2.2/\(evT (cR r) (kas_desc f p n q)).1.Perm p/\n<=(evT (cR r) (kas_desc f p n q)).2.1/\(evT (cR r) (kas_desc f p n q)).2.1<=n + f
  | 0,p,n,q,h,_=>⟨h,Array.Perm.refl _,Nat.le_refl _,Nat.le_refl _⟩
  | f + 1,p,n,q,h,hs=>by
    have e:evT (cR r) (kas_desc (f + 1) p n q)=if rk r p n < rk r p (n - 1) then (if q > 0 then evT (cR r) (kas_desc f (kas_rev p (n - (q + 1)) n) (n + 1) 0) else evT (cR r) (kas_desc f p (n + 1) 0)) else if rk r p (n - 1) < rk r p n then (p,n,q) else evT (cR r) (kas_desc f p (n + 1) (q + 1)):=by
      show evT (cR r) (if decide (rk r p n < rk r p (n - 1))=true then (if q > 0 then kas_desc f (kas_rev p (n - (q + 1)) n) (n + 1) 0 else kas_desc f p (n + 1) 0) else KasT.ask (p.getD (n - 1) 0) (p.getD n 0) fun d=>if d=true then .ret (p,n,q) else kas_desc f p (n + 1) (q + 1))=_
      by_cases z:rk r p n < rk r p (n - 1)
      · rw [if_pos (by simpa using z),if_pos z]
        split <;> rfl
      · rw [if_neg (by simpa using z),if_neg z]
        show evT (cR r) (if decide (rk r p (n - 1) < rk r p n)=true then KasT.ret (p,n,q) else kas_desc f p (n + 1) (q + 1))=_
        by_cases z2:rk r p (n - 1) < rk r p n
        · rw [if_pos (by simpa using z2),if_pos z2]; rfl
        · rw [if_neg (by simpa using z2),if_neg z2]
    rw [e]
    by_cases z:rk r p n < rk r p (n - 1)
    · rw [if_pos z]
      by_cases hq:q > 0
      · rw [if_pos hq]
        have he:=rk_eqrev (r:=r) (p:=p) (i:=n - (q + 1)) (j:=n) h.sz h.eq
        obtain ⟨h1,h2,h3,h4⟩:=desc_ev f (kas_rev p (n - (q + 1)) n) (n + 1) 0 ⟨by omega,by rw [rev_size]; omega,by omega,fun i g1 g2=>by
          rw [he,he]
          by_cases y:i=n
          · subst y; omega
          · exact h.de i g1 (by omega),fun i g1 g2=>by
          have:i=n:=by omega
          subst this; rfl⟩ (by rw [rev_size]; omega)
        exact ⟨h1,h2.trans (rev_perm _ _),by omega,by omega⟩
      · rw [if_neg hq]
        obtain ⟨h1,h2,h3,h4⟩:=desc_ev f p (n + 1) 0 ⟨by omega,by omega,by omega,fun i g1 g2=>by
          by_cases y:i=n
          · subst y; omega
          · exact h.de i g1 (by omega),fun i g1 g2=>by
          have:i=n:=by omega
          subst this; rfl⟩ (by omega)
        exact ⟨h1,h2,by omega,by omega⟩
    · rw [if_neg z]
      by_cases z2:rk r p (n - 1) < rk r p n
      · rw [if_pos z2]
        exact ⟨h,Array.Perm.refl _,Nat.le_refl _,by show n<=n + (f + 1); omega⟩
      · rw [if_neg z2]
        have hn:=h.n1
        have hqn:=h.qn
        obtain ⟨h1,h2,h3,h4⟩:=desc_ev f p (n + 1) (q + 1) ⟨by omega,by omega,by omega,fun i g1 g2=>by
          by_cases y:i=n
          · subst y; omega
          · exact h.de i g1 (by omega),fun i g1 g2=>by
          show rk r p i=rk r p n
          by_cases y:i=n
          · rw [y]
          · rw [h.eq i (by omega) (by omega)]; omega⟩ (by omega)
        exact ⟨h1,h2,by omega,by omega⟩
def Srt (r:Nat->Nat) (p:Array Nat) (m:Nat):Prop:=∀ i,1<=i->i < m->rk r p (i - 1)<=rk r p i
theorem tail_ev {p:Array Nat} {n nrem:Nat} (hn:1<=n) (hnr:n<=nrem) (hs:nrem<=p.size) (hd:∀ i,1<=i->i < n->rk r p i<=rk r p (i - 1)) :
    1<=(evT (cR r) (kas_tail3 n nrem p)).1/\(evT (cR r) (kas_tail3 n nrem p)).1<=nrem/\Srt r (evT (cR r) (kas_tail3 n nrem p)).2 (evT (cR r) (kas_tail3 n nrem p)).1/\(evT (cR r) (kas_tail3 n nrem p)).2.Perm p:=by
  obtain ⟨h1,h2,h3,_⟩:=asc_ev (r:=r) (kas_rev p 0 n) (nrem - n) n hn
  unfold kas_tail3
  rw [evT_bind]
  show 1<=evT (cR r) (kas_asc (kas_rev p 0 n) (nrem - n) n)/\_/\Srt r (kas_rev p 0 n) _/\(kas_rev p 0 n).Perm p
  refine ⟨by omega,by show evT (cR r) (kas_asc (kas_rev p 0 n) (nrem - n) n)<=nrem; omega,fun i g1 g2=>?_,rev_perm _ _⟩
  by_cases z:i < n
  · rw [rk_rev (by omega),rk_rev (by omega),if_pos (by omega),if_pos (by omega)]
    have:=hd (0 + n - 1 - (i - 1)) (by omega) (by omega)
    rw [show 0 + n - 1 - (i - 1) - 1=0 + n - 1 - i by omega] at this
    exact this
  · exact h3 i (by omega) g2
theorem descPart_ev {p:Array Nat} {n nrem:Nat} (hn:1<=n) (hnr:n < nrem) (hs:nrem<=p.size) (heq:∀ i,i < n->rk r p i=rk r p (n - 1)) (hlt:rk r p n < rk r p (n - 1)) :
    1<=(evT (cR r) (kas_descPart n nrem p)).1/\(evT (cR r) (kas_descPart n nrem p)).1<=nrem/\Srt r (evT (cR r) (kas_descPart n nrem p)).2 (evT (cR r) (kas_descPart n nrem p)).1/\(evT (cR r) (kas_descPart n nrem p)).2.Perm p:=by
  obtain ⟨D,P,h3,h4⟩:=desc_ev (r:=r) (nrem - (n + 1)) p (n + 1) 0 ⟨by omega,by omega,by omega,fun i g1 g2=>by
    by_cases y:i=n
    · subst y; omega
    · rw [heq i (by omega),heq (i - 1) (by omega)]; exact Nat.le_refl _,fun i g1 g2=>by
    have:i=n:=by omega
    subst this; rfl⟩ (by omega)
  unfold kas_descPart
  rw [evT_bind]
  generalize evT (cR r) (kas_desc (nrem - (n + 1)) p (n + 1) 0)=x at *
  obtain ⟨p1,m,q⟩:=x
  have sz:p1.size=p.size:=P.size_eq
  simp only at D P h3 h4
  dsimp only
  by_cases z:q > 0
  · rw [if_pos z]
    have he:=rk_eqrev (r:=r) (p:=p1) (i:=m - (q + 1)) (j:=m) D.sz D.eq
    obtain ⟨a,b,c,d⟩:=tail_ev (r:=r) (p:=kas_rev p1 (m - (q + 1)) m) (n:=m) (nrem:=nrem) D.n1 (by omega) (by rw [rev_size]; omega) (fun i g1 g2=>by rw [he,he]; exact D.de i g1 g2)
    exact ⟨a,b,c,(d.trans (rev_perm _ _)).trans P⟩
  · rw [if_neg z]
    obtain ⟨a,b,c,d⟩:=tail_ev (r:=r) (p:=p1) (n:=m) (nrem:=nrem) D.n1 (by omega) (by omega) D.de
    exact ⟨a,b,c,d.trans P⟩
theorem Srt.le {p:Array Nat} {m:Nat} (h:Srt r p m):∀ {i j:Nat},i<=j->j < m->rk r p i<=rk r p j:=by
  intro i j hij
  induction j with
  | zero => intro _; have : i = 0 := by omega
            subst this; exact Nat.le_refl _
  | succ j ih=>
    intro hj
    by_cases z:i=j + 1
    · subst z; exact Nat.le_refl _
    · have h1:=ih (by omega) (by omega)
      have h2:=h (j + 1) (by omega) hj
      rw [Nat.add_sub_cancel] at h2
      exact Nat.le_trans h1 h2
theorem count_ev {p:Array Nat} {n:Nat} (hn:1<=n) (hs:n<=p.size) :
    1<=(evT (cR r) (kas_count n p)).1/\(evT (cR r) (kas_count n p)).1<=n/\Srt r (evT (cR r) (kas_count n p)).2 (evT (cR r) (kas_count n p)).1/\(evT (cR r) (kas_count n p)).2.Perm p:=by
  obtain ⟨h1,h2,h3,h4⟩:=asc_ev (r:=r) p (n - 1) 1 (Nat.le_refl _)
  unfold kas_count
  rw [evT_bind]
  generalize evT (cR r) (kas_asc p (n - 1) 1)=m at *
  have S:Srt r p m:=fun i g1 g2=>h3 i g1 g2
  by_cases z:m=n
  · subst z
    rw [if_pos (by simp)]
    exact ⟨h1,Nat.le_refl _,S,Array.Perm.refl _⟩
  · rw [if_neg (by simpa using z)]
    have hlt:=h4 (by omega)
    by_cases z2:m > 1
    · rw [if_pos z2]
      show 1<=(evT (cR r) (if decide (rk r p 0 < rk r p (m - 1))=true then KasT.ret (m,p) else kas_descPart m n (kas_rev p 0 m))).1/\(evT (cR r) (if decide (rk r p 0 < rk r p (m - 1))=true then KasT.ret (m,p) else kas_descPart m n (kas_rev p 0 m))).1<=n/\Srt r (evT (cR r) (if decide (rk r p 0 < rk r p (m - 1))=true then KasT.ret (m,p) else kas_descPart m n (kas_rev p 0 m))).2 (evT (cR r) (if decide (rk r p 0 < rk r p (m - 1))=true then KasT.ret (m,p) else kas_descPart m n (kas_rev p 0 m))).1/\(evT (cR r) (if decide (rk r p 0 < rk r p (m - 1))=true then KasT.ret (m,p) else kas_descPart m n (kas_rev p 0 m))).2.Perm p
      by_cases z3:rk r p 0 < rk r p (m - 1)
      · rw [if_pos (by simpa using z3)]
        exact ⟨h1,by show m<=n; omega,S,Array.Perm.refl _⟩
      · rw [if_neg (by simpa using z3)]
        have eq:∀ i,i < m->rk r p i=rk r p (m - 1):=fun i hi=>by
          have a:=S.le (i:=0) (j:=i) (by omega) hi
          have b:=S.le (i:=i) (j:=m - 1) (by omega) (by omega)
          omega
        have he:=rk_eqrev (r:=r) (p:=p) (i:=0) (j:=m) (by omega) (fun k _ hk=>eq k hk)
        obtain ⟨a,b,c,d⟩:=descPart_ev (r:=r) (p:=kas_rev p 0 m) (n:=m) (nrem:=n) h1 (by omega) (by rw [rev_size]; exact hs) (fun i hi=>by rw [he,he]; exact eq i hi) (by rw [he,he]; exact hlt)
        exact ⟨a,b,c,d.trans (rev_perm _ _)⟩
    · rw [if_neg z2]
      have:m=1:=by omega
      subst this
      exact descPart_ev (r:=r) (Nat.le_refl _) (by omega) hs (fun i hi=>by rw [show i=0 by omega]) hlt
theorem place_ev {p:Array Nat} {k:Nat} (S:Srt r p k):∀ f l q,l<=q->q<=k->q - l<=f->(∀ i,i < l->rk r p i<=rk r p k)->(∀ i,q<=i->i < k->rk r p k < rk r p i) ->
    evT (cR r) (kas_place p k f l q)<=k/\(∀ i,i < evT (cR r) (kas_place p k f l q)->rk r p i<=rk r p k)/\(∀ i,evT (cR r) (kas_place p k f l q)<=i->i < k->rk r p k < rk r p i)
  | 0,l,q,h1,h2,h3,h4,h5=>by
    have:l=q:=by omega
    subst this
    exact ⟨h2,h4,h5⟩
  | f + 1,l,q,h1,h2,h3,h4,h5=>by
    by_cases z:l>=q
    · have:l=q:=by omega
      subst this
      have e:evT (cR r) (kas_place p k (f + 1) l l)=l:=by rw [kas_place,if_pos (Nat.le_refl _)]; rfl
      rw [e]
      exact ⟨h2,h4,h5⟩
    · have e:evT (cR r) (kas_place p k (f + 1) l q)=if rk r p k < rk r p ((l + q) / 2) then evT (cR r) (kas_place p k f l ((l + q) / 2)) else evT (cR r) (kas_place p k f ((l + q) / 2 + 1) q):=by
        rw [kas_place,if_neg z]
        show evT (cR r) (if decide (rk r p k < rk r p ((l + q) / 2))=true then kas_place p k f l ((l + q) / 2) else kas_place p k f ((l + q) / 2 + 1) q)=_
        by_cases y:rk r p k < rk r p ((l + q) / 2)
        · rw [if_pos (by simpa using y),if_pos y]
        · rw [if_neg (by simpa using y),if_neg y]
      rw [e]
      have m1:l<=(l + q) / 2:=by omega
      have m2:(l + q) / 2 < q:=by omega
      generalize (l + q) / 2=mm at *
      by_cases y:rk r p k < rk r p mm
      · rw [if_pos y]
        exact place_ev S f l mm m1 (by omega) (by omega) h4 fun i g1 g2=>Nat.lt_of_lt_of_le y (S.le g1 g2)
      · rw [if_neg y]
        exact place_ev S f (mm + 1) q (by omega) h2 (by omega) (fun i g=>Nat.le_trans (S.le (show i<=mm by omega) (by omega)) (by omega)) h5
theorem bin_ev:∀ f (p:Array Nat) k,1<=k->k + f<=p.size->Srt r p k->Srt r (evT (cR r) (kas_bin f p k)) (k + f)/\(evT (cR r) (kas_bin f p k)).Perm p
  | 0,p,k,_,_,S=>⟨S,Array.Perm.refl _⟩
  | f + 1,p,k,hk,hs,S=>by
    obtain ⟨h1,h2,h3⟩:=place_ev S k 0 k (Nat.zero_le _) (Nat.le_refl _) (by omega) (fun i g=>by omega) (fun i g1 g2=>by omega)
    have e:evT (cR r) (kas_bin (f + 1) p k)=evT (cR r) (kas_bin f (bubble p k (k - evT (cR r) (kas_place p k k 0 k))) (k + 1)):=by rw [kas_bin,evT_bind]
    rw [e]
    generalize evT (cR r) (kas_place p k k 0 k)=l at *
    have S2:Srt r (bubble p k (k - l)) (k + 1):=fun i g1 g2=>by
      rw [rk_bub (by omega) (by omega),rk_bub (by omega) (by omega),show k - (k - l)=l by omega]
      by_cases a:i=l
      · subst a
        rw [if_neg (by omega),if_neg (by omega),if_pos rfl]
        exact h2 (i - 1) (by omega)
      · by_cases b:i - 1=l
        · rw [if_pos b,if_neg a,if_pos (by omega),b]
          exact Nat.le_of_lt (h3 l (Nat.le_refl _) (by omega))
        · rw [if_neg b,if_neg a]
          by_cases c:l < i
          · rw [if_pos (by omega),if_pos (by omega)]
            exact S (i - 1) (by omega) (by omega)
          · rw [if_neg (by omega),if_neg (by omega)]
            exact S i g1 (by omega)
    obtain ⟨a,b⟩:=bin_ev f (bubble p k (k - l)) (k + 1) (by omega) (by rw [bubble_size]; omega) S2
    exact ⟨by rw [show k + (f + 1)=k + 1 + f by omega]; exact a,b.trans (bubble_perm _ _ _)⟩
theorem sort_ev {n:Nat} (hn:1<=n):Srt r (evT (cR r) (kas_sort n)) n/\(evT (cR r) (kas_sort n)).Perm (List.toArray (List.range n)):=by
  obtain ⟨h1,h2,h3,h4⟩:=count_ev (r:=r) (p:=List.toArray (List.range n)) (n:=n) hn (by simp)
  unfold kas_sort
  rw [evT_bind]
  generalize evT (cR r) (kas_count n (List.toArray (List.range n)))=x at *
  obtain ⟨m,p⟩:=x
  have sz:p.size=n:=by have:=h4.size_eq; simpa using this
  simp only at h1 h2 h3 h4
  dsimp only
  by_cases z:m < n
  · rw [if_pos z,show max m 1=m by omega]
    obtain ⟨a,b⟩:=bin_ev (r:=r) (n - m) p m h1 (by omega) h3
    rw [show m + (n - m)=n by omega] at a
    exact ⟨a,b.trans h4⟩
  · rw [if_neg z]
    have:m=n:=by omega
    subst this
    exact ⟨h3,h4⟩
end
def Asks {α:Type} (n:Nat):KasT α->(α->Prop)->Prop
  | .ret a,P=>P a
  | .ask i j k,P=>i < n/\j < n/\∀ b,Asks n (k b) P
theorem Asks.bind {α β:Type} {n:Nat} {P:α->Prop} {Q:β->Prop} {f:α->KasT β} (hf:∀ a,P a->Asks n (f a) Q):∀ {t:KasT α},Asks n t P->Asks n (t.bind f) Q
  | .ret a,h=>hf a h
  | .ask i j k,h=>⟨h.1,h.2.1,fun b=>Asks.bind hf (h.2.2 b)⟩
def AL (n:Nat) (p:Array Nat):Prop:=0 < n/\∀ x ∈ p.toList,x < n
theorem AL.get {n:Nat} {p:Array Nat} (h:AL n p) (i:Nat):p.getD i 0 < n:=by
  rw [Array.getD_eq_getD_getElem?]
  by_cases z:i < p.size
  · rw [Array.getElem?_eq_getElem z]
    exact h.2 _ (by simp)
  · rw [Array.getElem?_eq_none (by omega)]; exact h.1
theorem AL.perm {n:Nat} {p q:Array Nat} (h:AL n p) (e:q.Perm p):AL n q:=⟨h.1,fun x hx=>h.2 x ((Array.perm_iff_toList_perm.mp e).mem_iff.mp hx)⟩
theorem asks_if {α:Type} {n:Nat} {P:α->Prop} {c:Prop} [Decidable c] {t u:KasT α} (h1:Asks n t P) (h2:Asks n u P):Asks n (if c then t else u) P:=by
  split
  · exact h1
  · exact h2
theorem asks_asc {n:Nat} {p:Array Nat} (h:AL n p):∀ f m,Asks n (kas_asc p f m) (fun _=>True)
  | 0,m=>trivial
  | f + 1,m=>⟨h.get _,h.get _,fun b=>asks_if trivial (asks_asc h f (m + 1))⟩
theorem asks_desc {n:Nat}:∀ f (p:Array Nat) m q,AL n p->Asks n (kas_desc f p m q) (fun x=>AL n x.1)
  | 0,p,m,q,h=>h
  | f + 1,p,m,q,h=>⟨h.get _,h.get _,fun b=>asks_if (asks_if (asks_desc f _ _ _ (h.perm (rev_perm _ _))) (asks_desc f _ _ _ h)) ⟨h.get _,h.get _,fun d=>asks_if h (asks_desc f _ _ _ h)⟩⟩
theorem asks_tail {n:Nat} {p:Array Nat} (h:AL n p) (m k:Nat):Asks n (kas_tail3 m k p) (fun x=>AL n x.2):=by
  unfold kas_tail3
  refine Asks.bind (P:=fun _=>True) (fun a _=>?_) (asks_asc (h.perm (rev_perm _ _)) _ _)
  exact h.perm (rev_perm _ _)
theorem asks_descPart {n:Nat} {p:Array Nat} (h:AL n p) (m k:Nat):Asks n (kas_descPart m k p) (fun x=>AL n x.2):=
  Asks.bind (fun x hx=>asks_if (asks_tail (AL.perm hx (rev_perm _ _)) _ _) (asks_tail hx _ _)) (asks_desc _ _ _ _ h)
theorem asks_count {n:Nat} {p:Array Nat} (h:AL n p) (k:Nat):Asks n (kas_count k p) (fun x=>AL n x.2):=by
  unfold kas_count
  refine Asks.bind (P:=fun _=>True) (fun m _=>?_) (asks_asc h _ _)
  refine asks_if (show AL n p from h) (asks_if ?_ (asks_descPart h _ _))
  exact ⟨h.get _,h.get _,fun c=>asks_if (show AL n p from h) (asks_descPart (h.perm (rev_perm _ _)) _ _)⟩
theorem asks_place {n:Nat} {p:Array Nat} (h:AL n p) (k:Nat):∀ f l q,Asks n (kas_place p k f l q) (fun _=>True)
  | 0,_,_=>trivial
  | f + 1,l,q=>by
    rw [kas_place]
    exact asks_if trivial ⟨h.get _,h.get _,fun c=>asks_if (asks_place h k f _ _) (asks_place h k f _ _)⟩
theorem asks_bin {n:Nat}:∀ f (p:Array Nat) k,AL n p->Asks n (kas_bin f p k) (fun _=>True)
  | 0,_,_,_=>trivial
  | f + 1,p,k,h=>by
    rw [kas_bin]
    exact Asks.bind (fun l _=>asks_bin f _ _ (h.perm (bubble_perm _ _ _))) (asks_place h k _ _ _)
theorem asks_sort {n:Nat} (hn:1<=n):Asks n (kas_sort n) (fun _=>True):=by
  have h:AL n (List.toArray (List.range n)):=⟨hn,fun x hx=>by simpa using hx⟩
  unfold kas_sort
  refine Asks.bind (P:=fun x=>AL n x.2) (fun x hx=>?_) (asks_count h n)
  exact asks_if (asks_bin _ _ _ hx) (show True from trivial)
theorem kasWp_ev {α:Type} {cmp:Nat->Nat->(Bool->Shared->Prop)->Shared->Prop} {c:Nat->Nat->Bool} {n:Nat} {s:Shared} (h:∀ i j (C:Bool->Shared->Prop),i < n->j < n->C (c i j) s->cmp i j C s) :
    ∀ (t:KasT α) (P:α->Prop) (Q:α->Shared->Prop),Asks n t P->Q (evT c t) s->t.kasWp cmp Q s
  | .ret a,_,_,_,q=>q
  | .ask i j k,P,Q,a,q=>h i j _ a.1 a.2.1 (kasWp_ev h (k (c i j)) P Q (a.2.2 _) q)
end L2
namespace L2
open PySem PySem.Spec PyProof.Rows PySem.W
section
variable {prog:Program} {w:World} {A:Around} {E:Value->Shared->Prop} {s:Shared}
theorem filter_len_lt {α:Type} {p q:α->Bool}:∀ {l:List α},(∀ x ∈ l,p x=true->q x=true)->(∃ x ∈ l,p x=false/\q x=true)->(l.filter p).length < (l.filter q).length
  | [],_,h=>by obtain ⟨_,h,_⟩:=h; cases h
  | x :: l,h,hx=>by
    have hle:(l.filter p).length<=(l.filter q).length:=by
      clear hx
      induction l with
      | nil=>exact Nat.le_refl _
      | cons y l ih=>
        have ih:=ih fun z hz=>h z (by rcases List.mem_cons.mp hz with rfl | hz <;> simp [*])
        have hy:=h y (by simp)
        rw [List.filter_cons,List.filter_cons]
        by_cases a:p y=true
        · rw [if_pos a,if_pos (hy a)]; simp; exact ih
        · rw [if_neg a]
          split
          · simp; omega
          · exact ih
    rw [List.filter_cons,List.filter_cons]
    obtain ⟨y,hy,h1,h2⟩:=hx
    rcases List.mem_cons.mp hy with rfl | hy
    · rw [h1,h2]; simp; omega
    · have ih:=filter_len_lt (fun z hz=>h z (List.mem_cons_of_mem _ hz)) ⟨y,hy,h1,h2⟩
      by_cases a:p x=true
      · rw [if_pos a,if_pos (h x (by simp) a)]; simp; exact ih
      · rw [if_neg a]
        split
        · simp; omega
        · exact ih
end
end L2
namespace L2
open PySem PySem.Spec PyProof.Rows
end L2
namespace L2
open PySem PySem.Spec PyProof.Rows PySem.W
section
variable {prog:Program} {w:World} {A:Around} {E:Value->Shared->Prop} {s:Shared}
end
end L2
namespace L2
open PySem PySem.Spec PyProof.Rows
section
variable {X:Cx}
end
end L2
namespace L2
open PySem PySem.Spec PyProof.Rows
def RawD (h:Heap) (a:Addr) (es:Array DictEntry) (ep:Nat):Prop:=∃ o,h.get? a=some o/\o.ExactDict/\o.data=.dict es ep
section
variable {prog:Program} {w:World} {A:Around} {E:Value->Shared->Prop} {s:Shared}
theorem RawD.typeIs {a:Addr} {es:Array DictEntry} {ep:Nat} (h:RawD s.heap a es ep):s.TypeIs (.ref a) "dict" := let ⟨o,e,x,_⟩:=h; ⟨o,e,x.1⟩
theorem RawD.obj {h:Heap} {a:Addr} {es:Array DictEntry} {ep:Nat} (x:RawD h a es ep):h.get? a=some { cls:=.type "dict",dict:=none,data:=.dict es ep,slots:=#[] }:=by
  obtain ⟨⟨c,dct,dat,sl⟩,ho,⟨h1,h2,h3⟩,h4⟩:=x
  simp only at h1 h2 h3 h4
  subst h1 h2 h3 h4
  exact ho
theorem raw_iter {d:Addr} {es:Array DictEntry} {ep:Nat} {Q:Value->Shared->Prop} (hd:(d == sysModules)=false) (hm:RawD s.heap d es ep)
    (hQ:Q (.ref s.heap.objs.size) { s with heap:=s.heap.push { cls:=.type "dict_keyiterator",data:=.fields #[.ref d,.int 0 0,.int es.size 0,.int ep 0] } }) :
    wpAny (model prog w) A (pyIter (.ref d)) Q E s:=by
  have hT:=hm.typeIs
  have ho:=hm.obj
  obtain ⟨hp,g,dr,tk,os⟩:=s
  refine wpAny_pyIter_slot hT PySem.F.slot_dict_iter (wpAny_call_entry PySem.F.slot_dict_iter hT PySem.F.entry_dict_iter ?_ (PySem.F.args_dict_iter_1 _))
  unfold Builtin.«dict.__iter__» Builtin.Dict.dictSlotNone
  repeat (any_goals (first | assumption | wp_step))
  refine ⟨_,rfl, "dict_keyiterator",_,⟨_,Heap.get?_push_size _ rfl,rfl⟩,PySem.F.slot_dict_keyiterator_next.lookup,hQ⟩
theorem key_owns:Builtin.Dict_items.ownsTuple ((Manifest.find? "dict_keyiterator").elim "dict_keyiterator" fun x=>x.tpName)=false:=by decide +kernel
theorem raw_item {it d:Addr} {i ep:Nat} {es:Array DictEntry} {e:DictEntry} {Q:Option Value->Shared->Prop} (hit:s.heap.IsKeyIter it d i es.size ep) (hm:RawD s.heap d es ep) (hx:es[i]?=some e)
    (hQ:∀ h',h'.IsKeyIter it d (i + 1) es.size ep->Heap.SameBut it s.heap h'->Q (some e.key) { s with heap:=h' }) :
    wpAny (model prog w) A (pyNext (.ref it)) Q E s:=by
  have hT:=hit.typeIs
  have ho:=hm.obj
  obtain ⟨⟨c,dct,dat,sl⟩,hoi,hci,hdi⟩:=hit
  simp only at hci hdi
  subst hci hdi
  obtain ⟨hp,g,dr,tk,os⟩:=s
  unfold pyNext
  refine wpAny_bind (wpAny_attempt (wpAny_callSpecial?_slot (name:=Str.ofString "__next__") hT PySem.F.slot_dict_keyiterator_next (wpAny_call_entry PySem.F.slot_dict_keyiterator_next hT PySem.F.entry_dict_keyiterator_next ?_ (PySem.F.args_dict_keyiterator_next_1 _))))
  repeat (any_goals (first | assumption | wp_step))
  simp only [key_owns,Bool.false_eq_true,if_false]
  simp only [show ¬ ((i:Int) < 0) by omega,if_false,Int.toNat_natCast,hx]
  repeat (any_goals (first | assumption | wp_step))
  simp only [key_owns,Bool.false_eq_true,if_false]
  rw [if_neg (show ¬ ((_:Bool)=true) by decide +kernel)]
  refine ⟨_,rfl,wpAny_pure (hQ _ ⟨_,Heap.get?_update_self _ hoi rfl,rfl,?_⟩ (Heap.SameBut.update ..))⟩
  simp [Obj.mapFields,rawInt]
theorem raw_end {it d:Addr} {i ep:Nat} {es:Array DictEntry} {Q:Option Value->Shared->Prop} (hh:A.handled=none) (hit:s.heap.IsKeyIter it d i es.size ep) (hm:RawD s.heap d es ep) (hx:es[i]?=none)
    (hQ:∀ h',Heap.ExtBut it s.heap h'->Q none { s with heap:=h' }) :
    wpAny (model prog w) A (pyNext (.ref it)) Q E s:=by
  have hT:=hit.typeIs
  have ho:=hm.obj
  obtain ⟨⟨c,dct,dat,sl⟩,hoi,hci,hdi⟩:=hit
  simp only at hci hdi
  subst hci hdi
  obtain ⟨hp,g,dr,tk,os⟩:=s
  unfold pyNext
  refine wpAny_bind (wpAny_attempt (wpAny_callSpecial?_slot (name:=Str.ofString "__next__") hT PySem.F.slot_dict_keyiterator_next (wpAny_call_entry PySem.F.slot_dict_keyiterator_next hT PySem.F.entry_dict_keyiterator_next ?_ (PySem.F.args_dict_keyiterator_next_1 _))))
  repeat (any_goals (first | assumption | wp_step))
  simp only [key_owns,Bool.false_eq_true,if_false]
  simp only [show ¬ ((i:Int) < 0) by omega,if_false,Int.toNat_natCast,hx]
  have hsub:=isSubtype_stop
  repeat (any_goals (first | assumption | wp_step))
  unfold raiseNew
  refine wpAny_bind (wpAny_handled ?_)
  rw [show A.in1.handled=none from hh]
  refine wpAny_bind (wpAny_pure (wpAny_throw ?_))
  refine wpAny_bind (wpAny_isInstance (T := "StopIteration") (b:=true) ⟨_,Heap.get?_push_size _ rfl,rfl⟩ isSubtype_stop ?_)
  exact wpAny_pure (hQ _ (((Heap.SameBut.update ..).extBut.push _).push _))
theorem RawD.at {h h':Heap} {a:Addr} {es:Array DictEntry} {ep:Nat} (x:RawD h a es ep) (k:∀ o,h.get? a=some o->h'.get? a=some o):RawD h' a es ep:=let ⟨o,e,r⟩:=x; ⟨o,k o e,r⟩
theorem RawD.lt {h:Heap} {a:Addr} {es:Array DictEntry} {ep:Nat} (x:RawD h a es ep):a < h.objs.size:=let ⟨_,e,_⟩:=x; Heap.lt_size e
theorem walks_raw (hh:A.handled=none) (I d:Addr) (hne:d ≠ I) (es:Array DictEntry) (ep:Nat) :
    Walks prog w A I [I,d] [I] es.size (fun i v=>∃ e,es[i]?=some e/\v=e.key) (fun i h=>h.IsKeyIter I d i es.size ep/\RawD h d es ep) where
  sub:=fun b hb=>by simp at hb; simp [hb]
  frame:=fun _ _ _ st hk=>⟨st.1.at fun o e=>hk I (by simp) o e,st.2.at fun o e=>hk d (by simp) o e⟩
  item:=fun i s Q E hi st hQ=>by
    refine raw_item st.1 st.2 (Array.getElem?_eq_getElem hi) fun h' hit' hs'=>?_
    exact hQ _ h' s.toks ⟨_,Array.getElem?_eq_getElem hi,rfl⟩ ⟨hit',st.2.at fun o e=>(hs'.2 d hne).trans e⟩ fun b o hb e=>hs'.extBut b o (fun h=>hb (by simp [h])) e
  done:=fun s Q E st hQ=>raw_end hh st.1 st.2 (by simp) fun h' he'=>hQ h' s.toks fun b o hb e=>he' b o (fun h=>hb (by simp [h])) e
  self:=fun _ _ _ _ st hQ=>wpAny_pyIter_keyiter st.1 hQ
theorem src_raw {d:Addr} {es:Array DictEntry} {ep:Nat} (lo:(d == sysModules)=false):PySem.W.KdlSrc prog w "dict" d d es.size (fun i v=>∃ e,es[i]?=some e/\v=e.key) (fun h=>RawD h d es ep) where
  type:=fun _ hm=>hm.typeIs
  there:=fun _ hm=>⟨hm.lt,hm.lt⟩
  keep:=fun _ _ hm hk=>hm.at fun o e=>hk d (.inl rfl) o e
  notList:=by decide
  notTuple:=by decide
  hint:=fun _ _ _ _ hm hq=>PySem.W.kdl_hint_dict hm.typeIs hq
  iter:=fun _ _ hh hm=>⟨_,_,(fun _ _ hq=>raw_iter lo hm hq),walks_raw hh _ d (Nat.ne_of_lt hm.lt) es ep,⟨⟨_,Heap.get?_push_size _ rfl,rfl,rfl⟩,hm.at fun o e=>Heap.get?_push_of_some _ e⟩⟩
theorem collect_raw {d:Addr} {es:Array DictEntry} {ep:Nat} {Q:List Value->Shared->Prop} (lo:(d == sysModules)=false) (hh:A.handled=none) (hm:RawD s.heap d es ep) (hn:es.size<=sizeLine)
    (h:∀ h' tk,(∀ b o,s.heap.get? b=some o->h'.get? b=some o)->s.heap.objs.size<=h'.objs.size->Q (es.toList.map (·.key)) { s with heap:=h',toks:=tk }):wpAny (model prog w) A (collect (.ref d)) Q E s:=by
  unfold collect
  refine wpAny_bind (wpAny_runValue (codeAny_builtin PySem.F.entry_proto_collect ?_))
  rw [Around.under_plainId PySem.F.plain_proto_collect _]
  show wpAny _ A.in1 (newList [] >>= fun l=>again (.builtin "list.__iadd__" ⟨[l,.ref d],[]⟩)) _ _ s
  refine wpAny_bind (wpAny_newObj_type ?_)
  refine wpAny_pure ⟨plainId_quiet PySem.F.plain_list_iadd _,codeAny_builtin PySem.F.entry_list_iadd ?_⟩
  rw [Around.under_plainId PySem.F.plain_list_iadd _]
  have hS:(s.heap.push { cls:=.type "list",data:=.seq ([]:List Value).toArray }).get? s.heap.objs.size=some { cls:=.type "list",data:=.seq ([]:List Value).toArray }:=Heap.get?_push_size _ rfl
  have hk0:∀ b o,s.heap.get? b=some o->(s.heap.push { cls:=.type "list",data:=.seq ([]:List Value).toArray }).get? b=some o:=fun b o e=>Heap.get?_push_of_some _ e
  have hne:s.heap.objs.size ≠ d:=Nat.ne_of_gt hm.lt
  show wpAny _ A.in1 (Builtin.List.listExtendWith (.ref s.heap.objs.size) (.ref d) (.ref s.heap.objs.size)) _ _ _
  refine PySem.W.kdl_extend (prog:=prog) (w:=w) (A:=A) (R:=fun r s'=>match r with | .ok (.ret v)=>wpAny (model prog w) A (match v with | .ref a=>do { let o <- load a; match o.data with | .seq xs _=>pure xs.toList | _=>unsupported "internal:collect" } | _=>unsupported "internal:collect") Q E s' | .ok _=>False | .error e=>E e s') (s:={ s with heap:=s.heap.push { cls:=.type "list",data:=.seq ([]:List Value).toArray } }) (src_raw (es:=es) (ep:=ep) lo) hh (hm.at fun o e=>hk0 d o e) s.heap.objs.size hne hne _ _ hS (fun h' tk acc c hk hS' hacc=>?_) hn
  show wpAny _ A (load s.heap.objs.size >>= _) _ _ _
  refine wpAny_bind (wpAny_load hS' ?_)
  have e:acc.toList=es.toList.map (·.key):=by
    apply List.ext_getElem?
    intro i
    by_cases z:i < es.size
    · have hi:i < acc.size:=by rw [hacc.1]; exact z
      obtain ⟨e,h1,h2⟩:=hacc.2 i acc[i] (Array.getElem?_eq_getElem hi)
      rw [Array.getElem?_toList,Array.getElem?_eq_getElem hi,h2,List.getElem?_map,Array.getElem?_toList,h1]; rfl
    · rw [Array.getElem?_toList,Array.getElem?_eq_none (by rw [hacc.1]; omega),List.getElem?_map,Array.getElem?_toList,Array.getElem?_eq_none (by omega)]; rfl
  show wpAny _ _ (pure acc.toList) _ _ _
  rw [e]
  exact wpAny_pure (h h' tk (fun b o q=>hk b o (Nat.ne_of_lt (Heap.lt_size q)) (hk0 b o q)) (Nat.le_of_lt (Heap.lt_size hS')))
end
end L2
namespace L2
open PySem PySem.Spec PyProof.Rows PySem.W
section
variable {prog:Program} {w:World} {A:Around} {E:Value->Shared->Prop} {s:Shared}
end
theorem dt_raw {P:Program} {w:World} {H:Hp} {h:Heap} {a:Addr} {kvs:List (HK × V)} (ok:HOk P w H h) (e:H a=some (.dT kvs)):kvs.length<=sizeLine/\(a == sysModules)=false/\∃ es ep as,RawD h a es ep/\es.toList.map (·.key)=as.map Value.ref/\Paired (fun (p:HK × V) (b:Addr)=>KR H p.1 b) kvs as:=by
  obtain ⟨z,hs,xs,rel,o,es,ep,ho,hx,hd,he,hn⟩:=ok a _ e
  refine ⟨z,hs,es,ep,xs.map (fun q=>q.2.1),⟨o,ho,hx,hd⟩,?_,?_⟩
  · rw [he,List.map_map,List.map_map]
    exact List.map_congr_left fun q _=>rfl
  · clear he hn z e
    induction rel with
    | nil=>exact .nil
    | cons hr _ ih=>exact .cons hr.2.1 ih
section
variable {X:Cx}
end
end L2
namespace L2
open PySem PySem.Spec PyProof.Rows
end L2
namespace L2
open PySem PySem.Spec PyProof.Rows
end L2
namespace L2
open PySem PySem.Spec PyProof.Rows
def Rise (xs:Array Nat):Prop:=xs.toList.Pairwise (· < ·)
theorem Rise.lt {xs:Array Nat} (r:Rise xs) {i j a b:Nat} (hi:xs[i]?=some a) (hj:xs[j]?=some b) (h:i < j):a < b:=by
  have q:=List.pairwise_iff_getElem.mp r
  obtain ⟨hi',ei⟩:=Array.getElem?_eq_some_iff.mp hi
  obtain ⟨hj',ej⟩:=Array.getElem?_eq_some_iff.mp hj
  have:=q i j (by simpa using hi') (by simpa using hj') h
  simp only [Array.getElem_toList] at this
  rw [<- ei,<- ej]; exact this
theorem below_go {xs:Array Nat} {j:Nat} (r:Rise xs):∀ fuel lo hi,hi - lo<=fuel->lo<=hi->hi<=xs.size->(∀ i v,xs[i]?=some v->i < lo->v < j)->(∀ i v,xs[i]?=some v->hi<=i->j<=v) ->
    SetTable.below.go xs j fuel lo hi<=xs.size/\∀ i v,xs[i]?=some v->(i < SetTable.below.go xs j fuel lo hi <-> v < j):=by
  intro fuel
  induction fuel with
  | zero=>
    intro lo hi h1 h2 h3 a b
    have e:lo=hi:=by omega
    rw [SetTable.below.go]
    refine ⟨by omega,fun i v hv=>⟨a i v hv,fun h=>?_⟩⟩
    by_cases z:i < lo
    · exact z
    · have:=b i v hv (by omega); omega
  | succ fuel ih=>
    intro lo hi h1 h2 h3 a b
    rw [SetTable.below.go]
    by_cases z:lo < hi
    · rw [if_pos z]
      dsimp only
      have hm:(lo + hi) / 2 < xs.size:=by omega
      have em:xs[(lo + hi) / 2]?=some xs[(lo + hi) / 2]:=Array.getElem?_eq_getElem hm
      have ed:xs.getD ((lo + hi) / 2) j=xs[(lo + hi) / 2]:=by simp [Array.getD,hm]
      rw [ed]
      by_cases y:xs[(lo + hi) / 2] < j
      · rw [if_pos y]
        refine ih _ _ (by omega) (by omega) h3 (fun i v hv hi'=>?_) b
        by_cases q:i=(lo + hi) / 2
        · subst q; rw [em] at hv; cases hv; exact y
        · have:=r.lt hv em (by omega); omega
      · rw [if_neg y]
        refine ih _ _ (by omega) (by omega) (by omega) a fun i v hv hi'=>?_
        by_cases q:i=(lo + hi) / 2
        · subst q; rw [em] at hv; cases hv; omega
        · have:=r.lt em hv (by omega); omega
    · rw [if_neg z]
      refine ⟨by omega,fun i v hv=>⟨a i v hv,fun h=>?_⟩⟩
      by_cases q:i < lo
      · exact q
      · have:=b i v hv (by omega); omega
theorem below_is {xs:Array Nat} {j:Nat} (r:Rise xs):SetTable.below xs j<=xs.size/\∀ i v,xs[i]?=some v->(i < SetTable.below xs j <-> v < j):=
  below_go r _ _ _ (by omega) (Nat.zero_le _) (Nat.le_refl _) (fun i v _ h=>absurd h (Nat.not_lt_zero _)) fun i v hv h=>by
    have:=(Array.getElem?_eq_some_iff.mp hv).1; omega
def Good (L:Bool) (t:SetTable):Prop:=Rise t.place/\t.dummies=#[]/\t.led=L
theorem rise_insert {xs:Array Nat} {j:Nat} (r:Rise xs) (h:j ∉ xs.toList):Rise (SetTable.insertAt xs (SetTable.below xs j) j):=by
  obtain ⟨_,b⟩:=below_is (j:=j) r
  unfold Rise
  rw [SetTable.toList_insertAt]
  have lo:∀ v ∈ xs.toList.take (SetTable.below xs j),v < j:=fun v hv=>by
    obtain ⟨i,hi,e⟩:=List.getElem_of_mem hv
    rw [List.length_take] at hi
    refine (b i v ?_).mp (by omega)
    rw [<- Array.getElem?_toList,<- e,List.getElem_take,List.getElem?_eq_getElem]
  have hi:∀ v ∈ xs.toList.drop (SetTable.below xs j),j < v:=fun v hv=>by
    obtain ⟨i,hi,e⟩:=List.getElem_of_mem hv
    rw [List.length_drop] at hi
    have hv':xs[SetTable.below xs j + i]?=some v:=by
      rw [<- Array.getElem?_toList,<- e,List.getElem_drop,List.getElem?_eq_getElem]
    have q:¬ v < j:=fun z=>by have:=(b _ v hv').mpr z; omega
    have ne:v ≠ j:=fun z=>h (by rw [<- z]; exact List.mem_of_mem_drop hv)
    omega
  refine List.pairwise_append.mpr ⟨List.Pairwise.sublist (List.take_sublist _ _) r,List.pairwise_cons.mpr ⟨hi,List.Pairwise.sublist (List.drop_sublist _ _) r⟩,fun x hx y hy=>?_⟩
  rcases List.mem_cons.mp hy with rfl | hy
  · exact lo x hx
  · exact Nat.lt_trans (lo x hx) (hi y hy)
theorem Good.put {L:Bool} {t:SetTable} (g:Good L t) {j:Nat} (h:j ∉ t.place.toList):Good L (t.put j).1:=by
  unfold SetTable.put
  refine ⟨rise_insert g.1 h,?_,g.2.2⟩
  show (if SetTable.has t.dummies j=true then _ else t.dummies)=#[]
  have:SetTable.has t.dummies j=false:=by unfold SetTable.has; rw [g.2.1]; simp
  rw [this,if_neg (by simp)]
  exact g.2.1
theorem Good.relaid {L:Bool} {t t':SetTable} (g:Good L t) {hs:Array Int} {n:Nat} {o:Array Nat} (e:t.relaid hs n=some (t',o)):Good L t':=by
  unfold SetTable.relaid SetTable.laid at e
  cases z:SetTable.layClean (SetTable.sizeAbove n - 1) hs with
  | none=>rw [z] at e; cases e
  | some ow=>
    rw [z] at e
    cases e
    refine ⟨?_,rfl,g.2.2⟩
    show List.Pairwise (· < ·) (List.map _ _)
    rw [List.pairwise_map]
    have key:∀ l:List Nat,l.Pairwise (· < ·)->(l.filterMap fun j=>(ow.getD j none).map (j,·)).Pairwise fun a b=>a.1 < b.1:=by
      intro l
      induction l with
      | nil=>intro _; exact .nil
      | cons x l ih=>
        intro h
        obtain ⟨h1,h2⟩:=List.pairwise_cons.mp h
        rw [List.filterMap_cons]
        cases ow.getD x none with
        | none=>exact ih h2
        | some k=>
          refine List.pairwise_cons.mpr ⟨fun b hb=>?_,ih h2⟩
          obtain ⟨y,hy,ey⟩:=List.mem_filterMap.mp hb
          cases q:ow.getD y none with
          | none=>rw [q] at ey; cases ey
          | some k'=>rw [q] at ey; cases ey; exact h1 y hy
    exact key _ List.pairwise_lt_range
end L2
namespace L2
open PySem PySem.Spec PyProof.Rows
theorem paired_perm {α β:Type} {F:α->β->Prop} {l l':List α} (p:l'.Perm l):∀ {ks:List β},Paired F l ks->∃ ks',Paired F l' ks'/\ks'.Perm ks:=by
  induction p with
  | nil=>intro ks h; exact ⟨ks,h,List.Perm.refl _⟩
  | cons x _ ih=>
    intro ks h
    cases h with
    | cons r t=>
      obtain ⟨ks',h1,h2⟩:=ih t
      exact ⟨_,.cons r h1,h2.cons _⟩
  | swap x y l=>
    intro ks h
    cases h with
    | cons r t=>
      cases t with
      | cons r' t'=>exact ⟨_,.cons r' (.cons r t'),List.Perm.swap _ _ _⟩
  | trans _ _ ih1 ih2=>
    intro ks h
    obtain ⟨k1,h1,p1⟩:=ih2 h
    obtain ⟨k2,h2,p2⟩:=ih1 h1
    exact ⟨k2,h2,p2.trans p1⟩
theorem paired_mem' {α β:Type} {F:α->β->Prop} {a:α}:∀ {l:List α} {ks:List β},Paired F l ks->a ∈ l->∃ b ∈ ks,F a b
  | _,_,.nil,h=>by cases h
  | _,_,.cons (b:=b) r t,h=>by
    rcases List.mem_cons.mp h with rfl | h
    · exact ⟨b,by simp,r⟩
    · obtain ⟨x,hx,q⟩:=paired_mem' t h
      exact ⟨x,List.mem_cons_of_mem _ hx,q⟩
section
variable {prog:Program} {w:World} {K:Type} [DecidableEq K]
variable {knd:KeyKind prog w K} {L:Bool} {A:Around} {E:Value->Shared->Prop} {s:Shared} {a:Addr}
def addK (ks:List K) (k:K):List K:=if k ∈ ks then ks else ks ++ [k]
end
end L2
namespace L2
open PySem PySem.Spec PyProof.Rows
section
variable {prog:Program} {w:World} {A:Around} {E:Value->Shared->Prop} {s:Shared}
end
end L2
namespace L2
open PySem PySem.Spec PyProof.Rows
section
variable {prog:Program} {w:World} {A:Around} {E:Value->Shared->Prop} {s:Shared}
end
end L2
namespace L2
open PySem PySem.Spec PyProof.Rows
def byT (w:World):Bool:=!w.params.followText "set-order"
def setObj0 (w:World):Obj:={ cls:=.type "set",dict:=none,data:=.set #[] 0 (.fresh 0 0 (byT w)) }
def metK {K:Type} [DecidableEq K] (ks:List K):List K:=ks.foldl addK []
theorem metK_snoc {K:Type} [DecidableEq K] (ks:List K) (k:K):metK (ks ++ [k])=addK (metK ks) k:=by unfold metK; rw [List.foldl_append]; rfl
theorem foldl_addK_len {K:Type} [DecidableEq K]:∀ (ks acc:List K),(ks.foldl addK acc).length<=acc.length + ks.length
  | [],acc=>by simp
  | k :: ks,acc=>by
    have h1:=foldl_addK_len ks (addK acc k)
    have h2:(addK acc k).length<=acc.length + 1:=by unfold addK; split <;> simp
    rw [List.foldl_cons,List.length_cons]
    omega
theorem metK_len {K:Type} [DecidableEq K] (ks:List K):(metK ks).length<=ks.length:=by unfold metK; have:=foldl_addK_len ks []; simpa using this
section
variable {prog:Program} {w:World} {K:Type} [DecidableEq K] {knd:KeyKind prog w K} {A:Around} {R:Result->Shared->Prop}
theorem set_new {s:Shared} {E:Value->Shared->Prop} (a:Value) {Z:Value->Shared->Prop} (h:Z (.ref s.heap.objs.size) { s with heap:=s.heap.push (setObj0 w) }) :
    codeAny (model prog w) A (.call (.builtin "set.__new__") ⟨[.type "set",a],[]⟩) (wants Z E) s:=by
  refine codeAny_of_tree ?_
  show wpAny _ A.in1 (do checkBuiltinCall "set.__new__" ⟨[.type "set",a],[]⟩; again (.builtin "set.__new__" ⟨[.type "set",a],[]⟩)) _ _ s
  refine wpAny_bind (wpAny_of_eq (F.newCall_set_1 a) (wpAny_pure ⟨plainId_quiet F.plain_set_new _,codeAny_builtin F.entry_set_new ?_⟩))
  rw [Around.under_plainId F.plain_set_new _]
  unfold Builtin.«set.__new__» Builtin.Frozenset.newClass
  have hs:=sub_set_self
  unfold setObj0 byT at h
  obtain ⟨hp,g,d,tk,os⟩:=s
  dsimp only
  wp_walk
  refine wpAny_askSetting (wpAny_pure ?_)
  dsimp only
  simp only [newObj]
  refine wpAny_bind (wpAny_alloc (wpAny_pure ?_))
  exact wpAny_pure h
theorem sub_tuple_set0:isSubtype (.type "tuple") (.type "set")=pure false:=by rw [isSubtype_type]; kernel_rfl
theorem sub_tuple_fset0:isSubtype (.type "tuple") (.type "frozenset")=pure false:=by rw [isSubtype_type]; kernel_rfl
end
end L2
namespace L2
open PySem PySem.Spec PyProof.Rows
section
variable {prog:Program} {w:World} {A:Around} {E:Value->Shared->Prop} {s:Shared}
end
end L2
namespace L2
open PySem PySem.Spec PyProof.Rows
section
variable {prog:Program} {w:World} {A:Around} {E:Value->Shared->Prop} {s:Shared}
end
end L2
namespace L2
open PySem PySem.Spec PyProof.Rows
section
variable {prog:Program} {w:World} {A:Around} {E:Value->Shared->Prop} {s:Shared}
end
section
variable {X:Cx}
end
end L2
namespace L2
open PySem PySem.Spec PyProof.Rows
section
variable {prog:Program} {w:World} {A:Around} {E:Value->Shared->Prop} {s:Shared}
end
section
variable {X:Cx}
end
end L2
namespace L2
open PySem PySem.Spec PyProof.Rows SeqAt
section
variable {prog:Program} {w:World} {K:Type} [DecidableEq K] {knd:KeyKind prog w K} {A:Around} {E:Value->Shared->Prop} {s:Shared}
end
section
variable {prog:Program} {w:World} {K:Type} [DecidableEq K] {knd:KeyKind prog w K} {A:Around} {E:Value->Shared->Prop} {s:Shared}
end
section
variable {X:Cx}
end
end L2
namespace L2
open PySem PySem.Spec PyProof.Rows SeqAt
section
variable {X:Cx}
end
end L2
namespace L2
open PySem PySem.Spec PyProof.Rows
section
variable {X:Cx} {tg:Expr}
theorem op_le_str:OpR X (compareOp .LtE) (fun x y H Q=>∃ i j,x=.str i/\y=.str j/\Q (.bl (!decide (j.cps.toList < i.cps.toList))) H):=by
  intro pins s σ H x y v u Q I rx ry h
  obtain ⟨i,j,rfl,rfl,q⟩:=h
  obtain ⟨t,rfl⟩:=rx
  obtain ⟨t',rfl⟩:=ry
  exact PySem.P.le_str (fin_bl I q rfl)
def Itst (x:Str):It:=⟨fun i _=>i < x.cps.size,fun i H v H'=>H'=H/\∃ c,x.cps[i]?=some c/\v=.str ⟨#[c]⟩,fun i _=>x.cps.size<=i⟩
theorem walks_str {prog:Program} {w:World} {A:Around} (h:A.handled=none) (I:Addr) (x:Str) (t:Tok):Walks prog w A I [I] [I] x.cps.size (SignAt x) fun i h=>h.IsStrIter I (strIterType x) x t i:=by
  unfold strIterType
  split
  · exact Walks.strAscii h I x t
  · exact Walks.strWide h I x t
theorem iter_name (x:Str):strIterType x = "str_ascii_iterator" \/ strIterType x = "str_iterator" := by
  unfold strIterType
  split
  · exact .inl rfl
  · exact .inr rfl
theorem turn_str {P:Program} {w:World} {K:PySem.W.Frag} {tg:Expr} (x:Str) (t:Tok) (it:Addr):Turn P w K tg (Itst x) [it] it (fun i h=>h.IsStrIter it (strIterType x) x t i/\i<=x.cps.size) where
  mem:=by simp
  obj:=fun i h st b hb=>by
    have e:b=it:=by simpa using hb
    subst e
    obtain ⟨o,e,c,d⟩:=st.1
    exact ⟨o,e,fun v z=>by rw [d] at z; cases z⟩
  keep:=fun i h h' st k=>by
    obtain ⟨⟨o,e,c,d⟩,hi⟩:=st
    exact ⟨⟨o,k it (by simp) o e,c,d⟩,hi⟩
  item:=by
    intro X hP hw hK hc i pins s σ H E I hf st hg
    subst hP hw hK
    obtain ⟨f0,f1,f2,f3,f4,f5⟩:=hf it (by simp)
    have W:=walks_str (prog:=X.prog) (w:=X.w) (I.ok.hd hc) it x t
    refine W.item i s _ _ hg st.1 fun v h' tk hv st' kk=>?_
    obtain ⟨c,u,hcc,rfl⟩:=hv
    have I1:Inv X pins σ H { s with heap:=h',toks:=tk }:=I.turned (fun b o hb e=>kk b o (by simpa using hb) e) f0 f1 f3 f4 f5
    obtain ⟨o,e1,e2,e3⟩:=st'
    refine ⟨_,rfl,go_of (s:={ s with heap:=h',toks:=tk }) (n:=strIterType x) e1 e2 e3 ?_ ⟨.str ⟨#[c]⟩,H,I1,⟨u,rfl⟩,⟨rfl,c,hcc,rfl⟩,⟨⟨o,e1,e2,e3⟩,hg⟩,fun b hb=>(hf b hb).1⟩⟩
    rcases iter_name x with q | q <;> rw [q] <;> decide
  done:=by
    intro X hP hw hK hc i pins s σ H E I hf st hg
    subst hP hw hK
    obtain ⟨f0,f1,f2,f3,f4,f5⟩:=hf it (by simp)
    have W:=walks_str (prog:=X.prog) (w:=X.w) (I.ok.hd hc) it x t
    have e:i=x.cps.size:=Nat.le_antisymm st.2 hg
    subst e
    exact W.done s _ _ st.1 fun h' tk kk=>⟨rfl,I.turned (fun b o hb e=>kk b o (by simpa using hb) e) f0 f1 f3 f4 f5⟩
  self:=fun A i s Q E st h=>by
    obtain ⟨st,_⟩:=st
    revert st
    rcases iter_name x with q | q <;> rw [q] <;> intro st
    · exact wpAny_pyIter_striter_ascii st h
    · exact wpAny_pyIter_striter_wide st h
def iStr (tl:TE):TI:=fun σ H R=>tl σ H fun v H1=>∃ x,v=.str x/\R (Itst x) H1
theorem pi_str {l:Expr} {tl:TE} (hl:PE X l tl):PI X tg l (iStr tl):=by
  intro pins s σ H R I h
  refine thn (hl pins s σ H _ I h) fun v s1 ⟨z,H1,I1,r1,q1⟩=>?_
  obtain ⟨x,e,q⟩:=q1
  subst e
  obtain ⟨t,rfl⟩:=r1
  refine wpAny_pyIter_strU ?_
  refine ⟨s1.heap.objs.size,[s1.heap.objs.size],_,_,H1,rfl,I1.kept (t':=s1.toks) fun b o e=>Heap.get?_push_of_some _ e,turn_str x t _,⟨⟨_,Heap.get?_push_size _ rfl,rfl,rfl⟩,Nat.zero_le _⟩,fun b hb=>?_,q⟩
  have e:b=s1.heap.objs.size:=by simpa using hb
  subst e
  exact I1.fpOk (Nat.le_refl _) (I1.hok.fresh (Nat.le_refl _))
theorem strs_of:∀ {ss:List Str} {us:List Value},Vals (ss.map V.str) us->∃ l:List (Str × Tok),us=strValues l/\l.map (·.1)=ss
  | [],_,.nil=>⟨[],rfl,rfl⟩
  | s :: ss,_,.cons r t=>by
    obtain ⟨l,e1,e2⟩:=strs_of t
    obtain ⟨tk,rfl⟩:=r
    exact ⟨(s,tk) :: l,by rw [e1]; rfl,by rw [List.map_cons,e2]⟩
theorem mt_join:MtR X "str.join" (fun x vs H Q=>∃ sep p ss,x=.str sep/\vs=[.ref p]/\SqL X.K H p (ss.map V.str)/\JoinOk sep ss=true/\Q (.str (Txt.join sep ss)) H):=by
  intro pins s σ H x vs v us Q I rx rv h
  obtain ⟨sep,p,ss,rfl,rfl,hq,hz,q⟩:=h
  obtain ⟨t,rfl⟩:=rx
  obtain ⟨u,rfl,ru⟩:=rv.one
  cases ru
  obtain ⟨its,r',pl,_⟩:=I.list hq
  obtain ⟨l,e1,e2⟩:=strs_of r'
  subst e1
  exact SC.join pl.isList e2 hz fun t' k=>⟨.str _,H,I.tok _,⟨_,rfl⟩,q⟩
end
end L2
namespace L2
open PySem PySem.Spec PyProof.Rows
def advP (M:Nat) (p:SetTable.Probe):SetTable.Probe:=
  if p.more > 0 then { j:=p.j + 1,more:=p.more - 1,i:=p.i,perturb:=p.perturb,dummy:=p.dummy }
  else { j:=(SetTable.leap M p.i p.perturb).1,more:=SetTable.runEnd M (SetTable.leap M p.i p.perturb).1 - (SetTable.leap M p.i p.perturb).1,i:=(SetTable.leap M p.i p.perturb).1,perturb:=(SetTable.leap M p.i p.perturb).2,dummy:=p.dummy }
theorem advance_is (t:SetTable) (p:SetTable.Probe):t.advance p=advP t.mask p:=by
  unfold SetTable.advance advP
  split <;> rfl
def grpP (M:Nat) (q:Nat × Nat):SetTable.Probe:={ j:=q.1,more:=SetTable.runEnd M q.1 - q.1,i:=q.1,perturb:=q.2,dummy:=none }
def lpP (M:Nat) (h:Int):Nat->Nat × Nat
  | 0=>(SetTable.bits h % (M + 1),SetTable.bits h)
  | m + 1=>SetTable.leap M (lpP M h m).1 (lpP M h m).2
def pth (M:Nat) (h:Int):Nat->SetTable.Probe
  | 0=>grpP M (lpP M h 0)
  | n + 1=>advP M (pth M h n)
def posP (M:Nat) (h:Int) (n:Nat):Nat:=(pth M h n).j
theorem pth_dummy (M:Nat) (h:Int):∀ n,(pth M h n).dummy=none
  | 0=>rfl
  | n + 1=>by
    have:=pth_dummy M h n
    show (advP M (pth M h n)).dummy=none
    unfold advP
    split <;> exact this
theorem leap_lt (M i p:Nat):(SetTable.leap M i p).1<=M:=by
  show (i * 5 + 1 + p / 32) % (M + 1)<=M
  exact Nat.le_of_lt_succ (Nat.mod_lt _ (Nat.succ_pos _))
theorem lpP_le (M:Nat) (h:Int):∀ m,(lpP M h m).1<=M
  | 0=>Nat.le_of_lt_succ (Nat.mod_lt _ (Nat.succ_pos _))
  | m + 1=>leap_lt _ _ _
theorem runEnd_le {M i:Nat} (h:i<=M):SetTable.runEnd M i<=M/\i<=SetTable.runEnd M i/\SetTable.runEnd M i<=i + 9:=by
  unfold SetTable.runEnd
  split <;> omega
theorem pth_le (M:Nat) (h:Int):∀ n,(pth M h n).j + (pth M h n).more<=M
  | 0=>by
    have:=runEnd_le (lpP_le M h 0)
    show (lpP M h 0).1 + (SetTable.runEnd M (lpP M h 0).1 - (lpP M h 0).1)<=M
    omega
  | n + 1=>by
    have ih:=pth_le M h n
    show (advP M (pth M h n)).j + (advP M (pth M h n)).more<=M
    unfold advP
    split
    · dsimp only; omega
    · dsimp only
      have:=runEnd_le (leap_lt M (pth M h n).i (pth M h n).perturb)
      omega
theorem posP_le (M:Nat) (h:Int) (n:Nat):posP M h n<=M:=by
  have:=pth_le M h n
  unfold posP; omega
theorem pth_in {M:Nat} {h:Int} {n:Nat} {q:Nat × Nat} (e:pth M h n=grpP M q):∀ k,k<=SetTable.runEnd M q.1 - q.1->pth M h (n + k)={ j:=q.1 + k,more:=SetTable.runEnd M q.1 - q.1 - k,i:=q.1,perturb:=q.2,dummy:=none }
  | 0,_=>e
  | k + 1,hk=>by
    show advP M (pth M h (n + k))=_
    rw [pth_in e k (by omega)]
    unfold advP
    dsimp only
    rw [if_pos (by omega)]
    congr 1
theorem pth_grp (M:Nat) (h:Int):∀ m,∃ n,n<=10 * m/\pth M h n=grpP M (lpP M h m)
  | 0=>⟨0,by omega,rfl⟩
  | m + 1=>by
    obtain ⟨n,hn,e⟩:=pth_grp M h m
    have b:=runEnd_le (lpP_le M h m)
    refine ⟨n + (SetTable.runEnd M (lpP M h m).1 - (lpP M h m).1) + 1,by omega,?_⟩
    show advP M (pth M h (n + _))=_
    rw [pth_in e _ (Nat.le_refl _)]
    unfold advP
    dsimp only
    rw [if_neg (by omega)]
    rfl
def itF (M:Nat):Nat->Nat->Nat
  | 0,i=>i
  | n + 1,i=>itF M n ((i * 5 + 1) % (M + 1))
theorem itF_add (M:Nat):∀ a b i,itF M (a + b) i=itF M b (itF M a i)
  | 0,b,i=>by rw [Nat.zero_add]; rfl
  | a + 1,b,i=>by rw [Nat.succ_add]; exact itF_add M a b _
def orb (M:Nat):Nat->Nat->List Nat
  | 0,_=>[]
  | k + 1,i=>i :: orb M k ((i * 5 + 1) % (M + 1))
theorem orb_mem {M:Nat}:∀ {k i j:Nat},j ∈ orb M k i->∃ n,n < k/\itF M n i=j
  | k + 1,i,j,h=>by
    rcases List.mem_cons.mp h with rfl | h
    · exact ⟨0,by omega,rfl⟩
    · obtain ⟨n,hn,e⟩:=orb_mem h
      exact ⟨n + 1,by omega,e⟩
def HM (M:Nat):Prop:=M=7\/M=31\/M=127
theorem orb_all {M:Nat} (hM:HM M):(∀ j,j < M + 1->j ∈ orb M (M + 1) 0)/\itF M (M + 1) 0=0:=by
  rcases hM with rfl | rfl | rfl
  · exact ⟨by decide +kernel,by decide +kernel⟩
  · exact ⟨by decide +kernel,by decide +kernel⟩
  · exact ⟨by decide +kernel,by decide +kernel⟩
theorem it_all {M:Nat} (hM:HM M) {i j:Nat} (hi:i<=M) (hj:j<=M):∃ n,n < M + 1/\itF M n i=j:=by
  obtain ⟨o,z⟩:=orb_all hM
  obtain ⟨a,ha,ea⟩:=orb_mem (o i (by omega))
  obtain ⟨b,hb,eb⟩:=orb_mem (o j (by omega))
  by_cases q:a<=b
  · refine ⟨b - a,by omega,?_⟩
    rw [<- ea,<- itF_add,show a + (b - a)=b by omega,eb]
  · refine ⟨M + 1 - a + b,by omega,?_⟩
    rw [<- ea,<- itF_add,show a + (M + 1 - a + b)=(M + 1) + b by omega,itF_add,z,eb]
theorem lp_snd (M:Nat) (h:Int):∀ m,(lpP M h m).2=SetTable.bits h / 32 ^ m
  | 0=>by show SetTable.bits h=_; rw [Nat.pow_zero,Nat.div_one]
  | m + 1=>by
    show (lpP M h m).2 / 32=_
    rw [lp_snd M h m,Nat.div_div_eq_div_mul,<- Nat.pow_succ]
theorem bits_lt (h:Int):SetTable.bits h < 2 ^ 64:=by
  unfold SetTable.bits
  have h1:(0:Int) < 2 ^ 64:=by decide
  have:=Int.emod_lt_of_pos h h1
  have:=Int.emod_nonneg h (show (2:Int) ^ 64 ≠ 0 by decide)
  omega
theorem lp_it (M:Nat) (h:Int):∀ n,(lpP M h (12 + n)).1=itF M n (lpP M h 12).1:=by
  have step:∀ m,12<=m->(lpP M h (m + 1)).1=((lpP M h m).1 * 5 + 1) % (M + 1):=fun m hm=>by
    show ((lpP M h m).1 * 5 + 1 + (lpP M h m).2 / 32) % (M + 1)=_
    have:(lpP M h m).2 / 32=0:=by
      rw [lp_snd,Nat.div_div_eq_div_mul,<- Nat.pow_succ]
      refine Nat.div_eq_of_lt (Nat.lt_of_lt_of_le (bits_lt h) ?_)
      exact Nat.le_trans (show 2 ^ 64<=32 ^ 13 by decide) (Nat.pow_le_pow_right (by decide) (by omega))
    rw [this,Nat.add_zero]
  have snoc:∀ n i,itF M (n + 1) i=(itF M n i * 5 + 1) % (M + 1):=fun n i=>itF_add M n 1 i
  intro n
  induction n with
  | zero=>rfl
  | succ n ih=>rw [snoc,<- ih]; exact step (12 + n) (by omega)
theorem lp_cover {M:Nat} (hM:HM M) (h:Int) {j:Nat} (hj:j<=M):∃ m,m < M + 13/\(lpP M h m).1=j:=by
  obtain ⟨n,hn,e⟩:=it_all hM (lpP_le M h 12) hj
  exact ⟨12 + n,by omega,by rw [lp_it,e]⟩
theorem pos_cover {M:Nat} (hM:HM M) (h:Int) {j:Nat} (hj:j<=M):∃ n,n<=10 * (M + 12)/\posP M h n=j:=by
  obtain ⟨m,hm,e⟩:=lp_cover hM h hj
  obtain ⟨n,hn,en⟩:=pth_grp M h m
  exact ⟨n,by omega,by unfold posP; rw [en]; exact e⟩
theorem first_free {M:Nat} (hM:HM M) (h:Int) (occ:Nat->Prop) {j:Nat} (hj:j<=M) (ho:¬ occ j):∃ N,N<=10 * (M + 12)/\¬ occ (posP M h N)/\∀ m,m < N->occ (posP M h m):=by
  obtain ⟨n,hn,e⟩:=pos_cover hM h hj
  have key:∀ n,¬ occ (posP M h n)->∃ N,N<=n/\¬ occ (posP M h N)/\∀ m,m < N->occ (posP M h m):=by
    intro n
    induction n using Nat.strongRecOn with
    | ind n ih=>
      intro hn
      by_cases q:∃ m,m < n/\¬ occ (posP M h m)
      · obtain ⟨m,hm,hx⟩:=q
        obtain ⟨N,h1,h2,h3⟩:=ih m hm hx
        exact ⟨N,by omega,h2,h3⟩
      · refine ⟨n,Nat.le_refl _,hn,fun m hm=>?_⟩
        exact Classical.byContradiction fun z=>q ⟨m,hm,z⟩
  obtain ⟨N,h1,h2,h3⟩:=key n (by rw [e]; exact ho)
  exact ⟨N,by omega,h2,h3⟩
theorem slot_live {t:SetTable} {i j:Nat} (r:Rise t.place) (hi:t.place[i]?=some j):t.slot j=.live i:=by
  obtain ⟨b0,b⟩:=below_is (j:=j) r
  have n1:¬ i < SetTable.below t.place j:=fun z=>by have:=(b i j hi).mp z; omega
  have hib:=(Array.getElem?_eq_some_iff.mp hi).1
  have e:SetTable.below t.place j=i:=by
    by_cases z:SetTable.below t.place j < i
    · have hb:SetTable.below t.place j < t.place.size:=by omega
      have l:=r.lt (Array.getElem?_eq_getElem hb) hi z
      have:=(b _ _ (Array.getElem?_eq_getElem hb)).mpr l
      omega
    · omega
  unfold SetTable.slot
  dsimp only
  rw [e,hi]
  simp
theorem slot_none {t:SetTable} {j:Nat} (hd:t.dummies=#[]) (h:j ∉ t.place.toList):t.slot j=.empty:=by
  unfold SetTable.slot SetTable.has
  dsimp only
  rw [hd]
  have:¬ (t.place[SetTable.below t.place j]? == some j)=true:=fun z=>by
    have z:=eq_of_beq z
    rw [<- Array.getElem?_toList] at z
    exact h (List.mem_of_getElem? z)
  rw [if_neg this]
  simp
theorem probe_at {t:SetTable} {L:Bool} (g:Good L t) (hashAt:Nat->Int) (h:Int) {N:Nat} (hN:posP t.mask h N ∉ t.place.toList) (hl:∀ m,m < N->posP t.mask h m ∈ t.place.toList):∀ fuel n,n<=N->N - n < fuel ->
    (SetTable.probe.go t hashAt h fuel (pth t.mask h n)=some (.empty (posP t.mask h N) none)/\∀ m,n<=m->m < N->∀ i,t.place[i]?=some (posP t.mask h m)->hashAt i ≠ h) \/
    (∃ m i,n<=m/\m < N/\t.place[i]?=some (posP t.mask h m)/\hashAt i=h/\SetTable.probe.go t hashAt h fuel (pth t.mask h n)=some (.candidate (posP t.mask h m) i (pth t.mask h (m + 1)))/\∀ m',n<=m'->m' < m->∀ i,t.place[i]?=some (posP t.mask h m')->hashAt i ≠ h):=by
  intro fuel
  induction fuel with
  | zero=>intro n _ h2; omega
  | succ fuel ih=>
    intro n h1 h2
    rw [SetTable.probe.go]
    by_cases e:n=N
    · subst e
      left
      have:=slot_none g.2.1 hN
      unfold posP at this ⊢
      rw [this,pth_dummy]
      exact ⟨rfl,fun m h3 h4=>by omega⟩
    · have hm:=hl n (by omega)
      obtain ⟨i,hi,ei⟩:=List.getElem_of_mem hm
      have hv:t.place[i]?=some (posP t.mask h n):=by rw [<- Array.getElem?_toList,List.getElem?_eq_getElem hi,ei]
      have hs:=slot_live g.1 hv
      have uq:∀ i',t.place[i']?=some (posP t.mask h n)->i'=i:=fun i' hi'=>by
        have:=slot_live g.1 hi'
        rw [hs] at this; cases this; rfl
      unfold posP at hs
      rw [hs]
      dsimp only
      by_cases q:hashAt i=h
      · right
        refine ⟨n,i,Nat.le_refl _,by omega,hv,q,?_,fun m' h3 h4=>by omega⟩
        rw [if_pos (by simp [q]),advance_is]
        rfl
      · rw [if_neg (by simp [q]),advance_is]
        have ad:advP t.mask (pth t.mask h n)=pth t.mask h (n + 1):=rfl
        rw [ad]
        rcases ih (n + 1) (by omega) (by omega) with ⟨a1,a2⟩ | ⟨m,i',a1,a2,a3,a4,a5,a6⟩
        · left
          refine ⟨a1,fun m h3 h4 i' hi'=>?_⟩
          by_cases z:m=n
          · subst z; rw [uq i' hi']; exact q
          · exact a2 m (by omega) h4 i' hi'
        · right
          refine ⟨m,i',by omega,a2,a3,a4,a5,fun m' h3 h4 i2 hi2=>?_⟩
          by_cases z:m'=n
          · subst z; rw [uq i2 hi2]; exact q
          · exact a6 m' (by omega) h4 i2 hi2
end L2
namespace L2
open PySem PySem.Spec PyProof.Rows
def Rch (M:Nat) (occ:Nat->Prop) (h:Int) (j:Nat):Prop:=∃ n,posP M h n=j/\∀ m,m < n->occ (posP M h m)
theorem Rch.mono {M:Nat} {occ occ':Nat->Prop} {h:Int} {j:Nat} (r:Rch M occ h j) (k:∀ x,occ x->occ' x):Rch M occ' h j:=let ⟨n,e,f⟩:=r; ⟨n,e,fun m hm=>k _ (f m hm)⟩
def SzM (M n:Nat):Prop:=M=7/\n<=4\/M=31/\n<=18\/M=127/\n<=76
def SzP (M n:Nat):Prop:=M=7/\n<=5\/M=31/\n<=19\/M=127/\n<=76
theorem SzM.hm {M n:Nat} (s:SzM M n):HM M:=by unfold SzM at s; unfold HM; omega
structure HG0 (L:Bool) (t:SetTable) (hs:List Int):Prop where
  good:Good L t
  len:t.place.size=hs.length
  le:∀ j,j ∈ t.place.toList->j<=t.mask
  rch:∀ (i j:Nat) (h:Int),t.place[i]?=some j->hs[i]?=some h->Rch t.mask (· ∈ t.place.toList) h j
structure HG (L:Bool) (t:SetTable) (hs:List Int):Prop extends HG0 L t hs where
  sz:SzM t.mask hs.length
theorem HG.fits {L:Bool} {t:SetTable} {hs:List Int} (g:HG L t hs):t.fits hs.length=true:=by
  unfold SetTable.fits SetTable.fill
  rw [g.good.2.1,g.len]
  have:=g.sz
  unfold SzM at this
  simp
  omega
theorem room_of:∀ (n:Nat) (l:List Nat),l.length < n->∃ j,j < n/\j ∉ l
  | 0,l,h=>by omega
  | n + 1,l,h=>by
    by_cases q:n ∈ l
    · have hp:0 < l.length:=List.length_pos_of_mem q
      obtain ⟨j,h1,h2⟩:=room_of n (l.erase n) (by rw [List.length_erase_of_mem q]; omega)
      exact ⟨j,by omega,fun z=>h2 ((List.mem_erase_of_ne (by omega)).mpr z)⟩
    · exact ⟨n,by omega,q⟩
theorem HG.free {L:Bool} {t:SetTable} {hs:List Int} (g:HG L t hs) (h:Int):∃ N,N<=10 * (t.mask + 12)/\posP t.mask h N ∉ t.place.toList/\∀ m,m < N->posP t.mask h m ∈ t.place.toList:=by
  have sz:=g.sz
  unfold SzM at sz
  obtain ⟨j,h1,h2⟩:=room_of (t.mask + 1) t.place.toList (by rw [Array.length_toList,g.len]; omega)
  exact first_free g.sz.hm h (· ∈ t.place.toList) (Nat.le_of_lt_succ h1) h2
theorem fresh_tg (L:Bool):HG L (.fresh 0 0 L) [] where
  good:=⟨List.Pairwise.nil,rfl,rfl⟩
  len:=rfl
  le:=fun j h=>by cases h
  rch:=fun i j h e=>by simp [SetTable.fresh] at e
  sz:=.inl ⟨rfl,by simp⟩
theorem HG.put {L:Bool} {t:SetTable} {hs:List Int} (g:HG L t hs) {h:Int} {N:Nat} (hN:posP t.mask h N ∉ t.place.toList) (hl:∀ m,m < N->posP t.mask h m ∈ t.place.toList) :
    HG0 L (t.put (posP t.mask h N)).1 (hs.take (SetTable.below t.place (posP t.mask h N)) ++ h :: hs.drop (SetTable.below t.place (posP t.mask h N))):=by
  generalize hj:posP t.mask h N=j at hN
  have b:=(below_is (j:=j) g.good.1).1
  have gl:=g.len
  generalize hp:SetTable.below t.place j=p at b
  have ep:(t.put j).1.place.toList=t.place.toList.take p ++ j :: t.place.toList.drop p:=by
    show (SetTable.insertAt t.place (SetTable.below t.place j) j).toList=_
    rw [SetTable.toList_insertAt,hp]
  have em:(t.put j).1.mask=t.mask:=rfl
  have sub:∀ x,x ∈ t.place.toList->x ∈ (t.put j).1.place.toList:=fun x hx=>by
    rw [ep]
    rw [<- List.take_append_drop p t.place.toList] at hx
    rcases List.mem_append.mp hx with q | q
    · exact List.mem_append.mpr (.inl q)
    · exact List.mem_append.mpr (.inr (List.mem_cons_of_mem _ q))
  have tl:(t.place.toList.take p).length=p:=by rw [List.length_take,Array.length_toList]; omega
  have tl2:(hs.take p).length=p:=by rw [List.length_take]; omega
  refine ⟨g.good.put hN,?_,fun x hx=>?_,fun i x h' e1 e2=>?_⟩
  · have:(t.put j).1.place.toList.length=hs.length + 1:=by
      rw [ep,List.length_append,List.length_cons,tl,List.length_drop,Array.length_toList]; omega
    rw [<- Array.length_toList,this,List.length_append,List.length_cons,tl2,List.length_drop]; omega
  · rw [em]
    rw [ep] at hx
    rcases List.mem_append.mp hx with q | q
    · exact g.le x (List.mem_of_mem_take q)
    · rcases List.mem_cons.mp q with q | q
      · rw [q,<- hj]; exact posP_le _ _ _
      · exact g.le x (List.mem_of_mem_drop q)
  · rw [<- Array.getElem?_toList,ep] at e1
    rw [em]
    by_cases q:i < p
    · rw [List.getElem?_append_left (by omega),List.getElem?_take,if_pos q,Array.getElem?_toList] at e1
      rw [List.getElem?_append_left (by omega),List.getElem?_take,if_pos q] at e2
      exact (g.rch i x h' e1 e2).mono sub
    · rw [List.getElem?_append_right (by omega),tl] at e1
      rw [List.getElem?_append_right (by omega),tl2] at e2
      by_cases z:i=p
      · subst z
        rw [Nat.sub_self] at e1 e2
        have e1:j=x:=by simpa using e1
        have e2:h=h':=by simpa using e2
        subst e1; subst e2
        exact ⟨N,hj,fun m hm=>sub _ (hl m hm)⟩
      · obtain ⟨k,rfl⟩:∃ k,i=p + 1 + k:=⟨i - p - 1,by omega⟩
        rw [show p + 1 + k - p=k + 1 by omega,List.getElem?_cons_succ,List.getElem?_drop,Array.getElem?_toList] at e1
        rw [show p + 1 + k - p=k + 1 by omega,List.getElem?_cons_succ,List.getElem?_drop] at e2
        exact (g.rch (p + k) x h' e1 e2).mono sub
theorem free_is {M:Nat} {owner:Array (Option Nat)} (h:Int):∀ fuel m n,pth M h n=grpP M (lpP M h m)->(∀ m',m' < n->∃ k,owner[posP M h m']?=some (some k))->owner.size=M + 1 ->
    (∃ m',m<=m'/\m' < m + fuel/\owner[(lpP M h m').1]?=some none) ->
    ∃ n',SetTable.layClean.free M owner fuel (lpP M h m).1 (lpP M h m).2=some (posP M h n')/\owner[posP M h n']?=some none/\∀ m',m' < n'->∃ k,owner[posP M h m']?=some (some k):=by
  intro fuel
  induction fuel with
  | zero=>rintro m n _ _ _ ⟨m',h1,h2,_⟩; omega
  | succ fuel ih=>
    intro m n en hocc hsz hex
    rw [SetTable.layClean.free]
    have hle:=lpP_le M h m
    have hr:=runEnd_le hle
    have inG:∀ k,k<=SetTable.runEnd M (lpP M h m).1 - (lpP M h m).1->posP M h (n + k)=(lpP M h m).1 + k:=fun k hk=>by unfold posP; rw [pth_in en k hk]
    cases z:List.find? (fun k=>(owner.getD ((lpP M h m).1 + k) (some 0)).isNone) (List.range (SetTable.runEnd M (lpP M h m).1 + 1 - (lpP M h m).1)) with
    | some k=>
      dsimp only
      have z1:=List.find?_some z
      obtain ⟨z0,as,bs,e1,z2⟩:=List.find?_eq_some_iff_append.mp z
      have hk:k < SetTable.runEnd M (lpP M h m).1 + 1 - (lpP M h m).1:=List.mem_range.mp (List.mem_of_find?_eq_some z)
      have ok:∀ k',k' < k->∃ q,owner[(lpP M h m).1 + k']?=some (some q):=fun k' hk'=>by
        have hm:k' ∈ as:=by
          have:(List.range (SetTable.runEnd M (lpP M h m).1 + 1 - (lpP M h m).1))[k']?=some k':=by rw [List.getElem?_range (by omega)]
          have hlen:as.length=k:=by
            have q1:(as ++ k :: bs)[as.length]?=some k:=by rw [List.getElem?_append_right (Nat.le_refl _),Nat.sub_self]; rfl
            rw [<- e1,List.getElem?_range (by
              have:=congrArg List.length e1
              rw [List.length_range,List.length_append,List.length_cons] at this
              omega)] at q1
            cases q1; rfl
          rw [e1,List.getElem?_append_left (by omega)] at this
          exact List.mem_of_getElem? this
        have:=z2 k' hm
        have hb:(lpP M h m).1 + k' < owner.size:=by omega
        simp [Array.getD,hb] at this
        rw [Array.getElem?_eq_getElem hb]
        cases q:owner[(lpP M h m).1 + k'] with
        | none=>rw [q] at this; simp at this
        | some v=>exact ⟨v,rfl⟩
      have hb:(lpP M h m).1 + k < owner.size:=by omega
      refine ⟨n + k,by rw [inG k (by omega)],?_,fun m' hm'=>?_⟩
      · rw [inG k (by omega),Array.getElem?_eq_getElem hb]
        simp [Array.getD,hb] at z1
        rw [z1]
      · by_cases q:m' < n
        · exact hocc m' q
        · obtain ⟨k',rfl⟩:∃ k',m'=n + k':=⟨m' - n,by omega⟩
          rw [inG k' (by omega)]
          exact ok k' (by omega)
    | none=>
      dsimp only
      have z1:=List.find?_eq_none.mp z
      have ok:∀ k',k'<=SetTable.runEnd M (lpP M h m).1 - (lpP M h m).1->∃ q,owner[(lpP M h m).1 + k']?=some (some q):=fun k' hk'=>by
        have:=z1 k' (List.mem_range.mpr (by omega))
        have hb:(lpP M h m).1 + k' < owner.size:=by omega
        simp [Array.getD,hb] at this
        rw [Array.getElem?_eq_getElem hb]
        cases q:owner[(lpP M h m).1 + k'] with
        | none=>rw [q] at this; simp at this
        | some v=>exact ⟨v,rfl⟩
      have nx:pth M h (n + (SetTable.runEnd M (lpP M h m).1 - (lpP M h m).1) + 1)=grpP M (lpP M h (m + 1)):=by
        show advP M (pth M h (n + _))=_
        rw [pth_in en _ (Nat.le_refl _)]
        unfold advP
        dsimp only
        rw [if_neg (by omega)]
        rfl
      refine ih (m + 1) _ nx (fun m' hm'=>?_) hsz ?_
      · by_cases q:m' < n
        · exact hocc m' q
        · obtain ⟨k',rfl⟩:∃ k',m'=n + k':=⟨m' - n,by omega⟩
          rw [inG k' (by omega)]
          exact ok k' (by omega)
      · obtain ⟨m',h1,h2,h3⟩:=hex
        have ne:m' ≠ m:=fun e=>by
          subst e
          obtain ⟨q,hq⟩:=ok 0 (by omega)
          rw [Nat.add_zero,h3] at hq
          cases hq
        exact ⟨m',by omega,by omega,h3⟩
structure OwnT (M:Nat) (hs:List Int) (owner:Array (Option Nat)) (k:Nat):Prop where
  sz:owner.size=M + 1
  cnt:owner.toList.countP Option.isNone + k=M + 1
  inj:∀ (i j:Nat) (x:Nat),owner[i]?=some (some x)->owner[j]?=some (some x)->i=j
  lt:∀ (i:Nat) (x:Nat),owner[i]?=some (some x)->x < k
  all:∀ x:Nat,x < k->∃ i:Nat,owner[i]?=some (some x)
  rch:∀ (i:Nat) (x:Nat) (h:Int),owner[i]?=some (some x)->hs[x]?=some h->Rch M (fun (j:Nat)=>∃ y,owner[j]?=some (some y)) h i
theorem own_step {M:Nat} (hM:HM M) {hs:List Int} {owner:Array (Option Nat)} {k:Nat} (o:OwnT M hs owner k) {h:Int} (hk:hs[k]?=some h) (hlt:k < M + 1) :
    ∃ j,SetTable.layClean.free M owner (SetTable.turns M) (SetTable.bits h % (M + 1)) (SetTable.bits h)=some j/\OwnT M hs (owner.setIfInBounds j (some k)) (k + 1):=by
  have pos:0 < owner.toList.countP Option.isNone:=by have:=o.cnt; omega
  obtain ⟨v,hv,e⟩:=List.countP_pos_iff.mp pos
  obtain ⟨j0,hj0,ej0⟩:=List.getElem_of_mem hv
  have hj1:owner[j0]?=some none:=by
    rw [<- Array.getElem?_toList,List.getElem?_eq_getElem hj0,ej0]
    cases v with
    | none=>rfl
    | some _=>cases e
  have hj2:j0<=M:=by have:=(Array.getElem?_eq_some_iff.mp hj1).1; rw [o.sz] at this; omega
  obtain ⟨m',hm',em'⟩:=lp_cover hM h hj2
  obtain ⟨n',e1,e2,e3⟩:=free_is (M:=M) (owner:=owner) h (SetTable.turns M) 0 0 rfl (fun m' hm'=>by omega) o.sz ⟨m',Nat.zero_le _,by unfold SetTable.turns; omega,by rw [em']; exact hj1⟩
  refine ⟨posP M h n',e1,?_⟩
  generalize hj:posP M h n'=j at e2
  have hb:=(Array.getElem?_eq_some_iff.mp e2).1
  have g:∀ i:Nat,(owner.setIfInBounds j (some k))[i]?=if j=i then some (some k) else owner[i]?:=fun i=>by
    rw [Array.getElem?_setIfInBounds]
    by_cases q:j=i
    · rw [if_pos q,if_pos q,if_pos hb]
    · rw [if_neg q,if_neg q]
  have up:∀ x:Nat,(∃ y,owner[x]?=some (some y))->∃ y,(owner.setIfInBounds j (some k))[x]?=some (some y):=fun x ⟨y,hy⟩=>by
    rw [g]
    by_cases q:j=x
    · exact ⟨k,by rw [if_pos q]⟩
    · exact ⟨y,by rw [if_neg q]; exact hy⟩
  refine ⟨by rw [Array.size_setIfInBounds]; exact o.sz,?_,fun a b x h1 h2=>?_,fun i x h1=>?_,fun x hx=>?_,fun i x h' h1 h2=>?_⟩
  · rw [Array.toList_setIfInBounds]
    have hb':j < owner.toList.length:=by simpa using hb
    have c:=List.countP_set (p:=Option.isNone) (l:=owner.toList) (i:=j) (a:=some k) hb'
    have ej:owner.toList[j]=none:=by
      have:=e2
      rw [<- Array.getElem?_toList,List.getElem?_eq_getElem hb'] at this
      exact Option.some.inj this
    rw [c]
    simp only [ej]
    show List.countP Option.isNone owner.toList - 1 + 0 + (k + 1)=M + 1
    have:=o.cnt
    omega
  · rw [g] at h1 h2
    by_cases q:j=a <;> by_cases z:j=b
    · omega
    · rw [if_pos q] at h1
      rw [if_neg z] at h2
      cases h1
      have:=o.lt _ _ h2
      omega
    · rw [if_neg q] at h1
      rw [if_pos z] at h2
      cases h2
      have:=o.lt _ _ h1
      omega
    · rw [if_neg q] at h1
      rw [if_neg z] at h2
      exact o.inj a b x h1 h2
  · rw [g] at h1
    by_cases q:j=i
    · rw [if_pos q] at h1; cases h1; omega
    · rw [if_neg q] at h1
      have:=o.lt _ _ h1
      omega
  · by_cases q:x=k
    · subst q; exact ⟨j,by rw [g,if_pos rfl]⟩
    · obtain ⟨i,hi⟩:=o.all x (by omega)
      refine ⟨i,?_⟩
      rw [g,if_neg]
      · exact hi
      · intro z; subst z; rw [e2] at hi; cases hi
  · rw [g] at h1
    by_cases q:j=i
    · rw [if_pos q] at h1; cases h1
      rw [hk] at h2; cases h2
      refine ⟨n',by rw [hj,q],fun m hm=>up _ (e3 m hm)⟩
    · rw [if_neg q] at h1
      exact (o.rch i x h' h1 h2).mono up
theorem own_all {M:Nat} (hM:HM M) (hs:List Int) (hlt:hs.length<=M):∃ owner,SetTable.layClean M hs.toArray=some owner/\OwnT M hs owner hs.length:=by
  have key:∀ (rest done:List Int) (owner:Array (Option Nat)),done ++ rest=hs->OwnT M hs owner done.length ->
      ∃ ow,List.foldl (fun (acc:Option (Array (Option Nat) × Nat)) h=>do
        let __x <- acc
        match __x with
          | (owner,k)=>do
            let j <- SetTable.layClean.free M owner (SetTable.turns M) (SetTable.bits h % (M + 1)) (SetTable.bits h)
            pure (owner.setIfInBounds j (some k),k + 1)) (some (owner,done.length)) rest=some (ow,hs.length)/\OwnT M hs ow hs.length:=by
    intro rest
    induction rest with
    | nil=>intro done owner e o; rw [List.append_nil] at e; subst e; exact ⟨owner,rfl,o⟩
    | cons h rest ih=>
      intro done owner e o
      have hk:hs[done.length]?=some h:=by rw [<- e,List.getElem?_append_right (Nat.le_refl _),Nat.sub_self]; rfl
      have hl:done.length < hs.length:=(List.getElem?_eq_some_iff.mp hk).1
      obtain ⟨j,e1,o1⟩:=own_step hM o hk (by omega)
      obtain ⟨ow,e2,o2⟩:=ih (done ++ [h]) (owner.setIfInBounds j (some done.length)) (by rw [<- e]; simp) (by rw [List.length_append]; exact o1)
      refine ⟨ow,?_,o2⟩
      rw [List.foldl_cons]
      rw [List.length_append] at e2
      rw [<- e2]
      congr 1
      show Option.bind (some (owner,done.length)) _=_
      show Option.bind (SetTable.layClean.free M owner (SetTable.turns M) (SetTable.bits h % (M + 1)) (SetTable.bits h)) _=_
      rw [e1]
      rfl
  obtain ⟨ow,e,o⟩:=key hs [] (Array.replicate (M + 1) none) rfl ⟨by simp,by simp [List.countP_replicate],fun i j x h1=>by simp [Array.getElem?_replicate] at h1,fun i x h1=>by simp [Array.getElem?_replicate] at h1,fun x hx=>by simp at hx,fun i x h h1=>by simp [Array.getElem?_replicate] at h1⟩
  refine ⟨ow,?_,o⟩
  unfold SetTable.layClean
  rw [<- Array.foldl_toList]
  show Option.map _ (List.foldl _ (some (_,([]:List Int).length)) hs)=_
  rw [e]
  rfl
end L2
namespace L2
open PySem PySem.Spec PyProof.Rows
theorem nodup_perm {l m:List Nat} (h1:l.Nodup) (h2:m.Nodup) (h:∀ a,a ∈ l <-> a ∈ m):l.Perm m:=(List.perm_ext_iff_of_nodup h1 h2).mpr h
theorem relaid_is {L:Bool} {t:SetTable} {hs:List Int} {wanted M:Nat} (g:Good L t) (hM:HM M) (hz:SetTable.sizeAbove wanted - 1=M) (hlt:hs.length<=M) :
    ∃ t' ,∃ order:List Nat,t.relaid hs.toArray wanted=some (t',order.toArray)/\order.Perm (List.range hs.length)/\t'.mask=M/\HG0 L t' (order.map (fun x=>hs.getD x 0)):=by
  obtain ⟨owner,e,o⟩:=own_all hM hs hlt
  have live:∀ (l:List Nat) (j x:Nat),(j,x) ∈ (l.filterMap fun j=>(owner.getD j none).map (j,·)) <-> j ∈ l/\owner[j]?=some (some x):=by
    intro l j x
    rw [List.mem_filterMap]
    have gd:owner.getD j none=(owner[j]?).getD none:=by simp [Array.getD_eq_getD_getElem?]
    constructor
    · rintro ⟨y,hy,ey⟩
      cases q:owner.getD y none with
      | none=>rw [q] at ey; cases ey
      | some v=>
        rw [q] at ey
        cases ey
        rw [gd] at q
        refine ⟨hy,?_⟩
        cases z:owner[j]? with
        | none=>rw [z] at q; cases q
        | some u=>rw [z] at q; exact congrArg some q
    · rintro ⟨h1,h2⟩
      exact ⟨j,h1,by rw [gd,h2]; rfl⟩
  have hx:t.relaid hs.toArray wanted=some ({ mask:=M,place:=(((List.range (M + 1)).filterMap fun j=>(owner.getD j none).map (j,·)).map (·.1)).toArray,dummies:=#[],finger:=t.finger,led:=t.led,moves:=t.movedTo M,plain:=t.plain },(((List.range (M + 1)).filterMap fun j=>(owner.getD j none).map (j,·)).map (·.2)).toArray):=by
    unfold SetTable.relaid SetTable.laid
    rw [hz,e]
    rfl
  refine ⟨_,_,hx,?_,rfl,g.relaid hx,?_,?_,?_⟩
  all_goals generalize hl:((List.range (M + 1)).filterMap fun j=>(owner.getD j none).map (j,·))=lv
  all_goals
    have lv':∀ j x,(j,x) ∈ lv <-> owner[j]?=some (some x):=fun j x=>by
      rw [<- hl,live]
      refine ⟨fun q=>q.2,fun q=>⟨?_,q⟩⟩
      have:=(Array.getElem?_eq_some_iff.mp q).1
      rw [o.sz] at this
      exact List.mem_range.mpr this
    have pw:lv.Pairwise fun a b=>a.1 < b.1:=by
      have:=(g.relaid hx).1
      unfold Rise at this
      dsimp only at this
      rw [hl] at this
      exact List.pairwise_map.mp this
    have hlen:(lv.map (·.2)).Perm (List.range hs.length):=by
      refine nodup_perm ?_ List.nodup_range fun a=>?_
      · refine List.pairwise_map.mpr (List.Pairwise.imp_of_mem (fun {a b} ha hb hab=>?_) pw)
        intro z
        have h1:=(lv' a.1 a.2).mp ha
        have h2:=(lv' b.1 b.2).mp hb
        rw [z] at h1
        have:=o.inj _ _ _ h1 h2
        omega
      · rw [List.mem_map,List.mem_range]
        constructor
        · rintro ⟨⟨j,x⟩,hm,rfl⟩
          exact o.lt _ _ ((lv' j x).mp hm)
        · intro ha
          obtain ⟨j,hj⟩:=o.all a ha
          exact ⟨(j,a),(lv' j a).mpr hj,rfl⟩
  · exact hlen
  · simp only [List.length_map,List.size_toArray]
  · intro j hj
    have hj:j ∈ lv.map (·.1):=by simpa using hj
    obtain ⟨⟨a,x⟩,hm,rfl⟩:=List.mem_map.mp hj
    have:=(Array.getElem?_eq_some_iff.mp ((lv' a x).mp hm)).1
    rw [o.sz] at this
    exact Nat.le_of_lt_succ this
  · intro i j h h1 h2
    have h1:(lv.map (·.1))[i]?=some j:=by simpa using h1
    rw [List.getElem?_map] at h1
    rw [List.getElem?_map,List.getElem?_map] at h2
    cases q:lv[i]? with
    | none=>rw [q] at h1; cases h1
    | some a=>
      rw [q] at h1 h2
      cases h1
      cases h2
      have hm:=(lv' a.1 a.2).mp (List.mem_of_getElem? q)
      have hk:=o.lt _ _ hm
      have he:hs[a.2]?=some (hs.getD a.2 0):=by rw [List.getD_eq_getElem?_getD,List.getElem?_eq_getElem hk]; rfl
      refine (o.rch _ _ _ hm he).mono ?_
      rintro y ⟨z,hz⟩
      show y ∈ (lv.map (·.1)).toArray.toList
      exact List.mem_map.mpr ⟨(y,z),(lv' y z).mpr hz,rfl⟩
theorem range_fm {α:Type} (l:List α):(List.range l.length).filterMap (fun x=>l[x]?)=l:=by
  induction l with
  | nil=>rfl
  | cons a l ih=>
    rw [List.length_cons,List.range_succ_eq_map,List.filterMap_cons]
    simp only [List.getElem?_cons_zero,List.filterMap_map]
    congr 1
theorem reorder_is {es:List (Int × Value)} {order:List Nat} (p:order.Perm (List.range es.length)) :
    (order.filterMap (fun x=>es[x]?)).Perm es/\(order.filterMap (fun x=>es[x]?)).map (·.1)=order.map (fun x=>(es.map (·.1)).getD x 0):=by
  constructor
  · have:=p.filterMap (fun x=>es[x]?)
    rwa [range_fm] at this
  · have hm:∀ x ∈ order,x < es.length:=fun x hx=>List.mem_range.mp (p.mem_iff.mp hx)
    clear p
    induction order with
    | nil=>rfl
    | cons x l ih=>
      have hx:=hm x (by simp)
      rw [List.filterMap_cons,List.getElem?_eq_getElem hx]
      simp only [List.map_cons]
      rw [ih fun y hy=>hm y (List.mem_cons_of_mem _ hy)]
      congr 1
      rw [List.getD_eq_getElem?_getD,List.getElem?_map,List.getElem?_eq_getElem hx]
      rfl
theorem full_is {M n:Nat} (h:SzP M n):(decide (n * 5>=M * 3)=true->∃ M',SetTable.sizeAbove (SetTable.grown n) - 1=M'/\¬ SetTable.sizeAbove (SetTable.grown n) > sizeLine/\HM M'/\SzM M' n/\n<=M')/\(decide (n * 5>=M * 3)=false->SzM M n):=by
  unfold SzP at h
  constructor
  · intro z
    have z:n * 5>=M * 3:=by simpa using z
    have:(M=7/\n=5)\/(M=31/\n=19):=by omega
    rcases this with ⟨rfl,rfl⟩ | ⟨rfl,rfl⟩
    · exact ⟨31,by decide +kernel,by decide +kernel,.inr (.inl rfl),.inr (.inl ⟨rfl,by decide⟩),by decide⟩
    · exact ⟨127,by decide +kernel,by decide +kernel,.inr (.inr rfl),.inr (.inr ⟨rfl,by decide⟩),by decide⟩
  · intro z
    have z:¬ n * 5>=M * 3:=by simpa using z
    unfold SzM
    omega
end L2
namespace L2
open PySem PySem.Spec PyProof.Rows SeqAt
section
variable {prog:Program} {w:World} {A:Around} {E:Value->Shared->Prop} {s:Shared}
theorem hk_byValue:∀ (m:Nat) (d:Nat) {A:Around} {s:Shared} {k:HK} {v:Value} {Q:Bool->Shared->Prop},Dp d k->KIs s.heap k v->(∀ b,Q b s)->wpAny (model prog w) A (hashByValue m v) Q E s:=by
  intro m
  induction m with
  | zero=>
    intro d A s k v Q dk r q
    cases k with
    | int i=>obtain ⟨t,rfl⟩:=r; unfold hashByValue; exact wpAny_pure (q _)
    | str i=>obtain ⟨t,rfl⟩:=r; unfold hashByValue; exact wpAny_pure (q _)
    | tup l=>obtain ⟨a,items,rfl,_⟩:=r; unfold hashByValue; exact wpAny_pure (q _)
  | succ m ih=>
    intro d A s k v Q dk r q
    cases k with
    | int i=>obtain ⟨t,rfl⟩:=r; unfold hashByValue; exact wpAny_pure (q _)
    | str i=>obtain ⟨t,rfl⟩:=r; unfold hashByValue; exact wpAny_pure (q _)
    | tup ks=>
      obtain ⟨a,items,rfl,⟨o,ho,hc,n,hd⟩,hi⟩:=r
      have hT:s.TypeIs (.ref a) "tuple" := ⟨o,ho,hc⟩
      cases d with
      | zero=>exact dk.elim
      | succ d=>
        unfold hashByValue
        refine wpAny_bind (wpAny_specialOf hT F.slot_tuple_hash.lookup ?_)
        dsimp only
        refine wpAny_bind (wpAny_seqItems ho hd (wpAny_bind ?_))
        show wpAny _ _ (forIn items _ _) _ _ s
        rw [<- Array.forIn_toList]
        refine wpAny_forIn_list _ (fun rest r s'=>s'=s/\∃ l,KIsL s.heap l rest/\∀ k ∈ l,k ∈ ks) _ ?_ ?_ _ _ ⟨rfl,ks,hi,fun _ h=>h⟩
        · rintro v rest r s' ⟨rfl,l,hl,hall⟩
          cases l with
          | nil=>cases hl
          | cons k l=>
            obtain ⟨v',r',e,h1,h2⟩:=hl
            cases e
            refine wpAny_bind (ih d (dk k (hall k (by simp))) h1 fun b=>?_)
            cases b with
            | false=>
              simp only [Bool.not_false,if_true]
              refine wpAny_pure ?_
              first | exact wpAny_pure (q _) | exact q _
            | true=>
              simp only [Bool.not_true,Bool.false_eq_true,if_false]
              exact wpAny_pure ⟨rfl,l,h2,fun x hx=>hall x (List.mem_cons_of_mem _ hx)⟩
        · rintro ⟨r1,r2⟩ s' ⟨rfl,_⟩
          cases r1 with
          | none=>exact wpAny_pure (q _)
          | some b=>exact wpAny_pure (q _)
theorem hk_notClass:∀ (d:Nat) {A:Around} {s:Shared} {k:HK} {v:Value} {Q:Bool->Shared->Prop} (m:Nat),d < m->Dp d k->KIs s.heap k v->Q false s->wpAny (model prog w) A (ofAClassStatement m v) Q E s:=by
  intro d
  induction d with
  | zero=>
    intro A s k v Q m hm dk r q
    cases k with
    | tup l=>exact dk.elim
    | int i=>obtain ⟨t,rfl⟩:=r; unfold ofAClassStatement; exact wpAny_pure q
    | str i=>obtain ⟨t,rfl⟩:=r; unfold ofAClassStatement; exact wpAny_pure q
  | succ d ih=>
    intro A s k v Q m hm dk r q
    cases k with
    | int i=>obtain ⟨t,rfl⟩:=r; unfold ofAClassStatement; exact wpAny_pure q
    | str i=>obtain ⟨t,rfl⟩:=r; unfold ofAClassStatement; exact wpAny_pure q
    | tup ks=>
      obtain ⟨a,items,rfl,⟨o,ho,hc,n,hd⟩,hi⟩:=r
      have hT:s.TypeIs (.ref a) "tuple" := ⟨o,ho,hc⟩
      obtain ⟨m,rfl⟩:∃ m',m=m' + 1:=⟨m - 1,by omega⟩
      unfold ofAClassStatement
      refine wpAny_bind (wpAny_typeOf hT ?_)
      dsimp only
      rw [if_pos (by decide)]
      refine wpAny_bind (wpAny_pure ?_)
      simp only [Bool.not_true,Bool.false_eq_true,if_false]
      refine wpAny_bind (wpAny_seqItems ho hd ?_)
      dsimp only
      refine wpAny_bind ?_
      rw [<- Array.forIn_toList]
      refine wpAny_forIn_list _ (fun rest r s'=>r.1=none/\s'=s/\∃ l,KIsL s.heap l rest/\∀ k ∈ l,k ∈ ks) _ ?_ ?_ _ _ ⟨rfl,rfl,ks,hi,fun _ h=>h⟩
      · rintro v rest r s' ⟨hr,rfl,l,hl,hall⟩
        cases l with
        | nil=>cases hl
        | cons k l=>
          obtain ⟨v',r',e,h1,h2⟩:=hl
          cases e
          refine wpAny_bind (ih m (by omega) (dk k (hall k (by simp))) h1 ?_)
          simp only [Bool.false_eq_true,if_false]
          exact wpAny_pure ⟨rfl,rfl,l,h2,fun x hx=>hall x (List.mem_cons_of_mem _ hx)⟩
      · rintro ⟨r1,r2⟩ s' ⟨hr,rfl,_⟩
        simp only at hr
        subst hr
        exact wpAny_pure q
theorem seen_no {b:Addr} {k:HK} (hx:(nk prog w).is s.heap k b) {Q:Bool->Shared->Prop} (l:List Value) (hl:∀ v ∈ l,∃ c k',v=.ref c/\(nk prog w).is s.heap k' c) (q:Q false s):wpAny (model prog w) A (searchCouldBeSeen (.ref b) l) Q E s:=by
  unfold searchCouldBeSeen
  refine wpAny_bind ?_
  refine wpAny_forIn_list _ (fun rest r s'=>r.1=none/\s'=s/\∀ v ∈ rest,∃ c k',v=.ref c/\(nk prog w).is s.heap k' c) _ ?_ ?_ _ _ ⟨rfl,rfl,hl⟩
  · rintro v rest r s' ⟨hr,rfl,hall⟩
    obtain ⟨c,k',rfl,hc⟩:=hall v (by simp)
    dsimp only
    refine wpAny_ite_split (fun _=>wpAny_pure ⟨rfl,rfl,fun x hx=>hall x (List.mem_cons_of_mem _ hx)⟩) fun _=>?_
    refine wpAny_bind ((nk prog w).quiet hx ?_)
    simp only [Bool.not_true,Bool.false_eq_true,if_false]
    refine wpAny_bind ((nk prog w).quiet hc ?_)
    simp only [Bool.not_true,Bool.false_eq_true,if_false]
    refine wpAny_bind (hk_notClass 5 8 (by decide) hx.2 hx.1 ?_)
    simp only [Bool.false_eq_true,if_false]
    refine wpAny_bind (hk_notClass 5 8 (by decide) hc.2 hc.1 ?_)
    simp only [Bool.false_eq_true,if_false]
    exact wpAny_pure ⟨rfl,rfl,fun x hx=>hall x (List.mem_cons_of_mem _ hx)⟩
  · rintro ⟨r1,r2⟩ s' ⟨hr,rfl,_⟩
    simp only at hr
    subst hr
    exact wpAny_pure q
def ElH (prog:Program) (w:World) (h:Heap) (e:Int × Value) (k:HK):Prop:=∃ b,e.2=.ref b/\(nk prog w).is h k b/\e.1=hkH prog w k
theorem probe_res {t:SetTable} {L:Bool} (g:Good L t) {hashAt:Nat->Int} {h:Int} {N:Nat} (hN:posP t.mask h N ∉ t.place.toList) (hl:∀ m,m < N->posP t.mask h m ∈ t.place.toList) {fuel n:Nat} (h1:n<=N) (h2:N - n < fuel) {pr:Option SetTable.Met} (e:SetTable.probe.go t hashAt h fuel (pth t.mask h n)=pr) :
    (pr=some (.empty (posP t.mask h N) none)/\∀ m,n<=m->m < N->∀ i,t.place[i]?=some (posP t.mask h m)->hashAt i ≠ h) \/
    (∃ m i,n<=m/\m < N/\t.place[i]?=some (posP t.mask h m)/\hashAt i=h/\pr=some (.candidate (posP t.mask h m) i (pth t.mask h (m + 1)))/\∀ m',n<=m'->m' < m->∀ i,t.place[i]?=some (posP t.mask h m')->hashAt i ≠ h):=by
  subst e; exact probe_at g hashAt h hN hl fuel n h1 h2
theorem paired_get {α β:Type} {F:α->β->Prop}:∀ {l:List α} {ks:List β} {i:Nat} {a:α},Paired F l ks->l[i]?=some a->∃ b,ks[i]?=some b/\F a b
  | _,_,i,a,.nil,e=>by simp at e
  | _,_,0,a,.cons r t,e=>by simp at e; subst e; exact ⟨_,rfl,r⟩
  | _,_,i + 1,a,.cons r t,e=>by simpa using paired_get t (by simpa using e)
theorem paired_get' {α β:Type} {F:α->β->Prop}:∀ {l:List α} {ks:List β} {i:Nat} {b:β},Paired F l ks->ks[i]?=some b->∃ a,l[i]?=some a/\F a b
  | _,_,i,b,.nil,e=>by simp at e
  | _,_,0,b,.cons r t,e=>by simp at e; subst e; exact ⟨_,rfl,r⟩
  | _,_,i + 1,b,.cons r t,e=>by simpa using paired_get' t (by simpa using e)
theorem search_is {L:Bool} {a b:Addr} {k:HK} {o:Obj} {es:Array (Int × Value)} {ep:Nat} {t:SetTable} {ks:List HK} (hu:A.units + 5 < cLine) (hx:(nk prog w).is s.heap k b) (ho:s.heap.get? a=some o) (hd:o.data=.set es ep t) (hg:HG L t (es.toList.map (·.1)))
    (hp:Paired (ElH prog w s.heap) es.toList ks) (nd:ks.Nodup) {N:Nat} (hN:posP t.mask (hkH prog w k) N ∉ t.place.toList) (hl:∀ m,m < N->posP t.mask (hkH prog w k) m ∈ t.place.toList) (hNb:N<=10 * (t.mask + 12)) {Q:SetFound->Shared->Prop}
    (h1:k ∉ ks->Q (.free (posP t.mask (hkH prog w k) N) false) s) (h2:k ∈ ks->Q (.there none) s) :
    ∀ (fuel n:Nat) (st:Option SetTable.Probe),st.getD (t.probeStart (hkH prog w k))=pth t.mask (hkH prog w k) n->n<=N->N - n < fuel->(∀ i:Nat,ks[i]?=some k->∃ m,n<=m/\m < N/\t.place[i]?=some (posP t.mask (hkH prog w k) m))->wpAny (model prog w) A (setSearchFrom a (.ref b) (hkH prog w k) true fuel st) Q E s:=by
  have hfit:t.fits es.size=true:=by have:=hg.fits; rwa [List.length_map,Array.length_toList] at this
  have hgw:t.gaveWay=false:=by
    have:=hg.sz
    unfold SzM at this
    unfold SetTable.gaveWay
    rcases this with ⟨e,_⟩ | ⟨e,_⟩ | ⟨e,_⟩ <;> rw [e] <;> rfl
  intro fuel
  induction fuel with
  | zero=>intro n st _ _ h; omega
  | succ fuel ih=>
    intro n st est hn hf hk
    rw [setSearchFrom.eq_2]
    refine wpAny_bind (wpAny_setState_of ho hd hfit ?_)
    dsimp only
    rw [if_neg (by rw [hgw]; exact Bool.false_ne_true),est]
    generalize hpr:SetTable.probe t _ _ _=pr
    unfold SetTable.probe at hpr
    rcases probe_res hg.good hN hl hn (by unfold SetTable.turns; omega) hpr with ⟨e1,e2⟩ | ⟨m,i,c1,c2,c3,c4,e1,c6⟩
    · subst e1
      dsimp only
      refine wpAny_pure (h1 fun hm=>?_)
      obtain ⟨i,hi,ei⟩:=List.getElem_of_mem hm
      have hi':ks[i]?=some k:=by rw [List.getElem?_eq_getElem hi,ei]
      obtain ⟨m,m1,m2,m3⟩:=hk i hi'
      obtain ⟨e,he,c,_,_,hh⟩:=paired_get' hp hi'
      refine e2 m m1 m2 i m3 ?_
      show ((es[i]?).map (·.1)).getD 0=_
      rw [<- Array.getElem?_toList,he]
      exact hh
    · subst e1
      dsimp only
      have c4:((es[i]?).map (·.1)).getD 0=hkH prog w k:=c4
      have hib:i < es.size:=by
        have:=(Array.getElem?_eq_some_iff.mp c3).1
        rw [hg.len,List.length_map,Array.length_toList] at this
        exact this
      have hei:es.toList[i]?=some es[i]:=by rw [Array.getElem?_toList,Array.getElem?_eq_getElem hib]
      obtain ⟨k',hk',c,ec,hc,hh⟩:=paired_get hp hei
      have hee:es[i]?=some (es[i].1,.ref c):=by rw [Array.getElem?_eq_getElem hib,<- ec]
      have go:wpAny (model prog w) A
          (match es[i]? with
            | some (fst,y)=>do
              let equal <- holding [y] (eqBool y (.ref b))
              let __x <- setState a
              match __x with
                | (es',fst,t')=>
                  if (true && equal)=true then pure (SetFound.there none)
                  else
                    match t'.sameMemory t.moves t.mask with
                    | some same=>
                      have __do_jp:=fun still=>
                        match still with
                        | none=>do
                          rule "set.search.anew"
                          setSearchFrom a (.ref b) (hkH prog w k) true fuel none
                        | some i'=>
                          if equal=true then pure (SetFound.there (some i'))
                          else setSearchFrom a (.ref b) (hkH prog w k) true fuel (some (pth t.mask (hkH prog w k) (m + 1)));
                      match if same=true then t'.slot (posP t.mask (hkH prog w k) m) else SetTable.Slot.empty with
                      | SetTable.Slot.live i'=>
                        match es'[i']? with
                        | some (fst,y')=>do
                          let __do_lift <- isSame y' y
                          let still <- pure (if __do_lift=true then some i' else none)
                          __do_jp still
                        | none=>do
                          let still <- pure none
                          __do_jp still
                      | x=>do
                        let still <- pure none
                        __do_jp still
                    | x=>unsupported "set.changed-during-lookup:is-the-new-block-at-the-old-address"
            | x=>unsupported "internal:set-entry") Q E s:=by
        rw [hee]
        dsimp only
        refine wpAny_bind (wpAny_holding ((nk prog w).eqBool hu hc hx ?_))
        refine wpAny_bind (wpAny_setState_of ho hd hfit ?_)
        dsimp only
        by_cases q:k'=k
        · rw [decide_eq_true q,if_pos (by decide)]
          exact wpAny_pure (h2 (by rw [<- q]; exact List.mem_of_getElem? hk'))
        · rw [decide_eq_false q,if_neg (by decide)]
          have sm:t.sameMemory t.moves t.mask=some true:=by unfold SetTable.sameMemory; rw [if_pos (by simp)]
          rw [sm]
          dsimp only
          rw [if_pos rfl,slot_live hg.good.1 c3]
          dsimp only
          rw [hee]
          dsimp only
          refine wpAny_bind (wpAny_isSame_ref_self ?_)
          refine wpAny_bind (wpAny_pure ?_)
          rw [if_pos rfl]
          dsimp only
          rw [if_neg Bool.false_ne_true]
          refine ih (m + 1) _ rfl (by omega) (by omega) fun i2 hi2=>?_
          obtain ⟨m2,a1,a2,a3⟩:=hk i2 hi2
          obtain ⟨e,he,c',_,_,hh'⟩:=paired_get' hp hi2
          have ne:m2 ≠ m:=fun z=>by
            subst z
            have:=slot_live hg.good.1 c3
            rw [slot_live hg.good.1 a3] at this
            cases this
            rw [hk'] at hi2
            cases hi2
            exact q rfl
          have nl:¬ m2 < m:=fun z=>by
            refine c6 m2 a1 z i2 a3 ?_
            show ((es[i2]?).map (·.1)).getD 0=_
            rw [<- Array.getElem?_toList,he]
            exact hh'
          exact ⟨m2,by omega,a2,a3⟩
      cases hled:t.led with
      | true=>simp only [Bool.not_true,Bool.false_eq_true,if_false]; exact go
      | false=>
        simp only [Bool.not_false,if_true]
        refine wpAny_bind (seen_no hx _ (fun v hv=>?_) ?_)
        · obtain ⟨e,he,rfl⟩:=List.mem_map.mp hv
          have he:e ∈ es:=by
            have:e ∈ (Array.filter (fun x=>x.1 == hkH prog w k) es):=by simpa using he
            exact (Array.mem_filter.mp this).1
          obtain ⟨k2,_,c2,q1,q2,_⟩:=paired_mem' hp (Array.mem_toList_iff.mpr he)
          exact ⟨c2,k2,q1,q2⟩
        · simp only [Bool.false_eq_true,if_false]
          exact go
end
end L2
namespace L2
open PySem PySem.Spec PyProof.Rows SeqAt
section
variable {prog:Program} {w:World} {A:Around} {E:Value->Shared->Prop} {s:Shared}
def GH (prog:Program) (w:World) (L:Bool) (h:Heap) (a:Addr) (ks:List HK):Prop:=
  ∃ o es ep t,h.get? a=some o/\o.ExactSet/\o.data=.set es ep t/\(∃ ks',ks'.Perm ks/\Paired (ElH prog w h) es.toList ks')/\ks.Nodup/\HG L t (es.toList.map (·.1))
theorem ElH.keep {h h':Heap} (hk:∀ a its,IsTup h a its->IsTup h' a its) {e:Int × Value} {k:HK} (x:ElH prog w h e k):ElH prog w h' e k:=let ⟨b,e1,e2,e3⟩:=x; ⟨b,e1,⟨KIs.keep hk 5 e2.2 e2.1,e2.2⟩,e3⟩
theorem paired_imp {α β:Type} {F G:α->β->Prop} (f:∀ a b,F a b->G a b):∀ {l:List α} {ks:List β},Paired F l ks->Paired G l ks
  | _,_,.nil=>.nil
  | _,_,.cons r t=>.cons (f _ _ r) (paired_imp f t)
theorem GH.at {L:Bool} {h h':Heap} {a:Addr} {ks:List HK} (g:GH prog w L h a ks) (k:∀ o,h.get? a=some o->h'.get? a=some o) (hk:∀ a its,IsTup h a its->IsTup h' a its):GH prog w L h' a ks:=by
  obtain ⟨o,es,ep,t,h1,h2,h3,⟨ks',p,r⟩,h5,h6⟩:=g
  exact ⟨o,es,ep,t,k o h1,h2,h3,⟨ks',p,paired_imp (fun _ _=>ElH.keep hk) r⟩,h5,h6⟩
theorem set_not_tup {h:Heap} {a:Addr} {o:Obj} {es:Array (Int × Value)} {ep:Nat} {t:SetTable} (ho:h.get? a=some o) (hd:o.data=.set es ep t) (its:Array Value):¬ IsTup h a its:=fun ⟨o',h1,_,n,h3⟩=>by
  rw [ho] at h1; cases h1; rw [hd] at h3; cases h3
theorem tup_same {h h':Heap} {a:Addr} {o:Obj} {es:Array (Int × Value)} {ep:Nat} {t:SetTable} (ho:h.get? a=some o) (hd:o.data=.set es ep t) (sb:Heap.SameBut a h h') (b:Addr) (its:Array Value) (x:IsTup h b its):IsTup h' b its:=by
  by_cases e:b=a
  · subst e; exact absurd x (set_not_tup ho hd its)
  · obtain ⟨o',h1,h2⟩:=x
    exact ⟨o',(sb.2 b e).trans h1,h2⟩
theorem paired_insert {α β:Type} {F:α->β->Prop} {a:α} {b:β} (r:F a b):∀ {l:List α} {ks:List β} (p:Nat),Paired F l ks->Paired F (l.take p ++ a :: l.drop p) (ks.take p ++ b :: ks.drop p)
  | _,_,0,h=>by simpa using Paired.cons r h
  | _,_,p + 1,.nil=>by simpa using Paired.cons r .nil
  | _,_,p + 1,.cons r' t=>by simpa using Paired.cons r' (paired_insert r p t)
theorem gh_store {h:Heap} {a:Addr} {o:Obj} {es es':Array (Int × Value)} {ep:Nat} {t t':SetTable} {ks':List HK} (ho:h.get? a=some o) (hx:o.ExactSet) (hd:o.data=.set es ep t) (hr:Paired (ElH prog w h) es'.toList ks') :
    ∃ o',(h.update a (Obj.putSet es' t')).get? a=some o'/\o'.ExactSet/\o'.data=.set es' (ep + 1) t'/\Heap.SameBut a h (h.update a (Obj.putSet es' t'))/\Paired (ElH prog w (h.update a (Obj.putSet es' t'))) es'.toList ks':=by
  have e:=Heap.get?_update_self (Obj.putSet es' t') ho (by rw [putSet_of es' t' hd]; rfl)
  rw [putSet_of es' t' hd] at e
  have sb:=Heap.SameBut.update h a (Obj.putSet es' t')
  exact ⟨_,e,hx,rfl,sb,paired_imp (fun _ _=>ElH.keep (tup_same ho hd sb)) hr⟩
theorem HG0.unplain {L:Bool} {t:SetTable} {hs:List Int} (g:HG0 L t hs):HG0 L { t with plain:=false } hs:=⟨g.good,g.len,g.le,g.rch⟩
theorem gh_tail {L:Bool} {a:Addr} {o:Obj} {es es1:Array (Int × Value)} {ep:Nat} {t t1:SetTable} {ks1:List HK} (ho:s.heap.get? a=some o) (hx:o.ExactSet) (hd:o.data=.set es ep t) (hr:Paired (ElH prog w s.heap) es1.toList ks1) (hn:ks1.Nodup)
    (hg:HG0 L t1 (es1.toList.map (·.1))) (hz:SzP t1.mask es1.size) {n:Nat} (en:n=es1.size) {Q:Bool->Shared->Prop} (h:∀ h',Heap.SameBut a s.heap h'->GH prog w L h' a ks1->Q true { s with heap:=h' }) :
    wpAny (model prog w) A (do
        storeSet a es1 t1
        if (!false && t1.tooFull)=true then do
            setRelay a (SetTable.grown n)
            pure true
          else pure true) Q E s:=by
  have hb:es1.size<=sizeLine:=by rw [sizeLine_eq]; unfold SzP at hz; omega
  refine wpAny_bind (wpAny_storeSet_of ho hd ?_ hb)
  obtain ⟨o1,e1,x1,d1,sb1,r1⟩:=gh_store (t':=t1) ho hx hd hr
  have hfill:t1.fill=es1.size:=by
    unfold SetTable.fill
    rw [hg.good.2.1,hg.len,List.length_map,Array.length_toList]
    rfl
  have htf:t1.tooFull=decide (es1.size * 5>=t1.mask * 3):=by unfold SetTable.tooFull; rw [hfill]
  obtain ⟨f1,f2⟩:=full_is hz
  have hfit:t1.fits es1.size=true:=by
    unfold SetTable.fits
    rw [hfill,hg.len,List.length_map,Array.length_toList]
    unfold SzP at hz
    simp
    omega
  rw [htf]
  cases z:decide (es1.size * 5>=t1.mask * 3) with
  | false=>
    rw [if_neg (by simp)]
    refine wpAny_pure (h _ sb1 ⟨o1,es1,_,t1,e1,x1,d1,⟨ks1,List.Perm.refl _,r1⟩,hn,⟨hg,?_⟩⟩)
    rw [List.length_map,Array.length_toList]
    exact f2 z
  | true=>
    rw [if_pos (by simp)]
    obtain ⟨M',y1,y2,y3,y4,y5⟩:=f1 z
    obtain ⟨t2,order,p1,p2,p3,p4⟩:=relaid_is (t:=t1) (hs:=es1.toList.map (·.1)) (wanted:=SetTable.grown n) hg.good y3 (by rw [en]; exact y1) (by rw [List.length_map,Array.length_toList]; exact y5)
    rw [List.length_map] at p2
    obtain ⟨q1,q2⟩:=reorder_is p2
    refine wpAny_bind ?_
    unfold setRelay
    refine wpAny_bind (wpAny_setState_of e1 d1 hfit ?_)
    dsimp only
    rw [if_neg (by rw [en]; exact y2)]
    have eh:(Array.map (fun x=>x.1) es1)=(es1.toList.map (·.1)).toArray:=by
      apply Array.ext'
      rw [Array.toList_map]
    rw [eh,p1]
    refine wpAny_bind ?_
    generalize hes2:Array.filterMap (fun x=>es1[x]?) order.toArray=es2
    have e2:es2.toList=order.filterMap (fun x=>es1.toList[x]?):=by
      rw [<- hes2,Array.toList_filterMap]
      simp only [Array.getElem?_toList]
    rw [<- e2] at q1 q2
    have hsz:es2.size=es1.size:=by rw [<- Array.length_toList,q1.length_eq,Array.length_toList]
    show wpAny _ _ (if (Array.size (Array.filterMap (fun x=>es1[x]?) order.toArray) != es1.size)=true then _ else _) _ _ _
    rw [hes2,if_neg (by rw [hsz]; simp)]
    refine wpAny_pure ?_
    dsimp only
    refine wpAny_storeSet_of e1 d1 ?_ (by rw [hsz]; exact hb)
    obtain ⟨ks2,r2,p5⟩:=paired_perm q1 r1
    obtain ⟨o2,e3,x3,d3,sb3,r3⟩:=gh_store (t':=t2) e1 x1 d1 r2
    refine wpAny_pure (h _ (sb1.trans sb3) ⟨o2,es2,_,t2,e3,x3,d3,⟨ks2,p5,r3⟩,hn,⟨?_,?_⟩⟩)
    · rw [q2]; exact p4
    · rw [List.length_map,Array.length_toList,hsz,p3]; exact y4
theorem gh_add {L:Bool} {a b:Addr} {ks:List HK} {k:HK} {Q:Bool->Shared->Prop} (hu:A.units + 5 < cLine) (hx:(nk prog w).is s.heap k b) (g:GH prog w L s.heap a ks) (room:ks.length + 1<=76)
    (h:∀ b h',Heap.SameBut a s.heap h'->GH prog w L h' a (addK ks k)->Q b { s with heap:=h' }):wpAny (model prog w) A (setAddHashed a (.ref b) (hkH prog w k)) Q E s:=by
  obtain ⟨o,es,ep,t,ho,hxs,hd,⟨ks',p0,r0⟩,hn,hg⟩:=g
  have nd':ks'.Nodup:=(p0.nodup_iff).mpr hn
  have hlen:es.size=ks'.length:=by rw [<- Array.length_toList,Paired.length r0]
  have hlk:ks'.length=ks.length:=p0.length_eq
  have hfit:t.fits es.size=true:=by have:=hg.fits; rwa [List.length_map,Array.length_toList] at this
  obtain ⟨N,n1,n2,n3⟩:=hg.free (hkH prog w k)
  unfold setAddHashed
  refine wpAny_holding ?_
  rw [setAddHashedIn.eq_def]
  dsimp only
  refine wpAny_bind (wpAny_setState_of ho hd hfit ?_)
  dsimp only
  rw [if_neg (by unfold byScan; simp [Value.scannable])]
  refine wpAny_bind ?_
  unfold setSearch
  refine search_is hu hx ho hd hg r0 nd' n2 n3 n1 (fun km=>?_) (fun km=>?_) 100000 0 none rfl (Nat.zero_le _) ?_ fun i hi=>?_
  · dsimp only
    refine wpAny_bind (wpAny_setState_of ho hd hfit ?_)
    dsimp only
    have km':k ∉ ks:=fun z=>km (p0.mem_iff.mpr z)
    have ea:addK ks k=ks ++ [k]:=by unfold addK; rw [if_neg km']
    have hr:=paired_insert (F:=ElH prog w s.heap) (a:=(hkH prog w k,Value.ref b)) (b:=k) ⟨b,rfl,hx,rfl⟩ (SetTable.below t.place (posP t.mask (hkH prog w k) N)) r0
    rw [<- SetTable.toList_insertAt] at hr
    have hp1:(ks'.take (SetTable.below t.place (posP t.mask (hkH prog w k) N)) ++ k :: ks'.drop (SetTable.below t.place (posP t.mask (hkH prog w k) N))).Perm (addK ks k):=by
      rw [ea]
      refine List.perm_middle.trans ?_
      rw [List.take_append_drop]
      exact (p0.cons k).trans (List.perm_append_comm (l₁:=[k]))
    have hn1:(addK ks k).Nodup:=by
      rw [ea]
      exact List.nodup_append.mpr ⟨hn,by simp,fun x hxx y hy e=>by
        have:y=k:=by simpa using hy
        rw [e,this] at hxx; exact km' hxx⟩
    have hn2:=hp1.nodup_iff.mpr hn1
    have hg1:=hg.put n2 n3
    have hm1:(SetTable.insertAt es (SetTable.below t.place (posP t.mask (hkH prog w k) N)) (hkH prog w k,Value.ref b)).toList.map (·.1)=(es.toList.map (·.1)).take (SetTable.below t.place (posP t.mask (hkH prog w k) N)) ++ hkH prog w k :: (es.toList.map (·.1)).drop (SetTable.below t.place (posP t.mask (hkH prog w k) N)):=by
      rw [SetTable.toList_insertAt,List.map_append,List.map_cons,List.map_take,List.map_drop]
    rw [<- hm1] at hg1
    have hz1:(SetTable.insertAt es (SetTable.below t.place (posP t.mask (hkH prog w k) N)) (hkH prog w k,Value.ref b)).size=es.size + 1:=by
      rw [<- Array.length_toList,SetTable.toList_insertAt,List.length_append,List.length_cons,<- Nat.add_assoc,<- List.length_append,List.take_append_drop,Array.length_toList]
    have hsz:SzP (t.put (posP t.mask (hkH prog w k) N)).1.mask (SetTable.insertAt es (SetTable.below t.place (posP t.mask (hkH prog w k) N)) (hkH prog w k,Value.ref b)).size:=by
      rw [hz1]
      show SzP t.mask (es.size + 1)
      have:=hg.sz
      rw [List.length_map,Array.length_toList] at this
      unfold SzM at this
      unfold SzP
      omega
    have fin:∀ h',Heap.SameBut a s.heap h'->GH prog w L h' a (ks'.take (SetTable.below t.place (posP t.mask (hkH prog w k) N)) ++ k :: ks'.drop (SetTable.below t.place (posP t.mask (hkH prog w k) N)))->Q true { s with heap:=h' }:=fun h' sb gh=>by
      refine h true h' sb ?_
      obtain ⟨o,es,ep,t,y1,y2,y3,⟨y4,y5,y6⟩,y7,y8⟩:=gh
      exact ⟨o,es,ep,t,y1,y2,y3,⟨y4,y5.trans hp1,y6⟩,hn1,y8⟩
    by_cases zp:t.plain=true
    · rw [if_pos (show (t.put (posP t.mask (hkH prog w k) N)).1.plain=true from zp)]
      refine wpAny_bind (hk_byValue 8 5 hx.2 hx.1 fun bv=>?_)
      cases bv with
      | true=>
        simp only [if_true]
        exact gh_tail (n:=es.size + 1) ho hxs hd hr hn2 hg1 hsz hz1.symm fin
      | false=>
        simp only [Bool.false_eq_true,if_false]
        exact gh_tail (n:=es.size + 1) ho hxs hd hr hn2 hg1.unplain hsz hz1.symm fin
    · rw [if_neg (show ¬ (t.put (posP t.mask (hkH prog w k) N)).1.plain=true from zp)]
      refine wpAny_bind (wpAny_pure ?_)
      simp only [if_true]
      exact gh_tail (n:=es.size + 1) ho hxs hd hr hn2 hg1 hsz hz1.symm fin
  · dsimp only
    have e:s={ s with heap:=s.heap }:=by cases s; rfl
    rw [e]
    refine wpAny_pure (h _ s.heap (Heap.SameBut.refl a s.heap) ?_)
    unfold addK
    rw [if_pos (p0.mem_iff.mp km)]
    exact ⟨o,es,ep,t,ho,hxs,hd,⟨ks',p0,r0⟩,hn,hg⟩
  · have:=hg.sz; unfold SzM at this; omega
  · obtain ⟨e,he,c,e1,e2,e3⟩:=paired_get' r0 hi
    have hib:i < t.place.size:=by
      have:=(List.getElem?_eq_some_iff.mp he).1
      rw [hg.len,List.length_map]; exact this
    have hpl:t.place[i]?=some t.place[i]:=Array.getElem?_eq_getElem hib
    have hh:(es.toList.map (·.1))[i]?=some (hkH prog w k):=by rw [List.getElem?_map,he,<- e3]; rfl
    obtain ⟨m,m1,m2⟩:=hg.rch i _ _ hpl hh
    refine ⟨m,Nat.zero_le _,?_,by rw [m1]; exact hpl⟩
    have inp:t.place[i] ∈ t.place.toList:=by rw [Array.mem_toList_iff]; exact Array.getElem_mem hib
    by_cases c1:N < m
    · exact absurd (m2 N c1) n2
    · by_cases c2:N=m
      · subst c2; rw [m1] at n2; exact absurd inp n2
      · omega
end
end L2
namespace L2
open PySem PySem.Spec PyProof.Rows SeqAt
section
variable {prog:Program} {w:World} {A:Around} {R:Result->Shared->Prop}
theorem iter_not_tup {h:Heap} {I ax:Addr} {i:Nat} (x:h.IsTupleIter I ax i) {its:Array Value} (y:IsTup h I its):False:=by
  obtain ⟨o,h1,h2,h3⟩:=x
  obtain ⟨o',g1,g2,n,g3⟩:=y
  rw [h1] at g1; cases g1
  rw [h2] at g2; exact absurd g2 (by decide)
theorem set_loopH {I D:Addr} {fp:List Addr} {n:Nat} {P:Nat->Value->Prop} {St:Nat->Heap->Prop} {ks:List HK} {h0:Heap} (hu:A.in1.units + 5 < cLine) (W:Walks prog w A.in1 I fp [I] n P St) (hD:D ∉ fp) (hI:∀ i h,St i h->∀ its,¬ IsTup h I its) (hn:n=ks.length)
    (hv:∀ i v,P i v->∃ k b,ks[i]?=some k/\v=.ref b/\(nk prog w).is h0 k b) (hb:ks.length<=76) :
    ∀ (k i:Nat) (s:Shared),n - i=k->i<=n->St i s.heap->(∀ a its,IsTup h0 a its->IsTup s.heap a its)->GH prog w (byT w) s.heap D (metK (ks.take i)) ->
      (∀ h' tk,GH prog w (byT w) h' D (metK ks)->(∀ b o,b ∉ [D,I]->s.heap.get? b=some o->h'.get? b=some o)->R (.ok (.ret .none)) { s with heap:=h',toks:=tk }) ->
      codeAny (model prog w) A (.builtin "set.update.loop" ⟨[.ref D,.ref I],[]⟩) R s:=by
  have hDI:D ≠ I:=fun z=>hD (W.sub D (by simp [z]))
  intro k
  induction k with
  | zero=>
    intro i s hk hi hst htu g hR
    have e:i=n:=by omega
    subst e
    refine codeAny_builtin PyProof.Rows.F.entry_set_update_loop ?_
    rw [Around.under_plainId PyProof.Rows.F.plain_set_update_loop _]
    show wpAny _ A.in1 (pyNext (.ref I) >>= _) _ _ s
    refine wpAny_bind (W.done s _ _ hst fun h' tk hm=>?_)
    show wpAny _ A.in1 (ret Value.none) _ _ _
    rw [hn,List.take_length] at g
    refine wpAny_pure (hR h' tk (g.at (fun o q=>hm D o (by simpa using hDI) q) fun a its x=>?_) fun b o hb' q=>hm b o (fun z=>hb' (List.mem_cons_of_mem _ z)) q)
    have:a ≠ I:=fun z=>by subst z; exact hI _ _ hst its x
    obtain ⟨o',x1,x2⟩:=x
    exact ⟨o',hm a o' (by simpa using this) x1,x2⟩
  | succ k ih=>
    intro i s hk hi hst htu g hR
    have hlt:i < n:=by omega
    refine codeAny_builtin PyProof.Rows.F.entry_set_update_loop ?_
    rw [Around.under_plainId PyProof.Rows.F.plain_set_update_loop _]
    show wpAny _ A.in1 (pyNext (.ref I) >>= _) _ _ s
    refine wpAny_bind (W.item i s _ _ hlt hst fun v h1 tk hP hst1 hm=>?_)
    have tu1:∀ a its,IsTup s.heap a its->IsTup h1 a its:=fun a its x=>by
      have:a ≠ I:=fun z=>by subst z; exact hI _ _ hst its x
      obtain ⟨o',x1,x2⟩:=x
      exact ⟨o',hm a o' (by simpa using this) x1,x2⟩
    obtain ⟨x,b,hx,rfl,h2⟩:=hv i v hP
    have h2:(nk prog w).is h1 x b:=⟨KIs.keep (fun a its y=>tu1 a its (htu a its y)) 5 h2.2 h2.1,h2.2⟩
    have g1:GH prog w (byT w) h1 D (metK (ks.take i)):=g.at (fun o q=>hm D o (by simpa using hDI) q) tu1
    show wpAny _ A.in1 (holding [.ref b] (setAdd D (.ref b)) >>= _) _ _ _
    refine wpAny_bind (wpAny_holding ?_)
    unfold setAdd
    refine wpAny_holding (wpAny_bind ((nk prog w).pyHash (s:={ s with heap:=h1,toks:=tk }) (k:=x) hu h2 ?_))
    have room:(metK (ks.take i)).length + 1<=76:=by
      have:=metK_len (ks.take i)
      have:(ks.take i).length<=i:=by rw [List.length_take]; omega
      omega
    refine gh_add (s:={ s with heap:=h1,toks:=tk + (nk prog w).draws x }) hu h2 g1 room fun bb h' sb g2=>?_
    have e1:ks.take (i + 1)=ks.take i ++ [x]:=by rw [List.take_succ,hx]; rfl
    rw [<- metK_snoc,<- e1] at g2
    obtain ⟨oD,esD,epD,tD,dD,_,dD2,_⟩:=g1
    refine wpAny_pure ⟨plainId_quiet PyProof.Rows.F.plain_set_update_loop _,ih (i + 1) _ (by omega) hlt (W.frame _ h1 h' hst1 fun b hb o q=>?_) (fun a its y=>tup_same dD dD2 sb a its (tu1 a its (htu a its y))) g2 fun h' tk' g' k'=>hR h' tk' g' fun b o hb q=>k' b o hb ?_⟩
    · exact (sb.2 b fun z=>hD (by rw [<- z]; exact hb)).trans q
    · refine (sb.2 b fun z=>hb (by simp [z])).trans (hm b o (fun z=>hb (List.mem_cons_of_mem _ z)) q)
set_option maxHeartbeats 3200000 in
theorem set_of_tupleH {s:Shared} {E:Value->Shared->Prop} {l:Addr} {items:Array Value} {ks:List HK} {Q:Value->Shared->Prop} (hu:A.units + 9 < cLine) (hh:A.handled=none) (hl:s.heap.IsTuple l items) (hn:items.size=ks.length)
    (hv:∀ (i:Nat) (v:Value),items[i]?=some v->∃ k b,ks[i]?=some k/\v=.ref b/\(nk prog w).is s.heap k b) (hb:ks.length<=76)
    (h:∀ h' tk,GH prog w (byT w) h' s.heap.objs.size (metK ks)->(∀ b o,s.heap.get? b=some o->h'.get? b=some o)->Q (.ref s.heap.objs.size) { s with heap:=h',toks:=tk }) :
    wpAny (model prog w) A (call (.type "set") [.ref l]) Q E s:=by
  obtain ⟨cc,tl,hmro⟩:=F.called_set.mro
  have m1:=F.called_set.made
  have m2:=F.called_set.sub
  refine wpAny_call (codeAny_of_tree ?_)
  show wpAny _ _ (callAny (.type "set") _) _ _ _
  refine wpAny_pure ⟨Code.quiet_builtin _ (by decide +kernel),codeAny_builtin F.entry_type_call ?_⟩
  rw [Around.under_plain (weight_type_call_type "set" [.ref l] []) rfl]
  have m3:=F.called_set.notType
  have m4:=F.called_set.canCreate
  have m5:=F.typeCall_set_1 (.ref l)
  repeat (any_goals (first | assumption | wp_step))
  refine codeAny_mono (set_new (.ref l) (E:=E) (Z:=fun ob s1=>ob=.ref s.heap.objs.size/\s1={ s with heap:=s.heap.push (setObj0 w) }) ⟨rfl,rfl⟩) fun rr s1 q=>?_
  cases rr with
  | error e=>exact q
  | ok fl=>
    cases fl with
    | ret ob=>
      obtain ⟨rfl,rfl⟩:=q
      have o1:(s.heap.push (setObj0 w)).get? s.heap.objs.size=some (setObj0 w):=Heap.get?_push_size _ rfl
      have hT:Shared.TypeIs { s with heap:=s.heap.push (setObj0 w) } (.ref s.heap.objs.size) "set" := ⟨_,o1,rfl⟩
      have n1:=F.called_set.init.lookup
      have n2:=F.called_set.init.bind (.ref s.heap.objs.size)
      repeat (any_goals (first | assumption | wp_step))
      refine codeAny_mono (codeAny_call_builtin (R:=wants (fun r s2=>r=.none/\∃ h' tk,s2={ s with heap:=h',toks:=tk }/\GH prog w (byT w) h' s.heap.objs.size (metK ks)/\∀ b o,s.heap.get? b=some o->h'.get? b=some o) E) F.called_set.init.plain F.entry_set_init (check_set_init_1 hT ?_)) fun r2 s2 q2=>?_
      · obtain ⟨ol,hol,hcl,nl,hdl⟩:=hl
        obtain ⟨ocls,odict,odata,oslots⟩:=ol
        simp only at hcl hdl
        subst hcl; subst hdl
        have hol':(s.heap.push (setObj0 w)).get? l=some { cls:=.type "tuple",dict:=odict,data:=.seq items nl,slots:=oslots }:=Heap.get?_push_of_some _ hol
        have a1:=sub_tuple_set0
        have a2:=sub_tuple_fset0
        have a3:(Value.type "tuple" == Value.type "dict")=false:=by decide
        have hl1:(s.heap.push (setObj0 w)).IsTuple l items:=⟨_,hol',rfl,nl,rfl⟩
        unfold setObj0 at o1 hT hol' hl1 ⊢
        unfold Builtin.«set.__init__» noKeywords Builtin.Frozenset.updateFrom
        generalize hPI:pyIter=PI
        wp_walk
        subst hPI
        refine wpAny_pyIter_tuple hl1 ?_
        refine wpAny_bind (wpAny_runValue ?_)
        have b0:l < s.heap.objs.size:=Heap.lt_size hol
        have b1:l ≠ (s.heap.push (setObj0 w)).objs.size:=by rw [Heap.size_push]; exact Nat.ne_of_lt (Nat.lt_succ_of_lt b0)
        have b2:s.heap.objs.size ≠ (s.heap.push (setObj0 w)).objs.size:=by rw [Heap.size_push]; exact Nat.ne_of_lt (Nat.lt_succ_self _)
        have W:=Walks.tuple (prog:=prog) (w:=w) (A:=A.in1.in1.in1) (by simpa using hh) (s.heap.push (setObj0 w)).objs.size l b1 items
        have tk:∀ a its,IsTup s.heap a its->IsTup ((s.heap.push (setObj0 w)).push { cls:=.type "tuple_iterator",data:=.fields #[.ref l,rawInt 0] }) a its:=fun a its ⟨o',x1,x2⟩=>⟨o',Heap.get?_push_of_some _ (Heap.get?_push_of_some _ x1),x2⟩
        unfold setObj0 at tk
        refine set_loopH (by show A.units + 1 + 1 + 1 + 5 < cLine; omega) W (by simp only [List.mem_cons,List.not_mem_nil,or_false,not_or]; exact ⟨b2,Nat.ne_of_gt b0⟩) (fun i h ⟨x,_⟩ its y=>iter_not_tup x y) hn (fun i v hP=>hv i v hP) hb items.size 0 _ (by omega) (Nat.zero_le _) ⟨⟨_,Heap.get?_push_size _ rfl,rfl,rfl⟩,hl1.push _⟩ tk ?g0 fun h' tk g' k'=>?gR
        case g0=>
          exact ⟨_,#[],0,_,Heap.get?_push_of_some _ o1,⟨rfl,rfl,rfl⟩,rfl,⟨[],by simp [metK],.nil⟩,by simp [metK],fresh_tg _⟩
        case gR=>
          show wpAny _ _ _ _ _ _
          refine wpAny_pure ?_
          show wpAny _ _ (ret Value.none) _ _ _
          refine wpAny_pure ⟨rfl,h',tk,rfl,g',fun b o e=>?_⟩
          have c0:=Heap.lt_size e
          refine k' b o ?_ (Heap.get?_push_of_some _ (Heap.get?_push_of_some _ e))
          simp only [List.mem_cons,List.not_mem_nil,or_false,not_or]
          exact ⟨Nat.ne_of_lt c0,Nat.ne_of_lt (by rw [Heap.size_push]; exact Nat.lt_succ_of_lt c0)⟩
      · cases r2 with
        | error e=>exact q2
        | ok fl2=>
          cases fl2 with
          | ret r=>
            obtain ⟨rfl,h',tk,rfl,g',k'⟩:=q2
            repeat (any_goals (first | assumption | wp_step))
            exact h h' tk g' k'
          | _=>exact q2.elim
    | _=>exact q.elim
end
end L2
namespace L2
open PySem PySem.Spec PyProof.Rows PySem.W
section
variable {prog:Program} {w:World} {A:Around} {E:Value->Shared->Prop} {s:Shared}
def dQ:Int × Str:=(0,Str.empty)
inductive PrsAre (h:Heap):List Value->List (Int × Str)->Prop
  | nil:PrsAre h [] []
  | cons {a:Addr} {o:Obj} {x:Int} {y:Str} {t u:Tok} {n:Nat} {vs:List Value} {nss:List (Int × Str)} (ho:h.get? a=some o) (hc:o.cls=.type "tuple") (hd:o.data=.seq #[.int x t,.str y u] n) (r:PrsAre h vs nss):PrsAre h (.ref a :: vs) ((x,y) :: nss)
theorem PrsAre.keep {h h':Heap} (k:∀ b o,h.get? b=some o->h'.get? b=some o):∀ {vs:List Value} {nss:List (Int × Str)},PrsAre h vs nss->PrsAre h' vs nss
  | _,_,.nil=>.nil
  | _,_,.cons ho hc hd r=>.cons (k _ _ ho) hc hd (r.keep k)
theorem PrsAre.keepT {h h':Heap} (k:∀ b o,o.cls=.type "tuple" -> h.get? b=some o->h'.get? b=some o):∀ {vs:List Value} {nss:List (Int × Str)},PrsAre h vs nss->PrsAre h' vs nss
  | _,_,.nil=>.nil
  | _,_,.cons ho hc hd r=>.cons (k _ _ hc ho) hc hd (r.keepT k)
theorem PrsAre.length {h:Heap}:∀ {vs:List Value} {nss:List (Int × Str)},PrsAre h vs nss->vs.length=nss.length
  | _,_,.nil=>rfl
  | _,_,.cons _ _ _ r=>by rw [List.length_cons,List.length_cons,r.length]
theorem PrsAre.at {h:Heap}:∀ {vs:List Value} {nss:List (Int × Str)},PrsAre h vs nss->∀ i,i < vs.length->∃ a o t u n,vs.getD i Value.none=.ref a/\h.get? a=some o/\o.data=.seq #[.int (nss.getD i dQ).1 t,.str (nss.getD i dQ).2 u] n
  | _,_,.nil,i,hi=>by simp at hi
  | _,_,.cons ho hc hd r,0,_=>⟨_,_,_,_,_,rfl,ho,hd⟩
  | _,_,.cons ho hc hd r,i + 1,hl=>by
    obtain ⟨a,o,t,u,n,h1,h2,h3⟩:=r.at i (by simpa using hl)
    exact ⟨a,o,t,u,n,by simpa using h1,h2,by simpa using h3⟩
theorem PrsAre.firsts {M:Model} {h:Heap}:∀ {vs:List Value} {nss:List (Int × Str)},PrsAre h vs nss->∃ fs,KatTups h vs fs/\fs.length=vs.length/\∀ v ∈ fs,Looks M h (typeOf v) (.type "int")
  | _,_,.nil=>⟨[],.nil,rfl,fun v hv=>by cases hv⟩
  | _,_,.cons (x:=x0) (t:=t) ho hc hd r=>by
    obtain ⟨fs,h1,h2,h3⟩:=r.firsts (M:=M)
    refine ⟨.int x0 t :: fs,.cons ho hc hd rfl h1,by simp [h2],fun v hv=>?_⟩
    rcases List.mem_cons.mp hv with rfl | hv
    · exact Looks.of_pure rfl
    · exact h3 v hv
def strLt (a b:Str):Bool:=decide (a.cps.toList < b.cps.toList)
def lexQ (a b:Int × Str):Bool:=if a.1=b.1 then (if a.2=b.2 then false else strLt a.2 b.2) else decide (a.1 < b.1)
theorem lex_runQ (b:Bool) {Q:Bool->Shared->Prop} {p q:Int × Str} {t t' u u':Tok} (h:Q (lexQ p q) s):KatLex prog w A b false Q ([.int p.1 t,.str p.2 u].zip [.int q.1 t',.str q.2 u']) 0 s:=by
  rw [List.zip_cons_cons]
  refine kat_cons (wpAny_eqBool_int ?_)
  unfold lexQ at h
  by_cases z:p.1=q.1
  · rw [if_pos z] at h
    rw [z,beq_self_eq_true]
    refine kat_yes ?_
    rw [List.zip_cons_cons]
    refine kat_cons (wpAny_eqBool_str ?_)
    by_cases y:p.2=q.2
    · rw [if_pos y] at h
      rw [decide_eq_true y]
      refine kat_yes ?_
      exact h
    · rw [if_neg y] at h
      rw [decide_eq_false y]
      refine kat_no ?_
      cases hb:b && (0 + 1 == 0) with
      | true=>cases b <;> simp at hb
      | false=>exact kat_one _ _ (lt_str h)
  · rw [if_neg z] at h
    rw [beq_eq_false_iff_ne.mpr z]
    refine kat_no ?_
    cases b && 0 == 0 with
    | true=>exact oneLt_int h
    | false=>exact kat_one _ _ (lt_int h)
theorem ltL_irr (a:List Nat):¬ a < a:=List.lt_irrefl a
def rankQ (nss:List (Int × Str)) (i:Nat):Nat:=(nss.filter fun ms=>lexQ ms (nss.getD i dQ)).length
theorem str_ext {a b:Str} (h:a.cps.toList=b.cps.toList):a=b:=by cases a; cases b; rw [Str.mk.injEq]; exact Array.toList_inj.mp h
theorem lexQ_irr (a:Int × Str):lexQ a a=false:=by unfold lexQ; rw [if_pos rfl,if_pos rfl]
theorem strLt_trans {a b c:Str} (h1:strLt a b=true) (h2:strLt b c=true):strLt a c=true:=by
  unfold strLt at *
  exact decide_eq_true (List.lt_trans (of_decide_eq_true h1) (of_decide_eq_true h2))
theorem strLt_ne {a b:Str} (h:strLt a b=true):a ≠ b:=fun e=>by subst e; exact ltL_irr _ (of_decide_eq_true h)
theorem Nat_le_of {a b:List Nat} (h:¬ b < a):a<=b:=h
theorem strLt_tot {a b:Str} (h:¬ a=b):strLt a b=true\/strLt b a=true:=by
  unfold strLt
  have:¬ a.cps.toList=b.cps.toList:=fun e=>h (str_ext e)
  by_cases z:a.cps.toList < b.cps.toList
  · exact .inl (decide_eq_true z)
  · by_cases z2:b.cps.toList < a.cps.toList
    · exact .inr (decide_eq_true z2)
    · exact absurd (List.le_antisymm (Nat_le_of z2) (Nat_le_of z)) this
theorem lexQ_is {a b:Int × Str}:lexQ a b=true <-> a.1 < b.1\/a.1=b.1/\strLt a.2 b.2=true:=by
  unfold lexQ
  by_cases z:a.1=b.1
  · rw [if_pos z]
    by_cases y:a.2=b.2
    · rw [if_pos y]
      constructor
      · intro h; cases h
      · rintro (h | ⟨_,h⟩)
        · omega
        · exact absurd y (strLt_ne h)
    · rw [if_neg y]
      exact ⟨fun h=>.inr ⟨z,h⟩,fun h=>h.elim (fun h=>by omega) (·.2)⟩
  · rw [if_neg z]
    simp [z]
theorem lexQ_trans {a b c:Int × Str} (h1:lexQ a b=true) (h2:lexQ b c=true):lexQ a c=true:=by
  rw [lexQ_is] at *
  rcases h1 with h1 | ⟨h1,g1⟩ <;> rcases h2 with h2 | ⟨h2,g2⟩
  · left; omega
  · left; omega
  · left; omega
  · exact .inr ⟨by omega,strLt_trans g1 g2⟩
theorem lexQ_tot {a b:Int × Str} (h1:lexQ a b=false) (h2:lexQ b a=false):a=b:=by
  have n1:¬ (a.1 < b.1\/a.1=b.1/\strLt a.2 b.2=true):=fun z=>by rw [lexQ_is.mpr z] at h1; cases h1
  have n2:¬ (b.1 < a.1\/b.1=a.1/\strLt b.2 a.2=true):=fun z=>by rw [lexQ_is.mpr z] at h2; cases h2
  have e:a.1=b.1:=by
    by_cases q:a.1 < b.1
    · exact absurd (.inl q) n1
    · by_cases q2:b.1 < a.1
      · exact absurd (.inl q2) n2
      · omega
  by_cases y:a.2=b.2
  · exact Prod.ext e y
  · rcases strLt_tot y with z | z
    · exact absurd (.inr ⟨e,z⟩) n1
    · exact absurd (.inr ⟨e.symm,z⟩) n2
theorem rank_ltQ {nss:List (Int × Str)} {i j:Nat} (hi:i < nss.length) (hj:j < nss.length):cR (rankQ nss) i j=lexQ (nss.getD i dQ) (nss.getD j dQ):=by
  have mem:∀ k,k < nss.length->nss.getD k dQ ∈ nss:=fun k hk=>by
    rw [List.getD_eq_getElem?_getD,List.getElem?_eq_getElem hk]; exact List.getElem_mem hk
  unfold cR
  have key:∀ {i j:Nat},i < nss.length->j < nss.length->lexQ (nss.getD i dQ) (nss.getD j dQ)=true->rankQ nss i < rankQ nss j:=fun {i j} hi hj h=>
    filter_len_lt (fun x _ hx=>lexQ_trans hx h) ⟨nss.getD i dQ,mem i hi,lexQ_irr _,h⟩
  cases z:lexQ (nss.getD i dQ) (nss.getD j dQ) with
  | true=>exact decide_eq_true (key hi hj z)
  | false=>
    refine decide_eq_false ?_
    cases z2:lexQ (nss.getD j dQ) (nss.getD i dQ) with
    | true=>have:=key hj hi z2; omega
    | false=>
      have e:=lexQ_tot z z2
      unfold rankQ
      rw [e]
      exact Nat.lt_irrefl _
theorem sort_prs {a:Addr} {vs:List Value} {nss:List (Int × Str)} {n:Nat} {P:PySem.Fin->Shared->Prop} (ho:s.heap.get? a=some (seqObj "list" vs.toArray n)) (hT:PrsAre s.heap vs nss) (h64:vs.length < 64)
    (h:∀ (p:List Nat) (h':Heap) (k:Nat),p.Perm (List.range vs.length)->(∀ i,1<=i->i < vs.length->lexQ (nss.getD (p.getD i 0) dQ) (nss.getD (p.getD (i - 1) 0) dQ)=false)->h'.get? a=some (seqObj "list" (List.toArray (p.map fun i=>vs.getD i Value.none)) k)->(∀ b o,b ≠ a->s.heap.get? b=some o->h'.get? b=some o)->P (.done (.ret .none)) { s with heap:=h' }) :
    wpAny (model prog w) A (Builtin.«list.sort» ⟨[.ref a],[]⟩) P E s:=by
  have ha:a < s.heap.objs.size:=Heap.lt_size ho
  obtain ⟨e1,ho1⟩:∃ e1,(s.heap.update a (Obj.mapSeq fun _=>(#[]:Array Value))).get? a=some (seqObj "list" #[] e1):=⟨_,get?_update_seq ho fun _=>#[]⟩
  have keep3:∀ b o,b ≠ a->s.heap.get? b=some o->(((s.heap.update a (Obj.mapSeq fun _=>(#[]:Array Value))).push (seqObj "tuple" vs.toArray 0)).push (seqObj "list" #[] 0)).get? b=some o:=fun b o hb e=>
    Heap.get?_push_of_some _ (Heap.get?_push_of_some _ (by rw [Heap.get?_update_ne _ _ _ _ hb]; exact e))
  have ho3:(((s.heap.update a (Obj.mapSeq fun _=>(#[]:Array Value))).push (seqObj "tuple" vs.toArray 0)).push (seqObj "list" #[] 0)).get? a=some (seqObj "list" #[] e1):=Heap.get?_push_of_some _ (Heap.get?_push_of_some _ ho1)
  rw [list_sort_plain]
  refine wpAny_bind (listItems_at ho rfl ?_)
  refine wpAny_bind (listUpdate_at ho rfl ?_ (by rw [List.size_toArray,sizeLine_eq]; omega) (Nat.zero_le _))
  refine wpAny_bind (seqEpoch_at ho1 rfl ?_)
  refine wpAny_bind (wpAny_newTuple ?_ (by show vs.length<=_; rw [sizeLine_eq]; omega))
  refine wpAny_bind (wpAny_newList ?_ (Nat.zero_le _))
  refine wpAny_holding ?_
  show wpAny (model prog w) A _ P E { s with heap:=((s.heap.update a (Obj.mapSeq fun _=>(#[]:Array Value))).push (seqObj "tuple" vs.toArray 0)).push (seqObj "list" #[] 0) }
  dsimp only
  generalize hH:((s.heap.update a (Obj.mapSeq fun _=>(#[]:Array Value))).push (seqObj "tuple" vs.toArray 0)).push (seqObj "list" #[] 0)=H3 at *
  have fin:∀ (st:SortSt) (p:List Nat),p.Perm (List.range vs.length)->(arrOf st).map (·.2)=List.toArray (p.map fun i=>vs.getD i Value.none)->failedOf st=none->(∀ i,1<=i->i < vs.length->lexQ (nss.getD (p.getD i 0) dQ) (nss.getD (p.getD (i - 1) 0) dQ)=false) ->
      wpAny (model prog w) A (do
        let sorted:=(arrOf st).map (·.2)
        let touched:=(<- seqEpoch a) != e1
        Builtin.List.listUpdate (.ref a) fun _=>sorted
        if let some e:=failedOf st then rule "list.sort.comparison-raised"; throw e
        if touched then rule "list.sort.modified"; raiseError "ValueError" "list modified during sort"
        ret .none) P E { s with heap:=H3 }:=fun st p hp ha2 hf hs=>by
    dsimp only
    have hl:(List.toArray (p.map fun i=>vs.getD i Value.none)).size=vs.length:=by rw [List.size_toArray,List.length_map,hp.length_eq,List.length_range]
    obtain ⟨c2,hc2⟩:∃ c2,(H3.update a (Obj.mapSeq fun _=>List.toArray (p.map fun i=>vs.getD i Value.none))).get? a=some (seqObj "list" (List.toArray (p.map fun i=>vs.getD i Value.none)) c2):=⟨_,get?_update_seq ho3 fun _=>List.toArray (p.map fun i=>vs.getD i Value.none)⟩
    rw [ha2,hf]
    refine wpAny_bind (seqEpoch_at ho3 rfl ?_)
    refine wpAny_bind (listUpdate_at ho3 rfl ?_ (Nat.zero_le _) (Nat.le_trans (Nat.le_of_eq hl) (by rw [sizeLine_eq]; omega)))
    simp only [bne_self_eq_false,Bool.false_eq_true,if_false]
    exact wpAny_pure (h p _ c2 hp hs hc2 fun b o hb e=>by rw [Heap.get?_update_ne _ _ _ _ hb]; exact keep3 b o hb e)
  by_cases h2:vs.toArray.size < 2
  · rw [if_pos h2,if_pos h2]
    refine wpAny_bind (wpAny_pure ?_)
    rw [StateT.run_pure]
    refine wpAny_bind (wpAny_pure ?_)
    refine fin (SortSt.mk' general' (vs.toArray.zip vs.toArray) #[] 7 none) (List.range vs.length) (List.Perm.refl _) ?_ rfl (fun i g1 g2=>?_)
    · show (vs.toArray.zip vs.toArray).map (·.2)=_
      apply Array.toList_inj.mp
      apply List.ext_getElem?
      intro i
      by_cases z:i < vs.length
      · simp [z]
      · simp [z]
    · rw [List.size_toArray] at h2; omega
  · rw [if_neg h2,if_neg h2]
    rw [List.size_toArray] at h2
    have hT3:PrsAre H3 vs nss:=hT.keepT fun b o hc e=>keep3 b o (fun z=>by
      rw [z,ho] at e
      have e:=Option.some.inj e
      rw [<- e] at hc
      exact absurd (show Value.type "list" = .type "tuple" from hc) (by decide)) e
    obtain ⟨fs,k1,k2,k3⟩:=hT3.firsts (M:=model prog w)
    refine wpAny_bind (kat_kind (s:={ s with heap:=H3 }) (T:=.type "int") k1 (by omega) k3 (by decide) ?_)
    have hask:∀ i j (C:Bool->Shared->Prop),i < vs.length->j < vs.length->C (cR (rankQ nss) i j) { s with heap:=H3 }->kas_ask prog w A (tuples' (Value.type "int" != Value.type "tuple")) vs i j C { s with heap:=H3 }:=fun i j C hi hj q=>by
      obtain ⟨ai,oi,ti,ui,ni,e1,e2,e3⟩:=hT3.at i hi
      obtain ⟨aj,oj,tj,uj,nj,f1,f2,f3⟩:=hT3.at j hj
      rw [rank_ltQ (by rw [<- hT.length]; exact hi) (by rw [<- hT.length]; exact hj)] at q
      unfold kas_ask
      rw [e1,f1]
      exact kat_lt e2 e3 f2 f3 (lex_runQ _ q)
    have hev:=sort_ev (r:=rankQ nss) (n:=vs.length) (by omega)
    refine wpAny_bind (wpAny_mono (kat_run (vs:=vs) (ks:=vs) (Q:=fun st' s'=>s'={ s with heap:=H3 }/\arrOf st'=(evT (cR (rankQ nss)) (kas_sort vs.length)).map (kas_item (vs.toArray.zip vs.toArray))/\failedOf st'=none)
      (G:=fun p s'=>s'={ s with heap:=H3 }/\p=evT (cR (rankQ nss)) (kas_sort vs.length)) rfl (by omega) h64 (fun p' st' s' a1 a2 a3 a4=>⟨a4.1,by rw [<- a4.2]; exact a2,a3⟩) (kasWp_ev hask _ (fun _=>True) _ (asks_sort (by omega)) ⟨rfl,rfl⟩)) ?_ fun _ _ e=>e)
    rintro ⟨⟨⟩,st'⟩ s' ⟨rfl,har,hf⟩
    have hpl:(evT (cR (rankQ nss)) (kas_sort vs.length)).toList.Perm (List.range vs.length):=by
      have:=Array.perm_iff_toList_perm.mp hev.2
      simpa using this
    refine fin st' _ hpl (kat_snds rfl har) hf fun i g1 g2=>?_
    have hr:=hev.1 i g1 g2
    have hin:∀ k,(evT (cR (rankQ nss)) (kas_sort vs.length)).toList.getD k 0 < vs.length:=fun k=>by
      have hal:AL vs.length (evT (cR (rankQ nss)) (kas_sort vs.length)):=AL.perm (p:=List.toArray (List.range vs.length)) ⟨by omega,fun x hx=>by simpa using hx⟩ hev.2
      have:=hal.get k
      rw [Array.getD_eq_getD_getElem?,<- Array.getElem?_toList] at this
      rw [List.getD_eq_getElem?_getD]; exact this
    have hg:∀ k,(evT (cR (rankQ nss)) (kas_sort vs.length)).getD k 0=(evT (cR (rankQ nss)) (kas_sort vs.length)).toList.getD k 0:=fun k=>by
      rw [Array.getD_eq_getD_getElem?,<- Array.getElem?_toList,List.getD_eq_getElem?_getD]
    unfold rk at hr
    rw [hg,hg] at hr
    have:=rank_ltQ (nss:=nss) (i:=(evT (cR (rankQ nss)) (kas_sort vs.length)).toList.getD i 0) (j:=(evT (cR (rankQ nss)) (kas_sort vs.length)).toList.getD (i - 1) 0) (by rw [<- hT.length]; exact hin _) (by rw [<- hT.length]; exact hin _)
    rw [<- this]
    exact decide_eq_false (Nat.not_lt.mpr hr)
theorem sorted_rawQ {d:Addr} {es:Array DictEntry} {ep:Nat} {nss:List (Int × Str)} {Q:Value->Shared->Prop} (lo:(d == sysModules)=false) (hh:A.handled=none) (hm:RawD s.heap d es ep) (hT:PrsAre s.heap (es.toList.map (·.key)) nss) (h64:(es.toList.map (·.key)).length < 64)
    (h:∀ (p:List Nat) (h':Heap) (D k tk:Nat),p.Perm (List.range (es.toList.map (·.key)).length)->(∀ i,1<=i->i < (es.toList.map (·.key)).length->lexQ (nss.getD (p.getD i 0) dQ) (nss.getD (p.getD (i - 1) 0) dQ)=false)->s.heap.objs.size<=D->h'.get? D=some (seqObj "list" (List.toArray (p.map fun i=>(es.toList.map (·.key)).getD i Value.none)) k)->(∀ b o,s.heap.get? b=some o->h'.get? b=some o)->Q (.ref D) { s with heap:=h',toks:=tk }) :
    wpAny (model prog w) A (call (.builtin "sorted") [.ref d]) Q E s:=by
  have hsz:es.size<=sizeLine:=by
    have:(es.toList.map (·.key)).length=es.size:=by simp
    rw [sizeLine_eq]; omega
  refine Calls.call_function_entry kind_sorted plain_sorted entry_sorted (args_sorted1 _) ?_
  unfold Builtin.«sorted»
  refine wpAny_bind (m:=checkCount "sorted" 1 1 _) (wpAny_pure ?_)
  refine wpAny_bind (collect_raw lo (by simpa using hh) hm hsz fun h1 tk1 keep1 hle=>?_)
  refine wpAny_bind (wpAny_newList ?_ (by rw [sizeLine_eq]; omega))
  generalize es.toList.map (·.key)=vs at *
  have hoL:(h1.push (seqObj "list" vs.toArray 0)).get? h1.objs.size=some (seqObj "list" vs.toArray 0):=Heap.get?_push_size _ rfl
  have keep:∀ b o,s.heap.get? b=some o->(h1.push (seqObj "list" vs.toArray 0)).get? b=some o:=fun b o q=>Heap.get?_push_of_some _ (keep1 b o q)
  show wpAny _ _ _ _ _ { s with heap:=h1.push (seqObj "list" vs.toArray 0),toks:=tk1 }
  refine wpAny_bind (wpAny_holding (wpAny_call_entry slot_list_sort ⟨_,hoL,rfl⟩ entry_list_sort ?body (args_list_sort _)))
  case body=>
    refine sort_prs (s:={ s with heap:=h1.push (seqObj "list" vs.toArray 0),toks:=tk1 }) hoL (hT.keep keep) h64 fun p h' k a1 a2 a3 a4=>?_
    exact ⟨_,rfl,wpAny_pure ⟨_,rfl,h p h' _ k tk1 a1 a2 hle a3 fun b o e=>a4 b o (Nat.ne_of_lt (Heap.lt_size (keep1 b o e))) (keep b o e)⟩⟩
end
end L2
namespace L2
open PySem PySem.Spec PyProof.Rows PySem.W
def insQ (a:Int × Str):List (Int × Str)->List (Int × Str)
  | []=>[a]
  | b :: r=>if lexQ b a=true then b :: insQ a r else a :: b :: r
def sortQ:List (Int × Str)->List (Int × Str)
  | []=>[]
  | a :: r=>insQ a (sortQ r)
def leQ (a b:Int × Str):Prop:=lexQ b a=false
theorem leQ_iff (a b:Int × Str):leQ a b <-> a=b\/lexQ a b=true:=by
  unfold leQ
  constructor
  · intro h
    cases z:lexQ a b with
    | true=>exact .inr rfl
    | false=>exact .inl (lexQ_tot z h)
  · rintro (rfl | h)
    · exact lexQ_irr a
    · cases z:lexQ b a with
      | false=>rfl
      | true=>have:=lexQ_trans h z; rw [lexQ_irr] at this; cases this
theorem leQ_trans {a b c:Int × Str} (h1:leQ a b) (h2:leQ b c):leQ a c:=by
  rw [leQ_iff] at *
  rcases h1 with rfl | h1
  · exact h2
  · rcases h2 with rfl | h2
    · exact .inr h1
    · exact .inr (lexQ_trans h1 h2)
theorem leQ_anti {a b:Int × Str} (h1:leQ a b) (h2:leQ b a):a=b:=lexQ_tot h2 h1
theorem insQ_perm (a:Int × Str):∀ l,(insQ a l).Perm (a :: l)
  | []=>List.Perm.refl _
  | b :: r=>by
    rw [insQ]
    split
    · exact ((insQ_perm a r).cons b).trans (List.Perm.swap a b r)
    · exact List.Perm.refl _
theorem sortQ_perm:∀ l,(sortQ l).Perm l
  | []=>List.Perm.refl _
  | a :: r=>(insQ_perm a (sortQ r)).trans ((sortQ_perm r).cons a)
theorem insQ_sorted {a:Int × Str}:∀ {l:List (Int × Str)},l.Pairwise leQ->(insQ a l).Pairwise leQ
  | [],_=>by rw [insQ]; exact List.pairwise_singleton _ _
  | b :: r,h=>by
    obtain ⟨h1,h2⟩:=List.pairwise_cons.mp h
    rw [insQ]
    split
    · rename_i q
      refine List.pairwise_cons.mpr ⟨fun x hx=>?_,insQ_sorted h2⟩
      rcases List.mem_cons.mp ((insQ_perm a r).mem_iff.mp hx) with rfl | hx
      · exact (leQ_iff b x).mpr (.inr q)
      · exact h1 x hx
    · rename_i q
      have q':leQ a b:=by unfold leQ; simpa using q
      refine List.pairwise_cons.mpr ⟨fun x hx=>?_,h⟩
      rcases List.mem_cons.mp hx with rfl | hx
      · exact q'
      · exact leQ_trans q' (h1 x hx)
theorem sortQ_sorted:∀ l,(sortQ l).Pairwise leQ
  | []=>List.Pairwise.nil
  | a :: r=>insQ_sorted (sortQ_sorted r)
theorem sort_uniqQ:∀ {a b:List (Int × Str)},a.Perm b->a.Pairwise leQ->b.Pairwise leQ->a=b
  | [],b,h,_,_=>(List.nil_perm.mp h).symm
  | x :: a,[],h,_,_=>absurd (List.perm_nil.mp h) (by simp)
  | x :: a,y :: b,h,ha,hb=>by
    obtain ⟨a1,a2⟩:=List.pairwise_cons.mp ha
    obtain ⟨b1,b2⟩:=List.pairwise_cons.mp hb
    have e:x=y:=by
      rcases List.mem_cons.mp (h.mem_iff.mp (List.mem_cons_self (a:=x) (l:=a))) with e | hx
      · exact e
      · rcases List.mem_cons.mp (h.mem_iff.mpr (List.mem_cons_self (a:=y) (l:=b))) with e | hy
        · exact e.symm
        · exact leQ_anti (a1 y hy) (b1 x hx)
    subst e
    rw [sort_uniqQ (List.Perm.cons_inv h) a2 b2]
theorem pair_of_chainQ {l:List (Int × Str)} (h:∀ i,1<=i->i < l.length->lexQ (l.getD i dQ) (l.getD (i - 1) dQ)=false):l.Pairwise leQ:=by
  rw [List.pairwise_iff_getElem]
  have g:∀ k (hk:k < l.length),l.getD k dQ=l[k]:=fun k hk=>by rw [List.getD_eq_getElem?_getD,List.getElem?_eq_getElem hk]; rfl
  have key:∀ d i (hi:i + d < l.length),leQ (l.getD i dQ) (l.getD (i + d) dQ):=by
    intro d
    induction d with
    | zero=>intro i hi; exact (leQ_iff _ _).mpr (.inl rfl)
    | succ d ih=>
      intro i hi
      have h1:=ih i (by omega)
      have h2:=h (i + d + 1) (by omega) (by omega)
      rw [Nat.add_sub_cancel] at h2
      exact leQ_trans h1 h2
  intro i j hi hj hij
  have:=key (j - i) i (by omega)
  rw [show i + (j - i)=j by omega,g i hi,g j hj] at this
  exact this
theorem sort_permQ {nss:List (Int × Str)} {p:List Nat} (hp:p.Perm (List.range nss.length)) (h:∀ i,1<=i->i < nss.length->lexQ (nss.getD (p.getD i 0) dQ) (nss.getD (p.getD (i - 1) 0) dQ)=false):p.map (fun i=>nss.getD i dQ)=sortQ nss:=by
  have hl:p.length=nss.length:=by rw [hp.length_eq,List.length_range]
  have e1:(List.range nss.length).map (fun i=>nss.getD i dQ)=nss:=by
    apply List.ext_getElem?
    intro i
    by_cases z:i < nss.length
    · simp [z]
    · simp [z]
  have pm:(p.map fun i=>nss.getD i dQ).Perm nss:=by
    have:=hp.map (fun i=>nss.getD i dQ)
    rwa [e1] at this
  have gd:∀ k,k < p.length->(p.map fun i=>nss.getD i dQ).getD k dQ=nss.getD (p.getD k 0) dQ:=fun k hk=>by
    rw [List.getD_eq_getElem?_getD,List.getElem?_map,List.getElem?_eq_getElem hk,List.getD_eq_getElem?_getD (l:=p),List.getElem?_eq_getElem hk]
    rfl
  refine sort_uniqQ (pm.trans (sortQ_perm nss).symm) (pair_of_chainQ fun i g1 g2=>?_) (sortQ_sorted nss)
  rw [List.length_map] at g2
  rw [gd i g2,gd (i - 1) (by omega)]
  exact h i g1 (by omega)
theorem prs_keys {P:Program} {w:World} {H:Hp} {h:Heap} (ok:HOk P w H h):∀ {kvs:List (HK × V)} {as:List Addr} {nss:List (Int × Str)},Paired (fun (p:HK × V) (b:Addr)=>KR H p.1 b) kvs as->Paired (fun (p:HK × V) (ns:Int × Str)=>p.1=.tup [.int ns.1,.str ns.2]) kvs nss->PrsAre h (as.map Value.ref) nss/\Paired (fun (v:V) (ns:Int × Str)=>∃ b,v=.ref b/\H b=some (.tup [.int ns.1,.str ns.2])) (as.map V.ref) nss
  | [],_,_,.nil,.nil=>⟨.nil,.nil⟩
  | p :: kvs,a :: as,ns :: nss,.cons ha t,.cons hn u=>by
    obtain ⟨r1,r2⟩:=prs_keys ok t u
    rw [hn] at ha
    obtain ⟨⟨b,vs,e,hb,v1,q1,e1,k1,v2,q2,e2,k2,k3⟩,_⟩:=ha
    cases e
    cases k1; cases k2; cases k3; subst e2; subst e1
    obtain ⟨_,jts,rj,o,ho,hc,n,hd⟩:=ok a _ hb
    refine ⟨?_,.cons ⟨a,rfl,hb⟩ r2⟩
    cases rj with
    | cons x1 rj=>
      cases rj with
      | cons x2 rj=>
        cases rj
        obtain ⟨t1,rfl⟩:=x1
        obtain ⟨t2,rfl⟩:=x2
        exact .cons ho hc hd r1
section
variable {X:Cx}
theorem call_sortedDQ (hcm:X.calm=true):CallR X (.builtin "sorted") (fun xs H Q=>∃ a,∃ kvs:List (HK × V),∃ nss:List (Int × Str),xs=[.ref a]/\H a=some (.dT kvs)/\kvs.length < 64/\Paired (fun (p:HK × V) (ns:Int × Str)=>p.1=.tup [.int ns.1,.str ns.2]) kvs nss /\
    ∀ d (pp:List Nat) (vs:List V),H d=none->Paired (fun (v:V) (ns:Int × Str)=>∃ b,v=.ref b/\H b=some (.tup [.int ns.1,.str ns.2])) vs nss->pp.Perm (List.range nss.length)->pp.map (fun i=>nss.getD i dQ)=sortQ nss->Q (.ref d) (upd H d (.lst (pp.map fun i=>vs.getD i .non)))):=by
  intro pins s σ H xs us Q I r h
  obtain ⟨a,kvs,nss,rfl,ea,h64,hp,q⟩:=h
  obtain ⟨u,rfl,rx⟩:=vals1 r
  cases rx
  obtain ⟨z,hs,es,ep,as,hr,hk,hpa⟩:=dt_raw I.hok ea
  obtain ⟨T,hvs⟩:=prs_keys I.hok hpa hp
  have l1:kvs.length=as.length:=Paired.length hpa
  have l2:kvs.length=nss.length:=Paired.length hp
  refine sorted_rawQ hs (I.ok.hd hcm) hr (by rw [hk]; exact T) (by rw [hk,List.length_map]; omega) fun pp h' D k tk a1 a2 a3 a4 a5=>?_
  rw [hk] at a1 a2 a4
  rw [List.length_map] at a1 a2
  have e:=sort_permQ (nss:=nss) (p:=pp) (by rw [<- l2,l1]; exact a1) (fun i g1 g2=>a2 i g1 (by omega))
  have hpl:pp.length=as.length:=by rw [a1.length_eq,List.length_range]
  have hv:Vals (pp.map fun i=>(as.map V.ref).getD i .non) (pp.map fun i=>(as.map Value.ref).getD i Value.none):=by
    have key:∀ l:List Nat,(∀ x ∈ l,x < as.length)->Vals (l.map fun i=>(as.map V.ref).getD i .non) (l.map fun i=>(as.map Value.ref).getD i Value.none):=by
      intro l
      induction l with
      | nil=>intro _; exact .nil
      | cons x l ih=>
        intro hl
        have hx:=hl x (by simp)
        refine .cons ?_ (ih fun y hy=>hl y (List.mem_cons_of_mem _ hy))
        show RelV ((as.map V.ref).getD x .non) ((as.map Value.ref).getD x Value.none)
        rw [List.getD_eq_getElem?_getD,List.getElem?_map,List.getElem?_eq_getElem hx,List.getD_eq_getElem?_getD,List.getElem?_map,List.getElem?_eq_getElem hx]
        rfl
    exact key pp fun x hx=>by have:=a1.mem_iff.mp hx; simpa using this
  exact ⟨.ref D,_,I.laid (t':=tk) (o:=.lst (pp.map fun i=>(as.map V.ref).getD i .non)) a5 a3 ⟨by rw [List.length_map]; rw [sizeLine_eq] at *; omega,_,k,hv,a4⟩,rfl,q D pp _ (I.hok.fresh a3) hvs (by rw [<- l2,l1]; exact a1) e⟩
end
end L2
namespace L2
open PySem PySem.Spec PyProof.Rows SeqAt
section
variable {prog:Program} {w:World} {A:Around} {R:Result->Shared->Prop}
def storedAllH (xs ps:List (HK × Addr × Value)):List (HK × Addr × Value):=ps.foldl (fun acc p=>storedH acc p.1 p.2.1 p.2.2) xs
theorem storedH_len (xs:List (HK × Addr × Value)) (k:HK) (a:Addr) (v:Value):(storedH xs k a v).length<=xs.length + 1:=by
  unfold storedH
  split <;> simp
theorem storedAllH_len (xs:List (HK × Addr × Value)):∀ ps,(storedAllH xs ps).length<=xs.length + ps.length:=by
  intro ps
  unfold storedAllH
  induction ps generalizing xs with
  | nil=>simp
  | cons p ps ih=>
    rw [List.foldl_cons,List.length_cons]
    have h1:=ih (storedH xs p.1 p.2.1 p.2.2)
    have h2:=storedH_len xs p.1 p.2.1 p.2.2
    omega
theorem storedAllH_snoc (xs ps:List (HK × Addr × Value)) (p:HK × Addr × Value):storedAllH xs (ps ++ [p])=storedH (storedAllH xs ps) p.1 p.2.1 p.2.2:=by unfold storedAllH; rw [List.foldl_append]; rfl
def PairAtH (prog:Program) (w:World) (h:Heap) (v:Value) (p:HK × Addr × Value):Prop:=∃ a,v=.ref a/\IsTup h a #[.ref p.2.1,p.2.2]/\(nk prog w).is h p.1 p.2.1
theorem dh_keep {h h':Heap} {D:Addr} {xs:List (HK × Addr × Value)} (d:h.DictOfH (nk prog w) D xs) (k:∀ o,h.get? D=some o->h'.get? D=some o) (hk:∀ a its,IsTup h a its->IsTup h' a its):h'.DictOfH (nk prog w) D xs:=by
  obtain ⟨o,es,ep,h1,h2,h3,h4,h5,h6⟩:=d
  exact ⟨o,es,ep,k o h1,h2,h3,h4,fun x hx=>⟨KIs.keep hk 5 (h5 x hx).2 (h5 x hx).1,(h5 x hx).2⟩,h6⟩
theorem upd_loopH {I l D:Addr} {items:Array Value} {xs ps:List (HK × Addr × Value)} {h0:Heap} (hu:A.in1.units + 5 < cLine) (hh:A.handled=none) (hIl:l ≠ I) (hDI:D ≠ I) (hDl:D ≠ l) (hI:∀ b o,h0.get? b=some o->b ≠ I) (hDt:∀ its,¬ IsTup h0 D its)
    (hn:items.size=ps.length) (hp:∀ (i:Nat) (v:Value) (p:HK × Addr × Value),items[i]?=some v->ps[i]?=some p->PairAtH prog w h0 v p) (hsz:xs.length + ps.length<=sizeLine) :
    ∀ (k i:Nat) (s:Shared),items.size - i=k->i<=items.size->(s.heap.IsListIter I l i/\s.heap.IsList l items)->(∀ b o,b ≠ D->h0.get? b=some o->s.heap.get? b=some o)->s.heap.DictOfH (nk prog w) D (storedAllH xs (ps.take i)) ->
      (∀ h' tk,h'.DictOfH (nk prog w) D (storedAllH xs ps)->(∀ b o,b ≠ D->h0.get? b=some o->h'.get? b=some o)->R (.ok (.ret .none)) { s with heap:=h',toks:=tk }) ->
      codeAny (model prog w) A (.builtin "dict.update.loop" ⟨[.ref D,.ref I,rawInt i,.none],[]⟩) R s:=by
  have W:=Walks.list (prog:=prog) (w:=w) (A:=A.in1) (by simpa using hh) I l hIl items
  have nI:∀ {i:Nat} {h:Heap},h.IsListIter I l i->∀ its,¬ IsTup h I its:=by
    rintro i h ⟨o,h1,h2,_⟩ its ⟨o',g1,g2,_⟩
    rw [h1] at g1; cases g1
    rw [h2] at g2; exact absurd g2 (by decide)
  intro k
  induction k with
  | zero=>
    intro i s hk hi hst hkeep hD hR
    have hin:i=items.size:=by omega
    subst hin
    refine codeAny_builtin entry_dict_loop ?_
    rw [Around.under_plainId plain_dict_loop _]
    show wpAny _ A.in1 (pyNext (.ref I) >>= _) _ _ s
    refine wpAny_bind (W.done s _ _ hst fun h' tk hm=>?_)
    show wpAny _ A.in1 (Builtin.Dict.addKeywords D [] >>= fun _=>ret Value.none) _ _ _
    refine wpAny_bind (wpAny_pure (wpAny_pure (hR h' tk ?_ fun b o hb e=>hm b o (fun z=>hI b o e (by simpa using z)) (hkeep b o hb e))))
    rw [hn,List.take_length] at hD
    refine dh_keep hD (fun o e=>hm D o (fun z=>hDI (by simpa using z)) e) fun a its x=>?_
    have:a ≠ I:=fun z=>by subst z; exact nI hst.1 its x
    obtain ⟨o',x1,x2⟩:=x
    exact ⟨o',hm a o' (by simpa using this) x1,x2⟩
  | succ k ih=>
    intro i s hk hi hst hkeep hD hR
    have hlt:i < items.size:=by omega
    refine codeAny_builtin entry_dict_loop ?_
    rw [Around.under_plainId plain_dict_loop _]
    show wpAny _ A.in1 (pyNext (.ref I) >>= _) _ _ s
    refine wpAny_bind (W.item i s _ _ hlt hst fun v h' tk hP hst' hm=>?_)
    have hik:i < ps.length:=by omega
    obtain ⟨a,rfl,ht,hkey⟩:=hp i v ps[i] hP (List.getElem?_eq_getElem hik)
    have hkeep':∀ b o,b ≠ D->h0.get? b=some o->h'.get? b=some o:=fun b o hb e=>hm b o (fun z=>hI b o e (by simpa using z)) (hkeep b o hb e)
    have tk':∀ a its,IsTup h0 a its->IsTup h' a its:=fun a its x=>by
      have:a ≠ D:=fun z=>by subst z; exact hDt its x
      obtain ⟨o',x1,x2⟩:=x
      exact ⟨o',hkeep' a o' this x1,x2⟩
    have hD':h'.DictOfH (nk prog w) D (storedAllH xs (ps.take i)):=dh_keep hD (fun o e=>hm D o (fun z=>hDI (by simpa using z)) e) fun a its x=>by
      have:a ≠ I:=fun z=>by subst z; exact nI hst.1 its x
      obtain ⟨o',x1,x2⟩:=x
      exact ⟨o',hm a o' (by simpa using this) x1,x2⟩
    have hkey':(nk prog w).is h' ps[i].1 ps[i].2.1:=⟨KIs.keep tk' 5 hkey.2 hkey.1,hkey.2⟩
    show wpAny _ A.in1 (holding [Value.ref a] _ >>= _) _ _ _
    refine wpAny_bind (wpAny_holding ?_)
    obtain ⟨ot,hot',hct,nt,hdt⟩:=tk' a _ ht
    have hTt:Shared.TypeIs { s with heap:=h',toks:=tk } (.ref a) "tuple" := ⟨ot,hot',hct⟩
    refine wpAny_bind (wpAny_tryCatch ?_)
    unfold Builtin.Dict.pairItems
    refine wpAny_bind (wpAny_typeOf hTt ?_)
    rw [if_pos (by decide)]
    refine wpAny_bind (wpAny_seqItems hot' hdt ?_)
    refine wpAny_pure ?_
    show wpAny _ A.in1 (holding [.ref ps[i].2.1,(ps[i]).2.2] (dictSet D (.ref ps[i].2.1) (ps[i]).2.2)) _ _ _
    have hln:(storedAllH xs (ps.take i)).length<=sizeLine:=by
      have:=storedAllH_len xs (ps.take i)
      have h2:(ps.take i).length<=ps.length:=by rw [List.length_take]; omega
      omega
    refine wpAny_holding (wpAny_dictSet_heap (knd:=nk prog w) (s:={ s with heap:=h',toks:=tk }) (k:=(ps[i]).1) hu hkey' hD' (fun h'' hd'' hs''=>?_) hln)
    have hk2:∀ b o,b ≠ D->h0.get? b=some o->h''.get? b=some o:=fun b o hb e=>(hs''.2 b hb).trans (hkeep' b o hb e)
    have hst2:h''.IsListIter I l (i + 1)/\h''.IsList l items:=⟨hst'.1.at fun o e=>(hs''.2 I (Ne.symm hDI)).trans e,hst'.2.at fun o e=>(hs''.2 l (Ne.symm hDl)).trans e⟩
    have e1:ps.take (i + 1)=ps.take i ++ [ps[i]]:=by rw [List.take_succ,List.getElem?_eq_getElem hik]; rfl
    have hd2:h''.DictOfH (nk prog w) D (storedAllH xs (ps.take (i + 1))):=by rw [e1,storedAllH_snoc]; exact hd''
    exact wpAny_pure ⟨plainId_quiet plain_dict_loop _,ih (i + 1) _ (by omega) hlt hst2 hk2 hd2 fun h3 t3 d3 k3=>hR h3 t3 d3 k3⟩
end
section
variable {X:Cx}
def putAll (kvs:List (HK × V)) (ps:List (HK × Addr × V)):List (HK × V):=ps.foldl (fun acc p=>putK acc p.1 p.2.2) kvs
theorem KT.putAll {H:Hp}:∀ {ps:List (HK × Addr × V)} {us:List (HK × Addr × Value)} {kvs:List (HK × V)} {xs:List (HK × Addr × Value)},KT H kvs xs->Paired (fun (p:HK × Addr × V) (q:HK × Addr × Value)=>p.1=q.1/\p.2.1=q.2.1/\KR H p.1 p.2.1/\RelV p.2.2 q.2.2) ps us->KT H (L2.putAll kvs ps) (storedAllH xs us)
  | _,_,_,_,r,.nil=>r
  | p :: ps,q :: us,_,_,r,.cons ⟨e1,e2,e3,e4⟩ t=>by
    show KT H (L2.putAll (putK _ p.1 p.2.2) ps) (storedAllH (storedH _ q.1 q.2.1 q.2.2) us)
    rw [<- e1,<- e2]
    exact KT.putAll (r.put p.1 e3 e4) t
theorem putAll_len (kvs:List (HK × V)):∀ ps,(putAll kvs ps).length<=kvs.length + ps.length:=by
  intro ps
  unfold putAll
  induction ps generalizing kvs with
  | nil=>simp
  | cons p ps ih=>
    rw [List.foldl_cons,List.length_cons]
    have h1:=ih (putK kvs p.1 p.2.2)
    have h2:=length_putK kvs p.1 p.2.2
    omega
theorem mt_update (hu:X.A.units + 9 < cLine) (hc:X.calm=true):MtR X "dict.update" (fun x vs H Q=>∃ a p,∃ kvs:List (HK × V),∃ us,∃ ps:List (HK × Addr × V),x=.ref a/\vs=[.ref p]/\H a=some (.dT kvs)/\H p=some (.lst us)/\Paired (fun v (z:HK × Addr × V)=>∃ c,v=.ref c/\H c=some (.tup [.ref z.2.1,z.2.2])/\KR H z.1 z.2.1) us ps/\kvs.length + ps.length<=sizeLine/\Q .non (upd H a (.dT (putAll kvs ps)))):=by
  intro pins s σ H x vs v us' Q I rx rv h
  obtain ⟨D,p,kvs,us,ps,rfl,rfl,ea,hq,hpr,hl,q⟩:=h
  cases rx
  obtain ⟨u,rfl,ru⟩:=rv.one
  cases ru
  obtain ⟨z,hd,xs,rel,dd⟩:=dt_of I.hok ea
  obtain ⟨hz0,its,n,r',hn0,hli⟩:=I.lstM hq
  obtain ⟨oD,esD,epD,hoD,hxD,hdD,hrest⟩:=dd
  have dd:s.heap.DictOfH (nk X.prog X.w) D xs:=⟨oD,esD,epD,hoD,hxD,hdD,hrest⟩
  have hTD:s.TypeIs (.ref D) "dict" := ⟨oD,hoD,hxD.1⟩
  have hDp:D ≠ p:=fun e=>by subst e; rw [hoD] at hli; cases hli; cases hdD
  have hDt:∀ its,¬ IsTup s.heap D its:=by
    rintro its ⟨o',g1,g2,n,g3⟩
    rw [hoD] at g1; cases g1
    rw [hdD] at g3; cases g3
  obtain ⟨qs,hqs,hitems⟩:∃ qs:List (HK × Addr × Value),Paired (fun (p:HK × Addr × V) (q:HK × Addr × Value)=>p.1=q.1/\p.2.1=q.2.1/\KR H p.1 p.2.1/\RelV p.2.2 q.2.2) ps qs/\(its.length=qs.length/\∀ (i:Nat) (v:Value) (p:HK × Addr × Value),its[i]?=some v->qs[i]?=some p->PairAtH X.prog X.w s.heap v p):=by
    have hok:=I.hok
    clear q hl hli hq hz0 hn0
    induction hpr generalizing its with
    | nil=>cases r'; exact ⟨[],.nil,rfl,fun i v p h=>by simp at h⟩
    | cons h1 _ ih=>
      cases r' with
      | cons y1 y2=>
        obtain ⟨qs,a1,a2,a3⟩:=ih _ y2
        obtain ⟨c,rfl,hcc,hk⟩:=h1
        cases y1
        obtain ⟨_,jts,rj,ht⟩:=hok c _ hcc
        cases rj with
        | cons x1 rj=>
          cases rj with
          | cons x2 rj=>
            cases rj
            cases x1
            rename_i zz _ _ _ _ vv
            refine ⟨(_,_,vv) :: qs,.cons ⟨rfl,rfl,hk,x2⟩ a1,by simp [a2],fun i v p e1 e2=>?_⟩
            cases i with
            | zero=>
              simp at e1 e2
              subst e1; subst e2
              exact ⟨c,rfl,ht,key_of hok hk⟩
            | succ i=>exact a3 i v p (by simpa using e1) (by simpa using e2)
  have hlq:ps.length=qs.length:=Paired.length hqs
  have hlx:kvs.length=xs.length:=Paired.length rel
  have hh:=I.ok.hd hc
  refine wpAny_call (codeAny_call_builtin F.slot_dict_update.plain F.entry_dict_update (F.slot_dict_update.check _ _ _ _ _ _ _ _ hTD (F.args_dict_update_2 _ _) ?_))
  unfold Builtin.«dict.update»
  refine wpAny_bind ?_
  unfold Builtin.Dict.selfAndRest
  refine wpAny_bind (wpAny_notOrdered_dict hTD ?_)
  show wpAny _ _ (pure (D,[Value.ref p])) _ _ _
  refine wpAny_pure ?_
  show wpAny _ _ (Builtin.Dict.updateFrom "dict.update" D (.ref p) [] .none) _ _ _
  unfold Builtin.Dict.updateFrom
  refine wpAny_bind (wpAny_typeOf (T := "list") ⟨_,hli,rfl⟩ ?_)
  rw [if_pos (by decide)]
  refine wpAny_bind (getAttrQ_list hli (by simpa using hh) fun h2 tk2 keep2=>?_)
  rw [if_pos (by rfl)]
  have hl2:=keep2 _ _ hli
  have hL2:h2.IsList p its.toArray:=⟨_,hl2,rfl,n,rfl⟩
  have hD2:h2.DictOfH (nk X.prog X.w) D xs:=dh_keep dd (fun o e=>keep2 _ _ e) fun a its x=>let ⟨o',x1,x2⟩:=x; ⟨o',keep2 _ _ x1,x2⟩
  have hDlt:D < h2.objs.size:=Heap.lt_size (keep2 _ _ hoD)
  refine wpAny_bind (wpAny_bind (m:=rule _) (wpAny_rule (wpAny_pure (wpAny_bind (wpAny_pyIter_list hL2 ?_)))))
  refine wpAny_pure ⟨plainId_quiet plain_dict_loop _,?_⟩
  have sb:∀ (h2:Heap) (o:Obj),∀ a its,IsTup h2 a its->IsTup (h2.push o) a its:=fun h2 o a its x=>let ⟨o',x1,x2⟩:=x; ⟨o',Heap.get?_push_of_some _ x1,x2⟩
  refine upd_loopH (A:=X.A) (I:=h2.objs.size) (l:=p) (D:=D) (xs:=xs) (ps:=qs) (h0:=s.heap) (by show X.A.units + 1 + 5 < cLine; omega) (by simpa using hh) (Nat.ne_of_lt (Heap.lt_size hl2)) (Nat.ne_of_lt hDlt) hDp (fun b o e=>Nat.ne_of_lt (Heap.lt_size (keep2 b o e))) hDt
    (by rw [List.size_toArray]; exact hitems.1) (fun i v p e1 e2=>hitems.2 i v p (by simpa using e1) e2) (by omega) (its.toArray.size - 0) 0 _ rfl (Nat.zero_le _) ⟨⟨_,Heap.get?_push_size _ rfl,rfl,rfl⟩,hL2.push _⟩ (fun b o _ e=>Heap.get?_push_of_some _ (keep2 b o e)) ?dk fun h' tk d k=>?_
  case dk=>exact dh_keep hD2 (fun o e=>Heap.get?_push_of_some _ e) (sb _ _)
  obtain ⟨q1,es,ep,hq1,h2',h3',h4',_,h5'⟩:=d
  refine ⟨.non,_,I.write (x:=D) (e:=D) (o:=.dT (putAll kvs ps)) (by rw [ea]; exact True.intro) (.inl rfl) (fun b o hb e=>k b o hb e) ⟨q1,hq1⟩ ⟨?_,hd,_,(rel.putAll hqs).keeps fun c ys ec=>?_,q1,es,ep,hq1,h2',h3',h4',h5'⟩,rfl,q⟩
  · have:=putAll_len kvs ps; omega
  · rw [upd_ne (ne_of ec ea (fun z=>nomatch z))]
    exact ec
end
end L2
namespace Sm
open PySem PySem.Spec L2
inductive PV where
  | non | bl (b:Bool) | int (i:Int) | str (x:Str) | tup (xs:List PV) | lst (xs:List PV) | fro (xs:List PV) | ref (i:Nat) | dic
inductive Cell where
  | lst (xs:List PV) | dic (kvs:List (Key × PV)) | dtp (kvs:List (HK × PV)) | frd (kvs:List (Key × PV))
  | obj (C:Addr) (fs:List (Str × PV))
abbrev Store:=List Cell
structure Exc where
  cls:Str
  fs:Option (Str × PV):=none
inductive Res (α:Type) where
  | ok (a:α) (st:Store) | exc (x:Exc) (st:Store) | stuck
abbrev Gam:=List (Option PV)
abbrev ME:=Gam->Store->Res PV
structure Tk where
  tr:List Addr
  hid:List Addr
instance:Membership Addr Tk:=⟨fun t a=>a ∈ t.tr\/a ∈ t.hid⟩
def Tk.nil:Tk:=⟨[],[]⟩
theorem Tk.not_nil (a:Addr):a ∉ Tk.nil:=fun z=>by rcases z with z | z <;> cases z
def Tk.add (t:Tk) (p:Addr):Tk:=⟨t.tr ++ [p],t.hid⟩
def Tk.hide (t:Tk) (p:Addr):Tk:=⟨t.tr,p :: t.hid⟩
mutual
def Rep (H:Hp) (ρ:Tk):PV->V->Prop
  | .non,v=>v=.non
  | .bl b,v=>v=.bl b
  | .int i,v=>v=.int i
  | .str x,v=>v=.str x
  | .tup ps,v=>∃ a vs,v=.ref a/\H a=some (.tup vs)/\a ∉ ρ/\RepL H ρ ps vs
  | .lst ps,v=>∃ a vs,v=.ref a/\H a=some (.lst vs)/\a ∉ ρ/\RepL H ρ ps vs
  | .fro ps,v=>∃ a vs,v=.ref a/\Rd H a (.lst vs)/\a ∉ ρ/\RepL H ρ ps vs
  | .ref i,v=>∃ a,ρ.tr[i]?=some a/\v=.ref a
  | .dic,v=>∃ a,v=.ref a/\H a=some (.dK [])/\a ∉ ρ
def RepL (H:Hp) (ρ:Tk):List PV->List V->Prop
  | [],vs=>vs=[]
  | p :: ps,vs=>∃ v r,vs=v :: r/\Rep H ρ p v/\RepL H ρ ps r
end
structure Ext (H:Hp) (ρ:Tk) (H':Hp) (ρ':Tk):Prop where
  pre:ρ.tr <+: ρ'.tr
  hidM:∀ a,a ∈ ρ.hid->a ∈ ρ'.hid
  hidN:∀ a,a ∈ ρ'.hid->a ∈ ρ.hid\/H a=none
  keep:∀ a o,H a=some o->a ∉ ρ.tr->H' a=some o
  new:∀ a,a ∈ ρ'.tr->a ∈ ρ.tr\/H a=none
  old:∀ a o,H a=some o->∃ o',H' a=some o'
  frz:∀ a o u,H a=some (.frz o u)->H' a=some (.frz o u)
theorem Ext.refl (H:Hp) (ρ:Tk):Ext H ρ H ρ:=⟨List.prefix_refl _,fun _ h=>h,fun _ h=>.inl h,fun _ _ h _=>h,fun _ h=>.inl h,fun _ o h=>⟨o,h⟩,fun _ _ _ h=>h⟩
theorem Ext.trans {H H1 H2:Hp} {ρ ρ1 ρ2:Tk} (a:Ext H ρ H1 ρ1) (b:Ext H1 ρ1 H2 ρ2):Ext H ρ H2 ρ2 where
  pre:=a.pre.trans b.pre
  hidM:=fun x h=>b.hidM x (a.hidM x h)
  hidN:=fun x h=>by
    rcases b.hidN x h with z | z
    · exact a.hidN x z
    · right
      cases q:H x with
      | none=>rfl
      | some o=>
        obtain ⟨o',e⟩:=a.old x o q
        rw [e] at z; cases z
  keep:=fun x o h n=>b.keep x o (a.keep x o h n) fun z=>by
    rcases a.new x z with z | z
    · exact n z
    · rw [h] at z; cases z
  new:=fun x h=>by
    rcases b.new x h with z | z
    · exact a.new x z
    · right
      cases q:H x with
      | none=>rfl
      | some o=>
        obtain ⟨o',e⟩:=a.old x o q
        rw [e] at z; cases z
  old:=fun x o h=>by
    obtain ⟨o',e⟩:=a.old x o h
    exact b.old x o' e
  frz:=fun x o u h=>b.frz x o u (a.frz x o u h)
theorem Ext.add {H:Hp} {ρ:Tk} {p:Addr} {o:HO} (h:H p=none):Ext H ρ (upd H p o) ρ where
  pre:=List.prefix_refl _
  hidM:=fun _ h=>h
  hidN:=fun _ h=>.inl h
  keep:=fun a u e _=>by rw [upd_ne (ne_of_none e h)]; exact e
  new:=fun a e=>.inl e
  old:=fun a u e=>⟨u,by rw [upd_ne (ne_of_none e h)]; exact e⟩
  frz:=fun a o u e=>by rw [upd_ne (ne_of_none e h)]; exact e
theorem Ext.addT {H:Hp} {ρ:Tk} {p:Addr} {o:HO} (h:H p=none):Ext H ρ (upd H p o) (ρ.add p) where
  pre:=List.prefix_append _ _
  hidM:=fun _ h=>h
  hidN:=fun _ h=>.inl h
  keep:=fun a u e _=>by rw [upd_ne (ne_of_none e h)]; exact e
  new:=fun a e=>by
    rcases List.mem_append.mp e with z | z
    · exact .inl z
    · right
      have:a=p:=by simpa using z
      rw [this]; exact h
  old:=fun a u e=>⟨u,by rw [upd_ne (ne_of_none e h)]; exact e⟩
  frz:=fun a o u e=>by rw [upd_ne (ne_of_none e h)]; exact e
theorem Ext.same {H H':Hp} {ρ:Tk} (h:Same H H'):Ext H ρ H' ρ:=⟨List.prefix_refl _,fun _ h=>h,fun _ h=>.inl h,fun a o e _=>h a o e,fun _ e=>.inl e,fun a o e=>⟨o,h a o e⟩,fun a o u e=>h a _ e⟩
section
variable {H H':Hp} {ρ ρ':Tk}
theorem fresh_not {a:Addr} {o:HO} (x:Ext H ρ H' ρ') (h:H a=some o) (n:a ∉ ρ):a ∉ ρ':=fun z=>by
  rcases z with z | z
  · rcases x.new a z with z | z
    · exact n (.inl z)
    · rw [h] at z; cases z
  · rcases x.hidN a z with z | z
    · exact n (.inr z)
    · rw [h] at z; cases z
theorem Ext.kp {a:Addr} {o:HO} (x:Ext H ρ H' ρ') (h:H a=some o) (n:a ∉ ρ):H' a=some o:=x.keep a o h fun z=>n (.inl z)
mutual
theorem Rep.ext (x:Ext H ρ H' ρ'):∀ {p:PV} {v:V},Rep H ρ p v->Rep H' ρ' p v
  | .non,_,h=>h
  | .bl _,_,h=>h
  | .int _,_,h=>h
  | .str _,_,h=>h
  | .tup ps,v,h=>by
    obtain ⟨a,vs,e,s,n,r⟩:=h
    exact ⟨a,vs,e,x.kp s n,fresh_not x s n,RepL.ext x r⟩
  | .lst ps,v,h=>by
    obtain ⟨a,vs,e,s,n,r⟩:=h
    exact ⟨a,vs,e,x.kp s n,fresh_not x s n,RepL.ext x r⟩
  | .fro ps,v,h=>by
    obtain ⟨a,vs,e,s,n,r⟩:=h
    rcases s with s | ⟨o,s⟩
    · exact ⟨a,vs,e,.inl (x.kp s n),fresh_not x s n,RepL.ext x r⟩
    · exact ⟨a,vs,e,.inr ⟨o,x.kp s n⟩,fresh_not x s n,RepL.ext x r⟩
  | .ref i,v,h=>by
    obtain ⟨a,e,rfl⟩:=h
    obtain ⟨t,et⟩:=x.pre
    refine ⟨a,?_,rfl⟩
    rw [<- et,List.getElem?_append_left (List.getElem?_eq_some_iff.mp e).1]
    exact e
  | .dic,v,h=>by
    obtain ⟨a,e,s,n⟩:=h
    exact ⟨a,e,x.kp s n,fresh_not x s n⟩
theorem RepL.ext (x:Ext H ρ H' ρ'):∀ {ps:List PV} {vs:List V},RepL H ρ ps vs->RepL H' ρ' ps vs
  | [],_,h=>h
  | p :: ps,vs,h=>by
    obtain ⟨v,r,e,h1,h2⟩:=h
    exact ⟨v,r,e,Rep.ext x h1,RepL.ext x h2⟩
end
mutual
theorem Rep.hide {a:Addr} {o:HO} (h:H a=none):∀ {p:PV} {v:V},Rep H ρ p v->Rep (upd H a o) (ρ.hide a) p v
  | .non,_,r=>r
  | .bl _,_,r=>r
  | .int _,_,r=>r
  | .str _,_,r=>r
  | .tup ps,v,⟨b,vs,e,s,n,r⟩=>⟨b,vs,e,by rw [upd_ne (ne_of_none s h)]; exact s,fun z=>by
      rcases z with z | z
      · exact n (.inl z)
      · rcases List.mem_cons.mp z with z | z
        · exact ne_of_none s h z
        · exact n (.inr z),RepL.hide h r⟩
  | .lst ps,v,⟨b,vs,e,s,n,r⟩=>⟨b,vs,e,by rw [upd_ne (ne_of_none s h)]; exact s,fun z=>by
      rcases z with z | z
      · exact n (.inl z)
      · rcases List.mem_cons.mp z with z | z
        · exact ne_of_none s h z
        · exact n (.inr z),RepL.hide h r⟩
  | .fro ps,v,⟨b,vs,e,s,n,r⟩=>by
      have ne:b ≠ a:=by
        rcases s with s | ⟨_,s⟩
        · exact ne_of_none s h
        · exact ne_of_none s h
      refine ⟨b,vs,e,?_,fun z=>?_,RepL.hide h r⟩
      · rcases s with s | ⟨u,s⟩
        · exact .inl (by rw [upd_ne ne]; exact s)
        · exact .inr ⟨u,by rw [upd_ne ne]; exact s⟩
      · rcases z with z | z
        · exact n (.inl z)
        · rcases List.mem_cons.mp z with z | z
          · exact ne z
          · exact n (.inr z)
  | .ref i,v,r=>r
  | .dic,v,⟨b,e,s,n⟩=>⟨b,e,by rw [upd_ne (ne_of_none s h)]; exact s,fun z=>by
      rcases z with z | z
      · exact n (.inl z)
      · rcases List.mem_cons.mp z with z | z
        · exact ne_of_none s h z
        · exact n (.inr z)⟩
theorem RepL.hide {a:Addr} {o:HO} (h:H a=none):∀ {ps:List PV} {vs:List V},RepL H ρ ps vs->RepL (upd H a o) (ρ.hide a) ps vs
  | [],_,r=>r
  | p :: ps,_,⟨v,t,e,r1,r2⟩=>⟨v,t,e,Rep.hide h r1,RepL.hide h r2⟩
end
mutual
theorem Rep.rehide {a:Addr} {o:HO} (h:a ∈ ρ.hid):∀ {p:PV} {v:V},Rep H ρ p v->Rep (upd H a o) ρ p v
  | .non,_,r=>r
  | .bl _,_,r=>r
  | .int _,_,r=>r
  | .str _,_,r=>r
  | .tup ps,v,⟨b,vs,e,s,n,r⟩=>⟨b,vs,e,by rw [upd_ne (show b ≠ a from fun z=>n (.inr (by rw [z]; exact h)))]; exact s,n,RepL.rehide h r⟩
  | .lst ps,v,⟨b,vs,e,s,n,r⟩=>⟨b,vs,e,by rw [upd_ne (show b ≠ a from fun z=>n (.inr (by rw [z]; exact h)))]; exact s,n,RepL.rehide h r⟩
  | .fro ps,v,⟨b,vs,e,s,n,r⟩=>by
      have ne:b ≠ a:=fun z=>n (.inr (by rw [z]; exact h))
      refine ⟨b,vs,e,?_,n,RepL.rehide h r⟩
      rcases s with s | ⟨u,s⟩
      · exact .inl (by rw [upd_ne ne]; exact s)
      · exact .inr ⟨u,by rw [upd_ne ne]; exact s⟩
  | .ref i,v,r=>r
  | .dic,v,⟨b,e,s,n⟩=>⟨b,e,by rw [upd_ne (show b ≠ a from fun z=>n (.inr (by rw [z]; exact h)))]; exact s,n⟩
theorem RepL.rehide {a:Addr} {o:HO} (h:a ∈ ρ.hid):∀ {ps:List PV} {vs:List V},RepL H ρ ps vs->RepL (upd H a o) ρ ps vs
  | [],_,r=>r
  | p :: ps,_,⟨v,t,e,r1,r2⟩=>⟨v,t,e,Rep.rehide h r1,RepL.rehide h r2⟩
end
mutual
theorem Rep.retr {a:Addr} {o:HO} (h:a ∈ ρ.tr):∀ {p:PV} {v:V},Rep H ρ p v->Rep (upd H a o) ρ p v
  | .non,_,r=>r
  | .bl _,_,r=>r
  | .int _,_,r=>r
  | .str _,_,r=>r
  | .tup ps,v,⟨b,vs,e,s,n,r⟩=>⟨b,vs,e,by rw [upd_ne (show b ≠ a from fun z=>n (.inl (by rw [z]; exact h)))]; exact s,n,RepL.retr h r⟩
  | .lst ps,v,⟨b,vs,e,s,n,r⟩=>⟨b,vs,e,by rw [upd_ne (show b ≠ a from fun z=>n (.inl (by rw [z]; exact h)))]; exact s,n,RepL.retr h r⟩
  | .fro ps,v,⟨b,vs,e,s,n,r⟩=>by
      have ne:b ≠ a:=fun z=>n (.inl (by rw [z]; exact h))
      refine ⟨b,vs,e,?_,n,RepL.retr h r⟩
      rcases s with s | ⟨u,s⟩
      · exact .inl (by rw [upd_ne ne]; exact s)
      · exact .inr ⟨u,by rw [upd_ne ne]; exact s⟩
  | .ref i,v,r=>r
  | .dic,v,⟨b,e,s,n⟩=>⟨b,e,by rw [upd_ne (show b ≠ a from fun z=>n (.inl (by rw [z]; exact h)))]; exact s,n⟩
theorem RepL.retr {a:Addr} {o:HO} (h:a ∈ ρ.tr):∀ {ps:List PV} {vs:List V},RepL H ρ ps vs->RepL (upd H a o) ρ ps vs
  | [],_,r=>r
  | p :: ps,_,⟨v,t,e,r1,r2⟩=>⟨v,t,e,Rep.retr h r1,RepL.retr h r2⟩
end
mutual
theorem Rep.unhide {hs:List Addr} (hh:∀ a,a ∈ hs->a ∈ ρ.hid):∀ {p:PV} {v:V},Rep H ρ p v->Rep H ⟨ρ.tr,hs⟩ p v
  | .non,_,r=>r
  | .bl _,_,r=>r
  | .int _,_,r=>r
  | .str _,_,r=>r
  | .tup ps,v,⟨b,vs,e,s,n,r⟩=>⟨b,vs,e,s,fun z=>n (z.imp id (hh _)),RepL.unhide hh r⟩
  | .lst ps,v,⟨b,vs,e,s,n,r⟩=>⟨b,vs,e,s,fun z=>n (z.imp id (hh _)),RepL.unhide hh r⟩
  | .fro ps,v,⟨b,vs,e,s,n,r⟩=>⟨b,vs,e,s,fun z=>n (z.imp id (hh _)),RepL.unhide hh r⟩
  | .ref i,v,r=>r
  | .dic,v,⟨b,e,s,n⟩=>⟨b,e,s,fun z=>n (z.imp id (hh _))⟩
theorem RepL.unhide {hs:List Addr} (hh:∀ a,a ∈ hs->a ∈ ρ.hid):∀ {ps:List PV} {vs:List V},RepL H ρ ps vs->RepL H ⟨ρ.tr,hs⟩ ps vs
  | [],_,r=>r
  | p :: ps,_,⟨v,t,e,r1,r2⟩=>⟨v,t,e,Rep.unhide hh r1,RepL.unhide hh r2⟩
end
theorem RepL.length:∀ {ps:List PV} {vs:List V},RepL H ρ ps vs->ps.length=vs.length
  | [],_,h=>by cases h; rfl
  | p :: ps,_,⟨v,r,rfl,_,h2⟩=>by rw [List.length_cons,List.length_cons,RepL.length h2]
theorem RepL.get:∀ {ps:List PV} {vs:List V} {i:Nat} {p:PV},RepL H ρ ps vs->ps[i]?=some p->∃ v,vs[i]?=some v/\Rep H ρ p v
  | [],_,_,_,_,e=>by simp at e
  | p :: ps,_,0,q,⟨v,r,rfl,h1,h2⟩,e=>by simp at e; subst e; exact ⟨v,rfl,h1⟩
  | p :: ps,_,i + 1,q,⟨v,r,rfl,h1,h2⟩,e=>by
    obtain ⟨u,e1,e2⟩:=RepL.get (i:=i) h2 (by simpa using e)
    exact ⟨u,by simpa using e1,e2⟩
theorem RepL.cons {p:PV} {v:V} {ps:List PV} {vs:List V} (h:Rep H ρ p v) (r:RepL H ρ ps vs):RepL H ρ (p :: ps) (v :: vs):=⟨v,vs,rfl,h,r⟩
theorem RepL.nil:RepL H ρ [] []:=rfl
theorem RepL.append:∀ {ps qs:List PV} {vs us:List V},RepL H ρ ps vs->RepL H ρ qs us->RepL H ρ (ps ++ qs) (vs ++ us)
  | [],_,_,_,h,g=>by cases h; exact g
  | p :: ps,_,_,_,⟨v,r,rfl,h1,h2⟩,g=>⟨v,_,rfl,h1,RepL.append h2 g⟩
theorem RepL.take:∀ {ps:List PV} {vs:List V} (n:Nat),RepL H ρ ps vs->RepL H ρ (ps.take n) (vs.take n)
  | _,_,0,_=>rfl
  | [],_,n + 1,h=>by cases h; rfl
  | p :: ps,_,n + 1,⟨v,r,rfl,h1,h2⟩=>⟨v,_,rfl,h1,RepL.take n h2⟩
theorem RepL.drop:∀ {ps:List PV} {vs:List V} (n:Nat),RepL H ρ ps vs->RepL H ρ (ps.drop n) (vs.drop n)
  | _,_,0,h=>h
  | [],_,n + 1,h=>by cases h; rfl
  | p :: ps,_,n + 1,⟨v,r,rfl,h1,h2⟩=>RepL.drop n h2
theorem RepL.set {p:PV} {v:V} (h:Rep H ρ p v):∀ {ps:List PV} {vs:List V} (i:Nat),RepL H ρ ps vs->RepL H ρ (ps.set i p) (vs.set i v)
  | [],_,_,g=>by cases g; rfl
  | q :: ps,_,0,⟨u,r,rfl,h1,h2⟩=>⟨v,r,rfl,h,h2⟩
  | q :: ps,_,i + 1,⟨u,r,rfl,h1,h2⟩=>⟨u,_,rfl,h1,RepL.set h i h2⟩
theorem RepL.reverse:∀ {ps:List PV} {vs:List V},RepL H ρ ps vs->RepL H ρ ps.reverse vs.reverse
  | [],_,g=>by cases g; rfl
  | q :: ps,_,⟨u,r,rfl,h1,h2⟩=>by rw [List.reverse_cons,List.reverse_cons]; exact (RepL.reverse h2).append (RepL.cons h1 RepL.nil)
theorem RepL.rep {ps:List PV} {vs:List V} (h:RepL H ρ ps vs):∀ n,RepL H ρ (List.replicate n ps).flatten (List.replicate n vs).flatten
  | 0=>rfl
  | n + 1=>by rw [List.replicate_succ,List.replicate_succ,List.flatten_cons,List.flatten_cons]; exact h.append (RepL.rep h n)
theorem RepL.toInts:∀ {ns:List Int} {vs:List V},RepL H ρ (ns.map .int) vs->vs=ns.map V.int
  | [],_,h=>h
  | n :: ns,_,⟨v,r,rfl,h1,h2⟩=>by
    have e:v=V.int n:=h1
    rw [RepL.toInts h2,e]; rfl
theorem RepL.toBls:∀ {ns:List Bool} {vs:List V},RepL H ρ (ns.map .bl) vs->vs=ns.map V.bl
  | [],_,h=>h
  | n :: ns,_,⟨v,r,rfl,h1,h2⟩=>by
    have e:v=V.bl n:=h1
    rw [RepL.toBls h2,e]; rfl
end
def RepD {κ:Type} (H:Hp) (ρ:Tk) (kvs:List (κ × PV)) (vs:List (κ × V)):Prop:=vs.map Prod.fst=kvs.map Prod.fst/\RepL H ρ (kvs.map Prod.snd) (vs.map Prod.snd)
theorem RepD.ext {κ:Type} {H H':Hp} {ρ ρ':Tk} {kvs:List (κ × PV)} {vs:List (κ × V)} (x:Ext H ρ H' ρ') (r:RepD H ρ kvs vs):RepD H' ρ' kvs vs:=⟨r.1,r.2.ext x⟩
theorem RepD.length {κ:Type} {H:Hp} {ρ:Tk} {kvs:List (κ × PV)} {vs:List (κ × V)} (r:RepD H ρ kvs vs):kvs.length=vs.length:=by
  have:=congrArg List.length r.1
  rw [List.length_map,List.length_map] at this
  exact this.symm
def CellR (H:Hp) (ρ:Tk) (a:Addr):Cell->Prop
  | .lst ps=>∃ vs,H a=some (.lst vs)/\RepL H ρ ps vs
  | .dic kvs=>∃ vs,H a=some (.dK vs)/\RepD H ρ kvs vs
  | .dtp kvs=>∃ vs,H a=some (.dT vs)/\RepD H ρ kvs vs
  | .frd kvs=>∃ vs,(∃ o,H a=some (.frz o (.dK vs)))/\RepD H ρ kvs vs
  | .obj C fs=>∃ vs,(∃ dx,H a=some (.ins C dx vs))/\RepD H ρ fs vs
theorem CellR.dom {H:Hp} {ρ:Tk} {a:Addr}:∀ {c:Cell},CellR H ρ a c->∃ o,H a=some o
  | .lst _,⟨_,e,_⟩=>⟨_,e⟩
  | .dic _,⟨_,e,_⟩=>⟨_,e⟩
  | .dtp _,⟨_,e,_⟩=>⟨_,e⟩
  | .frd _,⟨_,⟨_,e⟩,_⟩=>⟨_,e⟩
  | .obj _ _,⟨_,⟨_,e⟩,_⟩=>⟨_,e⟩
theorem CellR.ext {H H':Hp} {ρ ρ':Tk} {a:Addr} (x:Ext H ρ H' ρ') (k:∀ o,H a=some o->H' a=some o):∀ {c:Cell},CellR H ρ a c->CellR H' ρ' a c
  | .lst _,⟨vs,e,r⟩=>⟨vs,k _ e,r.ext x⟩
  | .dic _,⟨vs,e,r⟩=>⟨vs,k _ e,r.ext x⟩
  | .dtp _,⟨vs,e,r⟩=>⟨vs,k _ e,r.ext x⟩
  | .frd _,⟨vs,⟨o,e⟩,r⟩=>⟨vs,⟨o,k _ e⟩,r.ext x⟩
  | .obj _ _,⟨vs,⟨o,e⟩,r⟩=>⟨vs,⟨o,k _ e⟩,r.ext x⟩
structure Rel (H:Hp) (ρ:Tk) (st:Store):Prop where
  len:ρ.tr.length=st.length
  nd:ρ.tr.Nodup
  hd:∀ a ∈ ρ.hid,∃ o,H a=some o/\∀ xs,o ≠ .tup xs
  ap:∀ a ∈ ρ.hid,a ∉ ρ.tr
  cell:∀ (i:Nat) (a:Addr) (c:Cell),ρ.tr[i]?=some a->st[i]?=some c->CellR H ρ a c
section
variable {H H':Hp} {ρ ρ':Tk} {st st':Store}
theorem Rel.lst (R:Rel H ρ st) {i:Nat} {ps:List PV} (h:st[i]?=some (.lst ps)):∃ a vs,ρ.tr[i]?=some a/\H a=some (.lst vs)/\RepL H ρ ps vs:=by
  have hi:i < ρ.tr.length:=by rw [R.len]; exact (List.getElem?_eq_some_iff.mp h).1
  have e:ρ.tr[i]?=some ρ.tr[i]:=List.getElem?_eq_getElem hi
  obtain ⟨vs,e1,e2⟩:=R.cell i _ _ e h
  exact ⟨_,vs,e,e1,e2⟩
theorem Rel.dtp (R:Rel H ρ st) {i:Nat} {kvs:List (HK × PV)} (h:st[i]?=some (.dtp kvs)):∃ a vs,ρ.tr[i]?=some a/\H a=some (.dT vs)/\RepD H ρ kvs vs:=by
  have hi:i < ρ.tr.length:=by rw [R.len]; exact (List.getElem?_eq_some_iff.mp h).1
  have e:ρ.tr[i]?=some ρ.tr[i]:=List.getElem?_eq_getElem hi
  obtain ⟨vs,e1,e2⟩:=R.cell i _ _ e h
  exact ⟨_,vs,e,e1,e2⟩
theorem Rel.dom (R:Rel H ρ st) {a:Addr} (h:a ∈ ρ.tr):∃ o,H a=some o:=by
  obtain ⟨i,hi,e⟩:=List.getElem_of_mem h
  have hs:i < st.length:=by rw [<- R.len]; exact hi
  have q:=R.cell i a st[i] (by rw [List.getElem?_eq_getElem hi,e]) (List.getElem?_eq_getElem hs)
  exact q.dom
theorem Rel.fresh (R:Rel H ρ st) {p:Addr} (h:H p=none):p ∉ ρ:=fun z=>by
  rcases z with z | z
  · obtain ⟨vs,q⟩:=R.dom z
    rw [h] at q; cases q
  · obtain ⟨o,q,_⟩:=R.hd p z
    rw [h] at q; cases q
theorem Rel.later (R:Rel H ρ st) (x:Ext H ρ H' ρ) (k:∀ a o,a ∈ ρ.tr->H a=some o->H' a=some o):Rel H' ρ st where
  len:=R.len
  nd:=R.nd
  hd:=fun a ha=>let ⟨o,e,n⟩:=R.hd a ha; ⟨o,x.keep a o e (R.ap a ha),n⟩
  ap:=R.ap
  cell:=fun i a c h1 h2=>by
    exact (R.cell i a c h1 h2).ext x fun o e=>k a o (List.mem_of_getElem? h1) e
end
theorem Rel.add {H:Hp} {ρ:Tk} {st:Store} (R:Rel H ρ st) {p:Addr} {o:HO} (h:H p=none):Rel (upd H p o) ρ st:=
  R.later (Ext.add h) fun a u hm e=>by rw [upd_ne (ne_of_none e h)]; exact e
theorem Rel.same {H H':Hp} {ρ:Tk} {st:Store} (R:Rel H ρ st) (h:Same H H'):Rel H' ρ st:=R.later (Ext.same h) fun a u _ e=>h a u e
theorem Rel.addC {H:Hp} {ρ:Tk} {st:Store} (R:Rel H ρ st) {p:Addr} {cl:Cell} {o:HO} (h:H p=none) (r:CellR (upd H p o) (ρ.add p) p cl):Rel (upd H p o) (ρ.add p) (st ++ [cl]) where
  len:=by show (ρ.tr ++ [p]).length=_; rw [List.length_append,List.length_append,R.len]; rfl
  nd:=List.nodup_append.mpr ⟨R.nd,by simp,fun a ha b hb e=>by
    have:b=p:=by simpa using hb
    subst this; subst e
    exact R.fresh h (.inl ha)⟩
  hd:=fun a ha=>let ⟨o,e,n⟩:=R.hd a ha; ⟨o,by rw [upd_ne (ne_of_none e h)]; exact e,n⟩
  ap:=fun a ha z=>by
    rcases List.mem_append.mp z with z | z
    · exact R.ap a ha z
    · have:a=p:=by simpa using z
      subst this
      exact R.fresh h (.inr ha)
  cell:=fun i a c h1 h2=>by
    have h1:(ρ.tr ++ [p])[i]?=some a:=h1
    by_cases hi:i < st.length
    · rw [List.getElem?_append_left (by rw [R.len]; exact hi)] at h1
      rw [List.getElem?_append_left hi] at h2
      exact (R.cell i a c h1 h2).ext (Ext.addT h) fun u e=>by rw [upd_ne (ne_of_none e h)]; exact e
    · rw [List.getElem?_append_right (by rw [R.len]; omega)] at h1
      rw [List.getElem?_append_right (by omega)] at h2
      have e0:i - st.length=0:=by
        rcases Nat.eq_zero_or_pos (i - st.length) with z | z
        · exact z
        · rw [List.getElem?_eq_none (by simp; omega)] at h2; cases h2
      rw [R.len,e0] at h1
      rw [e0] at h2
      simp at h1 h2
      subst h1; subst h2
      exact r
theorem nodup_inj {α:Type} {l:List α} (h:l.Nodup) {i j:Nat} (hi:i < l.length) (hj:j < l.length) (e:l[i]=l[j]):i=j:=by
  rcases Nat.lt_trichotomy i j with z | z | z
  · exact absurd e ((List.pairwise_iff_getElem.mp h) i j hi hj z)
  · exact z
  · exact absurd e.symm ((List.pairwise_iff_getElem.mp h) j i hj hi z)
theorem Ext.put {H:Hp} {ρ:Tk} {a:Addr} {o o':HO} (h:a ∈ ρ.tr) (e:H a=some o) (nf:∀ q u,o ≠ .frz q u:=by intro _ _ z; cases z):Ext H ρ (upd H a o') ρ where
  pre:=List.prefix_refl _
  hidM:=fun _ h=>h
  hidN:=fun _ h=>.inl h
  keep:=fun b u q n=>by rw [upd_ne (show b ≠ a from fun z=>n (by rw [z]; exact h))]; exact q
  new:=fun b q=>.inl q
  old:=fun b u q=>by
    by_cases z:b=a
    · exact ⟨o',by rw [z]; exact upd_same⟩
    · exact ⟨u,by rw [upd_ne z]; exact q⟩
  frz:=fun b q u k=>by
    by_cases z:b=a
    · rw [z,e] at k; cases k; exact absurd rfl (nf _ _)
    · rw [upd_ne z]; exact k
theorem Rel.putC {H:Hp} {ρ:Tk} {st:Store} (R:Rel H ρ st) {i:Nat} {a:Addr} {cl:Cell} {o o':HO} (hi:ρ.tr[i]?=some a) (e:H a=some o) (r:CellR (upd H a o') ρ a cl):Rel (upd H a o') ρ (st.set i cl) where
  len:=by rw [List.length_set]; exact R.len
  nd:=R.nd
  hd:=fun b hb=>let ⟨u,q,n⟩:=R.hd b hb; ⟨u,by rw [upd_ne (show b ≠ a from fun z=>R.ap b hb (by rw [z]; exact List.mem_of_getElem? hi))]; exact q,n⟩
  ap:=R.ap
  cell:=fun j b c h1 h2=>by
    by_cases hj:i=j
    · subst hj
      rw [hi] at h1; cases h1
      rw [List.getElem?_set_self (by rw [<- R.len]; exact (List.getElem?_eq_some_iff.mp hi).1)] at h2
      cases h2
      exact r
    · rw [List.getElem?_set_ne hj] at h2
      have q:=R.cell j b c h1 h2
      have hb:b ≠ a:=fun z=>by
        subst z
        have l1:=(List.getElem?_eq_some_iff.mp hi)
        have l2:=(List.getElem?_eq_some_iff.mp h1)
        exact hj (nodup_inj R.nd l1.1 l2.1 (l1.2.trans l2.2.symm))
      have hm:=List.mem_of_getElem? hi
      cases c with
      | lst ps=>
        obtain ⟨vs,e1,e2⟩:=q
        exact ⟨vs,by rw [upd_ne hb]; exact e1,e2.retr hm⟩
      | dic ps=>
        obtain ⟨vs,e1,e2⟩:=q
        exact ⟨vs,by rw [upd_ne hb]; exact e1,e2.1,e2.2.retr hm⟩
      | dtp ps=>
        obtain ⟨vs,e1,e2⟩:=q
        exact ⟨vs,by rw [upd_ne hb]; exact e1,e2.1,e2.2.retr hm⟩
      | frd ps=>
        obtain ⟨vs,⟨oo,e1⟩,e2⟩:=q
        exact ⟨vs,⟨oo,by rw [upd_ne hb]; exact e1⟩,e2.1,e2.2.retr hm⟩
      | obj C ps=>
        obtain ⟨vs,⟨oo,e1⟩,e2⟩:=q
        exact ⟨vs,⟨oo,by rw [upd_ne hb]; exact e1⟩,e2.1,e2.2.retr hm⟩
theorem Rel.put {H:Hp} {ρ:Tk} {st:Store} (R:Rel H ρ st) {i:Nat} {a:Addr} {ps:List PV} {vs:List V} {o:HO} (hi:ρ.tr[i]?=some a) (e:H a=some o) (r:RepL H ρ ps vs):Rel (upd H a (.lst vs)) ρ (st.set i (.lst ps)):=
  R.putC hi e ⟨vs,upd_same,r.retr (List.mem_of_getElem? hi)⟩
theorem Rel.hide {H:Hp} {ρ:Tk} {st:Store} (R:Rel H ρ st) {p:Addr} {o:HO} (h:H p=none) (nt:∀ xs,o ≠ .tup xs:=by intro _ z; cases z):Rel (upd H p o) (ρ.hide p) st:=by
  have x:Ext H ρ (upd H p o) ρ:=Ext.add h
  have R':=R.add (p:=p) (o:=o) h
  refine ⟨R'.len,R'.nd,fun a ha=>?_,fun a ha z=>?_,fun i a c h1 h2=>?_⟩
  · rcases List.mem_cons.mp ha with rfl | ha
    · exact ⟨o,upd_same,nt⟩
    · exact R'.hd a ha
  · rcases List.mem_cons.mp ha with rfl | ha
    · exact R.fresh h (.inl z)
    · exact R.ap a ha z
  · have q:=R.cell i a c h1 h2
    cases c with
    | lst ps=>
      obtain ⟨vs,e1,e2⟩:=q
      exact ⟨vs,by rw [upd_ne (ne_of_none e1 h)]; exact e1,e2.hide h⟩
    | dic ps=>
      obtain ⟨vs,e1,e2⟩:=q
      exact ⟨vs,by rw [upd_ne (ne_of_none e1 h)]; exact e1,e2.1,e2.2.hide h⟩
    | dtp ps=>
      obtain ⟨vs,e1,e2⟩:=q
      exact ⟨vs,by rw [upd_ne (ne_of_none e1 h)]; exact e1,e2.1,e2.2.hide h⟩
    | frd ps=>
      obtain ⟨vs,⟨oo,e1⟩,e2⟩:=q
      exact ⟨vs,⟨oo,by rw [upd_ne (ne_of_none e1 h)]; exact e1⟩,e2.1,e2.2.hide h⟩
    | obj C ps=>
      obtain ⟨vs,⟨oo,e1⟩,e2⟩:=q
      exact ⟨vs,⟨oo,by rw [upd_ne (ne_of_none e1 h)]; exact e1⟩,e2.1,e2.2.hide h⟩
theorem Rel.rehide {H:Hp} {ρ:Tk} {st:Store} (R:Rel H ρ st) {p:Addr} {o:HO} (h:p ∈ ρ.hid) (nt:∀ xs,o ≠ .tup xs:=by intro _ z; cases z):Rel (upd H p o) ρ st:=by
  refine ⟨R.len,R.nd,fun a ha=>?_,R.ap,fun i a c h1 h2=>?_⟩
  · by_cases e:a=p
    · exact ⟨o,by rw [e]; exact upd_same,nt⟩
    · obtain ⟨u,q,n⟩:=R.hd a ha
      exact ⟨u,by rw [upd_ne e]; exact q,n⟩
  · have q:=R.cell i a c h1 h2
    have ne:a ≠ p:=fun z=>R.ap p h (by rw [<- z]; exact List.mem_of_getElem? h1)
    cases c with
    | lst ps=>
      obtain ⟨vs,e1,e2⟩:=q
      exact ⟨vs,by rw [upd_ne ne]; exact e1,e2.rehide h⟩
    | dic ps=>
      obtain ⟨vs,e1,e2⟩:=q
      exact ⟨vs,by rw [upd_ne ne]; exact e1,e2.1,e2.2.rehide h⟩
    | dtp ps=>
      obtain ⟨vs,e1,e2⟩:=q
      exact ⟨vs,by rw [upd_ne ne]; exact e1,e2.1,e2.2.rehide h⟩
    | frd ps=>
      obtain ⟨vs,⟨oo,e1⟩,e2⟩:=q
      exact ⟨vs,⟨oo,by rw [upd_ne ne]; exact e1⟩,e2.1,e2.2.rehide h⟩
    | obj C ps=>
      obtain ⟨vs,⟨oo,e1⟩,e2⟩:=q
      exact ⟨vs,⟨oo,by rw [upd_ne ne]; exact e1⟩,e2.1,e2.2.rehide h⟩
theorem Rel.unhide {H:Hp} {ρ:Tk} {st:Store} {hs:List Addr} (hh:∀ a,a ∈ hs->a ∈ ρ.hid) (R:Rel H ρ st):Rel H ⟨ρ.tr,hs⟩ st:=by
  refine ⟨R.len,R.nd,fun a ha=>R.hd a (hh a ha),fun a ha=>R.ap a (hh a ha),fun i a c h1 h2=>?_⟩
  have q:=R.cell i a c h1 h2
  cases c with
  | lst ps=>
    obtain ⟨vs,e1,e2⟩:=q
    exact ⟨vs,e1,RepL.unhide hh e2⟩
  | dic ps=>
    obtain ⟨vs,e1,e2⟩:=q
    exact ⟨vs,e1,e2.1,RepL.unhide hh e2.2⟩
  | dtp ps=>
    obtain ⟨vs,e1,e2⟩:=q
    exact ⟨vs,e1,e2.1,RepL.unhide hh e2.2⟩
  | frd ps=>
    obtain ⟨vs,e1,e2⟩:=q
    exact ⟨vs,e1,e2.1,RepL.unhide hh e2.2⟩
  | obj C ps=>
    obtain ⟨vs,e1,e2⟩:=q
    exact ⟨vs,e1,e2.1,RepL.unhide hh e2.2⟩
theorem Ext.hide {H:Hp} {ρ:Tk} {p:Addr} {o:HO} (h:H p=none):Ext H ρ (upd H p o) (ρ.hide p) where
  pre:=List.prefix_refl _
  hidM:=fun _ h=>List.mem_cons_of_mem _ h
  hidN:=fun a ha=>by
    rcases List.mem_cons.mp ha with rfl | ha
    · exact .inr h
    · exact .inl ha
  keep:=fun a u e _=>by rw [upd_ne (ne_of_none e h)]; exact e
  new:=fun a e=>.inl e
  old:=fun a u e=>⟨u,by rw [upd_ne (ne_of_none e h)]; exact e⟩
  frz:=fun a o u e=>by rw [upd_ne (ne_of_none e h)]; exact e
theorem Ext.put0 {H H1:Hp} {ρ ρ1:Tk} {p:Addr} {o:HO} (x:Ext H ρ H1 ρ1) (h:H p=none):Ext H ρ (upd H1 p o) ρ1 where
  pre:=x.pre
  hidM:=x.hidM
  hidN:=x.hidN
  keep:=fun a u e n=>by rw [upd_ne (ne_of_none e h)]; exact x.keep a u e n
  new:=x.new
  old:=fun a u e=>by rw [upd_ne (ne_of_none e h)]; exact x.old a u e
  frz:=fun a o u e=>by rw [upd_ne (ne_of_none e h)]; exact x.frz a o u e
theorem Ext.unhide {H H1:Hp} {ρ ρ1:Tk} (x:Ext H ρ H1 ρ1):Ext H ρ H1 ⟨ρ1.tr,ρ.hid⟩ where
  pre:=x.pre
  hidM:=fun _ h=>h
  hidN:=fun _ h=>.inl h
  keep:=x.keep
  new:=x.new
  old:=x.old
  frz:=x.frz
def EnvR (H:Hp) (ρ:Tk) (Γ:Gam) (σ:St):Prop:=Γ.length=σ.length/\∀ (i:Nat) (p:PV),Γ[i]?=some (some p)->∃ v,σ[i]?=some (some v)/\Rep H ρ p v
theorem EnvR.ext {H H':Hp} {ρ ρ':Tk} {Γ:Gam} {σ:St} (x:Ext H ρ H' ρ') (h:EnvR H ρ Γ σ):EnvR H' ρ' Γ σ:=
  ⟨h.1,fun i p e=>let ⟨v,a,b⟩:=h.2 i p e; ⟨v,a,b.ext x⟩⟩
theorem EnvR.hide {H:Hp} {ρ:Tk} {Γ:Gam} {σ:St} {a:Addr} {o:HO} (n:H a=none) (h:EnvR H ρ Γ σ):EnvR (upd H a o) (ρ.hide a) Γ σ:=⟨h.1,fun i p e=>let ⟨v,a,b⟩:=h.2 i p e; ⟨v,a,b.hide n⟩⟩
theorem EnvR.rehide {H:Hp} {ρ:Tk} {Γ:Gam} {σ:St} {a:Addr} {o:HO} (n:a ∈ ρ.hid) (h:EnvR H ρ Γ σ):EnvR (upd H a o) ρ Γ σ:=⟨h.1,fun i p e=>let ⟨v,a,b⟩:=h.2 i p e; ⟨v,a,b.rehide n⟩⟩
theorem EnvR.set {H:Hp} {ρ:Tk} {Γ:Gam} {σ:St} {p:PV} {v:V} (h:EnvR H ρ Γ σ) (r:Rep H ρ p v) (i:Nat):EnvR H ρ (Γ.set i (some p)) (σ.set i (some v)):=by
  refine ⟨by rw [List.length_set,List.length_set]; exact h.1,fun j q e=>?_⟩
  rw [List.getElem?_set] at e
  rw [List.getElem?_set]
  by_cases hj:i=j
  · subst hj
    simp only [if_true] at e ⊢
    by_cases hl:i < Γ.length
    · rw [if_pos hl] at e; cases e
      rw [if_pos (by rw [<- h.1]; exact hl)]
      exact ⟨v,rfl,r⟩
    · rw [if_neg hl] at e; cases e
  · rw [if_neg hj] at e ⊢
    exact h.2 j q e
end Sm
namespace Sm
open PySem PySem.Spec L2
def Res.bind {α β:Type} (r:Res α) (f:α->Store->Res β):Res β:=match r with
  | .ok a st=>f a st
  | .exc x st=>.exc x st
  | .stuck=>.stuck
def okO {α:Type} (st:Store):Option α->Res α
  | some a=>.ok a st
  | none=>.stuck
section
variable (X:Cx)
def WE (e:Expr):TE:=fun σ H Q=>∀ (pins:List (Addr × Obj)) (s:Shared),Inv X pins σ H s->wpAny (model X.prog X.w) X.A (eval e X.env) (EP X pins σ Q) X.xe s
def WT (e:Expr):TT:=fun σ H Q=>∀ (pins:List (Addr × Obj)) (s:Shared),Inv X pins σ H s->wpAny (model X.prog X.w) X.A (isTrue e X.env (eval e X.env)) (TP X pins σ Q) X.xe s
def WW (e:Expr):TT:=fun σ H Q=>∀ (wh:Sem Value) (pins:List (Addr × Obj)) (s:Shared),Inv X pins σ H s->wpAny (model X.prog X.w) X.A (isTrue e X.env wh) (TP X pins σ Q) X.xe s
def WA (es:List Expr):TA:=fun σ H Q=>∀ (pos:Pos) (pins:List (Addr × Obj)) (s:Shared),Inv X pins σ H s->wpAny (model X.prog X.w) X.A (spliced (backTo pos (starEach es X.env))) (AP X pins σ Q) X.xe s
def WS (st:Stmt):TS:=fun D σ H=>∀ (pins:List (Addr × Obj)) (s:Shared),Inv X pins σ H s->wpAny (model X.prog X.w) X.A (exec st X.env) (SP X pins D) X.xe s
def WB (st:List Stmt):TS:=fun D σ H=>∀ (pins:List (Addr × Obj)) (s:Shared),Inv X pins σ H s->wpAny (model X.prog X.w) X.A (execs st X.env) (SP X pins D) X.xe s
def WI (tg iter : Expr) : TI := fun σ H R => ∀ (pins : List (Addr × Obj)) (s : Shared), Inv X pins σ H s ->
    wpAny (model X.prog X.w) X.A (eval iter X.env) (fun v s1=>wpAny (model X.prog X.w) X.A (pyIter v) (PIE X pins σ tg R) X.xe s1) X.xe s
def WO (f:Value->Value->Sem Value):R2:=fun x y H Q=>∀ (pins:List (Addr × Obj)) (s:Shared) (σ:St) (v u:Value),Inv X pins σ H s->RelV x v->RelV y u->wpAny (model X.prog X.w) X.A (f v u) (EP X pins σ Q) X.xe s
def WC (f:Value):List V->Hp->VK->Prop:=fun xs H Q=>∀ (pins:List (Addr × Obj)) (s:Shared) (σ:St) (us:List Value),Inv X pins σ H s->Vals xs us->wpAny (model X.prog X.w) X.A (call f us) (EP X pins σ Q) X.xe s
end
section
variable {X:Cx}
theorem pe_w {e:Expr}:PE X e (WE X e):=fun pins s _ _ _ I h=>h pins s I
theorem pt_w {e:Expr}:PT X e (WT X e):=fun pins s _ _ _ I h=>h pins s I
theorem pw_w {e:Expr}:PW X e (WW X e):=fun wh pins s _ _ _ I h=>h wh pins s I
theorem pa_w {es:List Expr}:PA X es (WA X es):=fun pos pins s _ _ _ I h=>h pos pins s I
theorem ps_w {st:Stmt}:PS X st (WS X st):=fun pins s _ _ _ I h=>h pins s I
theorem pss_w {st:List Stmt}:PSs X st (WB X st):=fun pins s _ _ _ I h=>h pins s I
theorem pi_w {tg iter:Expr}:PI X tg iter (WI X tg iter):=fun pins s _ _ _ I h=>h pins s I
theorem op_w {f:Value->Value->Sem Value}:OpR X f (WO X f):=fun pins s σ _ _ _ v u _ I r1 r2 h=>h pins s σ v u I r1 r2
theorem call_w {f:Value}:CallR X f (WC X f):=fun pins s σ _ _ us _ I r h=>h pins s σ us I r
theorem WE.of {e:Expr} {t:TE} {σ:St} {H:Hp} {Q:VK} (h:PE X e t) (q:t σ H Q):WE X e σ H Q:=fun pins s I=>h pins s σ H Q I q
theorem WT.of {e:Expr} {t:TT} {σ:St} {H:Hp} {Q:Bool->Hp->Prop} (h:PT X e t) (q:t σ H Q):WT X e σ H Q:=fun pins s I=>h pins s σ H Q I q
theorem WW.of {e:Expr} {t:TT} {σ:St} {H:Hp} {Q:Bool->Hp->Prop} (h:PW X e t) (q:t σ H Q):WW X e σ H Q:=fun wh pins s I=>h wh pins s σ H Q I q
theorem WA.of {es:List Expr} {t:TA} {σ:St} {H:Hp} {Q:List V->Hp->Prop} (h:PA X es t) (q:t σ H Q):WA X es σ H Q:=fun pos pins s I=>h pos pins s σ H Q I q
theorem WS.of {st:Stmt} {t:TS} {σ:St} {H:Hp} {D:Ends} (h:PS X st t) (q:t D σ H):WS X st D σ H:=fun pins s I=>h pins s σ H D I q
theorem WB.of {st:List Stmt} {t:TS} {σ:St} {H:Hp} {D:Ends} (h:PSs X st t) (q:t D σ H):WB X st D σ H:=fun pins s I=>h pins s σ H D I q
theorem WI.of {tg iter:Expr} {t:TI} {σ:St} {H:Hp} {R:It->Hp->Prop} (h:PI X tg iter t) (q:t σ H R):WI X tg iter σ H R:=fun pins s I=>h pins s σ H R I q
theorem WO.of {f:Value->Value->Sem Value} {r:R2} {x y:V} {H:Hp} {Q:VK} (h:OpR X f r) (q:r x y H Q):WO X f x y H Q:=fun pins s σ v u I r1 r2=>h pins s σ H x y v u Q I r1 r2 q
theorem WC.of {f:Value} {r:List V->Hp->VK->Prop} {xs:List V} {H:Hp} {Q:VK} (h:CallR X f r) (q:r xs H Q):WC X f xs H Q:=fun pins s σ us I r1=>h pins s σ H xs us Q I r1 q
end
def XFs (H:Hp) (ρ:Tk):Option (Str × PV)->Option Addr->Prop
  | none,dv=>dv=none
  | some (n,p),dv=>∃ dx v,dv=some dx/\H dx=some (.xd [(n,v)])/\dx ∉ ρ/\Rep H ρ p v
def Acc {α:Type} (mg:Str->Option Value) (E:XK) (H:Hp) (ρ:Tk) (P:α->Store->Hp->Tk->Prop):Res α->Prop
  | .ok a st=>∀ H' ρ',Ext H ρ H' ρ'->Rel H' ρ' st->P a st H' ρ'
  | .exc x st=>∀ C dv H' ρ',mg x.cls=some (.ref C)->Ext H ρ H' ρ'->Rel H' ρ' st->XFs H' ρ' x.fs dv->E (.ref C) dv H'
  | .stuck=>False
section
variable {α β:Type} {mg:Str->Option Value} {E:XK} {H H1:Hp} {ρ ρ1:Tk}
theorem Acc.mono {P P':α->Store->Hp->Tk->Prop} {r:Res α} (h:Acc mg E H ρ P r) (x:Ext H ρ H1 ρ1) (k:∀ a st H' ρ',P a st H' ρ'->P' a st H' ρ'):Acc mg E H1 ρ1 P' r:=by
  cases r with
  | ok a st=>exact fun H' ρ' x' R'=>k _ _ _ _ (h H' ρ' (x.trans x') R')
  | exc e st=>exact fun C dv H' ρ' m x' R' f=>h C dv H' ρ' m (x.trans x') R' f
  | stuck=>exact h
theorem Acc.later {P:α->Store->Hp->Tk->Prop} {r:Res α} (h:Acc mg E H ρ P r) (x:Ext H ρ H1 ρ1):Acc mg E H1 ρ1 P r:=h.mono x fun _ _ _ _ p=>p
theorem Acc.bind {P:β->Store->Hp->Tk->Prop} {r:Res α} {f:α->Store->Res β} (h:Acc mg E H ρ P (r.bind f)):Acc mg E H ρ (fun a st1 H1 ρ1=>Acc mg E H1 ρ1 P (f a st1)) r:=by
  cases r with
  | ok a st=>exact fun H' ρ' x' R'=>Acc.later (show Acc mg E H ρ P (f a st) from h) x'
  | exc e st=>exact h
  | stuck=>exact h
end
abbrev QV (Q:VK):PV->Store->Hp->Tk->Prop:=fun p _ H' ρ'=>∀ v,Rep H' ρ' p v->Q v H'
abbrev QL (Q:List V->Hp->Prop):List PV->Store->Hp->Tk->Prop:=fun ps _ H' ρ'=>∀ vs,RepL H' ρ' ps vs->Q vs H'
abbrev QB (Q:Bool->Hp->Prop):Bool->Store->Hp->Tk->Prop:=fun b _ H' _=>Q b H'
structure SimE (X:Cx) (E:XK) (e:Expr) (m:ME):Prop where
  run:∀ (Γ:Gam) (σ:St) (H:Hp) (ρ:Tk) (st:Store) (Q:VK),Rel H ρ st->EnvR H ρ Γ σ->Acc X.mg E H ρ (QV Q) (m Γ st)->WE X e σ H Q
structure SimT (X:Cx) (E:XK) (e:Expr) (m:Gam->Store->Res Bool):Prop where
  run:∀ (Γ:Gam) (σ:St) (H:Hp) (ρ:Tk) (st:Store) (Q:Bool->Hp->Prop),Rel H ρ st->EnvR H ρ Γ σ->Acc X.mg E H ρ (QB Q) (m Γ st)->WT X e σ H Q
structure SimW (X:Cx) (E:XK) (e:Expr) (m:Gam->Store->Res Bool):Prop where
  run:∀ (Γ:Gam) (σ:St) (H:Hp) (ρ:Tk) (st:Store) (Q:Bool->Hp->Prop),Rel H ρ st->EnvR H ρ Γ σ->Acc X.mg E H ρ (QB Q) (m Γ st)->WW X e σ H Q
structure SimA (X:Cx) (E:XK) (es:List Expr) (m:Gam->Store->Res (List PV)):Prop where
  run:∀ (Γ:Gam) (σ:St) (H:Hp) (ρ:Tk) (st:Store) (Q:List V->Hp->Prop),Rel H ρ st->EnvR H ρ Γ σ->Acc X.mg E H ρ (QL Q) (m Γ st)->WA X es σ H Q
abbrev OP:=Store->PV->PV->Res PV
structure OpS (X:Cx) (E:XK) (f:Value->Value->Sem Value) (o:OP):Prop where
  run:∀ (H:Hp) (ρ:Tk) (st:Store) (p q:PV) (x y:V) (Q:VK),Rel H ρ st->Rep H ρ p x->Rep H ρ q y->Acc X.mg E H ρ (QV Q) (o st p q)->WO X f x y H Q
abbrev CF:=Store->List PV->Res PV
structure CallS (X:Cx) (E:XK) (f:Value) (o:CF):Prop where
  run:∀ (H:Hp) (ρ:Tk) (st:Store) (ps:List PV) (xs:List V) (Q:VK),Rel H ρ st->RepL H ρ ps xs->Acc X.mg E H ρ (QV Q) (o st ps)->WC X f xs H Q
section
variable {X:Cx} {E:XK} {Γ:Gam} {σ:St} {H:Hp} {ρ:Tk} {st:Store}
theorem SimE.use {e:Expr} {m:ME} (s:SimE X E e m) {P:PV->Store->Hp->Tk->Prop} {Q:VK} (R:Rel H ρ st) (G:EnvR H ρ Γ σ) (h:Acc X.mg E H ρ P (m Γ st))
    (k:∀ p st1 H1 ρ1 v,Ext H ρ H1 ρ1->Rel H1 ρ1 st1->EnvR H1 ρ1 Γ σ->Rep H1 ρ1 p v->P p st1 H1 ρ1->Q v H1):WE X e σ H Q:=by
  refine s.run Γ σ H ρ st Q R G ?_
  cases r:m Γ st with
  | ok p st1=>rw [r] at h; exact fun H' ρ' x' R' v rv=>k p st1 H' ρ' v x' R' (G.ext x') rv (h H' ρ' x' R')
  | exc e st=>rw [r] at h; exact h
  | stuck=>rw [r] at h; exact h
theorem SimE.use' {e:Expr} {m:ME} (s:SimE X E e m) {P:PV->Store->Hp->Tk->Prop} {Q:VK} (R:Rel H ρ st) (G:EnvR H ρ Γ σ) (h:Acc X.mg E H ρ P (m Γ st))
    (k:∀ p st1 H1 ρ1 v,m Γ st=.ok p st1->Ext H ρ H1 ρ1->Rel H1 ρ1 st1->EnvR H1 ρ1 Γ σ->Rep H1 ρ1 p v->P p st1 H1 ρ1->Q v H1):WE X e σ H Q:=by
  refine s.run Γ σ H ρ st Q R G ?_
  cases r:m Γ st with
  | ok p st1=>rw [r] at h; exact fun H' ρ' x' R' v rv=>k p st1 H' ρ' v r x' R' (G.ext x') rv (h H' ρ' x' R')
  | exc e st=>rw [r] at h; exact h
  | stuck=>rw [r] at h; exact h
theorem SimA.use' {es:List Expr} {m:Gam->Store->Res (List PV)} (s:SimA X E es m) {P:List PV->Store->Hp->Tk->Prop} {Q:List V->Hp->Prop} (R:Rel H ρ st) (G:EnvR H ρ Γ σ) (h:Acc X.mg E H ρ P (m Γ st))
    (k:∀ ps st1 H1 ρ1 vs,m Γ st=.ok ps st1->Ext H ρ H1 ρ1->Rel H1 ρ1 st1->EnvR H1 ρ1 Γ σ->RepL H1 ρ1 ps vs->P ps st1 H1 ρ1->Q vs H1):WA X es σ H Q:=by
  refine s.run Γ σ H ρ st Q R G ?_
  cases r:m Γ st with
  | ok p st1=>rw [r] at h; exact fun H' ρ' x' R' v rv=>k p st1 H' ρ' v r x' R' (G.ext x') rv (h H' ρ' x' R')
  | exc e st=>rw [r] at h; exact h
  | stuck=>rw [r] at h; exact h
theorem SimT.use {e:Expr} {m:Gam->Store->Res Bool} (s:SimT X E e m) {P:Bool->Store->Hp->Tk->Prop} {Q:Bool->Hp->Prop} (R:Rel H ρ st) (G:EnvR H ρ Γ σ) (h:Acc X.mg E H ρ P (m Γ st))
    (k:∀ p st1 H1 ρ1,Ext H ρ H1 ρ1->Rel H1 ρ1 st1->EnvR H1 ρ1 Γ σ->P p st1 H1 ρ1->Q p H1):WT X e σ H Q:=by
  refine s.run Γ σ H ρ st Q R G ?_
  cases r:m Γ st with
  | ok p st1=>rw [r] at h; exact fun H' ρ' x' R'=>k p st1 H' ρ' x' R' (G.ext x') (h H' ρ' x' R')
  | exc e st=>rw [r] at h; exact h
  | stuck=>rw [r] at h; exact h
theorem SimT.use' {e:Expr} {m:Gam->Store->Res Bool} (s:SimT X E e m) {P:Bool->Store->Hp->Tk->Prop} {Q:Bool->Hp->Prop} (R:Rel H ρ st) (G:EnvR H ρ Γ σ) (h:Acc X.mg E H ρ P (m Γ st))
    (k:∀ p st1 H1 ρ1,m Γ st=.ok p st1->Ext H ρ H1 ρ1->Rel H1 ρ1 st1->EnvR H1 ρ1 Γ σ->P p st1 H1 ρ1->Q p H1):WT X e σ H Q:=by
  refine s.run Γ σ H ρ st Q R G ?_
  cases r:m Γ st with
  | ok p st1=>rw [r] at h; exact fun H' ρ' x' R'=>k p st1 H' ρ' r x' R' (G.ext x') (h H' ρ' x' R')
  | exc e st=>rw [r] at h; exact h
  | stuck=>rw [r] at h; exact h
theorem SimW.use {e:Expr} {m:Gam->Store->Res Bool} (s:SimW X E e m) {P:Bool->Store->Hp->Tk->Prop} {Q:Bool->Hp->Prop} (R:Rel H ρ st) (G:EnvR H ρ Γ σ) (h:Acc X.mg E H ρ P (m Γ st))
    (k:∀ p st1 H1 ρ1,Ext H ρ H1 ρ1->Rel H1 ρ1 st1->EnvR H1 ρ1 Γ σ->P p st1 H1 ρ1->Q p H1):WW X e σ H Q:=by
  refine s.run Γ σ H ρ st Q R G ?_
  cases r:m Γ st with
  | ok p st1=>rw [r] at h; exact fun H' ρ' x' R'=>k p st1 H' ρ' x' R' (G.ext x') (h H' ρ' x' R')
  | exc e st=>rw [r] at h; exact h
  | stuck=>rw [r] at h; exact h
theorem SimA.use {es:List Expr} {m:Gam->Store->Res (List PV)} (s:SimA X E es m) {P:List PV->Store->Hp->Tk->Prop} {Q:List V->Hp->Prop} (R:Rel H ρ st) (G:EnvR H ρ Γ σ) (h:Acc X.mg E H ρ P (m Γ st))
    (k:∀ ps st1 H1 ρ1 vs,Ext H ρ H1 ρ1->Rel H1 ρ1 st1->EnvR H1 ρ1 Γ σ->RepL H1 ρ1 ps vs->P ps st1 H1 ρ1->Q vs H1):WA X es σ H Q:=by
  refine s.run Γ σ H ρ st Q R G ?_
  cases r:m Γ st with
  | ok p st1=>rw [r] at h; exact fun H' ρ' x' R' v rv=>k p st1 H' ρ' v x' R' (G.ext x') rv (h H' ρ' x' R')
  | exc e st=>rw [r] at h; exact h
  | stuck=>rw [r] at h; exact h
theorem OpS.use {f:Value->Value->Sem Value} {o:OP} (s:OpS X E f o) {P:PV->Store->Hp->Tk->Prop} {Q:VK} {p q:PV} {x y:V} (R:Rel H ρ st) (rp:Rep H ρ p x) (rq:Rep H ρ q y) (h:Acc X.mg E H ρ P (o st p q))
    (k:∀ p st1 H1 ρ1 v,Ext H ρ H1 ρ1->Rel H1 ρ1 st1->Rep H1 ρ1 p v->P p st1 H1 ρ1->Q v H1):WO X f x y H Q:=by
  refine s.run H ρ st p q x y Q R rp rq ?_
  cases r:o st p q with
  | ok p st1=>rw [r] at h; exact fun H' ρ' x' R' v rv=>k p st1 H' ρ' v x' R' rv (h H' ρ' x' R')
  | exc e st=>rw [r] at h; exact h
  | stuck=>rw [r] at h; exact h
end
end Sm
namespace Sm
open PySem PySem.Spec L2 SeqAt
mutual
def peq:PV->PV->Bool
  | .non,.non=>true
  | .bl a,.bl b=>a == b
  | .bl a,.int b=>(if a then 1 else 0) == b
  | .int a,.bl b=>a == (if b then 1 else 0)
  | .int a,.int b=>a == b
  | .str a,.str b=>a == b
  | .tup xs,.tup ys=>peqL xs ys
  | .lst xs,.lst ys=>peqL xs ys
  | .lst xs,.fro ys=>peqL xs ys
  | .fro xs,.lst ys=>peqL xs ys
  | .fro xs,.fro ys=>peqL xs ys
  | _,_=>false
def peqL:List PV->List PV->Bool
  | [],[]=>true
  | x :: xs,y :: ys=>peq x y && peqL xs ys
  | _,_=>false
end
def good:Nat->PV->Bool
  | _,.ref _=>false
  | _,.dic=>false
  | 0,.tup _=>false
  | 0,.lst _=>false
  | 0,.fro _=>false
  | n + 1,.tup xs=>xs.all (good n)
  | n + 1,.lst xs=>xs.all (good n)
  | n + 1,.fro xs=>xs.all (good n)
  | _,_=>true
theorem peqL_len:∀ {xs ys:List PV},xs.length ≠ ys.length->peqL xs ys=false
  | [],[],h=>absurd rfl h
  | [],_ :: _,_=>by simp [peqL]
  | _ :: _,[],_=>by simp [peqL]
  | x :: xs,y :: ys,h=>by
    rw [peqL,peqL_len (xs:=xs) (ys:=ys) fun e=>h (by simp [e]),Bool.and_false]
theorem peqL_all:∀ {xs ys:List PV},xs.length=ys.length->peqL xs ys=(List.range xs.length).all fun j=>peq (xs.getD j .non) (ys.getD j .non)
  | [],[],_=>by simp [peqL]
  | [],_ :: _,h=>by simp at h
  | _ :: _,[],h=>by simp at h
  | x :: xs,y :: ys,h=>by
    rw [peqL,peqL_all (xs:=xs) (ys:=ys) (by simpa using h),List.length_cons,List.range_succ_eq_map,List.all_cons,List.all_map]
    rfl
section
variable {X:Cx} {pins:List (Addr × Obj)} {σ:St} {H:Hp} {s:Shared} {ρ:Tk}
mutual
theorem rep_same:∀ {p q:PV} {x:V} {n:Nat},good n p=true->good n q=true->Rep H ρ p x->Rep H ρ q x->peq p q=true
  | .non,q,x,n,_,gq,h1,h2=>by
    cases h1
    cases q <;> first | rfl | (cases n <;> cases gq; done) | (cases h2; done) | (obtain ⟨_,_,e,_⟩:=h2; cases e) | (obtain ⟨_,_,e⟩:=h2; cases e)
  | .bl b,q,x,n,_,gq,h1,h2=>by
    cases h1
    cases q <;> first | (cases n <;> cases gq; done) | (cases h2; simp [peq]; done) | (obtain ⟨_,_,e,_⟩:=h2; done) | (obtain ⟨_,_,e,_⟩:=h2; cases e; done) | (obtain ⟨_,_,e⟩:=h2; cases e)
  | .int b,q,x,n,_,gq,h1,h2=>by
    cases h1
    cases q <;> first | (cases n <;> cases gq; done) | (cases h2; simp [peq]; done) | (obtain ⟨_,_,e,_⟩:=h2; done) | (obtain ⟨_,_,e,_⟩:=h2; cases e; done) | (obtain ⟨_,_,e⟩:=h2; cases e)
  | .str b,q,x,n,_,gq,h1,h2=>by
    cases h1
    cases q <;> first | (cases n <;> cases gq; done) | (cases h2; simp [peq]; done) | (obtain ⟨_,_,e,_⟩:=h2; done) | (obtain ⟨_,_,e,_⟩:=h2; cases e; done) | (obtain ⟨_,_,e⟩:=h2; cases e)
  | .tup ps,q,x,0,gp,_,_,_=>by cases gp
  | .tup ps,q,x,n + 1,gp,gq,⟨a,vs,e,ha,_,r⟩,h2=>by
    subst e
    cases q with
    | tup qs=>
      obtain ⟨b,us,e,hb,_,r2⟩:=h2
      cases e
      rw [ha] at hb; cases hb
      rw [peq]
      exact repL_same gp gq r r2
    | lst qs=>obtain ⟨b,us,e,hb,_⟩:=h2; cases e; rw [ha] at hb; cases hb
    | fro qs=>obtain ⟨b,us,e,hb,_⟩:=h2; cases e; rcases hb with hb | ⟨o,hb⟩ <;> (rw [ha] at hb; cases hb)
    | ref i=>cases gq
    | dic=>cases gq
    | _=>cases h2
  | .lst ps,q,x,0,gp,_,_,_=>by cases gp
  | .lst ps,q,x,n + 1,gp,gq,⟨a,vs,e,ha,_,r⟩,h2=>by
    subst e
    cases q with
    | lst qs=>
      obtain ⟨b,us,e,hb,_,r2⟩:=h2
      cases e
      rw [ha] at hb; cases hb
      rw [peq]
      exact repL_same gp gq r r2
    | tup qs=>obtain ⟨b,us,e,hb,_⟩:=h2; cases e; rw [ha] at hb; cases hb
    | fro qs=>
      obtain ⟨b,us,e,hb,_,r2⟩:=h2
      cases e
      rcases hb with hb | ⟨o,hb⟩
      · rw [ha] at hb; cases hb
        rw [peq]
        exact repL_same gp gq r r2
      · rw [ha] at hb; cases hb
    | ref i=>cases gq
    | dic=>cases gq
    | _=>cases h2
  | .fro ps,q,x,0,gp,_,_,_=>by cases gp
  | .fro ps,q,x,n + 1,gp,gq,⟨a,vs,e,ha,_,r⟩,h2=>by
    subst e
    cases q with
    | lst qs=>
      obtain ⟨b,us,e,hb,_,r2⟩:=h2
      cases e
      rcases ha with ha | ⟨o,ha⟩
      · rw [ha] at hb; cases hb
        rw [peq]
        exact repL_same gp gq r r2
      · rw [ha] at hb; cases hb
    | tup qs=>obtain ⟨b,us,e,hb,_⟩:=h2; cases e; rcases ha with ha | ⟨o,ha⟩ <;> (rw [ha] at hb; cases hb)
    | fro qs=>
      obtain ⟨b,us,e,hb,_,r2⟩:=h2
      cases e
      have:vs=us:=by
        rcases ha with ha | ⟨o,ha⟩ <;> rcases hb with hb | ⟨o',hb⟩ <;> (rw [ha] at hb; cases hb) <;> rfl
      subst this
      rw [peq]
      exact repL_same gp gq r r2
    | ref i=>cases gq
    | dic=>cases gq
    | _=>cases h2
  | .ref i,_,_,n,gp,_,_,_=>by cases n <;> cases gp
  | .dic,_,_,n,gp,_,_,_=>by cases n <;> cases gp
theorem repL_same:∀ {ps qs:List PV} {vs:List V} {n:Nat},ps.all (good n)=true->qs.all (good n)=true->RepL H ρ ps vs->RepL H ρ qs vs->peqL ps qs=true
  | [],qs,vs,n,_,_,h1,h2=>by
    cases h1
    cases qs with
    | nil=>rfl
    | cons q qs=>obtain ⟨_,_,e,_⟩:=h2; cases e
  | p :: ps,qs,vs,n,g1,g2,⟨v,r,e,h1,h1'⟩,h2=>by
    subst e
    cases qs with
    | nil=>cases h2
    | cons q qs=>
      obtain ⟨_,_,e,h2,h2'⟩:=h2
      cases e
      rw [List.all_cons,Bool.and_eq_true] at g1 g2
      rw [peqL,rep_same g1.1 g2.1 h1 h2,repL_same g1.2 g2.2 h1' h2']; rfl
end
inductive Kd (H:Hp) (ρ:Tk) (s:Shared):PV->Value->Prop where
  | non:Kd H ρ s .non .none
  | bl (b):Kd H ρ s (.bl b) (.bool b)
  | int (i t):Kd H ρ s (.int i) (.int i t)
  | str (x t):Kd H ρ s (.str x) (.str x t)
  | tup (ps a) (vs:List V) (its:List Value):H a=some (.tup vs)->RepL H ρ ps vs->Vals vs its->s.heap.IsTuple a its.toArray->Kd H ρ s (.tup ps) (.ref a)
  | lst (p ps a) (vs:List V) (its:List Value):(p=.lst ps\/p=.fro ps)->RepL H ρ ps vs->Vals vs its->s.heap.IsList a its.toArray->Kd H ρ s p (.ref a)
theorem kd_of {p:PV} {x:V} {u:Value} {n:Nat} (I:Inv X pins σ H s) (g:good n p=true) (r:Rep H ρ p x) (ru:RelV x u):Kd H ρ s p u:=by
  cases p with
  | non=>cases r; cases ru; exact .non
  | bl b=>cases r; cases ru; exact .bl b
  | int i=>cases r; obtain ⟨t,rfl⟩:=ru; exact .int i t
  | str i=>cases r; obtain ⟨t,rfl⟩:=ru; exact .str i t
  | tup ps=>
    obtain ⟨a,vs,rfl,ha,_,rr⟩:=r
    cases ru
    obtain ⟨its,v1,p1,_⟩:=I.tuple (SqT.of (K:=X.K) ha)
    exact .tup ps a vs its ha rr v1 p1
  | lst ps=>
    obtain ⟨a,vs,rfl,ha,_,rr⟩:=r
    cases ru
    obtain ⟨its,v1,p1,_⟩:=I.list (SqL.of (K:=X.K) ha)
    exact .lst _ ps a vs its (.inl rfl) rr v1 p1.isList
  | fro ps=>
    obtain ⟨a,vs,rfl,ha,_,rr⟩:=r
    cases ru
    obtain ⟨its,v1,p1,_⟩:=I.list (show SqL X.K H a vs from .inl ha)
    exact .lst _ ps a vs its (.inr rfl) rr v1 p1.isList
  | ref i=>cases n <;> cases g
  | dic=>cases n <;> cases g
theorem getD_of {ps:List PV} {vs:List V} {its:List Value} (r:RepL H ρ ps vs) (v:Vals vs its) {j:Nat} (h:j < its.length):∃ x,Rep H ρ (ps.getD j .non) x/\RelV x its[j]:=by
  have l1:=r.length
  have l2:=v.length
  have hj:j < ps.length:=by omega
  obtain ⟨x,e1,e2⟩:=r.get (List.getElem?_eq_getElem hj)
  obtain ⟨u,e3,e4⟩:=v.get e1
  rw [List.getElem?_eq_getElem h] at e3; cases e3
  refine ⟨x,?_,e4⟩
  rw [List.getD,List.getElem?_eq_getElem hj]
  exact e2
theorem good_getD {ps:List PV} {n:Nat} (g:ps.all (good n)=true) (j:Nat) (hj:j < ps.length):good n (ps.getD j .non)=true:=by
  rw [List.getD,List.getElem?_eq_getElem hj]
  exact (List.all_eq_true.mp g) _ (List.getElem_mem hj)
theorem peqL_range {ps qs:List PV}:((List.range (min ps.length qs.length)).all (fun j=>peq (ps.getD j .non) (qs.getD j .non)) && ps.length == qs.length)=peqL ps qs:=by
  by_cases e:ps.length=qs.length
  · rw [peqL_all e,<- e,Nat.min_self,beq_self_eq_true,Bool.and_true]
  · rw [peqL_len e,beq_eq_false_iff_ne.mpr e,Bool.and_false]
theorem eqAts:∀ (n:Nat) {A:Around} {p q:PV} {x y:V} {u v:Value},Inv X pins σ H s->good n p=true->good n q=true->A.units + n < cLine->Rep H ρ p x->RelV x u->Rep H ρ q y->RelV y v ->
    EqAt A s u v (peq p q)/\RcAt A s u v (peq p q)/\RcNeAt A s u v (!peq p q):=by
  intro n
  induction n with
  | zero=>
    intro A p q x y u v I gp gq hu rp ru rq rv
    have k1:=kd_of I gp rp ru
    have k2:=kd_of I gq rq rv
    have hu:A.units < cLine:=by omega
    cases k1 with
    | tup=>cases gp
    | lst p ps a vs its h=>rcases h with rfl | rfl <;> cases gp
    | non=>cases k2 with
      | tup=>cases gq
      | lst p ps a vs its h=>rcases h with rfl | rfl <;> cases gq
      | non=>exact ⟨EqAt.same _,RcAt.none_none,RcNeAt.none_none⟩
      | bl b=>exact ⟨EqAt.none_bool _,RcAt.none_bool _,RcNeAt.none_bool _⟩
      | int i t=>exact ⟨EqAt.none_int _ _,RcAt.none_int _ _,RcNeAt.none_int _ _⟩
      | str i t=>exact ⟨EqAt.none_str _ _,RcAt.none_str _ _,RcNeAt.none_str _ _⟩
    | bl a=>cases k2 with
      | tup=>cases gq
      | lst p ps a vs its h=>rcases h with rfl | rfl <;> cases gq
      | non=>exact ⟨EqAt.bool_none _,RcAt.bool_none _,RcNeAt.bool_none _⟩
      | bl b=>exact ⟨EqAt.bool_bool _ _,RcAt.bool_bool _ _,RcNeAt.bool_bool _ _⟩
      | int i t=>exact ⟨EqAt.bool_int _ _ _,RcAt.bool_int _ _ _,RcNeAt.bool_int _ _ _⟩
      | str i t=>exact ⟨EqAt.bool_str _ _ _,RcAt.bool_str _ _ _,RcNeAt.bool_str _ _ _⟩
    | int a at'=>cases k2 with
      | tup=>cases gq
      | lst p ps a vs its h=>rcases h with rfl | rfl <;> cases gq
      | non=>exact ⟨EqAt.int_none _ _,RcAt.int_none _ _,RcNeAt.int_none _ _⟩
      | bl b=>exact ⟨EqAt.int_bool _ _ _,RcAt.int_bool _ _ _,RcNeAt.int_bool _ _ _⟩
      | int i t=>exact ⟨EqAt.int_int _ _ _ _,RcAt.int_int _ _ _ _,RcNeAt.int_int _ _ _ _⟩
      | str i t=>exact ⟨EqAt.int_str _ _ _ _,RcAt.int_str _ _ _ _,RcNeAt.int_str _ _ _ _⟩
    | str a at'=>cases k2 with
      | tup=>cases gq
      | lst p ps a vs its h=>rcases h with rfl | rfl <;> cases gq
      | non=>exact ⟨EqAt.str_none _ _,RcAt.str_none _ _,RcNeAt.str_none _ _⟩
      | bl b=>exact ⟨EqAt.str_bool _ _ _,RcAt.str_bool _ _ _,RcNeAt.str_bool _ _ _⟩
      | int i t=>exact ⟨EqAt.str_int _ _ _ _,RcAt.str_int _ _ _ _,RcNeAt.str_int _ _ _ _⟩
      | str i t=>exact ⟨EqAt.str_str _ _ _ _,RcAt.str_str _ _ _ _,RcNeAt.str_str _ _ _ _⟩
  | succ n ih=>
    intro A p q x y u v I gp gq hu rp ru rq rv
    have k1:=kd_of I gp rp ru
    have k2:=kd_of I gq rq rv
    have hu0:A.units < cLine:=by omega
    have hin:A.in1.units + n < cLine:=by show A.units + 1 + n < cLine; omega
    cases k1 with
    | non=>cases k2 with
      | non=>exact ⟨EqAt.same _,RcAt.none_none,RcNeAt.none_none⟩
      | bl b=>exact ⟨EqAt.none_bool _,RcAt.none_bool _,RcNeAt.none_bool _⟩
      | int i t=>exact ⟨EqAt.none_int _ _,RcAt.none_int _ _,RcNeAt.none_int _ _⟩
      | str i t=>exact ⟨EqAt.none_str _ _,RcAt.none_str _ _,RcNeAt.none_str _ _⟩
      | tup ps a vs its ha r v1 p1=>exact ⟨EqAt.none_tuple p1 hu0,RcAt.none_tuple p1 hu0,RcNeAt.none_tuple p1 hu0⟩
      | lst p ps a vs its h r v1 p1=>rcases h with rfl | rfl <;> exact ⟨EqAt.none_list p1 hu0,RcAt.none_list p1 hu0,RcNeAt.none_list p1 hu0⟩
    | bl a=>cases k2 with
      | non=>exact ⟨EqAt.bool_none _,RcAt.bool_none _,RcNeAt.bool_none _⟩
      | bl b=>exact ⟨EqAt.bool_bool _ _,RcAt.bool_bool _ _,RcNeAt.bool_bool _ _⟩
      | int i t=>exact ⟨EqAt.bool_int _ _ _,RcAt.bool_int _ _ _,RcNeAt.bool_int _ _ _⟩
      | str i t=>exact ⟨EqAt.bool_str _ _ _,RcAt.bool_str _ _ _,RcNeAt.bool_str _ _ _⟩
      | tup ps a vs its ha r v1 p1=>exact ⟨EqAt.bool_tuple _ p1 hu0,RcAt.bool_tuple _ p1 hu0,RcNeAt.bool_tuple _ p1 hu0⟩
      | lst p ps a vs its h r v1 p1=>rcases h with rfl | rfl <;> exact ⟨EqAt.bool_list _ p1 hu0,RcAt.bool_list _ p1 hu0,RcNeAt.bool_list _ p1 hu0⟩
    | int a at'=>cases k2 with
      | non=>exact ⟨EqAt.int_none _ _,RcAt.int_none _ _,RcNeAt.int_none _ _⟩
      | bl b=>exact ⟨EqAt.int_bool _ _ _,RcAt.int_bool _ _ _,RcNeAt.int_bool _ _ _⟩
      | int i t=>exact ⟨EqAt.int_int _ _ _ _,RcAt.int_int _ _ _ _,RcNeAt.int_int _ _ _ _⟩
      | str i t=>exact ⟨EqAt.int_str _ _ _ _,RcAt.int_str _ _ _ _,RcNeAt.int_str _ _ _ _⟩
      | tup ps a vs its ha r v1 p1=>exact ⟨EqAt.int_tuple _ _ p1 hu0,RcAt.int_tuple _ _ p1 hu0,RcNeAt.int_tuple _ _ p1 hu0⟩
      | lst p ps a vs its h r v1 p1=>rcases h with rfl | rfl <;> exact ⟨EqAt.int_list _ _ p1 hu0,RcAt.int_list _ _ p1 hu0,RcNeAt.int_list _ _ p1 hu0⟩
    | str a at'=>cases k2 with
      | non=>exact ⟨EqAt.str_none _ _,RcAt.str_none _ _,RcNeAt.str_none _ _⟩
      | bl b=>exact ⟨EqAt.str_bool _ _ _,RcAt.str_bool _ _ _,RcNeAt.str_bool _ _ _⟩
      | int i t=>exact ⟨EqAt.str_int _ _ _ _,RcAt.str_int _ _ _ _,RcNeAt.str_int _ _ _ _⟩
      | str i t=>exact ⟨EqAt.str_str _ _ _ _,RcAt.str_str _ _ _ _,RcNeAt.str_str _ _ _ _⟩
      | tup ps a vs its ha r v1 p1=>exact ⟨EqAt.str_tuple _ _ p1 hu0,RcAt.str_tuple _ _ p1 hu0,RcNeAt.str_tuple _ _ p1 hu0⟩
      | lst p ps a vs its h r v1 p1=>rcases h with rfl | rfl <;> exact ⟨EqAt.str_list _ _ p1 hu0,RcAt.str_list _ _ p1 hu0,RcNeAt.str_list _ _ p1 hu0⟩
    | tup ps a vs its ha r v1 p1=>cases k2 with
      | non=>exact ⟨EqAt.tuple_none p1 hu0,RcAt.tuple_none p1 hu0,RcNeAt.tuple_none p1 hu0⟩
      | bl b=>exact ⟨EqAt.tuple_bool _ p1 hu0,RcAt.tuple_bool _ p1 hu0,RcNeAt.tuple_bool _ p1 hu0⟩
      | int i t=>exact ⟨EqAt.tuple_int _ _ p1 hu0,RcAt.tuple_int _ _ p1 hu0,RcNeAt.tuple_int _ _ p1 hu0⟩
      | str i t=>exact ⟨EqAt.tuple_str _ _ p1 hu0,RcAt.tuple_str _ _ p1 hu0,RcNeAt.tuple_str _ _ p1 hu0⟩
      | tup qs b us its2 hb r2 v2 p2=>
        have l1:its.toArray.size=ps.length:=by rw [List.size_toArray,<- v1.length,r.length]
        have l2:its2.toArray.size=qs.length:=by rw [List.size_toArray,<- v2.length,r2.length]
        have he:∀ j (h1:j < its.toArray.size) (h2:j < its2.toArray.size),EqAt A.in1 s its.toArray[j] its2.toArray[j] (peq (ps.getD j .non) (qs.getD j .non)):=fun j h1 h2=>by
          obtain ⟨x1,a1,b1⟩:=getD_of r v1 (j:=j) (by simpa using h1)
          obtain ⟨x2,a2,b2⟩:=getD_of r2 v2 (j:=j) (by simpa using h2)
          exact (ih I (good_getD gp j (by omega)) (good_getD gq j (by omega)) hin a1 b1 a2 b2).1
        have rc:=RcAt.tuples p1 p2 hu0 he
        have rn:=RcNeAt.tuples p1 p2 hu0 he
        rw [l1,l2,peqL_range] at rc rn
        refine ⟨?_,rc,rn⟩
        by_cases e:a=b
        · subst e
          have:peqL ps qs=true:=by
            rw [ha] at hb; cases hb
            exact repL_same gp gq r r2
          show EqAt A s _ _ (peqL ps qs)
          rw [this]
          exact EqAt.same _
        · exact EqAt.of_refs e rc
      | lst q qs b us its2 h r2 v2 p2=>rcases h with rfl | rfl <;> exact ⟨EqAt.tuple_list p1 p2 hu0,RcAt.tuple_list p1 p2 hu0,RcNeAt.tuple_list p1 p2 hu0⟩
    | lst p ps a vs its h r v1 p1=>cases k2 with
      | non=>rcases h with rfl | rfl <;> exact ⟨EqAt.list_none p1 hu0,RcAt.list_none p1 hu0,RcNeAt.list_none p1 hu0⟩
      | bl b=>rcases h with rfl | rfl <;> exact ⟨EqAt.list_bool _ p1 hu0,RcAt.list_bool _ p1 hu0,RcNeAt.list_bool _ p1 hu0⟩
      | int i t=>rcases h with rfl | rfl <;> exact ⟨EqAt.list_int _ _ p1 hu0,RcAt.list_int _ _ p1 hu0,RcNeAt.list_int _ _ p1 hu0⟩
      | str i t=>rcases h with rfl | rfl <;> exact ⟨EqAt.list_str _ _ p1 hu0,RcAt.list_str _ _ p1 hu0,RcNeAt.list_str _ _ p1 hu0⟩
      | tup qs b us its2 hb r2 v2 p2=>rcases h with rfl | rfl <;> exact ⟨EqAt.list_tuple p1 p2 hu0,RcAt.list_tuple p1 p2 hu0,RcNeAt.list_tuple p1 p2 hu0⟩
      | lst q qs b us its2 h2 r2 v2 p2=>
        have l1:its.toArray.size=ps.length:=by rw [List.size_toArray,<- v1.length,r.length]
        have l2:its2.toArray.size=qs.length:=by rw [List.size_toArray,<- v2.length,r2.length]
        have gp':ps.all (good n)=true:=by rcases h with rfl | rfl <;> exact gp
        have gq':qs.all (good n)=true:=by rcases h2 with rfl | rfl <;> exact gq
        have ep:peq p q=peqL ps qs:=by rcases h with rfl | rfl <;> rcases h2 with rfl | rfl <;> rfl
        have he:∀ j (h1:j < its.toArray.size) (h2:j < its2.toArray.size),EqAt A.in1 s its.toArray[j] its2.toArray[j] (peq (ps.getD j .non) (qs.getD j .non)):=fun j h1 h2=>by
          obtain ⟨x1,a1,b1⟩:=getD_of r v1 (j:=j) (by simpa using h1)
          obtain ⟨x2,a2,b2⟩:=getD_of r2 v2 (j:=j) (by simpa using h2)
          exact (ih I (good_getD gp' j (by omega)) (good_getD gq' j (by omega)) hin a1 b1 a2 b2).1
        rw [ep]
        have rcn:RcAt A s (.ref a) (.ref b) (peqL ps qs)/\RcNeAt A s (.ref a) (.ref b) (!peqL ps qs):=by
          by_cases e:ps.length=qs.length
          · have rc:=RcAt.lists p1 p2 (by rw [l1,l2,e]) hu0 he
            have rn:=RcNeAt.lists p1 p2 (by rw [l1,l2,e]) hu0 he
            rw [l1,<- peqL_all e] at rc rn
            exact ⟨rc,rn⟩
          · have e':(its.toArray.size != its2.toArray.size)=true:=by rw [l1,l2]; simpa using e
            rw [peqL_len e]
            exact ⟨RcAt.lists_lengths p1 p2 e' hu0,RcNeAt.lists_lengths p1 p2 e' hu0⟩
        refine ⟨?_,rcn.1,rcn.2⟩
        by_cases e:a=b
        · subst e
          have eq1:peq p q=true:=by
            have rp':=rp
            have rq':=rq
            have xa:x=.ref a:=by
              rcases h with rfl | rfl <;> (obtain ⟨b',_,rfl,_⟩:=rp; cases ru; rfl)
            have ya:y=.ref a:=by
              rcases h2 with rfl | rfl <;> (obtain ⟨b',_,rfl,_⟩:=rq; cases rv; rfl)
            subst xa; subst ya
            exact rep_same gp gq rp rq
          rw [<- ep,eq1]
          exact EqAt.same _
        · exact EqAt.of_refs e rcn.1
end
end Sm
namespace Sm
open PySem PySem.Spec L2
def lim:Nat:=1000000
theorem lim_le:lim<=sizeLine:=by decide
theorem le_lim {n:Nat} (h:n<=lim):n<=sizeLine:=Nat.le_trans h lim_le
def lstOf (st:Store):PV->Option (List PV)
  | .lst xs=>some xs
  | .ref i=>match st[i]? with
    | some (.lst xs)=>some xs
    | _=>none
  | _=>none
def listOf (st:Store):PV->Option (List PV)
  | .fro xs=>some xs
  | p=>lstOf st p
def seqOf (st:Store):PV->Option (List PV)
  | .tup xs=>some xs
  | p=>listOf st p
def der (st:Store):PV->PV
  | .ref i=>match st[i]? with
    | some (.lst xs)=>.lst xs
    | _=>.ref i
  | p=>p
section
variable {H:Hp} {ρ:Tk} {st:Store} {p:PV} {v:V} {xs:List PV}
theorem lst_at (R:Rel H ρ st) (r:Rep H ρ p v) (e:lstOf st p=some xs):∃ a vs,v=.ref a/\H a=some (.lst vs)/\RepL H ρ xs vs:=by
  cases p with
  | lst ys=>
    obtain ⟨a,vs,e1,e2,_,e3⟩:=r
    cases e
    exact ⟨a,vs,e1,e2,e3⟩
  | ref i=>
    obtain ⟨a,e1,e2⟩:=r
    simp only [lstOf] at e
    split at e
    · rename_i ys hs
      cases e
      obtain ⟨b,vs,f1,f2,f3⟩:=R.lst hs
      rw [e1] at f1; cases f1
      exact ⟨a,vs,e2,f2,f3⟩
    · cases e
  | _=>cases e
theorem list_at (R:Rel H ρ st) (r:Rep H ρ p v) (e:listOf st p=some xs):∃ a vs,v=.ref a/\Rd H a (.lst vs)/\RepL H ρ xs vs:=by
  cases p with
  | fro ys=>
    obtain ⟨a,vs,e1,e2,_,e3⟩:=r
    cases e
    exact ⟨a,vs,e1,e2,e3⟩
  | _=>
    obtain ⟨a,vs,e1,e2,e3⟩:=lst_at R r e
    exact ⟨a,vs,e1,.inl e2,e3⟩
theorem seq_at {K:PySem.W.Frag} (R:Rel H ρ st) (r:Rep H ρ p v) (e:seqOf st p=some xs):∃ (t:Bool) (a:Addr) (vs:List V),v=.ref a/\SqK K t H a vs/\RepL H ρ xs vs:=by
  cases p with
  | tup ys=>
    obtain ⟨a,vs,e1,e2,_,e3⟩:=r
    cases e
    exact ⟨true,a,vs,e1,show SqT K H a vs from SqT.of e2,e3⟩
  | _=>
    obtain ⟨a,vs,e1,e2,e3⟩:=list_at R r e
    exact ⟨false,a,vs,e1,show SqL K H a vs from .inl e2,e3⟩
theorem sqK_or {K:PySem.W.Frag} {t:Bool} {a:Addr} {vs:List V} (h:SqK K t H a vs):SqL K H a vs\/SqT K H a vs:=by
  cases t with
  | true=>exact .inr h
  | false=>exact .inl h
mutual
theorem rep_nil:∀ {n:Nat} {q:PV} {u:V},good n q=true->Rep H ρ q u->Rep H Tk.nil q u
  | _,.non,_,_,r=>r
  | _,.bl _,_,_,r=>r
  | _,.int _,_,_,r=>r
  | _,.str _,_,_,r=>r
  | 0,.tup _,_,g,_=>by cases g
  | 0,.lst _,_,g,_=>by cases g
  | 0,.fro _,_,g,_=>by cases g
  | n + 1,.tup _,_,g,⟨a,vs,e,h,_,r⟩=>⟨a,vs,e,h,Tk.not_nil _,repL_nil g r⟩
  | n + 1,.lst _,_,g,⟨a,vs,e,h,_,r⟩=>⟨a,vs,e,h,Tk.not_nil _,repL_nil g r⟩
  | n + 1,.fro _,_,g,⟨a,vs,e,h,_,r⟩=>⟨a,vs,e,h,Tk.not_nil _,repL_nil g r⟩
  | 0,.ref _,_,g,_=>by cases g
  | _ + 1,.ref _,_,g,_=>by cases g
  | 0,.dic,_,g,_=>by cases g
  | _ + 1,.dic,_,g,_=>by cases g
theorem repL_nil:∀ {n:Nat} {qs:List PV} {us:List V},qs.all (good n)=true->RepL H ρ qs us->RepL H Tk.nil qs us
  | _,[],_,_,r=>r
  | n,q :: qs,_,g,⟨v,r,e,h1,h2⟩=>by
    rw [List.all_cons,Bool.and_eq_true] at g
    exact ⟨v,r,e,rep_nil g.1 h1,repL_nil g.2 h2⟩
end
theorem der_rep (R:Rel H ρ st) {n:Nat} (g:good n (der st p)=true) (r:Rep H ρ p v):Rep H Tk.nil (der st p) v:=by
  cases p with
  | ref i=>
    obtain ⟨a,e1,e2⟩:=r
    simp only [der] at g ⊢
    split at g
    · rename_i ys hs
      obtain ⟨b,vs,f1,f2,f3⟩:=R.lst hs
      rw [e1] at f1; cases f1
      cases n with
      | zero=>cases g
      | succ n=>exact ⟨a,vs,e2,f2,Tk.not_nil _,repL_nil g f3⟩
    · cases n <;> cases g
  | _=>exact rep_nil g r
theorem new_tup {mg:Str->Option Value} {E:XK} {Q:VK} {ps:List PV} {vs:List V} (R:Rel H ρ st) (h:Acc mg E H ρ (QV Q) (.ok (.tup ps) st)) (r:RepL H ρ ps vs):∀ p,H p=none->Q (.ref p) (upd H p (.tup vs)):=
  fun p hp=>h _ ρ (Ext.add hp) (R.add hp) _ ⟨p,vs,rfl,upd_same,R.fresh hp,r.ext (Ext.add hp)⟩
theorem new_lst {mg:Str->Option Value} {E:XK} {Q:VK} {ps:List PV} {vs:List V} (R:Rel H ρ st) (h:Acc mg E H ρ (QV Q) (.ok (.lst ps) st)) (r:RepL H ρ ps vs):∀ p,H p=none->Q (.ref p) (upd H p (.lst vs)):=
  fun p hp=>h _ ρ (Ext.add hp) (R.add hp) _ ⟨p,vs,rfl,upd_same,R.fresh hp,r.ext (Ext.add hp)⟩
theorem now {mg:Str->Option Value} {E:XK} {Q:VK} {p:PV} (R:Rel H ρ st) (h:Acc mg E H ρ (QV Q) (.ok p st)) (r:Rep H ρ p v):Q v H:=h H ρ (Ext.refl _ _) R v r
end
section
variable {X:Cx} {E:XK} {pos:Pos}
def mVar (i:Nat):ME:=fun Γ st=>match Γ[i]? with
  | some (some p)=>.ok p st
  | _=>.stuck
def mC (p:PV):ME:=fun _ st=>.ok p st
theorem se_var (i:Nat) {x:Str} (hN:X.N[i]?=some x:=by rfl) (hv:Vis X.env.scope x:=by first | exact Or.inl rfl | exact Or.inr (Or.inl rfl) | exact Or.inr (Or.inr rfl)) (hd:(x == ("__debug__" : Str))=false:=by decide)
    (hcd:(x == ("__classdict__" : Str))=false:=by decide):SimE X E (.Name x pos) (mVar i):=⟨fun Γ σ H ρ st Q R G h=>WE.of (pe_var hN hv hd hcd) (by
  unfold mVar at h
  split at h
  · rename_i p e
    obtain ⟨v,e1,r⟩:=G.2 i p e
    exact ⟨v,e1,now R h r⟩
  · exact h.elim)⟩
theorem se_int {i:Int} {j:Nat}:SimE X E (.Constant (.int i) j pos) (mC (.int i)):=⟨fun Γ σ H ρ st Q R G h=>WE.of pe_int (now R h rfl)⟩
theorem se_bl {b:Bool} {j:Nat}:SimE X E (.Constant (.bool b) j pos) (mC (.bl b)):=⟨fun Γ σ H ρ st Q R G h=>WE.of pe_bl (now R h rfl)⟩
theorem se_non {j:Nat}:SimE X E (.Constant .none j pos) (mC .non):=⟨fun Γ σ H ρ st Q R G h=>WE.of pe_non (now R h rfl)⟩
theorem se_str {x:Str} {j:Nat}:SimE X E (.Constant (.str x) j pos) (mC (.str x)):=⟨fun Γ σ H ρ st Q R G h=>WE.of pe_str (now R h rfl)⟩
theorem se_gint {x:Str} {i:Int} {t:Tok} (hg:Gl X x) (hm:X.mg x=some (.int i t)) (hd:(x == ("__debug__" : Str))=false:=by decide):SimE X E (.Name x pos) (mC (.int i)):=
  ⟨fun Γ σ H ρ st Q R G h=>WE.of (pe_glob hg hm (v:=.int i) ⟨t,rfl⟩ hd) (now R h rfl)⟩
variable {a b c:Expr} {ma mb mc:ME}
def mOp (o:OP) (ma mb:ME):ME:=fun Γ st=>(ma Γ st).bind fun x st1=>(mb Γ st1).bind fun y st2=>o st2 x y
theorem bin_run {f:Value->Value->Sem Value} {o:OP} {Γ:Gam} {σ:St} {H:Hp} {ρ:Tk} {st:Store} {P:PV->Store->Hp->Tk->Prop} {Q:VK} (ho:OpS X E f o) (ha:SimE X E a ma) (hb:SimE X E b mb) (R:Rel H ρ st) (G:EnvR H ρ Γ σ) (h:Acc X.mg E H ρ P (mOp o ma mb Γ st))
    (k:∀ p st1 H1 ρ1 v,Ext H ρ H1 ρ1->Rel H1 ρ1 st1->Rep H1 ρ1 p v->P p st1 H1 ρ1->Q v H1):tOp (WO X f) (WE X a) (WE X b) σ H Q:=by
  refine ha.use R G h.bind fun p st1 H1 ρ1 v x1 R1 G1 r1 h1=>?_
  refine hb.use R1 G1 h1.bind fun q st2 H2 ρ2 u x2 R2 G2 r2 h2=>?_
  exact ho.use R2 (r1.ext x2) r2 h2 fun w st3 H3 ρ3 z x3 R3 r3 p3=>k w st3 H3 ρ3 z (x1.trans (x2.trans x3)) R3 r3 p3
theorem se_op {op:Operator} {o:OP} (ho:OpS X E (binaryOp op) o) (ha:SimE X E a ma) (hb:SimE X E b mb):SimE X E (.BinOp a op b pos) (mOp o ma mb):=
  ⟨fun Γ σ H ρ st Q R G h=>WE.of (pe_op op_w pe_w pe_w) (bin_run ho ha hb R G h fun _ _ _ _ v _ _ r q=>q v r)⟩
theorem se_cmp {op:CmpOp} {o:OP} (ho:OpS X E (compareOp op) o) (ha:SimE X E a ma) (hb:SimE X E b mb) (hm:behindInMarks op b=false:=by first | exact nomark _ | rfl):SimE X E (.Compare a [op] [b] pos) (mOp o ma mb):=
  ⟨fun Γ σ H ρ st Q R G h=>WE.of (pe_cmpR op_w pe_w pe_w hm) (bin_run ho ha hb R G h fun _ _ _ _ v _ _ r q=>q v r)⟩
def asB (p:PV) (st:Store):Res Bool:=match p with
  | .bl k=>.ok k st
  | _=>.stuck
def toB (m:ME):Gam->Store->Res Bool:=fun Γ st=>(m Γ st).bind asB
theorem acc_b {mg:Str->Option Value} {H:Hp} {ρ:Tk} {st:Store} {p:PV} {v:V} {P:Bool->Store->Hp->Tk->Prop} (R:Rel H ρ st) (r:Rep H ρ p v) (h:Acc mg E H ρ P (asB p st)):∃ k,v=.bl k/\P k st H ρ:=by
  cases p with
  | bl k=>exact ⟨k,r,h H ρ (Ext.refl _ _) R⟩
  | _=>exact h.elim
theorem st_cmp {op:CmpOp} {o:OP} (ho:OpS X E (compareOp op) o) (ha:SimE X E a ma) (hb:SimE X E b mb) (hm:behindInMarks op b=false:=by first | exact nomark _ | rfl):SimT X E (.Compare a [op] [b] pos) (toB (mOp o ma mb)):=
  ⟨fun Γ σ H ρ st Q R G h=>WT.of (pt_cmpR op_w pe_w pe_w hm) (bin_run ho ha hb R G h.bind fun _ st1 _ _ v _ R1 r q=>by
    obtain ⟨k,e,z⟩:=acc_b R1 r q
    exact ⟨k,e,z⟩)⟩
theorem st_val {e:Expr} {m:ME} (h:SimE X E e m) (he:∀ whole,isTrue e X.env whole=(do let v <- whole; standAt e.pos; holding [v] (truthy v)):=by intro _; rfl):SimT X E e (toB m):=
  ⟨fun Γ σ H ρ st Q R G hq=>WT.of (pt_val pe_w he) (h.use R G hq.bind fun p st1 H1 ρ1 v x1 R1 G1 r1 h1=>by
    obtain ⟨k,e,z⟩:=acc_b R1 r1 h1
    exact ⟨k,e,z⟩)⟩
def mChain (o o':OP) (ma mb mc:ME):ME:=fun Γ st=>(ma Γ st).bind fun x st1=>(mb Γ st1).bind fun y st2=>(o st2 x y).bind fun k st3=>match k with
  | .bl true=>(mc Γ st3).bind fun z st4=>o' st4 y z
  | .bl false=>.ok (.bl false) st3
  | _=>.stuck
theorem chain_run {op op':CmpOp} {o o':OP} {Γ:Gam} {σ:St} {H:Hp} {ρ:Tk} {st:Store} {P:PV->Store->Hp->Tk->Prop} {Q:VK} (ho:OpS X E (compareOp op) o) (ho':OpS X E (compareOp op') o') (ha:SimE X E a ma) (hb:SimE X E b mb) (hc:SimE X E c mc) (R:Rel H ρ st) (G:EnvR H ρ Γ σ) (h:Acc X.mg E H ρ P (mChain o o' ma mb mc Γ st))
    (k:∀ p st1 H1 ρ1 v,Ext H ρ H1 ρ1->Rel H1 ρ1 st1->Rep H1 ρ1 p v->P p st1 H1 ρ1->Q v H1):tChain (WO X (compareOp op)) (WO X (compareOp op')) (WE X a) (WE X b) (WE X c) σ H Q:=by
  refine ha.use R G h.bind fun p st1 H1 ρ1 v x1 R1 G1 r1 h1=>?_
  refine hb.use R1 G1 h1.bind fun q st2 H2 ρ2 u x2 R2 G2 r2 h2=>?_
  refine ho.use R2 (r1.ext x2) r2 h2.bind fun w st3 H3 ρ3 z x3 R3 r3 h3=>?_
  cases w with
  | bl b=>
    refine ⟨b,r3,?_⟩
    cases b with
    | true=>
      rw [if_pos rfl]
      refine hc.use R3 (G2.ext x3) h3.bind fun y st4 H4 ρ4 yv x4 R4 G4 r4 h4=>?_
      exact ho'.use R4 (r2.ext (x3.trans x4)) r4 h4 fun w st5 H5 ρ5 z x5 R5 r5 p5=>k w st5 H5 ρ5 z (x1.trans (x2.trans (x3.trans (x4.trans x5)))) R5 r5 p5
    | false=>
      rw [if_neg Bool.false_ne_true]
      exact k (.bl false) _ H3 ρ3 _ (x1.trans (x2.trans x3)) R3 rfl (h3 H3 ρ3 (Ext.refl _ _) R3)
  | _=>exact h3.elim
theorem se_chain {op op':CmpOp} {o o':OP} (ho:OpS X E (compareOp op) o) (ho':OpS X E (compareOp op') o') (ha:SimE X E a ma) (hb:SimE X E b mb) (hc:SimE X E c mc) (hm:lastMarks [op,op'] [b,c]=false:=by with_unfolding_all rfl):SimE X E (.Compare a [op,op'] [b,c] pos) (mChain o o' ma mb mc):=
  ⟨fun Γ σ H ρ st Q R G h=>WE.of (pe_chain op_w op_w pe_w pe_w pe_w hm) (chain_run ho ho' ha hb hc R G h fun _ _ _ _ v _ _ r q=>q v r)⟩
theorem st_chain {op op':CmpOp} {o o':OP} (ho:OpS X E (compareOp op) o) (ho':OpS X E (compareOp op') o') (ha:SimE X E a ma) (hb:SimE X E b mb) (hc:SimE X E c mc) (hm:lastMarks [op,op'] [b,c]=false:=by with_unfolding_all rfl):SimT X E (.Compare a [op,op'] [b,c] pos) (toB (mChain o o' ma mb mc)):=
  ⟨fun Γ σ H ρ st Q R G h=>WT.of (pt_chain op_w op_w pe_w pe_w pe_w hm) (chain_run ho ho' ha hb hc R G h.bind fun _ st1 _ _ v _ R1 r q=>by
    obtain ⟨k,e,z⟩:=acc_b R1 r q
    exact ⟨k,e,z⟩)⟩
variable {rest:List Expr}
def mAnd (ma mb:ME):ME:=fun Γ st=>(ma Γ st).bind fun x st1=>match x with
  | .bl true=>mb Γ st1
  | .bl false=>.ok (.bl false) st1
  | _=>.stuck
def mOr (ma mb:ME):ME:=fun Γ st=>(ma Γ st).bind fun x st1=>match x with
  | .bl true=>.ok (.bl true) st1
  | .bl false=>mb Γ st1
  | _=>.stuck
def mNot (ma:ME):ME:=fun Γ st=>(ma Γ st).bind fun x st1=>match x with
  | .bl k=>.ok (.bl (!k)) st1
  | _=>.stuck
theorem se_one {op:BoolOp} (ha:SimE X E a ma):SimE X E (.BoolOp op [a] pos) ma:=⟨fun Γ σ H ρ st Q R G h=>WE.of (pe_one pe_w) (ha.use R G h fun _ _ _ _ v _ _ _ r q=>q v r)⟩
theorem se_and (ha:SimE X E a ma) (hb:SimE X E (.BoolOp .And (b :: rest) pos) mb):SimE X E (.BoolOp .And (a :: b :: rest) pos) (mAnd ma mb):=
  ⟨fun Γ σ H ρ st Q R G h=>WE.of (pe_and pe_w pe_w) (ha.use R G h.bind fun p st1 H1 ρ1 v x1 R1 G1 r1 h1=>by
    cases p with
    | bl k=>
      refine ⟨k,r1,?_⟩
      cases k with
      | true=>rw [if_pos rfl]; exact hb.use R1 G1 h1 fun _ _ _ _ v _ _ _ r q=>q v r
      | false=>rw [if_neg Bool.false_ne_true]; exact now R1 h1 rfl
    | _=>exact h1.elim)⟩
theorem se_or (ha:SimE X E a ma) (hb:SimE X E (.BoolOp .Or (b :: rest) pos) mb):SimE X E (.BoolOp .Or (a :: b :: rest) pos) (mOr ma mb):=
  ⟨fun Γ σ H ρ st Q R G h=>WE.of (pe_or pe_w pe_w) (ha.use R G h.bind fun p st1 H1 ρ1 v x1 R1 G1 r1 h1=>by
    cases p with
    | bl k=>
      refine ⟨k,r1,?_⟩
      cases k with
      | true=>rw [if_pos rfl]; exact now R1 h1 rfl
      | false=>rw [if_neg Bool.false_ne_true]; exact hb.use R1 G1 h1 fun _ _ _ _ v _ _ _ r q=>q v r
    | _=>exact h1.elim)⟩
theorem se_not (ha:SimE X E a ma):SimE X E (.UnaryOp .Not a pos) (mNot ma):=
  ⟨fun Γ σ H ρ st Q R G h=>WE.of (pe_not pe_w) (ha.use R G h.bind fun p st1 H1 ρ1 v x1 R1 G1 r1 h1=>by
    cases p with
    | bl k=>exact ⟨k,r1,now R1 h1 rfl⟩
    | _=>exact h1.elim)⟩
def mNeg (ma:ME):ME:=fun Γ st=>(ma Γ st).bind fun x st1=>match x with
  | .int k=>.ok (.int (-k)) st1
  | _=>.stuck
theorem se_neg (ha:SimE X E a ma):SimE X E (.UnaryOp .USub a pos) (mNeg ma):=
  ⟨fun Γ σ H ρ st Q R G h=>WE.of (pe_un un_neg pe_w) (ha.use R G h.bind fun p st1 H1 ρ1 v x1 R1 G1 r1 h1=>by
    cases p with
    | int k=>exact ⟨k,r1,now R1 h1 rfl⟩
    | _=>exact h1.elim)⟩
abbrev MT:=Gam->Store->Res Bool
variable {ta tb:MT}
def tAndM (ta tb:MT):MT:=fun Γ st=>(ta Γ st).bind fun k st1=>if k=true then tb Γ st1 else .ok false st1
def tOrM (ta tb:MT):MT:=fun Γ st=>(ta Γ st).bind fun k st1=>if k=true then .ok true st1 else tb Γ st1
def tNotM (ta:MT):MT:=fun Γ st=>(ta Γ st).bind fun k st1=>.ok (!k) st1
theorem SimW.t {e:Expr} (h:SimW X E e ta):SimT X E e ta:=⟨fun Γ σ H ρ st Q R G q pins s I=>h.run Γ σ H ρ st Q R G q _ pins s I⟩
theorem sw_and1 (ha:SimT X E a ta):SimW X E (.BoolOp .And [a] pos) ta:=⟨fun Γ σ H ρ st Q R G h=>WW.of (pw_and1 pt_w) (ha.use R G h fun _ _ _ _ _ _ _ q=>q)⟩
theorem sw_or1 (ha:SimT X E a ta):SimW X E (.BoolOp .Or [a] pos) ta:=⟨fun Γ σ H ρ st Q R G h=>WW.of (pw_or1 pt_w) (ha.use R G h fun _ _ _ _ _ _ _ q=>q)⟩
theorem sw_and (ha:SimT X E a ta) (hb:SimW X E (.BoolOp .And (b :: rest) pos) tb):SimW X E (.BoolOp .And (a :: b :: rest) pos) (tAndM ta tb):=
  ⟨fun Γ σ H ρ st Q R G h=>WW.of (pw_and pt_w pw_w) (ha.use R G h.bind fun k st1 H1 ρ1 x1 R1 G1 h1=>by
    cases k with
    | true=>rw [if_pos rfl] at h1 ⊢; exact hb.use R1 G1 h1 fun _ _ _ _ _ _ _ q=>q
    | false=>rw [if_neg Bool.false_ne_true] at h1 ⊢; exact h1 H1 ρ1 (Ext.refl _ _) R1)⟩
theorem sw_or (ha:SimT X E a ta) (hb:SimW X E (.BoolOp .Or (b :: rest) pos) tb):SimW X E (.BoolOp .Or (a :: b :: rest) pos) (tOrM ta tb):=
  ⟨fun Γ σ H ρ st Q R G h=>WW.of (pw_or pt_w pw_w) (ha.use R G h.bind fun k st1 H1 ρ1 x1 R1 G1 h1=>by
    cases k with
    | true=>rw [if_pos rfl] at h1 ⊢; exact h1 H1 ρ1 (Ext.refl _ _) R1
    | false=>rw [if_neg Bool.false_ne_true] at h1 ⊢; exact hb.use R1 G1 h1 fun _ _ _ _ _ _ _ q=>q)⟩
theorem st_not (ha:SimT X E a ta):SimT X E (.UnaryOp .Not a pos) (tNotM ta):=
  ⟨fun Γ σ H ρ st Q R G h=>WT.of (pt_not pt_w) (ha.use R G h.bind fun k st1 H1 ρ1 x1 R1 G1 h1=>h1 H1 ρ1 (Ext.refl _ _) R1)⟩
variable {e:Expr} {es:List Expr} {m:ME} {mr:Gam->Store->Res (List PV)}
def mNil:Gam->Store->Res (List PV):=fun _ st=>.ok [] st
def mCons (m:ME) (mr:Gam->Store->Res (List PV)):Gam->Store->Res (List PV):=fun Γ st=>(m Γ st).bind fun p st1=>(mr Γ st1).bind fun ps st2=>.ok (p :: ps) st2
theorem sa_nil:SimA X E [] mNil:=⟨fun Γ σ H ρ st Q R G h=>WA.of pa_nil (h H ρ (Ext.refl _ _) R [] rfl)⟩
theorem sa_cons (ha:SimE X E e m) (hr:SimA X E es mr) (hs:starEach (e :: es) X.env=(false,eval e X.env) :: starEach es X.env:=by rfl):SimA X E (e :: es) (mCons m mr):=
  ⟨fun Γ σ H ρ st Q R G h=>WA.of (pa_cons pe_w pa_w hs) (ha.use R G h.bind fun p st1 H1 ρ1 v x1 R1 G1 r1 h1=>hr.use R1 G1 h1.bind fun ps st2 H2 ρ2 vs x2 R2 G2 r2 h2=>
    h2 H2 ρ2 (Ext.refl _ _) R2 (v :: vs) ⟨v,vs,rfl,r1.ext x2,r2⟩)⟩
def mTup (mr:Gam->Store->Res (List PV)):ME:=fun Γ st=>(mr Γ st).bind fun ps st1=>if ps.length<=lim then .ok (.tup ps) st1 else .stuck
def mLst (mr:Gam->Store->Res (List PV)):ME:=fun Γ st=>(mr Γ st).bind fun ps st1=>if ps.length<=lim then .ok (.lst ps) st1 else .stuck
theorem se_tup {k:Nat} (h:SimA X E es mr):SimE X E (.Tuple es k pos) (mTup mr):=
  ⟨fun Γ σ H ρ st Q R G hq=>WE.of (pe_tup pa_w) (h.use R G hq.bind fun ps st1 H1 ρ1 vs x1 R1 G1 r1 h1=>by
    by_cases hl:ps.length<=lim
    · rw [if_pos hl] at h1
      exact ⟨by rw [<- r1.length]; exact le_lim hl,new_tup R1 h1 r1⟩
    · rw [if_neg hl] at h1; exact h1.elim)⟩
theorem se_lst (h:SimA X E es mr):SimE X E (.List es pos) (mLst mr):=
  ⟨fun Γ σ H ρ st Q R G hq=>WE.of (pe_lst pa_w) (h.use R G hq.bind fun ps st1 H1 ρ1 vs x1 R1 G1 r1 h1=>by
    by_cases hl:ps.length<=lim
    · rw [if_pos hl] at h1
      exact ⟨by rw [<- r1.length]; exact le_lim hl,new_lst R1 h1 r1⟩
    · rw [if_neg hl] at h1; exact h1.elim)⟩
end
end Sm
namespace HT
open PySem PySem.Spec PyProof.Rows
section
variable {prog:Program} {w:World} {A:Around} {E:Value->Shared->Prop} {s:Shared}
theorem getItem_tuple_whole {t sl:Addr} {items:Array Value} {vl vu:Value} {lo hi:Option Int} {Q:Value->Shared->Prop} (ht:IsTup s.heap t items) (hs:s.heap.IsSliceOf sl vl vu .none) (pl:IsPart vl lo) (pu:IsPart vu hi)
    (hw:sIx items.size 0 lo=0/\sIx items.size items.size hi=items.size)
    (h:Q (.ref t) s):wpAny (model prog w) A (getItem (.ref t) (.ref sl)) Q E s:=by
  obtain ⟨os,hos,hcs,hds⟩:=id hs
  have hTs:s.TypeIs (.ref sl) "slice" := ⟨os,hos,hcs⟩
  unfold getItem
  try with_reducible refine wpAny_holding ?_
  first | refine wpAny_bind (wpAny_pure ?_) | skip
  refine wpAny_bind (wpAny_sequenceKey ht.typeIs (by decide) ?_)
  refine wpAny_bind (wpAny_callSpecial?_slot (name:=Str.ofString "__getitem__") ht.typeIs PyProof.Rows.slot_tuple_getitem
    (wpAny_call_entry PyProof.Rows.slot_tuple_getitem ht.typeIs entry_tuple_getitem ?_ (args_tuple_getitem _ _)))
  show wpAny _ _ (Builtin.Tuple.tupleItemsOf (.ref t) >>= _) _ _ s
  refine wpAny_bind (tupleItemsOf_ ht ?_)
  refine wpAny_bind (wpAny_typeOf hTs ?_)
  rw [if_pos (by decide)]
  refine wpAny_bind (sliceApplied_gen hs pl pu ?_)
  have hyes:(((sIx items.size 0 lo:Nat):Int) == 0 && (1:Int) == 1 && (sIx items.size items.size hi - sIx items.size 0 lo) == items.size)=true:=by
    rw [hw.1,hw.2]; simp
  show wpAny _ _ (if (((sIx items.size 0 lo:Nat):Int) == 0 && (1:Int) == 1 && (sIx items.size items.size hi - sIx items.size 0 lo) == items.size)=true then _ else _) _ _ s
  rw [if_pos hyes]
  refine wpAny_bind (wpAny_bind (wpAny_typeOf ht.typeIs (wpAny_pure ?_)))
  rw [if_pos (by rfl)]
  exact wpAny_bind (wpAny_rule (wpAny_pure ⟨_,rfl,wpAny_pure h⟩))
end
end HT
namespace L2
open PySem PySem.Spec PyProof.Rows
def rSlW (K:PySem.W.Frag):V->Option Int->Option Int->Hp->VK->Prop:=fun x lo hi H Q=>∃ a xs,x=.ref a/\SqT K H a xs /\
  (HT.sIx xs.length 0 lo=0/\HT.sIx xs.length xs.length hi=xs.length)/\Q (.ref a) H
theorem sl_whole {X:Cx}:SlR X (rSlW X.K):=by
  intro pins s σ H x v vl vu lo hi sl Q I rx hs pl pu h
  obtain ⟨a,xs,rfl,hx,hw,q⟩:=h
  cases rx
  obtain ⟨its,r,ht,hz⟩:=I.tuple hx
  have hlen:its.toArray.size=xs.length:=by rw [List.size_toArray]; exact r.length.symm
  refine ⟨"tuple",_,PyProof.Rows.slot_tuple_getitem.lookup,ht.typeIs,?_⟩
  exact HT.getItem_tuple_whole ht hs pl pu (by rw [hlen]; exact hw) ⟨.ref a,H,I,rfl,q⟩
end L2
namespace Sm
open PySem PySem.Spec L2
section
variable {X:Cx} {E:XK} {pos:Pos}
def oI (g:Int->Int->PV):OP:=fun st p q=>match p,q with
  | .int a,.int b=>.ok (g a b) st
  | _,_=>.stuck
def oAdd:OP:=fun st p q=>match p,q with
  | .int a,.int b=>.ok (.int (a + b)) st
  | .str a,.str b=>if a.length + b.length<=lim then .ok (.str (a ++ b)) st else .stuck
  | .tup xs,.tup ys=>if xs.length + ys.length<=lim then .ok (.tup (xs ++ ys)) st else .stuck
  | p,q=>match lstOf st p,lstOf st q with
    | some xs,some ys=>if xs.length + ys.length<=lim then .ok (.lst (xs ++ ys)) st else .stuck
    | _,_=>.stuck
theorem os_add:OpS X E (binaryOp .Add) oAdd:=⟨fun H ρ st p q x y Q R rp rq h=>by
  unfold oAdd at h
  split at h
  · cases rp; cases rq
    exact WO.of op_add ⟨_,_,rfl,rfl,now R h rfl⟩
  · cases rp; cases rq
    split at h
    · rename_i hl
      exact WO.of op_add_str ⟨_,_,rfl,rfl,le_lim hl,now R h rfl⟩
    · exact h.elim
  · split at h
    · rename_i xs ys hl
      obtain ⟨a,vs,rfl,ha,na,ra⟩:=rp
      obtain ⟨b,us,rfl,hb,nb,rb⟩:=rq
      refine WO.of op_cat2 ?_
      by_cases e:xs=[]
      · subst e
        cases ra
        exact .inr ⟨a,b,us,rfl,rfl,SqT.of ha,SqT.of hb,now R h ⟨b,us,rfl,hb,nb,rb⟩⟩
      · refine .inl ⟨a,b,vs,us,rfl,rfl,SqT.of ha,SqT.of hb,fun z=>e ?_,by rw [<- ra.length,<- rb.length]; exact le_lim hl,fun z=>?_,fun z=>new_tup R h (ra.append rb)⟩
        · subst z
          cases xs with
          | nil=>rfl
          | cons _ _=>have:=ra.length; simp at this
        · subst z
          have:ys=[]:=by
            cases ys with
            | nil=>rfl
            | cons _ _=>have:=rb.length; simp at this
          subst this
          rw [List.append_nil] at h
          exact now R h ⟨a,vs,rfl,ha,na,ra⟩
    · exact h.elim
  · split at h
    · rename_i xs ys e1 e2
      split at h
      · rename_i hl
        obtain ⟨a,vs,rfl,ha,ra⟩:=lst_at R rp e1
        obtain ⟨b,us,rfl,hb,rb⟩:=lst_at R rq e2
        exact WO.of op_cat ⟨a,b,vs,us,rfl,rfl,ha,hb,by rw [<- ra.length,<- rb.length]; exact le_lim hl,new_lst R h (ra.append rb)⟩
      · exact h.elim
    · exact h.elim⟩
theorem os_sub:OpS X E (binaryOp .Sub) (oI fun a b=>.int (a - b)):=⟨fun H ρ st p q x y Q R rp rq h=>by
  unfold oI at h
  split at h
  · cases rp; cases rq
    exact WO.of op_sub ⟨_,_,rfl,rfl,now R h rfl⟩
  · exact h.elim⟩
def oMul:OP:=fun st p q=>match p,q with
  | .int a,.int b=>if (-(2 ^ 64) < a/\a < 2 ^ 64)\/(-(2 ^ 64) < b/\b < 2 ^ 64) then .ok (.int (a * b)) st else .stuck
  | .tup xs,.int b=>if xs ≠ []/\1<=b/\xs.length * b.toNat<=4096 then .ok (.tup (List.replicate b.toNat xs).flatten) st else .stuck
  | p,.int b=>match lstOf st p with
    | some xs=>if -(2 ^ 63)<=b/\b < 2 ^ 63/\xs.length * b.toNat<=lim then .ok (.lst (List.replicate b.toNat xs).flatten) st else .stuck
    | none=>.stuck
  | _,_=>.stuck
theorem os_mul:OpS X E (binaryOp .Mult) oMul:=⟨fun H ρ st p q x y Q R rp rq h=>by
  unfold oMul at h
  split at h
  · cases rp; cases rq
    split at h
    · rename_i hc
      exact WO.of op_mul ⟨_,_,rfl,rfl,hc,now R h rfl⟩
    · exact h.elim
  · cases rq
    split at h
    · rename_i xs b hc
      obtain ⟨a,vs,rfl,ha,na,ra⟩:=rp
      refine WO.of op_repT ⟨a,b,vs,rfl,rfl,SqT.of ha,fun z=>hc.1 ?_,hc.2.1,by rw [<- ra.length]; exact hc.2.2,fun z=>?_,fun z=>new_tup R h (ra.rep _)⟩
      · subst z
        cases xs with
        | nil=>rfl
        | cons _ _=>have:=ra.length; simp at this
      · subst z
        have e1:(List.replicate (Int.toNat 1) xs).flatten=xs:=by simp
        rw [e1] at h
        exact now R h ⟨a,vs,rfl,ha,na,ra⟩
    · exact h.elim
  · cases rq
    split at h
    · rename_i xs e1
      split at h
      · rename_i hc
        obtain ⟨a,vs,rfl,ha,ra⟩:=lst_at R rp e1
        exact WO.of op_rep ⟨a,_,vs,rfl,rfl,ha,hc.1,hc.2.1,by rw [<- ra.length]; exact le_lim hc.2.2,new_lst R h (ra.rep _)⟩
      · exact h.elim
    · exact h.elim
  · exact h.elim⟩
def oMod:OP:=fun st p q=>match p,q with
  | .int a,.int b=>if 0 < b then .ok (.int (a % b)) st else .stuck
  | _,_=>.stuck
theorem os_mod:OpS X E (binaryOp .Mod) oMod:=⟨fun H ρ st p q x y Q R rp rq h=>by
  unfold oMod at h
  split at h
  · cases rp; cases rq
    split at h
    · rename_i hc
      exact WO.of op_mod ⟨_,_,rfl,rfl,hc,now R h rfl⟩
    · exact h.elim
  · exact h.elim⟩
def oPow:OP:=fun st p q=>match p,q with
  | .int a,.int b=>if 0<=b/\b<=1000000/\a.natAbs < 2 ^ 64 then .ok (.int (a ^ b.toNat)) st else .stuck
  | _,_=>.stuck
theorem os_pow:OpS X E (binaryOp .Pow) oPow:=⟨fun H ρ st p q x y Q R rp rq h=>by
  unfold oPow at h
  split at h
  · cases rp; cases rq
    split at h
    · rename_i hc
      exact WO.of op_pow ⟨_,_,rfl,rfl,hc,now R h rfl⟩
    · exact h.elim
  · exact h.elim⟩
theorem oI_cmp {op:CmpOp} {g:Int->Int->Bool} (ho:OpR X (compareOp op) (rI0 fun i j=>.bl (g i j))):OpS X E (compareOp op) (oI fun a b=>.bl (g a b)):=⟨fun H ρ st p q x y Q R rp rq h=>by
  unfold oI at h
  split at h
  · cases rp; cases rq
    exact WO.of ho ⟨_,_,rfl,rfl,now R h rfl⟩
  · exact h.elim⟩
theorem os_le:OpS X E (compareOp .LtE) (oI fun a b=>.bl (decide (a<=b))):=oI_cmp op_le
theorem os_gt:OpS X E (compareOp .Gt) (oI fun a b=>.bl (decide (b < a))):=oI_cmp op_gt
theorem os_ge:OpS X E (compareOp .GtE) (oI fun a b=>.bl (decide (b<=a))):=oI_cmp op_ge
def intsOf:List PV->Option (List Int)
  | []=>some []
  | .int i :: ps=>(intsOf ps).map (i :: ·)
  | _ :: _=>none
def blsOf:List PV->Option (List Bool)
  | []=>some []
  | .bl i :: ps=>(blsOf ps).map (i :: ·)
  | _ :: _=>none
theorem bls_map (ns:List Bool):blsOf (ns.map .bl)=some ns:=by
  induction ns with
  | nil=>rfl
  | cons n ns ih=>rw [List.map_cons,blsOf,ih]; rfl
theorem ints_eq:∀ {ps:List PV} {ns:List Int},intsOf ps=some ns->ps=ns.map .int
  | [],ns,h=>by cases h; rfl
  | .int i :: ps,ns,h=>by
    rw [intsOf] at h
    cases e:intsOf ps with
    | none=>rw [e] at h; cases h
    | some ms=>rw [e] at h; cases h; rw [ints_eq e]; rfl
  | .non :: _,_,h | .bl _ :: _,_,h | .str _ :: _,_,h | .tup _ :: _,_,h | .lst _ :: _,_,h | .fro _ :: _,_,h | .ref _ :: _,_,h | .dic :: _,_,h=>by cases h
theorem bls_eq:∀ {ps:List PV} {ns:List Bool},blsOf ps=some ns->ps=ns.map .bl
  | [],ns,h=>by cases h; rfl
  | .bl i :: ps,ns,h=>by
    rw [blsOf] at h
    cases e:blsOf ps with
    | none=>rw [e] at h; cases h
    | some ms=>rw [e] at h; cases h; rw [bls_eq e]; rfl
  | .non :: _,_,h | .int _ :: _,_,h | .str _ :: _,_,h | .tup _ :: _,_,h | .lst _ :: _,_,h | .fro _ :: _,_,h | .ref _ :: _,_,h | .dic :: _,_,h=>by cases h
def oLt:OP:=fun st p q=>match p,q with
  | .int a,.int b=>.ok (.bl (decide (a < b))) st
  | .tup xs,.tup ys=>match intsOf xs,intsOf ys with
    | some ns,some ms=>.ok (.bl (HT.lexLt ns ms)) st
    | _,_=>.stuck
  | _,_=>.stuck
theorem os_lt (hu:X.A.units + 64 < cLine):OpS X E (compareOp .Lt) oLt:=⟨fun H ρ st p q x y Q R rp rq h=>by
  unfold oLt at h
  split at h
  · cases rp; cases rq
    exact WO.of op_lt ⟨_,_,rfl,rfl,now R h rfl⟩
  · split at h
    · rename_i ns ms e1 e2
      obtain ⟨a,vs,rfl,ha,na,ra⟩:=rp
      obtain ⟨b,us,rfl,hb,nb,rb⟩:=rq
      rw [ints_eq e1] at ra
      rw [ints_eq e2] at rb
      rw [ra.toInts] at ha
      rw [rb.toInts] at hb
      exact WO.of (op_ltT (by omega)) ⟨a,b,ns,ms,rfl,rfl,SqT.of ha,SqT.of hb,now R h rfl⟩
    · exact h.elim
  · exact h.elim⟩
def dep:Nat:=12
def oEq:OP:=fun st p q=>if good dep (der st p)=true/\good dep (der st q)=true then .ok (.bl (peq (der st p) (der st q))) st else .stuck
def oNe:OP:=fun st p q=>if good dep (der st p)=true/\good dep (der st q)=true then .ok (.bl (!peq (der st p) (der st q))) st else .stuck
theorem os_eq (hu:X.A.units + 64 < cLine):OpS X E (compareOp .Eq) oEq:=⟨fun H ρ st p q x y Q R rp rq h=>by
  unfold oEq at h
  split at h
  · rename_i g
    intro pins s σ v u I rv ru
    exact (eqAts dep I g.1 g.2 (by unfold dep; omega) (der_rep R g.1 rp) rv (der_rep R g.2 rq) ru).2.1 _ _ _ _ ⟨.bl _,H,I,rfl,now R h rfl⟩
  · exact h.elim⟩
theorem os_ne (hu:X.A.units + 64 < cLine):OpS X E (compareOp .NotEq) oNe:=⟨fun H ρ st p q x y Q R rp rq h=>by
  unfold oNe at h
  split at h
  · rename_i g
    intro pins s σ v u I rv ru
    exact (eqAts dep I g.1 g.2 (by unfold dep; omega) (der_rep R g.1 rp) rv (der_rep R g.2 rq) ru).2.2 _ _ _ _ ⟨.bl _,H,I,rfl,now R h rfl⟩
  · exact h.elim⟩
def isNon:PV->Bool
  | .non=>true
  | _=>false
theorem isNon_rep {H:Hp} {ρ:Tk} {p:PV} {x:V} (r:Rep H ρ p x):decide (x=.non)=isNon p:=by
  cases p with
  | non=>cases r; rfl
  | bl _=>cases r; rfl
  | int _=>cases r; rfl
  | str _=>cases r; rfl
  | tup _=>obtain ⟨_,_,rfl,_⟩:=r; rfl
  | lst _=>obtain ⟨_,_,rfl,_⟩:=r; rfl
  | fro _=>obtain ⟨_,_,rfl,_⟩:=r; rfl
  | ref _=>obtain ⟨_,_,rfl⟩:=r; rfl
  | dic=>obtain ⟨_,rfl,_⟩:=r; rfl
def oIs:OP:=fun st p q=>match q with
  | .non=>.ok (.bl (isNon p)) st
  | .bl c=>match p with
    | .bl b=>.ok (.bl (b == c)) st
    | _=>.stuck
  | _=>.stuck
def oIsNot:OP:=fun st p q=>match q with
  | .non=>.ok (.bl (!isNon p)) st
  | .bl c=>match p with
    | .bl b=>.ok (.bl (b != c)) st
    | _=>.stuck
  | _=>.stuck
theorem os_isnot:OpS X E (compareOp .IsNot) oIsNot:=⟨fun H ρ st p q x y Q R rp rq h=>by
  unfold oIsNot at h
  split at h
  · cases rq
    refine WO.of op_notN ⟨rfl,?_⟩
    rw [isNon_rep rp]
    exact now R h rfl
  · split at h
    · cases rp; cases rq
      exact WO.of op_isnot_bl ⟨_,_,rfl,rfl,now R h rfl⟩
    · exact h.elim
  · exact h.elim⟩
def oIn (neg:Bool):OP:=fun st p q=>match seqOf st q with
  | some xs=>if good dep (der st p)=true/\xs.all (good dep)=true then .ok (.bl ((xs.any fun y=>peq y (der st p)) != neg)) st else .stuck
  | none=>.stuck
open Classical in
theorem in_items {pins:List (Addr × Obj)} {σ:St} {H:Hp} {ρ:Tk} {s:Shared} {A:Around} {st:Store} {p:PV} {xs:List PV} {x:V} {v:Value} {vs:List V} {its:List Value} (I:Inv X pins σ H s) (hu:A.units + dep < cLine) (R:Rel H ρ st)
    (gp:good dep (der st p)=true) (gx:xs.all (good dep)=true) (rp:Rep H ρ p x) (rv:RelV x v) (ra:RepL H ρ xs vs) (vi:Vals vs its):∃ e:Value->Bool,(∀ u,u ∈ its.toArray->SeqAt.EqAt A s u v (e u))/\its.toArray.any e=xs.any fun y=>peq y (der st p):=by
  have key:∀ u ∈ its,∃ q ∈ xs,∃ y,Rep H Tk.nil q y/\RelV y u:=fun u hu=>by
    obtain ⟨j,hj,rfl⟩:=List.getElem_of_mem hu
    have l1:=vi.length
    have l2:=ra.length
    obtain ⟨y,e1,e2⟩:=(repL_nil gx ra).get (List.getElem?_eq_getElem (show j < xs.length by omega))
    obtain ⟨w,e3,e4⟩:=vi.get e1
    rw [List.getElem?_eq_getElem hj] at e3; cases e3
    exact ⟨_,List.getElem_mem _,y,e2,e4⟩
  refine ⟨fun u=>decide (∃ q ∈ xs,∃ y,Rep H Tk.nil q y/\RelV y u/\peq q (der st p)=true),fun u hm=>?_,?_⟩
  · have hm':u ∈ its:=by simpa using hm
    by_cases z:∃ q ∈ xs,∃ y,Rep H Tk.nil q y/\RelV y u/\peq q (der st p)=true
    · show SeqAt.EqAt A s u v (decide _)
      rw [decide_eq_true z]
      obtain ⟨q,hq,y,r1,r2,e⟩:=z
      have:=(eqAts dep I ((List.all_eq_true.mp gx) q hq) gp hu r1 r2 (der_rep R gp rp) rv).1
      rw [e] at this
      exact this
    · show SeqAt.EqAt A s u v (decide _)
      rw [decide_eq_false z]
      obtain ⟨q,hq,y,r1,r2⟩:=key u hm'
      have:=(eqAts dep I ((List.all_eq_true.mp gx) q hq) gp hu r1 r2 (der_rep R gp rp) rv).1
      cases e:peq q (der st p) with
      | true=>exact absurd ⟨q,hq,y,r1,r2,e⟩ z
      | false=>rw [e] at this; exact this
  · rw [Bool.eq_iff_iff,Array.any_eq_true,List.any_eq_true]
    constructor
    · rintro ⟨j,hj,e⟩
      obtain ⟨q,hq,y,r1,r2,e⟩:=of_decide_eq_true e
      exact ⟨q,hq,e⟩
    · rintro ⟨q,hq,e⟩
      obtain ⟨j,hj,rfl⟩:=List.getElem_of_mem hq
      have l1:=vi.length
      have l2:=ra.length
      have hj':j < its.length:=by omega
      obtain ⟨y,e1,e2⟩:=(repL_nil gx ra).get (List.getElem?_eq_getElem hj)
      obtain ⟨w,e3,e4⟩:=vi.get e1
      refine ⟨j,by simpa using hj',decide_eq_true ⟨_,hq,y,e2,?_,e⟩⟩
      rw [List.getElem?_eq_getElem hj'] at e3; cases e3
      simpa using e4
theorem os_in (hu:X.A.units + 64 < cLine):OpS X E (compareOp .In) (oIn false):=⟨fun H ρ st p q x y Q R rp rq h=>by
  unfold oIn at h
  split at h
  · rename_i xs es
    split at h
    · rename_i g
      obtain ⟨t,a,vs,rfl,hq,ra⟩:=seq_at (K:=X.K) R rq es
      intro pins s σ v u I rv ru
      cases ru
      rw [Bool.bne_false] at h
      cases t with
      | true=>
        obtain ⟨its,r,pl,hz⟩:=I.tuple hq
        obtain ⟨e,he,ea⟩:=in_items (A:=X.A.in1) I (by show X.A.units + 1 + dep < cLine; unfold dep; omega) R g.1 g.2 rp rv ra r
        refine SeqAt.in_tupleAt e pl he ⟨.bl _,H,I,rfl,?_⟩
        rw [ea]
        exact now R h rfl
      | false=>
        obtain ⟨its,r,pl,hz⟩:=I.list hq
        obtain ⟨e,he,ea⟩:=in_items (A:=X.A.in1) I (by show X.A.units + 1 + dep < cLine; unfold dep; omega) R g.1 g.2 rp rv ra r
        refine SeqAt.in_listAt e pl.isList he ⟨.bl _,H,I,rfl,?_⟩
        rw [ea]
        exact now R h rfl
    · exact h.elim
  · exact h.elim⟩
end
end Sm
namespace Sm
open PySem PySem.Spec L2
section
variable {H:Hp} {ρ:Tk}
theorem RepL.atI {ps:List PV} {vs:List V} {i:Int} {p:PV} (r:RepL H ρ ps vs) (e:atI ps i=some p):∃ v,L2.atI vs i=some v/\Rep H ρ p v:=by
  unfold L2.atI at e ⊢
  rw [<- r.length]
  cases q:ixN ps.length i with
  | none=>rw [q] at e; cases e
  | some j=>
    rw [q] at e
    exact r.get e
def cut {α:Type} (xs:List α) (lo hi:Option Int):List α:=(xs.drop (HT.sIx xs.length 0 lo)).take (HT.sIx xs.length xs.length hi - HT.sIx xs.length 0 lo)
theorem RepL.cut {ps:List PV} {vs:List V} (r:RepL H ρ ps vs) (lo hi:Option Int):RepL H ρ (Sm.cut ps lo hi) (cutV vs lo hi):=by
  unfold Sm.cut cutV
  rw [<- r.length]
  exact (r.drop _).take _
end
section
variable {X:Cx} {E:XK} {pos:Pos} {a b:Expr} {ma mb:ME}
def oIx:OP:=fun st p q=>match seqOf st p,q with
  | some xs,.int i=>okO st (atI xs i)
  | _,_=>.stuck
theorem se_ix (ha:SimE X E a ma) (hb:SimE X E b mb) (hs:PlainIx b:=by exact fun _ _=>rfl):SimE X E (.Subscript a b pos) (mOp oIx ma mb):=
  ⟨fun Γ σ H ρ st Q R G h=>WE.of (pe_ix ix_seq pe_w pe_w hs) (ha.use R G h.bind fun p st1 H1 ρ1 v x1 R1 G1 r1 h1=>hb.use R1 G1 h1.bind fun q st2 H2 ρ2 u x2 R2 G2 r2 h2=>by
    unfold oIx at h2
    split at h2
    · rename_i xs i e
      cases r2
      cases ea:atI xs i with
      | none=>rw [ea] at h2; exact h2.elim
      | some w=>
        rw [ea] at h2
        obtain ⟨t,b,vs,rfl,hq,ra⟩:=seq_at (K:=X.K) R2 (r1.ext x2) e
        obtain ⟨z,ez,rz⟩:=ra.atI ea
        cases t with
        | true=>exact .inr (.inl ⟨b,vs,i,z,rfl,rfl,hq,ez,now R2 h2 rz⟩)
        | false=>exact .inl ⟨b,vs,i,z,rfl,rfl,hq,ez,now R2 h2 rz⟩
    · exact h2.elim)⟩
structure SimO (X:Cx) (E:XK) (o:Option Expr) (m:Gam->Store->Res (Option Int)):Prop where
  run:∀ (Γ:Gam) (σ:St) (H:Hp) (ρ:Tk) (st:Store) (P:Option Int->Store->Hp->Tk->Prop) (Q:Option Int->Hp->Prop),Rel H ρ st->EnvR H ρ Γ σ->Acc X.mg E H ρ P (m Γ st) ->
    (∀ i st1 H1 ρ1,Ext H ρ H1 ρ1->Rel H1 ρ1 st1->EnvR H1 ρ1 Γ σ->P i st1 H1 ρ1->Q i H1)->∃ t,PO X o t/\t σ H Q
def mNoPart:Gam->Store->Res (Option Int):=fun _ st=>.ok none st
def mPart (m:ME):Gam->Store->Res (Option Int):=fun Γ st=>(m Γ st).bind fun p st1=>match p with
  | .int i=>.ok (some i) st1
  | _=>.stuck
theorem so_none:SimO X E none mNoPart:=⟨fun Γ σ H ρ st P Q R G h k=>⟨_,po_none,k none st H ρ (Ext.refl _ _) R G (h H ρ (Ext.refl _ _) R)⟩⟩
theorem so_some (ha:SimE X E a ma):SimO X E (some a) (mPart ma):=⟨fun Γ σ H ρ st P Q R G h k=>⟨_,po_some pe_w,ha.use R G h.bind fun p st1 H1 ρ1 v x1 R1 G1 r1 h1=>by
  cases p with
  | int i=>exact ⟨i,r1,k (some i) st1 H1 ρ1 x1 R1 G1 (h1 H1 ρ1 (Ext.refl _ _) R1)⟩
  | _=>exact h1.elim⟩⟩
def oSl (st:Store) (p:PV) (lo hi:Option Int):Res PV:=match p with
  | .tup xs=>.ok (.tup (cut xs lo hi)) st
  | p=>match listOf st p with
    | some xs=>.ok (.lst (cut xs lo hi)) st
    | none=>.stuck
def mSl (ma:ME) (ml mh:Gam->Store->Res (Option Int)):ME:=fun Γ st=>(ma Γ st).bind fun p st1=>(ml Γ st1).bind fun lo st2=>(mh Γ st2).bind fun hi st3=>oSl st3 p lo hi
def TO.w (X:Cx) (o:Option Expr):TO:=fun σ H Q=>∃ t,PO X o t/\t σ H Q
theorem po_w {o:Option Expr}:PO X o (TO.w X o):=fun pins s σ H Q I ⟨t,h,q⟩=>h pins s σ H Q I q
theorem se_slice {lo hi:Option Expr} {ml mh:Gam->Store->Res (Option Int)} {p2:Pos} (ha:SimE X E a ma) (hl:SimO X E lo ml) (hh:SimO X E hi mh):SimE X E (.Subscript a (.Slice lo hi none p2) pos) (mSl ma ml mh):=
  ⟨fun Γ σ H ρ st Q R G h=>WE.of (pe_slice (sl_tup.or (sl_whole.or sl_list)) pe_w po_w po_w) (ha.use R G h.bind fun p st1 H1 ρ1 v x1 R1 G1 r1 h1=>by
    refine hl.run Γ σ H1 ρ1 st1 _ _ R1 G1 h1.bind fun l st2 H2 ρ2 x2 R2 G2 h2=>?_
    refine hh.run Γ σ H2 ρ2 st2 _ _ R2 G2 h2.bind fun u st3 H3 ρ3 x3 R3 G3 h3=>?_
    have r3:=r1.ext (x2.trans x3)
    unfold oSl at h3
    split at h3
    · rename_i xs
      obtain ⟨a,vs,rfl,ha,na,ra⟩:=r3
      by_cases hw:HT.sIx vs.length 0 l=0/\HT.sIx vs.length vs.length u=vs.length
      · refine .inr (.inl ⟨a,vs,rfl,SqT.of ha,hw,?_⟩)
        have e:cut xs l u=xs:=by
          unfold cut
          rw [ra.length,hw.1,hw.2,List.drop_zero,Nat.sub_zero,<- ra.length,List.take_length]
        rw [e] at h3
        exact now R3 h3 ⟨a,vs,rfl,ha,na,ra⟩
      · exact .inl ⟨a,vs,rfl,SqT.of ha,hw,new_tup R3 h3 (ra.cut l u)⟩
    · split at h3
      · rename_i xs e
        obtain ⟨a,vs,rfl,ha,ra⟩:=list_at R3 r3 e
        exact .inr (.inr ⟨a,vs,rfl,.inl ha,new_lst R3 h3 (ra.cut l u)⟩)
      · exact h3.elim)⟩
variable {es:List Expr} {e:Expr} {mr:Gam->Store->Res (List PV)}
def mCall (o:CF) (mr:Gam->Store->Res (List PV)):ME:=fun Γ st=>(mr Γ st).bind fun ps st1=>o st1 ps
theorem CallS.use {f:Value} {o:CF} (s:CallS X E f o) {P:PV->Store->Hp->Tk->Prop} {Q:VK} {H:Hp} {ρ:Tk} {st:Store} {ps:List PV} {xs:List V} (R:Rel H ρ st) (rp:RepL H ρ ps xs) (h:Acc X.mg E H ρ P (o st ps))
    (k:∀ p st1 H1 ρ1 v,Ext H ρ H1 ρ1->Rel H1 ρ1 st1->Rep H1 ρ1 p v->P p st1 H1 ρ1->Q v H1):WC X f xs H Q:=by
  refine s.run H ρ st ps xs Q R rp ?_
  cases r:o st ps with
  | ok p st1=>rw [r] at h; exact fun H' ρ' x' R' v rv=>k p st1 H' ρ' v x' R' rv (h H' ρ' x' R')
  | exc e st=>rw [r] at h; exact h
  | stuck=>rw [r] at h; exact h
theorem se_callB {id:String} {x:Str} {p:Pos} {o:CF} (hc:CallS X E (.builtin id) o) (hg:Gl X x) (hm:X.mg x=none) (hv:bootBuiltins x=some (.builtin id)) (ha:SimA X E (e :: es) mr) (hn:x ≠ "__name__" := by decide) (hdb:(x == ("__debug__" : Str))=false:=by decide)
    (he:starEach (e :: es) X.env=(false,eval e X.env) :: starEach es X.env:=by rfl) (hpl:(backTo pos (starEach es X.env)).any (·.1)=false:=by rfl):SimE X E (.Call (.Name x p) (e :: es) [] pos) (mCall o mr):=
  ⟨fun Γ σ H ρ st Q R G h=>WE.of (pe_callB call_w hg hm hv pa_w hn hdb he hpl) (ha.use R G h.bind fun ps st1 H1 ρ1 vs x1 R1 G1 r1 h1=>hc.use R1 r1 h1 fun _ _ _ _ v _ _ r q=>q v r)⟩
theorem se_callT {T:String} {x:Str} {p:Pos} {o:CF} (hc:CallS X E (.type T) o) (hg:Gl X x) (hm:X.mg x=none) (hv:bootBuiltins x=some (.type T)) (ha:SimA X E (e :: es) mr) (hn:x ≠ "__name__" := by decide) (hdb:(x == ("__debug__" : Str))=false:=by decide)
    (he:starEach (e :: es) X.env=(false,eval e X.env) :: starEach es X.env:=by rfl) (hpl:(backTo pos (starEach es X.env)).any (·.1)=false:=by rfl):SimE X E (.Call (.Name x p) (e :: es) [] pos) (mCall o mr):=
  ⟨fun Γ σ H ρ st Q R G h=>WE.of (pe_callTy call_w hg hm hv pa_w hn hdb he hpl) (ha.use R G h.bind fun ps st1 H1 ρ1 vs x1 R1 G1 r1 h1=>hc.use R1 r1 h1 fun _ _ _ _ v _ _ r q=>q v r)⟩
theorem repL_one {H:Hp} {ρ:Tk} {p:PV} {xs:List V} (r:RepL H ρ [p] xs):∃ v,xs=[v]/\Rep H ρ p v:=by
  obtain ⟨v,t,rfl,h1,h2⟩:=r
  cases h2
  exact ⟨v,rfl,h1⟩
def cLen:CF:=fun st ps=>match ps with
  | [p]=>match seqOf st p with
    | some xs=>.ok (.int xs.length) st
    | none=>match p with
      | .str x=>if x.length<=lim then .ok (.int x.length) st else .stuck
      | _=>.stuck
  | _=>.stuck
theorem cs_len:CallS X E (.builtin "len") cLen:=⟨fun H ρ st ps xs Q R rp h=>by
  unfold cLen at h
  split at h
  · rename_i p
    obtain ⟨v,rfl,r⟩:=repL_one rp
    split at h
    · rename_i ys e
      obtain ⟨t,a,vs,rfl,hq,ra⟩:=seq_at (K:=X.K) R r e
      rw [ra.length] at h
      exact WC.of call_len_seq ⟨a,vs,rfl,sqK_or hq,now R h rfl⟩
    · split at h
      · cases r
        split at h
        · rename_i hl
          exact WC.of call_len_str ⟨_,rfl,le_lim hl,now R h rfl⟩
        · exact h.elim
      · exact h.elim
  · exact h.elim⟩
def cBls (g:List Bool->PV):CF:=fun st ps=>match ps with
  | [p]=>match (seqOf st p).bind blsOf with
    | some ns=>.ok (g ns) st
    | none=>.stuck
  | _=>.stuck
theorem bls_at' {K:PySem.W.Frag} {H:Hp} {ρ:Tk} {st:Store} {p:PV} {v:V} {ns:List Bool} (R:Rel H ρ st) (r:Rep H ρ p v) (e:(seqOf st p).bind blsOf=some ns):∃ (t:Bool) (a:Addr),v=.ref a/\SqK K t H a (ns.map V.bl):=by
  cases q:seqOf st p with
  | none=>rw [q] at e; cases e
  | some xs=>
    rw [q] at e
    obtain ⟨t,a,vs,rfl,hq,ra⟩:=seq_at (K:=K) R r q
    rw [bls_eq e] at ra
    rw [ra.toBls] at hq
    exact ⟨t,a,rfl,hq⟩
theorem cs_all (hc:X.calm=true):CallS X E (.builtin "all") (cBls fun ns=>.bl (ns.all id)):=⟨fun H ρ st ps xs Q R rp h=>by
  unfold cBls at h
  split at h
  · obtain ⟨v,rfl,r⟩:=repL_one rp
    split at h
    · rename_i ns e
      obtain ⟨t,a,rfl,hq⟩:=bls_at' (K:=X.K) R r e
      exact WC.of (call_all t hc) ⟨a,ns,rfl,hq,now R h rfl⟩
    · exact h.elim
  · exact h.elim⟩
def cList:CF:=fun st ps=>match ps with
  | [p]=>match seqOf st p with
    | some xs=>.ok (.lst xs) st
    | none=>.stuck
  | _=>.stuck
def cTuple:CF:=fun st ps=>match ps with
  | [p]=>match seqOf st p with
    | some xs=>.ok (.tup xs) st
    | none=>.stuck
  | _=>.stuck
theorem cs_list:CallS X E (.type "list") cList:=⟨fun H ρ st ps xs Q R rp h=>by
  unfold cList at h
  split at h
  · obtain ⟨v,rfl,r⟩:=repL_one rp
    split at h
    · rename_i ys e
      obtain ⟨t,a,vs,rfl,hq,ra⟩:=seq_at (K:=X.K) R r e
      exact WC.of call_list_of ⟨a,vs,rfl,sqK_or hq,new_lst R h ra⟩
    · exact h.elim
  · exact h.elim⟩
theorem cs_tuple:CallS X E (.type "tuple") cTuple:=⟨fun H ρ st ps xs Q R rp h=>by
  unfold cTuple at h
  split at h
  · rename_i p
    obtain ⟨v,rfl,r⟩:=repL_one rp
    split at h
    · rename_i ys e
      cases p with
      | tup zs=>
        cases e
        obtain ⟨a,vs,rfl,ha,na,ra⟩:=r
        exact WC.of call_tuple_of ⟨a,vs,rfl,.inr ⟨SqT.of ha,now R h ⟨a,vs,rfl,ha,na,ra⟩⟩⟩
      | _=>
        obtain ⟨a,vs,rfl,ha,ra⟩:=list_at R r e
        exact WC.of call_tuple_of ⟨a,vs,rfl,.inl ⟨.inl ha,new_tup R h ra⟩⟩
    · exact h.elim
  · exact h.elim⟩
def tyN:PV->String
  | .non => "NoneType"
  | .bl _ => "bool"
  | .int _ => "int"
  | .str _ => "str"
  | .tup _ => "tuple"
  | .lst _ => "list"
  | .fro _ => "list"
  | .ref _ => "list"
  | .dic => "dict"
def dpv (st:Store):PV->PV
  | .ref i=>match st[i]? with
    | some (.dic _)=>.dic
    | some (.dtp _)=>.dic
    | _=>.ref i
  | p=>p
def isI (T:String) (p:PV):Bool:=tyN p == T || (T == "int" && tyN p == "bool")
def frzd (st:Store):PV->Bool
  | .ref i=>match st[i]? with
    | some (.frd _)=>true
    | some (.obj _ _)=>true
    | _=>false
  | _=>false
theorem ty_of {K:PySem.W.Frag} {H:Hp} {ρ:Tk} {st:Store} {p:PV} {v:V} (nf:frzd st p=false) (R:Rel H ρ st) (r:Rep H ρ p v):TyOf K H v (.type (tyN (dpv st p))):=by
  cases p with
  | non=>cases r; exact .non
  | bl b=>cases r; exact .bl b
  | int i=>cases r; exact .int i
  | str x=>cases r; exact .str x
  | tup ps=>obtain ⟨a,vs,rfl,h,_⟩:=r; exact .tup h
  | lst ps=>obtain ⟨a,vs,rfl,h,_⟩:=r; exact .lst h
  | fro ps=>
    obtain ⟨a,vs,rfl,h,_⟩:=r
    rcases h with h | ⟨o,h⟩
    · exact .lst h
    · exact .frz h
  | ref i=>
    obtain ⟨a,e,rfl⟩:=r
    have hl:i < st.length:=by rw [<- R.len]; exact (List.getElem?_eq_some_iff.mp e).1
    have hs:=List.getElem?_eq_getElem hl
    have q:=R.cell i a st[i] e hs
    cases hc:st[i] with
    | lst xs=>rw [hc] at q hs; simp only [dpv,hs]; obtain ⟨vs,h,_⟩:=q; exact .lst h
    | dic xs=>rw [hc] at q hs; simp only [dpv,hs]; obtain ⟨vs,h,_⟩:=q; exact .dK h
    | dtp xs=>rw [hc] at q hs; simp only [dpv,hs]; obtain ⟨vs,h,_⟩:=q; exact .dT h
    | frd xs=>rw [hc] at hs; simp only [frzd,hs] at nf; cases nf
    | obj C xs=>rw [hc] at hs; simp only [frzd,hs] at nf; cases nf
  | dic=>obtain ⟨a,rfl,h,_⟩:=r; exact .dK h
def kitTypes:List String:=["int", "bool", "str", "tuple", "list", "dict"]
theorem kit_ok (K:PySem.W.Frag) {T:String} (hT:T ∈ kitTypes) (p:PV):PySem.W.kitOne K (.type (tyN p)) (.type T)=some (isI T p):=by
  have hT:T = "int" \/ T = "bool" \/ T = "str" \/ T = "tuple" \/ T = "list" \/ T = "dict" := by simpa [kitTypes] using hT
  rcases hT with rfl | rfl | rfl | rfl | rfl | rfl <;> cases p <;> first | rfl | kernel_rfl
def mIsI (T:String) (m:ME):ME:=fun Γ st=>(m Γ st).bind fun p st1=>if frzd st1 p=true then .stuck else .ok (.bl (isI T (dpv st1 p))) st1
theorem se_isi {T:String} {tx:Str} {a:Expr} {ma:ME} {p tp:Pos} (hT:T ∈ kitTypes) (ha:SimE X E a ma) (hg:Gl X "isinstance") (hm:X.mg "isinstance" = none) (hgT:Gl X tx) (hmT:X.mg tx=none) (hvT:bootBuiltins tx=some (.type T))
    (hn:tx ≠ "__name__" := by decide) (hd:(tx == ("__debug__" : Str))=false:=by decide)
    (he:starEach [a,.Name tx tp] X.env=(false,eval a X.env) :: starEach [.Name tx tp] X.env:=by rfl) (he2:starEach [.Name tx tp] X.env=(false,eval (.Name tx tp) X.env) :: starEach [] X.env:=by rfl) (hpl:(backTo pos (starEach [.Name tx tp] X.env)).any (·.1)=false:=by rfl) :
    SimE X E (.Call (.Name "isinstance" p) [a,.Name tx tp] [] pos) (mIsI T ma):=
  ⟨fun Γ σ H ρ st Q R G h=>WE.of (pe_callB call_isinst hg hm boot_isinstance (pa_cons pe_w (pa_cons (pe_bltn hgT hmT hvT (v:=.ty T) rfl hn hd) pa_nil he2) he) (by decide) (by decide) he hpl)
    (ha.use R G h.bind fun q st1 H1 ρ1 v x1 R1 G1 r1 h1=>by
      by_cases nf:frzd st1 q=true
      · rw [if_pos nf] at h1; exact h1.elim
      · rw [if_neg nf] at h1
        exact ⟨v,.ty T,.type T,_,_,rfl,rfl,ty_of (by simpa using nf) R1 r1,kit_ok X.K hT (dpv st1 q),now R1 h1 rfl⟩)⟩
end
end Sm
namespace Sm
open PySem PySem.Spec L2
abbrev GA:=PV->Gam->Option Gam
abbrev GAs:=List PV->Gam->Option Gam
structure SimG (X:Cx) (tg:Expr) (ga:GA):Prop where
  run:∀ (Γ Γ':Gam) (σ:St) (H:Hp) (ρ:Tk) (p:PV) (v:V) (Q:St->Hp->Prop),EnvR H ρ Γ σ->Rep H ρ p v->ga p Γ=some Γ'->(∀ σ',EnvR H ρ Γ' σ'->Q σ' H)->∃ t,PG X tg t/\t v σ H Q
structure SimGs (X:Cx) (tgs:List Expr) (n:Nat) (ga:GAs):Prop where
  run:∀ (Γ Γ':Gam) (σ:St) (H:Hp) (ρ:Tk) (ps:List PV) (vs:List V) (Q:St->Hp->Prop),EnvR H ρ Γ σ->RepL H ρ ps vs->ga ps Γ=some Γ'->(∀ σ',EnvR H ρ Γ' σ'->Q σ' H)->∃ t,PGs X tgs t/\t vs σ H Q
  len:∀ ps Γ Γ',ga ps Γ=some Γ'->ps.length=n
def gaName (i:Nat):GA:=fun p Γ=>some (Γ.set i (some p))
def gaNil:GAs:=fun ps Γ=>match ps with
  | []=>some Γ
  | _=>none
def gaCons (g:GA) (gs:GAs):GAs:=fun ps Γ=>match ps with
  | p :: r=>(g p Γ).bind (gs r)
  | []=>none
def gaTup (gs:GAs):GA:=fun p Γ=>match p with
  | .tup ps=>gs ps Γ
  | _=>none
section
variable {X:Cx} {pos:Pos}
theorem sg_name {i:Nat} {x:Str} (hN:X.N.Nodup) (hi:X.N[i]?=some x:=by rfl) (hx:Loc X.env.scope x:=by first | exact Or.inl rfl | exact Or.inr rfl) (hf:X.fn x=true\/X.env.scope.names.lookup x=some .local:=by first | exact .inl rfl | exact .inr rfl):SimG X (.Name x pos) (gaName i):=
  ⟨fun Γ Γ' σ H ρ p v Q G r e k=>⟨_,pg_name hN hi hx hf,by cases e; exact k _ (G.set r i)⟩⟩
theorem sgs_nil:SimGs X [] 0 gaNil:=⟨fun Γ Γ' σ H ρ ps vs Q G r e k=>⟨_,pgs_nil,by
  cases ps with
  | nil=>cases e; cases r; exact ⟨rfl,k σ G⟩
  | cons _ _=>cases e⟩,fun ps Γ Γ' e=>by
  cases ps with
  | nil=>rfl
  | cons _ _=>cases e⟩
def WGx (X:Cx) (tg:Expr):TG:=fun v σ H Q=>∃ t,PG X tg t/\t v σ H Q
theorem pg_x {tg:Expr}:PG X tg (WGx X tg):=fun pins s σ H v u Q I r ⟨t,h,q⟩=>h pins s σ H v u Q I r q
def WGsx (X:Cx) (tgs:List Expr):TGs:=fun v σ H Q=>∃ t,PGs X tgs t/\t v σ H Q
theorem pgs_x {tgs:List Expr}:PGs X tgs (WGsx X tgs):=fun pins s σ H v u Q I r ⟨t,h,q⟩=>h pins s σ H v u Q I r q
theorem sgs_cons {e:Expr} {es:List Expr} {g:GA} {gs:GAs} {n:Nat} (h1:SimG X e g) (h2:SimGs X es n gs) (hs:(assignEach (e :: es) X.env).map (·.2)=assign e X.env :: (assignEach es X.env).map (·.2):=by rfl):SimGs X (e :: es) (n + 1) (gaCons g gs):=
  ⟨fun Γ Γ' σ H ρ ps vs Q G r eq k=>⟨_,pgs_cons pg_x pgs_x hs,by
    cases ps with
    | nil=>cases eq
    | cons p ps=>
      obtain ⟨v,t,rfl,r1,r2⟩:=r
      have eq:(g p Γ).bind (gs ps)=some Γ':=eq
      cases e1:g p Γ with
      | none=>rw [e1] at eq; cases eq
      | some Γ1=>
        rw [e1] at eq
        exact ⟨v,t,rfl,h1.run Γ Γ1 σ H ρ p v _ G r1 e1 fun σ1 G1=>h2.run Γ1 Γ' σ1 H ρ ps t _ G1 r2 eq k⟩⟩,fun ps Γ Γ' e=>by
    cases ps with
    | nil=>cases e
    | cons p ps=>
      have e:(g p Γ).bind (gs ps)=some Γ':=e
      cases e1:g p Γ with
      | none=>rw [e1] at e; cases e
      | some Γ1=>rw [e1] at e; rw [List.length_cons,h2.len ps Γ1 Γ' e]⟩
theorem sg_tup {es:List Expr} {k n:Nat} {gs:GAs} (hc:X.calm=true) (h:SimGs X es n gs) (hn:(assignEach es X.env).length=n:=by rfl) (hst:(assignEach es X.env).findIdx? (·.1)=none:=by rfl):SimG X (.Tuple es k pos) (gaTup gs):=
  ⟨fun Γ Γ' σ H ρ p v Q G r e q=>⟨_,pg_tup hc pgs_x hn hst,by
    cases p with
    | tup ps=>
      obtain ⟨a,vs,rfl,ha,na,ra⟩:=r
      exact ⟨a,vs,rfl,SqT.of ha,by rw [<- ra.length]; exact h.len ps Γ Γ' e,h.run Γ Γ' σ H ρ ps vs Q G ra e q⟩
    | _=>cases e⟩⟩
end
abbrev Wt:=List (Nat × Cell)
def wOk (w:Wt) (st:Store):Prop:=∀ x ∈ w,st[x.1]?=some x.2
theorem wOk_nil (st:Store):wOk [] st:=fun x h=>by cases h
structure Src (J:It) (items:List PV) (w:Wt) (H:Hp) (ρ:Tk):Prop where
  stop:∀ H2 ρ2 st2,Ext H ρ H2 ρ2->Rel H2 ρ2 st2->wOk w st2->J.stop items.length H2
  go:∀ H2 ρ2 st2,Ext H ρ H2 ρ2->Rel H2 ρ2 st2->wOk w st2->∀ i,i < items.length->J.go i H2
  yld:∀ H2 ρ2 st2,Ext H ρ H2 ρ2->Rel H2 ρ2 st2->wOk w st2->∀ i p,items[i]?=some p->∀ x H3,J.yld i H2 x H3->Same H2 H3/\Rep H3 ρ2 p x
abbrev MI:=Gam->Store->Res (List PV × Wt)
structure SimI (X:Cx) (E:XK) (tg iter:Expr) (mi:MI):Prop where
  run:∀ (Γ:Gam) (σ:St) (H:Hp) (ρ:Tk) (st:Store) (P:List PV × Wt->Store->Hp->Tk->Prop) (R':It->Hp->Prop),Rel H ρ st->EnvR H ρ Γ σ->Acc X.mg E H ρ P (mi Γ st) ->
    (∀ iw st1 H1 ρ1 J,mi Γ st=.ok iw st1->Ext H ρ H1 ρ1->Rel H1 ρ1 st1->EnvR H1 ρ1 Γ σ->wOk iw.2 st1->iw.1.length<=sizeLine->Src J iw.1 iw.2 H1 ρ1->P iw st1 H1 ρ1->R' J H1)->WI X tg iter σ H R'
def srcOf (st:Store):PV->Option (List PV × Wt)
  | .tup xs=>some (xs,[])
  | .lst xs=>some (xs,[])
  | .fro xs=>some (xs,[])
  | .ref i=>match st[i]? with
    | some (.lst xs)=>some (xs,[(i,.lst xs)])
    | _=>none
  | _=>none
theorem src_at {K:PySem.W.Frag} {H:Hp} {ρ:Tk} {st:Store} {p:PV} {v:V} {xs:List PV} {w:Wt} (R:Rel H ρ st) (r:Rep H ρ p v) (e:srcOf st p=some (xs,w)) :
    wOk w st/\∃ (t:Bool) (a:Addr),v=.ref a/\(t=true->∃ ys,p=.tup ys)/\(t=false->∀ ys,p ≠ .tup ys)/\∀ H2 ρ2 st2,Ext H ρ H2 ρ2->Rel H2 ρ2 st2->wOk w st2->∃ vs,SqK K t H2 a vs/\RepL H2 ρ2 xs vs:=by
  cases p with
  | tup ys=>
    obtain ⟨a,vs,rfl,ha,na,ra⟩:=r
    cases e
    exact ⟨wOk_nil _,true,a,rfl,fun _=>⟨_,rfl⟩,(fun z=>by cases z),fun H2 ρ2 st2 x R2 _=>⟨vs,show SqT K H2 a vs from SqT.of (x.kp ha na),ra.ext x⟩⟩
  | lst ys=>
    obtain ⟨a,vs,rfl,ha,na,ra⟩:=r
    cases e
    exact ⟨wOk_nil _,false,a,rfl,(fun z=>by cases z),(fun _ _ z=>by cases z),fun H2 ρ2 st2 x R2 _=>⟨vs,show SqL K H2 a vs from SqL.of (x.kp ha na),ra.ext x⟩⟩
  | fro ys=>
    obtain ⟨a,vs,rfl,ha,na,ra⟩:=r
    cases e
    refine ⟨wOk_nil _,false,a,rfl,(fun z=>by cases z),(fun _ _ z=>by cases z),fun H2 ρ2 st2 x R2 _=>⟨vs,show SqL K H2 a vs from ?_,ra.ext x⟩⟩
    rcases ha with ha | ⟨o,ha⟩
    · exact .inl (.inl (x.kp ha na))
    · exact .inl (.inr ⟨o,x.kp ha na⟩)
  | ref i=>
    obtain ⟨a,ea,rfl⟩:=r
    simp only [srcOf] at e
    split at e
    · rename_i ys hs
      cases e
      refine ⟨fun x hx=>?_,false,a,rfl,(fun z=>by cases z),(fun _ _ z=>by cases z),fun H2 ρ2 st2 x R2 ok=>?_⟩
      · have:x=(i,.lst xs):=by simpa using hx
        subst this; exact hs
      · have hs2:=ok (i,.lst xs) (by simp)
        obtain ⟨b,vs,f1,f2,f3⟩:=R2.lst hs2
        obtain ⟨t,et⟩:=x.pre
        rw [<- et,List.getElem?_append_left (List.getElem?_eq_some_iff.mp ea).1,ea] at f1
        cases f1
        exact ⟨vs,show SqL K H2 a vs from SqL.of f2,f3⟩
    · cases e
  | _=>cases e
section
variable {X:Cx} {E:XK} {pos:Pos} {tg:Expr} {e:Expr} {m:ME}
def mSeq (m:ME):MI:=fun Γ st=>(m Γ st).bind fun p st1=>match srcOf st1 p with
  | some (xs,w)=>if xs.length<=lim then .ok (xs,w) st1 else .stuck
  | none=>.stuck
theorem RepL.i {H:Hp} {ρ:Tk} {ps:List PV} {vs:List V} {i:Nat} {p:PV} {x:V} (r:RepL H ρ ps vs) (h:ps[i]?=some p) (h':vs[i]?=some x):Rep H ρ p x:=by
  obtain ⟨v,e,q⟩:=r.get h
  rw [h'] at e; cases e
  exact q
theorem src_seq {K:PySem.W.Frag} {H:Hp} {ρ:Tk} {t:Bool} {a:Addr} {xs:List PV} {w:Wt} (h:∀ H2 ρ2 st2,Ext H ρ H2 ρ2->Rel H2 ρ2 st2->wOk w st2->∃ vs,SqK K t H2 a vs/\RepL H2 ρ2 xs vs):Src (if t=true then Itt K a else Itl K a) xs w H ρ:=by
  cases t with
  | true=>
    rw [if_pos rfl]
    refine ⟨fun H2 ρ2 st2 x R ok=>?_,fun H2 ρ2 st2 x R ok i hi=>?_,fun H2 ρ2 st2 x R ok i p hp y H3 hy=>?_⟩
    · obtain ⟨vs,s,r⟩:=h H2 ρ2 st2 x R ok
      exact ⟨vs,s,by rw [r.length]; exact Nat.le_refl _⟩
    · obtain ⟨vs,s,r⟩:=h H2 ρ2 st2 x R ok
      have hi':i < vs.length:=by rw [<- r.length]; exact hi
      exact ⟨vs,vs[i],s,List.getElem?_eq_getElem hi'⟩
    · obtain ⟨vs,s,r⟩:=h H2 ρ2 st2 x R ok
      obtain ⟨rfl,hv⟩:=hy
      exact ⟨Same.refl _,r.i hp (hv vs s)⟩
  | false=>
    rw [if_neg Bool.false_ne_true]
    refine ⟨fun H2 ρ2 st2 x R ok=>?_,fun H2 ρ2 st2 x R ok i hi=>?_,fun H2 ρ2 st2 x R ok i p hp y H3 hy=>?_⟩
    · obtain ⟨vs,s,r⟩:=h H2 ρ2 st2 x R ok
      exact ⟨vs,s,by rw [r.length]; exact Nat.le_refl _⟩
    · obtain ⟨vs,s,r⟩:=h H2 ρ2 st2 x R ok
      have hi':i < vs.length:=by rw [<- r.length]; exact hi
      exact ⟨vs,vs[i],s,List.getElem?_eq_getElem hi'⟩
    · obtain ⟨vs,s,r⟩:=h H2 ρ2 st2 x R ok
      obtain ⟨rfl,hv⟩:=hy
      exact ⟨Same.refl _,r.i hp (hv vs s)⟩
theorem mSeq_in {mg:Str->Option Value} {H:Hp} {ρ:Tk} {st:Store} {p:PV} {P:List PV × Wt->Store->Hp->Tk->Prop} (R:Rel H ρ st) (h:Acc mg E H ρ P (match srcOf st p with | some (xs,w)=>if xs.length<=lim then .ok (xs,w) st else .stuck | none=>.stuck)) :
    ∃ xs w,srcOf st p=some (xs,w)/\xs.length<=lim/\P (xs,w) st H ρ:=by
  split at h
  · rename_i xs w e
    split at h
    · rename_i hl
      exact ⟨xs,w,e,hl,h H ρ (Ext.refl _ _) R⟩
    · exact h.elim
  · exact h.elim
theorem si_seq (ha:SimE X E e m):SimI X E tg e (mSeq m):=⟨fun Γ σ H ρ st P R' R G h k=>by
  have hb:Acc X.mg E H ρ _ (m Γ st):=Acc.bind h
  by_cases ht:∃ ys st1,m Γ st=.ok (.tup ys) st1
  · obtain ⟨ys,st0,e0⟩:=ht
    refine WI.of (pi_tup pe_w) (ha.use' R G hb fun p st1 H1 ρ1 v eq x1 R1 G1 r1 h1=>?_)
    obtain ⟨xs,w,e,hl,hP⟩:=mSeq_in R1 h1
    obtain ⟨ok,t,a,rfl,t1,t2,sq⟩:=src_at (K:=X.K) R1 r1 e
    have ep:p=.tup ys:=by rw [eq] at e0; injection e0
    cases t with
    | false=>exact absurd ep (t2 rfl ys)
    | true=>
      obtain ⟨vs,s,_⟩:=sq H1 ρ1 st1 (Ext.refl _ _) R1 ok
      exact ⟨a,rfl,⟨vs,s⟩,k (xs,w) st1 H1 ρ1 _ (by simp only [mSeq,eq,Res.bind,e,if_pos hl]) x1 R1 G1 ok (le_lim hl) (src_seq sq) hP⟩
  · refine WI.of (pi_list pe_w) (ha.use' R G hb fun p st1 H1 ρ1 v eq x1 R1 G1 r1 h1=>?_)
    obtain ⟨xs,w,e,hl,hP⟩:=mSeq_in R1 h1
    obtain ⟨ok,t,a,rfl,t1,t2,sq⟩:=src_at (K:=X.K) R1 r1 e
    cases t with
    | true=>
      obtain ⟨ys,rfl⟩:=t1 rfl
      exact absurd ⟨ys,st1,eq⟩ ht
    | false=>
      obtain ⟨vs,s,_⟩:=sq H1 ρ1 st1 (Ext.refl _ _) R1 ok
      exact ⟨a,rfl,⟨vs,s⟩,k (xs,w) st1 H1 ρ1 _ (by simp only [mSeq,eq,Res.bind,e,if_pos hl]) x1 R1 G1 ok (le_lim hl) (src_seq sq) hP⟩⟩
def rangeI (lo:Int) (n:Nat):List PV:=(List.range n).map fun (k:Nat)=>PV.int (lo + (k:Int))
theorem src_range {H:Hp} {ρ:Tk} {lo:Int} {n:Nat}:Src (Itr lo n) (rangeI lo n) [] H ρ:=by
  have hl:(rangeI lo n).length=n:=by unfold rangeI; rw [List.length_map,List.length_range]
  refine ⟨fun H2 ρ2 st2 x R ok=>?_,fun H2 ρ2 st2 x R ok i hi=>?_,fun H2 ρ2 st2 x R ok i p hp y H3 hy=>?_⟩
  · show n<=(rangeI lo n).length
    omega
  · show i < n
    omega
  · obtain ⟨rfl,rfl⟩:=hy
    have hi:i < n:=by rw [<- hl]; exact (List.getElem?_eq_some_iff.mp hp).1
    unfold rangeI at hp
    rw [List.getElem?_map,List.getElem?_range hi] at hp
    cases hp
    exact ⟨Same.refl _,rfl⟩
def mRange1 (mr:Gam->Store->Res (List PV)):MI:=fun Γ st=>(mr Γ st).bind fun ps st1=>match ps with
  | [.int j]=>if -(lim:Int)<=j/\j<=lim then .ok (rangeI 0 j.toNat,[]) st1 else .stuck
  | _=>.stuck
variable {a b:Expr} {mr:Gam->Store->Res (List PV)} {p:Pos}
theorem rangeI_len (lo:Int) (n:Nat):(rangeI lo n).length=n:=by unfold rangeI; rw [List.length_map,List.length_range]
theorem si_range1 (hg:Gl X "range") (hm:X.mg "range" = none) (ha:SimA X E [a] mr) (hs:starEach [a] X.env=[(false,eval a X.env)]:=by rfl):SimI X E tg (.Call (.Name "range" p) [a] [] pos) (mRange1 mr):=⟨fun Γ σ H ρ st P R' R G h k=>by
  refine WI.of (pi_range1 hg hm pa_w hs) (ha.use' R G h.bind fun ps st1 H1 ρ1 vs eq x1 R1 G1 r1 h1=>?_)
  split at h1
  · rename_i j
    split at h1
    · rename_i hj
      obtain ⟨v,rfl,rv⟩:=repL_one r1
      cases rv
      have hl:(lim:Int)=1000000:=rfl
      refine ⟨j,rfl,by omega,by omega,k (rangeI 0 j.toNat,[]) st1 H1 ρ1 _ (by simp only [mRange1,eq,Res.bind,if_pos hj]) x1 R1 G1 (wOk_nil _) ?_ src_range (h1 H1 ρ1 (Ext.refl _ _) R1)⟩
      show (rangeI 0 j.toNat).length<=sizeLine
      rw [rangeI_len]
      exact le_lim (by omega)
    · exact h1.elim
  · exact h1.elim⟩
end
end Sm
namespace Sm
open PySem PySem.Spec L2
abbrev ML:=Gam->Store->Res (List PV)
structure SimN (X:Cx) (E:XK) (e:Expr) (m:ML):Prop where
  run:∀ (Γ:Gam) (σ:St) (H:Hp) (ρ:Tk) (st:Store) (P:List PV->Store->Hp->Tk->Prop) (Q:VK),Rel H ρ st->EnvR H ρ Γ σ->Acc X.mg E H ρ P (m Γ st) ->
    (∀ ps st1 H1 ρ1 a vs,m Γ st=.ok ps st1->Ext H ρ H1 ρ1->Rel H1 ρ1 st1->a ∈ ρ1.hid->H a=none->H1 a=some (.lst vs)->RepL H1 ρ1 ps vs->Q (.ref a) H1)->WE X e σ H Q
def mVal (m:ML):ME:=fun Γ st=>(m Γ st).bind fun ps st1=>.ok (.lst ps) st1
def mTrk (m:ML):ME:=fun Γ st=>(m Γ st).bind fun ps st1=>.ok (.ref st1.length) (st1 ++ [.lst ps])
section
variable {H0 H:Hp} {ρ0 ρ:Tk} {st:Store} {a:Addr} {ps:List PV} {vs:List V}
theorem out_val (R0:Rel H0 ρ0 st) (x:Ext H0 ρ0 H ρ) {st1:Store} (R:Rel H ρ st1) (hm:a ∈ ρ.hid) (hn:H0 a=none) (ha:H a=some (.lst vs)) (r:RepL H ρ ps vs) :
    Ext H0 ρ0 H ⟨ρ.tr,ρ0.hid⟩/\Rel H ⟨ρ.tr,ρ0.hid⟩ st1/\Rep H ⟨ρ.tr,ρ0.hid⟩ (.lst ps) (.ref a):=
  ⟨x.unhide,R.unhide x.hidM,a,vs,rfl,ha,(fun z=>by
    rcases z with z | z
    · exact R.ap a hm z
    · obtain ⟨o,e,_⟩:=R0.hd a z
      rw [hn] at e; cases e),r.unhide x.hidM⟩
mutual
theorem Rep.trk {b:Addr} {hs:List Addr} (hb:b ∈ ρ.hid) (hh:∀ c,c ∈ hs->c ∈ ρ.hid):∀ {p:PV} {v:V},Rep H ρ p v->Rep H ⟨ρ.tr ++ [b],hs⟩ p v
  | .non,_,r=>r
  | .bl _,_,r=>r
  | .int _,_,r=>r
  | .str _,_,r=>r
  | .tup ps,v,⟨c,vs,e,s,n,r⟩=>⟨c,vs,e,s,fun z=>by
      rcases z with z | z
      · rcases List.mem_append.mp z with z | z
        · exact n (.inl z)
        · have:c=b:=by simpa using z
          subst this; exact n (.inr hb)
      · exact n (.inr (hh _ z)),RepL.trk hb hh r⟩
  | .lst ps,v,⟨c,vs,e,s,n,r⟩=>⟨c,vs,e,s,fun z=>by
      rcases z with z | z
      · rcases List.mem_append.mp z with z | z
        · exact n (.inl z)
        · have:c=b:=by simpa using z
          subst this; exact n (.inr hb)
      · exact n (.inr (hh _ z)),RepL.trk hb hh r⟩
  | .fro ps,v,⟨c,vs,e,s,n,r⟩=>⟨c,vs,e,s,fun z=>by
      rcases z with z | z
      · rcases List.mem_append.mp z with z | z
        · exact n (.inl z)
        · have:c=b:=by simpa using z
          subst this; exact n (.inr hb)
      · exact n (.inr (hh _ z)),RepL.trk hb hh r⟩
  | .ref i,v,⟨c,e,e2⟩=>⟨c,by show (ρ.tr ++ [b])[i]?=some c; rw [List.getElem?_append_left (List.getElem?_eq_some_iff.mp e).1]; exact e,e2⟩
  | .dic,v,⟨c,e,s,n⟩=>⟨c,e,s,fun z=>by
      rcases z with z | z
      · rcases List.mem_append.mp z with z | z
        · exact n (.inl z)
        · have:c=b:=by simpa using z
          subst this; exact n (.inr hb)
      · exact n (.inr (hh _ z))⟩
theorem RepL.trk {b:Addr} {hs:List Addr} (hb:b ∈ ρ.hid) (hh:∀ c,c ∈ hs->c ∈ ρ.hid):∀ {ps:List PV} {vs:List V},RepL H ρ ps vs->RepL H ⟨ρ.tr ++ [b],hs⟩ ps vs
  | [],_,r=>r
  | p :: ps,_,⟨v,t,e,r1,r2⟩=>⟨v,t,e,Rep.trk hb hh r1,RepL.trk hb hh r2⟩
end
theorem out_trk (R0:Rel H0 ρ0 st) (x:Ext H0 ρ0 H ρ) {st1:Store} (R:Rel H ρ st1) (hm:a ∈ ρ.hid) (hn:H0 a=none) (ha:H a=some (.lst vs)) (r:RepL H ρ ps vs) :
    Ext H0 ρ0 H ⟨ρ.tr ++ [a],ρ0.hid⟩/\Rel H ⟨ρ.tr ++ [a],ρ0.hid⟩ (st1 ++ [.lst ps])/\Rep H ⟨ρ.tr ++ [a],ρ0.hid⟩ (.ref st1.length) (.ref a):=by
  have na0:a ∉ ρ0.hid:=fun z=>by
    obtain ⟨o,e,_⟩:=R0.hd a z
    rw [hn] at e; cases e
  refine ⟨⟨x.pre.trans (List.prefix_append _ _),fun _ h=>h,fun _ h=>.inl h,x.keep,fun b hb=>?_,x.old,x.frz⟩,⟨?_,?_,fun b hb=>R.hd b (x.hidM b hb),fun b hb z=>?_,fun i b c h1 h2=>?_⟩,a,?_,rfl⟩
  · rcases List.mem_append.mp hb with z | z
    · exact x.new b z
    · have:b=a:=by simpa using z
      subst this; exact .inr hn
  · show (ρ.tr ++ [a]).length=_
    rw [List.length_append,List.length_append,R.len]; rfl
  · show (ρ.tr ++ [a]).Nodup
    refine List.nodup_append.mpr ⟨R.nd,by simp,fun b hb c hc e=>?_⟩
    have:c=a:=by simpa using hc
    subst this; subst e
    exact R.ap b hm hb
  · rcases List.mem_append.mp z with z | z
    · exact R.ap b (x.hidM b hb) z
    · have:b=a:=by simpa using z
      subst this; exact na0 hb
  · have h1:(ρ.tr ++ [a])[i]?=some b:=h1
    by_cases hi:i < st1.length
    · rw [List.getElem?_append_left (by rw [R.len]; exact hi)] at h1
      rw [List.getElem?_append_left hi] at h2
      have q:=R.cell i b c h1 h2
      cases c with
      | lst qs=>
        obtain ⟨us,e1,e2⟩:=q
        exact ⟨us,e1,e2.trk hm x.hidM⟩
      | dic qs=>
        obtain ⟨us,e1,e2⟩:=q
        exact ⟨us,e1,e2.1,e2.2.trk hm x.hidM⟩
      | dtp qs=>
        obtain ⟨us,e1,e2⟩:=q
        exact ⟨us,e1,e2.1,e2.2.trk hm x.hidM⟩
      | frd qs=>
        obtain ⟨us,e1,e2⟩:=q
        exact ⟨us,e1,e2.1,e2.2.trk hm x.hidM⟩
      | obj C qs=>
        obtain ⟨us,e1,e2⟩:=q
        exact ⟨us,e1,e2.1,e2.2.trk hm x.hidM⟩
    · rw [List.getElem?_append_right (by rw [R.len]; omega)] at h1
      rw [List.getElem?_append_right (by omega)] at h2
      have e0:i - st1.length=0:=by
        rcases Nat.eq_zero_or_pos (i - st1.length) with z | z
        · exact z
        · rw [List.getElem?_eq_none (by simp; omega)] at h2; cases h2
      rw [R.len,e0] at h1
      rw [e0] at h2
      simp at h1 h2
      subst h1; subst h2
      exact ⟨vs,ha,r.trk hm x.hidM⟩
  · show (ρ.tr ++ [a])[st1.length]?=some a
    rw [<- R.len,List.getElem?_append_right (Nat.le_refl _),Nat.sub_self]; rfl
end
section
variable {X:Cx} {E:XK} {pos:Pos} {e:Expr} {m:ML}
theorem se_val (h:SimN X E e m):SimE X E e (mVal m):=⟨fun Γ σ H ρ st Q R G hq=>h.run Γ σ H ρ st _ Q R G hq.bind fun ps st1 H1 ρ1 a vs eq x R1 hm hn ha r=>by
  obtain ⟨x2,R2,r2⟩:=out_val R x R1 hm hn ha r
  unfold mVal at hq
  rw [eq] at hq
  exact hq _ _ x2 R2 _ r2⟩
theorem se_trk (h:SimN X E e m):SimE X E e (mTrk m):=⟨fun Γ σ H ρ st Q R G hq=>h.run Γ σ H ρ st _ Q R G hq.bind fun ps st1 H1 ρ1 a vs eq x R1 hm hn ha r=>by
  obtain ⟨x2,R2,r2⟩:=out_trk R x R1 hm hn ha r
  unfold mTrk at hq
  rw [eq] at hq
  exact hq _ _ x2 R2 _ r2⟩
variable {es:List Expr} {mr:Gam->Store->Res (List PV)} {a b:Expr} {ma mb:ME}
theorem new_at {H1:Hp} {ρ1:Tk} {st1:Store} {H:Hp} {ρ:Tk} {Q:VK} {ps:List PV} {vs:List V} (x:Ext H ρ H1 ρ1) (R1:Rel H1 ρ1 st1) (r:RepL H1 ρ1 ps vs)
    (k:∀ H1 ρ1 a vs,Ext H ρ H1 ρ1->Rel H1 ρ1 st1->a ∈ ρ1.hid->H a=none->H1 a=some (.lst vs)->RepL H1 ρ1 ps vs->Q (.ref a) H1):∀ p,H1 p=none->Q (.ref p) (upd H1 p (.lst vs)):=fun p hp=>by
  refine k _ (ρ1.hide p) p vs (x.trans (Ext.hide hp)) (R1.hide hp) List.mem_cons_self ?_ upd_same (r.hide hp)
  cases e:H p with
  | none=>rfl
  | some o=>
    obtain ⟨o',e'⟩:=x.old p o e
    rw [hp] at e'; cases e'
def mLstN (mr:Gam->Store->Res (List PV)):ML:=fun Γ st=>(mr Γ st).bind fun ps st1=>if ps.length<=lim then .ok ps st1 else .stuck
theorem sn_lst (h:SimA X E es mr):SimN X E (.List es pos) (mLstN mr):=
  ⟨fun Γ σ H ρ st P Q R G hq k=>WE.of (pe_lst pa_w) (h.use' R G hq.bind fun ps st1 H1 ρ1 vs eq x1 R1 G1 r1 h1=>by
    by_cases hl:ps.length<=lim
    · refine ⟨by rw [<- r1.length]; exact le_lim hl,new_at x1 R1 r1 fun H2 ρ2 a us=>k ps st1 H2 ρ2 a us ?_⟩
      unfold mLstN
      rw [eq]
      exact if_pos hl
    · rw [if_neg hl] at h1; exact h1.elim)⟩
def mListN (ma:ME):ML:=fun Γ st=>(ma Γ st).bind fun p st1=>match seqOf st1 p with
  | some xs=>.ok xs st1
  | none=>.stuck
theorem sn_list {p:Pos} (ha:SimE X E a ma) (hg:Gl X "list") (hm:X.mg "list" = none) (he:starEach [a] X.env=(false,eval a X.env) :: starEach [] X.env:=by rfl):SimN X E (.Call (.Name "list" p) [a] [] pos) (mListN ma):=
  ⟨fun Γ σ H ρ st P Q R G hq k=>WE.of (pe_callTy call_list_of hg hm boot_list (pa_cons pe_w pa_nil he) (by decide) (by decide) he rfl) (ha.use' R G hq.bind fun q st1 H1 ρ1 v eq x1 R1 G1 r1 h1=>by
    split at h1
    · rename_i xs e
      obtain ⟨t,b,vs,rfl,hq2,ra⟩:=seq_at (K:=X.K) R1 r1 e
      refine ⟨b,vs,rfl,sqK_or hq2,new_at x1 R1 ra fun H2 ρ2 a us=>k xs st1 H2 ρ2 a us ?_⟩
      unfold mListN
      rw [eq]
      show (match seqOf st1 q with | some xs=>Res.ok xs st1 | none=>.stuck)=_
      rw [e]
    · exact h1.elim)⟩
end
end Sm
namespace Sm
open PySem PySem.Spec L2
def capG (cap:List (Option Nat)) (Γ:Gam):Gam:=cap.map fun c=>c.bind fun j=>(Γ[j]?).join
theorem EnvR.cap {H:Hp} {ρ:Tk} {Γ:Gam} {σ:St} (h:EnvR H ρ Γ σ) (cap:List (Option Nat)):EnvR H ρ (capG cap Γ) (capOf cap σ):=by
  refine ⟨by unfold capG capOf; rw [List.length_map,List.length_map],fun i p e=>?_⟩
  unfold capG at e
  unfold capOf
  rw [List.getElem?_map] at e ⊢
  cases q:cap[i]? with
  | none=>rw [q] at e; cases e
  | some c=>
    rw [q] at e
    cases c with
    | none=>cases e
    | some j=>
      have e':(Γ[j]?).join=some p:=Option.some.inj e
      cases r:Γ[j]? with
      | none=>rw [r] at e'; cases e'
      | some o=>
        rw [r] at e'
        have:o=some p:=e'
        subst this
        obtain ⟨v,e1,e2⟩:=h.2 j p r
        exact ⟨v,by show some ((σ[j]?).join)=some (some v); rw [e1]; rfl,e2⟩
def FreeT (cap:List (Option Nat)) (ga:GA):Prop:=∀ Γ p Γ1,ga p (capG cap Γ)=some Γ1->Γ1.length=(capG cap Γ).length/\∀ (i:Nat) (q:PV),(capG cap Γ)[i]?=some (some q)->Γ1[i]?=some (some q)
theorem capG_none {cap:List (Option Nat)} {i:Nat} (h:cap[i]?=some none) (Γ:Gam):(capG cap Γ)[i]?=some none:=by
  unfold capG
  rw [List.getElem?_map,h]; rfl
theorem free_name {cap:List (Option Nat)} {i:Nat} (h:cap[i]?=some none:=by rfl):FreeT cap (gaName i):=fun Γ p Γ1 e=>by
  cases e
  refine ⟨List.length_set ..,fun j q hj=>?_⟩
  rw [List.getElem?_set_ne fun z=>?_]
  · exact hj
  · subst z; rw [capG_none h] at hj; cases hj
open Classical in
def compG (ga:GA) (mt:MT) (me:ME) (w:Wt) (Γ0:Gam):List PV->Store->Res (List PV)
  | [],st=>if wOk w st then .ok [] st else .stuck
  | x :: xs,st=>if wOk w st then (match ga x Γ0 with
    | none=>.stuck
    | some Γ1=>(mt Γ1 st).bind fun b st1=>if b=true then (me Γ1 st1).bind fun y st2=>(compG ga mt me w Γ0 xs st2).bind fun ys st3=>.ok (y :: ys) st3 else compG ga mt me w Γ0 xs st1) else .stuck
def noX {α:Type}:Res α->Res α
  | .exc _ _=>.stuck
  | r=>r
def mCompN (cap:List (Option Nat)) (ga:GA) (mi:MI) (mt:MT) (me:ME):ML:=fun Γ st=>(mi Γ st).bind fun iw st1=>noX (compG ga mt me iw.2 (capG cap Γ) iw.1 st1)
structure SimTs (X:Cx) (ifs:List Expr) (m:MT):Prop where
  run:∀ (Γ:Gam) (σ:St) (H:Hp) (ρ:Tk) (st:Store) (P:Bool->Store->Hp->Tk->Prop) (Q:Bool->Hp->Prop),Rel H ρ st->EnvR H ρ Γ σ->Acc X.mg E0 H ρ P (m Γ st) ->
    (∀ b st1 H1 ρ1,m Γ st=.ok b st1->Ext H ρ H1 ρ1->Rel H1 ρ1 st1->EnvR H1 ρ1 Γ σ->Q b H1)->∃ t,PTs X ifs t/\t σ H Q
def mTrue:MT:=fun _ st=>.ok true st
theorem sts_nil {X:Cx}:SimTs X [] mTrue:=⟨fun Γ σ H ρ st P Q R G h k=>⟨_,pts_nil,k true st H ρ rfl (Ext.refl _ _) R G⟩⟩
theorem sts_one {X:Cx} {c:Expr} {m:MT} (hc:SimT X E0 c m):SimTs X [c] m:=⟨fun Γ σ H ρ st P Q R G h k=>⟨_,pts_one pt_w,hc.use' R G h fun b st1 H1 ρ1 e x1 R1 G1 p=>k b st1 H1 ρ1 e x1 R1 G1⟩⟩
theorem acc_noX {α:Type} {mg:Str->Option Value} {E E':XK} {H:Hp} {ρ:Tk} {P:α->Store->Hp->Tk->Prop} {r:Res α} (h:Acc mg E H ρ P (noX r)):Acc mg E' H ρ P r:=by
  cases r with
  | ok a st=>exact h
  | exc x st=>exact h.elim
  | stuck=>exact h
theorem Res.assoc {α β γ:Type} (r:Res α) (f:α->Store->Res β) (g:β->Store->Res γ):(r.bind f).bind g=r.bind fun a st=>(f a st).bind g:=by cases r <;> rfl
theorem Acc.assoc {α β γ:Type} {mg:Str->Option Value} {E:XK} {H:Hp} {ρ:Tk} {P:γ->Store->Hp->Tk->Prop} {r:Res α} {f:α->Store->Res β} {g:β->Store->Res γ} (h:Acc mg E H ρ P ((r.bind f).bind g)):Acc mg E H ρ P (r.bind fun a st=>(f a st).bind g):=by
  rw [<- Res.assoc]; exact h
theorem EnvR.le {H:Hp} {ρ:Tk} {Γ Γ':Gam} {σ:St} (h:EnvR H ρ Γ' σ) (hl:Γ.length=σ.length) (k:∀ (i:Nat) (q:PV),Γ[i]?=some (some q)->Γ'[i]?=some (some q)):EnvR H ρ Γ σ:=⟨hl,fun i p e=>h.2 i p (k i p e)⟩
section
variable {X:Cx} {E:XK} {pos:Pos} {tg iter elt:Expr} {ifs:List Expr} {N N':List Str} {sc scE:Scope} {cap:List (Option Nat)} {ga:GA} {mi:MI} {mt:MT} {me:ME}
def aE (X:Cx) (N':List Str) (sc:Scope) (e:Expr):TE:=fun σ H Q=>∀ cl C s0 H0 ex,WE (blkC X N' sc cl C s0 H0 ex) e σ H Q
def aG (X:Cx) (N':List Str) (sc:Scope) (tg:Expr):TG:=fun v σ H Q=>∀ cl C s0 H0 ex,WGx (blkC X N' sc cl C s0 H0 ex) tg v σ H Q
def aT (X:Cx) (N':List Str) (sc:Scope) (ifs:List Expr):TT:=fun σ H Q=>∀ cl C s0 H0 ex,∃ t,PTs (blkC X N' sc cl C s0 H0 ex) ifs t/\t σ H Q
theorem comp_body {Γ:Gam} {σ:St} {H1:Hp} {ρ1:Tk} {st1:Store} {J:It} {items:List PV} {w:Wt} {Q:VK} {P:List PV->Store->Hp->Tk->Prop} (hg:∀ cl C s0 H0 ex,SimG (blkC X N' sc cl C s0 H0 ex) tg ga) (he:∀ cl C s0 H0 ex,SimE (blkC X N' sc cl C s0 H0 ex) E0 elt me) (ht:∀ cl C s0 H0 ex,SimTs (blkC X N' sc cl C s0 H0 ex) ifs mt)
    (hf:FreeT cap ga) (R1:Rel H1 ρ1 st1) (G1:EnvR H1 ρ1 Γ σ) (src:Src J items w H1 ρ1) (hlen:items.length<=sizeLine) (h:Acc X.mg E0 H1 ρ1 P (compG ga mt me w (capG cap Γ) items st1))
    (k:∀ ys st2 H2 ρ2 acc vs,compG ga mt me w (capG cap Γ) items st1=.ok ys st2->Ext H1 ρ1 H2 ρ2->Rel H2 ρ2 st2->acc ∈ ρ2.hid->H1 acc=none->H2 acc=some (.lst vs)->RepL H2 ρ2 ys vs->Q (.ref acc) H2):compBodyT J cap (aG X N' sc tg) (aT X N' sc ifs) (aE X N' sc elt) σ H1 Q:=by
  intro acc hacc
  let W:Nat->Nat->List V->St->Hp->Prop:=fun i m vs σ' H'=>m=items.length - i/\i<=items.length/\vs.length<=i/\∃ ρ' st' ys,Ext H1 ρ1 H' ρ'/\acc ∈ ρ'.hid/\Rel H' ρ' st'/\EnvR H' ρ' (capG cap Γ) σ'/\H' acc=some (.lst vs)/\RepL H' ρ' ys vs /\
    compG ga mt me w (capG cap Γ) items st1=(compG ga mt me w (capG cap Γ) (items.drop i) st').bind fun zs st3=>.ok (ys ++ zs) st3
  refine ⟨W,⟨_,rfl,Nat.zero_le _,Nat.le_refl _,ρ1.hide acc,st1,[],Ext.hide hacc,List.mem_cons_self,R1.hide hacc,(G1.cap cap).hide hacc,upd_same,rfl,?_⟩,?_⟩
  · rw [List.drop_zero]
    cases r:compG ga mt me w (capG cap Γ) items st1 with
    | ok zs st3=>rfl
    | exc x st3=>rfl
    | stuck=>rfl
  rintro i m vs σ' H' ⟨hm,hi,hvl,ρ',st',ys,x,hmem,R',G',ha,ry,hq⟩
  have hA:Acc X.mg E0 H1 ρ1 P ((compG ga mt me w (capG cap Γ) (items.drop i) st').bind fun zs st3=>.ok (ys ++ zs) st3):=by rw [<- hq]; exact h
  refine ⟨ha,?_⟩
  by_cases hlt:i < items.length
  · right
    have hd:items.drop i=items[i] :: items.drop (i + 1):=List.drop_eq_getElem_cons hlt
    rw [hd,compG] at hA hq
    by_cases hw:wOk w st'
    · rw [if_pos hw] at hA hq
      refine ⟨src.go H' _ st' x R' hw i hlt,by omega,fun y H2 hy=>?_⟩
      obtain ⟨sm,ry2⟩:=src.yld H' _ st' x R' hw i _ (List.getElem?_eq_getElem hlt) y H2 hy
      cases eg:ga items[i] (capG cap Γ) with
      | none=>rw [eg] at hA; exact hA.elim
      | some Γ1=>
        rw [eg] at hA hq
        have x2:Ext H' ρ' H2 ρ':=Ext.same sm
        have R2:=R'.same sm
        intro cl C s0 H0 ex
        refine (hg cl C s0 H0 ex).run (capG cap Γ) Γ1 σ' H2 ρ' _ y _ (G'.ext x2) ry2 eg fun σ3 G3=>?_
        intro cl C s0 H0 ex
        have hA2:=Acc.later hA (x.trans x2)
        refine (ht cl C s0 H0 ex).run Γ1 σ3 H2 ρ' st' _ _ R2 G3 (Acc.bind (Acc.assoc hA2)) fun b st4 H4 ρ4 e4 x4 R4 G4=>?_
        simp only [e4,Res.bind] at hA hq
        have G0:∀ {H'':Hp} {ρ'':Tk},EnvR H'' ρ'' Γ1 σ3->EnvR H'' ρ'' (capG cap Γ) σ3:=fun {H'' ρ''} g=>g.le (by
          rw [<- G3.1]
          exact (hf Γ _ Γ1 eg).1.symm) (hf Γ _ Γ1 eg).2
        have x14:Ext H1 ρ1 H4 ρ4:=x.trans (x2.trans x4)
        have hm4:acc ∈ ρ4.hid:=x4.hidM acc hmem
        have na:acc ∉ ρ'.tr:=R'.ap acc hmem
        have ha4:H4 acc=some (.lst vs):=x4.keep acc _ (sm acc _ ha) na
        have ry4:RepL H4 ρ4 ys vs:=ry.ext (x2.trans x4)
        cases b with
        | false=>
          rw [if_neg Bool.false_ne_true] at hA hq ⊢
          exact ⟨_,show items.length - (i + 1) < m by omega,rfl,hlt,by omega,ρ4,st4,ys,x14,hm4,R4,G0 G4,ha4,ry4,hq⟩
        | true=>
          rw [if_pos rfl] at hA hq ⊢
          intro cl C s0 H0 ex
          have hA4:=Acc.later hA x14
          refine (he cl C s0 H0 ex).use' R4 G4 (Acc.bind (Acc.assoc hA4)) fun z st5 H5 ρ5 zv e5 x5 R5 G5 r5 h5=>?_
          simp only [e5,Res.bind] at hA hq
          have hm5:acc ∈ ρ5.hid:=x5.hidM acc hm4
          have ha5:H5 acc=some (.lst vs):=x5.keep acc _ ha4 (R4.ap acc hm4)
          have x15:Ext H1 ρ1 H5 ρ5:=x14.trans x5
          refine ⟨ha5,_,show items.length - (i + 1) < m by omega,rfl,hlt,by rw [List.length_append]; simp; omega,ρ5,st5,ys ++ [z],x15.put0 hacc,hm5,R5.rehide hm5,(G0 G5).rehide hm5,upd_same,((ry4.ext x5).append (RepL.cons r5 RepL.nil)).rehide hm5,?_⟩
          refine hq.trans ?_
          cases rr:compG ga mt me w (capG cap Γ) (items.drop (i + 1)) st5 with
          | ok zs st6=>
            show Res.ok (ys ++ z :: zs) st6=Res.ok ((ys ++ [z]) ++ zs) st6
            rw [List.append_assoc]; rfl
          | exc x6 st6=>rfl
          | stuck=>rfl
    · rw [if_neg hw] at hA; exact hA.elim
  · left
    have ei:i=items.length:=by omega
    subst ei
    rw [List.drop_length,compG] at hA hq
    by_cases hw:wOk w st'
    · rw [if_pos hw] at hA hq
      refine ⟨src.stop H' _ st' x R' hw,?_⟩
      have hq:compG ga mt me w (capG cap Γ) items st1=.ok (ys ++ []) st':=hq
      rw [List.append_nil] at hq
      exact k ys st' H' ρ' acc vs hq x R' hmem hacc ha ry
    · rw [if_neg hw] at hA; exact hA.elim
theorem comp_run {Γ:Gam} {σ:St} {H:Hp} {ρ:Tk} {st:Store} {Q:VK} {P:List PV->Store->Hp->Tk->Prop} (hi:SimI X E tg iter mi) (hg:∀ cl C s0 H0 ex,SimG (blkC X N' sc cl C s0 H0 ex) tg ga) (he:∀ cl C s0 H0 ex,SimE (blkC X N' sc cl C s0 H0 ex) E0 elt me) (ht:∀ cl C s0 H0 ex,SimTs (blkC X N' sc cl C s0 H0 ex) ifs mt)
    (hf:FreeT cap ga) (R:Rel H ρ st) (G:EnvR H ρ Γ σ) (h:Acc X.mg E H ρ P (mCompN cap ga mi mt me Γ st)) (k:∀ ps st2 H2 ρ2 a vs,mCompN cap ga mi mt me Γ st=.ok ps st2->Ext H ρ H2 ρ2->Rel H2 ρ2 st2->a ∈ ρ2.hid->H a=none->H2 a=some (.lst vs)->RepL H2 ρ2 ps vs->Q (.ref a) H2):tCompT cap (WI X tg iter) (aG X N' sc tg) (aT X N' sc ifs) (aE X N' sc elt) σ H Q:=by
  refine hi.run Γ σ H ρ st _ _ R G h.bind fun iw st1 H1 ρ1 J eq x1 R1 G1 ok hl src h1=>?_
  refine comp_body hg he ht hf R1 G1 src hl (acc_noX (E':=E0) h1) fun ys st2 H2 ρ2 acc vs eq2 x2 R2 hm hn ha ry=>?_
  refine k ys st2 H2 ρ2 acc vs ?_ (x1.trans x2) R2 hm ?_ ha ry
  · unfold mCompN
    rw [eq]
    show noX _=_
    rw [eq2]; rfl
  cases e:H acc with
  | none=>rfl
  | some o=>
    obtain ⟨o',e'⟩:=x1.old acc o e
    rw [hn] at e'; cases e'
theorem pg_a {N':List Str} {sc:Scope} {tg:Expr}:∀ cl C s0 H0 ex,PG (blkC X N' sc cl C s0 H0 ex) tg (aG X N' sc tg):=fun cl C s0 H0 ex pins s σ H v u Q I r h=>pg_x pins s σ H v u Q I r (h cl C s0 H0 ex)
theorem pe_a {N':List Str} {sc:Scope} {e:Expr}:∀ cl C s0 H0 ex,PE (blkC X N' sc cl C s0 H0 ex) e (aE X N' sc e):=fun cl C s0 H0 ex pins s σ H Q I h=>h cl C s0 H0 ex pins s I
theorem pts_a {N':List Str} {sc:Scope} {ifs:List Expr}:∀ cl C s0 H0 ex,PTs (blkC X N' sc cl C s0 H0 ex) ifs (aT X N' sc ifs):=fun cl C s0 H0 ex pins s σ H Q I h=>by
  obtain ⟨t,a,b⟩:=h cl C s0 H0 ex
  exact a pins s σ H Q I b
theorem sn_comp (cap:List (Option Nat)) (N':List Str) (hcalm:X.calm=true) (hi:SimI X E tg iter mi) (hg:∀ cl C s0 H0 ex,SimG (blkC X N' sc cl C s0 H0 ex) tg ga) (he:∀ cl C s0 H0 ex,SimE (blkC X N' sc cl C s0 H0 ex) E0 elt me) (ht:∀ cl C s0 H0 ex,SimTs (blkC X N' sc cl C s0 H0 ex) ifs mt)
    (hf:FreeT cap ga) (hN:X.N=N:=by rfl) (hE:X.env.scope=scE:=by rfl) (hc:compOkC N N' sc scE cap=true:=by kernel_rfl) (hs:∀ x,foldedSetIterable iter X.env x=pure x:=by intro _; rfl) :
    SimN X E (.ListComp elt [⟨tg,iter,ifs,0⟩] sc pos) (mCompN cap ga mi mt me):=
  ⟨fun Γ σ H ρ st P Q R G h k=>WE.of (pe_compT hcalm pi_w pg_a pe_a pts_a hN hE hc hs) (comp_run hi hg he ht hf R G h k)⟩
end
end Sm
namespace Sm
open PySem PySem.Spec L2
inductive SR where
  | nx (Γ:Gam) (st:Store) | rt (v:PV) (st:Store) | bk (Γ:Gam) (st:Store) | ct (Γ:Gam) (st:Store) | exc (x:Exc) (st:Store) | stuck
abbrev MS:=Gam->Store->SR
def Res.sbind {α:Type} (r:Res α) (f:α->Store->SR):SR:=match r with
  | .ok a st=>f a st
  | .exc x st=>.exc x st
  | .stuck=>.stuck
def AccS (mg:Str->Option Value) (E:XK) (D:Ends) (H:Hp) (ρ:Tk):SR->Prop
  | .nx Γ st=>∀ σ' H' ρ',Ext H ρ H' ρ'->Rel H' ρ' st->EnvR H' ρ' Γ σ'->D.nx σ' H'
  | .bk Γ st=>∀ σ' H' ρ',Ext H ρ H' ρ'->Rel H' ρ' st->EnvR H' ρ' Γ σ'->D.bk σ' H'
  | .ct Γ st=>∀ σ' H' ρ',Ext H ρ H' ρ'->Rel H' ρ' st->EnvR H' ρ' Γ σ'->D.ct σ' H'
  | .rt p st=>∀ v H' ρ',Ext H ρ H' ρ'->Rel H' ρ' st->Rep H' ρ' p v->D.rt v H'
  | .exc x st=>∀ C dv H' ρ',mg x.cls=some (.ref C)->Ext H ρ H' ρ'->Rel H' ρ' st->XFs H' ρ' x.fs dv->E (.ref C) dv H'
  | .stuck=>False
section
variable {α:Type} {mg:Str->Option Value} {E:XK} {D:Ends} {H H1:Hp} {ρ ρ1:Tk}
theorem AccS.later {r:SR} (h:AccS mg E D H ρ r) (x:Ext H ρ H1 ρ1):AccS mg E D H1 ρ1 r:=by
  cases r with
  | nx Γ st=>exact fun σ' H' ρ' x'=>h σ' H' ρ' (x.trans x')
  | bk Γ st=>exact fun σ' H' ρ' x'=>h σ' H' ρ' (x.trans x')
  | ct Γ st=>exact fun σ' H' ρ' x'=>h σ' H' ρ' (x.trans x')
  | rt p st=>exact fun v H' ρ' x'=>h v H' ρ' (x.trans x')
  | exc y st=>exact fun C dv H' ρ' m x'=>h C dv H' ρ' m (x.trans x')
  | stuck=>exact h
theorem AccS.bind {r:Res α} {f:α->Store->SR} (h:AccS mg E D H ρ (r.sbind f)):Acc mg E H ρ (fun a st1 H1 ρ1=>AccS mg E D H1 ρ1 (f a st1)) r:=by
  cases r with
  | ok a st=>exact fun H' ρ' x' R'=>AccS.later (show AccS mg E D H ρ (f a st) from h) x'
  | exc e st=>exact h
  | stuck=>exact h
end
theorem Res.sassoc {α β:Type} (r:Res α) (f:α->Store->Res β) (g:β->Store->SR):(r.bind f).sbind g=r.sbind fun a st=>(f a st).sbind g:=by cases r <;> rfl
theorem AccS.assoc {α β:Type} {mg:Str->Option Value} {E:XK} {D:Ends} {H:Hp} {ρ:Tk} {r:Res α} {f:α->Store->Res β} {g:β->Store->SR} (h:AccS mg E D H ρ ((r.bind f).sbind g)):AccS mg E D H ρ (r.sbind fun a st=>(f a st).sbind g):=by
  rw [<- Res.sassoc]; exact h
structure SimS (X:Cx) (E:XK) (s:Stmt) (m:MS):Prop where
  run:∀ (Γ:Gam) (σ:St) (H:Hp) (ρ:Tk) (st:Store) (D:Ends),Rel H ρ st->EnvR H ρ Γ σ->AccS X.mg E D H ρ (m Γ st)->WS X s D σ H
structure SimB (X:Cx) (E:XK) (ss:List Stmt) (m:MS):Prop where
  run:∀ (Γ:Gam) (σ:St) (H:Hp) (ρ:Tk) (st:Store) (D:Ends),Rel H ρ st->EnvR H ρ Γ σ->AccS X.mg E D H ρ (m Γ st)->WB X ss D σ H
section
variable {X:Cx} {E:XK} {pos:Pos} {e:Expr} {m:ME}
def mNext:MS:=fun Γ st=>.nx Γ st
def mSeqS (m1 m2:MS):MS:=fun Γ st=>match m1 Γ st with
  | .nx Γ1 st1=>m2 Γ1 st1
  | r=>r
theorem sb_nil:SimB X E [] mNext:=⟨fun Γ σ H ρ st D R G h=>WB.of pss_nil (h σ H ρ (Ext.refl _ _) R G)⟩
theorem sb_cons {s:Stmt} {rest:List Stmt} {m1 m2:MS} (h1:SimS X E s m1) (h2:SimB X E rest m2):SimB X E (s :: rest) (mSeqS m1 m2):=
  ⟨fun Γ σ H ρ st D R G h=>WB.of (pss_cons ps_w pss_w) (h1.run Γ σ H ρ st _ R G (by
    unfold mSeqS at h
    cases r:m1 Γ st with
    | nx Γ1 st1=>rw [r] at h; exact fun σ' H' ρ' x' R' G'=>h2.run Γ1 σ' H' ρ' st1 D R' G' (AccS.later h x')
    | bk Γ1 st1=>rw [r] at h; exact h
    | ct Γ1 st1=>rw [r] at h; exact h
    | rt p st1=>rw [r] at h; exact h
    | exc x st1=>rw [r] at h; exact h
    | stuck=>rw [r] at h; exact h))⟩
theorem sb_one {s:Stmt} {m1:MS} (h1:SimS X E s m1):SimB X E [s] m1:=⟨fun Γ σ H ρ st D R G h=>WB.of (pss_one ps_w) (h1.run Γ σ H ρ st D R G h)⟩
def mBreak:MS:=fun Γ st=>.bk Γ st
theorem ss_break:SimS X E (.Break pos) mBreak:=⟨fun Γ σ H ρ st D R G h=>WS.of ps_break (h σ H ρ (Ext.refl _ _) R G)⟩
def mExpr (m:ME):MS:=fun Γ st=>(m Γ st).sbind fun _ st1=>.nx Γ st1
theorem ss_expr (he:SimE X E e m) (hs:swapsWith e none pos.line X.env=pure false:=by rfl):SimS X E (.Expr e pos) (mExpr m):=
  ⟨fun Γ σ H ρ st D R G h=>WS.of (ps_expr pe_w hs) (he.use R G h.bind fun p st1 H1 ρ1 v x1 R1 G1 r1 h1=>h1 σ H1 ρ1 (Ext.refl _ _) R1 G1)⟩
def mRet (m:ME):MS:=fun Γ st=>(m Γ st).sbind fun p st1=>.rt p st1
theorem ss_ret (he:SimE X E e m):SimS X E (.Return (some e) pos) (mRet m):=
  ⟨fun Γ σ H ρ st D R G h=>WS.of (ps_ret pe_w) (he.use R G h.bind fun p st1 H1 ρ1 v x1 R1 G1 r1 h1=>h1 v H1 ρ1 (Ext.refl _ _) R1 r1)⟩
def mSet (i:Nat) (m:ME):MS:=fun Γ st=>(m Γ st).sbind fun p st1=>.nx (Γ.set i (some p)) st1
theorem ss_set (i:Nat) {x:Str} {pos':Pos} (hN:X.N.Nodup) (he:SimE X E e m) (hi:X.N[i]?=some x:=by rfl) (hx:Loc X.env.scope x:=by first | exact Or.inl rfl | exact Or.inr rfl) (hs:swapsWith e (some (.Name x pos')) pos.line X.env=pure false:=by rfl) (hf:X.fn x=true\/X.env.scope.names.lookup x=some .local:=by first | exact .inl rfl | exact .inr rfl) :
    SimS X E (.Assign [.Name x pos'] e pos) (mSet i m):=
  ⟨fun Γ σ H ρ st D R G h=>WS.of (ps_set hN hi hx pe_w hs hf) (he.use R G h.bind fun p st1 H1 ρ1 v x1 R1 G1 r1 h1=>h1 _ H1 ρ1 (Ext.refl _ _) R1 (G1.set r1 i))⟩
section
variable {tg iter elt:Expr} {ifs:List Expr} {N N':List Str} {sc scE:Scope} {ga:GA} {mi:MI} {mt:MT} {me:ME}
theorem ss_compV (cap:List (Option Nat)) (N':List Str) (i:Nat) {x:Str} {px cpos:Pos} (hnd:X.N.Nodup) (hcalm:X.calm=true) (hi:SimI X E tg iter mi) (hg:∀ cl C s0 H0 ex,SimG (blkC X N' sc cl C s0 H0 ex) tg ga) (he:∀ cl C s0 H0 ex,SimE (blkC X N' sc cl C s0 H0 ex) E0 elt me) (ht:∀ cl C s0 H0 ex,SimTs (blkC X N' sc cl C s0 H0 ex) ifs mt)
    (hf:FreeT cap ga) (hix:X.N[i]?=some x:=by rfl) (hx:Loc X.env.scope x:=by first | exact Or.inl rfl | exact Or.inr rfl) (hsw:swapsWith (.ListComp elt [⟨tg,iter,ifs,0⟩] sc cpos) (some (.Name x px)) pos.line X.env=pure true:=by rfl)
    (hN:X.N=N:=by rfl) (hE:X.env.scope=scE:=by rfl) (hc:compOkC N N' sc scE cap=true:=by kernel_rfl) (hs:∀ x,foldedSetIterable iter X.env x=pure x:=by intro _; rfl) (hfn:X.fn x=true\/X.env.scope.names.lookup x=some .local:=by first | exact .inl rfl | exact .inr rfl) :
    SimS X E (.Assign [.Name x px] (.ListComp elt [⟨tg,iter,ifs,0⟩] sc cpos) pos) (mSet i (mVal (mCompN cap ga mi mt me))):=
  ⟨fun Γ σ H ρ st D R G h=>WS.of (ps_compT hnd hix hx hcalm pi_w pg_a pe_a pts_a hsw hN hE hc hs hfn) (comp_run hi hg he ht hf R G (AccS.bind (by unfold mSet mVal at h; exact AccS.assoc h)) fun ps st1 H1 ρ1 a vs eq x R1 hm hn ha r=>by
    obtain ⟨x2,R2,r2⟩:=out_val R x R1 hm hn ha r
    simp only [mSet,mVal,eq,Res.bind,Res.sbind] at h
    exact h _ _ _ x2 R2 ((G.ext x2).set r2 i))⟩
end
def mAsg (ga:GA) (m:ME):MS:=fun Γ st=>(m Γ st).sbind fun p st1=>match ga p Γ with
  | some Γ1=>.nx Γ1 st1
  | none=>.stuck
theorem ss_asg {tg:Expr} {ga:GA} (he:SimE X E e m) (hg:SimG X tg ga) (hs:swapsWithSole [tg] e pos.line X.env=pure false:=by rfl) (hw:swappedStores [tg] e X.env=pure none:=by rfl) (h1:(assignEach [tg] X.env).map (·.2)=[assign tg X.env]:=by rfl):SimS X E (.Assign [tg] e pos) (mAsg ga m):=
  ⟨fun Γ σ H ρ st D R G h=>WS.of (ps_asg pe_w pg_x hs hw h1) (he.use R G h.bind fun p st1 H1 ρ1 v x1 R1 G1 r1 h1=>by
    cases eg:ga p Γ with
    | none=>rw [eg] at h1; exact h1.elim
    | some Γ1=>
      rw [eg] at h1
      exact hg.run Γ Γ1 σ H1 ρ1 p v _ G1 r1 eg fun σ' G'=>h1 σ' H1 ρ1 (Ext.refl _ _) R1 G')⟩
def setIx (st:Store) (o i p:PV):Option Store:=match o,i with
  | .ref k,.int j=>match st[k]? with
    | some (.lst xs)=>(ixN xs.length j).map fun n=>st.set k (.lst (xs.set n p))
    | _=>none
  | _,_=>none
def mSetIx (mo mi m:ME):MS:=fun Γ st=>(m Γ st).sbind fun p st1=>(mo Γ st1).sbind fun o st2=>(mi Γ st2).sbind fun i st3=>match setIx st3 o i p with
  | some st4=>.nx Γ st4
  | none=>.stuck
theorem set_run {H:Hp} {ρ:Tk} {st st':Store} {o i p:PV} {x y z:V} (R:Rel H ρ st) (ro:Rep H ρ o x) (ri:Rep H ρ i y) (rp:Rep H ρ p z) (e:setIx st o i p=some st') :
    ∃ a vs k j,x=.ref a/\y=.int k/\H a=some (.lst vs)/\ixN vs.length k=some j/\Ext H ρ (upd H a (.lst (vs.set j z))) ρ/\Rel (upd H a (.lst (vs.set j z))) ρ st':=by
  unfold setIx at e
  split at e
  · rename_i k j
    split at e
    · rename_i xs hs
      cases ej:ixN xs.length j with
      | none=>rw [ej] at e; cases e
      | some n=>
        rw [ej] at e
        have e:st.set k (.lst (xs.set n p))=st':=Option.some.inj e
        subst e
        obtain ⟨a,ea,rfl⟩:=ro
        cases ri
        obtain ⟨b,vs,f1,f2,f3⟩:=R.lst hs
        rw [ea] at f1; cases f1
        exact ⟨a,vs,j,n,rfl,rfl,f2,by rw [<- f3.length]; exact ej,Ext.put (List.mem_of_getElem? ea) f2,R.put ea f2 (f3.set rp n)⟩
    · cases e
  · cases e
theorem ss_sub {o i:Expr} {mo mi:ME} {tpos:Pos} (he:SimE X E e m) (ho:SimE X E o mo) (hi:SimE X E i mi)
    (ha:∀ v,assign (.Subscript o i tpos) X.env v=(do
      let ov <- holding [v] (eval o X.env)
      let iv <- holding [v,ov] (eval i X.env)
      standAt tpos
      holding [v,ov,iv] (setItem ov iv v)
      release [v,ov,iv] []):=by intro _; rfl)
    (hs:swapsWithSole [.Subscript o i tpos] e pos.line X.env=pure false:=by rfl) (hw:swappedStores [.Subscript o i tpos] e X.env=pure none:=by rfl) (h1:(assignEach [.Subscript o i tpos] X.env).map (·.2)=[assign (.Subscript o i tpos) X.env]:=by rfl) :
    SimS X E (.Assign [.Subscript o i tpos] e pos) (mSetIx mo mi m):=
  ⟨fun Γ σ H ρ st D R G h=>WS.of (ps_asg pe_w (pg_sub pe_w pe_w set_list ha) hs hw h1) (he.use R G h.bind fun p st1 H1 ρ1 z x1 R1 G1 r1 h1=>ho.use R1 G1 h1.bind fun ov st2 H2 ρ2 x x2 R2 G2 r2 h2=>hi.use R2 G2 h2.bind fun iv st3 H3 ρ3 y x3 R3 G3 r3 h3=>by
    cases es:setIx st3 ov iv p with
    | none=>rw [es] at h3; exact h3.elim
    | some st4=>
      rw [es] at h3
      obtain ⟨a,vs,k,j,rfl,rfl,f1,f2,x4,R4⟩:=set_run R3 (r2.ext x3) r3 (r1.ext (x2.trans x3)) es
      exact ⟨a,vs,k,j,rfl,rfl,f1,f2,h3 σ _ ρ3 x4 R4 (G3.ext x4)⟩)⟩
def mIfS (mt:MT) (ma mb:MS):MS:=fun Γ st=>(mt Γ st).sbind fun b st1=>if b=true then ma Γ st1 else mb Γ st1
theorem ss_if {c:Expr} {a b:List Stmt} {mt:MT} {ma mb:MS} (hc:SimT X E c mt) (ha:SimB X E a ma) (hb:SimB X E b mb):SimS X E (.If c a b pos) (mIfS mt ma mb):=
  ⟨fun Γ σ H ρ st D R G h=>WS.of (ps_if pt_w pss_w pss_w) (hc.use R G h.bind fun k st1 H1 ρ1 x1 R1 G1 h1=>by
    cases k with
    | true=>rw [if_pos rfl] at h1 ⊢; exact ha.run Γ σ H1 ρ1 st1 D R1 G1 h1
    | false=>rw [if_neg Bool.false_ne_true] at h1 ⊢; exact hb.run Γ σ H1 ρ1 st1 D R1 G1 h1)⟩
open Classical in
def forG (ga:GA) (body:MS) (w:Wt):List PV->Gam->Store->SR
  | [],Γ,st=>if wOk w st then .nx Γ st else .stuck
  | x :: xs,Γ,st=>if wOk w st then (match ga x Γ with
    | none=>.stuck
    | some Γ1=>match body Γ1 st with
      | .nx Γ2 st2=>forG ga body w xs Γ2 st2
      | .ct Γ2 st2=>forG ga body w xs Γ2 st2
      | .bk Γ2 st2=>.nx Γ2 st2
      | .rt v st2=>.rt v st2
      | .exc x st2=>.exc x st2
      | .stuck=>.stuck) else .stuck
def mFor (ga:GA) (mi:MI) (body:MS):MS:=fun Γ st=>(mi Γ st).sbind fun iw st1=>forG ga body iw.2 iw.1 Γ st1
theorem ss_for {tg iter:Expr} {bd:List Stmt} {ga:GA} {mi:MI} {body:MS} (hp:PassesOwn (model X.prog X.w) X.A X.env X.xe) (hc:X.calm=true) (hi:SimI X E tg iter mi) (hg:SimG X tg ga) (hb:SimB X E bd body)
    (hs:∀ x,foldedSetIterable iter X.env x=pure x:=by intro _; rfl):SimS X E (.For tg iter bd [] pos) (mFor ga mi body):=
  ⟨fun Γ σ H ρ st D R G h=>WS.of (ps_for hp hc pi_w pg_x pss_w hs) (hi.run Γ σ H ρ st _ _ R G h.bind fun iw st1 H1 ρ1 J eq x1 R1 G1 ok hl src h1=>by
    let W:Nat->Nat->St->Hp->Prop:=fun i m σ' H'=>m=iw.1.length - i/\i<=iw.1.length/\∃ Γ' ρ' st',Ext H1 ρ1 H' ρ'/\Rel H' ρ' st'/\EnvR H' ρ' Γ' σ'/\AccS X.mg E D H' ρ' (forG ga body iw.2 (iw.1.drop i) Γ' st')
    refine ⟨W,⟨_,rfl,Nat.zero_le _,Γ,ρ1,st1,Ext.refl _ _,R1,G1,by rw [List.drop_zero]; exact h1⟩,?_⟩
    rintro i m σ' H' ⟨hm,hi',Γ',ρ',st',x,R',G',hA⟩
    by_cases hlt:i < iw.1.length
    · right
      have hd:iw.1.drop i=iw.1[i] :: iw.1.drop (i + 1):=List.drop_eq_getElem_cons hlt
      rw [hd,forG] at hA
      by_cases hw:wOk iw.2 st'
      · rw [if_pos hw] at hA
        refine ⟨src.go H' ρ' st' x R' hw i hlt,fun σ2 H2=>W (i + 1) (iw.1.length - (i + 1)) σ2 H2,fun σ2 H2 z=>⟨_,by omega,z⟩,fun y H2 hy=>?_⟩
        obtain ⟨sm,ry⟩:=src.yld H' ρ' st' x R' hw i _ (List.getElem?_eq_getElem hlt) y H2 hy
        have x2:Ext H' ρ' H2 ρ':=Ext.same sm
        cases eg:ga iw.1[i] Γ' with
        | none=>rw [eg] at hA; exact hA.elim
        | some Γ1=>
          rw [eg] at hA
          refine hg.run Γ' Γ1 σ' H2 ρ' _ y _ (G'.ext x2) ry eg fun σ3 G3=>?_
          have hA2:=AccS.later hA x2
          simp only at hA2
          refine hb.run Γ1 σ3 H2 ρ' st' _ (R'.same sm) G3 ?_
          have again:∀ {Γ2:Gam} {st2:Store},AccS X.mg E D H2 ρ' (forG ga body iw.2 (iw.1.drop (i + 1)) Γ2 st2)->∀ σ' H'' ρ'',Ext H2 ρ' H'' ρ''->Rel H'' ρ'' st2->EnvR H'' ρ'' Γ2 σ'->W (i + 1) (iw.1.length - (i + 1)) σ' H'':=fun {Γ2 st2} a σ4 H4 ρ4 x4 R4 G4=>
            ⟨rfl,hlt,Γ2,ρ4,st2,x.trans (x2.trans x4),R4,G4,AccS.later a x4⟩
          cases rb:body Γ1 st' with
          | nx Γ2 st2=>rw [rb] at hA2; exact again hA2
          | ct Γ2 st2=>rw [rb] at hA2; exact again hA2
          | bk Γ2 st2=>rw [rb] at hA2; exact hA2
          | rt v st2=>rw [rb] at hA2; exact hA2
          | exc y st2=>rw [rb] at hA2; exact hA2
          | stuck=>rw [rb] at hA2; exact hA2.elim
      · rw [if_neg hw] at hA; exact hA.elim
    · left
      have ei:i=iw.1.length:=by omega
      subst ei
      rw [List.drop_length,forG] at hA
      by_cases hw:wOk iw.2 st'
      · rw [if_pos hw] at hA
        exact ⟨src.stop H' ρ' st' x R' hw,hA σ' H' ρ' (Ext.refl _ _) R' G'⟩
      · rw [if_neg hw] at hA; exact hA.elim)⟩
def mRaise (x:Str) (m:ME):MS:=fun Γ st=>(m Γ st).sbind fun _ st1=>.exc ⟨x,none⟩ st1
theorem ss_raise {x:Str} {C:Addr} {np cpos:Pos} (hcalm:X.calm=true) (RO:RaiseD X E) (hg:Gl X x) (hm:X.mg x=some (.ref C)) (q:PySem.W.excIn X.K C bmVE "ValueError.__new__" = true) (he:SimE X E e m)
    (hdb:(x == ("__debug__" : Str))=false:=by decide) (hst:starEach [e] X.env=[(false,eval e X.env)]:=by rfl):SimS X E (.Raise (some (.Call (.Name x np) [e] [] cpos)) none pos) (mRaise x m):=
  ⟨fun Γ σ H ρ st D R G h=>WS.of (ps_raiseD hcalm RO hg hm q (pa_cons pe_w pa_nil (by rw [hst]; rfl)) hdb hst) (he.use R G h.bind fun p st1 H1 ρ1 v x1 R1 G1 r1 h1=>⟨Nat.le_trans (show 1<=lim by decide) lim_le,h1 C none H1 ρ1 hm (Ext.refl _ _) R1 rfl⟩)⟩
end
end Sm
namespace Sm
open PySem PySem.Spec L2
def WM (X:Cx) (id:String):V->List V->Hp->VK->Prop:=fun x xs H Q=>∀ (pins:List (Addr × Obj)) (s:Shared) (σ:St) (v:Value) (us:List Value),Inv X pins σ H s->RelV x v->Vals xs us->wpAny (model X.prog X.w) X.A (call (.builtin id) (v :: us)) (EP X pins σ Q) X.xe s
theorem mt_w {X:Cx} {id:String}:MtR X id (WM X id):=fun pins s σ _ _ _ v us _ I r rs h=>h pins s σ v us I r rs
theorem WM.of {X:Cx} {id:String} {r:V->List V->Hp->VK->Prop} {x:V} {xs:List V} {H:Hp} {Q:VK} (h:MtR X id r) (q:r x xs H Q):WM X id x xs H Q:=fun pins s σ v us I r1 r2=>h pins s σ H x xs v us Q I r1 r2 q
abbrev MF:=Store->PV->List PV->Res PV
structure MtS (X:Cx) (E:XK) (id:String) (o:MF):Prop where
  run:∀ (H:Hp) (ρ:Tk) (st:Store) (p:PV) (ps:List PV) (x:V) (xs:List V) (Q:VK),Rel H ρ st->Rep H ρ p x->RepL H ρ ps xs->Acc X.mg E H ρ (QV Q) (o st p ps)->WM X id x xs H Q
section
variable {X:Cx} {E:XK} {o e:Expr} {es:List Expr} {mo:ME} {mr:Gam->Store->Res (List PV)} {name:Str} {apos cpos:Pos} {T id:String} {f:MF}
def mBM (f:MF) (mo:ME) (mr:Gam->Store->Res (List PV)):ME:=fun Γ st=>(mo Γ st).bind fun p st1=>match listOf st1 p with
  | some _=>(mr Γ st1).bind fun ps st2=>f st2 p ps
  | none=>.stuck
theorem se_bm (pa:PlainAttrs "list") (slot:Slot "list" name id) (hty:typeOf (.builtin id)=pure (.type "method_descriptor")) (hm:MtS X E id f) (ho:SimE X E o mo) (ha:SimA X E (e :: es) mr)
    (hbase:attributeBase o name X.env (eval o X.env)=eval o X.env:=by rfl)
    (hfew:((backTo cpos (starEach (e :: es) X.env)).all (fun x=>!x.1) && (backToKw cpos (keywordEach [] X.env)).all (fun x=>x.1.isSome)
      && decide ((e :: es).length + ([]:List Keyword).length + (if ([]:List Keyword).isEmpty then 0 else 1) < 30))=true:=by rfl)
    (hline:(apos.endLine == cpos.line)=true:=by rfl) (hs:starEach (e :: es) X.env=(false,eval e X.env) :: starEach es X.env:=by rfl) (hplain:(backTo cpos (starEach es X.env)).any (·.1)=false:=by rfl) :
    SimE X E (.Call (.Attribute o name apos) (e :: es) [] cpos) (mBM f mo mr):=
  ⟨fun Γ σ H ρ st Q R G h=>WE.of (pe_bm pa slot hty mt_w pe_w pa_w hbase hfew hline hs hplain) (ho.use R G h.bind fun p st1 H1 ρ1 v x1 R1 G1 r1 h1=>by
    split at h1
    · rename_i ys el
      obtain ⟨a,vs,rfl,hr,_⟩:=list_at R1 r1 el
      exact ⟨.inl ⟨rfl,vs,.inl hr⟩,ha.use R1 G1 h1.bind fun ps st2 H2 ρ2 us x2 R2 G2 r2 h2=>hm.run H2 ρ2 st2 p ps _ us Q R2 (r1.ext x2) r2 h2⟩
    · exact h1.elim)⟩
def chg (st:Store) (p:PV) (g:List PV->Option (PV × List PV)):Res PV:=match p with
  | .ref i=>match st[i]? with
    | some (.lst xs)=>match g xs with
      | some (r,ys)=>.ok r (st.set i (.lst ys))
      | none=>.stuck
    | _=>.stuck
  | _=>.stuck
theorem chg_run {mg:Str->Option Value} {H:Hp} {ρ:Tk} {st:Store} {p:PV} {x:V} {g:List PV->Option (PV × List PV)} {Q:VK} (R:Rel H ρ st) (rp:Rep H ρ p x) (h:Acc mg E H ρ (QV Q) (chg st p g)) :
    ∃ a xs vs r ys,x=.ref a/\H a=some (.lst vs)/\RepL H ρ xs vs/\g xs=some (r,ys)/\∀ us v,RepL H ρ ys us->Rep H ρ r v->Q v (upd H a (.lst us)):=by
  unfold chg at h
  split at h
  · rename_i i
    split at h
    · rename_i xs hs
      split at h
      · rename_i r ys hg
        obtain ⟨a,ea,rfl⟩:=rp
        obtain ⟨b,vs,f1,f2,f3⟩:=R.lst hs
        rw [ea] at f1; cases f1
        refine ⟨a,xs,vs,r,ys,rfl,f2,f3,hg,fun us v ru rv=>?_⟩
        have x:=Ext.put (o':=.lst us) (List.mem_of_getElem? ea) f2
        exact h _ ρ x (R.put ea f2 ru) v (rv.ext x)
      · exact h.elim
    · exact h.elim
  · exact h.elim
def mtAppend:MF:=fun st p ps=>match ps with
  | [y]=>chg st p fun xs=>if xs.length < lim then some (.non,xs ++ [y]) else none
  | _=>.stuck
theorem ms_append:MtS X E "list.append" mtAppend:=⟨fun H ρ st p ps x xs Q R rp rs h=>by
  unfold mtAppend at h
  split at h
  · obtain ⟨v,rfl,r⟩:=repL_one rs
    obtain ⟨a,ys,vs,r0,zs,rfl,f1,f2,f3,k⟩:=chg_run R rp h
    split at f3
    · rename_i hl
      cases f3
      exact WM.of mt_append ⟨a,vs,v,rfl,rfl,f1,by rw [<- f2.length]; exact Nat.lt_of_lt_of_le hl lim_le,k _ _ (f2.append (RepL.cons r RepL.nil)) rfl⟩
    · cases f3
  · exact h.elim⟩
theorem se_append (ho:SimE X E o mo) (ha:SimA X E [e] mr) (hbase:attributeBase o "append" X.env (eval o X.env)=eval o X.env:=by rfl)
    (hfew:((backTo cpos (starEach [e] X.env)).all (fun x=>!x.1) && (backToKw cpos (keywordEach [] X.env)).all (fun x=>x.1.isSome) && decide ([e].length + ([]:List Keyword).length + (if ([]:List Keyword).isEmpty then 0 else 1) < 30))=true:=by rfl)
    (hline:(apos.endLine == cpos.line)=true:=by rfl) (hs:starEach [e] X.env=(false,eval e X.env) :: starEach [] X.env:=by rfl):SimE X E (.Call (.Attribute o "append" apos) [e] [] cpos) (mBM mtAppend mo mr):=
  se_bm PySem.F.plainAttrs_list PySem.F.slot_list_append PySem.F.type_list_append ms_append ho ha hbase hfew hline hs
end
end Sm
namespace Sm
open PySem PySem.Spec L2
mutual
def fz (n:Nat) (st:Store):Nat->PV->Option PV
  | 0,_=>none
  | _ + 1,.non=>some .non
  | _ + 1,.bl b=>some (.bl b)
  | _ + 1,.int i=>some (.int i)
  | _ + 1,.str x=>some (.str x)
  | k + 1,.tup xs=>(fzL n st k xs).map .tup
  | k + 1,.lst xs=>(fzL n st k xs).map .lst
  | k + 1,.fro xs=>(fzL n st k xs).map .fro
  | _ + 1,.dic=>some .dic
  | k + 1,.ref i=>if i < n then some (.ref i) else match st[i]? with
    | some (.lst xs)=>(fzL n st k xs).map .lst
    | _=>none
def fzL (n:Nat) (st:Store):Nat->List PV->Option (List PV)
  | _,[]=>some []
  | k,x :: xs=>(fz n st k x).bind fun y=>(fzL n st k xs).map (y :: ·)
end
theorem fz_good {n:Nat} {st:Store}:∀ {m k:Nat} {p:PV},good m p=true->m < k->fz n st k p=some p:=by
  intro m
  induction m with
  | zero=>
    intro k p g hk
    obtain ⟨k,rfl⟩:∃ j,k=j + 1:=⟨k - 1,by omega⟩
    cases p with
    | tup _=>cases g
    | lst _=>cases g
    | fro _=>cases g
    | ref _=>cases g
    | dic=>cases g
    | _=>rw [fz]
  | succ m ih=>
    intro k p g hk
    obtain ⟨k,rfl⟩:∃ j,k=j + 1:=⟨k - 1,by omega⟩
    have hL:∀ xs:List PV,xs.all (good m)=true->fzL n st k xs=some xs:=by
      intro xs
      induction xs with
      | nil=>intro _; rw [fzL]
      | cons x xs ihx=>
        intro g
        rw [List.all_cons,Bool.and_eq_true] at g
        rw [fzL,ih g.1 (by omega),ihx g.2]; rfl
    cases p with
    | tup xs=>rw [fz,hL xs g]; rfl
    | lst xs=>rw [fz,hL xs g]; rfl
    | fro xs=>rw [fz,hL xs g]; rfl
    | ref _=>cases g
    | dic=>cases g
    | _=>rw [fz]
section
variable {H:Hp} {ρ:Tk} {st:Store} {tr0 rest hs:List Addr}
theorem fz_rep (R:Rel H ρ st) (ht:ρ.tr=tr0 ++ rest) (hh:∀ a,a ∈ hs->a ∈ ρ.hid):∀ (k:Nat) {p p':PV} {v:V},Rep H ρ p v->fz tr0.length st k p=some p'->Rep H ⟨tr0,hs⟩ p' v:=by
  have out:∀ a,a ∉ ρ->a ∉ (⟨tr0,hs⟩:Tk):=fun a n z=>by
    rcases z with z | z
    · exact n (.inl (by rw [ht]; exact List.mem_append_left _ z))
    · exact n (.inr (hh a z))
  intro k
  induction k with
  | zero=>intro p p' v r e; rw [fz] at e; cases e
  | succ k ih=>
    have hL:∀ {ps ps':List PV} {vs:List V},RepL H ρ ps vs->fzL tr0.length st k ps=some ps'->RepL H ⟨tr0,hs⟩ ps' vs:=by
      intro ps
      induction ps with
      | nil=>intro ps' vs r e; rw [fzL] at e; cases e; exact r
      | cons x xs ihx=>
        intro ps' vs r e
        obtain ⟨v,t,rfl,r1,r2⟩:=r
        rw [fzL] at e
        cases e1:fz tr0.length st k x with
        | none=>rw [e1] at e; cases e
        | some y=>
          rw [e1] at e
          have e:(fzL tr0.length st k xs).map (y :: ·)=some ps':=e
          cases e2:fzL tr0.length st k xs with
          | none=>rw [e2] at e; cases e
          | some ys=>
            rw [e2] at e
            cases e
            exact ⟨v,t,rfl,ih r1 e1,ihx r2 e2⟩
    intro p p' v r e
    cases p with
    | non=>rw [fz] at e; cases e; exact r
    | bl b=>rw [fz] at e; cases e; exact r
    | int i=>rw [fz] at e; cases e; exact r
    | str x=>rw [fz] at e; cases e; exact r
    | tup xs=>
      rw [fz] at e
      obtain ⟨a,vs,e1,ha,na,ra⟩:=r
      cases e2:fzL tr0.length st k xs with
      | none=>rw [e2] at e; cases e
      | some ys=>rw [e2] at e; cases e; exact ⟨a,vs,e1,ha,out a na,hL ra e2⟩
    | lst xs=>
      rw [fz] at e
      obtain ⟨a,vs,e1,ha,na,ra⟩:=r
      cases e2:fzL tr0.length st k xs with
      | none=>rw [e2] at e; cases e
      | some ys=>rw [e2] at e; cases e; exact ⟨a,vs,e1,ha,out a na,hL ra e2⟩
    | fro xs=>
      rw [fz] at e
      obtain ⟨a,vs,e1,ha,na,ra⟩:=r
      cases e2:fzL tr0.length st k xs with
      | none=>rw [e2] at e; cases e
      | some ys=>rw [e2] at e; cases e; exact ⟨a,vs,e1,ha,out a na,hL ra e2⟩
    | dic=>
      rw [fz] at e
      cases e
      obtain ⟨a,e1,ha,na⟩:=r
      exact ⟨a,e1,ha,out a na⟩
    | ref i=>
      rw [fz] at e
      obtain ⟨a,ea,rfl⟩:=r
      by_cases hi:i < tr0.length
      · rw [if_pos hi] at e
        cases e
        rw [ht,List.getElem?_append_left hi] at ea
        exact ⟨a,ea,rfl⟩
      · rw [if_neg hi] at e
        split at e
        · rename_i xs hs'
          obtain ⟨b,vs,f1,f2,f3⟩:=R.lst hs'
          rw [ea] at f1; cases f1
          cases e2:fzL tr0.length st k xs with
          | none=>rw [e2] at e; cases e
          | some ys=>
            rw [e2] at e; cases e
            refine ⟨a,vs,rfl,f2,fun z=>?_,hL f3 e2⟩
            rcases z with z | z
            · have z:a ∈ tr0:=z
              obtain ⟨j,hj,ej⟩:=List.getElem_of_mem z
              have g1:ρ.tr[j]?=some a:=by rw [ht,List.getElem?_append_left hj,List.getElem?_eq_getElem hj,ej]
              have l1:=List.getElem?_eq_some_iff.mp g1
              have l2:=List.getElem?_eq_some_iff.mp ea
              have:=nodup_inj R.nd l1.1 l2.1 (l1.2.trans l2.2.symm)
              omega
            · exact R.ap a (hh a z) (List.mem_of_getElem? ea)
        · cases e
mutual
def bel (n:Nat):PV->Prop
  | .tup xs=>belL n xs
  | .lst xs=>belL n xs
  | .fro xs=>belL n xs
  | .ref i=>i < n
  | _=>True
def belL (n:Nat):List PV->Prop
  | []=>True
  | x :: xs=>bel n x/\belL n xs
end
mutual
theorem Rep.bel:∀ {p:PV} {v:V},Rep H ρ p v->bel ρ.tr.length p
  | .non,_,_=>by simp [Sm.bel]
  | .bl _,_,_=>by simp [Sm.bel]
  | .int _,_,_=>by simp [Sm.bel]
  | .str _,_,_=>by simp [Sm.bel]
  | .tup ps,_,⟨_,_,_,_,_,r⟩=>by rw [Sm.bel]; exact RepL.bel r
  | .lst ps,_,⟨_,_,_,_,_,r⟩=>by rw [Sm.bel]; exact RepL.bel r
  | .fro ps,_,⟨_,_,_,_,_,r⟩=>by rw [Sm.bel]; exact RepL.bel r
  | .ref i,_,⟨_,e,_⟩=>by rw [Sm.bel]; exact (List.getElem?_eq_some_iff.mp e).1
  | .dic,_,_=>by simp [Sm.bel]
theorem RepL.bel:∀ {ps:List PV} {vs:List V},RepL H ρ ps vs->belL ρ.tr.length ps
  | [],_,_=>by simp [belL]
  | p :: ps,_,⟨_,_,_,r1,r2⟩=>by rw [belL]; exact ⟨Rep.bel r1,RepL.bel r2⟩
end
mutual
theorem Rep.less (ht:ρ.tr=tr0 ++ rest) (hh:∀ a,a ∈ hs->a ∈ ρ.hid):∀ {p:PV} {v:V},Sm.bel tr0.length p->Rep H ρ p v->Rep H ⟨tr0,hs⟩ p v
  | .non,_,_,r=>r
  | .bl _,_,_,r=>r
  | .int _,_,_,r=>r
  | .str _,_,_,r=>r
  | .tup ps,_,b,⟨a,vs,e,ha,na,r⟩=>⟨a,vs,e,ha,fun z=>na (z.imp (fun z=>by rw [ht]; exact List.mem_append_left _ z) (hh a)),RepL.less ht hh (by rw [Sm.bel] at b; exact b) r⟩
  | .lst ps,_,b,⟨a,vs,e,ha,na,r⟩=>⟨a,vs,e,ha,fun z=>na (z.imp (fun z=>by rw [ht]; exact List.mem_append_left _ z) (hh a)),RepL.less ht hh (by rw [Sm.bel] at b; exact b) r⟩
  | .fro ps,_,b,⟨a,vs,e,ha,na,r⟩=>⟨a,vs,e,ha,fun z=>na (z.imp (fun z=>by rw [ht]; exact List.mem_append_left _ z) (hh a)),RepL.less ht hh (by rw [Sm.bel] at b; exact b) r⟩
  | .ref i,_,b,⟨a,e,e2⟩=>⟨a,by rw [Sm.bel] at b; rw [ht,List.getElem?_append_left b] at e; exact e,e2⟩
  | .dic,_,_,⟨a,e,ha,na⟩=>⟨a,e,ha,fun z=>na (z.imp (fun z=>by rw [ht]; exact List.mem_append_left _ z) (hh a))⟩
theorem RepL.less (ht:ρ.tr=tr0 ++ rest) (hh:∀ a,a ∈ hs->a ∈ ρ.hid):∀ {ps:List PV} {vs:List V},belL tr0.length ps->RepL H ρ ps vs->RepL H ⟨tr0,hs⟩ ps vs
  | [],_,_,r=>r
  | p :: ps,_,b,⟨v,t,e,r1,r2⟩=>by
    rw [belL] at b
    exact ⟨v,t,e,Rep.less ht hh b.1 r1,RepL.less ht hh b.2 r2⟩
end
end
theorem rel_back {H H':Hp} {ρ ρ':Tk} {st st':Store} (R:Rel H ρ st) (x:Ext H ρ H' ρ') (R':Rel H' ρ' st') (hp:st <+: st'):Ext H ρ H' ρ/\Rel H' ρ st:=by
  obtain ⟨rest,ht⟩:=x.pre
  obtain ⟨more,hm⟩:=hp
  refine ⟨⟨List.prefix_refl _,fun _ h=>h,fun _ h=>.inl h,x.keep,fun _ h=>.inl h,x.old,x.frz⟩,R.len,R.nd,fun a ha=>let ⟨o,e,n⟩:=R.hd a ha; ⟨o,x.keep a o e (R.ap a ha),n⟩,R.ap,fun i a c h1 h2=>?_⟩
  have hi:i < st.length:=(List.getElem?_eq_some_iff.mp h2).1
  have q:=R'.cell i a c (by rw [<- ht,List.getElem?_append_left (List.getElem?_eq_some_iff.mp h1).1]; exact h1) (by rw [<- hm,List.getElem?_append_left hi]; exact h2)
  have q0:=R.cell i a c h1 h2
  cases c with
  | lst ps=>
    obtain ⟨vs,e1,e2⟩:=q
    obtain ⟨us,_,f2⟩:=q0
    exact ⟨vs,e1,RepL.less (ρ:=ρ') (tr0:=ρ.tr) (hs:=ρ.hid) ht.symm x.hidM f2.bel e2⟩
  | dic ps=>
    obtain ⟨vs,e1,e2⟩:=q
    obtain ⟨us,_,f2⟩:=q0
    exact ⟨vs,e1,e2.1,RepL.less (ρ:=ρ') (tr0:=ρ.tr) (hs:=ρ.hid) ht.symm x.hidM f2.2.bel e2.2⟩
  | dtp ps=>
    obtain ⟨vs,e1,e2⟩:=q
    obtain ⟨us,_,f2⟩:=q0
    exact ⟨vs,e1,e2.1,RepL.less (ρ:=ρ') (tr0:=ρ.tr) (hs:=ρ.hid) ht.symm x.hidM f2.2.bel e2.2⟩
  | frd ps=>
    obtain ⟨vs,e1,e2⟩:=q
    obtain ⟨us,_,f2⟩:=q0
    exact ⟨vs,e1,e2.1,RepL.less (ρ:=ρ') (tr0:=ρ.tr) (hs:=ρ.hid) ht.symm x.hidM f2.2.bel e2.2⟩
  | obj C ps=>
    obtain ⟨vs,e1,e2⟩:=q
    obtain ⟨us,_,f2⟩:=q0
    exact ⟨vs,e1,e2.1,RepL.less (ρ:=ρ') (tr0:=ρ.tr) (hs:=ρ.hid) ht.symm x.hidM f2.2.bel e2.2⟩
abbrev FN:=List PV->Store->Res PV
open Classical in
def fin (st:Store) (v:PV) (st':Store):Res PV:=if st <+: st' then okO st (fz st.length st' 16 v) else .ok v st'
open Classical in
def finX (st:Store) (x:Exc) (st':Store):Res PV:=if st <+: st' then (match x.fs with
  | none=>.exc x st
  | some (n,p)=>match fz st.length st' 16 p with
    | some q=>.exc ⟨x.cls,some (n,q)⟩ st
    | none=>.stuck) else .exc x st'
def callF (body:MS) (nl:Nat):FN:=fun ps st=>match body (ps.map some ++ List.replicate (nl - ps.length) none) st with
  | .rt v st'=>fin st v st'
  | .nx _ st'=>fin st .non st'
  | .exc x st'=>finX st x st'
  | _=>.stuck
theorem fin_acc {mg:Str->Option Value} {E:XK} {H:Hp} {ρ:Tk} {st st':Store} {Q:VK} {p:PV} (R:Rel H ρ st) (h:Acc mg E H ρ (QV Q) (fin st p st')):∀ v H' ρ',Ext H ρ H' ρ'->Rel H' ρ' st'->Rep H' ρ' p v->Q v H':=fun v H' ρ' x R' r=>by
  unfold fin at h
  by_cases hp:st <+: st'
  · rw [if_pos hp] at h
    cases e:fz st.length st' 16 p with
    | none=>rw [e] at h; exact h.elim
    | some q=>
      rw [e] at h
      obtain ⟨x2,R2⟩:=rel_back R x R' hp
      obtain ⟨rest,ht⟩:=x.pre
      rw [<- R.len] at e
      exact h H' ρ x2 R2 v (fz_rep (tr0:=ρ.tr) (hs:=ρ.hid) R' ht.symm x.hidM 16 r e)
  · rw [if_neg hp] at h
    exact h H' ρ' x R' v r
def spF (mg:Str->Option Value) (n:Nat) (F:FN):Sp:=fun vs H Q E=>vs.length=n/\∃ ρ st ps,Rel H ρ st/\RepL H ρ ps vs/\Acc mg E H ρ (QV Q) (F ps st)
theorem start_env {H:Hp} {ρ:Tk} {N:List Str} {ps:List PV} {vs:List V} (r:RepL H ρ ps vs):EnvR H ρ (ps.map some ++ List.replicate (N.length - ps.length) none) (L2.start N vs):=by
  have hl:=r.length
  unfold L2.start
  refine ⟨by simp [hl],fun i p e=>?_⟩
  by_cases hi:i < ps.length
  · rw [List.getElem?_append_left (by simpa using hi),List.getElem?_map] at e
    rw [List.getElem?_append_left (by simp; omega),List.getElem?_map]
    cases q:ps[i]? with
    | none=>rw [q] at e; cases e
    | some p'=>
      rw [q] at e
      cases e
      obtain ⟨v,e1,e2⟩:=r.get q
      exact ⟨v,by rw [e1]; rfl,e2⟩
  · rw [List.getElem?_append_right (by simpa using hi),List.getElem?_replicate] at e
    split at e <;> cases e
section
variable {P:Program} {w:World} {K:PySem.W.Frag} {mg:Str->Option Value} {base:Heap}
theorem fun_ok {x qual:Str} {st:Stmt} {f:Addr} {fd:FuncData} {N ps:List Str} {k:Nat} {m:MS} (F:Fun K x qual st f fd) (S:FnScope N ps (defScope st))
    (hb:∀ (cdv:Value) (A:Around) (outer:List PySem.Env) (s:Shared) (H:Hp) (E:XK),Room k (A.deeper (PyProof.Rows.envOfC qual (defScope st) s.heap.objs.size f cdv))->SimB (cxD P w K mg base N qual (defScope st) f cdv A outer s H E) E (defBody st) m) :
    FnOk P w K mg base (CXD P w) (k + 1) f fd ps (spF mg ps.length (callF m N.length)):=by
  refine Fun.okD F S (fun vs H Q E h=>h.1) fun cdv A outer s H vs Q E hr hsp=>⟨_,pss_w,?_⟩
  obtain ⟨hl,ρ,st0,pvs,R,rl,hA⟩:=hsp
  refine (hb cdv A outer s H E hr).run _ (L2.start N vs) H ρ st0 _ R (start_env rl) ?_
  unfold callF at hA
  cases rr:m (pvs.map some ++ List.replicate (N.length - pvs.length) none) st0 with
  | rt v st1=>rw [rr] at hA; exact fin_acc R hA
  | nx Γ st1=>rw [rr] at hA; exact fun σ' H' ρ' x' R' G'=>fin_acc R hA .non H' ρ' x' R' rfl
  | bk Γ st1=>rw [rr] at hA; exact hA.elim
  | ct Γ st1=>rw [rr] at hA; exact hA.elim
  | stuck=>rw [rr] at hA; exact hA.elim
  | exc y st1=>
    rw [rr] at hA
    have hA:Acc mg E H ρ (QV Q) (finX st0 y st1):=hA
    intro C dv H' ρ' hm x' R' hf
    unfold finX at hA
    by_cases hp:st0 <+: st1
    · rw [if_pos hp] at hA
      obtain ⟨x2,R2⟩:=rel_back R x' R' hp
      obtain ⟨cls,fs⟩:=y
      cases fs with
      | none=>exact hA C dv H' ρ hm x2 R2 hf
      | some np=>
        obtain ⟨nm,p⟩:=np
        simp only at hA
        cases e:fz st0.length st1 16 p with
        | none=>rw [e] at hA; exact hA.elim
        | some q=>
          rw [e] at hA
          obtain ⟨rest,ht⟩:=x'.pre
          rw [<- R.len] at e
          obtain ⟨dx,v,e1,e2,e3,e4⟩:=hf
          refine hA C dv H' ρ hm x2 R2 ⟨dx,v,e1,e2,fun z=>e3 (z.imp (fun z=>by rw [<- ht]; exact List.mem_append_left _ z) (x'.hidM dx)),fz_rep (tr0:=ρ.tr) (hs:=ρ.hid) R' ht.symm x'.hidM 16 e4 e⟩
    · rw [if_neg hp] at hA
      exact hA C dv H' ρ' hm x' R' hf
end
theorem fun_ok2 {P:Program} {w:World} {K:PySem.W.Frag} {mg:Str->Option Value} {base:Heap} {x qual:Str} {st:Stmt} {f:Addr} {fd:FuncData} {N ps:List Str} {k n nl:Nat} {m:MS} {FF:FN} (F:Fun K x qual st f fd) (S:FnScope N ps (defScope st)) (hn:ps.length=n) (hnl:N.length=nl) (hF:FF=callF m nl)
    (hb:∀ (cdv:Value) (A:Around) (outer:List PySem.Env) (s:Shared) (H:Hp) (E:XK),Room k (A.deeper (PyProof.Rows.envOfC qual (defScope st) s.heap.objs.size f cdv))->SimB (cxD P w K mg base N qual (defScope st) f cdv A outer s H E) E (defBody st) m) :
    FnOk P w K mg base (CXD P w) (k + 1) f fd ps (spF mg n FF):=by
  subst hn; subst hnl; subst hF
  exact fun_ok F S hb
structure DefS (P:Program) (w:World) (K:PySem.W.Frag) (mg:Str->Option Value) (base:Heap) (k:Nat) (x:Str) (n:Nat) (F:FN):Prop where
  ex:∃ (f:Addr) (fd:FuncData) (ps:List Str),FnOk P w K mg base (CXD P w) k f fd ps (spF mg n F)/\mg x=some (.ref f)/\PySem.W.keepIn K (.ref f)=true/\Binds K fd ps []/\ps.length=n
def mCallF (n:Nat) (F:FN) (mr:Gam->Store->Res (List PV)):ME:=fun Γ st=>(mr Γ st).bind fun ps st1=>if ps.length=n then F ps st1 else .stuck
section
variable {X:Cx} {E:XK} {k n:Nat} {x:Str} {F:FN} {p pos:Pos} {e:Expr} {es:List Expr} {mr:Gam->Store->Res (List PV)}
theorem se_call (D:DefS X.prog X.w X.K X.mg X.base k x n F) (hr:Room k X.A) (hx:Passes (CXD X.prog X.w) X E) (hg:Gl X x) (ha:SimA X E (e :: es) mr) (hdb:(x == ("__debug__" : Str))=false:=by decide)
    (he:starEach (e :: es) X.env=(false,eval e X.env) :: starEach es X.env:=by rfl) (hpl:(backTo pos (starEach es X.env)).any (·.1)=false:=by rfl):SimE X E (.Call (.Name x p) (e :: es) [] pos) (mCallF n F mr):=by
  obtain ⟨f,fd,ps,hF,hm,hk,hb,hl⟩:=D.ex
  exact ⟨fun Γ σ H ρ st Q R G h=>WE.of (pe_call hF hr hg hm hk hb .nil hx pa_w hdb he hpl) (ha.use R G h.bind fun qs st1 H1 ρ1 vs x1 R1 G1 r1 h1=>by
    by_cases hq:qs.length=n
    · rw [if_pos hq] at h1
      show spF X.mg n F (vs ++ []) H1 Q E
      rw [List.append_nil]
      exact ⟨by rw [<- r1.length]; exact hq,ρ1,st1,qs,R1,r1,h1⟩
    · rw [if_neg hq] at h1; exact h1.elim)⟩
end
end Sm
namespace Sm
open PySem PySem.Spec L2
@[simp] theorem bind_ok {α β:Type} (a:α) (st:Store) (f:α->Store->Res β):(Res.ok a st).bind f=f a st:=rfl
@[simp] theorem bind_stuck {α β:Type} (f:α->Store->Res β):(Res.stuck:Res α).bind f=.stuck:=rfl
@[simp] theorem bind_exc {α β:Type} (x:Exc) (st:Store) (f:α->Store->Res β):(Res.exc x st:Res α).bind f=.exc x st:=rfl
@[simp] theorem sbind_ok {α:Type} (a:α) (st:Store) (f:α->Store->SR):(Res.ok a st).sbind f=f a st:=rfl
@[simp] theorem sbind_stuck {α:Type} (f:α->Store->SR):(Res.stuck:Res α).sbind f=.stuck:=rfl
@[simp] theorem sbind_exc {α:Type} (x:Exc) (st:Store) (f:α->Store->SR):(Res.exc x st:Res α).sbind f=.exc x st:=rfl
@[simp] theorem mVar_eq (i:Nat) (Γ:Gam) (st:Store):mVar i Γ st=(match Γ[i]? with | some (some p)=>.ok p st | _=>.stuck):=rfl
@[simp] theorem mC_eq (p:PV) (Γ:Gam) (st:Store):mC p Γ st=.ok p st:=rfl
@[simp] theorem mOp_eq (o:OP) (a b:ME) (Γ:Gam) (st:Store):mOp o a b Γ st=(a Γ st).bind fun x st1=>(b Γ st1).bind fun y st2=>o st2 x y:=rfl
@[simp] theorem asB_bl (b:Bool) (st:Store):asB (.bl b) st=.ok b st:=rfl
@[simp] theorem toB_eq (m:ME) (Γ:Gam) (st:Store):toB m Γ st=(m Γ st).bind asB:=rfl
def selB {α:Type} (x:PV) (A B:Res α):Res α:=match x with
  | .bl true=>A
  | .bl false=>B
  | _=>.stuck
@[simp] theorem selB_bl {α:Type} (b:Bool) (A B:Res α):selB (.bl b) A B=if b=true then A else B:=by cases b <;> rfl
@[simp] theorem mChain_eq (o o':OP) (a b c:ME) (Γ:Gam) (st:Store):mChain o o' a b c Γ st=(a Γ st).bind fun x st1=>(b Γ st1).bind fun y st2=>(o st2 x y).bind fun k st3=>selB k ((c Γ st3).bind fun z st4=>o' st4 y z) (.ok (.bl false) st3):=by
  unfold mChain
  refine congrArg _ (funext fun x=>funext fun st1=>congrArg _ (funext fun y=>funext fun st2=>congrArg _ (funext fun k=>funext fun st3=>?_)))
  cases k with
  | bl b=>cases b <;> rfl
  | _=>rfl
@[simp] theorem mAnd_eq (a b:ME) (Γ:Gam) (st:Store):mAnd a b Γ st=(a Γ st).bind fun x st1=>selB x (b Γ st1) (.ok (.bl false) st1):=by
  unfold mAnd
  refine congrArg _ (funext fun x=>funext fun st1=>?_)
  cases x with
  | bl b=>cases b <;> rfl
  | _=>rfl
@[simp] theorem mOr_eq (a b:ME) (Γ:Gam) (st:Store):mOr a b Γ st=(a Γ st).bind fun x st1=>selB x (.ok (.bl true) st1) (b Γ st1):=by
  unfold mOr
  refine congrArg _ (funext fun x=>funext fun st1=>?_)
  cases x with
  | bl b=>cases b <;> rfl
  | _=>rfl
@[simp] theorem mNot_eq (a:ME) (Γ:Gam) (st:Store):mNot a Γ st=(a Γ st).bind fun x st1=>(match x with | .bl k=>.ok (.bl (!k)) st1 | _=>.stuck):=rfl
@[simp] theorem mNeg_eq (a:ME) (Γ:Gam) (st:Store):mNeg a Γ st=(a Γ st).bind fun x st1=>(match x with | .int k=>.ok (.int (-k)) st1 | _=>.stuck):=rfl
@[simp] theorem tAndM_eq (a b:MT) (Γ:Gam) (st:Store):tAndM a b Γ st=(a Γ st).bind fun k st1=>if k=true then b Γ st1 else .ok false st1:=rfl
@[simp] theorem tOrM_eq (a b:MT) (Γ:Gam) (st:Store):tOrM a b Γ st=(a Γ st).bind fun k st1=>if k=true then .ok true st1 else b Γ st1:=rfl
@[simp] theorem tNotM_eq (a:MT) (Γ:Gam) (st:Store):tNotM a Γ st=(a Γ st).bind fun k st1=>.ok (!k) st1:=rfl
@[simp] theorem mNil_eq (Γ:Gam) (st:Store):mNil Γ st=.ok [] st:=rfl
@[simp] theorem mCons_eq (m:ME) (mr:ML) (Γ:Gam) (st:Store):mCons m mr Γ st=(m Γ st).bind fun p st1=>(mr Γ st1).bind fun ps st2=>.ok (p :: ps) st2:=rfl
@[simp] theorem mTup_eq (mr:ML) (Γ:Gam) (st:Store):mTup mr Γ st=(mr Γ st).bind fun ps st1=>if ps.length<=lim then .ok (.tup ps) st1 else .stuck:=rfl
@[simp] theorem mLst_eq (mr:ML) (Γ:Gam) (st:Store):mLst mr Γ st=(mr Γ st).bind fun ps st1=>if ps.length<=lim then .ok (.lst ps) st1 else .stuck:=rfl
@[simp] theorem mLstN_eq (mr:ML) (Γ:Gam) (st:Store):mLstN mr Γ st=(mr Γ st).bind fun ps st1=>if ps.length<=lim then .ok ps st1 else .stuck:=rfl
@[simp] theorem mSl_eq (m:ME) (l h:Gam->Store->Res (Option Int)) (Γ:Gam) (st:Store):mSl m l h Γ st=(m Γ st).bind fun p st1=>(l Γ st1).bind fun lo st2=>(h Γ st2).bind fun hi st3=>oSl st3 p lo hi:=rfl
@[simp] theorem mNoPart_eq (Γ:Gam) (st:Store):mNoPart Γ st=.ok none st:=rfl
@[simp] theorem mPart_eq (m:ME) (Γ:Gam) (st:Store):mPart m Γ st=(m Γ st).bind fun p st1=>(match p with | .int i=>.ok (some i) st1 | _=>.stuck):=rfl
@[simp] theorem mCall_eq (o:CF) (mr:ML) (Γ:Gam) (st:Store):mCall o mr Γ st=(mr Γ st).bind fun ps st1=>o st1 ps:=rfl
@[simp] theorem mIsI_eq (T:String) (m:ME) (Γ:Gam) (st:Store):mIsI T m Γ st=(m Γ st).bind fun p st1=>if frzd st1 p=true then .stuck else .ok (.bl (isI T (dpv st1 p))) st1:=rfl
@[simp] theorem frzd_non (st:Store):frzd st .non=false:=rfl
@[simp] theorem frzd_bl (st:Store) (b:Bool):frzd st (.bl b)=false:=rfl
@[simp] theorem frzd_int (st:Store) (b:Int):frzd st (.int b)=false:=rfl
@[simp] theorem frzd_str (st:Store) (b:Str):frzd st (.str b)=false:=rfl
@[simp] theorem frzd_tup (st:Store) (b:List PV):frzd st (.tup b)=false:=rfl
@[simp] theorem frzd_lst (st:Store) (b:List PV):frzd st (.lst b)=false:=rfl
@[simp] theorem frzd_fro (st:Store) (b:List PV):frzd st (.fro b)=false:=rfl
@[simp] theorem frzd_dic (st:Store):frzd st .dic=false:=rfl
@[simp] theorem frzd_ref (st:Store) (i:Nat):frzd st (.ref i)=(match st[i]? with | some (.frd _)=>true | some (.obj _ _)=>true | _=>false):=rfl
@[simp] theorem dpv_non (st:Store):dpv st .non=.non:=rfl
@[simp] theorem dpv_bl (st:Store) (b:Bool):dpv st (.bl b)=(.bl b):=rfl
@[simp] theorem dpv_int (st:Store) (b:Int):dpv st (.int b)=(.int b):=rfl
@[simp] theorem dpv_str (st:Store) (b:Str):dpv st (.str b)=(.str b):=rfl
@[simp] theorem dpv_tup (st:Store) (b:List PV):dpv st (.tup b)=(.tup b):=rfl
@[simp] theorem dpv_lst (st:Store) (b:List PV):dpv st (.lst b)=(.lst b):=rfl
@[simp] theorem dpv_fro (st:Store) (b:List PV):dpv st (.fro b)=(.fro b):=rfl
@[simp] theorem dpv_dc (st:Store):dpv st .dic=.dic:=rfl
@[simp] theorem dpv_r (st:Store) (i:Nat):dpv st (.ref i)=(match st[i]? with | some (.dic _)=>.dic | some (.dtp _)=>.dic | _=>.ref i):=rfl
@[simp] theorem mVal_eq (m:ML) (Γ:Gam) (st:Store):mVal m Γ st=(m Γ st).bind fun ps st1=>.ok (.lst ps) st1:=rfl
@[simp] theorem mTrk_eq (m:ML) (Γ:Gam) (st:Store):mTrk m Γ st=(m Γ st).bind fun ps st1=>.ok (.ref st1.length) (st1 ++ [.lst ps]):=rfl
@[simp] theorem mCompN_eq (cap:List (Option Nat)) (ga:GA) (mi:MI) (mt:MT) (me:ME) (Γ:Gam) (st:Store):mCompN cap ga mi mt me Γ st=(mi Γ st).bind fun iw st1=>noX (compG ga mt me iw.2 (capG cap Γ) iw.1 st1):=rfl
@[simp] theorem mTrue_eq (Γ:Gam) (st:Store):mTrue Γ st=.ok true st:=rfl
@[simp] theorem mCallF_eq (n:Nat) (F:FN) (mr:ML) (Γ:Gam) (st:Store):mCallF n F mr Γ st=(mr Γ st).bind fun ps st1=>if ps.length=n then F ps st1 else .stuck:=rfl
@[simp] theorem mNext_eq (Γ:Gam) (st:Store):mNext Γ st=.nx Γ st:=rfl
@[simp] theorem mSeqS_eq (a b:MS) (Γ:Gam) (st:Store):mSeqS a b Γ st=(match a Γ st with | .nx Γ1 st1=>b Γ1 st1 | r=>r):=rfl
@[simp] theorem mExpr_eq (m:ME) (Γ:Gam) (st:Store):mExpr m Γ st=(m Γ st).sbind fun _ st1=>.nx Γ st1:=rfl
@[simp] theorem mRet_eq (m:ME) (Γ:Gam) (st:Store):mRet m Γ st=(m Γ st).sbind fun p st1=>.rt p st1:=rfl
@[simp] theorem mSet_eq (i:Nat) (m:ME) (Γ:Gam) (st:Store):mSet i m Γ st=(m Γ st).sbind fun p st1=>.nx (Γ.set i (some p)) st1:=rfl
@[simp] theorem mIfS_eq (c:MT) (a b:MS) (Γ:Gam) (st:Store):mIfS c a b Γ st=(c Γ st).sbind fun k st1=>if k=true then a Γ st1 else b Γ st1:=rfl
@[simp] theorem mFor_eq (ga:GA) (mi:MI) (b:MS) (Γ:Gam) (st:Store):mFor ga mi b Γ st=(mi Γ st).sbind fun iw st1=>forG ga b iw.2 iw.1 Γ st1:=rfl
@[simp] theorem mSeq_eq (m:ME) (Γ:Gam) (st:Store):mSeq m Γ st=(m Γ st).bind fun p st1=>(match srcOf st1 p with | some (xs,w)=>if xs.length<=lim then .ok (xs,w) st1 else .stuck | none=>.stuck):=rfl
@[simp] theorem mRange1_eq (mr:ML) (Γ:Gam) (st:Store):mRange1 mr Γ st=(mr Γ st).bind fun ps st1=>(match ps with | [.int j]=>if -(lim:Int)<=j/\j<=lim then .ok (rangeI 0 j.toNat,[]) st1 else .stuck | _=>.stuck):=rfl
@[simp] theorem mBM_eq (f:MF) (mo:ME) (mr:ML) (Γ:Gam) (st:Store):mBM f mo mr Γ st=(mo Γ st).bind fun p st1=>(match listOf st1 p with | some _=>(mr Γ st1).bind fun ps st2=>f st2 p ps | none=>.stuck):=rfl
@[simp] theorem mAsg_eq (ga:GA) (m:ME) (Γ:Gam) (st:Store):mAsg ga m Γ st=(m Γ st).sbind fun p st1=>(match ga p Γ with | some Γ1=>.nx Γ1 st1 | none=>.stuck):=rfl
@[simp] theorem mSetIx_eq (mo mi m:ME) (Γ:Gam) (st:Store):mSetIx mo mi m Γ st=(m Γ st).sbind fun p st1=>(mo Γ st1).sbind fun o st2=>(mi Γ st2).sbind fun i st3=>(match setIx st3 o i p with | some st4=>.nx Γ st4 | none=>.stuck):=rfl
@[simp] theorem mRaise_eq (x:Str) (m:ME) (Γ:Gam) (st:Store):mRaise x m Γ st=(m Γ st).sbind fun _ st1=>.exc ⟨x,none⟩ st1:=rfl
@[simp] theorem gaName_eq (i:Nat) (p:PV) (Γ:Gam):gaName i p Γ=some (Γ.set i (some p)):=rfl
@[simp] theorem gaNil_eq (Γ:Gam):gaNil [] Γ=some Γ:=rfl
@[simp] theorem gaCons_eq (g:GA) (gs:GAs) (p:PV) (r:List PV) (Γ:Gam):gaCons g gs (p :: r) Γ=(g p Γ).bind (gs r):=rfl
@[simp] theorem gaTup_eq (gs:GAs) (ps:List PV) (Γ:Gam):gaTup gs (.tup ps) Γ=gs ps Γ:=rfl
@[simp] theorem noX_ok {α:Type} (a:α) (st:Store):noX (Res.ok a st)=.ok a st:=rfl
@[simp] theorem noX_stuck {α:Type}:noX (Res.stuck:Res α)=.stuck:=rfl
@[simp] theorem okO_some {α:Type} (st:Store) (a:α):okO st (some a)=.ok a st:=rfl
@[simp] theorem okO_none {α:Type} (st:Store):okO st (none:Option α)=.stuck:=rfl
@[simp] theorem oI_eq (g:Int->Int->PV) (st:Store) (a b:Int):oI g st (.int a) (.int b)=.ok (g a b) st:=rfl
@[simp] theorem oAdd_int (st:Store) (a b:Int):oAdd st (.int a) (.int b)=.ok (.int (a + b)) st:=rfl
@[simp] theorem oAdd_tup (st:Store) (a b:List PV):oAdd st (.tup a) (.tup b)=if a.length + b.length<=lim then .ok (.tup (a ++ b)) st else .stuck:=rfl
@[simp] theorem oMul_int (st:Store) (a b:Int):oMul st (.int a) (.int b)=if (-(2 ^ 64) < a/\a < 2 ^ 64)\/(-(2 ^ 64) < b/\b < 2 ^ 64) then .ok (.int (a * b)) st else .stuck:=rfl
@[simp] theorem oMul_tup (st:Store) (xs:List PV) (b:Int):oMul st (.tup xs) (.int b)=if xs ≠ []/\1<=b/\xs.length * b.toNat<=4096 then .ok (.tup (List.replicate b.toNat xs).flatten) st else .stuck:=rfl
@[simp] theorem oMod_int (st:Store) (a b:Int):oMod st (.int a) (.int b)=if 0 < b then .ok (.int (a % b)) st else .stuck:=rfl
@[simp] theorem oPow_int (st:Store) (a b:Int):oPow st (.int a) (.int b)=if 0<=b/\b<=1000000/\a.natAbs < 2 ^ 64 then .ok (.int (a ^ b.toNat)) st else .stuck:=rfl
@[simp] theorem oLt_int (st:Store) (a b:Int):oLt st (.int a) (.int b)=.ok (.bl (decide (a < b))) st:=rfl
@[simp] theorem oEq_int (st:Store) (a b:Int):oEq st (.int a) (.int b)=.ok (.bl (a == b)) st:=rfl
@[simp] theorem oNe_int (st:Store) (a b:Int):oNe st (.int a) (.int b)=.ok (.bl (!(a == b))) st:=rfl
@[simp] theorem oEq_bl (st:Store) (a b:Bool):oEq st (.bl a) (.bl b)=.ok (.bl (a == b)) st:=rfl
@[simp] theorem oNe_bl (st:Store) (a b:Bool):oNe st (.bl a) (.bl b)=.ok (.bl (!(a == b))) st:=rfl
@[simp] theorem oEq_str (st:Store) (a b:Str):oEq st (.str a) (.str b)=.ok (.bl (a == b)) st:=rfl
@[simp] theorem oNe_str (st:Store) (a b:Str):oNe st (.str a) (.str b)=.ok (.bl (!(a == b))) st:=rfl
@[simp] theorem oIs_non (st:Store) (p:PV):oIs st p .non=.ok (.bl (isNon p)) st:=rfl
@[simp] theorem oIs_bl (st:Store) (a b:Bool):oIs st (.bl a) (.bl b)=.ok (.bl (a == b)) st:=rfl
@[simp] theorem oIsNot_non (st:Store) (p:PV):oIsNot st p .non=.ok (.bl (!isNon p)) st:=rfl
@[simp] theorem oIsNot_bl (st:Store) (a b:Bool):oIsNot st (.bl a) (.bl b)=.ok (.bl (a != b)) st:=rfl
@[simp] theorem lstOf_lst (st:Store) (xs:List PV):lstOf st (.lst xs)=some xs:=rfl
@[simp] theorem listOf_lst (st:Store) (xs:List PV):listOf st (.lst xs)=some xs:=rfl
@[simp] theorem listOf_fro (st:Store) (xs:List PV):listOf st (.fro xs)=some xs:=rfl
@[simp] theorem seqOf_lst (st:Store) (xs:List PV):seqOf st (.lst xs)=some xs:=rfl
@[simp] theorem seqOf_fro (st:Store) (xs:List PV):seqOf st (.fro xs)=some xs:=rfl
@[simp] theorem seqOf_tup (st:Store) (xs:List PV):seqOf st (.tup xs)=some xs:=rfl
@[simp] theorem srcOf_lst (st:Store) (xs:List PV):srcOf st (.lst xs)=some (xs,[]):=rfl
@[simp] theorem srcOf_fro (st:Store) (xs:List PV):srcOf st (.fro xs)=some (xs,[]):=rfl
@[simp] theorem srcOf_tup (st:Store) (xs:List PV):srcOf st (.tup xs)=some (xs,[]):=rfl
@[simp] theorem oIx_tup (st:Store) (xs:List PV) (i:Int):oIx st (.tup xs) (.int i)=okO st (atI xs i):=rfl
@[simp] theorem oIx_lst (st:Store) (xs:List PV) (i:Int):oIx st (.lst xs) (.int i)=okO st (atI xs i):=rfl
@[simp] theorem oIx_fro (st:Store) (xs:List PV) (i:Int):oIx st (.fro xs) (.int i)=okO st (atI xs i):=rfl
@[simp] theorem oSl_tup (st:Store) (xs:List PV) (l h:Option Int):oSl st (.tup xs) l h=.ok (.tup (cut xs l h)) st:=rfl
@[simp] theorem oSl_lst (st:Store) (xs:List PV) (l h:Option Int):oSl st (.lst xs) l h=.ok (.lst (cut xs l h)) st:=rfl
@[simp] theorem oSl_fro (st:Store) (xs:List PV) (l h:Option Int):oSl st (.fro xs) l h=.ok (.lst (cut xs l h)) st:=rfl
@[simp] theorem cLen_tup (st:Store) (xs:List PV):cLen st [.tup xs]=.ok (.int xs.length) st:=rfl
@[simp] theorem cLen_lst (st:Store) (xs:List PV):cLen st [.lst xs]=.ok (.int xs.length) st:=rfl
@[simp] theorem cLen_fro (st:Store) (xs:List PV):cLen st [.fro xs]=.ok (.int xs.length) st:=rfl
@[simp] theorem cList_tup (st:Store) (xs:List PV):cList st [.tup xs]=.ok (.lst xs) st:=rfl
@[simp] theorem cList_lst (st:Store) (xs:List PV):cList st [.lst xs]=.ok (.lst xs) st:=rfl
@[simp] theorem cList_fro (st:Store) (xs:List PV):cList st [.fro xs]=.ok (.lst xs) st:=rfl
@[simp] theorem cTuple_tup (st:Store) (xs:List PV):cTuple st [.tup xs]=.ok (.tup xs) st:=rfl
@[simp] theorem cTuple_lst (st:Store) (xs:List PV):cTuple st [.lst xs]=.ok (.tup xs) st:=rfl
@[simp] theorem cBls_lst (g:List Bool->PV) (st:Store) (bs:List Bool):cBls g st [.lst (bs.map .bl)]=.ok (g bs) st:=by
  simp only [cBls,seqOf_lst,Option.bind_some,bls_map]
@[simp] theorem wOk_nil' (st:Store):wOk [] st=True:=by simp [wOk]
@[simp] theorem fin_bl (st:Store) (b:Bool):fin st (.bl b) st=.ok (.bl b) st:=by simp [fin,fz]
@[simp] theorem fin_int (st:Store) (b:Int):fin st (.int b) st=.ok (.int b) st:=by simp [fin,fz]
@[simp] theorem fin_non (st:Store):fin st .non st=.ok .non st:=by simp [fin,fz]
@[simp] theorem fin_str (st:Store) (b:Str):fin st (.str b) st=.ok (.str b) st:=by simp [fin,fz]
theorem fin_goodA {st more:Store} {v:PV} (g:good 12 v=true):fin st v (st ++ more)=.ok v st:=by
  simp only [fin,List.prefix_append,if_true,fz_good g (by decide:12 < 16),okO_some]
theorem lim_eq:lim=1000000:=rfl
theorem compG_on {α:Type} (g f:α->PV) {ga:GA} {me:ME} {w:Wt} {Γ0:Gam} {st:Store} (hw:wOk w st) {ys:List α} (h:∀ y ∈ ys,∃ Γ1,ga (g y) Γ0=some Γ1/\me Γ1 st=.ok (f y) st):compG ga mTrue me w Γ0 (ys.map g) st=.ok (ys.map f) st:=by
  induction ys with
  | nil=>simp [compG,hw]
  | cons y ys ih=>
    obtain ⟨Γ1,h1,h2⟩:=h y List.mem_cons_self
    have ih:=ih fun z hz=>h z (List.mem_cons_of_mem _ hz)
    rw [List.map_cons,compG,if_pos hw,h1]
    simp [h2,ih]
@[simp] theorem cBls_map {α:Type} (g:List Bool->PV) (st:Store) (ys:List α) (b:α->Bool):cBls g st [.lst (ys.map fun y=>.bl (b y))]=.ok (g (ys.map b)) st:=by
  rw [show (ys.map fun y=>PV.bl (b y))=(ys.map b).map .bl by rw [List.map_map]; rfl,cBls_lst]
theorem forG_inv {α:Type} (g:α->PV) {xs:List α} (I:Nat->Gam->Store->Prop) {ga:GA} {body:MS} {w:Wt} (hw:∀ i Γ st,I i Γ st->wOk w st)
    (h:∀ (i:Nat) x Γ st,xs[i]?=some x->I i Γ st->∃ Γ1,ga (g x) Γ=some Γ1/\∃ Γ2 st2,body Γ1 st=.nx Γ2 st2/\I (i + 1) Γ2 st2) {Γ:Gam} {st:Store} (h0:I 0 Γ st):∃ Γ' st',forG ga body w (xs.map g) Γ st=.nx Γ' st'/\I xs.length Γ' st':=by
  induction xs generalizing I Γ st with
  | nil=>exact ⟨Γ,st,by simp [forG,hw 0 Γ st h0],h0⟩
  | cons x xs ih=>
    obtain ⟨Γ1,h1,Γ2,st2,e2,i2⟩:=h 0 x Γ st rfl h0
    obtain ⟨Γ',st',e3,i3⟩:=ih (fun i=>I (i + 1)) (fun i Γ st z=>hw (i + 1) Γ st z) (fun i y Γ st hy z=>h (i + 1) y Γ st (by simpa using hy) z) i2
    refine ⟨Γ',st',?_,i3⟩
    rw [List.map_cons,forG,if_pos (hw 0 Γ st h0),h1]
    simp only [e2]
    exact e3
theorem atI_map {α:Type} (f:α->PV) (xs:List α) (i:Int):atI (xs.map f) i=(atI xs i).map f:=by
  unfold atI
  rw [List.length_map]
  cases ixN xs.length i with
  | none=>rfl
  | some j=>simp [List.getElem?_map]
theorem atI_get {α:Type} {xs:List α} {i:Nat} {x:α} (h:xs[i]?=some x):atI xs (i:Int)=some x:=by
  have hl:=(List.getElem?_eq_some_iff.mp h).1
  unfold atI ixN
  rw [if_pos (by omega),if_pos (by omega)]
  simpa using h
@[simp] theorem tr_get {α:Type} (st l:List α) (c:α):(st ++ c :: l)[st.length]?=some c:=by
  rw [List.getElem?_append_right (Nat.le_refl _),Nat.sub_self]; rfl
@[simp] theorem tr_get1 {α:Type} (st l:List α) (c d:α):(st ++ c :: d :: l)[st.length + 1]?=some d:=by
  rw [List.getElem?_append_right (by omega)]
  rw [show st.length + 1 - st.length=1 by omega]; rfl
@[simp] theorem tr_set {α:Type} (st l:List α) (c d:α):(st ++ c :: l).set st.length d=st ++ d :: l:=by
  rw [List.set_append_right _ _ (Nat.le_refl _),Nat.sub_self]; rfl
@[simp] theorem tr_set1 {α:Type} (st l:List α) (c c' d:α):(st ++ c :: c' :: l).set (st.length + 1) d=st ++ c :: d :: l:=by
  rw [List.set_append_right _ _ (by omega),show st.length + 1 - st.length=1 by omega]; rfl
@[simp] theorem chg_ref (st:Store) (i:Nat) (g:List PV->Option (PV × List PV)):chg st (.ref i) g=(match st[i]? with | some (.lst xs)=>(match g xs with | some (r,ys)=>.ok r (st.set i (.lst ys)) | none=>.stuck) | _=>.stuck):=rfl
@[simp] theorem lstOf_r (st:Store) (i:Nat):lstOf st (.ref i)=(match st[i]? with | some (.lst xs)=>some xs | _=>none):=rfl
@[simp] theorem listOf_r (st:Store) (i:Nat):listOf st (.ref i)=(match st[i]? with | some (.lst xs)=>some xs | _=>none):=rfl
@[simp] theorem seqOf_r (st:Store) (i:Nat):seqOf st (.ref i)=(match st[i]? with | some (.lst xs)=>some xs | _=>none):=rfl
@[simp] theorem srcOf_r (st:Store) (i:Nat):srcOf st (.ref i)=(match st[i]? with | some (.lst xs)=>some (xs,[(i,.lst xs)]) | _=>none):=rfl
@[simp] theorem mtAppend_eq (st:Store) (p y:PV):mtAppend st p [y]=chg st p fun xs=>if xs.length < lim then some (.non,xs ++ [y]) else none:=rfl
@[simp] theorem cTuple_r (st:Store) (i:Nat):cTuple st [.ref i]=(match st[i]? with | some (.lst xs)=>.ok (.tup xs) st | _=>.stuck):=by
  unfold cTuple; simp only [seqOf_r]
  cases st[i]? with
  | none=>rfl
  | some c=>cases c <;> rfl
@[simp] theorem cList_r (st:Store) (i:Nat):cList st [.ref i]=(match st[i]? with | some (.lst xs)=>.ok (.lst xs) st | _=>.stuck):=by
  unfold cList; simp only [seqOf_r]
  cases st[i]? with
  | none=>rfl
  | some c=>cases c <;> rfl
@[simp] theorem cLen_r (st:Store) (i:Nat):cLen st [.ref i]=(match st[i]? with | some (.lst xs)=>.ok (.int xs.length) st | _=>.stuck):=by
  unfold cLen; simp only [seqOf_r]
  cases st[i]? with
  | none=>rfl
  | some c=>cases c <;> rfl
@[simp] theorem oIx_r (st:Store) (i:Nat) (j:Int):oIx st (.ref i) (.int j)=(match st[i]? with | some (.lst xs)=>okO st (atI xs j) | _=>.stuck):=by
  unfold oIx; simp only [seqOf_r]
  cases st[i]? with
  | none=>rfl
  | some c=>cases c <;> rfl
@[simp] theorem setIx_r (st:Store) (k:Nat) (j:Int) (p:PV):setIx st (.ref k) (.int j) p=(match st[k]? with | some (.lst xs)=>(ixN xs.length j).map fun n=>st.set k (.lst (xs.set n p)) | _=>none):=rfl
theorem cut_front {α:Type} (xs:List α) (k:Nat):cut xs none (some (k:Int))=xs.take k:=by
  unfold cut
  rw [HT.sIx_none,HT.sIx_nat,List.drop_zero,Nat.sub_zero]
  rcases Nat.le_total k xs.length with h | h
  · rw [Nat.min_eq_left h]
  · rw [Nat.min_eq_right h,List.take_length,List.take_of_length_le h]
theorem cut_back {α:Type} (xs:List α) (k:Nat):cut xs (some (k:Int)) none=xs.drop k:=by
  unfold cut
  rw [HT.sIx_none,HT.sIx_nat]
  rcases Nat.le_total k xs.length with h | h
  · rw [Nat.min_eq_left h,List.take_of_length_le (by rw [List.length_drop]; omega)]
  · rw [Nat.min_eq_right h,List.drop_length,List.drop_of_length_le h]; simp
end Sm
namespace Sm
open PySem PySem.Spec L2
theorem getD_some {α:Type} {l:List α} {j:Nat} (h:j < l.length) (d:α):l[j]?=some (l.getD j d):=by
  rw [List.getD,List.getElem?_eq_getElem h]; rfl
def ListAt (st:Store) (V:PV) (xs:List PV):Prop:=V=.lst xs\/V=.fro xs\/∃ i,V=.ref i/\st[i]?=some (.lst xs)
theorem ListAt.ix {st:Store} {V:PV} {xs:List PV} (h:ListAt st V xs) (j:Int):oIx st V (.int j)=okO st (atI xs j):=by
  rcases h with rfl | rfl | ⟨i,rfl,e⟩
  · rfl
  · rfl
  · rw [oIx_r,e]
theorem compG_inv {α:Type} (g:α->PV) {xs:List α} (I:Nat->List PV->Store->Prop) {ga:GA} {me:ME} {w:Wt} {Γ0:Gam} (hw:∀ i out st,I i out st->wOk w st)
    (h:∀ (i:Nat) x out st,xs[i]?=some x->I i out st->∃ Γ1,ga (g x) Γ0=some Γ1/\∃ v st2,me Γ1 st=.ok v st2/\I (i + 1) (out ++ [v]) st2) {st:Store} (h0:I 0 [] st):∃ out st',compG ga mTrue me w Γ0 (xs.map g) st=.ok out st'/\I xs.length out st':=by
  have key:∀ (ys:List α) (k:Nat) (pre:List PV) (st:Store),(∀ i,ys[i]?=xs[k + i]?)->k + ys.length=xs.length->I k pre st->∃ out st',compG ga mTrue me w Γ0 (ys.map g) st=.ok out st'/\I xs.length (pre ++ out) st':=by
    intro ys
    induction ys with
    | nil=>
      intro k pre st e e2 i
      refine ⟨[],st,by simp [compG,hw k pre st i],?_⟩
      rw [List.append_nil,<- e2]; exact i
    | cons y ys ih=>
      intro k pre st e e2 i
      have e0:xs[k]?=some y:=by have:=e 0; simpa using this.symm
      obtain ⟨Γ1,h1,v,st2,h2,i2⟩:=h k y pre st e0 i
      obtain ⟨out,st',h3,i3⟩:=ih (k + 1) (pre ++ [v]) st2 (fun i=>by
        have:=e (i + 1)
        rw [List.getElem?_cons_succ] at this
        rw [this]; congr 1; omega) (by rw [<- e2,List.length_cons]; omega) i2
      refine ⟨v :: out,st',?_,by simpa using i3⟩
      rw [List.map_cons,compG,if_pos (hw k pre st i),h1]
      simp [mTrue,h2,h3]
  obtain ⟨out,st',h1,h2⟩:=key xs 0 [] st (fun i=>by simp) (by simp) h0
  exact ⟨out,st',h1,by simpa using h2⟩
@[simp] theorem mListN_eq (ma:ME) (Γ:Gam) (st:Store):mListN ma Γ st=(ma Γ st).bind fun p st1=>match seqOf st1 p with | some xs=>.ok xs st1 | none=>.stuck:=rfl
theorem ixN_nat {n k:Nat} (h:k < n):ixN n (k:Int)=some k:=by
  unfold ixN
  rw [if_pos (by omega),if_pos (by omega)]
  simp
theorem peqL_self:∀ {xs:List PV},(∀ x ∈ xs,peq x x=true)->peqL xs xs=true
  | [],_=>rfl
  | x :: xs,h=>by
    rw [peqL,h x List.mem_cons_self,peqL_self fun y hy=>h y (List.mem_cons_of_mem _ hy)]; rfl
theorem peq_self:∀ {n:Nat} {p:PV},good n p=true->peq p p=true
  | n,.non,_=>rfl
  | n,.bl b,_=>by simp [peq]
  | n,.int b,_=>by simp [peq]
  | n,.str b,_=>by simp [peq]
  | n,.ref _,g=>by cases n <;> simp [good] at g
  | n,.dic,g=>by cases n <;> simp [good] at g
  | 0,.tup _,g=>by simp [good] at g
  | 0,.lst _,g=>by simp [good] at g
  | 0,.fro _,g=>by simp [good] at g
  | n + 1,.tup xs,g=>by
    rw [peq]; refine peqL_self fun x hx=>peq_self (n:=n) ?_
    simp [good] at g; exact g x hx
  | n + 1,.lst xs,g=>by
    rw [peq]; refine peqL_self fun x hx=>peq_self (n:=n) ?_
    simp [good] at g; exact g x hx
  | n + 1,.fro xs,g=>by
    rw [peq]; refine peqL_self fun x hx=>peq_self (n:=n) ?_
    simp [good] at g; exact g x hx
end Sm
namespace Sm
open PySem PySem.Spec L2
section
variable {X:Cx} {E:XK} {a b:Expr} {ma mb:ME} {pos:Pos}
theorem boot_set:bootBuiltins "set" = some (.type "set"):=by decide +kernel
def mRevN (ma mb:ME):ML:=fun Γ st=>(ma Γ st).bind fun p st1=>(mb Γ st1).bind fun q st2=>match q,listOf st2 p with
  | .int i,some xs=>if i=-1 then .ok xs.reverse st2 else .stuck
  | _,_=>.stuck
theorem sn_rev {p2:Pos} (ha:SimE X E a ma) (hb:SimE X E b mb):SimN X E (.Subscript a (.Slice none none (some b) p2) pos) (mRevN ma mb):=
  ⟨fun Γ σ H ρ st P Q R G hq k=>WE.of (pe_rev pe_w pe_w) (ha.use' R G hq.bind fun p st1 H1 ρ1 v e1 x1 R1 G1 r1 h1=>hb.use' R1 G1 h1.bind fun q st2 H2 ρ2 u e2 x2 R2 G2 r2 h2=>by
    split at h2
    · rename_i i xs f
      split at h2
      · rename_i hi
        subst hi
        have eu:u=.int (-1):=r2
        subst eu
        obtain ⟨c,vs,rfl,hc,rc⟩:=list_at R2 (r1.ext x2) f
        refine ⟨rfl,c,vs,rfl,.inl hc,new_at (x1.trans x2) R2 rc.reverse fun H3 ρ3 z us=>k xs.reverse st2 H3 ρ3 z us ?_⟩
        unfold mRevN
        rw [e1]
        show (mb Γ st1).bind _=_
        rw [e2]
        show (match PV.int (-1),listOf st2 p with | .int i,some xs=>if i=-1 then Res.ok xs.reverse st2 else .stuck | _,_=>.stuck)=_
        rw [f]
        rfl
      · exact h2.elim
    · exact h2.elim)⟩
@[simp] theorem mRevN_eq (ma mb:ME) (Γ:Gam) (st:Store):mRevN ma mb Γ st=(ma Γ st).bind fun p st1=>(mb Γ st1).bind fun q st2=>match q,listOf st2 p with
  | .int i,some xs=>if i=-1 then .ok xs.reverse st2 else .stuck
  | _,_=>.stuck:=rfl
end
end Sm
namespace Sm
open PySem PySem.Spec L2
def callK (body:MS) (nl:Nat):FN:=fun ps st=>match body (ps.map some ++ List.replicate (nl - ps.length) none) st with
  | .rt v st'=>.ok v st'
  | .nx _ st'=>.ok .non st'
  | .exc x st'=>.exc x st'
  | _=>.stuck
section
variable {P:Program} {w:World} {K:PySem.W.Frag} {mg:Str->Option Value} {base:Heap}
theorem fun_okK {x qual:Str} {st:Stmt} {f:Addr} {fd:FuncData} {N ps:List Str} {k:Nat} {m:MS} (F:Fun K x qual st f fd) (S:FnScope N ps (defScope st))
    (hb:∀ (cdv:Value) (A:Around) (outer:List PySem.Env) (s:Shared) (H:Hp) (E:XK),Room k (A.deeper (PyProof.Rows.envOfC qual (defScope st) s.heap.objs.size f cdv))->SimB (cxD P w K mg base N qual (defScope st) f cdv A outer s H E) E (defBody st) m) :
    FnOk P w K mg base (CXD P w) (k + 1) f fd ps (spF mg ps.length (callK m N.length)):=by
  refine Fun.okD F S (fun vs H Q E h=>h.1) fun cdv A outer s H vs Q E hr hsp=>⟨_,pss_w,?_⟩
  obtain ⟨hl,ρ,st0,pvs,R,rl,hA⟩:=hsp
  refine (hb cdv A outer s H E hr).run _ (L2.start N vs) H ρ st0 _ R (start_env rl) ?_
  unfold callK at hA
  cases rr:m (pvs.map some ++ List.replicate (N.length - pvs.length) none) st0 with
  | rt v st1=>rw [rr] at hA; exact fun v H' ρ' x R' r=>hA H' ρ' x R' v r
  | nx Γ st1=>rw [rr] at hA; exact fun σ' H' ρ' x' R' G'=>hA H' ρ' x' R' .non rfl
  | bk Γ st1=>rw [rr] at hA; exact hA.elim
  | ct Γ st1=>rw [rr] at hA; exact hA.elim
  | stuck=>rw [rr] at hA; exact hA.elim
  | exc y st1=>rw [rr] at hA; exact hA
end
theorem fun_ok2K {P:Program} {w:World} {K:PySem.W.Frag} {mg:Str->Option Value} {base:Heap} {x qual:Str} {st:Stmt} {f:Addr} {fd:FuncData} {N ps:List Str} {k n nl:Nat} {m:MS} {FF:FN} (F:Fun K x qual st f fd) (S:FnScope N ps (defScope st)) (hn:ps.length=n) (hnl:N.length=nl) (hF:FF=callK m nl)
    (hb:∀ (cdv:Value) (A:Around) (outer:List PySem.Env) (s:Shared) (H:Hp) (E:XK),Room k (A.deeper (PyProof.Rows.envOfC qual (defScope st) s.heap.objs.size f cdv))->SimB (cxD P w K mg base N qual (defScope st) f cdv A outer s H E) E (defBody st) m) :
    FnOk P w K mg base (CXD P w) (k + 1) f fd ps (spF mg n FF):=by
  subst hn; subst hnl; subst hF
  exact fun_okK F S hb
end Sm
namespace Sm
open PySem PySem.Spec PyProof.Rows L2
section
variable {X:Cx} {E:XK} {pos:Pos} {a b:Expr} {ma mb:ME}
end
end Sm
namespace Sm
open PySem PySem.Spec L2
section
variable {X:Cx} {E:XK} {pos:Pos} {e:Expr} {m:ME}
end
section
end
section
variable {X:Cx} {E:XK} {pos dpos:Pos} {e1 e2 e3 i:Expr} {m1 m2 m3 mi:ME} {k1 k2 k3:Str} {j1 j2 j3:Nat} {q1 q2 q3:Pos}
end
section
variable {X:Cx} {E:XK} {pos:Pos} {e:Expr} {m:ME}
end
theorem room_u1 {k:Nat} {A:Around} (r:Room k A):A.units + 9 < cLine:=by have:=r.un; omega
end Sm
namespace Sm
open PySem PySem.Spec L2
section
variable {X:Cx} {E:XK}
end
end Sm
namespace Sm
open PySem PySem.Spec L2
section
variable {H0 H:Hp} {ρ0 ρ:Tk} {st:Store} {a:Addr} {ps:List (Key × PV)} {vs:List (Key × V)}
end
def valP (kvs:List (Key × PV)) (k:Key):Option PV:=(kvs.find? fun kv=>decide (kv.1=k)).map (·.2)
section
variable {X:Cx} {E:XK} {pos dpos apos cpos:Pos} {e e1 e2 e3 i o f:Expr} {m m1 m2 m3 mi mo mf:ME} {k1 k2 k3:Str} {j1 j2 j3:Nat} {q1 q2 q3:Pos}
end
end Sm
namespace Sm
open PySem PySem.Spec L2
def dicOf (st:Store):PV->Option (List (Key × PV))
  | .ref i=>match st[i]? with
    | some (.dic kvs)=>some kvs
    | some (.frd kvs)=>some kvs
    | _=>none
  | _=>none
section
variable {X:Cx} {E:XK} {pos dpos tpos:Pos} {e i o k:Expr} {m mi mo mk:ME}
end
end Sm
namespace Sm
open PySem PySem.Spec L2
section
variable {X:Cx} {E:XK} {pos dpos tpos:Pos} {e i o k:Expr} {m mi mo mk:ME} {tg:Expr}
end
end Sm
namespace Sm
open PySem PySem.Spec L2
section
variable {X:Cx} {E:XK}
end
end Sm
namespace Sm
open PySem PySem.Spec PyProof.Rows L2
section
variable {X:Cx} {E:XK}
theorem op_fdivB:OpR X (binaryOp .FloorDiv) (rI (fun _ j=>0 < j/\j < 1267650600228229401496703205376) fun i j=>.int (i / j)):=opI fun i j _ _ _ _ _ hc q=>by
  have h1:(0:Int) < j:=hc.1
  have h2:j < 1267650600228229401496703205376:=hc.2
  refine floordiv_int (by omega) (by rw [Int.fdiv_eq_ediv_of_nonneg i (by omega)]; exact q) (.inl (PyProof.noPylong_of_log2 ?_))
  have:j.natAbs.log2 < 100:=(Nat.log2_lt (by omega)).mpr (by
    rw [show (2:Nat) ^ 100=1267650600228229401496703205376 by decide]
    omega)
  omega
def oDivB:OP:=fun st p q=>match p,q with
  | .int a,.int b=>if 0 < b/\b < 1267650600228229401496703205376 then .ok (.int (a / b)) st else .stuck
  | _,_=>.stuck
theorem os_divB:OpS X E (binaryOp .FloorDiv) oDivB:=⟨fun H ρ st p q x y Q R rp rq h=>by
  unfold oDivB at h
  split at h
  · cases rp; cases rq
    split at h
    · rename_i hc
      exact WO.of op_fdivB ⟨_,_,rfl,rfl,hc,now R h rfl⟩
    · exact h.elim
  · exact h.elim⟩
@[simp] theorem oDivB_int (st:Store) (a b:Int):oDivB st (.int a) (.int b)=if 0 < b/\b < 1267650600228229401496703205376 then .ok (.int (a / b)) st else .stuck:=rfl
end
end Sm
namespace Sm
open PySem PySem.Spec L2
theorem boot_sorted:bootBuiltins "sorted" = some (.builtin "sorted"):=by decide +kernel
section
variable {X:Cx} {E:XK} {pos apos tp:Pos} {e:Expr} {m:ME} {elts:List Expr} {kt:Nat}
end
end Sm
namespace Sm
open PySem PySem.Spec L2
def mapO (f:PV->Option HK):List PV->Option (List HK)
  | []=>some []
  | p :: ps=>match f p,mapO f ps with
    | some k,some l=>some (k :: l)
    | _,_=>none
def hkOf:Nat->PV->Option HK
  | _,.int i=>some (.int i)
  | _,.str x=>some (.str x)
  | d + 1,.tup ps=>(mapO (hkOf d) ps).map .tup
  | _,_=>none
theorem hkOf_rep {H:Hp} {ρ:Tk}:∀ (d:Nat) {p:PV} {k:HK} {v:V},hkOf d p=some k->Rep H ρ p v->KAt H k v/\Dp d k:=by
  intro d
  induction d with
  | zero=>
    intro p k v e r
    cases p with
    | int i=>cases e; exact ⟨r,trivial⟩
    | str i=>cases e; exact ⟨r,trivial⟩
    | _=>cases e
  | succ d ih=>
    intro p k v e r
    cases p with
    | int i=>cases e; exact ⟨r,trivial⟩
    | str i=>cases e; exact ⟨r,trivial⟩
    | tup ps=>
      obtain ⟨a,vs,rfl,ha,_,rl⟩:=r
      have key:∀ {ps:List PV} {l:List HK} {vs:List V},mapO (hkOf d) ps=some l->RepL H ρ ps vs->KAtL H l vs/\∀ k ∈ l,Dp d k:=by
        intro ps
        induction ps with
        | nil=>intro l vs e r; cases e; exact ⟨r,fun k hk=>nomatch hk⟩
        | cons p ps ihp=>
          intro l vs e ⟨v,t,e1,r1,r2⟩
          unfold mapO at e
          split at e
          · rename_i k l' e2 e3
            cases e
            obtain ⟨h1,h2⟩:=ih e2 r1
            obtain ⟨h3,h4⟩:=ihp e3 r2
            exact ⟨⟨v,t,e1,h1,h3⟩,fun x hx=>by rcases List.mem_cons.mp hx with rfl | hx; exact h2; exact h4 x hx⟩
          · cases e
      unfold hkOf at e
      cases z:mapO (hkOf d) ps with
      | none=>rw [z] at e; cases e
      | some l=>
        rw [z] at e
        cases e
        obtain ⟨h1,h2⟩:=key z rl
        exact ⟨⟨a,vs,rfl,ha,h1⟩,h2⟩
    | _=>cases e
def keyN:PV->Option HK
  | .tup ps=>hkOf 5 (.tup ps)
  | _=>none
theorem keyN_rep {H:Hp} {ρ:Tk} {p:PV} {k:HK} {v:V} (e:keyN p=some k) (r:Rep H ρ p v):∃ b,v=.ref b/\KR H k b:=by
  cases p with
  | tup ps=>
    have h:=hkOf_rep 5 e r
    obtain ⟨b,vs,rfl,_⟩:=r
    exact ⟨b,rfl,h⟩
  | _=>cases e
def putT (kvs:List (HK × PV)) (k:HK) (v:PV):List (HK × PV):=
  if (kvs.any fun kv=>decide (kv.1=k))=true then kvs.map (fun kv=>if kv.1=k then (kv.1,v) else kv) else kvs ++ [(k,v)]
theorem repT_put {H:Hp} {ρ:Tk} {kvs:List (HK × PV)} {vs:List (HK × V)} (r:RepD H ρ kvs vs) (k:HK) {p:PV} {v:V} (rp:Rep H ρ p v):RepD H ρ (putT kvs k p) (putK vs k v):=by
  have ha:(kvs.any fun kv=>decide (kv.1=k))=vs.any fun kv=>decide (kv.1=k):=by
    have e1:(kvs.any fun kv=>decide (kv.1=k))=(kvs.map Prod.fst).any fun x=>decide (x=k):=by rw [List.any_map]; rfl
    have e2:(vs.any fun kv=>decide (kv.1=k))=(vs.map Prod.fst).any fun x=>decide (x=k):=by rw [List.any_map]; rfl
    rw [e1,e2,r.1]
  unfold putT putK
  rw [<- ha]
  by_cases q:(kvs.any fun kv=>decide (kv.1=k))=true
  · rw [if_pos q,if_pos q]
    have key:∀ (kvs:List (HK × PV)) (vs:List (HK × V)),RepD H ρ kvs vs->RepD H ρ (kvs.map fun kv=>if kv.1=k then (kv.1,p) else kv) (vs.map fun kv=>if kv.1=k then (kv.1,v) else kv):=by
      intro kvs
      induction kvs with
      | nil=>
        intro vs r
        cases vs with
        | nil=>exact r
        | cons _ _=>have:=r.length; cases this
      | cons a kvs ih=>
        intro vs r
        cases vs with
        | nil=>have:=r.length; cases this
        | cons b vs=>
          obtain ⟨r1,x,t,e,r2,r3⟩:=r
          obtain ⟨e1,e2⟩:=List.cons.inj (show b.1 :: vs.map Prod.fst=a.1 :: kvs.map Prod.fst from r1)
          obtain ⟨e3,e4⟩:=List.cons.inj (show b.2 :: vs.map Prod.snd=x :: t from e)
          subst e3; subst e4
          obtain ⟨i1,i2⟩:=ih vs ⟨e2,r3⟩
          rw [List.map_cons,List.map_cons]
          by_cases z:a.1=k
          · have zb:b.1=k:=e1.trans z
            rw [if_pos z,if_pos zb]
            exact ⟨by rw [List.map_cons,List.map_cons,i1]; show b.1 :: _=a.1 :: _; rw [e1],RepL.cons rp i2⟩
          · have zb:¬ b.1=k:=fun h=>z (e1.symm.trans h)
            rw [if_neg z,if_neg zb]
            exact ⟨by rw [List.map_cons,List.map_cons,i1]; show b.1 :: _=a.1 :: _; rw [e1],RepL.cons r2 i2⟩
    exact key kvs vs r
  · rw [if_neg q,if_neg q]
    refine ⟨?_,?_⟩
    · rw [List.map_append,List.map_append,r.1]; rfl
    · rw [List.map_append,List.map_append]
      exact r.2.append (RepL.cons rp RepL.nil)
section
variable {X:Cx} {E:XK} {pos dpos tpos:Pos} {e i o k:Expr} {m mi mo mk:ME}
def mDispT:ME:=fun Γ st=>.ok (.ref st.length) (st ++ [.dtp []])
theorem se_dispT:SimE X E (.Dict [] [] dpos) mDispT:=⟨fun Γ σ H ρ st Q R G h=>WE.of pe_dnewT fun d hd=>by
  have x:Ext H ρ (upd H d (.dT [])) (ρ.add d):=Ext.addT hd
  refine h _ _ x (R.addC hd ⟨_,upd_same,rfl,rfl⟩) _ ⟨d,?_,rfl⟩
  show (ρ.tr ++ [d])[st.length]?=some d
  rw [<- R.len,List.getElem?_append_right (Nat.le_refl _),Nat.sub_self]; rfl⟩
def dtpOf (st:Store):PV->Option (List (HK × PV))
  | .ref i=>match st[i]? with
    | some (.dtp kvs)=>some kvs
    | _=>none
  | _=>none
theorem dtpOf_at {H:Hp} {ρ:Tk} {st:Store} {p:PV} {v:V} {kvs:List (HK × PV)} (R:Rel H ρ st) (r:Rep H ρ p v) (e:dtpOf st p=some kvs):∃ i a vs,p=.ref i/\v=.ref a/\ρ.tr[i]?=some a/\st[i]?=some (.dtp kvs)/\H a=some (.dT vs)/\RepD H ρ kvs vs:=by
  cases p with
  | ref i=>
    obtain ⟨a,ea,rfl⟩:=r
    unfold dtpOf at e
    cases z:st[i]? with
    | none=>simp only [z] at e; cases e
    | some c=>
      simp only [z] at e
      cases c with
      | dtp kvs'=>
        cases e
        obtain ⟨b,vs,eb,hb,rd⟩:=R.dtp z
        rw [ea] at eb
        cases eb
        exact ⟨i,a,vs,rfl,rfl,ea,z,hb,rd⟩
      | lst xs=>cases e
      | dic xs=>cases e
      | frd xs=>cases e
      | obj C xs=>cases e
  | _=>cases e
def dputT (st:Store) (p q v:PV):Option Store:=match p with
  | .ref n=>match dtpOf st (.ref n),keyN q with
    | some kvs,some k=>if kvs.length < lim then some (st.set n (.dtp (putT kvs k v))) else none
    | _,_=>none
  | _=>none
def mDPutT (mo mi m:ME):MS:=fun Γ st=>(m Γ st).sbind fun v st1=>(mo Γ st1).sbind fun p st2=>(mi Γ st2).sbind fun q st3=>match dputT st3 p q v with
  | some st4=>.nx Γ st4
  | none=>.stuck
theorem ss_dputT (hu:X.A.units + 9 < cLine) (he:SimE X E e m) (ho:SimE X E o mo) (hi:SimE X E i mi) (hs:swapsWith e (some (.Subscript o i tpos)) pos.line X.env=pure false:=by rfl):SimS X E (.Assign [.Subscript o i tpos] e pos) (mDPutT mo mi m):=
  ⟨fun Γ σ H ρ st D R G h=>WS.of (ps_dput hu pe_w pe_w pe_w hs) (he.use R G h.bind fun v st1 H1 ρ1 z x1 R1 G1 r1 h1=>ho.use R1 G1 h1.bind fun p st2 H2 ρ2 x x2 R2 G2 r2 h2=>hi.use R2 G2 h2.bind fun q st3 H3 ρ3 y x3 R3 G3 r3 h3=>by
    cases es:dputT st3 p q v with
    | none=>rw [es] at h3; exact h3.elim
    | some st4=>
      rw [es] at h3
      unfold dputT at es
      split at es
      · rename_i n
        split at es
        · rename_i kvs k e1 e2
          split at es
          · rename_i hl
            cases es
            obtain ⟨n',a,vs,en,rfl,ea,hsx,hb,rd⟩:=dtpOf_at R3 (r2.ext x3) e1
            cases en
            obtain ⟨b,rfl,hbt⟩:=keyN_rep e2 r3
            have x4:Ext H3 ρ3 (upd H3 a (.dT (putK vs k z))) ρ3:=Ext.put (List.mem_of_getElem? ea) hb
            have rz:=(r1.ext (x2.trans x3)).ext x4
            have R4:Rel (upd H3 a (.dT (putK vs k z))) ρ3 (st3.set n (.dtp (putT kvs k v))):=R3.putC ea hb ⟨_,upd_same,repT_put (rd.ext x4) k rz⟩
            refine ⟨a,_,rfl,DPut.t hb hbt (by rw [<- rd.length]; exact Nat.lt_of_lt_of_le hl lim_le),h3 σ _ ρ3 x4 R4 (G3.ext x4)⟩
          · cases es
        · cases es
      · cases es)⟩
def valT (kvs:List (HK × PV)) (k:HK):Option PV:=(kvs.find? fun kv=>decide (kv.1=k)).map (·.2)
theorem repT_val {H:Hp} {ρ:Tk} (k:HK):∀ {kvs:List (HK × PV)} {vs:List (HK × V)},RepD H ρ kvs vs->(valT kvs k=none/\valV vs k=none)\/∃ p v,valT kvs k=some p/\valV vs k=some v/\Rep H ρ p v
  | [],[],_=>.inl ⟨rfl,rfl⟩
  | [],b :: vs,r=>by have:=r.length; cases this
  | a :: kvs,[],r=>by have:=r.length; cases this
  | a :: kvs,b :: vs,r=>by
    obtain ⟨r1,x,t,e,r2,r3⟩:=r
    obtain ⟨e1,e2⟩:=List.cons.inj (show b.1 :: vs.map Prod.fst=a.1 :: kvs.map Prod.fst from r1)
    obtain ⟨e3,e4⟩:=List.cons.inj (show b.2 :: vs.map Prod.snd=x :: t from e)
    subst e3; subst e4
    unfold valT valV
    rw [List.find?_cons,List.find?_cons]
    by_cases z:a.1=k
    · have zb:b.1=k:=e1.trans z
      rw [decide_eq_true z,decide_eq_true zb]
      exact .inr ⟨a.2,b.2,rfl,rfl,r2⟩
    · have zb:¬ b.1=k:=fun h=>z (e1.symm.trans h)
      rw [decide_eq_false z,decide_eq_false zb]
      exact repT_val k ⟨e2,r3⟩
def oInT (neg:Bool):OP:=fun st p q=>match dtpOf st q,keyN p with
  | some kvs,some k=>.ok (.bl ((valT kvs k).isSome != neg)) st
  | _,_=>.stuck
theorem os_inT (hu:X.A.units + 9 < cLine):OpS X E (compareOp .In) (oInT false):=⟨fun H ρ st p q x y Q R rp rq h=>by
  unfold oInT at h
  split at h
  · rename_i kvs k e1 e2
    obtain ⟨n,a,vs,rfl,rfl,_,_,hb,rd⟩:=dtpOf_at R rq e1
    obtain ⟨b,rfl,kr⟩:=keyN_rep e2 rp
    intro pins s σ v u I rv ru
    cases ru
    refine d_in hu I (DGet.t hb kr) rv fun s' I'=>⟨.bl _,H,I',rfl,?_⟩
    have:(valV vs k).isSome=(valT kvs k).isSome:=by
      rcases repT_val k rd with ⟨a1,a2⟩ | ⟨p,v,a1,a2,_⟩ <;> rw [a1,a2] <;> rfl
    rw [this]
    rw [Bool.bne_false] at h
    exact now R h rfl
  · exact h.elim⟩
theorem tup_out {H:Hp} {ρ:Tk} {st:Store} (R:Rel H ρ st) (b:Addr) (xs:List V) (h:H b=some (.tup xs)):b ∉ ρ:=fun z=>by
  rcases z with z | z
  · obtain ⟨i,hi,e⟩:=List.getElem_of_mem z
    have hs:i < st.length:=by rw [<- R.len]; exact hi
    have q:=R.cell i b st[i] (by rw [List.getElem?_eq_getElem hi,e]) (List.getElem?_eq_getElem hs)
    cases hc:st[i] with
    | lst xs=>rw [hc] at q; obtain ⟨vs,h1,_⟩:=q; rw [h] at h1; cases h1
    | dic xs=>rw [hc] at q; obtain ⟨vs,h1,_⟩:=q; rw [h] at h1; cases h1
    | dtp xs=>rw [hc] at q; obtain ⟨vs,h1,_⟩:=q; rw [h] at h1; cases h1
    | frd xs=>rw [hc] at q; obtain ⟨vs,⟨_,h1⟩,_⟩:=q; rw [h] at h1; cases h1
    | obj C xs=>rw [hc] at q; obtain ⟨vs,⟨_,h1⟩,_⟩:=q; rw [h] at h1; cases h1
  · obtain ⟨o,h1,h2⟩:=R.hd b z
    rw [h] at h1
    cases h1
    exact h2 xs rfl
end
end Sm
namespace Sm
open PySem PySem.Spec L2
section
variable {H0 H:Hp} {ρ0 ρ:Tk} {st:Store} {a:Addr} {ps:List (HK × PV)} {vs:List (HK × V)}
end
section
variable {X:Cx} {E:XK} {k e:Expr} {mk m:ME} {dpos:Pos}
end
end Sm
namespace Sm
open PySem PySem.Spec L2
section
variable {X:Cx} {E:XK}
end
end Sm
namespace Sm
open PySem PySem.Spec L2
section
variable {X:Cx} {E:XK} {a:Expr} {ma:ME} {pos:Pos}
end
end Sm
namespace Sm
open PySem PySem.Spec PyProof.Rows L2
section
variable {X:Cx} {E:XK}
end
end Sm
namespace Sm
open PySem PySem.Spec L2 SeqAt
def dEq (ks ls:List (Key × PV)):Bool:=decide (ks.length=ls.length) && ks.all fun kv=>match valP ls kv.1 with
  | none=>false
  | some v=>peq kv.2 v
def plainD (ks:List (Key × PV)):Bool:=ks.all fun kv=>good 0 kv.2
section
variable {X:Cx} {E:XK}
variable {o:Expr} {mo:ME} {apos cpos:Pos}
end
end Sm
namespace Sm
open PySem PySem.Spec L2 SeqAt
section
variable {X:Cx} {E:XK}
def intD (ks:List (Key × PV)):Bool:=ks.all fun kv=>match kv.1 with
  | .inl _=>true
  | .inr _=>false
def eqM (st:Store) (x y:PV):Option Bool:=
  if good dep (der st x)=true/\good dep (der st y)=true then some (peq (der st x) (der st y))
  else match dicOf st x,dicOf st y with
    | some ks,some ls=>if plainD ks=true/\plainD ls=true/\intD ks=true/\intD ls=true then some (dEq ks ls) else none
    | _,_=>none
variable {e o i:Expr} {m mo mi:ME} {pos tpos:Pos}
def mAug (i:Nat) (f:Int->Int->Int) (m:ME):MS:=fun Γ st=>match Γ[i]? with
  | some (some (.int a))=>(m Γ st).sbind fun v st1=>match v with
    | .int b=>.nx (Γ.set i (some (.int (f a b)))) st1
    | _=>.stuck
  | _=>.stuck
theorem ss_aug (i:Nat) {x:Str} {pos':Pos} {op:Operator} {f:Int->Int->Int} (hp:PIp X op (ipI f)) (hN:X.N.Nodup) (he:SimE X E e m) (hi:X.N[i]?=some x:=by rfl) (hx:Loc X.env.scope x:=by first | exact Or.inl rfl | exact Or.inr rfl) (hf:X.fn x=true\/X.env.scope.names.lookup x=some .local:=by first | exact .inl rfl | exact .inr rfl) :
    SimS X E (.AugAssign (.Name x pos') op e pos) (mAug i f m):=⟨fun Γ σ H ρ st D R G h=>by
  unfold mAug at h
  split at h
  · rename_i a ea
    obtain ⟨v,ev,rv⟩:=G.2 i _ ea
    cases rv
    refine WS.of (ps_aug hN hi hx pe_w hp hf) ⟨_,ev,he.use R G h.bind fun p st1 H1 ρ1 w x1 R1 G1 r1 h1=>?_⟩
    cases p with
    | int b=>
      cases r1
      exact ⟨a,b,rfl,rfl,h1 _ H1 ρ1 (Ext.refl _ _) R1 (G1.set (p:=.int (f a b)) (v:=.int (f a b)) rfl i)⟩
    | _=>exact h1.elim
  · exact h.elim⟩
end
end Sm
namespace L2
open PySem PySem.Spec PyProof.Rows
end L2
namespace Sm
open PySem PySem.Spec PyProof.Rows L2
section
variable {X:Cx} {E:XK} {pos:Pos} {e:Expr} {m:ME}
end
end Sm
namespace Sm
open PySem PySem.Spec PyProof.Rows L2
section
variable {X:Cx} {E:XK} {tg:Expr} {a b c:Expr} {mr:ML} {p pos:Pos}
end
end Sm
namespace Sm
open PySem PySem.Spec L2
section
variable {X:Cx} {E:XK} {o:Expr} {mo:ME} {apos cpos:Pos} {to:TE}
end
end Sm
namespace Sm
open PySem PySem.Spec L2
section
variable {X:Cx}
end
end Sm
namespace Sm
open PySem PySem.Spec L2
section
variable {H:Hp} {ρ:Tk}
end
section
variable {X:Cx} {E:XK} {o e:Expr} {es:List Expr} {mo m:ME} {mr:Gam->Store->Res (List PV)} {C:Addr} {f:Str} {pos pos' apos p:Pos}
end
end Sm
namespace Sm
open PySem PySem.Spec L2
section
variable {X:Cx} {E:XK}
end
end Sm
namespace Sm
open PySem PySem.Spec L2
section
variable {X:Cx} {E:XK} {pos:Pos} {e:Expr} {m:ME}
end
section
end
end Sm
namespace Sm
open PySem PySem.Spec L2
section
variable {X:Cx} {E:XK}
end
end Sm
namespace Sm
open PySem PySem.Spec L2
section
variable {X:Cx} {pins pins':List (Addr × Obj)} {E:XK} {σ:St} {H:Hp} {s:Shared}
end
section
variable {X:Cx} {body:List Stmt} {mb:MS} {cn n:Str} {i:Nat} {CC:Addr} {np hpos pos:Pos} {b₀:Stmt} {suite:List Stmt} {ts:Addr->TS} {Γ:Gam} {σ:St} {H:Hp} {ρ:Tk} {st:Store} {D:Ends}
end
section
variable {X:Cx} {E:XK}
end
end Sm
namespace Sm
open PySem PySem.Spec PyProof.Rows L2
section
variable {X:Cx} {E:XK}
end
end Sm
namespace Sm
open PySem PySem.Spec L2
section
variable {X:Cx} {E:XK} {pos:Pos} {tg:Expr} {e a b:Expr} {m ma mb:ME}
def oLe2:OP:=fun st p q=>match p,q with
  | .int a,.int b=>.ok (.bl (decide (a<=b))) st
  | .str a,.str b=>.ok (.bl (!decide (b.cps.toList < a.cps.toList))) st
  | _,_=>.stuck
theorem os_le2:OpS X E (compareOp .LtE) oLe2:=⟨fun H ρ st p q x y Q R rp rq h=>by
  unfold oLe2 at h
  split at h
  · cases rp; cases rq
    exact WO.of op_le ⟨_,_,rfl,rfl,now R h rfl⟩
  · cases rp; cases rq
    exact WO.of op_le_str ⟨_,_,rfl,rfl,now R h rfl⟩
  · exact h.elim⟩
def oIxS:OP:=fun st p q=>match p,q with
  | .str z,.int i=>match atI z.cps.toList i with
    | some c=>if z.length<=lim then .ok (.str ⟨#[c]⟩) st else .stuck
    | none=>.stuck
  | _,_=>.stuck
theorem se_ixS (ha:SimE X E a ma) (hb:SimE X E b mb) (hs:PlainIx b:=by exact fun _ _=>rfl):SimE X E (.Subscript a b pos) (mOp oIxS ma mb):=
  ⟨fun Γ σ H ρ st Q R G h=>WE.of (pe_ix ix_seq pe_w pe_w hs) (ha.use R G h.bind fun p st1 H1 ρ1 v x1 R1 G1 r1 h1=>hb.use R1 G1 h1.bind fun q st2 H2 ρ2 u x2 R2 G2 r2 h2=>by
    unfold oIxS at h2
    split at h2
    · rename_i z i
      cases r1; cases r2
      split at h2
      · rename_i c ec
        split at h2
        · rename_i hl
          exact .inr (.inr ⟨z,i,c,rfl,rfl,le_lim hl,ec,now R2 h2 rfl⟩)
        · exact h2.elim
      · exact h2.elim
    · exact h2.elim)⟩
def signsP (x:Str):List PV:=x.cps.toList.map fun c=>.str ⟨#[c]⟩
def mStrI (m:ME):MI:=fun Γ st=>(m Γ st).bind fun p st1=>match p with
  | .str x=>if x.length<=lim then .ok (signsP x,[]) st1 else .stuck
  | _=>.stuck
theorem src_str {H:Hp} {ρ:Tk} (x:Str):Src (Itst x) (signsP x) [] H ρ:=by
  have hl:(signsP x).length=x.cps.size:=by unfold signsP; rw [List.length_map,Array.length_toList]
  refine ⟨fun H2 ρ2 st2 _ _ _=>?_,fun H2 ρ2 st2 _ _ _ i hi=>?_,fun H2 ρ2 st2 _ _ _ i p hp y H3 hy=>?_⟩
  · show x.cps.size<=_; omega
  · show i < x.cps.size; omega
  · obtain ⟨rfl,c,hc,rfl⟩:=hy
    refine ⟨Same.refl _,?_⟩
    unfold signsP at hp
    rw [List.getElem?_map,Array.getElem?_toList,hc] at hp
    cases hp
    exact rfl
theorem si_str (ha:SimE X E e m):SimI X E tg e (mStrI m):=⟨fun Γ σ H ρ st P R' R G h k=>by
  have hb:Acc X.mg E H ρ _ (m Γ st):=Acc.bind h
  refine WI.of (pi_str pe_w) (ha.use' R G hb fun p st1 H1 ρ1 v eq x1 R1 G1 r1 h1=>?_)
  split at h1
  · rename_i x
    split at h1
    · rename_i hl
      cases r1
      have hl2:(signsP x).length<=lim:=by unfold signsP; rw [List.length_map,Array.length_toList]; exact hl
      exact ⟨x,rfl,k (signsP x,[]) st1 H1 ρ1 _ (by simp only [mStrI,eq,Res.bind,if_pos hl]) x1 R1 G1 (wOk_nil _) (le_lim hl2) (src_str x) (h1 H1 ρ1 (Ext.refl _ _) R1)⟩
    · exact h1.elim
  · exact h1.elim⟩
def strsP:List PV->Option (List Str)
  | []=>some []
  | .str x :: r=>(strsP r).map (x :: ·)
  | _ :: _=>none
theorem strsP_rep {H:Hp} {ρ:Tk}:∀ {ps:List PV} {ss:List Str} {vs:List V},strsP ps=some ss->RepL H ρ ps vs->vs=ss.map V.str
  | [],_,_,e,r=>by cases e; exact r
  | .str x :: ps,_,_,e,⟨v,t,e1,r1,r2⟩=>by
    have e:(strsP ps).map (x :: ·)=some _:=e
    cases z:strsP ps with
    | none=>rw [z] at e; cases e
    | some l=>
      rw [z] at e
      cases e
      rw [e1,strsP_rep z r2,show v=V.str x from r1]
      rfl
def mtJoin (sep:Str) (st:Store) (ps:List PV):Res PV:=match ps with
  | [p]=>match (listOf st p).bind strsP with
    | some ss=>if JoinOk sep ss=true then .ok (.str (Txt.join sep ss)) st else .stuck
    | none=>.stuck
  | _=>.stuck
def mJoin (mo:ME) (mr:Gam->Store->Res (List PV)):ME:=fun Γ st=>(mo Γ st).bind fun p st1=>match p with
  | .str sep=>(mr Γ st1).bind fun ps st2=>mtJoin sep st2 ps
  | _=>.stuck
variable {o:Expr} {es:List Expr} {mo:ME} {mr:Gam->Store->Res (List PV)} {apos cpos:Pos}
theorem se_join (ho:SimE X E o mo) (ha:SimA X E (e :: es) mr)
    (hbase:attributeBase o "join" X.env (eval o X.env)=eval o X.env:=by rfl)
    (hfew:((backTo cpos (starEach (e :: es) X.env)).all (fun x=>!x.1) && (backToKw cpos (keywordEach [] X.env)).all (fun x=>x.1.isSome)
      && decide ((e :: es).length + ([]:List Keyword).length + (if ([]:List Keyword).isEmpty then 0 else 1) < 30))=true:=by rfl)
    (hline:(apos.endLine == cpos.line)=true:=by rfl) (hs:starEach (e :: es) X.env=(false,eval e X.env) :: starEach es X.env:=by rfl) (hplain:(backTo cpos (starEach es X.env)).any (·.1)=false:=by rfl) :
    SimE X E (.Call (.Attribute o "join" apos) (e :: es) [] cpos) (mJoin mo mr):=
  ⟨fun Γ σ H ρ st Q R G h=>WE.of (pe_bm PySem.F.plainAttrs_str PySem.F.slot_str_join PySem.F.type_str_join mt_join pe_w pa_w hbase hfew hline hs hplain) (ho.use R G h.bind fun p st1 H1 ρ1 v x1 R1 G1 r1 h1=>by
    split at h1
    · rename_i sep
      cases r1
      refine ⟨rfl,ha.use R1 G1 h1.bind fun ps st2 H2 ρ2 us x2 R2 G2 r2 h2=>?_⟩
      unfold mtJoin at h2
      split at h2
      · rename_i q
        obtain ⟨y,rfl,ry⟩:=repL_one r2
        split at h2
        · rename_i ss es
          split at h2
          · rename_i hz
            cases f1:listOf st2 q with
            | none=>rw [f1] at es; cases es
            | some xs=>
              rw [f1] at es
              obtain ⟨c,vs,rfl,hc,rc⟩:=list_at R2 ry f1
              rw [strsP_rep es rc] at hc
              exact ⟨sep,c,ss,rfl,rfl,.inl hc,hz,now R2 h2 rfl⟩
          · exact h2.elim
        · exact h2.elim
      · exact h2.elim
    · exact h1.elim)⟩
end
end Sm
namespace L2
open PySem PySem.Spec PyProof.Rows PySem.W
def SzS (h:Heap) (a:Addr) (n:Nat):Prop:=∃ o es ep t,h.get? a=some o/\o.ExactSet/\o.data=.set es ep t/\t.fits es.size=true/\es.size=n
def hset (a:Addr) (n:Nat):HO:=.ext fun h=>SzS h a n
section
variable {X:Cx}
theorem call_setT (hu:X.A.units + 9 < cLine) (hc:X.calm=true):CallR X (.type "set") (fun xs H Q=>∃ p vs,∃ ks:List HK,xs=[.ref p]/\SqT X.K H p vs/\Paired (fun v k=>∃ b,v=.ref b/\KR H k b) vs ks/\ks.length<=76/\∀ l,H l=none->Q (.ref l) (upd H l (hset l (metK ks).length))):=by
  intro pins s σ H xs us Q I r h
  obtain ⟨p,vs,ks,rfl,hq,hk,hl,q⟩:=h
  obtain ⟨u,rfl,rx⟩:=vals1 r
  cases rx
  obtain ⟨its,r',pl,hz⟩:=I.tuple hq
  have hlen:its.length=ks.length:=by rw [<- r'.length,Paired.length hk]
  refine set_of_tupleH (ks:=ks) hu (I.ok.hd hc) pl (by rw [List.size_toArray,hlen]) (fun i v e=>?_) hl fun h' tk gh k=>?_
  · have e:its[i]?=some v:=by simpa using e
    have hi:i < vs.length:=by have:=(List.getElem?_eq_some_iff.mp e).1; rw [r'.length]; exact this
    obtain ⟨x,ex,rx⟩:=r'.get (List.getElem?_eq_getElem hi)
    rw [e] at ex; cases ex
    obtain ⟨k,ek,b,eb,hb⟩:=paired_get hk (List.getElem?_eq_getElem hi)
    rw [eb] at rx
    cases rx
    exact ⟨k,b,ek,rfl,key_of I.hok hb⟩
  · obtain ⟨o,es,ep,t,h1,h2,h3,⟨ks',p1,r1⟩,h5,h6⟩:=gh
    have sz:SzS h' s.heap.objs.size (metK ks).length:=⟨o,es,ep,t,h1,h2,h3,by have:=h6.fits; rwa [List.length_map,Array.length_toList] at this,by rw [<- Array.length_toList,Paired.length r1,p1.length_eq]⟩
    refine ⟨.ref s.heap.objs.size,upd H s.heap.objs.size (hset s.heap.objs.size (metK ks).length),I.laid (t':=tk) k (Nat.le_refl _) ⟨sz,⟨o,h1⟩,fun h1 h2 z kk=>?_⟩,rfl,q _ (I.hok.fresh (Nat.le_refl _))⟩
    obtain ⟨o,es,ep,t,g1,g2⟩:=z
    exact ⟨o,es,ep,t,kk _ g1,g2⟩
theorem call_lenH:CallR X (.builtin "len") (fun xs H Q=>∃ p n,xs=[.ref p]/\H p=some (hset p n)/\n<=4000/\Q (.int n) H):=by
  intro pins s σ H xs us Q I r h
  obtain ⟨p,n,rfl,hp,hn,q⟩:=h
  obtain ⟨u,rfl,rx⟩:=vals1 r
  cases rx
  obtain ⟨⟨o,es,ep,t,h1,h2,h3,h4,rfl⟩,_,_⟩:=I.hok p _ hp
  exact call_len_set h1 h2 h3 h4 (by omega) ⟨.int _,H,I.tok _,⟨s.toks + 1,rfl⟩,q⟩
theorem call_listD (hc:X.calm=true):CallR X (.type "list") (fun xs H Q=>∃ a,∃ kvs:List (HK × V),xs=[.ref a]/\H a=some (.dT kvs)/\∀ d vs,H d=none->Paired (fun v (p:HK × V)=>∃ b,v=.ref b/\KR H p.1 b) vs kvs->Q (.ref d) (upd H d (.lst vs))):=by
  intro pins s σ H xs us Q I r h
  obtain ⟨a,kvs,rfl,ea,q⟩:=h
  obtain ⟨u,rfl,rx⟩:=vals1 r
  cases rx
  obtain ⟨z,hs,es,ep,as,hr,hk,hpa⟩:=dt_raw I.hok ea
  have l1:kvs.length=as.length:=Paired.length hpa
  have l2:es.size=as.length:=by
    have:=congrArg List.length hk
    simpa using this
  refine kdl_call (src_raw hs) (I.ok.hd hc) hr (by omega) fun h' tk acc c k1 k2 k3=>?_
  have e:acc.toList=as.map Value.ref:=by
    rw [<- hk]
    apply List.ext_getElem?
    intro i
    by_cases z:i < es.size
    · have hi:i < acc.size:=by rw [k3.1]; exact z
      obtain ⟨e,h1,h2⟩:=k3.2 i acc[i] (Array.getElem?_eq_getElem hi)
      rw [Array.getElem?_toList,Array.getElem?_eq_getElem hi,h2,List.getElem?_map,Array.getElem?_toList,h1]; rfl
    · rw [Array.getElem?_toList,Array.getElem?_eq_none (by rw [k3.1]; omega),List.getElem?_map,Array.getElem?_toList,Array.getElem?_eq_none (by omega)]; rfl
  have hv:Vals (as.map V.ref) acc.toList:=by
    rw [e]
    clear e hpa l1 l2 hk
    induction as with
    | nil=>exact .nil
    | cons x l ih=>exact .cons rfl ih
  have hp:Paired (fun v (p:HK × V)=>∃ b,v=.ref b/\KR H p.1 b) (as.map V.ref) kvs:=by
    clear e hv k3 k2 k1 hk l1 l2 q ea z
    induction hpa with
    | nil=>exact .nil
    | cons hr _ ih=>exact .cons ⟨_,rfl,hr⟩ ih
  refine ⟨.ref s.heap.objs.size,_,I.laid (t':=tk) (o:=.lst (as.map V.ref)) k1 (Nat.le_refl _) ⟨by rw [List.length_map]; omega,acc.toList,c,hv,?_⟩,rfl,q _ _ (I.hok.fresh (Nat.le_refl _)) hp⟩
  rw [Array.toArray_toList]; exact k2
end
end L2
namespace Sm
open PySem PySem.Spec L2
section
variable {X:Cx} {E:XK} {a b:Expr} {ma mb:ME} {pos:Pos}
def mLenSetT (ma:ME):ME:=fun Γ st=>(ma Γ st).bind fun p st1=>match p with
  | .tup ps=>match mapO keyN ps with
    | some ks=>if ks.length<=76 then .ok (.int (metK ks).length) st1 else .stuck
    | none=>.stuck
  | _=>.stuck
theorem mapO_rep {H:Hp} {ρ:Tk}:∀ {ps:List PV} {ks:List HK} {vs:List V},mapO keyN ps=some ks->RepL H ρ ps vs->Paired (fun v k=>∃ b,v=.ref b/\KR H k b) vs ks
  | [],_,_,e,r=>by cases e; cases r; exact .nil
  | p :: ps,_,_,e,⟨v,t,e1,r1,r2⟩=>by
    unfold mapO at e
    split at e
    · rename_i k l e2 e3
      cases e
      rw [e1]
      exact .cons (keyN_rep e2 r1) (mapO_rep e3 r2)
    · cases e
theorem se_lensetT {p p' pos':Pos} (hu:X.A.units + 9 < cLine) (ha:SimE X E a ma) (hc:X.calm=true) (hg:Gl X "len") (hm:X.mg "len" = none) (hg':Gl X "set") (hm':X.mg "set" = none) (hb:bootBuiltins "set" = some (.type "set")) (he:starEach [a] X.env=(false,eval a X.env) :: starEach [] X.env:=by rfl)
    (he2:starEach [.Call (.Name "set" p') [a] [] pos'] X.env=(false,eval (.Call (.Name "set" p') [a] [] pos') X.env) :: starEach [] X.env:=by rfl):SimE X E (.Call (.Name "len" p) [.Call (.Name "set" p') [a] [] pos'] [] pos) (mLenSetT ma):=
  ⟨fun Γ σ H ρ st Q R G hq=>WE.of (pe_callB call_lenH hg hm PySem.boot_len (pa_cons (pe_callTy (call_setT hu hc) hg' hm' hb (pa_cons pe_w pa_nil he) (by decide) (by decide) he rfl) pa_nil he2) (by decide) (by decide) he2 rfl) (ha.use' R G hq.bind fun q st1 H1 ρ1 v e1 x1 R1 G1 r1 h1=>by
    split at h1
    · rename_i ps
      split at h1
      · rename_i ks ek
        split at h1
        · rename_i hl
          obtain ⟨c,vs,rfl,hcl,_,rc⟩:=r1
          refine ⟨c,vs,ks,rfl,SqT.of hcl,mapO_rep ek rc,hl,fun l hn=>⟨l,_,rfl,upd_same,Nat.le_trans (metK_len ks) (by omega),?_⟩⟩
          exact h1 _ _ (Ext.hide hn) (R1.hide hn) _ rfl
        · exact h1.elim
      · exact h1.elim
    · exact h1.elim)⟩
@[simp] theorem mLenSetT_eq (ma:ME) (Γ:Gam) (st:Store):mLenSetT ma Γ st=(ma Γ st).bind fun p st1=>match p with
  | .tup ps=>match mapO keyN ps with
    | some ks=>if ks.length<=76 then .ok (.int (metK ks).length) st1 else .stuck
    | none=>.stuck
  | _=>.stuck:=rfl
mutual
def hkV:HK->PV
  | .int i=>.int i
  | .str x=>.str x
  | .tup l=>.tup (hkVL l)
def hkVL:List HK->List PV
  | []=>[]
  | k :: l=>hkV k :: hkVL l
end
mutual
theorem hkV_rep {H:Hp} {ρ:Tk} (o:∀ b xs,H b=some (.tup xs)->b ∉ ρ):∀ {k:HK} {v:V},KAt H k v->Rep H ρ (hkV k) v
  | .int _,_,r=>r
  | .str _,_,r=>r
  | .tup _,_,⟨a,vs,e,h,r⟩=>⟨a,vs,e,h,o a vs h,hkVL_rep o r⟩
theorem hkVL_rep {H:Hp} {ρ:Tk} (o:∀ b xs,H b=some (.tup xs)->b ∉ ρ):∀ {l:List HK} {vs:List V},KAtL H l vs->RepL H ρ (hkVL l) vs
  | [],_,r=>r
  | _ :: _,_,⟨v,r,e,h,t⟩=>⟨v,r,e,hkV_rep o h,hkVL_rep o t⟩
end
def cListD:CF:=fun st ps=>match ps with
  | [p]=>match dtpOf st p with
    | some kvs=>.ok (.lst (kvs.map fun kv=>hkV kv.1)) st
    | none=>.stuck
  | _=>.stuck
theorem keysD_rep {H:Hp} {ρ:Tk} (o:∀ b xs,H b=some (.tup xs)->b ∉ ρ):∀ {kvs:List (HK × PV)} {us:List (HK × V)} {vs:List V},RepD H ρ kvs us->Paired (fun v (p:HK × V)=>∃ b,v=.ref b/\KR H p.1 b) vs us->RepL H ρ (kvs.map fun kv=>hkV kv.1) vs
  | [],[],_,_,p=>by cases p; rfl
  | [],b :: us,_,r,_=>by have:=r.length; cases this
  | a :: kvs,[],_,r,_=>by have:=r.length; cases this
  | a :: kvs,b :: us,_,r,.cons h t=>by
    obtain ⟨r1,x,t2,e,r2,r3⟩:=r
    obtain ⟨e1,e2⟩:=List.cons.inj (show b.1 :: us.map Prod.fst=a.1 :: kvs.map Prod.fst from r1)
    obtain ⟨e3,e4⟩:=List.cons.inj (show b.2 :: us.map Prod.snd=x :: t2 from e)
    subst e4
    obtain ⟨c,rfl,kr⟩:=h
    refine RepL.cons ?_ (keysD_rep o ⟨e2,r3⟩ t)
    show Rep H ρ (hkV a.1) _
    rw [<- e1]
    exact hkV_rep o kr.1
theorem cs_listD (hc:X.calm=true):CallS X E (.type "list") cListD:=⟨fun H ρ st ps xs Q R rp h=>by
  unfold cListD at h
  split at h
  · rename_i p
    obtain ⟨v,rfl,r⟩:=repL_one rp
    split at h
    · rename_i kvs e
      obtain ⟨n,a,vs,rfl,rfl,_,_,hb,rd⟩:=dtpOf_at R r e
      exact WC.of (call_listD hc) ⟨a,vs,rfl,hb,fun d us hd hu=>new_lst R h (keysD_rep (tup_out R) rd hu) d hd⟩
    · exact h.elim
  · exact h.elim⟩
end
end Sm
namespace Sm
open PySem PySem.Spec L2
structure TupG (K:PySem.W.Frag) (mg:Str->Option Value) (n:Str) (ss:List Str):Prop where
  ex:∃ (a:Addr) (o:Obj) (its:Array Value) (m:Nat),mg n=some (.ref a)/\K.lookup a=some o/\o.cls=.type "tuple" /\ o.data=.seq its m/\its.size<=sizeLine/\Vals (ss.map V.str) its.toList
def hasS (ss:List Str) (x:Str):Bool:=ss.any fun s=>decide (s=x)
def mInG (neg:Bool) (ss:List Str) (m:ME):ME:=fun Γ st=>(m Γ st).bind fun p st1=>match p with
  | .str x=>.ok (.bl (hasS ss x != neg)) st1
  | _=>.stuck
theorem inV_strs (x:Str):∀ ss:List Str,inV (.str x) (ss.map V.str)=hasS ss x
  | []=>rfl
  | s :: ss=>by
    have ih:=inV_strs x ss
    unfold inV hasS at *
    rw [List.map_cons,List.any_cons,List.any_cons,ih]
    congr 1
section
variable {X:Cx} {E:XK} {pos p:Pos} {e:Expr} {m:ME} {n:Str} {ss:List Str}
theorem se_inG (tg:TupG X.K X.mg n ss) (hg:Gl X n) (he:SimE X E e m) (hd:(n == ("__debug__" : Str))=false:=by decide):SimE X E (.Compare e [.In] [.Name n p] pos) (mInG false ss m):=by
  obtain ⟨a,o,its,k,hm,lk,hc,hda,hz,hv⟩:=tg.ex
  refine ⟨fun Γ σ H ρ st Q R G h=>WE.of (pe_cmpR op_in_seq pe_w (pe_glob (v:=.ref a) hg hm rfl hd) rfl) (he.use R G h.bind fun q st1 H1 ρ1 v x1 R1 G1 r1 h1=>?_)⟩
  cases q with
  | str x=>
    cases r1
    have h1:Acc X.mg E H1 ρ1 (QV Q) (.ok (.bl (hasS ss x != false)) st1):=h1
    refine ⟨a,ss.map V.str,rfl,.inr (.inr ⟨o,its,k,lk,hc,hda,hz,hv⟩),rfl,by simp [flatV],?_⟩
    rw [inV_strs]
    rw [Bool.bne_false] at h1
    exact now R1 h1 rfl
  | _=>exact h1.elim
theorem se_notinG (tg:TupG X.K X.mg n ss) (hg:Gl X n) (he:SimE X E e m) (hd:(n == ("__debug__" : Str))=false:=by decide):SimE X E (.Compare e [.NotIn] [.Name n p] pos) (mInG true ss m):=by
  obtain ⟨a,o,its,k,hm,lk,hc,hda,hz,hv⟩:=tg.ex
  refine ⟨fun Γ σ H ρ st Q R G h=>WE.of (pe_cmpR op_notIn_seq pe_w (pe_glob (v:=.ref a) hg hm rfl hd) rfl) (he.use R G h.bind fun q st1 H1 ρ1 v x1 R1 G1 r1 h1=>?_)⟩
  cases q with
  | str x=>
    cases r1
    have h1:Acc X.mg E H1 ρ1 (QV Q) (.ok (.bl (hasS ss x != true)) st1):=h1
    refine ⟨a,ss.map V.str,rfl,.inr (.inr ⟨o,its,k,lk,hc,hda,hz,hv⟩),rfl,by simp [flatV],?_⟩
    rw [inV_strs]
    rw [show (hasS ss x != true)=!hasS ss x by cases hasS ss x <;> rfl] at h1
    exact now R1 h1 rfl
  | _=>exact h1.elim
end
end Sm
namespace Sm
open PySem PySem.Spec L2
section
variable {X:Cx} {E:XK}
def prV (p:Int × Str):PV:=.tup [.int p.1,.str p.2]
def keyP:HK->Option (Int × Str)
  | .tup [.int x,.str y]=>some (x,y)
  | _=>none
def keysP:List (HK × PV)->Option (List (Int × Str))
  | []=>some []
  | kv :: r=>match keyP kv.1,keysP r with
    | some p,some l=>some (p :: l)
    | _,_=>none
theorem keyP_is {k:HK} {p:Int × Str} (h:keyP k=some p):k=.tup [.int p.1,.str p.2]:=by
  unfold keyP at h
  split at h
  · cases h; rfl
  · cases h
theorem keysP_at {H:Hp} {ρ:Tk}:∀ {kvs:List (HK × PV)} {vs:List (HK × V)} {nss:List (Int × Str)},keysP kvs=some nss->RepD H ρ kvs vs->Paired (fun (p:HK × V) (ns:Int × Str)=>p.1=.tup [.int ns.1,.str ns.2]) vs nss
  | [],[],_,e,_=>by cases e; exact .nil
  | [],_ :: _,_,_,r=>by have:=r.length; cases this
  | _ :: _,[],_,_,r=>by have:=r.length; cases this
  | (k,p) :: kvs,(k',v) :: vs,nss,e,r=>by
    obtain ⟨r1,x,t,e',r2,r3⟩:=r
    obtain ⟨e1,e2⟩:=List.cons.inj (show k' :: vs.map Prod.fst=k :: kvs.map Prod.fst from r1)
    obtain ⟨e3,e4⟩:=List.cons.inj (show v :: vs.map Prod.snd=x :: t from e')
    subst e3; subst e4
    unfold keysP at e
    split at e
    · rename_i q l h1 h2
      cases e
      exact .cons (show k'=_ by rw [e1]; exact keyP_is h1) (keysP_at h2 ⟨e2,r3⟩)
    · cases e
theorem repL_prs {H:Hp} {ρ:Tk} (hn:∀ b xs,H b=some (.tup xs)->b ∉ ρ):∀ {vs:List V} {nss:List (Int × Str)},Paired (fun (v:V) (ns:Int × Str)=>∃ b,v=.ref b/\H b=some (.tup [.int ns.1,.str ns.2])) vs nss->RepL H ρ (nss.map prV) vs
  | [],[],.nil=>rfl
  | v :: vs,ns :: nss,.cons ⟨b,e,hb⟩ t=>by
    subst e
    exact RepL.cons ⟨b,_,rfl,hb,hn b _ hb,RepL.cons rfl (RepL.cons rfl RepL.nil)⟩ (repL_prs hn t)
theorem repL_pickP {H:Hp} {ρ:Tk} {nss:List (Int × Str)} {vs:List V} (r:RepL H ρ (nss.map prV) vs):∀ (pp:List Nat),(∀ x ∈ pp,x < vs.length)->RepL H ρ ((pp.map fun i=>nss.getD i dQ).map prV) (pp.map fun i=>vs.getD i .non)
  | [],_=>rfl
  | x :: pp,h=>by
    have hx:=h x (by simp)
    have hl:=r.length
    rw [List.length_map] at hl
    have e1:(nss.map prV)[x]?=some (prV (nss.getD x dQ)):=by
      rw [List.getElem?_map,List.getElem?_eq_getElem (by omega),List.getD_eq_getElem?_getD,List.getElem?_eq_getElem (by omega)]; rfl
    have e2:vs[x]?=some (vs.getD x .non):=by rw [List.getD_eq_getElem?_getD,List.getElem?_eq_getElem hx]; rfl
    exact RepL.cons (r.i e1 e2) (repL_pickP r pp fun y hy=>h y (List.mem_cons_of_mem _ hy))
def cSortP:CF:=fun st ps=>match ps with
  | [p]=>match dtpOf st p with
    | some kvs=>match keysP kvs with
      | some nss=>if nss.length < 64 then .ok (.lst ((sortQ nss).map prV)) st else .stuck
      | none=>.stuck
    | none=>.stuck
  | _=>.stuck
theorem cs_sortP (hc:X.calm=true):CallS X E (.builtin "sorted") cSortP:=⟨fun H ρ st ps xs Q R rp h=>by
  unfold cSortP at h
  split at h
  · rename_i p
    obtain ⟨v,rfl,r⟩:=repL_one rp
    split at h
    · rename_i kvs e
      split at h
      · rename_i nss en
        split at h
        · rename_i h64
          obtain ⟨n,a,vs,rfl,rfl,_,_,hb,rd⟩:=dtpOf_at R r e
          have pr:=keysP_at en rd
          have l2:vs.length=nss.length:=Paired.length pr
          refine WC.of (call_sortedDQ hc) ⟨a,vs,nss,rfl,hb,by omega,pr,fun d pp us hd hu hp he=>?_⟩
          have rl:=repL_prs (tup_out R) hu
          have l3:us.length=nss.length:=Paired.length hu
          have rr:=repL_pickP rl pp fun x hx=>by have:=hp.mem_iff.mp hx; rw [l3]; simpa using this
          rw [he] at rr
          exact new_lst R h rr d hd
        · exact h.elim
      · exact h.elim
    · exact h.elim
  · exact h.elim⟩
def pairsH:List PV->Option (List (HK × PV))
  | []=>some []
  | .tup [kp,v] :: r=>match keyN kp,pairsH r with
    | some k,some l=>some ((k,v) :: l)
    | _,_=>none
  | _ :: _=>none
def putAllT (kvs l:List (HK × PV)):List (HK × PV):=l.foldl (fun acc p=>putT acc p.1 p.2) kvs
theorem pairsH_rep {H:Hp} {ρ:Tk}:∀ {ps:List PV} {l:List (HK × PV)} {us:List V},pairsH ps=some l->RepL H ρ ps us->∃ zs:List (HK × Addr × V),Paired (fun v (z:HK × Addr × V)=>∃ c,v=.ref c/\H c=some (.tup [.ref z.2.1,z.2.2])/\KR H z.1 z.2.1) us zs/\Paired (fun (p:HK × PV) (z:HK × Addr × V)=>p.1=z.1/\Rep H ρ p.2 z.2.2) l zs
  | [],_,_,e,r=>by cases e; cases r; exact ⟨[],.nil,.nil⟩
  | .tup [kp,v] :: ps,_,_,e,⟨w,t,e1,r1,r2⟩=>by
    unfold pairsH at e
    split at e
    · rename_i k l h1 h2
      cases e
      obtain ⟨zs,a1,a2⟩:=pairsH_rep h2 r2
      obtain ⟨a,vs,e3,hb,_,w1,q1,e4,s1,w2,q2,e5,s2,s3⟩:=r1
      cases s3
      subst e5; subst e4
      obtain ⟨b,rfl,kr⟩:=keyN_rep h1 s1
      subst e1
      exact ⟨(k,b,w2) :: zs,.cons ⟨a,e3,hb,kr⟩ a1,.cons ⟨rfl,s2⟩ a2⟩
    · cases e
theorem repD_putAll {H:Hp} {ρ:Tk}:∀ {l:List (HK × PV)} {zs:List (HK × Addr × V)} {kvs:List (HK × PV)} {vs:List (HK × V)},RepD H ρ kvs vs->Paired (fun (p:HK × PV) (z:HK × Addr × V)=>p.1=z.1/\Rep H ρ p.2 z.2.2) l zs->RepD H ρ (putAllT kvs l) (L2.putAll vs zs)
  | _,_,_,_,r,.nil=>r
  | p :: l,z :: zs,_,_,r,.cons ⟨e1,e2⟩ t=>by
    show RepD H ρ (putAllT (putT _ p.1 p.2) l) (L2.putAll (putK _ z.1 z.2.2) zs)
    rw [e1]
    exact repD_putAll (repT_put r z.1 e2) t
def updT (st:Store) (p:PV) (ps:List PV):Res PV:=match p,ps with
  | .ref n,[.lst qs]=>match dtpOf st (.ref n),pairsH qs with
    | some kvs,some l=>if kvs.length + l.length<=lim then .ok .non (st.set n (.dtp (putAllT kvs l))) else .stuck
    | _,_=>.stuck
  | _,_=>.stuck
def mUpd (mo:ME) (mr:Gam->Store->Res (List PV)):ME:=fun Γ st=>(mo Γ st).bind fun p st1=>match dtpOf st1 p with
  | some _=>(mr Γ st1).bind fun ps st2=>updT st2 p ps
  | none=>.stuck
variable {o e:Expr} {es:List Expr} {mo:ME} {mr:Gam->Store->Res (List PV)} {apos cpos:Pos}
theorem se_upd (hu:X.A.units + 9 < cLine) (hc:X.calm=true) (ho:SimE X E o mo) (ha:SimA X E (e :: es) mr)
    (hbase:attributeBase o "update" X.env (eval o X.env)=eval o X.env:=by rfl)
    (hfew:((backTo cpos (starEach (e :: es) X.env)).all (fun x=>!x.1) && (backToKw cpos (keywordEach [] X.env)).all (fun x=>x.1.isSome)
      && decide ((e :: es).length + ([]:List Keyword).length + (if ([]:List Keyword).isEmpty then 0 else 1) < 30))=true:=by rfl)
    (hline:(apos.endLine == cpos.line)=true:=by rfl) (hs:starEach (e :: es) X.env=(false,eval e X.env) :: starEach es X.env:=by rfl) (hplain:(backTo cpos (starEach es X.env)).any (·.1)=false:=by rfl) :
    SimE X E (.Call (.Attribute o "update" apos) (e :: es) [] cpos) (mUpd mo mr):=
  ⟨fun Γ σ H ρ st Q R G h=>WE.of (pe_bm PySem.F.plainAttrs_dict PySem.F.slot_dict_update PySem.F.type_dict_update (mt_update hu hc) pe_w pa_w hbase hfew hline hs hplain) (ho.use R G h.bind fun p st1 H1 ρ1 v x1 R1 G1 r1 h1=>by
    split at h1
    · rename_i kv0 e0
      obtain ⟨n,a,vs0,rfl,rfl,ea0,_,hb0,_⟩:=dtpOf_at R1 r1 e0
      refine ⟨.inr (.inr (.inl ⟨rfl,.inr ⟨_,hb0⟩⟩)),ha.use R1 G1 h1.bind fun ps st2 H2 ρ2 us x2 R2 G2 r2 h2=>?_⟩
      unfold updT at h2
      split at h2
      · rename_i n' qs en
        cases en
        obtain ⟨y,rfl,ry⟩:=repL_one r2
        split at h2
        · rename_i kvs l e1 e2
          split at h2
          · rename_i hl
            obtain ⟨n2,a2,vs,en,ev,ea,hsx,hb,rd⟩:=dtpOf_at R2 (r1.ext x2) e1
            cases en; cases ev
            obtain ⟨c,ws,rfl,hcl,_,rc⟩:=ry
            obtain ⟨zs,z1,z2⟩:=pairsH_rep e2 rc
            have x4:Ext H2 ρ2 (upd H2 a (.dT (L2.putAll vs zs))) ρ2:=Ext.put (List.mem_of_getElem? ea) hb
            have z3:Paired (fun (p:HK × PV) (z:HK × Addr × V)=>p.1=z.1/\Rep (upd H2 a (.dT (L2.putAll vs zs))) ρ2 p.2 z.2.2) l zs:=Paired.mapP z2 fun _ _ q=>⟨q.1,q.2.ext x4⟩
            have R4:Rel (upd H2 a (.dT (L2.putAll vs zs))) ρ2 (st2.set n (.dtp (putAllT kvs l))):=R2.putC ea hb ⟨_,upd_same,repD_putAll (rd.ext x4) z3⟩
            have ll:l.length=zs.length:=Paired.length z2
            refine ⟨a,c,vs,ws,zs,rfl,rfl,hb,hcl,z1,?_,h2 _ ρ2 x4 R4 _ rfl⟩
            rw [<- rd.length,<- ll]
            exact le_lim hl
          · exact h2.elim
        · exact h2.elim
      · exact h2.elim
    · exact h1.elim)⟩
end
end Sm
namespace Sm
open PySem PySem.Spec L2
structure KR (b:Bool):Prop where
  h:b=true
section
variable {X:Cx} {E:XK} {pos:Pos} {tg iter elt:Expr} {ifs:List Expr} {sc:Scope} {ga:GA} {mi:MI} {mt:MT} {me:ME} {cap:List (Option Nat)} {i:Nat} {x:Str} {px cpos:Pos}
end
end Sm
namespace Sm
open PySem PySem.Spec L2
structure AtS (K:PySem.W.Frag) (mg:Str->Option Value) (name:Str) (st:Stmt) (ps:List Str) (f:Addr) (fd:FuncData):Prop where
  F:Fun K name name st f fd
  m:mg name=some (.ref f)
  b:Binds K fd ps []
theorem atS_mk {K:PySem.W.Frag} {mg:Str->Option Value} {h:Heap} {name:Str} {st:Stmt} {ps:List Str} {f:Addr} {oc:Value} {od an:Option Addr} {osl:Array (Option Value)} {kV doc pm cdv ct:Value} (X:K.In h) (G:h.Ns mainGlobals mg)
    (a:PySem.W.nsIn K mainGlobals name=some (some (.ref f))) (l:K.lookup f=some ⟨oc,od,.func (PySem.W.fnOf name name (defArgs st) (defBody st) (defScope st) .none kV doc pm an cdv ct),osl⟩) (c:PySem.W.codeIn K cdv name=true) (k:PySem.W.keepIn K (.ref f)=true)
    (b:∀ (kV doc pm:Value) (an:Option Addr) (cdv ct:Value) (us:List Value),us.length=ps.length->bindArgs (PySem.W.fnOf name name (defArgs st) (defBody st) (defScope st) .none kV doc pm an cdv ct) ⟨us,[]⟩=pure (ps.zip us)) :
    AtS K mg name st ps f (PySem.W.fnOf name name (defArgs st) (defBody st) (defScope st) .none kV doc pm an cdv ct):=
  have F:=fun_mk (st:=st) l c k
  ⟨F,PySem.W.mg_of X G a,F.binds b⟩
theorem AtS.def {P:Program} {w:World} {K:PySem.W.Frag} {mg:Str->Option Value} {base:Heap} {name:Str} {st:Stmt} {ps:List Str} {f:Addr} {fd:FuncData} {k n:Nat} {F:FN} (a:AtS K mg name st ps f fd) (hn:ps.length=n) (G:FnOk P w K mg base (CXD P w) k f fd ps (spF mg n F)):DefS P w K mg base k name n F:=
  ⟨f,fd,ps,G,a.m,a.F.kp,a.b,hn⟩
def FL (K:PySem.W.Frag) (x ql:Str) (s:Stmt) (f:Addr):Prop:=∃ (oc:Value) (od:Option Addr) (kV dc pm:Value) (an:Option Addr) (cd ct:Value) (sl:Array (Option Value)),K.lookup f=some ⟨oc,od,.func (PySem.W.fnOf x ql (defArgs s) (defBody s) (defScope s) .none kV dc pm an cd ct),sl⟩/\PySem.W.codeIn K cd ql=true/\PySem.W.keepIn K (.ref f)=true
theorem FL.fn {K:PySem.W.Frag} {x ql:Str} {s:Stmt} {f:Addr} (h:FL K x ql s f):∃ fd,Fun K x ql s f fd:=let ⟨_,_,_,_,_,_,_,_,_,l,c,k⟩:=h; ⟨_,fun_mk l c k⟩
def FA (K:PySem.W.Frag) (x:Str) (s:Stmt) (f:Addr):Prop:=PySem.W.nsIn K mainGlobals x=some (some (.ref f))/\FL K x x s f
theorem FA.mk {K:PySem.W.Frag} {x:Str} {s:Stmt} {f:Addr} {oc:Value} {od an:Option Addr} {sl:Array (Option Value)} {kV dc pm cd ct:Value} (a:PySem.W.nsIn K mainGlobals x=some (some (.ref f))) (l:K.lookup f=some ⟨oc,od,.func (PySem.W.fnOf x x (defArgs s) (defBody s) (defScope s) .none kV dc pm an cd ct),sl⟩) (c:PySem.W.codeIn K cd x=true) (k:PySem.W.keepIn K (.ref f)=true):FA K x s f:=⟨a,_,_,_,_,_,_,_,_,_,l,c,k⟩
theorem ln1 {α:Type} {l:List α} (h:l.length=1):∃ a,l=[a]:=match l,h with | [_],_=>⟨_,rfl⟩
theorem ln2 {α:Type} {l:List α} (h:l.length=2):∃ a b,l=[a,b]:=match l,h with | [_,_],_=>⟨_,_,rfl⟩
theorem ln3 {α:Type} {l:List α} (h:l.length=3):∃ a b c,l=[a,b,c]:=match l,h with | [_,_,_],_=>⟨_,_,_,rfl⟩
theorem ln4 {α:Type} {l:List α} (h:l.length=4):∃ a b c d,l=[a,b,c,d]:=match l,h with | [_,_,_,_],_=>⟨_,_,_,_,rfl⟩
theorem ln5 {α:Type} {l:List α} (h:l.length=5):∃ a b c d e,l=[a,b,c,d,e]:=match l,h with | [_,_,_,_,_],_=>⟨_,_,_,_,_,rfl⟩
theorem ln6 {α:Type} {l:List α} (h:l.length=6):∃ a b c d e f,l=[a,b,c,d,e,f]:=match l,h with | [_,_,_,_,_,_],_=>⟨_,_,_,_,_,_,rfl⟩
theorem ln7 {α:Type} {l:List α} (h:l.length=7):∃ a b c d e f g,l=[a,b,c,d,e,f,g]:=match l,h with | [_,_,_,_,_,_,_],_=>⟨_,_,_,_,_,_,_,rfl⟩
theorem FL.bd {K:PySem.W.Frag} {x ql:Str} {s:Stmt} {f:Addr} {ps:List Str} (h:FL K x ql s f)
    (b:∀ (kV doc pm:Value) (an:Option Addr) (cdv ct:Value) (us:List Value),us.length=ps.length->bindArgs (PySem.W.fnOf x ql (defArgs s) (defBody s) (defScope s) .none kV doc pm an cdv ct) ⟨us,[]⟩=pure (ps.zip us)):∃ fd,Fun K x ql s f fd/\Binds K fd ps []:=
  let ⟨_,F⟩:=h.fn
  ⟨_,F,F.binds b⟩
theorem atS2 {K:PySem.W.Frag} {mg:Str->Option Value} {h:Heap} {name:Str} {st:Stmt} {f:Addr} (ps:List Str) (X:K.In h) (G:h.Ns mainGlobals mg) (a:FA K name st f)
    (b:∀ (kV doc pm:Value) (an:Option Addr) (cdv ct:Value) (us:List Value),us.length=ps.length->bindArgs (PySem.W.fnOf name name (defArgs st) (defBody st) (defScope st) .none kV doc pm an cdv ct) ⟨us,[]⟩=pure (ps.zip us):=by
      intro _ _ _ _ _ _ us hl
      first | (obtain ⟨_,rfl⟩:=ln1 hl; rfl) | (obtain ⟨_,_,rfl⟩:=ln2 hl; rfl) | (obtain ⟨_,_,_,rfl⟩:=ln3 hl; rfl) | (obtain ⟨_,_,_,_,rfl⟩:=ln4 hl; rfl) | (obtain ⟨_,_,_,_,_,rfl⟩:=ln5 hl; rfl) | (obtain ⟨_,_,_,_,_,_,rfl⟩:=ln6 hl; rfl) | (obtain ⟨_,_,_,_,_,_,_,rfl⟩:=ln7 hl; rfl)):∃ fd,AtS K mg name st ps f fd:=
  let ⟨a,l⟩:=a
  let ⟨_,F,B⟩:=l.bd b
  ⟨_,F,PySem.W.mg_of X G a,B⟩
theorem AtS.d {K:PySem.W.Frag} {mg:Str->Option Value} {name:Str} {st:Stmt} {ps:List Str} {f:Addr} {fd:FuncData} {k n:Nat} {F:FN} (a:AtS K mg name st ps f fd) (P:Program) (w:World) (base:Heap) (hn:ps.length=n) (G:FnOk P w K mg base (CXD P w) k f fd ps (spF mg n F)):DefS P w K mg base k name n F:=a.def hn G
def noL (K:PySem.W.Frag):Bool:=K.all fun p=>match p.2.data with
  | .seq _ _=>(match p.2.cls with
    | .type n=>!(n == ("list" : Str))
    | _=>true)
  | _=>true
theorem lookup_mem {K:PySem.W.Frag} {a:Addr} {o:Obj} (h:K.lookup a=some o):(a,o) ∈ K:=by
  induction K with
  | nil=>cases h
  | cons p K ih=>
    obtain ⟨b,u⟩:=p
    rw [List.lookup_cons] at h
    cases e:a == b with
    | true=>
      rw [e] at h
      have:a=b:=by simpa using e
      subst this
      cases h
      exact List.mem_cons_self
    | false=>
      rw [e] at h
      exact List.mem_cons_of_mem _ (ih h)
theorem noL_no {K:PySem.W.Frag} {a:Addr} {o:Obj} {its:Array Value} {n:Nat} (hL:noL K=true) (h:K.lookup a=some o) (hc:o.cls=.type "list") (hd:o.data=.seq its n):False:=by
  have:=List.all_eq_true.mp hL _ (lookup_mem h)
  simp [hc,hd] at this
theorem repL_ints {H:Hp} {ρ:Tk}:∀ ns:List Int,RepL H ρ (ns.map .int) (ns.map V.int)
  | []=>rfl
  | n :: ns=>⟨_,_,rfl,rfl,repL_ints ns⟩
theorem rel_nil (H:Hp):Rel H Tk.nil []:=⟨rfl,List.nodup_nil,fun a h=>(by cases h),fun a h=>(by cases h),fun i a c h=>(by simp [Tk.nil] at h)⟩
def spLawS (K:PySem.W.Frag):Sp:=fun vs H Q _=>∃ (a:Addr) (ns:List Int),vs=[.ref a]/\SqL K H a (ns.map V.int)/\ns.length<=63/\∀ H',Q (.bl true) H'
theorem law_imp {P:Program} {w:World} {K:PySem.W.Frag} {mg:Str->Option Value} {base:Heap} {CX:CXT} {k:Nat} {f:Addr} {fd:FuncData} {ps:List Str} {FL:FN} (hL:noL K=true) (F:FnOk P w K mg base CX k f fd ps (spF mg 1 FL)) (hlaw:∀ ns:List Int,ns.length<=63->∃ st',FL [.fro (ns.map .int)] []=.ok (.bl true) st'):FnOk P w K mg base CX k f fd ps (spLawS K):=F.imp fun vs H Q E ⟨a,ns,e,hS,hl,hQ⟩=>by
  subst e
  obtain ⟨st',hF⟩:=hlaw ns hl
  have hR:Rd H a (.lst (ns.map V.int)):=by
    rcases hS with h | ⟨o,its,n,h1,h2,h3,h4,_⟩
    · exact h
    · exact (noL_no hL h1 h2 h4).elim
  refine ⟨rfl,Tk.nil,[],[.fro (ns.map .int)],rel_nil H,⟨_,_,rfl,⟨a,_,rfl,hR,Tk.not_nil a,repL_ints ns⟩,rfl⟩,?_⟩
  rw [hF]
  intro H' ρ' x R v r
  have e:v=.bl true:=r
  subst e
  exact hQ H'
theorem cxd_none {P:Program} {w:World} {H:Hp} {s:Shared} {e:Value} {s':Shared} (h:CXD P w [] H s (fun _ _ _=>False) e s'):False:=by
  obtain ⟨_,_,_,_,_,_,_,_,_,z⟩:=h
  exact z
theorem walkS {l:PySem.W.OpenLaw} {k:Nat} {q:Program} {loose:List Str} {XP:(Str->Option Value)->Heap->Prop} {YP:World->Heap->Prop} {d:DefRec} {K:Params->PySem.W.Frag} (hn:l.most=some 63) (hr:Room k callerA) (hdf:d.params.defaults=[])
    (hY:∀ (w:World) (h:Heap),YP w h->(K w.params).In h)
    (F:∀ (w:World) (mg:Str->Option Value) (fa:Addr) (h:Heap),(K w.params).In h->h.Ns mainGlobals mg->mg d.name=some (.ref fa) ->
      ∃ fd:FuncData,(∀ (s:Shared) (u:Value),BindsTo s fd ⟨[u],[]⟩ [("script",u)])/\∀ base:Heap,(K w.params).In base->base.Ns mainGlobals mg->FnOk l.prog w (K w.params) mg base (CXD l.prog w) k fa fd ["script"] (spLawS (K w.params))) :
    PySem.W.WalkO q loose XP YP l.row.toRowW d [] (fun f vs=>PySem.call f vs):=
  L2.walk_of (n:=63) (k:=k) (x := "script") (CX:=fun w=>CXD l.prog w) (sp:=fun w=>spLawS (K w.params)) hn (by decide) hdf hr hY F (fun _ _ a ns hl _ hS=>⟨a,ns,rfl,hS,hl,fun _=>rfl⟩) fun _ _ _ _ _ z=>cxd_none z
end Sm
namespace Lw
open PySem PySem.Spec L2 Sm
def top (i:Nat):Stmt:=PySem.Challenge.pw_lendwharf_k61_runs_looked_at.main.body.getD i (.Pass ⟨0,0,0,0⟩)
abbrev s_is_whole:Stmt:=top 5
abbrev s_is_between:Stmt:=top 6
abbrev s_is_sized_tuple:Stmt:=top 7
abbrev s_is_word:Stmt:=top 8
abbrev s_is_letter:Stmt:=top 16
abbrev s_are_letters_of_rule:Stmt:=top 17
abbrev s_is_rule:Stmt:=top 18
abbrev s_are_rules:Stmt:=top 19
abbrev s_are_starts:Stmt:=top 20
abbrev s_is_manner:Stmt:=top 21
abbrev s_need_manner:Stmt:=top 22
abbrev s_may_be_done:Stmt:=top 23
abbrev s_used_behind:Stmt:=top 25
abbrev s_is_break:Stmt:=top 26
abbrev s__law_e_stirred:Stmt:=top 28
abbrev s__law_e_digit:Stmt:=top 29
abbrev s__law_e_name:Stmt:=top 30
abbrev s__law_e_letter_name:Stmt:=top 31
abbrev s__law_e_rule:Stmt:=top 32
abbrev s__law_e_manner:Stmt:=top 33
abbrev s__law_e_fits:Stmt:=top 34
abbrev s__law_e_step:Stmt:=top 35
abbrev s__law_e_breaks:Stmt:=top 36
abbrev s__law_e_drawn_run:Stmt:=top 37
abbrev s__law_e_bent:Stmt:=top 38
abbrev s_law:Stmt:=top 39
structure Txt (K:PySem.W.Frag) (mg:Str->Option Value):Prop where
  b_all:mg "all" = none
  b_bool:mg "bool" = none
  b_int:mg "int" = none
  b_isinstance:mg "isinstance" = none
  b_len:mg "len" = none
  b_list:mg "list" = none
  b_range:mg "range" = none
  b_set:mg "set" = none
  b_sorted:mg "sorted" = none
  b_str:mg "str" = none
  b_tuple:mg "tuple" = none
  c_MOST_SIGNS_OF_WORD:∃ t,mg "MOST_SIGNS_OF_WORD" = some (.int 8 t)
  c_MOST_STOCK:∃ t,mg "MOST_STOCK" = some (.int 20 t)
  c_MOST_STARTS:∃ t,mg "MOST_STARTS" = some (.int 4 t)
  c_MOST_RULES:∃ t,mg "MOST_RULES" = some (.int 60 t)
  c_MOST_USE_AT_ONCE:∃ t,mg "MOST_USE_AT_ONCE" = some (.int 9 t)
  c_MOST_LETTERS_OF_RULE:∃ t,mg "MOST_LETTERS_OF_RULE" = some (.int 8 t)
  u_EVENTS_WITHOUT_LETTER:TupG K mg "EVENTS_WITHOUT_LETTER" ["go", "fall"]
section
variable {P:Program} {w:World} {K:PySem.W.Frag} {mg:Str->Option Value} {base:Heap}
def m_is_whole:MS:=(mRet (mAnd (mIsI "int" (mVar 0)) (mNot (mIsI "bool" (mVar 0)))))
def F_is_whole:FN:=callF m_is_whole 1
theorem sc_is_whole:FnScope ["thing"] ["thing"] (defScope s_is_whole):=⟨rfl,rfl,rfl,by decide +kernel,rfl,by decide +kernel,by decide +kernel⟩
theorem ok_is_whole {f:Addr} {fd:FuncData} (F:Fun K "is_whole" "is_whole" s_is_whole f fd) (T:Txt K mg)   : FnOk P w K mg base (CXD P w) 1 f fd ["thing"] (spF mg 1 F_is_whole):=by
  refine fun_ok2 (k:=0) (m:=m_is_whole) F sc_is_whole rfl rfl rfl fun cdv A outer s H E hr=>?_
  exact (sb_one (ss_ret (se_and (se_isi (T := "int") (by decide) (se_var 0) rfl T.b_isinstance rfl T.b_int boot_int) (se_one (se_not (se_isi (T := "bool") (by decide) (se_var 0) rfl T.b_isinstance rfl T.b_bool boot_bool))))))
def m_is_between:MS:=(mRet (mAnd (mCallF 1 F_is_whole (mCons (mVar 0) mNil)) (mChain (oI fun a b=>.bl (decide (a<=b))) (oI fun a b=>.bl (decide (a<=b))) (mVar 1) (mVar 0) (mVar 2))))
def F_is_between:FN:=callF m_is_between 3
theorem sc_is_between:FnScope ["thing", "least", "most"] ["thing", "least", "most"] (defScope s_is_between):=⟨rfl,rfl,rfl,by decide +kernel,rfl,by decide +kernel,by decide +kernel⟩
theorem ok_is_between {f:Addr} {fd:FuncData} (F:Fun K "is_between" "is_between" s_is_between f fd) (T:Txt K mg)  (D_is_whole:DefS P w K mg base 1 "is_whole" 1 F_is_whole):FnOk P w K mg base (CXD P w) 2 f fd ["thing", "least", "most"] (spF mg 3 F_is_between):=by
  refine fun_ok2 (k:=1) (m:=m_is_between) F sc_is_between rfl rfl rfl fun cdv A outer s H E hr=>?_
  exact (sb_one (ss_ret (se_and (se_call D_is_whole (hr.mono (by decide)) pass_onD rfl (sa_cons (se_var 0) sa_nil)) (se_one (se_chain os_le os_le (se_var 1) (se_var 0) (se_var 2))))))
def m_is_sized_tuple:MS:=(mRet (mAnd (mIsI "tuple" (mVar 0)) (mChain (oI fun a b=>.bl (decide (a<=b))) (oI fun a b=>.bl (decide (a<=b))) (mVar 1) (mCall cLen (mCons (mVar 0) mNil)) (mVar 2))))
def F_is_sized_tuple:FN:=callF m_is_sized_tuple 3
theorem sc_is_sized_tuple:FnScope ["thing", "least", "most"] ["thing", "least", "most"] (defScope s_is_sized_tuple):=⟨rfl,rfl,rfl,by decide +kernel,rfl,by decide +kernel,by decide +kernel⟩
theorem ok_is_sized_tuple {f:Addr} {fd:FuncData} (F:Fun K "is_sized_tuple" "is_sized_tuple" s_is_sized_tuple f fd) (T:Txt K mg)   : FnOk P w K mg base (CXD P w) 1 f fd ["thing", "least", "most"] (spF mg 3 F_is_sized_tuple):=by
  refine fun_ok2 (k:=0) (m:=m_is_sized_tuple) F sc_is_sized_tuple rfl rfl rfl fun cdv A outer s H E hr=>?_
  exact (sb_one (ss_ret (se_and (se_isi (T := "tuple") (by decide) (se_var 0) rfl T.b_isinstance rfl T.b_tuple boot_tuple) (se_one (se_chain os_le os_le (se_var 1) (se_callB cs_len rfl T.b_len PySem.boot_len (sa_cons (se_var 0) sa_nil)) (se_var 2))))))
def e_is_word_1:ME:=(mChain oLe2 oLe2 (mC (.str "a")) (mVar 0) (mC (.str "z")))
def m_is_word : MS := (mSeqS (mIfS (tOrM (tNotM (toB (mIsI "str" (mVar 0)))) (tNotM (toB (mChain (oI fun a b => .bl (decide (a <= b))) (oI fun a b => .bl (decide (a <= b))) (mC (.int 1)) (mCall cLen (mCons (mVar 0) mNil)) (mC (.int 8)))))) (mRet (mC (.bl false))) mNext)
    (mRet (mCall (cBls fun ns=>.bl (ns.all id)) (mCons (mVal (mCompN [none] (gaName 0) (mStrI (mVar 0)) mTrue e_is_word_1)) mNil))))
def F_is_word:FN:=callF m_is_word 1
theorem sc_is_word:FnScope ["thing"] ["thing"] (defScope s_is_word):=⟨rfl,rfl,rfl,by decide +kernel,rfl,by decide +kernel,by decide +kernel⟩
theorem ok_is_word {f:Addr} {fd:FuncData} (F:Fun K "is_word" "is_word" s_is_word f fd) (T:Txt K mg)   : FnOk P w K mg base (CXD P w) 1 f fd ["thing"] (spF mg 1 F_is_word):=by
  refine fun_ok2 (k:=0) (m:=m_is_word) F sc_is_word rfl rfl rfl fun cdv A outer s H E hr=>?_
  exact (sb_cons (ss_if (SimW.t (sw_or (st_not (st_val (se_isi (T := "str") (by decide) (se_var 0) rfl T.b_isinstance rfl T.b_str boot_str))) (sw_or1 (st_not (st_chain os_le os_le se_int (se_callB cs_len rfl T.b_len PySem.boot_len (sa_cons (se_var 0) sa_nil)) (se_gint rfl T.c_MOST_SIGNS_OF_WORD.choose_spec)))))) (sb_one (ss_ret se_bl)) sb_nil)
    (sb_one (ss_ret (se_callB (cs_all rfl) rfl T.b_all boot_all (sa_cons (se_val (sn_comp [none] ["sign"] rfl (si_str (se_var 0)) (fun _ _ _ _ _=>(sg_name (i:=0) (show (["sign"]:List Str).Nodup by decide +kernel))) (fun _ _ _ _ _=>(se_chain os_le2 os_le2 se_str (se_var 0) se_str)) (fun _ _ _ _ _=>sts_nil) free_name)) sa_nil)))))
def m_is_letter : MS := (mSeqS (mIfS (tOrM (tNotM (toB (mCallF 3 F_is_sized_tuple (mCons (mVar 1) (mCons (mC (.int 2)) (mCons (mC (.int 2)) mNil)))))) (tNotM (toB (mCallF 3 F_is_between (mCons (mOp oIx (mVar 1) (mC (.int 0))) (mCons (mC (.int 0)) (mCons (mOp (oI fun a b => .int (a - b)) (mVar 0) (mC (.int 1))) mNil))))))) (mRet (mC (.bl false))) mNext)
    (mRet (mAnd (mCallF 1 F_is_word (mCons (mOp oIx (mVar 1) (mC (.int 1))) mNil)) (mInG true ["go", "fall"] (mOp oIx (mVar 1) (mC (.int 1)))))))
def F_is_letter:FN:=callF m_is_letter 2
theorem sc_is_letter:FnScope ["n", "thing"] ["n", "thing"] (defScope s_is_letter):=⟨rfl,rfl,rfl,by decide +kernel,rfl,by decide +kernel,by decide +kernel⟩
theorem ok_is_letter {f:Addr} {fd:FuncData} (F:Fun K "is_letter" "is_letter" s_is_letter f fd) (T:Txt K mg)  (D_is_sized_tuple:DefS P w K mg base 1 "is_sized_tuple" 3 F_is_sized_tuple) (D_is_between:DefS P w K mg base 2 "is_between" 3 F_is_between) (D_is_word:DefS P w K mg base 1 "is_word" 1 F_is_word):FnOk P w K mg base (CXD P w) 3 f fd ["n", "thing"] (spF mg 2 F_is_letter):=by
  refine fun_ok2 (k:=2) (m:=m_is_letter) F sc_is_letter rfl rfl rfl fun cdv A outer s H E hr=>?_
  exact (sb_cons (ss_if (SimW.t (sw_or (st_not (st_val (se_call D_is_sized_tuple (hr.mono (by decide)) pass_onD rfl (sa_cons (se_var 1) (sa_cons se_int (sa_cons se_int sa_nil)))))) (sw_or1 (st_not (st_val (se_call D_is_between (hr.mono (by decide)) pass_onD rfl (sa_cons (se_ix (se_var 1) se_int) (sa_cons se_int (sa_cons (se_op os_sub (se_var 0) se_int) sa_nil))))))))) (sb_one (ss_ret se_bl)) sb_nil)
    (sb_one (ss_ret (se_and (se_call D_is_word (hr.mono (by decide)) pass_onD rfl (sa_cons (se_ix (se_var 1) se_int) sa_nil)) (se_one (se_notinG T.u_EVENTS_WITHOUT_LETTER rfl (se_ix (se_var 1) se_int)))))))
def e_are_letters_of_rule_1:ME:=(mCallF 2 F_is_letter (mCons (mVar 1) (mCons (mVar 0) mNil)))
def m_are_letters_of_rule:MS:=(mRet (mAnd (mCallF 3 F_is_sized_tuple (mCons (mVar 1) (mCons (mC (.int 0)) (mCons (mC (.int 8)) mNil)))) (mCall (cBls fun ns=>.bl (ns.all id)) (mCons (mVal (mCompN [none,some 0] (gaName 0) (mSeq (mVar 1)) mTrue e_are_letters_of_rule_1)) mNil))))
def F_are_letters_of_rule:FN:=callF m_are_letters_of_rule 2
theorem sc_are_letters_of_rule:FnScope ["n", "thing"] ["n", "thing"] (defScope s_are_letters_of_rule):=⟨rfl,rfl,rfl,by decide +kernel,rfl,by decide +kernel,by decide +kernel⟩
theorem ok_are_letters_of_rule {f:Addr} {fd:FuncData} (F:Fun K "are_letters_of_rule" "are_letters_of_rule" s_are_letters_of_rule f fd) (T:Txt K mg)  (D_is_sized_tuple:DefS P w K mg base 1 "is_sized_tuple" 3 F_is_sized_tuple) (D_is_letter:DefS P w K mg base 3 "is_letter" 2 F_is_letter):FnOk P w K mg base (CXD P w) 4 f fd ["n", "thing"] (spF mg 2 F_are_letters_of_rule):=by
  refine fun_ok2 (k:=3) (m:=m_are_letters_of_rule) F sc_are_letters_of_rule rfl rfl rfl fun cdv A outer s H E hr=>?_
  exact (sb_one (ss_ret (se_and (se_call D_is_sized_tuple (hr.mono (by decide)) pass_onD rfl (sa_cons (se_var 1) (sa_cons se_int (sa_cons (se_gint rfl T.c_MOST_LETTERS_OF_RULE.choose_spec) sa_nil)))) (se_one (se_callB (cs_all rfl) rfl T.b_all boot_all (sa_cons (se_val (sn_comp [none,some 0] ["part", "n"] rfl (si_seq (se_var 1)) (fun _ _ _ _ _=>(sg_name (i:=0) (show (["part", "n"]:List Str).Nodup by decide +kernel))) (fun _ _ _ _ _=>(se_call D_is_letter (hr.mono (by decide)) pass00D rfl (sa_cons (se_var 1) (sa_cons (se_var 0) sa_nil)))) (fun _ _ _ _ _=>sts_nil) free_name)) sa_nil))))))
def e_is_rule_1:ME:=(mCallF 1 F_is_word (mCons (mVar 0) mNil))
def m_is_rule : MS := (mSeqS (mIfS (tOrM (tNotM (toB (mCallF 3 F_is_sized_tuple (mCons (mVar 1) (mCons (mC (.int 6)) (mCons (mC (.int 6)) mNil)))))) (tNotM (toB (mCallF 3 F_is_between (mCons (mOp oIx (mVar 1) (mC (.int 0))) (mCons (mC (.int 0)) (mCons (mOp (oI fun a b => .int (a - b)) (mVar 0) (mC (.int 1))) mNil))))))) (mRet (mC (.bl false))) mNext)
    (mSeqS (mIfS (tNotM (toB (mCall (cBls fun ns=>.bl (ns.all id)) (mCons (mVal (mCompN [none] (gaName 0) (mSeq (mSl (mVar 1) (mPart (mC (.int 1))) (mPart (mC (.int 4))))) mTrue e_is_rule_1)) mNil)))) (mRet (mC (.bl false))) mNext)
    (mRet (mAnd (mCallF 3 F_is_between (mCons (mOp oIx (mVar 1) (mC (.int 4))) (mCons (mC (.int 0)) (mCons (mC (.int 9)) mNil)))) (mCallF 2 F_are_letters_of_rule (mCons (mVar 0) (mCons (mOp oIx (mVar 1) (mC (.int 5))) mNil)))))))
def F_is_rule:FN:=callF m_is_rule 2
theorem sc_is_rule:FnScope ["n", "thing"] ["n", "thing"] (defScope s_is_rule):=⟨rfl,rfl,rfl,by decide +kernel,rfl,by decide +kernel,by decide +kernel⟩
theorem ok_is_rule {f:Addr} {fd:FuncData} (F:Fun K "is_rule" "is_rule" s_is_rule f fd) (T:Txt K mg)  (D_is_sized_tuple:DefS P w K mg base 1 "is_sized_tuple" 3 F_is_sized_tuple) (D_is_between:DefS P w K mg base 2 "is_between" 3 F_is_between) (D_is_word:DefS P w K mg base 1 "is_word" 1 F_is_word) (D_are_letters_of_rule:DefS P w K mg base 4 "are_letters_of_rule" 2 F_are_letters_of_rule):FnOk P w K mg base (CXD P w) 5 f fd ["n", "thing"] (spF mg 2 F_is_rule):=by
  refine fun_ok2 (k:=4) (m:=m_is_rule) F sc_is_rule rfl rfl rfl fun cdv A outer s H E hr=>?_
  exact (sb_cons (ss_if (SimW.t (sw_or (st_not (st_val (se_call D_is_sized_tuple (hr.mono (by decide)) pass_onD rfl (sa_cons (se_var 1) (sa_cons se_int (sa_cons se_int sa_nil)))))) (sw_or1 (st_not (st_val (se_call D_is_between (hr.mono (by decide)) pass_onD rfl (sa_cons (se_ix (se_var 1) se_int) (sa_cons se_int (sa_cons (se_op os_sub (se_var 0) se_int) sa_nil))))))))) (sb_one (ss_ret se_bl)) sb_nil)
    (sb_cons (ss_if (st_not (st_val (se_callB (cs_all rfl) rfl T.b_all boot_all (sa_cons (se_val (sn_comp [none] ["part"] rfl (si_seq (se_slice (se_var 1) (so_some se_int) (so_some se_int))) (fun _ _ _ _ _=>(sg_name (i:=0) (show (["part"]:List Str).Nodup by decide +kernel))) (fun _ _ _ _ _=>(se_call D_is_word (hr.mono (by decide)) pass00D rfl (sa_cons (se_var 0) sa_nil))) (fun _ _ _ _ _=>sts_nil) free_name)) sa_nil)))) (sb_one (ss_ret se_bl)) sb_nil)
    (sb_one (ss_ret (se_and (se_call D_is_between (hr.mono (by decide)) pass_onD rfl (sa_cons (se_ix (se_var 1) se_int) (sa_cons se_int (sa_cons (se_gint rfl T.c_MOST_USE_AT_ONCE.choose_spec) sa_nil)))) (se_one (se_call D_are_letters_of_rule (hr.mono (by decide)) pass_onD rfl (sa_cons (se_var 0) (sa_cons (se_ix (se_var 1) se_int) sa_nil)))))))))
def e_are_rules_1:ME:=(mCallF 2 F_is_rule (mCons (mVar 1) (mCons (mVar 0) mNil)))
def m_are_rules : MS := (mSeqS (mIfS (tOrM (tNotM (toB (mCallF 3 F_is_sized_tuple (mCons (mVar 1) (mCons (mC (.int 0)) (mCons (mC (.int 60)) mNil)))))) (tNotM (toB (mCall (cBls fun ns => .bl (ns.all id)) (mCons (mVal (mCompN [none, some 0] (gaName 0) (mSeq (mVar 1)) mTrue e_are_rules_1)) mNil))))) (mRet (mC (.bl false))) mNext)
    (mRet (mOp oEq (mLenSetT (mVar 1)) (mCall cLen (mCons (mVar 1) mNil)))))
def F_are_rules:FN:=callF m_are_rules 2
theorem sc_are_rules:FnScope ["n", "thing"] ["n", "thing"] (defScope s_are_rules):=⟨rfl,rfl,rfl,by decide +kernel,rfl,by decide +kernel,by decide +kernel⟩
theorem ok_are_rules {f:Addr} {fd:FuncData} (F:Fun K "are_rules" "are_rules" s_are_rules f fd) (T:Txt K mg)  (D_is_sized_tuple:DefS P w K mg base 1 "is_sized_tuple" 3 F_is_sized_tuple) (D_is_rule:DefS P w K mg base 5 "is_rule" 2 F_is_rule):FnOk P w K mg base (CXD P w) 6 f fd ["n", "thing"] (spF mg 2 F_are_rules):=by
  refine fun_ok2 (k:=5) (m:=m_are_rules) F sc_are_rules rfl rfl rfl fun cdv A outer s H E hr=>?_
  exact (sb_cons (ss_if (SimW.t (sw_or (st_not (st_val (se_call D_is_sized_tuple (hr.mono (by decide)) pass_onD rfl (sa_cons (se_var 1) (sa_cons se_int (sa_cons (se_gint rfl T.c_MOST_RULES.choose_spec) sa_nil)))))) (sw_or1 (st_not (st_val (se_callB (cs_all rfl) rfl T.b_all boot_all (sa_cons (se_val (sn_comp [none,some 0] ["part", "n"] rfl (si_seq (se_var 1)) (fun _ _ _ _ _=>(sg_name (i:=0) (show (["part", "n"]:List Str).Nodup by decide +kernel))) (fun _ _ _ _ _=>(se_call D_is_rule (hr.mono (by decide)) pass00D rfl (sa_cons (se_var 1) (sa_cons (se_var 0) sa_nil)))) (fun _ _ _ _ _=>sts_nil) free_name)) sa_nil))))))) (sb_one (ss_ret se_bl)) sb_nil)
    (sb_one (ss_ret (se_cmp (os_eq hr.units) (se_lensetT (room_u1 hr) (se_var 1) rfl rfl T.b_len rfl T.b_set boot_set) (se_callB cs_len rfl T.b_len PySem.boot_len (sa_cons (se_var 1) sa_nil))))))
def e_are_starts_1:ME:=(mCallF 1 F_is_word (mCons (mVar 0) mNil))
def m_are_starts:MS:=(mRet (mAnd (mCallF 3 F_is_sized_tuple (mCons (mVar 0) (mCons (mC (.int 1)) (mCons (mC (.int 4)) mNil)))) (mCall (cBls fun ns=>.bl (ns.all id)) (mCons (mVal (mCompN [none] (gaName 0) (mSeq (mVar 0)) mTrue e_are_starts_1)) mNil))))
def F_are_starts:FN:=callF m_are_starts 1
theorem sc_are_starts:FnScope ["thing"] ["thing"] (defScope s_are_starts):=⟨rfl,rfl,rfl,by decide +kernel,rfl,by decide +kernel,by decide +kernel⟩
theorem ok_are_starts {f:Addr} {fd:FuncData} (F:Fun K "are_starts" "are_starts" s_are_starts f fd) (T:Txt K mg)  (D_is_sized_tuple:DefS P w K mg base 1 "is_sized_tuple" 3 F_is_sized_tuple) (D_is_word:DefS P w K mg base 1 "is_word" 1 F_is_word):FnOk P w K mg base (CXD P w) 2 f fd ["thing"] (spF mg 1 F_are_starts):=by
  refine fun_ok2 (k:=1) (m:=m_are_starts) F sc_are_starts rfl rfl rfl fun cdv A outer s H E hr=>?_
  exact (sb_one (ss_ret (se_and (se_call D_is_sized_tuple (hr.mono (by decide)) pass_onD rfl (sa_cons (se_var 0) (sa_cons se_int (sa_cons (se_gint rfl T.c_MOST_STARTS.choose_spec) sa_nil)))) (se_one (se_callB (cs_all rfl) rfl T.b_all boot_all (sa_cons (se_val (sn_comp [none] ["part"] rfl (si_seq (se_var 0)) (fun _ _ _ _ _=>(sg_name (i:=0) (show (["part"]:List Str).Nodup by decide +kernel))) (fun _ _ _ _ _=>(se_call D_is_word (hr.mono (by decide)) pass00D rfl (sa_cons (se_var 0) sa_nil))) (fun _ _ _ _ _=>sts_nil) free_name)) sa_nil))))))
def m_is_manner : MS := (mSeqS (mIfS (tOrM (tNotM (toB (mCallF 3 F_is_sized_tuple (mCons (mVar 0) (mCons (mC (.int 3)) (mCons (mC (.int 3)) mNil)))))) (tNotM (toB (mCallF 3 F_is_between (mCons (mOp oIx (mVar 0) (mC (.int 0))) (mCons (mC (.int 0)) (mCons (mC (.int 20)) mNil))))))) (mRet (mC (.bl false))) mNext)
    (mRet (mAnd (mCallF 1 F_are_starts (mCons (mOp oIx (mVar 0) (mC (.int 1))) mNil)) (mCallF 2 F_are_rules (mCons (mCall cLen (mCons (mOp oIx (mVar 0) (mC (.int 1))) mNil)) (mCons (mOp oIx (mVar 0) (mC (.int 2))) mNil))))))
def F_is_manner:FN:=callF m_is_manner 1
theorem sc_is_manner:FnScope ["thing"] ["thing"] (defScope s_is_manner):=⟨rfl,rfl,rfl,by decide +kernel,rfl,by decide +kernel,by decide +kernel⟩
theorem ok_is_manner {f:Addr} {fd:FuncData} (F:Fun K "is_manner" "is_manner" s_is_manner f fd) (T:Txt K mg)  (D_is_sized_tuple:DefS P w K mg base 1 "is_sized_tuple" 3 F_is_sized_tuple) (D_is_between:DefS P w K mg base 2 "is_between" 3 F_is_between) (D_are_starts:DefS P w K mg base 2 "are_starts" 1 F_are_starts) (D_are_rules:DefS P w K mg base 6 "are_rules" 2 F_are_rules):FnOk P w K mg base (CXD P w) 7 f fd ["thing"] (spF mg 1 F_is_manner):=by
  refine fun_ok2 (k:=6) (m:=m_is_manner) F sc_is_manner rfl rfl rfl fun cdv A outer s H E hr=>?_
  exact (sb_cons (ss_if (SimW.t (sw_or (st_not (st_val (se_call D_is_sized_tuple (hr.mono (by decide)) pass_onD rfl (sa_cons (se_var 0) (sa_cons se_int (sa_cons se_int sa_nil)))))) (sw_or1 (st_not (st_val (se_call D_is_between (hr.mono (by decide)) pass_onD rfl (sa_cons (se_ix (se_var 0) se_int) (sa_cons se_int (sa_cons (se_gint rfl T.c_MOST_STOCK.choose_spec) sa_nil))))))))) (sb_one (ss_ret se_bl)) sb_nil)
    (sb_one (ss_ret (se_and (se_call D_are_starts (hr.mono (by decide)) pass_onD rfl (sa_cons (se_ix (se_var 0) se_int) sa_nil)) (se_one (se_call D_are_rules (hr.mono (by decide)) pass_onD rfl (sa_cons (se_callB cs_len rfl T.b_len PySem.boot_len (sa_cons (se_ix (se_var 0) se_int) sa_nil)) (sa_cons (se_ix (se_var 0) se_int) sa_nil))))))))
def m_need_manner:MS:=(mIfS (tNotM (toB (mCallF 1 F_is_manner (mCons (mVar 0) mNil)))) (mRaise "NoManner" (mC (.str "this is no manner"))) mNext)
def F_need_manner:FN:=callF m_need_manner 1
theorem sc_need_manner:FnScope ["manner"] ["manner"] (defScope s_need_manner):=⟨rfl,rfl,rfl,by decide +kernel,rfl,by decide +kernel,by decide +kernel⟩
theorem ok_need_manner {f:Addr} {fd:FuncData} (F:Fun K "need_manner" "need_manner" s_need_manner f fd) (T:Txt K mg) (C_NoManner:∃ C,mg "NoManner" = some (.ref C)/\PySem.W.excIn K C bmVE "ValueError.__new__" = true) (D_is_manner:DefS P w K mg base 7 "is_manner" 1 F_is_manner):FnOk P w K mg base (CXD P w) 8 f fd ["manner"] (spF mg 1 F_need_manner):=by
  refine fun_ok2 (k:=7) (m:=m_need_manner) F sc_need_manner rfl rfl rfl fun cdv A outer s H E hr=>?_
  exact (sb_one (ss_if (st_not (st_val (se_call D_is_manner (hr.mono (by decide)) pass_onD rfl (sa_cons (se_var 0) sa_nil)))) (sb_one (ss_raise rfl raiseDok rfl C_NoManner.choose_spec.1 C_NoManner.choose_spec.2 se_str)) sb_nil))
def m_may_be_done : MS := (mSeqS (mIfS (toB (mOp oNe (mOp oIx (mOp oIx (mVar 1) (mC (.int 0))) (mOp oIx (mVar 0) (mC (.int 0)))) (mOp oIx (mVar 0) (mC (.int 1))))) (mRet (mC (.bl false))) mNext)
    (mRet (mOr (mInG false ["go", "fall"] (mOp oIx (mVar 0) (mC (.int 2)))) (mOp (oInT false) (mTup (mCons (mOp oIx (mVar 0) (mC (.int 0))) (mCons (mOp oIx (mVar 0) (mC (.int 2))) mNil))) (mOp oIx (mVar 1) (mC (.int 1)))))))
def F_may_be_done:FN:=callF m_may_be_done 2
theorem sc_may_be_done:FnScope ["rule", "stand"] ["rule", "stand"] (defScope s_may_be_done):=⟨rfl,rfl,rfl,by decide +kernel,rfl,by decide +kernel,by decide +kernel⟩
theorem ok_may_be_done {f:Addr} {fd:FuncData} (F:Fun K "may_be_done" "may_be_done" s_may_be_done f fd) (T:Txt K mg)   : FnOk P w K mg base (CXD P w) 1 f fd ["rule", "stand"] (spF mg 2 F_may_be_done):=by
  refine fun_ok2 (k:=0) (m:=m_may_be_done) F sc_may_be_done rfl rfl rfl fun cdv A outer s H E hr=>?_
  exact (sb_cons (ss_if (st_cmp (os_ne hr.units) (se_ix (se_ix (se_var 1) se_int) (se_ix (se_var 0) se_int)) (se_ix (se_var 0) se_int)) (sb_one (ss_ret se_bl)) sb_nil)
    (sb_one (ss_ret (se_or (se_inG T.u_EVENTS_WITHOUT_LETTER rfl (se_ix (se_var 0) se_int)) (se_one (se_cmp (os_inT (room_u1 hr)) (se_tup (sa_cons (se_ix (se_var 0) se_int) (sa_cons (se_ix (se_var 0) se_int) sa_nil))) (se_ix (se_var 1) se_int)))))))
def e_used_behind_1:ME:=(mTup (mCons (mVar 0) (mCons (mC (.bl true)) mNil)))
def b_used_behind_1 : MS := (mSeqS (mIfS (tOrM (tNotM (toB (mChain (oI fun a b => .bl (decide (a <= b))) oLt (mC (.int 0)) (mVar 5) (mCall cLen (mCons (mOp oIx (mVar 0) (mC (.int 2))) mNil))))) (tNotM (toB (mCallF 2 F_may_be_done (mCons (mOp oIx (mOp oIx (mVar 0) (mC (.int 2))) (mVar 5)) (mCons (mTup (mCons (mVar 2) (mCons (mVar 3) mNil))) mNil)))))) (mRet (mC .non)) mNext)
    (mSeqS (mSet 6 (mOp oIx (mOp oIx (mVar 0) (mC (.int 2))) (mVar 5)))
    (mSeqS (mSetIx (mVar 2) (mOp oIx (mVar 6) (mC (.int 0))) (mOp oIx (mVar 6) (mC (.int 3))))
    (mSeqS (mExpr (mUpd (mVar 3) (mCons (mVal (mCompN [none] (gaName 0) (mSeq (mOp oIx (mVar 6) (mC (.int 5)))) mTrue e_used_behind_1)) mNil)))
    (mAug 4 (fun i j=>i + j) (mOp oIx (mVar 6) (mC (.int 4))))))))
def m_used_behind : MS := (mSeqS (mSet 2 (mTrk (mListN (mOp oIx (mVar 0) (mC (.int 1))))))
    (mSeqS (mSet 3 mDispT)
    (mSeqS (mSet 4 (mC (.int 0)))
    (mSeqS (mFor (gaName 5) (mSeq (mVar 1)) b_used_behind_1)
    (mRet (mVar 4))))))
def F_used_behind:FN:=callF m_used_behind 7
theorem sc_used_behind:FnScope ["manner", "run", "states", "letters", "used", "number", "rule"] ["manner", "run"] (defScope s_used_behind):=⟨rfl,rfl,rfl,by decide +kernel,rfl,by decide +kernel,by decide +kernel⟩
theorem ok_used_behind {f:Addr} {fd:FuncData} (F:Fun K "used_behind" "used_behind" s_used_behind f fd) (T:Txt K mg)  (D_may_be_done:DefS P w K mg base 1 "may_be_done" 2 F_may_be_done):FnOk P w K mg base (CXD P w) 2 f fd ["manner", "run"] (spF mg 2 F_used_behind):=by
  refine fun_ok2 (k:=1) (m:=m_used_behind) F sc_used_behind rfl rfl rfl fun cdv A outer s H E hr=>?_
  exact (sb_cons (ss_set 2 sc_used_behind.nd (se_trk (sn_list (se_ix (se_var 0) se_int) rfl T.b_list)))
    (sb_cons (ss_set 3 sc_used_behind.nd se_dispT)
    (sb_cons (ss_set 4 sc_used_behind.nd se_int)
    (sb_cons (ss_for PassesOwn.leaving rfl (si_seq (se_var 1)) (sg_name (i:=5) sc_used_behind.nd) (sb_cons (ss_if (SimW.t (sw_or (st_not (st_chain os_le (os_lt hr.units) se_int (se_var 5) (se_callB cs_len rfl T.b_len PySem.boot_len (sa_cons (se_ix (se_var 0) se_int) sa_nil)))) (sw_or1 (st_not (st_val (se_call D_may_be_done (hr.mono (by decide)) pass_onD rfl (sa_cons (se_ix (se_ix (se_var 0) se_int) (se_var 5)) (sa_cons (se_tup (sa_cons (se_var 2) (sa_cons (se_var 3) sa_nil))) sa_nil)))))))) (sb_one (ss_ret se_non)) sb_nil)
    (sb_cons (ss_set 6 sc_used_behind.nd (se_ix (se_ix (se_var 0) se_int) (se_var 5)))
    (sb_cons (ss_sub (se_ix (se_var 6) se_int) (se_var 2) (se_ix (se_var 6) se_int))
    (sb_cons (ss_expr (se_upd (room_u1 hr) rfl (se_var 3) (sa_cons (se_val (sn_comp [none] ["letter"] rfl (si_seq (se_ix (se_var 6) se_int)) (fun _ _ _ _ _=>(sg_name (i:=0) (show (["letter"]:List Str).Nodup by decide +kernel))) (fun _ _ _ _ _=>(se_tup (sa_cons (se_var 0) (sa_cons se_bl sa_nil)))) (fun _ _ _ _ _=>sts_nil) free_name)) sa_nil)))
    (sb_one (ss_aug 4 ip_add sc_used_behind.nd (se_ix (se_var 6) se_int))))))))
    (sb_one (ss_ret (se_var 4)))))))
def m_is_break : MS := (mSeqS (mExpr (mCallF 1 F_need_manner (mCons (mVar 0) mNil)))
    (mSeqS (mSet 2 (mCallF 2 F_used_behind (mCons (mVar 0) (mCons (mVar 1) mNil))))
    (mRet (mAnd (mOp oIsNot (mVar 2) (mC .non)) (mOp (oI fun a b=>.bl (decide (b < a))) (mVar 2) (mOp oIx (mVar 0) (mC (.int 0))))))))
def F_is_break:FN:=callF m_is_break 3
theorem sc_is_break:FnScope ["manner", "run", "used"] ["manner", "run"] (defScope s_is_break):=⟨rfl,rfl,rfl,by decide +kernel,rfl,by decide +kernel,by decide +kernel⟩
theorem ok_is_break {f:Addr} {fd:FuncData} (F:Fun K "is_break" "is_break" s_is_break f fd) (T:Txt K mg)  (D_need_manner:DefS P w K mg base 8 "need_manner" 1 F_need_manner) (D_used_behind:DefS P w K mg base 2 "used_behind" 2 F_used_behind):FnOk P w K mg base (CXD P w) 9 f fd ["manner", "run"] (spF mg 2 F_is_break):=by
  refine fun_ok2 (k:=8) (m:=m_is_break) F sc_is_break rfl rfl rfl fun cdv A outer s H E hr=>?_
  exact (sb_cons (ss_expr (se_call D_need_manner (hr.mono (by decide)) pass_onD rfl (sa_cons (se_var 0) sa_nil)))
    (sb_cons (ss_set 2 sc_is_break.nd (se_call D_used_behind (hr.mono (by decide)) pass_onD rfl (sa_cons (se_var 0) (sa_cons (se_var 1) sa_nil))))
    (sb_one (ss_ret (se_and (se_cmp os_isnot (se_var 2) se_non) (se_one (se_cmp os_gt (se_var 2) (se_ix (se_var 0) se_int))))))))
def m__law_e_stirred : MS := (mSeqS (mIfS (toB (mOp (oI fun a b => .bl (decide (b <= a))) (mVar 0) (mOp oPow (mC (.int 10)) (mC (.int 18))))) (mRet (mVar 0)) mNext)
    (mSeqS (mSet 2 (mOp oMod (mOp oAdd (mOp oAdd (mOp oMul (mOp oMod (mVar 0) (mC (.int 998244353))) (mC (.int 51749))) (mOp oMul (mVar 1) (mC (.int 7919)))) (mC (.int 3))) (mC (.int 1000000007))))
    (mSeqS (mSet 3 (mOp oMod (mOp oAdd (mOp oAdd (mOp oAdd (mOp oMul (mVar 2) (mVar 2)) (mOp oMul (mC (.int 32749)) (mVar 2))) (mVar 1)) (mC (.int 5))) (mC (.int 2147483629))))
    (mSeqS (mSet 4 (mOp oMod (mOp oAdd (mOp oAdd (mOp oMul (mVar 3) (mVar 3)) (mOp oMul (mC (.int 61)) (mVar 1))) (mVar 2)) (mC (.int 2147483587))))
    (mRet (mOp oAdd (mOp oMul (mVar 3) (mC (.int 2147483587))) (mVar 4)))))))
def F__law_e_stirred:FN:=callF m__law_e_stirred 5
theorem sc__law_e_stirred:FnScope ["cell", "place", "first", "second", "third"] ["cell", "place"] (defScope s__law_e_stirred):=⟨rfl,rfl,rfl,by decide +kernel,rfl,by decide +kernel,by decide +kernel⟩
theorem ok__law_e_stirred {f:Addr} {fd:FuncData} (F:Fun K "_law_e_stirred" "_law_e_stirred" s__law_e_stirred f fd) (T:Txt K mg)   : FnOk P w K mg base (CXD P w) 1 f fd ["cell", "place"] (spF mg 2 F__law_e_stirred):=by
  refine fun_ok2 (k:=0) (m:=m__law_e_stirred) F sc__law_e_stirred rfl rfl rfl fun cdv A outer s H E hr=>?_
  exact (sb_cons (ss_if (st_cmp os_ge (se_var 0) (se_op os_pow se_int se_int)) (sb_one (ss_ret (se_var 0))) sb_nil)
    (sb_cons (ss_set 2 sc__law_e_stirred.nd (se_op os_mod (se_op os_add (se_op os_add (se_op os_mul (se_op os_mod (se_var 0) se_int) se_int) (se_op os_mul (se_var 1) se_int)) se_int) se_int))
    (sb_cons (ss_set 3 sc__law_e_stirred.nd (se_op os_mod (se_op os_add (se_op os_add (se_op os_add (se_op os_mul (se_var 2) (se_var 2)) (se_op os_mul se_int (se_var 2))) (se_var 1)) se_int) se_int))
    (sb_cons (ss_set 4 sc__law_e_stirred.nd (se_op os_mod (se_op os_add (se_op os_add (se_op os_mul (se_var 3) (se_var 3)) (se_op os_mul se_int (se_var 1))) (se_var 2)) se_int))
    (sb_one (ss_ret (se_op os_add (se_op os_mul (se_var 3) se_int) (se_var 4))))))))
def m__law_e_digit : MS := (mSeqS (mIfS (toB (mOp oLt (mOp oIx (mVar 0) (mC (.int 2))) (mVar 1))) (mSeqS (mSet 2 (mOp oIx (mVar 0) (mC (.int 1))))
    (mSeqS (mSet 3 (mVar 2))
    (mSeqS (mIfS (toB (mOp oLt (mVar 2) (mCall cLen (mCons (mOp oIx (mVar 0) (mC (.int 0))) mNil)))) (mSet 3 (mOp oIx (mOp oIx (mVar 0) (mC (.int 0))) (mVar 2))) (mIfS (toB (mOp (oI fun a b=>.bl (decide (b < a))) (mCall cLen (mCons (mOp oIx (mVar 0) (mC (.int 0))) mNil)) (mC (.int 0)))) (mSet 3 (mOp oAdd (mOp oMod (mOp oIx (mOp oIx (mVar 0) (mC (.int 0))) (mOp oMod (mOp oMul (mVar 2) (mC (.int 3))) (mCall cLen (mCons (mOp oIx (mVar 0) (mC (.int 0))) mNil)))) (mOp oPow (mC (.int 10)) (mC (.int 9)))) (mOp oMul (mVar 2) (mC (.int 1000000))))) mNext))
    (mSeqS (mSetIx (mVar 0) (mC (.int 1)) (mOp oAdd (mVar 2) (mC (.int 1))))
    (mSetIx (mVar 0) (mC (.int 2)) (mCallF 2 F__law_e_stirred (mCons (mVar 3) (mCons (mVar 2) mNil)))))))) mNext)
    (mSeqS (mSet 4 (mOp oMod (mOp oIx (mVar 0) (mC (.int 2))) (mVar 1)))
    (mSeqS (mSetIx (mVar 0) (mC (.int 2)) (mOp oDivB (mOp oIx (mVar 0) (mC (.int 2))) (mVar 1)))
    (mRet (mVar 4)))))
def F__law_e_digit:FN:=callF m__law_e_digit 5
theorem sc__law_e_digit:FnScope ["tape", "many", "place", "cell", "digit"] ["tape", "many"] (defScope s__law_e_digit):=⟨rfl,rfl,rfl,by decide +kernel,rfl,by decide +kernel,by decide +kernel⟩
theorem ok__law_e_digit {f:Addr} {fd:FuncData} (F:Fun K "_law_e_digit" "_law_e_digit" s__law_e_digit f fd) (T:Txt K mg)  (D__law_e_stirred:DefS P w K mg base 1 "_law_e_stirred" 2 F__law_e_stirred):FnOk P w K mg base (CXD P w) 2 f fd ["tape", "many"] (spF mg 2 F__law_e_digit):=by
  refine fun_ok2 (k:=1) (m:=m__law_e_digit) F sc__law_e_digit rfl rfl rfl fun cdv A outer s H E hr=>?_
  exact (sb_cons (ss_if (st_cmp (os_lt hr.units) (se_ix (se_var 0) se_int) (se_var 1)) (sb_cons (ss_set 2 sc__law_e_digit.nd (se_ix (se_var 0) se_int))
    (sb_cons (ss_set 3 sc__law_e_digit.nd (se_var 2))
    (sb_cons (ss_if (st_cmp (os_lt hr.units) (se_var 2) (se_callB cs_len rfl T.b_len PySem.boot_len (sa_cons (se_ix (se_var 0) se_int) sa_nil))) (sb_one (ss_set 3 sc__law_e_digit.nd (se_ix (se_ix (se_var 0) se_int) (se_var 2)))) (sb_one (ss_if (st_cmp os_gt (se_callB cs_len rfl T.b_len PySem.boot_len (sa_cons (se_ix (se_var 0) se_int) sa_nil)) se_int) (sb_one (ss_set 3 sc__law_e_digit.nd (se_op os_add (se_op os_mod (se_ix (se_ix (se_var 0) se_int) (se_op os_mod (se_op os_mul (se_var 2) se_int) (se_callB cs_len rfl T.b_len PySem.boot_len (sa_cons (se_ix (se_var 0) se_int) sa_nil)))) (se_op os_pow se_int se_int)) (se_op os_mul (se_var 2) se_int)))) sb_nil)))
    (sb_cons (ss_sub (se_op os_add (se_var 2) se_int) (se_var 0) se_int)
    (sb_one (ss_sub (se_call D__law_e_stirred (hr.mono (by decide)) pass_onD rfl (sa_cons (se_var 3) (sa_cons (se_var 2) sa_nil))) (se_var 0) se_int)))))) sb_nil)
    (sb_cons (ss_set 4 sc__law_e_digit.nd (se_op os_mod (se_ix (se_var 0) se_int) (se_var 1)))
    (sb_cons (ss_sub (se_op os_divB (se_ix (se_var 0) se_int) (se_var 1)) (se_var 0) se_int)
    (sb_one (ss_ret (se_var 4))))))
def e__law_e_name_1:ME:=(mOp oIxS (mC (.str "abgoflz")) (mCallF 2 F__law_e_digit (mCons (mVar 1) (mCons (mC (.int 7)) mNil))))
def m__law_e_name : MS := (mSeqS (mIfS (toB (mOp oEq (mCallF 2 F__law_e_digit (mCons (mVar 0) (mCons (mC (.int 4)) mNil))) (mC (.int 0)))) (mRet (mOp oIx (mLst (mCons (mC (.str "go")) (mCons (mC (.str "fall")) (mCons (mC (.str "gone")) (mCons (mC (.str "fallen")) (mCons (mC (.str "gofall")) (mCons (mC (.str "a")) (mCons (mC (.str "aa")) (mCons (mC (.str "abcdefgh")) mNil))))))))) (mCallF 2 F__law_e_digit (mCons (mVar 0) (mCons (mC (.int 8)) mNil))))) mNext)
    (mRet (mJoin (mC (.str "")) (mCons (mVal (mCompN [none,some 0] (gaName 0) (mRange1 (mCons (mOp oAdd (mC (.int 1)) (mCallF 2 F__law_e_digit (mCons (mVar 0) (mCons (mC (.int 4)) mNil)))) mNil)) mTrue e__law_e_name_1)) mNil))))
def F__law_e_name:FN:=callK m__law_e_name 1
theorem sc__law_e_name:FnScope ["tape"] ["tape"] (defScope s__law_e_name):=⟨rfl,rfl,rfl,by decide +kernel,rfl,by decide +kernel,by decide +kernel⟩
theorem ok__law_e_name {f:Addr} {fd:FuncData} (F:Fun K "_law_e_name" "_law_e_name" s__law_e_name f fd) (T:Txt K mg)  (D__law_e_digit:DefS P w K mg base 2 "_law_e_digit" 2 F__law_e_digit):FnOk P w K mg base (CXD P w) 3 f fd ["tape"] (spF mg 1 F__law_e_name):=by
  refine fun_ok2K (k:=2) (m:=m__law_e_name) F sc__law_e_name rfl rfl rfl fun cdv A outer s H E hr=>?_
  exact (sb_cons (ss_if (st_cmp (os_eq hr.units) (se_call D__law_e_digit (hr.mono (by decide)) pass_onD rfl (sa_cons (se_var 0) (sa_cons se_int sa_nil))) se_int) (sb_one (ss_ret (se_ix (se_lst (sa_cons se_str (sa_cons se_str (sa_cons se_str (sa_cons se_str (sa_cons se_str (sa_cons se_str (sa_cons se_str (sa_cons se_str sa_nil))))))))) (se_call D__law_e_digit (hr.mono (by decide)) pass_onD rfl (sa_cons (se_var 0) (sa_cons se_int sa_nil)))))) sb_nil)
    (sb_one (ss_ret (se_join se_str (sa_cons (se_val (sn_comp [none,some 0] ["turn", "tape"] rfl (si_range1 rfl T.b_range (sa_cons (se_op os_add se_int (se_call D__law_e_digit (hr.mono (by decide)) pass_onD rfl (sa_cons (se_var 0) (sa_cons se_int sa_nil)))) sa_nil)) (fun _ _ _ _ _=>(sg_name (i:=0) (show (["turn", "tape"]:List Str).Nodup by decide +kernel))) (fun _ _ _ _ _=>(se_ixS se_str (se_call D__law_e_digit (hr.mono (by decide)) pass00D rfl (sa_cons (se_var 1) (sa_cons se_int sa_nil))))) (fun _ _ _ _ _=>sts_nil) free_name)) sa_nil)))))
def m__law_e_letter_name : MS := (mSeqS (mSet 1 (mCallF 1 F__law_e_name (mCons (mVar 0) mNil)))
    (mSeqS (mIfS (tOrM (toB (mOp oEq (mVar 1) (mC (.str "go")))) (toB (mOp oEq (mVar 1) (mC (.str "fall"))))) (mRet (mOp oAdd (mVar 1) (mC (.str "a")))) mNext)
    (mRet (mVar 1))))
def F__law_e_letter_name:FN:=callK m__law_e_letter_name 2
theorem sc__law_e_letter_name:FnScope ["tape", "name"] ["tape"] (defScope s__law_e_letter_name):=⟨rfl,rfl,rfl,by decide +kernel,rfl,by decide +kernel,by decide +kernel⟩
theorem ok__law_e_letter_name {f:Addr} {fd:FuncData} (F:Fun K "_law_e_letter_name" "_law_e_letter_name" s__law_e_letter_name f fd) (T:Txt K mg)  (D__law_e_name:DefS P w K mg base 3 "_law_e_name" 1 F__law_e_name):FnOk P w K mg base (CXD P w) 4 f fd ["tape"] (spF mg 1 F__law_e_letter_name):=by
  refine fun_ok2K (k:=3) (m:=m__law_e_letter_name) F sc__law_e_letter_name rfl rfl rfl fun cdv A outer s H E hr=>?_
  exact (sb_cons (ss_set 1 sc__law_e_letter_name.nd (se_call D__law_e_name (hr.mono (by decide)) pass_onD rfl (sa_cons (se_var 0) sa_nil)))
    (sb_cons (ss_if (SimW.t (sw_or (st_cmp (os_eq hr.units) (se_var 1) se_str) (sw_or1 (st_cmp (os_eq hr.units) (se_var 1) se_str)))) (sb_one (ss_ret (se_op os_add (se_var 1) se_str))) sb_nil)
    (sb_one (ss_ret (se_var 1)))))
def b__law_e_rule_1:MS:=(mExpr (mBM mtAppend (mVar 9) (mCons (mTup (mCons (mCallF 2 F__law_e_digit (mCons (mVar 0) (mCons (mVar 1) mNil))) (mCons (mOp oIx (mVar 3) (mCallF 2 F__law_e_digit (mCons (mVar 0) (mCons (mCall cLen (mCons (mVar 3) mNil)) mNil)))) mNil))) mNil)))
def m__law_e_rule : MS := (mSeqS (mSet 4 (mCallF 2 F__law_e_digit (mCons (mVar 0) (mCons (mVar 1) mNil))))
    (mSeqS (mSet 5 (mOp oIx (mVar 2) (mCallF 2 F__law_e_digit (mCons (mVar 0) (mCons (mCall cLen (mCons (mVar 2) mNil)) mNil)))))
    (mSeqS (mSet 6 (mOp oIx (mLst (mCons (mC (.str "go")) (mCons (mC (.str "go")) (mCons (mC (.str "fall")) (mCons (mOp oIx (mVar 3) (mCallF 2 F__law_e_digit (mCons (mVar 0) (mCons (mCall cLen (mCons (mVar 3) mNil)) mNil)))) mNil))))) (mCallF 2 F__law_e_digit (mCons (mVar 0) (mCons (mC (.int 4)) mNil)))))
    (mSeqS (mSet 7 (mOp oIx (mVar 2) (mCallF 2 F__law_e_digit (mCons (mVar 0) (mCons (mCall cLen (mCons (mVar 2) mNil)) mNil)))))
    (mSeqS (mSet 8 (mOp oIx (mLst (mCons (mC (.int 0)) (mCons (mC (.int 0)) (mCons (mC (.int 0)) (mCons (mC (.int 1)) (mCons (mC (.int 1)) (mCons (mC (.int 2)) (mCons (mC (.int 9)) mNil)))))))) (mCallF 2 F__law_e_digit (mCons (mVar 0) (mCons (mC (.int 7)) mNil)))))
    (mSeqS (mSet 9 (mTrk (mLstN mNil)))
    (mSeqS (mFor (gaName 10) (mRange1 (mCons (mOp oIx (mLst (mCons (mC (.int 0)) (mCons (mC (.int 0)) (mCons (mC (.int 1)) (mCons (mC (.int 2)) (mCons (mC (.int 3)) (mCons (mC (.int 8)) mNil))))))) (mCallF 2 F__law_e_digit (mCons (mVar 0) (mCons (mC (.int 6)) mNil)))) mNil)) b__law_e_rule_1)
    (mRet (mTup (mCons (mVar 4) (mCons (mVar 5) (mCons (mVar 6) (mCons (mVar 7) (mCons (mVar 8) (mCons (mCall cTuple (mCons (mVar 9) mNil)) mNil)))))))))))))))
def F__law_e_rule:FN:=callK m__law_e_rule 11
theorem sc__law_e_rule:FnScope ["tape", "n", "states", "names", "house", "state", "event", "onward", "use", "letters", "turn"] ["tape", "n", "states", "names"] (defScope s__law_e_rule):=⟨rfl,rfl,rfl,by decide +kernel,rfl,by decide +kernel,by decide +kernel⟩
theorem ok__law_e_rule {f:Addr} {fd:FuncData} (F:Fun K "_law_e_rule" "_law_e_rule" s__law_e_rule f fd) (T:Txt K mg)  (D__law_e_digit:DefS P w K mg base 2 "_law_e_digit" 2 F__law_e_digit):FnOk P w K mg base (CXD P w) 3 f fd ["tape", "n", "states", "names"] (spF mg 4 F__law_e_rule):=by
  refine fun_ok2K (k:=2) (m:=m__law_e_rule) F sc__law_e_rule rfl rfl rfl fun cdv A outer s H E hr=>?_
  exact (sb_cons (ss_set 4 sc__law_e_rule.nd (se_call D__law_e_digit (hr.mono (by decide)) pass_onD rfl (sa_cons (se_var 0) (sa_cons (se_var 1) sa_nil))))
    (sb_cons (ss_set 5 sc__law_e_rule.nd (se_ix (se_var 2) (se_call D__law_e_digit (hr.mono (by decide)) pass_onD rfl (sa_cons (se_var 0) (sa_cons (se_callB cs_len rfl T.b_len PySem.boot_len (sa_cons (se_var 2) sa_nil)) sa_nil)))))
    (sb_cons (ss_set 6 sc__law_e_rule.nd (se_ix (se_lst (sa_cons se_str (sa_cons se_str (sa_cons se_str (sa_cons (se_ix (se_var 3) (se_call D__law_e_digit (hr.mono (by decide)) pass_onD rfl (sa_cons (se_var 0) (sa_cons (se_callB cs_len rfl T.b_len PySem.boot_len (sa_cons (se_var 3) sa_nil)) sa_nil)))) sa_nil))))) (se_call D__law_e_digit (hr.mono (by decide)) pass_onD rfl (sa_cons (se_var 0) (sa_cons se_int sa_nil)))))
    (sb_cons (ss_set 7 sc__law_e_rule.nd (se_ix (se_var 2) (se_call D__law_e_digit (hr.mono (by decide)) pass_onD rfl (sa_cons (se_var 0) (sa_cons (se_callB cs_len rfl T.b_len PySem.boot_len (sa_cons (se_var 2) sa_nil)) sa_nil)))))
    (sb_cons (ss_set 8 sc__law_e_rule.nd (se_ix (se_lst (sa_cons se_int (sa_cons se_int (sa_cons se_int (sa_cons se_int (sa_cons se_int (sa_cons se_int (sa_cons se_int sa_nil)))))))) (se_call D__law_e_digit (hr.mono (by decide)) pass_onD rfl (sa_cons (se_var 0) (sa_cons se_int sa_nil)))))
    (sb_cons (ss_set 9 sc__law_e_rule.nd (se_trk (sn_lst sa_nil)))
    (sb_cons (ss_for PassesOwn.leaving rfl (si_range1 rfl T.b_range (sa_cons (se_ix (se_lst (sa_cons se_int (sa_cons se_int (sa_cons se_int (sa_cons se_int (sa_cons se_int (sa_cons se_int sa_nil))))))) (se_call D__law_e_digit (hr.mono (by decide)) pass_onD rfl (sa_cons (se_var 0) (sa_cons se_int sa_nil)))) sa_nil)) (sg_name (i:=10) sc__law_e_rule.nd) (sb_one (ss_expr (se_append (se_var 9) (sa_cons (se_tup (sa_cons (se_call D__law_e_digit (hr.mono (by decide)) pass_onD rfl (sa_cons (se_var 0) (sa_cons (se_var 1) sa_nil))) (sa_cons (se_ix (se_var 3) (se_call D__law_e_digit (hr.mono (by decide)) pass_onD rfl (sa_cons (se_var 0) (sa_cons (se_callB cs_len rfl T.b_len PySem.boot_len (sa_cons (se_var 3) sa_nil)) sa_nil)))) sa_nil))) sa_nil)))))
    (sb_one (ss_ret (se_tup (sa_cons (se_var 4) (sa_cons (se_var 5) (sa_cons (se_var 6) (sa_cons (se_var 7) (sa_cons (se_var 8) (sa_cons (se_callT cs_tuple rfl T.b_tuple boot_tuple (sa_cons (se_var 9) sa_nil)) sa_nil))))))))))))))))
def e__law_e_manner_1:ME:=(mCallF 1 F__law_e_name (mCons (mVar 1) mNil))
def e__law_e_manner_2:ME:=(mCallF 1 F__law_e_letter_name (mCons (mVar 1) mNil))
def b__law_e_manner_1:MS:=(mDPutT (mVar 8) (mCallF 4 F__law_e_rule (mCons (mVar 0) (mCons (mVar 2) (mCons (mVar 6) (mCons (mVar 7) mNil))))) (mC (.bl true)))
def e__law_e_manner_3:ME:=(mOp oIx (mVar 1) (mCallF 2 F__law_e_digit (mCons (mVar 2) (mCons (mVar 3) mNil))))
def m__law_e_manner : MS := (mSeqS (mSet 1 (mLst (mCons (mTup (mCons (mC (.int 2)) (mCons (mC (.int 3)) (mCons (mC (.int 2)) (mCons (mC (.int 4)) mNil))))) (mCons (mTup (mCons (mC (.int 3)) (mCons (mC (.int 2)) (mCons (mC (.int 1)) (mCons (mC (.int 4)) mNil))))) (mCons (mTup (mCons (mC (.int 1)) (mCons (mC (.int 2)) (mCons (mC (.int 1)) (mCons (mC (.int 21)) mNil))))) (mCons (mTup (mCons (mC (.int 2)) (mCons (mC (.int 2)) (mCons (mC (.int 1)) (mCons (mC (.int 21)) mNil))))) (mCons (mTup (mCons (mC (.int 4)) (mCons (mC (.int 2)) (mCons (mC (.int 1)) (mCons (mC (.int 2)) mNil))))) mNil)))))))
    (mSeqS (mAsg (gaTup (gaCons (gaName 2) (gaCons (gaName 3) (gaCons (gaName 4) (gaCons (gaName 5) gaNil))))) (mOp oIx (mVar 1) (mCallF 2 F__law_e_digit (mCons (mVar 0) (mCons (mC (.int 5)) mNil)))))
    (mSeqS (mSet 6 (mVal (mCompN [none,some 0] (gaName 0) (mRange1 (mCons (mVar 3) mNil)) mTrue e__law_e_manner_1)))
    (mSeqS (mSet 7 (mVal (mCompN [none,some 0] (gaName 0) (mRange1 (mCons (mVar 4) mNil)) mTrue e__law_e_manner_2)))
    (mSeqS (mSet 8 mDispT)
    (mSeqS (mFor (gaName 9) (mRange1 (mCons (mCallF 2 F__law_e_digit (mCons (mVar 0) (mCons (mC (.int 10)) mNil))) mNil)) b__law_e_manner_1)
    (mSeqS (mSet 10 (mCall cTuple (mCons (mVal (mCompN [none,some 6,some 0,some 3] (gaName 0) (mRange1 (mCons (mVar 2) mNil)) mTrue e__law_e_manner_3)) mNil)))
    (mRet (mTup (mCons (mCallF 2 F__law_e_digit (mCons (mVar 0) (mCons (mVar 5) mNil))) (mCons (mVar 10) (mCons (mCall cTuple (mCons (mCall cListD (mCons (mVar 8) mNil)) mNil)) mNil))))))))))))
def F__law_e_manner:FN:=callK m__law_e_manner 11
theorem sc__law_e_manner:FnScope ["tape", "sizes", "n", "many", "words", "most", "states", "names", "rules", "turn", "starts"] ["tape"] (defScope s__law_e_manner):=⟨rfl,rfl,rfl,by decide +kernel,rfl,by decide +kernel,by decide +kernel⟩
theorem ok__law_e_manner {f:Addr} {fd:FuncData} (F:Fun K "_law_e_manner" "_law_e_manner" s__law_e_manner f fd) (T:Txt K mg)  (D__law_e_digit:DefS P w K mg base 2 "_law_e_digit" 2 F__law_e_digit) (D__law_e_name:DefS P w K mg base 3 "_law_e_name" 1 F__law_e_name) (D__law_e_letter_name:DefS P w K mg base 4 "_law_e_letter_name" 1 F__law_e_letter_name) (D__law_e_rule:DefS P w K mg base 3 "_law_e_rule" 4 F__law_e_rule):FnOk P w K mg base (CXD P w) 5 f fd ["tape"] (spF mg 1 F__law_e_manner):=by
  refine fun_ok2K (k:=4) (m:=m__law_e_manner) F sc__law_e_manner rfl rfl rfl fun cdv A outer s H E hr=>?_
  exact (sb_cons (ss_set 1 sc__law_e_manner.nd (se_lst (sa_cons (se_tup (sa_cons se_int (sa_cons se_int (sa_cons se_int (sa_cons se_int sa_nil))))) (sa_cons (se_tup (sa_cons se_int (sa_cons se_int (sa_cons se_int (sa_cons se_int sa_nil))))) (sa_cons (se_tup (sa_cons se_int (sa_cons se_int (sa_cons se_int (sa_cons se_int sa_nil))))) (sa_cons (se_tup (sa_cons se_int (sa_cons se_int (sa_cons se_int (sa_cons se_int sa_nil))))) (sa_cons (se_tup (sa_cons se_int (sa_cons se_int (sa_cons se_int (sa_cons se_int sa_nil))))) sa_nil)))))))
    (sb_cons (ss_asg (se_ix (se_var 1) (se_call D__law_e_digit (hr.mono (by decide)) pass_onD rfl (sa_cons (se_var 0) (sa_cons se_int sa_nil)))) (sg_tup rfl (sgs_cons (sg_name (i:=2) sc__law_e_manner.nd) (sgs_cons (sg_name (i:=3) sc__law_e_manner.nd) (sgs_cons (sg_name (i:=4) sc__law_e_manner.nd) (sgs_cons (sg_name (i:=5) sc__law_e_manner.nd) sgs_nil))))))
    (sb_cons (by first | exact ss_compV [none,some 0] ["turn", "tape"] 6 sc__law_e_manner.nd rfl (si_range1 rfl T.b_range (sa_cons (se_var 3) sa_nil)) (fun _ _ _ _ _=>(sg_name (i:=0) (show (["turn", "tape"]:List Str).Nodup by decide +kernel))) (fun _ _ _ _ _=>(se_call D__law_e_name (hr.mono (by decide)) pass00D rfl (sa_cons (se_var 1) sa_nil))) (fun _ _ _ _ _=>sts_nil) free_name | exact ss_set 6 sc__law_e_manner.nd (se_val (sn_comp [none,some 0] ["turn", "tape"] rfl (si_range1 rfl T.b_range (sa_cons (se_var 3) sa_nil)) (fun _ _ _ _ _=>(sg_name (i:=0) (show (["turn", "tape"]:List Str).Nodup by decide +kernel))) (fun _ _ _ _ _=>(se_call D__law_e_name (hr.mono (by decide)) pass00D rfl (sa_cons (se_var 1) sa_nil))) (fun _ _ _ _ _=>sts_nil) free_name)))
    (sb_cons (by first | exact ss_compV [none,some 0] ["turn", "tape"] 7 sc__law_e_manner.nd rfl (si_range1 rfl T.b_range (sa_cons (se_var 4) sa_nil)) (fun _ _ _ _ _=>(sg_name (i:=0) (show (["turn", "tape"]:List Str).Nodup by decide +kernel))) (fun _ _ _ _ _=>(se_call D__law_e_letter_name (hr.mono (by decide)) pass00D rfl (sa_cons (se_var 1) sa_nil))) (fun _ _ _ _ _=>sts_nil) free_name | exact ss_set 7 sc__law_e_manner.nd (se_val (sn_comp [none,some 0] ["turn", "tape"] rfl (si_range1 rfl T.b_range (sa_cons (se_var 4) sa_nil)) (fun _ _ _ _ _=>(sg_name (i:=0) (show (["turn", "tape"]:List Str).Nodup by decide +kernel))) (fun _ _ _ _ _=>(se_call D__law_e_letter_name (hr.mono (by decide)) pass00D rfl (sa_cons (se_var 1) sa_nil))) (fun _ _ _ _ _=>sts_nil) free_name)))
    (sb_cons (ss_set 8 sc__law_e_manner.nd se_dispT)
    (sb_cons (ss_for PassesOwn.leaving rfl (si_range1 rfl T.b_range (sa_cons (se_call D__law_e_digit (hr.mono (by decide)) pass_onD rfl (sa_cons (se_var 0) (sa_cons se_int sa_nil))) sa_nil)) (sg_name (i:=9) sc__law_e_manner.nd) (sb_one (ss_dputT (room_u1 hr) se_bl (se_var 8) (se_call D__law_e_rule (hr.mono (by decide)) pass_onD rfl (sa_cons (se_var 0) (sa_cons (se_var 2) (sa_cons (se_var 6) (sa_cons (se_var 7) sa_nil))))))))
    (sb_cons (ss_set 10 sc__law_e_manner.nd (se_callT cs_tuple rfl T.b_tuple boot_tuple (sa_cons (se_val (sn_comp [none,some 6,some 0,some 3] ["house", "states", "tape", "many"] rfl (si_range1 rfl T.b_range (sa_cons (se_var 2) sa_nil)) (fun _ _ _ _ _=>(sg_name (i:=0) (show (["house", "states", "tape", "many"]:List Str).Nodup by decide +kernel))) (fun _ _ _ _ _=>(se_ix (se_var 1) (se_call D__law_e_digit (hr.mono (by decide)) pass00D rfl (sa_cons (se_var 2) (sa_cons (se_var 3) sa_nil))))) (fun _ _ _ _ _=>sts_nil) free_name)) sa_nil)))
    (sb_one (ss_ret (se_tup (sa_cons (se_call D__law_e_digit (hr.mono (by decide)) pass_onD rfl (sa_cons (se_var 0) (sa_cons (se_var 5) sa_nil))) (sa_cons (se_var 10) (sa_cons (se_callT cs_tuple rfl T.b_tuple boot_tuple (sa_cons (se_callT (cs_listD rfl) rfl T.b_list boot_list (sa_cons (se_var 8) sa_nil)) sa_nil)) sa_nil)))))))))))))
def m__law_e_fits : MS := (mSeqS (mIfS (toB (mOp oNe (mOp oIx (mOp oIx (mVar 1) (mC (.int 0))) (mOp oIx (mVar 0) (mC (.int 0)))) (mOp oIx (mVar 0) (mC (.int 1))))) (mRet (mC (.bl false))) mNext)
    (mRet (mOr (mOp oEq (mOp oIx (mVar 0) (mC (.int 2))) (mC (.str "go"))) (mOr (mOp oEq (mOp oIx (mVar 0) (mC (.int 2))) (mC (.str "fall"))) (mOp (oIn false) (mTup (mCons (mOp oIx (mVar 0) (mC (.int 0))) (mCons (mOp oIx (mVar 0) (mC (.int 2))) mNil))) (mOp oIx (mVar 1) (mC (.int 1))))))))
def F__law_e_fits:FN:=callF m__law_e_fits 2
theorem sc__law_e_fits:FnScope ["rule", "stand"] ["rule", "stand"] (defScope s__law_e_fits):=⟨rfl,rfl,rfl,by decide +kernel,rfl,by decide +kernel,by decide +kernel⟩
theorem ok__law_e_fits {f:Addr} {fd:FuncData} (F:Fun K "_law_e_fits" "_law_e_fits" s__law_e_fits f fd) (T:Txt K mg)   : FnOk P w K mg base (CXD P w) 1 f fd ["rule", "stand"] (spF mg 2 F__law_e_fits):=by
  refine fun_ok2 (k:=0) (m:=m__law_e_fits) F sc__law_e_fits rfl rfl rfl fun cdv A outer s H E hr=>?_
  exact (sb_cons (ss_if (st_cmp (os_ne hr.units) (se_ix (se_ix (se_var 1) se_int) (se_ix (se_var 0) se_int)) (se_ix (se_var 0) se_int)) (sb_one (ss_ret se_bl)) sb_nil)
    (sb_one (ss_ret (se_or (se_cmp (os_eq hr.units) (se_ix (se_var 0) se_int) se_str) (se_or (se_cmp (os_eq hr.units) (se_ix (se_var 0) se_int) se_str) (se_one (se_cmp (os_in hr.units) (se_tup (sa_cons (se_ix (se_var 0) se_int) (sa_cons (se_ix (se_var 0) se_int) sa_nil))) (se_ix (se_var 1) se_int))))))))
def b__law_e_step_1:MS:=(mDPutT (mVar 3) (mVar 4) (mC (.bl true)))
def m__law_e_step : MS := (mSeqS (mSet 2 (mTrk (mListN (mOp oIx (mVar 1) (mC (.int 0))))))
    (mSeqS (mSetIx (mVar 2) (mOp oIx (mVar 0) (mC (.int 0))) (mOp oIx (mVar 0) (mC (.int 3))))
    (mSeqS (mSet 3 mDispT)
    (mSeqS (mFor (gaName 4) (mSeq (mOp oAdd (mOp oIx (mVar 1) (mC (.int 1))) (mOp oIx (mVar 0) (mC (.int 5))))) b__law_e_step_1)
    (mRet (mTup (mCons (mCall cTuple (mCons (mVar 2) mNil)) (mCons (mCall cTuple (mCons (mCall cSortP (mCons (mVar 3) mNil)) mNil)) (mCons (mOp oAdd (mOp oIx (mVar 1) (mC (.int 2))) (mOp oIx (mVar 0) (mC (.int 4)))) mNil)))))))))
def F__law_e_step:FN:=callF m__law_e_step 5
theorem sc__law_e_step:FnScope ["rule", "stand", "states", "letters", "letter"] ["rule", "stand"] (defScope s__law_e_step):=⟨rfl,rfl,rfl,by decide +kernel,rfl,by decide +kernel,by decide +kernel⟩
theorem ok__law_e_step {f:Addr} {fd:FuncData} (F:Fun K "_law_e_step" "_law_e_step" s__law_e_step f fd) (T:Txt K mg)   : FnOk P w K mg base (CXD P w) 1 f fd ["rule", "stand"] (spF mg 2 F__law_e_step):=by
  refine fun_ok2 (k:=0) (m:=m__law_e_step) F sc__law_e_step rfl rfl rfl fun cdv A outer s H E hr=>?_
  exact (sb_cons (ss_set 2 sc__law_e_step.nd (se_trk (sn_list (se_ix (se_var 1) se_int) rfl T.b_list)))
    (sb_cons (ss_sub (se_ix (se_var 0) se_int) (se_var 2) (se_ix (se_var 0) se_int))
    (sb_cons (ss_set 3 sc__law_e_step.nd se_dispT)
    (sb_cons (ss_for PassesOwn.leaving rfl (si_seq (se_op os_add (se_ix (se_var 1) se_int) (se_ix (se_var 0) se_int))) (sg_name (i:=4) sc__law_e_step.nd) (sb_one (ss_dputT (room_u1 hr) se_bl (se_var 3) (se_var 4))))
    (sb_one (ss_ret (se_tup (sa_cons (se_callT cs_tuple rfl T.b_tuple boot_tuple (sa_cons (se_var 2) sa_nil)) (sa_cons (se_callT cs_tuple rfl T.b_tuple boot_tuple (sa_cons (se_callB (cs_sortP rfl) rfl T.b_sorted boot_sorted (sa_cons (se_var 3) sa_nil)) sa_nil)) (sa_cons (se_op os_add (se_ix (se_var 1) se_int) (se_ix (se_var 0) se_int)) sa_nil))))))))))
def b__law_e_breaks_1 : MS := (mSeqS (mIfS (tOrM (toB (mOp oLt (mVar 3) (mC (.int 0)))) (tOrM (toB (mOp (oI fun a b => .bl (decide (b <= a))) (mVar 3) (mCall cLen (mCons (mOp oIx (mVar 0) (mC (.int 2))) mNil)))) (tNotM (toB (mCallF 2 F__law_e_fits (mCons (mOp oIx (mOp oIx (mVar 0) (mC (.int 2))) (mVar 3)) (mCons (mVar 2) mNil))))))) (mRet (mC (.bl false))) mNext)
    (mSet 2 (mCallF 2 F__law_e_step (mCons (mOp oIx (mOp oIx (mVar 0) (mC (.int 2))) (mVar 3)) (mCons (mVar 2) mNil)))))
def m__law_e_breaks : MS := (mSeqS (mSet 2 (mTup (mCons (mOp oIx (mVar 0) (mC (.int 1))) (mCons (mTup mNil) (mCons (mC (.int 0)) mNil)))))
    (mSeqS (mFor (gaName 3) (mSeq (mVar 1)) b__law_e_breaks_1)
    (mRet (mOp (oI fun a b=>.bl (decide (b < a))) (mOp oIx (mVar 2) (mC (.int 2))) (mOp oIx (mVar 0) (mC (.int 0)))))))
def F__law_e_breaks:FN:=callF m__law_e_breaks 4
theorem sc__law_e_breaks:FnScope ["manner", "run", "stand", "number"] ["manner", "run"] (defScope s__law_e_breaks):=⟨rfl,rfl,rfl,by decide +kernel,rfl,by decide +kernel,by decide +kernel⟩
theorem ok__law_e_breaks {f:Addr} {fd:FuncData} (F:Fun K "_law_e_breaks" "_law_e_breaks" s__law_e_breaks f fd) (T:Txt K mg)  (D__law_e_fits:DefS P w K mg base 1 "_law_e_fits" 2 F__law_e_fits) (D__law_e_step:DefS P w K mg base 1 "_law_e_step" 2 F__law_e_step):FnOk P w K mg base (CXD P w) 2 f fd ["manner", "run"] (spF mg 2 F__law_e_breaks):=by
  refine fun_ok2 (k:=1) (m:=m__law_e_breaks) F sc__law_e_breaks rfl rfl rfl fun cdv A outer s H E hr=>?_
  exact (sb_cons (ss_set 2 sc__law_e_breaks.nd (se_tup (sa_cons (se_ix (se_var 0) se_int) (sa_cons (se_tup sa_nil) (sa_cons se_int sa_nil)))))
    (sb_cons (ss_for PassesOwn.leaving rfl (si_seq (se_var 1)) (sg_name (i:=3) sc__law_e_breaks.nd) (sb_cons (ss_if (SimW.t (sw_or (st_cmp (os_lt hr.units) (se_var 3) se_int) (sw_or (st_cmp os_ge (se_var 3) (se_callB cs_len rfl T.b_len PySem.boot_len (sa_cons (se_ix (se_var 0) se_int) sa_nil))) (sw_or1 (st_not (st_val (se_call D__law_e_fits (hr.mono (by decide)) pass_onD rfl (sa_cons (se_ix (se_ix (se_var 0) se_int) (se_var 3)) (sa_cons (se_var 2) sa_nil))))))))) (sb_one (ss_ret se_bl)) sb_nil)
    (sb_one (ss_set 2 sc__law_e_breaks.nd (se_call D__law_e_step (hr.mono (by decide)) pass_onD rfl (sa_cons (se_ix (se_ix (se_var 0) se_int) (se_var 3)) (sa_cons (se_var 2) sa_nil)))))))
    (sb_one (ss_ret (se_cmp os_gt (se_ix (se_var 2) se_int) (se_ix (se_var 0) se_int))))))
def e__law_e_drawn_run_1:ME:=(mVar 0)
def t__law_e_drawn_run_1:MT:=(toB (mCallF 2 F__law_e_fits (mCons (mOp oIx (mOp oIx (mVar 2) (mC (.int 2))) (mVar 0)) (mCons (mVar 1) mNil))))
def b__law_e_drawn_run_1 : MS := (mSeqS (mSet 5 (mVal (mCompN [none, some 2, some 1] (gaName 0) (mRange1 (mCons (mCall cLen (mCons (mOp oIx (mVar 1) (mC (.int 2))) mNil)) mNil)) t__law_e_drawn_run_1 e__law_e_drawn_run_1)))
    (mIfS (toB (mOp oNe (mVar 5) (mLst mNil))) (mSeqS (mSet 6 (mOp oIx (mVar 5) (mCallF 2 F__law_e_digit (mCons (mVar 0) (mCons (mCall cLen (mCons (mVar 5) mNil)) mNil)))))
    (mSeqS (mSet 2 (mCallF 2 F__law_e_step (mCons (mOp oIx (mOp oIx (mVar 1) (mC (.int 2))) (mVar 6)) (mCons (mVar 2) mNil))))
    (mExpr (mBM mtAppend (mVar 3) (mCons (mVar 6) mNil))))) mNext))
def m__law_e_drawn_run : MS := (mSeqS (mSet 2 (mTup (mCons (mOp oIx (mVar 1) (mC (.int 1))) (mCons (mTup mNil) (mCons (mC (.int 0)) mNil)))))
    (mSeqS (mSet 3 (mTrk (mLstN mNil)))
    (mSeqS (mFor (gaName 4) (mRange1 (mCons (mCallF 2 F__law_e_digit (mCons (mVar 0) (mCons (mC (.int 31)) mNil))) mNil)) b__law_e_drawn_run_1)
    (mRet (mVar 3)))))
def F__law_e_drawn_run:FN:=callK m__law_e_drawn_run 7
theorem sc__law_e_drawn_run:FnScope ["tape", "manner", "stand", "run", "turn", "some", "number"] ["tape", "manner"] (defScope s__law_e_drawn_run):=⟨rfl,rfl,rfl,by decide +kernel,rfl,by decide +kernel,by decide +kernel⟩
theorem ok__law_e_drawn_run {f:Addr} {fd:FuncData} (F:Fun K "_law_e_drawn_run" "_law_e_drawn_run" s__law_e_drawn_run f fd) (T:Txt K mg)  (D__law_e_digit:DefS P w K mg base 2 "_law_e_digit" 2 F__law_e_digit) (D__law_e_fits:DefS P w K mg base 1 "_law_e_fits" 2 F__law_e_fits) (D__law_e_step:DefS P w K mg base 1 "_law_e_step" 2 F__law_e_step):FnOk P w K mg base (CXD P w) 3 f fd ["tape", "manner"] (spF mg 2 F__law_e_drawn_run):=by
  refine fun_ok2K (k:=2) (m:=m__law_e_drawn_run) F sc__law_e_drawn_run rfl rfl rfl fun cdv A outer s H E hr=>?_
  exact (sb_cons (ss_set 2 sc__law_e_drawn_run.nd (se_tup (sa_cons (se_ix (se_var 1) se_int) (sa_cons (se_tup sa_nil) (sa_cons se_int sa_nil)))))
    (sb_cons (ss_set 3 sc__law_e_drawn_run.nd (se_trk (sn_lst sa_nil)))
    (sb_cons (ss_for PassesOwn.leaving rfl (si_range1 rfl T.b_range (sa_cons (se_call D__law_e_digit (hr.mono (by decide)) pass_onD rfl (sa_cons (se_var 0) (sa_cons se_int sa_nil))) sa_nil)) (sg_name (i:=4) sc__law_e_drawn_run.nd) (sb_cons (by first | exact ss_compV [none,some 2,some 1] ["k", "stand", "manner"] 5 sc__law_e_drawn_run.nd rfl (si_range1 rfl T.b_range (sa_cons (se_callB cs_len rfl T.b_len PySem.boot_len (sa_cons (se_ix (se_var 1) se_int) sa_nil)) sa_nil)) (fun _ _ _ _ _=>(sg_name (i:=0) (show (["k", "stand", "manner"]:List Str).Nodup by decide +kernel))) (fun _ _ _ _ _=>(se_var 0)) (fun _ _ _ _ _=>(sts_one (st_val (se_call D__law_e_fits (hr.mono (by decide)) pass00D rfl (sa_cons (se_ix (se_ix (se_var 2) se_int) (se_var 0)) (sa_cons (se_var 1) sa_nil)))))) free_name | exact ss_set 5 sc__law_e_drawn_run.nd (se_val (sn_comp [none,some 2,some 1] ["k", "stand", "manner"] rfl (si_range1 rfl T.b_range (sa_cons (se_callB cs_len rfl T.b_len PySem.boot_len (sa_cons (se_ix (se_var 1) se_int) sa_nil)) sa_nil)) (fun _ _ _ _ _=>(sg_name (i:=0) (show (["k", "stand", "manner"]:List Str).Nodup by decide +kernel))) (fun _ _ _ _ _=>(se_var 0)) (fun _ _ _ _ _=>(sts_one (st_val (se_call D__law_e_fits (hr.mono (by decide)) pass00D rfl (sa_cons (se_ix (se_ix (se_var 2) se_int) (se_var 0)) (sa_cons (se_var 1) sa_nil)))))) free_name)))
    (sb_one (ss_if (st_cmp (os_ne hr.units) (se_var 5) (se_lst sa_nil)) (sb_cons (ss_set 6 sc__law_e_drawn_run.nd (se_ix (se_var 5) (se_call D__law_e_digit (hr.mono (by decide)) pass_onD rfl (sa_cons (se_var 0) (sa_cons (se_callB cs_len rfl T.b_len PySem.boot_len (sa_cons (se_var 5) sa_nil)) sa_nil)))))
    (sb_cons (ss_set 2 sc__law_e_drawn_run.nd (se_call D__law_e_step (hr.mono (by decide)) pass_onD rfl (sa_cons (se_ix (se_ix (se_var 1) se_int) (se_var 6)) (sa_cons (se_var 2) sa_nil))))
    (sb_one (ss_expr (se_append (se_var 3) (sa_cons (se_var 6) sa_nil)))))) sb_nil))))
    (sb_one (ss_ret (se_var 3))))))
def m__law_e_bent : MS := (mSeqS (mSet 3 (mCallF 2 F__law_e_digit (mCons (mVar 0) (mCons (mOp oAdd (mCall cLen (mCons (mVar 2) mNil)) (mC (.int 1))) mNil))))
    (mSeqS (mSet 4 (mCallF 2 F__law_e_digit (mCons (mVar 0) (mCons (mOp oPow (mC (.int 10)) (mC (.int 20))) mNil))))
    (mSeqS (mSet 5 (mLst (mCons (mNeg (mC (.int 1))) (mCons (mCall cLen (mCons (mOp oIx (mVar 1) (mC (.int 2))) mNil)) (mCons (mNeg (mCall cLen (mCons (mOp oIx (mVar 1) (mC (.int 2))) mNil))) (mCons (mOp oAdd (mCall cLen (mCons (mOp oIx (mVar 1) (mC (.int 2))) mNil)) (mVar 4)) (mCons (mOp (oI fun a b=>.int (a - b)) (mNeg (mC (.int 1))) (mVar 4)) (mCons (mCallF 2 F__law_e_digit (mCons (mVar 0) (mCons (mOp oAdd (mCall cLen (mCons (mOp oIx (mVar 1) (mC (.int 2))) mNil)) (mC (.int 1))) mNil))) mNil))))))))
    (mSeqS (mSet 6 (mOp oIx (mVar 5) (mCallF 2 F__law_e_digit (mCons (mVar 0) (mCons (mC (.int 6)) mNil)))))
    (mSeqS (mSet 7 (mCallF 2 F__law_e_digit (mCons (mVar 0) (mCons (mC (.int 6)) mNil))))
    (mSeqS (mIfS (toB (mOp oEq (mVar 7) (mC (.int 0)))) (mRet (mSl (mVar 2) mNoPart (mPart (mVar 3)))) mNext)
    (mSeqS (mIfS (toB (mOp oEq (mVar 7) (mC (.int 1)))) (mRet (mOp oAdd (mOp oAdd (mSl (mVar 2) mNoPart (mPart (mVar 3))) (mLst (mCons (mVar 6) mNil))) (mSl (mVar 2) (mPart (mOp oAdd (mVar 3) (mC (.int 1)))) mNoPart))) mNext)
    (mSeqS (mIfS (toB (mOp oEq (mVar 7) (mC (.int 2)))) (mRet (mOp oAdd (mOp oAdd (mSl (mVar 2) mNoPart (mPart (mVar 3))) (mLst (mCons (mVar 6) mNil))) (mSl (mVar 2) (mPart (mVar 3)) mNoPart))) mNext)
    (mSeqS (mIfS (toB (mOp oEq (mVar 7) (mC (.int 3)))) (mRet (mOp oAdd (mSl (mVar 2) mNoPart (mPart (mVar 3))) (mSl (mVar 2) (mPart (mOp oAdd (mVar 3) (mC (.int 1)))) mNoPart))) mNext)
    (mSeqS (mIfS (toB (mOp oEq (mVar 7) (mC (.int 4)))) (mRet (mOp oAdd (mVar 2) (mSl (mVar 2) (mPart (mVar 3)) mNoPart))) mNext)
    (mRet (mVal (mRevN (mVar 2) (mNeg (mC (.int 1))))))))))))))))
def F__law_e_bent:FN:=callK m__law_e_bent 8
theorem sc__law_e_bent:FnScope ["tape", "manner", "run", "at", "far", "some", "number", "way"] ["tape", "manner", "run"] (defScope s__law_e_bent):=⟨rfl,rfl,rfl,by decide +kernel,rfl,by decide +kernel,by decide +kernel⟩
theorem ok__law_e_bent {f:Addr} {fd:FuncData} (F:Fun K "_law_e_bent" "_law_e_bent" s__law_e_bent f fd) (T:Txt K mg)  (D__law_e_digit:DefS P w K mg base 2 "_law_e_digit" 2 F__law_e_digit):FnOk P w K mg base (CXD P w) 3 f fd ["tape", "manner", "run"] (spF mg 3 F__law_e_bent):=by
  refine fun_ok2K (k:=2) (m:=m__law_e_bent) F sc__law_e_bent rfl rfl rfl fun cdv A outer s H E hr=>?_
  exact (sb_cons (ss_set 3 sc__law_e_bent.nd (se_call D__law_e_digit (hr.mono (by decide)) pass_onD rfl (sa_cons (se_var 0) (sa_cons (se_op os_add (se_callB cs_len rfl T.b_len PySem.boot_len (sa_cons (se_var 2) sa_nil)) se_int) sa_nil))))
    (sb_cons (ss_set 4 sc__law_e_bent.nd (se_call D__law_e_digit (hr.mono (by decide)) pass_onD rfl (sa_cons (se_var 0) (sa_cons (se_op os_pow se_int se_int) sa_nil))))
    (sb_cons (ss_set 5 sc__law_e_bent.nd (se_lst (sa_cons (se_neg se_int) (sa_cons (se_callB cs_len rfl T.b_len PySem.boot_len (sa_cons (se_ix (se_var 1) se_int) sa_nil)) (sa_cons (se_neg (se_callB cs_len rfl T.b_len PySem.boot_len (sa_cons (se_ix (se_var 1) se_int) sa_nil))) (sa_cons (se_op os_add (se_callB cs_len rfl T.b_len PySem.boot_len (sa_cons (se_ix (se_var 1) se_int) sa_nil)) (se_var 4)) (sa_cons (se_op os_sub (se_neg se_int) (se_var 4)) (sa_cons (se_call D__law_e_digit (hr.mono (by decide)) pass_onD rfl (sa_cons (se_var 0) (sa_cons (se_op os_add (se_callB cs_len rfl T.b_len PySem.boot_len (sa_cons (se_ix (se_var 1) se_int) sa_nil)) se_int) sa_nil))) sa_nil))))))))
    (sb_cons (ss_set 6 sc__law_e_bent.nd (se_ix (se_var 5) (se_call D__law_e_digit (hr.mono (by decide)) pass_onD rfl (sa_cons (se_var 0) (sa_cons se_int sa_nil)))))
    (sb_cons (ss_set 7 sc__law_e_bent.nd (se_call D__law_e_digit (hr.mono (by decide)) pass_onD rfl (sa_cons (se_var 0) (sa_cons se_int sa_nil))))
    (sb_cons (ss_if (st_cmp (os_eq hr.units) (se_var 7) se_int) (sb_one (ss_ret (se_slice (se_var 2) so_none (so_some (se_var 3))))) sb_nil)
    (sb_cons (ss_if (st_cmp (os_eq hr.units) (se_var 7) se_int) (sb_one (ss_ret (se_op os_add (se_op os_add (se_slice (se_var 2) so_none (so_some (se_var 3))) (se_lst (sa_cons (se_var 6) sa_nil))) (se_slice (se_var 2) (so_some (se_op os_add (se_var 3) se_int)) so_none)))) sb_nil)
    (sb_cons (ss_if (st_cmp (os_eq hr.units) (se_var 7) se_int) (sb_one (ss_ret (se_op os_add (se_op os_add (se_slice (se_var 2) so_none (so_some (se_var 3))) (se_lst (sa_cons (se_var 6) sa_nil))) (se_slice (se_var 2) (so_some (se_var 3)) so_none)))) sb_nil)
    (sb_cons (ss_if (st_cmp (os_eq hr.units) (se_var 7) se_int) (sb_one (ss_ret (se_op os_add (se_slice (se_var 2) so_none (so_some (se_var 3))) (se_slice (se_var 2) (so_some (se_op os_add (se_var 3) se_int)) so_none)))) sb_nil)
    (sb_cons (ss_if (st_cmp (os_eq hr.units) (se_var 7) se_int) (sb_one (ss_ret (se_op os_add (se_var 2) (se_slice (se_var 2) (so_some (se_var 3)) so_none)))) sb_nil)
    (sb_one (ss_ret (se_val (sn_rev (se_var 2) (se_neg se_int)))))))))))))))
def b_law_2:MS:=(mExpr (mBM mtAppend (mVar 5) (mCons (mCallF 3 F__law_e_bent (mCons (mVar 1) (mCons (mVar 3) (mCons (mVar 4) mNil)))) mNil)))
def b_law_4 : MS := (mSeqS (mSet 9 (mCallF 2 F_is_break (mCons (mVar 3) (mCons (mVar 8) mNil))))
    (mIfS (tOrM (tNotM (toB (mIsI "bool" (mVar 9)))) (tOrM (toB (mOp oNe (mVar 9) (mCallF 2 F__law_e_breaks (mCons (mVar 3) (mCons (mVar 7) mNil))))) (toB (mOp oNe (mVar 8) (mVar 7))))) (mRet (mC (.bl false))) mNext))
def b_law_3 : MS := (mSeqS (mSet 8 (mCall cList (mCons (mVar 7) mNil)))
    (mFor (gaName 6) (mRange1 (mCons (mC (.int 2)) mNil)) b_law_4))
def b_law_1 : MS := (mSeqS (mIfS (tAndM (toB (mOp (oI fun a b => .bl (decide (b < a))) (mVar 2) (mC (.int 1)))) (toB (mOp (oI fun a b => .bl (decide (b <= a))) (mOp oIx (mVar 1) (mC (.int 1))) (mCall cLen (mCons (mVar 0) mNil))))) mBreak mNext)
    (mSeqS (mSet 3 (mCallF 1 F__law_e_manner (mCons (mVar 1) mNil)))
    (mSeqS (mSet 4 (mCallF 2 F__law_e_drawn_run (mCons (mVar 1) (mCons (mVar 3) mNil))))
    (mSeqS (mSet 5 (mTrk (mLstN (mCons (mVar 4) (mCons (mLst mNil) mNil)))))
    (mSeqS (mFor (gaName 6) (mRange1 (mCons (mC (.int 6)) mNil)) b_law_2)
    (mFor (gaName 7) (mSeq (mVar 5)) b_law_3))))))
def m_law : MS := (mSeqS (mSet 1 (mTrk (mLstN (mCons (mVar 0) (mCons (mC (.int 0)) (mCons (mC (.int 0)) mNil))))))
    (mSeqS (mFor (gaName 2) (mRange1 (mCons (mC (.int 3)) mNil)) b_law_1)
    (mRet (mC (.bl true)))))
def F_law:FN:=callF m_law 10
theorem sc_law:FnScope ["script", "tape", "k", "manner", "run", "runs", "turn", "some", "handed", "found"] ["script"] (defScope s_law):=⟨rfl,rfl,rfl,by decide +kernel,rfl,by decide +kernel,by decide +kernel⟩
theorem ok_law {f:Addr} {fd:FuncData} (F:Fun K "law" "law" s_law f fd) (T:Txt K mg)  (D__law_e_manner:DefS P w K mg base 5 "_law_e_manner" 1 F__law_e_manner) (D__law_e_drawn_run:DefS P w K mg base 3 "_law_e_drawn_run" 2 F__law_e_drawn_run) (D__law_e_bent:DefS P w K mg base 3 "_law_e_bent" 3 F__law_e_bent) (D_is_break:DefS P w K mg base 9 "is_break" 2 F_is_break) (D__law_e_breaks:DefS P w K mg base 2 "_law_e_breaks" 2 F__law_e_breaks):FnOk P w K mg base (CXD P w) 10 f fd ["script"] (spF mg 1 F_law):=by
  refine fun_ok2 (k:=9) (m:=m_law) F sc_law rfl rfl rfl fun cdv A outer s H E hr=>?_
  exact (sb_cons (ss_set 1 sc_law.nd (se_trk (sn_lst (sa_cons (se_var 0) (sa_cons se_int (sa_cons se_int sa_nil))))))
    (sb_cons (ss_for PassesOwn.leaving rfl (si_range1 rfl T.b_range (sa_cons se_int sa_nil)) (sg_name (i:=2) sc_law.nd) (sb_cons (ss_if (SimW.t (sw_and (st_cmp os_gt (se_var 2) se_int) (sw_and1 (st_cmp os_ge (se_ix (se_var 1) se_int) (se_callB cs_len rfl T.b_len PySem.boot_len (sa_cons (se_var 0) sa_nil)))))) (sb_one ss_break) sb_nil)
    (sb_cons (ss_set 3 sc_law.nd (se_call D__law_e_manner (hr.mono (by decide)) pass_onD rfl (sa_cons (se_var 1) sa_nil)))
    (sb_cons (ss_set 4 sc_law.nd (se_call D__law_e_drawn_run (hr.mono (by decide)) pass_onD rfl (sa_cons (se_var 1) (sa_cons (se_var 3) sa_nil))))
    (sb_cons (ss_set 5 sc_law.nd (se_trk (sn_lst (sa_cons (se_var 4) (sa_cons (se_lst sa_nil) sa_nil)))))
    (sb_cons (ss_for PassesOwn.leaving rfl (si_range1 rfl T.b_range (sa_cons se_int sa_nil)) (sg_name (i:=6) sc_law.nd) (sb_one (ss_expr (se_append (se_var 5) (sa_cons (se_call D__law_e_bent (hr.mono (by decide)) pass_onD rfl (sa_cons (se_var 1) (sa_cons (se_var 3) (sa_cons (se_var 4) sa_nil)))) sa_nil)))))
    (sb_one (ss_for PassesOwn.leaving rfl (si_seq (se_var 5)) (sg_name (i:=7) sc_law.nd) (sb_cons (ss_set 8 sc_law.nd (se_callT cs_list rfl T.b_list boot_list (sa_cons (se_var 7) sa_nil)))
    (sb_one (ss_for PassesOwn.leaving rfl (si_range1 rfl T.b_range (sa_cons se_int sa_nil)) (sg_name (i:=6) sc_law.nd) (sb_cons (ss_set 9 sc_law.nd (se_call D_is_break (hr.mono (by decide)) pass_onD rfl (sa_cons (se_var 3) (sa_cons (se_var 8) sa_nil))))
    (sb_one (ss_if (SimW.t (sw_or (st_not (st_val (se_isi (T := "bool") (by decide) (se_var 9) rfl T.b_isinstance rfl T.b_bool boot_bool))) (sw_or (st_cmp (os_ne hr.units) (se_var 9) (se_call D__law_e_breaks (hr.mono (by decide)) pass_onD rfl (sa_cons (se_var 3) (sa_cons (se_var 7) sa_nil)))) (sw_or1 (st_cmp (os_ne hr.units) (se_var 8) (se_var 7)))))) (sb_one (ss_ret se_bl)) sb_nil))))))))))))))
    (sb_one (ss_ret se_bl))))
end
end Lw
namespace Lw
open PySem PySem.Spec L2 Sm
theorem emod_lt (a:Int) {b:Int} (h:0 < b):0<=a % b/\a % b < b:=⟨Int.emod_nonneg a (by omega),Int.emod_lt_of_pos a h⟩
theorem modN (x:Int) {n:Nat} (h:1<=n):∃ k:Nat,k < n/\x % (n:Int)=(k:Int):=by
  have:=emod_lt x (b:=(n:Int)) (by omega)
  exact ⟨(x % (n:Int)).toNat,by omega,by omega⟩
theorem stir_ok (c:Int) (p:Nat) (st:Store):∃ z:Int,F__law_e_stirred [.int c,.int p] st=.ok (.int z) st:=by
  by_cases q:1000000000000000000<=c
  · refine ⟨c,?_⟩
    simp -implicitDefEqProofs [F__law_e_stirred,callF,m__law_e_stirred,q]
  · obtain ⟨f,hf⟩:∃ f,(c % 998244353 * 51749 + p * 7919 + 3) % 1000000007=f:=⟨_,rfl⟩
    have f1:=emod_lt (c % 998244353 * 51749 + p * 7919 + 3) (b:=1000000007) (by decide)
    rw [hf] at f1
    obtain ⟨g,hg⟩:∃ g:Int,(f * f + 32749 * f + p + 5) % 2147483629=g:=⟨_,rfl⟩
    have g1:=emod_lt (f * f + 32749 * f + p + 5) (b:=2147483629) (by decide)
    rw [hg] at g1
    have fb:-18446744073709551616 < f/\f < 18446744073709551616:=by omega
    have gb:-18446744073709551616 < g/\g < 18446744073709551616:=by omega
    refine ⟨g * 2147483587 + (g * g + 61 * p + f) % 2147483587,?_⟩
    simp -implicitDefEqProofs [F__law_e_stirred,callF,m__law_e_stirred,q,hf,hg,fb,gb]
def TapeAt (S:Store) (L:Nat) (ns:List Int):Prop:=∃ (p:Nat) (c:Int),S[L]?=some (.lst [.fro (ns.map .int),.int p,.int c])
theorem TapeAt.lt {S:Store} {L:Nat} {ns:List Int} (h:TapeAt S L ns):L < S.length:=let ⟨_,_,e⟩:=h; (List.getElem?_eq_some_iff.mp e).1
theorem tape_set {S:Store} {L:Nat} {a b c x:PV} (h:S[L]?=some (.lst [a,b,c])):setIx S (.ref L) (.int 1) x=some (S.set L (.lst [a,x,c]))/\setIx S (.ref L) (.int 2) x=some (S.set L (.lst [a,b,x])):=by
  unfold setIx
  simp only [h]
  exact ⟨rfl,rfl⟩
theorem tape_ix {S:Store} {L:Nat} {a b c:PV} (h:S[L]?=some (.lst [a,b,c])):oIx S (.ref L) (.int 0)=.ok a S/\oIx S (.ref L) (.int 1)=.ok b S/\oIx S (.ref L) (.int 2)=.ok c S:=by
  have hV:ListAt S (.ref L) [a,b,c]:=.inr (.inr ⟨L,rfl,h⟩)
  rw [hV.ix,hV.ix,hV.ix]
  exact ⟨rfl,rfl,rfl⟩
theorem cell_ok (ns:List Int) (p:Nat) {S:Store} {L:Nat} {c:PV} (hS:S[L]?=some (.lst [.fro (ns.map .int),.int p,c])) (a1 a4:Option PV):∃ z:Int,(mIfS (toB (mOp oLt (mVar 2) (mCall cLen (mCons (mOp oIx (mVar 0) (mC (.int 0))) mNil)))) (mSet 3 (mOp oIx (mOp oIx (mVar 0) (mC (.int 0))) (mVar 2))) (mIfS (toB (mOp (oI fun a b=>.bl (decide (b < a))) (mCall cLen (mCons (mOp oIx (mVar 0) (mC (.int 0))) mNil)) (mC (.int 0)))) (mSet 3 (mOp oAdd (mOp oMod (mOp oIx (mOp oIx (mVar 0) (mC (.int 0))) (mOp oMod (mOp oMul (mVar 2) (mC (.int 3))) (mCall cLen (mCons (mOp oIx (mVar 0) (mC (.int 0))) mNil)))) (mOp oPow (mC (.int 10)) (mC (.int 9)))) (mOp oMul (mVar 2) (mC (.int 1000000))))) mNext)) [some (.ref L),a1,some (.int p),some (.int p),a4] S=.nx [some (.ref L),a1,some (.int p),some (.int z),a4] S:=by
  obtain ⟨i0,_,_⟩:=tape_ix hS
  have hl:(ns.map PV.int).length=ns.length:=List.length_map _
  by_cases q:p < ns.length
  · have e:atI (ns.map PV.int) (p:Int)=some (.int (ns.getD p 0)):=by rw [atI_map,Sm.atI_get (getD_some q 0)]; rfl
    refine ⟨ns.getD p 0,?_⟩
    generalize ns.getD p 0=x at *
    generalize ns.length=len at *
    generalize ns.map PV.int=nv at *
    simp -implicitDefEqProofs [i0,hl,q,e,-oIx_r]
  · by_cases q2:ns.length=0
    · refine ⟨p,?_⟩
      generalize ns.map PV.int=nv at *
      rw [q2] at hl
      have q0:¬ (p:Int) < 0:=by omega
      simp -implicitDefEqProofs [i0,hl,q0,-oIx_r]
    · have hp:0 < ns.length:=by omega
      obtain ⟨m,hm,em⟩:=modN ((p:Int) * 3) hp
      have e:atI (ns.map PV.int) (m:Int)=some (.int (ns.getD m 0)):=by rw [atI_map,Sm.atI_get (getD_some hm 0)]; rfl
      refine ⟨ns.getD m 0 % 1000000000 + p * 1000000,?_⟩
      have q':¬ (p:Int) < (ns.length:Int):=by omega
      generalize ns.getD m 0=x at *
      generalize ns.length=len at *
      generalize ns.map PV.int=nv at *
      simp -implicitDefEqProofs [i0,hl,q,q',hp,em,e,-oIx_r]
theorem fin_eq {st st':Store} (h:st'.length=st.length) (d:Int):fin st (.int d) st'=.ok (.int d) st':=by
  unfold fin
  by_cases q:st <+: st'
  · rw [if_pos q]
    have:st=st':=q.eq_of_length h.symm
    rw [<- this,fz]; rfl
  · rw [if_neg q]
structure Mv (L:Nat) (S S':Store):Prop where
  len:S'.length=S.length
  keep:∀ t,t ≠ L->S'[t]?=S[t]?
theorem digit_ok {ns:List Int} {S:Store} {L:Nat} (T:TapeAt S L ns) (m:Nat) (h1:1<=m) (hm:m < 1267650600228229401496703205376):∃ (d:Nat) (S':Store),d < m/\TapeAt S' L ns/\Mv L S S'/\F__law_e_digit [.ref L,.int m] S=.ok (.int d) S':=by
  obtain ⟨p,c,hS⟩:=T
  have hL:=(List.getElem?_eq_some_iff.mp hS).1
  obtain ⟨p1,c1,S1,a2,a3,hS1,M1,e1⟩:∃ (p1:Nat) (c1:Int) (S1:Store) (a2 a3:Option PV),S1[L]?=some (.lst [.fro (ns.map .int),.int p1,.int c1])/\Mv L S S1/\(mIfS (toB (mOp oLt (mOp oIx (mVar 0) (mC (.int 2))) (mVar 1))) (mSeqS (mSet 2 (mOp oIx (mVar 0) (mC (.int 1))))
    (mSeqS (mSet 3 (mVar 2))
    (mSeqS (mIfS (toB (mOp oLt (mVar 2) (mCall cLen (mCons (mOp oIx (mVar 0) (mC (.int 0))) mNil)))) (mSet 3 (mOp oIx (mOp oIx (mVar 0) (mC (.int 0))) (mVar 2))) (mIfS (toB (mOp (oI fun a b=>.bl (decide (b < a))) (mCall cLen (mCons (mOp oIx (mVar 0) (mC (.int 0))) mNil)) (mC (.int 0)))) (mSet 3 (mOp oAdd (mOp oMod (mOp oIx (mOp oIx (mVar 0) (mC (.int 0))) (mOp oMod (mOp oMul (mVar 2) (mC (.int 3))) (mCall cLen (mCons (mOp oIx (mVar 0) (mC (.int 0))) mNil)))) (mOp oPow (mC (.int 10)) (mC (.int 9)))) (mOp oMul (mVar 2) (mC (.int 1000000))))) mNext))
    (mSeqS (mSetIx (mVar 0) (mC (.int 1)) (mOp oAdd (mVar 2) (mC (.int 1))))
    (mSetIx (mVar 0) (mC (.int 2)) (mCallF 2 F__law_e_stirred (mCons (mVar 3) (mCons (mVar 2) mNil)))))))) mNext) [some (.ref L),some (.int m),none,none,none] S=.nx [some (.ref L),some (.int m),a2,a3,none] S1:=by
    obtain ⟨i0,i1,i2⟩:=tape_ix hS
    by_cases q:c < (m:Int)
    · obtain ⟨z,ez⟩:=cell_ok ns p hS (some (.int m)) none
      obtain ⟨t1,_⟩:=tape_set (x:=.int ((p:Int) + 1)) hS
      obtain ⟨S2,hS2⟩:∃ S2,S.set L (.lst [.fro (ns.map .int),.int ((p:Int) + 1),.int c])=S2:=⟨_,rfl⟩
      have h2:S2[L]?=some (.lst [.fro (ns.map .int),.int ((p:Int) + 1),.int c]):=by rw [<- hS2,List.getElem?_set_self hL]
      rw [hS2] at t1
      obtain ⟨y,ey⟩:=stir_ok z p S2
      obtain ⟨_,t2⟩:=tape_set (x:=.int y) h2
      have hL2:=(List.getElem?_eq_some_iff.mp h2).1
      refine ⟨p + 1,y,S2.set L (.lst [.fro (ns.map .int),.int ((p:Int) + 1),.int y]),some (.int p),some (.int z),?_,⟨?_,fun t ht=>?_⟩,?_⟩
      · rw [List.getElem?_set_self hL2]; push_cast; rfl
      · rw [List.length_set,<- hS2,List.length_set]
      · rw [List.getElem?_set_ne (fun u=>ht u.symm),<- hS2,List.getElem?_set_ne (fun u=>ht u.symm)]
      · have ht:(toB (mOp oLt (mOp oIx (mVar 0) (mC (.int 2))) (mVar 1))) [some (.ref L),some (.int m),none,none,none] S=.ok true S:=by
          simp -implicitDefEqProofs [i2,q,-oIx_r]
        have s1:∀ X:MS,(mSeqS (mSet 2 (mOp oIx (mVar 0) (mC (.int 1)))) (mSeqS (mSet 3 (mVar 2)) X)) [some (.ref L),some (.int m),none,none,none] S=X [some (.ref L),some (.int m),some (.int p),some (.int p),none] S:=fun X=>by
          simp -implicitDefEqProofs [i1,-oIx_r]
        rw [mIfS_eq,ht,sbind_ok,if_pos rfl,s1,mSeqS_eq,ez]
        show mSeqS _ _ _ _=_
        simp -implicitDefEqProofs [t1,ey,t2,-setIx_r]
    · refine ⟨p,c,S,none,none,hS,⟨rfl,fun _ _=>rfl⟩,?_⟩
      simp -implicitDefEqProofs [i2,q,-oIx_r]
  obtain ⟨_,_,j2⟩:=tape_ix hS1
  obtain ⟨d,hd,ed⟩:=modN c1 h1
  obtain ⟨_,t2⟩:=tape_set (x:=.int (c1 / (m:Int))) hS1
  have hL1:=(List.getElem?_eq_some_iff.mp hS1).1
  obtain ⟨S3,hS3⟩:∃ S3,S1.set L (.lst [.fro (ns.map .int),.int p1,.int (c1 / (m:Int))])=S3:=⟨_,rfl⟩
  have h3:S3[L]?=some (.lst [.fro (ns.map .int),.int p1,.int (c1 / (m:Int))]):=by rw [<- hS3,List.getElem?_set_self hL1]
  have M3:Mv L S S3:=⟨by rw [<- hS3,List.length_set,M1.len],fun t ht=>by rw [<- hS3,List.getElem?_set_ne (fun u=>ht u.symm),M1.keep t ht]⟩
  rw [hS3] at t2
  refine ⟨d,S3,hd,⟨p1,_,h3⟩,M3,?_⟩
  have hm0:0 < m:=h1
  have hm1:(m:Int) < 1267650600228229401496703205376:=by omega
  have step:m__law_e_digit [some (.ref L),some (.int m),none,none,none] S=.rt (.int d) S3:=by
    unfold m__law_e_digit
    rw [mSeqS_eq,e1]
    show mSeqS _ _ _ _=_
    simp -implicitDefEqProofs [j2,hm0,hm1,ed,t2,-oIx_r,-setIx_r]
  show callF m__law_e_digit 5 _ S=_
  unfold callF
  rw [show (([PV.ref L,.int m]:List PV).map some ++ List.replicate (5 - [PV.ref L,.int m].length) none)=[some (.ref L),some (.int m),none,none,none] from rfl,step]
  exact fin_eq M3.len d
theorem is_whole_int (i:Int) (st:Store):F_is_whole [.int i] st=.ok (.bl true) st:=by
  simp [F_is_whole,callF,m_is_whole,isI,tyN]
theorem btw_int (x a b:Int) (st:Store):F_is_between [.int x,.int a,.int b] st=.ok (.bl (decide (a<=x) && decide (x<=b))) st:=by
  have:=is_whole_int x st
  by_cases q:a<=x <;> simp [F_is_between,callF,m_is_between,this,q]
theorem seq_nx {a b:MS} {Γ Γ1:Gam} {S S1:Store} {r:SR} (h1:a Γ S=.nx Γ1 S1) (h2:b Γ1 S1=r):mSeqS a b Γ S=r:=by rw [mSeqS_eq,h1]; exact h2
theorem set_ok {i:Nat} {m:ME} {Γ:Gam} {S S1:Store} {v:PV} (h:m Γ S=.ok v S1):mSet i m Γ S=.nx (Γ.set i (some v)) S1:=by rw [mSet_eq,h]; rfl
theorem call_ok {n:Nat} {F:FN} {mr:ML} {Γ:Gam} {S S1 S2:Store} {ps:List PV} {v:PV} (h1:mr Γ S=.ok ps S1) (h2:ps.length=n) (h3:F ps S1=.ok v S2):mCallF n F mr Γ S=.ok v S2:=by rw [mCallF_eq,h1,bind_ok,if_pos h2,h3]
theorem op_ok {o:OP} {a b:ME} {Γ:Gam} {S S1 S2 S3:Store} {x y v:PV} (h1:a Γ S=.ok x S1) (h2:b Γ S1=.ok y S2) (h3:o S2 x y=.ok v S3):mOp o a b Γ S=.ok v S3:=by rw [mOp_eq,h1,bind_ok,h2,bind_ok,h3]
theorem cons_ok {m:ME} {mr:ML} {Γ:Gam} {S S1 S2:Store} {p:PV} {ps:List PV} (h1:m Γ S=.ok p S1) (h2:mr Γ S1=.ok ps S2):mCons m mr Γ S=.ok (p :: ps) S2:=by rw [mCons_eq,h1,bind_ok,h2,bind_ok]
theorem bi_ok {o:CF} {mr:ML} {Γ:Gam} {S S1 S2:Store} {ps:List PV} {v:PV} (h1:mr Γ S=.ok ps S1) (h2:o S1 ps=.ok v S2):mCall o mr Γ S=.ok v S2:=by rw [mCall_eq,h1,bind_ok,h2]
theorem for_ok {ga:GA} {mi:MI} {b:MS} {Γ:Gam} {S S1:Store} {xs:List PV} {w:Wt} {r:SR} (h1:mi Γ S=.ok (xs,w) S1) (h2:forG ga b w xs Γ S1=r):mFor ga mi b Γ S=r:=by rw [mFor_eq,h1]; exact h2
theorem if_t {c:MT} {a b:MS} {Γ:Gam} {S S1:Store} {r:SR} (h1:c Γ S=.ok true S1) (h2:a Γ S1=r):mIfS c a b Γ S=r:=by rw [mIfS_eq,h1]; exact h2
theorem if_f {c:MT} {a b:MS} {Γ:Gam} {S S1:Store} {r:SR} (h1:c Γ S=.ok false S1) (h2:b Γ S1=r):mIfS c a b Γ S=r:=by rw [mIfS_eq,h1]; exact h2
theorem asg_ok {ga:GA} {m:ME} {Γ Γ1:Gam} {S S1:Store} {p:PV} (h1:m Γ S=.ok p S1) (h2:ga p Γ=some Γ1):mAsg ga m Γ S=.nx Γ1 S1:=by rw [mAsg_eq,h1]; show (match ga p Γ with | some Γ1=>SR.nx Γ1 S1 | none=>.stuck)=_; rw [h2]
theorem sq_ok {m:ME} {Γ:Gam} {S S1:Store} {p:PV} {xs:List PV} {w:Wt} (h1:m Γ S=.ok p S1) (h2:srcOf S1 p=some (xs,w)) (h3:xs.length<=1000000):mSeq m Γ S=.ok (xs,w) S1:=by rw [mSeq_eq,h1,bind_ok,h2]; exact if_pos h3
theorem val_ok {m:ML} {Γ:Gam} {S S1:Store} {ps:List PV} (h:m Γ S=.ok ps S1):mVal m Γ S=.ok (.lst ps) S1:=by rw [mVal_eq,h,bind_ok]
theorem comp_ok {cap:List (Option Nat)} {ga:GA} {mi:MI} {mt:MT} {me:ME} {Γ:Gam} {S S1 S2:Store} {xs ys:List PV} {w:Wt} (h1:mi Γ S=.ok (xs,w) S1) (h2:compG ga mt me w (capG cap Γ) xs S1=.ok ys S2):mCompN cap ga mi mt me Γ S=.ok ys S2:=by rw [mCompN_eq,h1,bind_ok,h2]; rfl
theorem trk_ok {m:ML} {Γ:Gam} {S S1:Store} {ps:List PV} (h:m Γ S=.ok ps S1):mTrk m Γ S=.ok (.ref S1.length) (S1 ++ [.lst ps]):=by rw [mTrk_eq,h,bind_ok]
theorem not_ok {t:MT} {Γ:Gam} {S S1:Store} {b:Bool} (h:t Γ S=.ok b S1):tNotM t Γ S=.ok (!b) S1:=by rw [tNotM_eq,h,bind_ok]
theorem tb_ok {m:ME} {Γ:Gam} {S S1:Store} {b:Bool} (h:m Γ S=.ok (.bl b) S1):toB m Γ S=.ok b S1:=by rw [toB_eq,h]; rfl
theorem six_ok {mo mi m:ME} {Γ:Gam} {S S1 S2 S3 S4:Store} {p o i:PV} (h1:m Γ S=.ok p S1) (h2:mo Γ S1=.ok o S2) (h3:mi Γ S2=.ok i S3) (h4:setIx S3 o i p=some S4):mSetIx mo mi m Γ S=.nx Γ S4:=by
  rw [mSetIx_eq,h1,sbind_ok,h2,sbind_ok,h3,sbind_ok,h4]
theorem app_ok {f:MF} {mo:ME} {mr:ML} {Γ:Gam} {S S1 S2 S3:Store} {p v:PV} {xs ps:List PV} (h1:mo Γ S=.ok p S1) (h2:listOf S1 p=some xs) (h3:mr Γ S1=.ok ps S2) (h4:f S2 p ps=.ok v S3):mExpr (mBM f mo mr) Γ S=.nx Γ S3:=by
  rw [mExpr_eq,mBM_eq,h1,bind_ok]
  simp only [h2]
  rw [h3,bind_ok,h4,sbind_ok]
theorem exp_ok {m:ME} {Γ:Gam} {S S1:Store} {v:PV} (h:m Γ S=.ok v S1):mExpr m Γ S=.nx Γ S1:=by rw [mExpr_eq,h]; rfl
theorem or_t {a b:MT} {Γ:Gam} {S S1:Store} (h:a Γ S=.ok true S1):tOrM a b Γ S=.ok true S1:=by rw [tOrM_eq,h]; rfl
theorem or_f {a b:MT} {Γ:Gam} {S S1:Store} {r:Res Bool} (h:a Γ S=.ok false S1) (h2:b Γ S1=r):tOrM a b Γ S=r:=by rw [tOrM_eq,h]; exact h2
theorem seq_rt {a b:MS} {Γ:Gam} {S S1:Store} {v:PV} (h:a Γ S=.rt v S1):mSeqS a b Γ S=.rt v S1:=by rw [mSeqS_eq,h]
theorem tup_ok {mr:ML} {Γ:Gam} {S S1:Store} {ps:List PV} (h1:mr Γ S=.ok ps S1) (h2:ps.length<=1000000):mTup mr Γ S=.ok (.tup ps) S1:=by rw [mTup_eq,h1,bind_ok]; exact if_pos h2
mutual
def Pl:PV->Prop
  | .ref _=>False
  | .str x=>x.length<=1000000
  | .tup xs=>PlL xs
  | _=>True
def PlL:List PV->Prop
  | []=>True
  | p :: ps=>Pl p/\PlL ps
end
theorem PlL.mem:∀ {ps:List PV} {p:PV},PlL ps->p ∈ ps->Pl p
  | _ :: _,_,h,m=>by
    rcases List.mem_cons.mp m with rfl | m
    · exact h.1
    · exact PlL.mem h.2 m
theorem PlL.of:∀ {ps:List PV},(∀ p ∈ ps,Pl p)->PlL ps
  | [],_=>trivial
  | p :: ps,h=>⟨h p (by simp),PlL.of fun q hq=>h q (List.mem_cons_of_mem _ hq)⟩
theorem isI_ok (T:String) {m:ME} {Γ:Gam} {S:Store} {p:PV} (h:m Γ S=.ok p S) (hp:Pl p):mIsI T m Γ S=.ok (.bl (isI T p)) S:=by
  unfold mIsI
  rw [h,bind_ok]
  cases p <;> first | rfl | exact hp.elim
theorem ret_bl {body:MS} {nl:Nat} {ps:List PV} {st:Store} {b:Bool} (h:body (ps.map some ++ List.replicate (nl - ps.length) none) st=.rt (.bl b) st):callF body nl ps st=.ok (.bl b) st:=by
  unfold callF; rw [h]; exact fin_bl st b
def wholeP:PV->Bool
  | .int _=>true
  | _=>false
def btwP (p:PV) (a b:Int):Bool:=match p with
  | .int x=>decide (a<=x) && decide (x<=b)
  | _=>false
def szP (p:PV) (a b:Int):Bool:=match p with
  | .tup xs=>decide (a<=(xs.length:Int)) && decide ((xs.length:Int)<=b)
  | _=>false
theorem whole_p {p:PV} (hp:Pl p) (st:Store):F_is_whole [p] st=.ok (.bl (wholeP p)) st:=by
  refine ret_bl ?_
  have h1:=isI_ok "int" (m:=mVar 0) (Γ:=[some p]) (S:=st) rfl hp
  have h2:=isI_ok "bool" (m:=mVar 0) (Γ:=[some p]) (S:=st) rfl hp
  show m_is_whole [some p] st=_
  cases p with
  | ref=>exact hp.elim
  | _=>simp -implicitDefEqProofs [m_is_whole,h1,h2,isI,tyN,wholeP]
theorem btw_p {p:PV} (hp:Pl p) (a b:Int) (st:Store):F_is_between [p,.int a,.int b] st=.ok (.bl (btwP p a b)) st:=by
  have hw:=whole_p hp st
  cases p with
  | int x=>exact btw_int x a b st
  | ref=>exact hp.elim
  | _=>simp -implicitDefEqProofs [F_is_between,callF,m_is_between,hw,wholeP,btwP]
theorem sized_p {p:PV} (hp:Pl p) (a b:Int) (st:Store):F_is_sized_tuple [p,.int a,.int b] st=.ok (.bl (szP p a b)) st:=by
  refine ret_bl ?_
  have h1:=isI_ok "tuple" (m:=mVar 0) (Γ:=[some p,some (.int a),some (.int b)]) (S:=st) rfl hp
  show m_is_sized_tuple [some p,some (.int a),some (.int b)] st=_
  cases p with
  | ref=>exact hp.elim
  | tup xs=>
    by_cases q:a<=(xs.length:Int) <;> simp -implicitDefEqProofs [m_is_sized_tuple,h1,isI,tyN,szP,q]
  | _=>simp -implicitDefEqProofs [m_is_sized_tuple,h1,isI,tyN,szP]
def signP (c:Nat):Bool:=decide (97<=c) && decide (c<=122)
def wordS (x:Str):Bool:=decide (1<=(x.length:Int)) && decide ((x.length:Int)<=8) && x.cps.toList.all signP
def wordP:PV->Bool
  | .str x=>wordS x
  | _=>false
theorem le_a (c:Nat) (st:Store):oLe2 st (.str "a") (.str ⟨#[c]⟩)=.ok (.bl (decide (97<=c))) st:=by
  show Res.ok (PV.bl (!decide ([c] < [97]))) st=_
  have:(!decide ([c] < [97]))=decide (97<=c):=by
    by_cases q:97<=c
    · simp [List.cons_lt_cons_iff,q]
    · simp [List.cons_lt_cons_iff,q]; omega
  rw [this]
theorem le_z (c:Nat) (st:Store):oLe2 st (.str ⟨#[c]⟩) (.str "z")=.ok (.bl (decide (c<=122))) st:=by
  show Res.ok (PV.bl (!decide ([122] < [c]))) st=_
  have:(!decide ([122] < [c]))=decide (c<=122):=by
    by_cases q:c<=122
    · simp [List.cons_lt_cons_iff,q]
    · simp [List.cons_lt_cons_iff,q]; omega
  rw [this]
theorem len_str {x:Str} (h:x.length<=1000000) (st:Store):cLen st [.str x]=.ok (.int x.length) st:=by
  show (if x.length<=lim then _ else _)=_
  rw [if_pos (by rw [lim_eq]; exact h)]
theorem word_p {p:PV} (hp:Pl p) (st:Store):F_is_word [p] st=.ok (.bl (wordP p)) st:=by
  refine ret_bl ?_
  have h1:=isI_ok "str" (m:=mVar 0) (Γ:=[some p]) (S:=st) rfl hp
  show m_is_word [some p] st=_
  cases p with
  | ref=>exact hp.elim
  | str x=>
    by_cases q:1<=(x.length:Int)/\(x.length:Int)<=8
    · obtain ⟨q1,q2⟩:=q
      have hl:x.length<=1000000:=by omega
      have hc:compG (gaName 0) mTrue e_is_word_1 [] (capG [none] [some (.str x)]) (x.cps.toList.map fun c=>.str ⟨#[c]⟩) st=.ok ((x.cps.toList.map signP).map .bl) st:=by
        rw [List.map_map]
        refine compG_on (fun c=>PV.str ⟨#[c]⟩) (fun c=>PV.bl (signP c)) (by simp) fun c _=>⟨_,rfl,?_⟩
        have a:=le_a c st
        have z:=le_z c st
        by_cases r:97<=c <;> simp [capG,e_is_word_1,a,z,r,signP]
      have hw:wordP (.str x)=(x.cps.toList.map signP).all id:=by
        show wordS x=_
        unfold wordS
        rw [decide_eq_true q1,decide_eq_true q2,List.all_map]
        rfl
      rw [hw]
      have hI:mStrI (mVar 0) [some (.str x)] st=.ok (x.cps.toList.map fun c=>.str ⟨#[c]⟩,[]) st:=by
        show (if x.length<=lim then _ else _)=_
        rw [if_pos (by rw [lim_eq]; exact hl)]
        rfl
      generalize x.cps.toList.map signP=bs at *
      have hn:=len_str hl st
      simp -implicitDefEqProofs [m_is_word,h1,isI,tyN,hn,q1,q2,hc,hI]
    · have hw:wordP (.str x)=false:=by
        show wordS x=_
        unfold wordS
        have:(decide (1<=(x.length:Int)) && decide ((x.length:Int)<=8))=false:=by
          by_cases q1:1<=(x.length:Int)
          · rw [decide_eq_false (fun h=>q ⟨q1,h⟩),Bool.and_false]
          · rw [decide_eq_false q1,Bool.false_and]
        rw [this,Bool.false_and]
      rw [hw]
      by_cases hl:x.length<=1000000
      · have hn:=len_str hl st
        by_cases q1:1<=(x.length:Int)
        · have q2:¬ (x.length:Int)<=8:=fun h=>q ⟨q1,h⟩
          simp -implicitDefEqProofs [m_is_word,h1,isI,tyN,hn,q1,q2]
        · simp -implicitDefEqProofs [m_is_word,h1,isI,tyN,hn,q1]
      · exact absurd hp hl
  | _=>simp -implicitDefEqProofs [m_is_word,h1,isI,tyN,wordP]
def evP:PV->Bool
  | .str x=>hasS ["go", "fall"] x
  | _=>false
def letP (n:Int):PV->Bool
  | .tup [a,b]=>btwP a 0 (n - 1) && (wordP b && !evP b)
  | _=>false
def letsP (n:Int) (p:PV):Bool:=match p with
  | .tup xs=>decide ((xs.length:Int)<=8) && xs.all (letP n)
  | _=>false
def ruleP (n:Int):PV->Bool
  | .tup [a,b,c,d,e,f]=>btwP a 0 (n - 1) && (wordP b && (wordP c && wordP d)) && (btwP e 0 9 && letsP n f)
  | _=>false
def distP (ps:List PV):Bool:=match mapO keyN ps with
  | some ks=>decide ((metK ks).length=ps.length)
  | none=>false
def rulesP (n:Int) (p:PV):Bool:=match p with
  | .tup xs=>decide ((xs.length:Int)<=60) && xs.all (ruleP n) && distP xs
  | _=>false
def startsP (p:PV):Bool:=match p with
  | .tup xs=>decide (1<=(xs.length:Int)) && decide ((xs.length:Int)<=4) && xs.all wordP
  | _=>false
def mannerP:PV->Bool
  | .tup [a,b,c]=>btwP a 0 20 && (startsP b && match b with
    | .tup xs=>rulesP xs.length c
    | _=>false)
  | _=>false
theorem inG_ok {neg:Bool} {ss:List Str} {m:ME} {Γ:Gam} {S S1:Store} {x:Str} (h:m Γ S=.ok (.str x) S1):mInG neg ss m Γ S=.ok (.bl (hasS ss x != neg)) S1:=by unfold mInG; rw [h]; rfl
theorem let_p {p:PV} (hp:Pl p) (n:Int) (st:Store):F_is_letter [.int n,p] st=.ok (.bl (letP n p)) st:=by
  have h1:=sized_p hp 2 2 st
  cases p with
  | tup xs=>
    rcases xs with _ | ⟨a,_ | ⟨b,_ | ⟨c,t⟩⟩⟩
    · simp -implicitDefEqProofs [F_is_letter,callF,m_is_letter,h1,szP,letP]
    · simp -implicitDefEqProofs [F_is_letter,callF,m_is_letter,h1,szP,letP]
    · obtain ⟨ha,hb,_⟩:=(show Pl a/\Pl b/\True from hp)
      have h2:=btw_p ha 0 (n - 1) st
      have h3:=word_p hb st
      have i0:atI [a,b] 0=some a:=rfl
      have i1:atI [a,b] 1=some b:=rfl
      cases q:btwP a 0 (n - 1) with
      | false=>simp -implicitDefEqProofs [F_is_letter,callF,m_is_letter,h1,szP,letP,i0,i1,h2,q]
      | true=>
        cases b with
        | str x=>
          have h4:mInG true ["go", "fall"] (mOp oIx (mVar 1) (mC (.int 1))) [some (.int n),some (.tup [a,.str x])] st=.ok (.bl (hasS ["go", "fall"] x != true)) st:=inG_ok (by simp -implicitDefEqProofs [i1])
          have e4:(hasS ["go", "fall"] x != true)=!hasS ["go", "fall"] x:=by cases hasS ["go", "fall"] x <;> rfl
          rw [e4] at h4
          cases r:wordP (.str x) <;> simp -implicitDefEqProofs [F_is_letter,callF,m_is_letter,h1,szP,letP,i0,i1,h2,q,h3,r,h4,evP]
        | _=>simp -implicitDefEqProofs [F_is_letter,callF,m_is_letter,h1,szP,letP,i0,i1,h2,q,h3,wordP]
    · have:¬ ((t.length:Int) + 1 + 1 + 1<=2):=by omega
      simp -implicitDefEqProofs [F_is_letter,callF,m_is_letter,h1,szP,letP,this]
  | ref=>exact hp.elim
  | _=>simp -implicitDefEqProofs [F_is_letter,callF,m_is_letter,h1,szP,letP]
theorem all_p {g:PV->Bool} {ga:GA} {me:ME} {Γ0:Gam} {xs:List PV} {st:Store} (h:∀ p ∈ xs,∃ Γ1,ga p Γ0=some Γ1/\me Γ1 st=.ok (.bl (g p)) st):compG ga mTrue me [] Γ0 xs st=.ok ((xs.map g).map .bl) st:=by
  have:=compG_on (ga:=ga) (me:=me) (w:=[]) (Γ0:=Γ0) (st:=st) id (fun p=>PV.bl (g p)) (by simp) (ys:=xs) h
  rw [List.map_id] at this
  rw [this,List.map_map]
  rfl
theorem all_idP {g:PV->Bool} (xs:List PV):(xs.map g).all id=xs.all g:=by rw [List.all_map]; rfl
theorem lets_p {p:PV} (hp:Pl p) (n:Int) (st:Store):F_are_letters_of_rule [.int n,p] st=.ok (.bl (letsP n p)) st:=by
  have h1:=sized_p hp 0 8 st
  cases p with
  | tup xs=>
    by_cases q:(xs.length:Int)<=8
    · have hc:=all_p (g:=letP n) (ga:=gaName 0) (me:=e_are_letters_of_rule_1) (Γ0:=capG [none,some 0] [some (.int n),some (.tup xs)]) (xs:=xs) (st:=st) fun p hm=>⟨_,rfl,by
        have:=let_p (PlL.mem hp hm) n st
        simp -implicitDefEqProofs [capG,e_are_letters_of_rule_1,this]⟩
      have hl:xs.length<=1000000:=by omega
      have hz:szP (.tup xs) 0 8=true:=by unfold szP; simp [q]
      have hw:letsP n (.tup xs)=(xs.map (letP n)).all id:=by show (decide ((xs.length:Int)<=8) && xs.all (letP n))=_; rw [all_idP,decide_eq_true q,Bool.true_and]
      rw [hw]
      generalize xs.map (letP n)=bs at *
      simp -implicitDefEqProofs [F_are_letters_of_rule,callF,m_are_letters_of_rule,h1,hz,hl,lim_eq,hc]
    · have hz:szP (.tup xs) 0 8=false:=by unfold szP; simp [q]
      have hw:letsP n (.tup xs)=false:=by show (decide ((xs.length:Int)<=8) && xs.all (letP n))=_; rw [decide_eq_false q,Bool.false_and]
      simp -implicitDefEqProofs [F_are_letters_of_rule,callF,m_are_letters_of_rule,h1,hz,hw]
  | ref=>exact hp.elim
  | _=>simp -implicitDefEqProofs [F_are_letters_of_rule,callF,m_are_letters_of_rule,h1,szP,letsP]
theorem rule_p {p:PV} (hp:Pl p) (n:Int) (st:Store):F_is_rule [.int n,p] st=.ok (.bl (ruleP n p)) st:=by
  have h1:=sized_p hp 6 6 st
  cases p with
  | tup xs=>
    by_cases z:xs.length=6
    · obtain ⟨a,b,c,d,e,f,rfl⟩:∃ a b c d e f,xs=[a,b,c,d,e,f]:=by
        rcases xs with _ | ⟨a,_ | ⟨b,_ | ⟨c,_ | ⟨d,_ | ⟨e,_ | ⟨f,_ | ⟨g,t⟩⟩⟩⟩⟩⟩⟩ <;> first | exact ⟨_,_,_,_,_,_,rfl⟩ | (simp at z; done) | (simp at z; omega)
      obtain ⟨ha,hb,hc,hd,he,hf,_⟩:=(show Pl a/\Pl b/\Pl c/\Pl d/\Pl e/\Pl f/\True from hp)
      have h2:=btw_p ha 0 (n - 1) st
      have h3:=btw_p he 0 9 st
      have h4:=lets_p hf n st
      have i0:atI [a,b,c,d,e,f] 0=some a:=rfl
      have i4:atI [a,b,c,d,e,f] 4=some e:=rfl
      have i5:atI [a,b,c,d,e,f] 5=some f:=rfl
      have sl:cut [a,b,c,d,e,f] (some 1) (some 4)=[b,c,d]:=rfl
      have hcm:=all_p (g:=wordP) (ga:=gaName 0) (me:=e_is_rule_1) (Γ0:=capG [none] [some (.int n),some (.tup [a,b,c,d,e,f])]) (xs:=[b,c,d]) (st:=st) fun p hm=>⟨_,rfl,by
        have hpp:Pl p:=PlL.mem (ps:=[b,c,d]) ⟨hb,hc,hd,trivial⟩ hm
        have:=word_p hpp st
        simp -implicitDefEqProofs [capG,e_is_rule_1,this]⟩
      have hw:([b,c,d].map wordP).all id=(wordP b && (wordP c && wordP d)):=by simp
      have hr:ruleP n (.tup [a,b,c,d,e,f])=(btwP a 0 (n - 1) && ([b,c,d].map wordP).all id && (btwP e 0 9 && letsP n f)):=by rw [hw]; rfl
      rw [hr]
      generalize [b,c,d].map wordP=bs at *
      cases q:btwP a 0 (n - 1) with
      | false=>simp -implicitDefEqProofs [F_is_rule,callF,m_is_rule,h1,szP,i0,h2,q]
      | true=>
        cases r:bs.all id with
        | false=>simp -implicitDefEqProofs [F_is_rule,callF,m_is_rule,h1,szP,i0,h2,q,sl,lim_eq,hcm,r]
        | true=>cases u:btwP e 0 9 <;> simp -implicitDefEqProofs [F_is_rule,callF,m_is_rule,h1,szP,i0,h2,q,sl,lim_eq,hcm,r,i4,i5,h3,h4,u]
    · have hz:szP (.tup xs) 6 6=false:=by
        show (decide ((6:Int)<=xs.length) && decide ((xs.length:Int)<=6))=false
        by_cases y:(6:Int)<=xs.length
        · rw [decide_eq_false (show ¬ (xs.length:Int)<=6 by omega),Bool.and_false]
        · rw [decide_eq_false y,Bool.false_and]
      have hr:ruleP n (.tup xs)=false:=by
        unfold ruleP
        split
        · rename_i e; cases e; simp at z
        · rfl
      simp -implicitDefEqProofs [F_is_rule,callF,m_is_rule,h1,hz,hr]
  | ref=>exact hp.elim
  | _=>simp -implicitDefEqProofs [F_is_rule,callF,m_is_rule,h1,szP,ruleP]
theorem hk_mapO {d:Nat} {ps:List PV} (h:∀ p ∈ ps,∃ k,hkOf d p=some k):∃ ks,mapO (hkOf d) ps=some ks:=by
  induction ps with
  | nil=>exact ⟨[],rfl⟩
  | cons p ps ih=>
    obtain ⟨k,hk⟩:=h p (by simp)
    obtain ⟨ks,hks⟩:=ih fun q hq=>h q (List.mem_cons_of_mem _ hq)
    exact ⟨k :: ks,by unfold mapO; rw [hk,hks]⟩
theorem btwP_int {p:PV} {a b:Int} (h:btwP p a b=true):∃ x,p=.int x/\a<=x/\x<=b:=by
  cases p with
  | int x=>
    have h:(decide (a<=x) && decide (x<=b))=true:=h
    simp at h
    exact ⟨x,rfl,h⟩
  | _=>cases h
theorem wordP_str {p:PV} (h:wordP p=true):∃ x,p=.str x/\wordS x=true:=by
  cases p with
  | str x=>exact ⟨x,rfl,h⟩
  | _=>cases h
theorem letP_is {n:Int} {p:PV} (h:letP n p=true):∃ x s,p=.tup [.int x,.str s]/\0<=x/\x < n/\wordS s=true/\hasS ["go", "fall"] s=false:=by
  unfold letP at h
  split at h
  · rename_i a b
    rw [Bool.and_eq_true,Bool.and_eq_true] at h
    obtain ⟨x,rfl,h1,h2⟩:=btwP_int h.1
    obtain ⟨s,rfl,h3⟩:=wordP_str h.2.1
    refine ⟨x,s,rfl,h1,by omega,h3,?_⟩
    have:(!hasS ["go", "fall"] s)=true:=h.2.2
    simpa using this
  · cases h
theorem ruleP_is {n:Int} {p:PV} (h:ruleP n p=true):∃ x s e t u ls,p=.tup [.int x,.str s,.str e,.str t,.int u,.tup ls]/\0<=x/\x < n/\wordS s=true/\wordS e=true/\wordS t=true/\0<=u/\u<=9/\ls.length<=8/\∀ l ∈ ls,letP n l=true:=by
  unfold ruleP at h
  split at h
  · rename_i a b c d e f
    simp only [Bool.and_eq_true] at h
    obtain ⟨⟨h1,h2,h3,h4⟩,h5,h6⟩:=h
    obtain ⟨x,rfl,x1,x2⟩:=btwP_int h1
    obtain ⟨s,rfl,s1⟩:=wordP_str h2
    obtain ⟨ev,rfl,e1⟩:=wordP_str h3
    obtain ⟨t,rfl,t1⟩:=wordP_str h4
    obtain ⟨u,rfl,u1,u2⟩:=btwP_int h5
    unfold letsP at h6
    split at h6
    · rename_i ls
      simp only [Bool.and_eq_true,decide_eq_true_eq,List.all_eq_true] at h6
      exact ⟨x,s,ev,t,u,ls,rfl,x1,by omega,s1,e1,t1,u1,u2,by omega,h6.2⟩
    · cases h6
  · cases h
theorem ruleP_key {n:Int} {p:PV} (h:ruleP n p=true):∃ k,keyN p=some k:=by
  obtain ⟨x,s,e,t,u,ls,rfl,_,_,_,_,_,_,_,_,hl⟩:=ruleP_is h
  obtain ⟨ks,hk⟩:=hk_mapO (d:=3) (ps:=ls) fun l hm=>by
    obtain ⟨y,z,rfl,_⟩:=letP_is (hl l hm)
    exact ⟨_,rfl⟩
  refine ⟨.tup [.int x,.str s,.str e,.str t,.int u,.tup ks],?_⟩
  show (mapO (hkOf 4) _).map HK.tup=_
  have hf:hkOf 4 (.tup ls)=some (.tup ks):=by show (mapO (hkOf 3) ls).map HK.tup=_; rw [hk]; rfl
  simp only [mapO,hf]
  rfl
theorem keys_of {n:Int} {xs:List PV} (h:xs.all (ruleP n)=true):∃ ks,mapO keyN xs=some ks/\ks.length=xs.length:=by
  induction xs with
  | nil=>exact ⟨[],rfl,rfl⟩
  | cons p ps ih=>
    simp only [List.all_cons,Bool.and_eq_true] at h
    obtain ⟨k,hk⟩:=ruleP_key h.1
    obtain ⟨ks,hks,hl⟩:=ih h.2
    exact ⟨k :: ks,by unfold mapO; rw [hk,hks],by rw [List.length_cons,List.length_cons,hl]⟩
theorem rules_p {p:PV} (hp:Pl p) (n:Int) (st:Store):F_are_rules [.int n,p] st=.ok (.bl (rulesP n p)) st:=by
  have h1:=sized_p hp 0 60 st
  cases p with
  | tup xs=>
    by_cases q:(xs.length:Int)<=60
    · have hc:=all_p (g:=ruleP n) (ga:=gaName 0) (me:=e_are_rules_1) (Γ0:=capG [none,some 0] [some (.int n),some (.tup xs)]) (xs:=xs) (st:=st) fun p hm=>⟨_,rfl,by
        have:=rule_p (PlL.mem hp hm) n st
        simp -implicitDefEqProofs [capG,e_are_rules_1,this]⟩
      have hl:xs.length<=1000000:=by omega
      have hz:szP (.tup xs) 0 60=true:=by unfold szP; simp [q]
      have hw:rulesP n (.tup xs)=((xs.map (ruleP n)).all id && distP xs):=by show (decide ((xs.length:Int)<=60) && xs.all (ruleP n) && distP xs)=_; rw [all_idP,decide_eq_true q,Bool.true_and]
      rw [hw]
      cases r:(xs.map (ruleP n)).all id with
      | false=>
        generalize xs.map (ruleP n)=bs at *
        simp -implicitDefEqProofs [F_are_rules,callF,m_are_rules,h1,hz,hl,lim_eq,hc,r]
      | true=>
        obtain ⟨ks,hk,hkl⟩:=keys_of (n:=n) (xs:=xs) (by rw [<- all_idP]; exact r)
        have h76:ks.length<=76:=by omega
        have hd:distP xs=decide (((metK ks).length:Int)=(xs.length:Int)):=by
          unfold distP
          rw [hk]
          show decide ((metK ks).length=xs.length)=_
          by_cases y:(metK ks).length=xs.length
          · rw [decide_eq_true y,decide_eq_true (by rw [y])]
          · rw [decide_eq_false y,decide_eq_false (by omega)]
        rw [hd]
        generalize xs.map (ruleP n)=bs at *
        by_cases y:((metK ks).length:Int)=(xs.length:Int) <;> simp -implicitDefEqProofs [F_are_rules,callF,m_are_rules,h1,hz,hl,lim_eq,hc,r,hk,h76,y]
    · have hz:szP (.tup xs) 0 60=false:=by unfold szP; simp [q]
      have hw:rulesP n (.tup xs)=false:=by show (decide ((xs.length:Int)<=60) && xs.all (ruleP n) && distP xs)=_; rw [decide_eq_false q,Bool.false_and,Bool.false_and]
      simp -implicitDefEqProofs [F_are_rules,callF,m_are_rules,h1,hz,hw]
  | ref=>exact hp.elim
  | _=>simp -implicitDefEqProofs [F_are_rules,callF,m_are_rules,h1,szP,rulesP]
theorem starts_p {p:PV} (hp:Pl p) (st:Store):F_are_starts [p] st=.ok (.bl (startsP p)) st:=by
  have h1:=sized_p hp 1 4 st
  cases p with
  | tup xs=>
    cases q:szP (.tup xs) 1 4 with
    | true=>
      have q':(decide ((1:Int)<=xs.length) && decide ((xs.length:Int)<=4))=true:=q
      have hc:=all_p (g:=wordP) (ga:=gaName 0) (me:=e_are_starts_1) (Γ0:=capG [none] [some (.tup xs)]) (xs:=xs) (st:=st) fun p hm=>⟨_,rfl,by
        have:=word_p (PlL.mem hp hm) st
        simp -implicitDefEqProofs [capG,e_are_starts_1,this]⟩
      have hl:xs.length<=1000000:=by simp at q'; omega
      have hw:startsP (.tup xs)=(xs.map wordP).all id:=by show (decide ((1:Int)<=xs.length) && decide ((xs.length:Int)<=4) && xs.all wordP)=_; rw [all_idP,q',Bool.true_and]
      rw [hw]
      generalize xs.map wordP=bs at *
      simp -implicitDefEqProofs [F_are_starts,callF,m_are_starts,h1,q,hl,lim_eq,hc]
    | false=>
      have q':(decide ((1:Int)<=xs.length) && decide ((xs.length:Int)<=4))=false:=q
      have hw:startsP (.tup xs)=false:=by show (decide ((1:Int)<=xs.length) && decide ((xs.length:Int)<=4) && xs.all wordP)=_; rw [q',Bool.false_and]
      simp -implicitDefEqProofs [F_are_starts,callF,m_are_starts,h1,q,hw]
  | ref=>exact hp.elim
  | _=>simp -implicitDefEqProofs [F_are_starts,callF,m_are_starts,h1,szP,startsP]
theorem manner_p {p:PV} (hp:Pl p) (st:Store):F_is_manner [p] st=.ok (.bl (mannerP p)) st:=by
  have h1:=sized_p hp 3 3 st
  cases p with
  | tup xs=>
    by_cases z:xs.length=3
    · obtain ⟨a,b,c,rfl⟩:∃ a b c,xs=[a,b,c]:=by
        rcases xs with _ | ⟨a,_ | ⟨b,_ | ⟨c,_ | ⟨g,t⟩⟩⟩⟩ <;> first | exact ⟨_,_,_,rfl⟩ | (simp at z; done) | (simp at z; omega)
      obtain ⟨ha,hb,hc,_⟩:=(show Pl a/\Pl b/\Pl c/\True from hp)
      have h2:=btw_p ha 0 20 st
      have h3:=starts_p hb st
      have i0:atI [a,b,c] 0=some a:=rfl
      have i1:atI [a,b,c] 1=some b:=rfl
      have i2:atI [a,b,c] 2=some c:=rfl
      cases q:btwP a 0 20 with
      | false=>simp -implicitDefEqProofs [F_is_manner,callF,m_is_manner,h1,szP,i0,h2,q,mannerP]
      | true=>
        cases r:startsP b with
        | false=>simp -implicitDefEqProofs [F_is_manner,callF,m_is_manner,h1,szP,i0,i1,h2,h3,q,r,mannerP]
        | true=>
          cases b with
          | tup ys=>
            have h4:=rules_p hc ys.length st
            simp -implicitDefEqProofs [F_is_manner,callF,m_is_manner,h1,szP,i0,i1,i2,h2,h3,h4,q,r,mannerP]
          | _=>cases r
    · have hz:szP (.tup xs) 3 3=false:=by
        show (decide ((3:Int)<=xs.length) && decide ((xs.length:Int)<=3))=false
        by_cases y:(3:Int)<=xs.length
        · rw [decide_eq_false (show ¬ (xs.length:Int)<=3 by omega),Bool.and_false]
        · rw [decide_eq_false y,Bool.false_and]
      have hr:mannerP (.tup xs)=false:=by
        unfold mannerP
        split
        · rename_i e; cases e; simp at z
        · rfl
      simp -implicitDefEqProofs [F_is_manner,callF,m_is_manner,h1,hz,hr]
  | ref=>exact hp.elim
  | _=>simp -implicitDefEqProofs [F_is_manner,callF,m_is_manner,h1,szP,mannerP]
theorem callK_rt {m:MS} {nl:Nat} {ps:List PV} {S S':Store} {v:PV} (h:m (ps.map some ++ List.replicate (nl - ps.length) none) S=.rt v S'):callK m nl ps S=.ok v S':=by unfold callK; rw [h]
theorem callF_rt {m:MS} {nl:Nat} {ps:List PV} {S S':Store} {v:PV} (h:m (ps.map some ++ List.replicate (nl - ps.length) none) S=.rt v S'):callF m nl ps S=fin S v S':=by unfold callF; rw [h]
theorem app_lst {S:Store} {L:Nat} {xs:List PV} (h:S[L]?=some (.lst xs)) (hl:xs.length < 1000000) (y:PV):mtAppend S (.ref L) [y]=.ok .non (S.set L (.lst (xs ++ [y]))):=by
  simp only [mtAppend,chg,h]
  rw [if_pos (show xs.length < lim from hl)]
theorem and_t {a b:MT} {Γ:Gam} {S S1:Store} {r:Res Bool} (h:a Γ S=.ok true S1) (h2:b Γ S1=r):tAndM a b Γ S=r:=by rw [tAndM_eq,h]; exact h2
theorem and_f {a b:MT} {Γ:Gam} {S S1:Store} (h:a Γ S=.ok false S1):tAndM a b Γ S=.ok false S1:=by rw [tAndM_eq,h]; rfl
theorem ret_ok {m:ME} {Γ:Gam} {S S1:Store} {v:PV} (h:m Γ S=.ok v S1):mRet m Γ S=.rt v S1:=by rw [mRet_eq,h]; rfl
theorem eqi_t (S:Store) {a b:Int} (h:a=b):oEq S (.int a) (.int b)=.ok (.bl true) S:=by simp [h]
theorem eqi_f (S:Store) {a b:Int} (h:¬ a=b):oEq S (.int a) (.int b)=.ok (.bl false) S:=by simp [h]
theorem lti_t (S:Store) {a b:Int} (h:a < b):oLt S (.int a) (.int b)=.ok (.bl true) S:=by simp [h]
theorem lti_f (S:Store) {a b:Int} (h:¬ a < b):oLt S (.int a) (.int b)=.ok (.bl false) S:=by
  have:oLt S (.int a) (.int b)=.ok (.bl (decide (a < b))) S:=by simp
  rw [this,decide_eq_false h]
theorem gti_t (S:Store) {a b:Int} (h:b < a):(oI fun a b=>.bl (decide (b < a))) S (.int a) (.int b)=.ok (.bl true) S:=by
  show Res.ok (PV.bl (decide (b < a))) S=_; rw [decide_eq_true h]
theorem gti_f (S:Store) {a b:Int} (h:¬ b < a):(oI fun a b=>.bl (decide (b < a))) S (.int a) (.int b)=.ok (.bl false) S:=by
  show Res.ok (PV.bl (decide (b < a))) S=_; rw [decide_eq_false h]
theorem addi (S:Store) (a b:Int):oAdd S (.int a) (.int b)=.ok (.int (a + b)) S:=by simp
theorem subi (S:Store) (a b:Int):(oI fun a b=>.int (a - b)) S (.int a) (.int b)=.ok (.int (a - b)) S:=rfl
theorem bi_lst {mr:ML} {Γ:Gam} {S S1:Store} {ps:List PV} (h:mr Γ S=.ok ps S1) (hl:ps.length<=1000000:=by decide):mLst mr Γ S=.ok (.lst ps) S1:=by
  unfold mLst
  rw [h,bind_ok]
  exact if_pos hl
theorem rg_ok {n:Nat} (hn:n<=1000) {m:ME} {Γ:Gam} {S:Store} (h:m Γ S=.ok (.int n) S):mRange1 (mCons m mNil) Γ S=.ok (rangeI 0 n,[]) S:=by
  rw [mRange1_eq,cons_ok h (show mNil Γ S=.ok [] S from rfl),bind_ok]
  show (if -(lim:Int)<=(n:Int)/\(n:Int)<=lim then _ else _)=_
  rw [if_pos (by rw [lim_eq]; omega),Int.toNat_natCast]
theorem eqs_t (S:Store) (a:Str):oEq S (.str a) (.str a)=.ok (.bl true) S:=by simp
theorem eqs_f {a b:Str} (S:Store) (h:¬ a=b):oEq S (.str a) (.str b)=.ok (.bl false) S:=by simp [h]
theorem ne_good {S:Store} {v:PV} (g:good dep v=true) (hd:der S v=v):oNe S v v=.ok (.bl false) S:=by
  have hp:peq v v=true:=peq_self g
  unfold oNe
  rw [hd]
  simp [g,hp]
structure Mw (L:Nat) (S S':Store):Prop where
  len:S.length<=S'.length
  keep:∀ t,t ≠ L->t < S.length->S'[t]?=S[t]?
theorem Mw.refl (L:Nat) (S:Store):Mw L S S:=⟨Nat.le_refl _,fun _ _ _=>rfl⟩
theorem Mw.trans {L:Nat} {S S1 S2:Store} (a:Mw L S S1) (b:Mw L S1 S2):Mw L S S2:=⟨Nat.le_trans a.len b.len,fun t h1 h2=>(b.keep t h1 (Nat.lt_of_lt_of_le h2 a.len)).trans (a.keep t h1 h2)⟩
theorem Mv.w {L:Nat} {S S':Store} (a:Mv L S S'):Mw L S S':=⟨by rw [a.len]; exact Nat.le_refl _,fun t h _=>a.keep t h⟩
theorem Mw.add (L:Nat) (S:Store) (c:Cell):Mw L S (S ++ [c]):=⟨by rw [List.length_append]; omega,fun t _ h=>List.getElem?_append_left h⟩
theorem TapeAt.add {S:Store} {L:Nat} {ns:List Int} (T:TapeAt S L ns) (c:Cell):TapeAt (S ++ [c]) L ns:=by
  have h:=T.lt
  obtain ⟨p,q,e⟩:=T
  exact ⟨p,q,by rw [List.getElem?_append_left h]; exact e⟩
theorem TapeAt.put {S:Store} {L M:Nat} {ns:List Int} (T:TapeAt S L ns) (hM:M ≠ L) (c:Cell):TapeAt (S.set M c) L ns:=by
  obtain ⟨p,q,e⟩:=T
  exact ⟨p,q,by rw [List.getElem?_set_ne hM]; exact e⟩
theorem rgw {n:Nat} (hn:n<=1000) {m:ME} {Γ:Gam} {S S1:Store} (h:m Γ S=.ok (.int n) S1):mRange1 (mCons m mNil) Γ S=.ok (rangeI 0 n,[]) S1:=by
  rw [mRange1_eq,cons_ok h (show mNil Γ S1=.ok [] S1 from rfl),bind_ok]
  show (if -(lim:Int)<=(n:Int)/\(n:Int)<=lim then _ else _)=_
  rw [if_pos (by rw [lim_eq]; omega),Int.toNat_natCast]
theorem glue_fold (cs:List Nat) (acc:Array Nat):List.foldl (fun acc (p:Str)=>acc ++ ("" : Str).cps ++ p.cps) acc (cs.map fun c=>(⟨#[c]⟩:Str))=acc ++ cs.toArray:=by
  induction cs generalizing acc with
  | nil=>simp
  | cons c cs ih=>
    rw [List.map_cons,List.foldl_cons,ih]
    have:("" : Str).cps=#[]:=rfl
    rw [this]
    simp
theorem join_signs (cs:List Nat):Txt.join "" (cs.map fun c=>(⟨#[c]⟩:Str))=⟨cs.toArray⟩:=by
  show Builtin.Str.glued "" _=_
  unfold Builtin.Str.glued
  cases cs with
  | nil=>rfl
  | cons c cs=>
    show (⟨List.foldl _ #[c] (cs.map fun c=>(⟨#[c]⟩:Str))⟩:Str)=_
    rw [glue_fold]
    simp
theorem join_fit {cs:List Nat} (h:cs.length<=1000):JoinOk "" (cs.map fun c=>(⟨#[c]⟩:Str))=true:=by
  unfold JoinOk
  have key:∀ (cs:List Nat) (a:Nat),List.foldl (fun x1 (x2:Str)=>x1 + x2.length + ("" : Str).length) a (cs.map fun c=>(⟨#[c]⟩:Str))=a + cs.length:=by
    intro cs
    induction cs with
    | nil=>intro a; rfl
    | cons c cs ih=>
      intro a
      rw [List.map_cons,List.foldl_cons,ih,List.length_cons]
      show a + 1 + 0 + _=_
      omega
  rw [<- Array.foldl_toList]
  show (!decide (List.foldl _ 0 (cs.map fun c=>(⟨#[c]⟩:Str)) > sizeLine))=true
  rw [key,sizeLine_eq]
  simp
  omega
theorem strs_signs (cs:List Nat):strsP (cs.map fun c=>PV.str ⟨#[c]⟩)=some (cs.map fun c=>(⟨#[c]⟩:Str)):=by
  induction cs with
  | nil=>rfl
  | cons c cs ih=>rw [List.map_cons,strsP,ih]; rfl
theorem word_signs {cs:List Nat} (h1:1<=cs.length) (h2:cs.length<=8) (h:∀ c ∈ cs,signP c=true):wordS ⟨cs.toArray⟩=true:=by
  unfold wordS
  have e:(⟨cs.toArray⟩:Str).length=cs.length:=by show cs.toArray.size=_; simp
  rw [e]
  simp only [Bool.and_eq_true,decide_eq_true_eq,List.all_eq_true]
  exact ⟨⟨by omega,by omega⟩,fun c hc=>h c (by simpa using hc)⟩
theorem name_ok {ns:List Int} {S:Store} {L:Nat} (T:TapeAt S L ns):∃ (x:Str) (S':Store),wordS x=true/\TapeAt S' L ns/\Mw L S S'/\F__law_e_name [.ref L] S=.ok (.str x) S':=by
  obtain ⟨d,S1,hd,T1,M1,e1⟩:=digit_ok T 4 (by decide) (by decide)
  by_cases q:d=0
  · subst q
    obtain ⟨k,S2,hk,T2,M2,e2⟩:=digit_ok T1 8 (by decide) (by decide)
    obtain ⟨x,hx,ex⟩:∃ x,wordS x=true/\oIx S2 (.lst [.str "go",.str "fall",.str "gone",.str "fallen",.str "gofall",.str "a",.str "aa",.str "abcdefgh"]) (.int k)=.ok (.str x) S2:=by
      have:k=0\/k=1\/k=2\/k=3\/k=4\/k=5\/k=6\/k=7:=by omega
      rcases this with rfl | rfl | rfl | rfl | rfl | rfl | rfl | rfl <;> exact ⟨_,by decide +kernel,rfl⟩
    refine ⟨x,S2,hx,T2,M1.w.trans M2.w,callK_rt ?_⟩
    show m__law_e_name [some (.ref L)] S=_
    exact seq_rt (if_t (tb_ok (op_ok (call_ok (n:=2) rfl rfl e1) rfl (eqi_t _ rfl))) (ret_ok (op_ok rfl (call_ok (n:=2) rfl rfl e2) ex)))
  · obtain ⟨k,S2,hk,T2,M2,e2⟩:=digit_ok T1 4 (by decide) (by decide)
    obtain ⟨out,S3,ec,T3,M3,cs,hcl,rfl,hcs⟩:=compG_inv (xs:=List.range (1 + k)) (fun (i:Nat)=>PV.int ((0:Int) + (i:Int))) (fun i out st=>TapeAt st L ns/\Mw L S2 st/\∃ cs:List Nat,cs.length=i/\out=cs.map (fun c=>PV.str ⟨#[c]⟩)/\∀ c ∈ cs,signP c=true) (ga:=gaName 0) (me:=e__law_e_name_1) (w:=[]) (Γ0:=capG [none,some 0] [some (.ref L)]) (fun _ _ st _=>wOk_nil st)
      (fun i x out st _ ⟨Ti,Mi,cs,h1,h2,h3⟩=>by
        obtain ⟨j,S4,hj,T4,M4,e4⟩:=digit_ok Ti 7 (by decide) (by decide)
        obtain ⟨c,hc,ecc⟩:∃ c,signP c=true/\oIxS S4 (.str "abgoflz") (.int j)=.ok (.str ⟨#[c]⟩) S4:=by
          have:j=0\/j=1\/j=2\/j=3\/j=4\/j=5\/j=6:=by omega
          rcases this with rfl | rfl | rfl | rfl | rfl | rfl | rfl <;> exact ⟨_,by decide +kernel,rfl⟩
        refine ⟨_,rfl,.str ⟨#[c]⟩,S4,op_ok rfl (call_ok (n:=2) rfl rfl e4) ecc,T4,Mi.trans M4.w,cs ++ [c],by rw [List.length_append,h1]; rfl,by rw [h2,List.map_append]; rfl,fun y hy=>?_⟩
        rcases List.mem_append.mp hy with hy | hy
        · exact h3 y hy
        · have:y=c:=by simpa using hy
          rw [this]; exact hc)
      ⟨T2,Mw.refl L S2,[],rfl,rfl,fun c hc=>nomatch hc⟩
    rw [List.length_range] at hcl
    refine ⟨⟨cs.toArray⟩,S3,word_signs (by omega) (by omega) hcs,T3,(M1.w.trans M2.w).trans M3,callK_rt ?_⟩
    show m__law_e_name [some (.ref L)] S=_
    refine seq_nx (if_f (tb_ok (op_ok (call_ok (n:=2) rfl rfl e1) rfl (eqi_f _ (by omega)))) rfl) (ret_ok ?_)
    show mJoin _ _ _ _=_
    have hl:mVal (mCompN [none,some 0] (gaName 0) (mRange1 (mCons (mOp oAdd (mC (.int 1)) (mCallF 2 F__law_e_digit (mCons (mVar 0) (mCons (mC (.int 4)) mNil)))) mNil)) mTrue e__law_e_name_1) [some (.ref L)] S1=.ok (.lst (cs.map fun c=>PV.str ⟨#[c]⟩)) S3:=val_ok (comp_ok (rgw (n:=1 + k) (by omega) (op_ok rfl (call_ok (n:=2) rfl rfl e2) (by rw [addi]; push_cast; rfl))) ec)
    unfold mJoin
    show ((mCons _ mNil) [some (.ref L)] S1).bind _=_
    rw [cons_ok hl (show mNil _ S3=.ok [] S3 from rfl),bind_ok]
    show (match (some (cs.map fun c=>PV.str ⟨#[c]⟩)).bind strsP with | some ss=>if JoinOk "" ss=true then Res.ok (PV.str (Txt.join "" ss)) S3 else .stuck | none=>.stuck)=_
    rw [Option.bind_some,strs_signs]
    show (if JoinOk "" _=true then _ else _)=_
    rw [if_pos (join_fit (by omega)),join_signs]
def LetS (x:Str):Prop:=wordS x=true/\hasS ["go", "fall"] x=false
theorem letter_name_ok {ns:List Int} {S:Store} {L:Nat} (T:TapeAt S L ns):∃ (x:Str) (S':Store),LetS x/\TapeAt S' L ns/\Mw L S S'/\F__law_e_letter_name [.ref L] S=.ok (.str x) S':=by
  obtain ⟨x,S1,hx,T1,M1,e1⟩:=name_ok T
  by_cases q:x = "go"
  · subst q
    refine ⟨"goa",S1,⟨by decide +kernel,by decide +kernel⟩,T1,M1,callK_rt ?_⟩
    show m__law_e_letter_name [some (.ref L),none] S=_
    exact seq_nx (set_ok (call_ok (n:=1) rfl rfl e1)) (seq_rt (if_t (or_t (tb_ok (op_ok rfl rfl (eqs_t _ _)))) (ret_ok (op_ok rfl rfl rfl))))
  · by_cases r:x = "fall"
    · subst r
      refine ⟨"falla",S1,⟨by decide +kernel,by decide +kernel⟩,T1,M1,callK_rt ?_⟩
      show m__law_e_letter_name [some (.ref L),none] S=_
      exact seq_nx (set_ok (call_ok (n:=1) rfl rfl e1)) (seq_rt (if_t (or_f (tb_ok (op_ok rfl rfl (eqs_f _ q))) (tb_ok (op_ok rfl rfl (eqs_t _ _)))) (ret_ok (op_ok rfl rfl rfl))))
    · refine ⟨x,S1,⟨hx,?_⟩,T1,M1,callK_rt ?_⟩
      · unfold hasS
        simp only [List.any_cons,List.any_nil,Bool.or_false,decide_eq_false (fun h=>q (Eq.symm h)),decide_eq_false (fun h=>r (Eq.symm h))]
      · show m__law_e_letter_name [some (.ref L),none] S=_
        exact seq_nx (set_ok (call_ok (n:=1) rfl rfl e1)) (seq_nx (if_f (or_f (tb_ok (op_ok rfl rfl (eqs_f _ q))) (tb_ok (op_ok rfl rfl (eqs_f _ r)))) rfl) (ret_ok rfl))
theorem ix_lst {xs:List PV} {k:Nat} {p:PV} (h:xs[k]?=some p) (S:Store):oIx S (.lst xs) (.int k)=.ok p S:=by
  show okO S (atI xs (k:Int))=_
  rw [atI_nat h]; rfl
theorem ix_tup {xs:List PV} {k:Nat} {p:PV} (h:xs[k]?=some p) (S:Store):oIx S (.tup xs) (.int k)=.ok p S:=by
  show okO S (atI xs (k:Int))=_
  rw [atI_nat h]; rfl
def strL (xs:List Str):PV:=.lst (xs.map .str)
theorem pick_ok {ns:List Int} {S:Store} {L i:Nat} (T:TapeAt S L ns) {xs:List Str} (h1:1<=xs.length) (h2:xs.length<=100) {Γ:Gam} (hL:∀ st,mVar 0 Γ st=.ok (.ref L) st) (hx:∀ st,mVar i Γ st=.ok (strL xs) st):∃ (x:Str) (S':Store),x ∈ xs/\TapeAt S' L ns/\Mw L S S'/\(mOp oIx (mVar i) (mCallF 2 F__law_e_digit (mCons (mVar 0) (mCons (mCall cLen (mCons (mVar i) mNil)) mNil)))) Γ S=.ok (.str x) S':=by
  have hl:(xs.map PV.str).length=xs.length:=List.length_map _
  obtain ⟨d,S1,hd,T1,M1,e1⟩:=digit_ok T xs.length h1 (by omega)
  have hg:(xs.map PV.str)[d]?=some (.str xs[d]):=by rw [List.getElem?_map,List.getElem?_eq_getElem hd]; rfl
  refine ⟨xs[d],S1,List.getElem_mem hd,T1,M1.w,op_ok (hx S) (call_ok (n:=2) (cons_ok (hL S) (cons_ok (bi_ok (cons_ok (hx S) rfl) rfl) rfl)) rfl ?_) (ix_lst hg S1)⟩
  show F__law_e_digit [.ref L,.int ((xs.map PV.str).length:Nat)] S=_
  rw [hl]; exact e1
theorem wordS_len {x:Str} (h:wordS x=true):x.length<=1000000:=by
  unfold wordS at h
  simp only [Bool.and_eq_true,decide_eq_true_eq] at h
  omega
def LetIn (ws:List Str) (r:PV):Prop:=∀ a b c d e ls,r=.tup [a,b,c,d,e,.tup ls]->∀ l ∈ ls,∃ (h:Int) (y:Str),l=.tup [.int h,.str y]/\y ∈ ws
theorem rule_ok {ns:List Int} {S:Store} {L n:Nat} (T:TapeAt S L ns) (hn1:1<=n) (hn:n<=100) {ss ws:List Str} (s1:1<=ss.length) (s2:ss.length<=100) (s3:∀ x ∈ ss,wordS x=true) (w1:1<=ws.length) (w2:ws.length<=100) (w3:∀ x ∈ ws,LetS x) :
    ∃ (r:PV) (S':Store),ruleP n r=true/\Pl r/\LetIn ws r/\TapeAt S' L ns/\Mw L S S'/\F__law_e_rule [.ref L,.int n,strL ss,strL ws] S=.ok r S':=by
  obtain ⟨hh,S1,h1,T1,M1,e1⟩:=digit_ok T n hn1 (by omega)
  obtain ⟨st,S2,h2,T2,M2,e2⟩:=pick_ok (i:=2) T1 s1 s2 (Γ:=[some (.ref L),some (.int n),some (strL ss),some (strL ws),some (.int hh),none,none,none,none,none,none]) (fun _=>rfl) (fun _=>rfl)
  obtain ⟨wd,S3,h3,T3,M3,e3⟩:=pick_ok (i:=3) T2 w1 w2 (Γ:=[some (.ref L),some (.int n),some (strL ss),some (strL ws),some (.int hh),some (.str st),none,none,none,none,none]) (fun _=>rfl) (fun _=>rfl)
  obtain ⟨k4,S4,h4,T4,M4,e4⟩:=digit_ok T3 4 (by decide) (by decide)
  obtain ⟨ev,hev,eev⟩:∃ ev,wordS ev=true/\oIx S4 (.lst [.str "go",.str "go",.str "fall",.str wd]) (.int k4)=.ok (.str ev) S4:=by
    have:k4=0\/k4=1\/k4=2\/k4=3:=by omega
    rcases this with rfl | rfl | rfl | rfl
    · exact ⟨_,by decide +kernel,rfl⟩
    · exact ⟨_,by decide +kernel,rfl⟩
    · exact ⟨_,by decide +kernel,rfl⟩
    · exact ⟨wd,(w3 wd h3).1,rfl⟩
  obtain ⟨on,S5,h5,T5,M5,e5⟩:=pick_ok (i:=2) T4 s1 s2 (Γ:=[some (.ref L),some (.int n),some (strL ss),some (strL ws),some (.int hh),some (.str st),some (.str ev),none,none,none,none]) (fun _=>rfl) (fun _=>rfl)
  obtain ⟨k6,S6,h6,T6,M6,e6⟩:=digit_ok T5 7 (by decide) (by decide)
  obtain ⟨us,hus,eus⟩:∃ us:Int,(0<=us/\us<=9)/\oIx S6 (.lst [.int 0,.int 0,.int 0,.int 1,.int 1,.int 2,.int 9]) (.int k6)=.ok (.int us) S6:=by
    have:k6=0\/k6=1\/k6=2\/k6=3\/k6=4\/k6=5\/k6=6:=by omega
    rcases this with rfl | rfl | rfl | rfl | rfl | rfl | rfl <;> exact ⟨_,by decide,rfl⟩
  have T6':=T6.add (.lst [])
  obtain ⟨k7,S7,h7,T7,M7,e7⟩:=digit_ok T6' 6 (by decide) (by decide)
  have hM:S6.length ≠ L:=by have:=T6.lt; omega
  have hlt7:S6.length < (S6 ++ [Cell.lst []]).length:=by rw [List.length_append]; simp
  have c7:S7[S6.length]?=some (.lst []):=by rw [M7.w.keep _ hM hlt7,List.getElem?_append_right (Nat.le_refl _),Nat.sub_self]; rfl
  obtain ⟨ct,hct,ect⟩:∃ ct:Nat,ct<=8/\oIx S7 (.lst [.int 0,.int 0,.int 1,.int 2,.int 3,.int 8]) (.int k7)=.ok (.int ct) S7:=by
    have:k7=0\/k7=1\/k7=2\/k7=3\/k7=4\/k7=5:=by omega
    rcases this with rfl | rfl | rfl | rfl | rfl | rfl
    · exact ⟨0,by decide,rfl⟩
    · exact ⟨0,by decide,rfl⟩
    · exact ⟨1,by decide,rfl⟩
    · exact ⟨2,by decide,rfl⟩
    · exact ⟨3,by decide,rfl⟩
    · exact ⟨8,by decide,rfl⟩
  obtain ⟨Γ8,S8,e8,T8,M8,ls,c8,hl8,hls,t8,rfl⟩:=forG_inv (xs:=List.range ct) (fun (i:Nat)=>PV.int ((0:Int) + (i:Int)))
    (fun i Γ A=>TapeAt A L ns/\Mw L S6 A/\∃ ls:List PV,A[S6.length]?=some (.lst ls)/\ls.length=i/\(∀ l ∈ ls,(letP n l=true/\Pl l)/\∃ (h:Int) (y:Str),l=.tup [.int h,.str y]/\y ∈ ws)/\∃ t,Γ=[some (.ref L),some (.int n),some (strL ss),some (strL ws),some (.int hh),some (.str st),some (.str ev),some (.str on),some (.int us),some (.ref S6.length),t])
    (ga:=gaName 10) (body:=b__law_e_rule_1) (w:=[]) (fun _ _ A _=>wOk_nil A) (fun i x Γ A hx ⟨Ti,Mi,ls,ci,hl,hls,t,eΓ⟩=>by
      subst eΓ
      obtain ⟨d,A1,hd,TA,MA,ea⟩:=digit_ok Ti n hn1 (by omega)
      obtain ⟨y,A2,hy,TB,MB,eb⟩:=pick_ok (i:=3) TA w1 w2 (Γ:=[some (.ref L),some (.int n),some (strL ss),some (strL ws),some (.int hh),some (.str st),some (.str ev),some (.str on),some (.int us),some (.ref S6.length),some (.int ((0:Int) + (x:Int)))]) (fun _=>rfl) (fun _=>rfl)
      have hMi:S6.length < A.length:=(List.getElem?_eq_some_iff.mp ci).1
      have hMa:S6.length < A1.length:=Nat.lt_of_lt_of_le hMi MA.w.len
      have c2:A2[S6.length]?=some (.lst ls):=by rw [MB.keep _ hM hMa,MA.w.keep _ hM hMi]; exact ci
      have hM2:S6.length < A2.length:=(List.getElem?_eq_some_iff.mp c2).1
      have hx8:i < ct:=by have:=(List.getElem?_eq_some_iff.mp hx).1; rwa [List.length_range] at this
      refine ⟨_,rfl,_,A2.set S6.length (.lst (ls ++ [.tup [.int d,.str y]])),app_ok (xs:=ls) rfl (by show (match A[S6.length]? with | some (.lst xs)=>some xs | _=>none)=_; rw [ci]) (cons_ok (tup_ok (cons_ok (call_ok (n:=2) rfl rfl ea) (cons_ok eb rfl)) (by simp)) rfl) (app_lst c2 (by omega) _),TB.put hM _,⟨?_,fun t h1 h2=>?_⟩,ls ++ [.tup [.int d,.str y]],?_,by rw [List.length_append,hl]; rfl,fun l hm=>?_,_,rfl⟩
      · rw [List.length_set]; exact Nat.le_trans Mi.len (Nat.le_trans MA.w.len MB.len)
      · rw [List.getElem?_set_ne (by omega)]
        exact ((Mi.trans MA.w).trans MB).keep t h1 h2
      · rw [List.getElem?_set_self hM2]
      · rcases List.mem_append.mp hm with hm | hm
        · exact hls l hm
        · have:l=.tup [.int d,.str y]:=by simpa using hm
          subst this
          obtain ⟨y1,y2⟩:=w3 y hy
          refine ⟨⟨?_,trivial,wordS_len y1,trivial⟩,d,y,rfl,hy⟩
          show (decide ((0:Int)<=d) && decide ((d:Int)<=n - 1) && (wordS y && !hasS ["go", "fall"] y))=true
          rw [y1,y2]
          simp
          omega)
    (Γ:=[some (.ref L),some (.int n),some (strL ss),some (strL ws),some (.int hh),some (.str st),some (.str ev),some (.str on),some (.int us),some (.ref S6.length),none]) (st:=S7)
    ⟨T7,(Mw.add L S6 _).trans M7.w,[],c7,rfl,fun l hl=>(nomatch hl),none,rfl⟩
  rw [List.length_range] at hl8
  refine ⟨.tup [.int hh,.str st,.str ev,.str on,.int us,.tup ls],S8,?_,?_,?_,T8,((((M1.w.trans M2).trans M3).trans M4.w).trans M5).trans (M6.w.trans M8),callK_rt ?_⟩
  · show (decide ((0:Int)<=hh) && decide ((hh:Int)<=n - 1) && (wordS st && (wordS ev && wordS on)) && (decide ((0:Int)<=us) && decide (us<=9) && (decide ((ls.length:Int)<=8) && ls.all (letP n))))=true
    rw [s3 st h2,hev,s3 on h5]
    simp only [Bool.and_eq_true,decide_eq_true_eq,List.all_eq_true]
    exact ⟨⟨⟨by omega,by omega⟩,trivial,trivial,trivial⟩,hus,by omega,fun l hl=>(hls l hl).1.1⟩
  · exact ⟨trivial,wordS_len (s3 st h2),wordS_len hev,wordS_len (s3 on h5),trivial,PlL.of fun l hl=>(hls l hl).1.2,trivial⟩
  · intro a b c d e ls' eq l hl
    cases eq
    exact (hls l hl).2
  · show m__law_e_rule [some (.ref L),some (.int n),some (strL ss),some (strL ws),none,none,none,none,none,none,none] S=_
    have hct:cTuple S8 [.ref S6.length]=.ok (.tup ls) S8:=by
      show (match (match S8[S6.length]? with | some (.lst xs)=>some xs | _=>none) with | some xs=>Res.ok (PV.tup xs) S8 | none=>.stuck)=_
      rw [c8]
    exact seq_nx (set_ok (call_ok (n:=2) rfl rfl e1)) (seq_nx (set_ok e2) (seq_nx (set_ok (op_ok (bi_lst (cons_ok rfl (cons_ok rfl (cons_ok rfl (cons_ok e3 rfl)))) (by simp)) (call_ok (n:=2) rfl rfl e4) eev)) (seq_nx (set_ok e5) (seq_nx (set_ok (op_ok rfl (call_ok (n:=2) rfl rfl e6) eus)) (seq_nx (set_ok (trk_ok rfl)) (seq_nx (for_ok (rgw (n:=ct) (by omega) (op_ok rfl (call_ok (n:=2) rfl rfl e7) ect)) e8) (ret_ok (tup_ok (cons_ok rfl (cons_ok rfl (cons_ok rfl (cons_ok rfl (cons_ok rfl (cons_ok (bi_ok rfl hct) rfl)))))) (by simp)))))))))
theorem mDPutT_ok {mo mi m:ME} {Γ:Gam} {S S1 S2 S3 S4:Store} {v p q:PV} (h1:m Γ S=.ok v S1) (h2:mo Γ S1=.ok p S2) (h3:mi Γ S2=.ok q S3) (h4:dputT S3 p q v=some S4):mDPutT mo mi m Γ S=.nx Γ S4:=by
  unfold mDPutT
  rw [h1]
  show (mo Γ S1).sbind _=_
  rw [h2]
  show (mi Γ S2).sbind _=_
  rw [h3]
  show (match dputT S3 p q v with | some st4=>SR.nx Γ st4 | none=>.stuck)=_
  rw [h4]
def encK (ks:List HK):List (HK × PV):=ks.map fun k=>(k,.bl true)
theorem put_encK (ks:List HK) (k:HK):Sm.putT (encK ks) k (.bl true)=encK (addK ks k):=by
  unfold Sm.putT addK
  by_cases q:k ∈ ks
  · rw [if_pos q,if_pos]
    · unfold encK
      rw [List.map_map]
      refine List.map_congr_left fun x _=>?_
      show (if x=k then (x,PV.bl true) else (x,PV.bl true))=_
      split <;> rfl
    · unfold encK
      rw [List.any_map,List.any_eq_true]
      exact ⟨k,q,by simp⟩
  · rw [if_neg q,if_neg]
    · unfold encK; rw [List.map_append]; rfl
    · unfold encK
      rw [List.any_map,List.any_eq_true]
      rintro ⟨x,hx,e⟩
      have:x=k:=by simpa using e
      rw [this] at hx; exact q hx
theorem dput_encK {S:Store} {D:Nat} {ks:List HK} (h:S[D]?=some (.dtp (encK ks))) (hl:ks.length < 1000000) {p:PV} {k:HK} (hk:keyN p=some k):dputT S (.ref D) p (.bl true)=some (S.set D (.dtp (encK (addK ks k)))):=by
  have hd:dtpOf S (.ref D)=some (encK ks):=by show (match S[D]? with | some (.dtp kvs)=>some kvs | _=>none)=_; rw [h]
  unfold dputT
  simp only [hd,hk]
  rw [if_pos (by unfold encK; rw [List.length_map]; exact hl),put_encK]
theorem addK_nodup {ks:List HK} (h:ks.Nodup) (k:HK):(addK ks k).Nodup:=by
  unfold addK
  split
  · exact h
  · rename_i q
    exact List.nodup_append.mpr ⟨h,by simp,fun x hx y hy e=>by
      have:y=k:=by simpa using hy
      rw [e,this] at hx; exact q hx⟩
theorem metK_nodup:∀ {ks acc:List HK},(acc ++ ks).Nodup->ks.foldl addK acc=acc ++ ks
  | [],acc,_=>by simp
  | k :: ks,acc,h=>by
    rw [List.foldl_cons]
    have hn:k ∉ acc:=fun hm=>(List.nodup_append.mp h).2.2 k hm k (by simp) rfl
    have e:addK acc k=acc ++ [k]:=by unfold addK; rw [if_neg hn]
    rw [e,metK_nodup (by rw [List.append_assoc]; exact h)]
    simp
theorem metK_of {ks:List HK} (h:ks.Nodup):metK ks=ks:=by
  have:=metK_nodup (ks:=ks) (acc:=[]) (by simpa using h)
  simpa [metK] using this
mutual
theorem hkV_of:∀ {d:Nat} {p:PV} {k:HK},hkOf d p=some k->hkV k=p
  | _,.int i,_,e=>by cases hh:(‹Nat›) <;> (rw [hh] at e; cases e; rfl)
  | _,.str x,_,e=>by cases hh:(‹Nat›) <;> (rw [hh] at e; cases e; rfl)
  | 0,.tup ps,_,e=>by cases e
  | d + 1,.tup ps,k,e=>by
    have e:(mapO (hkOf d) ps).map HK.tup=some k:=e
    cases z:mapO (hkOf d) ps with
    | none=>rw [z] at e; cases e
    | some l=>
      rw [z] at e
      cases e
      show PV.tup (hkVL l)=_
      rw [hkVL_of z]
  | 0,.non,_,e=>by cases e
  | 0,.bl _,_,e=>by cases e
  | 0,.lst _,_,e=>by cases e
  | 0,.fro _,_,e=>by cases e
  | 0,.ref _,_,e=>by cases e
  | 0,.dic,_,e=>by cases e
  | _ + 1,.non,_,e=>by cases e
  | _ + 1,.bl _,_,e=>by cases e
  | _ + 1,.lst _,_,e=>by cases e
  | _ + 1,.fro _,_,e=>by cases e
  | _ + 1,.ref _,_,e=>by cases e
  | _ + 1,.dic,_,e=>by cases e
theorem hkVL_of:∀ {d:Nat} {ps:List PV} {l:List HK},mapO (hkOf d) ps=some l->hkVL l=ps
  | _,[],_,e=>by cases e; rfl
  | d,p :: ps,l,e=>by
    unfold mapO at e
    split at e
    · rename_i k l' e1 e2
      cases e
      show hkV k :: hkVL l'=_
      rw [hkV_of e1,hkVL_of e2]
    · cases e
end
theorem keyV {p:PV} {k:HK} (h:keyN p=some k):hkV k=p:=by
  cases p with
  | tup ps=>exact hkV_of (d:=5) h
  | _=>cases h
structure Man (most:Int) (starts:List Str) (rules:List PV):Prop where
  m0:0<=most
  m1:most<=20
  s1:1<=starts.length
  s4:starts.length<=4
  sw:∀ x ∈ starts,wordS x=true
  r:rules.all (ruleP starts.length)=true
  pl:∀ p ∈ rules,Pl p
  len:rules.length<=9
  ks:∃ ks,mapO keyN rules=some ks/\ks.Nodup
  ws:∃ ws:List Str,ws.length<=2/\∀ p ∈ rules,LetIn ws p
def manV (most:Int) (starts:List Str) (rules:List PV):PV:=.tup [.int most,.tup (starts.map .str),.tup rules]
theorem names_ok {ns:List Int} {S:Store} {L i:Nat} {P:Str->Prop} {F:FN} (hF:∀ {S:Store},TapeAt S L ns->∃ (x:Str) (S':Store),P x/\TapeAt S' L ns/\Mw L S S'/\F [.ref L] S=.ok (.str x) S') (T:TapeAt S L ns) {m:Nat} (hm:m<=100) {Γ:Gam} (hG:capG [none,some 0] Γ=[none,some (.ref L)]) (hv:mVar i Γ S=.ok (.int m) S) :
    ∃ (xs:List Str) (S':Store),xs.length=m/\(∀ x ∈ xs,P x)/\TapeAt S' L ns/\Mw L S S'/\mVal (mCompN [none,some 0] (gaName 0) (mRange1 (mCons (mVar i) mNil)) mTrue (mCallF 1 F (mCons (mVar 1) mNil))) Γ S=.ok (strL xs) S':=by
  obtain ⟨out,S3,ec,T3,M3,xs,hcl,rfl,hcs⟩:=compG_inv (xs:=List.range m) (fun (i:Nat)=>PV.int ((0:Int) + (i:Int))) (fun i out st=>TapeAt st L ns/\Mw L S st/\∃ xs:List Str,xs.length=i/\out=xs.map PV.str/\∀ x ∈ xs,P x) (ga:=gaName 0) (me:=mCallF 1 F (mCons (mVar 1) mNil)) (w:=[]) (Γ0:=[none,some (.ref L)]) (fun _ _ st _=>wOk_nil st)
    (fun i x out st _ ⟨Ti,Mi,xs,h1,h2,h3⟩=>by
      obtain ⟨y,S4,hy,T4,M4,e4⟩:=hF Ti
      refine ⟨_,rfl,.str y,S4,call_ok (n:=1) rfl rfl e4,T4,Mi.trans M4,xs ++ [y],by rw [List.length_append,h1]; rfl,by rw [h2,List.map_append]; rfl,fun z hz=>?_⟩
      rcases List.mem_append.mp hz with hz | hz
      · exact h3 z hz
      · have:z=y:=by simpa using hz
        rw [this]; exact hy)
    ⟨T,Mw.refl L S,[],rfl,rfl,fun c hc=>nomatch hc⟩
  rw [List.length_range] at hcl
  exact ⟨xs,S3,hcl,hcs,T3,M3,val_ok (comp_ok (rgw (n:=m) (by omega) hv) (by rw [hG]; exact ec))⟩
theorem sizes_ok {k:Nat} (hk:k < 5) (S:Store):∃ n m w t:Nat,(1<=n/\n<=4/\1<=m/\m<=3/\1<=w/\w<=2/\1<=t/\t<=21) /\
    oIx S (.lst [.tup [.int 2,.int 3,.int 2,.int 4],.tup [.int 3,.int 2,.int 1,.int 4],.tup [.int 1,.int 2,.int 1,.int 21],.tup [.int 2,.int 2,.int 1,.int 21],.tup [.int 4,.int 2,.int 1,.int 2]]) (.int k)=.ok (.tup [.int n,.int m,.int w,.int t]) S:=by
  have:k=0\/k=1\/k=2\/k=3\/k=4:=by omega
  rcases this with rfl | rfl | rfl | rfl | rfl
  · exact ⟨2,3,2,4,by decide,rfl⟩
  · exact ⟨3,2,1,4,by decide,rfl⟩
  · exact ⟨1,2,1,21,by decide,rfl⟩
  · exact ⟨2,2,1,21,by decide,rfl⟩
  · exact ⟨4,2,1,2,by decide,rfl⟩
theorem mapO_keys {n:Int} {ws:List Str}:∀ {ks:List HK},(∀ k ∈ ks,∃ p,keyN p=some k/\ruleP n p=true/\Pl p/\LetIn ws p)->mapO keyN (ks.map hkV)=some ks/\(ks.map hkV).all (ruleP n)=true/\∀ p ∈ ks.map hkV,Pl p/\LetIn ws p
  | [],_=>⟨rfl,rfl,fun p h=>nomatch h⟩
  | k :: ks,h=>by
    obtain ⟨p,h1,h2,h3⟩:=h k (by simp)
    obtain ⟨a,b,c⟩:=mapO_keys fun x hx=>h x (List.mem_cons_of_mem _ hx)
    have e:=keyV h1
    refine ⟨?_,?_,fun q hq=>?_⟩
    · rw [List.map_cons,e]
      unfold mapO
      rw [h1,a]
    · rw [List.map_cons,List.all_cons,e,h2,b]; rfl
    · rw [List.map_cons,e] at hq
      rcases List.mem_cons.mp hq with rfl | hq
      · exact h3
      · exact c q hq
theorem manner_ok {ns:List Int} {S:Store} {L:Nat} (T:TapeAt S L ns):∃ (most:Int) (starts:List Str) (rules:List PV) (S':Store),Man most starts rules/\TapeAt S' L ns/\Mw L S S'/\F__law_e_manner [.ref L] S=.ok (manV most starts rules) S':=by
  obtain ⟨k,S1,hk,T1,M1,e1⟩:=digit_ok T 5 (by decide) (by decide)
  obtain ⟨n,m,w,t,⟨n1,n4,m1,m3,w1,w2,t1,t2⟩,es⟩:=sizes_ok hk S1
  generalize hsz:PV.lst [.tup [.int 2,.int 3,.int 2,.int 4],.tup [.int 3,.int 2,.int 1,.int 4],.tup [.int 1,.int 2,.int 1,.int 21],.tup [.int 2,.int 2,.int 1,.int 21],.tup [.int 4,.int 2,.int 1,.int 2]]=sz at es
  obtain ⟨ss,S2,hsl,hss,T2,M2,e2⟩:=names_ok (i:=3) name_ok T1 (m:=m) (by omega) (Γ:=[some (.ref L),some sz,some (.int n),some (.int m),some (.int w),some (.int t),none,none,none,none,none]) rfl rfl
  obtain ⟨ws,S3,hwl,hws,T3,M3,e3⟩:=names_ok (i:=4) letter_name_ok T2 (m:=w) (by omega) (Γ:=[some (.ref L),some sz,some (.int n),some (.int m),some (.int w),some (.int t),some (strL ss),none,none,none,none]) rfl rfl
  have T3':=T3.add (.dtp [])
  obtain ⟨k4,S4,h4,T4,M4,e4⟩:=digit_ok T3' 10 (by decide) (by decide)
  have hM:S3.length ≠ L:=by have:=T3.lt; omega
  have c4:S4[S3.length]?=some (.dtp (encK [])):=by rw [M4.w.keep _ hM (by rw [List.length_append]; simp),List.getElem?_append_right (Nat.le_refl _),Nat.sub_self]; rfl
  obtain ⟨Γ5,S5,e5,T5,M5,ks,c5,hl5,nd5,hks,t5,rfl⟩:=forG_inv (xs:=List.range k4) (fun (i:Nat)=>PV.int ((0:Int) + (i:Int)))
    (fun i Γ A=>TapeAt A L ns/\Mw L S3 A/\∃ ks:List HK,A[S3.length]?=some (.dtp (encK ks))/\ks.length<=i/\ks.Nodup/\(∀ k ∈ ks,∃ p,keyN p=some k/\ruleP n p=true/\Pl p/\LetIn ws p)/\∃ u,Γ=[some (.ref L),some sz,some (.int n),some (.int m),some (.int w),some (.int t),some (strL ss),some (strL ws),some (.ref S3.length),u,none])
    (ga:=gaName 9) (body:=b__law_e_manner_1) (w:=[]) (fun _ _ A _=>wOk_nil A) (fun i x Γ A hx ⟨Ti,Mi,ks,ci,hl,nd,hks,u,eΓ⟩=>by
      subst eΓ
      obtain ⟨p,A1,hp,pp,pw,TA,MA,ea⟩:=rule_ok Ti n1 (by omega) (by omega) (by omega) hss (by omega) (by omega) hws
      obtain ⟨k,hk⟩:=ruleP_key hp
      have hMi:S3.length < A.length:=(List.getElem?_eq_some_iff.mp ci).1
      have c2:A1[S3.length]?=some (.dtp (encK ks)):=by rw [MA.keep _ hM hMi]; exact ci
      have hM2:S3.length < A1.length:=(List.getElem?_eq_some_iff.mp c2).1
      have hx8:i < k4:=by have:=(List.getElem?_eq_some_iff.mp hx).1; rwa [List.length_range] at this
      refine ⟨_,rfl,_,A1.set S3.length (.dtp (encK (addK ks k))),mDPutT_ok rfl rfl (call_ok (n:=4) rfl rfl ea) (dput_encK c2 (by omega) hk),TA.put hM _,⟨?_,fun t h1 h2=>?_⟩,addK ks k,?_,?_,addK_nodup nd k,fun y hy=>?_,_,rfl⟩
      · rw [List.length_set]; exact Nat.le_trans Mi.len MA.len
      · rw [List.getElem?_set_ne (by omega)]
        exact (Mi.trans MA).keep t h1 h2
      · rw [List.getElem?_set_self hM2]
      · have:(addK ks k).length<=ks.length + 1:=by unfold addK; split <;> simp
        omega
      · unfold addK at hy
        split at hy
        · exact hks y hy
        · rcases List.mem_append.mp hy with hy | hy
          · exact hks y hy
          · have:y=k:=by simpa using hy
            rw [this]; exact ⟨p,hk,hp,pp,pw⟩)
    (Γ:=[some (.ref L),some sz,some (.int n),some (.int m),some (.int w),some (.int t),some (strL ss),some (strL ws),some (.ref S3.length),none,none]) (st:=S4)
    ⟨T4,(Mw.add L S3 _).trans M4.w,[],c4,Nat.le_refl _,List.nodup_nil,fun k hk=>(nomatch hk),none,rfl⟩
  rw [List.length_range] at hl5
  obtain ⟨out,S6,e6,T6,M6,xs,hxl,rfl,hxs⟩:=compG_inv (xs:=List.range n) (fun (i:Nat)=>PV.int ((0:Int) + (i:Int))) (fun i out A=>TapeAt A L ns/\Mw L S5 A/\∃ xs:List Str,xs.length=i/\out=xs.map PV.str/\∀ x ∈ xs,wordS x=true) (ga:=gaName 0) (me:=e__law_e_manner_3) (w:=[]) (Γ0:=[none,some (strL ss),some (.ref L),some (.int m)]) (fun _ _ A _=>wOk_nil A)
    (fun i x out A _ ⟨Ti,Mi,xs,h1,h2,h3⟩=>by
      obtain ⟨d,A1,hd,TA,MA,ea⟩:=digit_ok Ti m m1 (by omega)
      have hd':d < ss.length:=by omega
      have hg:(ss.map PV.str)[d]?=some (.str ss[d]):=by rw [List.getElem?_map,List.getElem?_eq_getElem hd']; rfl
      refine ⟨_,rfl,.str ss[d],A1,op_ok rfl (call_ok (n:=2) rfl rfl ea) (ix_lst hg A1),TA,Mi.trans MA.w,xs ++ [ss[d]],by rw [List.length_append,h1]; rfl,by rw [h2,List.map_append]; rfl,fun z hz=>?_⟩
      rcases List.mem_append.mp hz with hz | hz
      · exact h3 z hz
      · have:z=ss[d]:=by simpa using hz
        rw [this]; exact hss _ (List.getElem_mem hd'))
    ⟨T5,Mw.refl L S5,[],rfl,rfl,fun c hc=>(nomatch hc)⟩
  rw [List.length_range] at hxl
  obtain ⟨mo,S7,hmo,T7,M7,e7⟩:=digit_ok T6 t t1 (by omega)
  have hMi:S3.length < S5.length:=(List.getElem?_eq_some_iff.mp c5).1
  have c6:S6[S3.length]?=some (.dtp (encK ks)):=by rw [M6.keep _ hM hMi]; exact c5
  have c7:S7[S3.length]?=some (.dtp (encK ks)):=by rw [M7.keep _ hM]; exact c6
  obtain ⟨q1,q2,q3⟩:=mapO_keys hks
  have hn:(n:Int)=(xs.length:Int):=by omega
  refine ⟨mo,xs,ks.map hkV,S7,⟨by omega,by omega,by omega,by omega,hxs,by rw [<- hn]; exact q2,fun p hp=>(q3 p hp).1,by rw [List.length_map]; omega,⟨ks,q1,nd5⟩,ws,by omega,fun p hp=>(q3 p hp).2⟩,T7,((M1.w.trans M2).trans M3).trans (M5.trans (M6.trans M7.w)),callK_rt ?_⟩
  show m__law_e_manner [some (.ref L),none,none,none,none,none,none,none,none,none,none] S=_
  have hld:mCall cListD (mCons (mVar 8) mNil) [some (.ref L),some sz,some (.int n),some (.int m),some (.int w),some (.int t),some (strL ss),some (strL ws),some (.ref S3.length),t5,some (.tup (xs.map .str))] S7=.ok (.lst (ks.map hkV)) S7:=by
    refine bi_ok rfl ?_
    have hd:dtpOf S7 (.ref S3.length)=some (encK ks):=by show (match S7[S3.length]? with | some (.dtp kvs)=>some kvs | _=>none)=_; rw [c7]
    show (match dtpOf S7 (.ref S3.length) with | some kvs=>Res.ok (PV.lst (kvs.map fun (kv:HK × PV)=>hkV kv.1)) S7 | none=>.stuck)=_
    rw [hd]
    show Res.ok (PV.lst ((encK ks).map fun (kv:HK × PV)=>hkV kv.1)) S7=_
    unfold encK
    rw [List.map_map]
    rfl
  subst hsz
  exact seq_nx (set_ok rfl) (seq_nx (asg_ok (op_ok rfl (call_ok (n:=2) rfl rfl e1) es) rfl) (seq_nx (set_ok e2) (seq_nx (set_ok e3) (seq_nx (set_ok rfl) (seq_nx (for_ok (rgw (n:=k4) (by omega) (call_ok (n:=2) rfl rfl e4)) e5) (seq_nx (set_ok (bi_ok (cons_ok (val_ok (comp_ok (rgw (n:=n) (by omega) rfl) e6)) rfl) rfl)) (ret_ok (tup_ok (cons_ok (call_ok (n:=2) rfl rfl e7) (cons_ok rfl (cons_ok (bi_ok (cons_ok hld rfl) rfl) rfl))) (by simp)))))))))
theorem man_pl {most:Int} {starts:List Str} {rules:List PV} (h:Man most starts rules):Pl (manV most starts rules):=⟨trivial,PlL.of fun p hp=>by
  obtain ⟨x,hx,rfl⟩:=List.mem_map.mp hp
  exact wordS_len (h.sw x hx),PlL.of h.pl,trivial⟩
theorem all_words {xs:List Str} (h:∀ x ∈ xs,wordS x=true):(xs.map PV.str).all wordP=true:=by
  rw [List.all_map,List.all_eq_true]
  exact h
theorem man_is {most:Int} {starts:List Str} {rules:List PV} (h:Man most starts rules):mannerP (manV most starts rules)=true:=by
  obtain ⟨ks,k1,k2⟩:=h.ks
  have hl:(starts.map PV.str).length=starts.length:=List.length_map _
  show (decide ((0:Int)<=most) && decide (most<=20) && ((decide ((1:Int)<=(starts.map PV.str).length) && decide (((starts.map PV.str).length:Int)<=4) && (starts.map PV.str).all wordP) && (decide ((rules.length:Int)<=60) && rules.all (ruleP (starts.map PV.str).length) && distP rules)))=true
  have hd:distP rules=true:=by
    unfold distP
    rw [k1]
    show decide ((metK ks).length=rules.length)=true
    rw [metK_of k2]
    obtain ⟨ks',e1,e2⟩:=keys_of h.r
    rw [k1] at e1
    cases e1
    exact decide_eq_true e2
  have:=h.m0
  have:=h.m1
  have:=h.s1
  have:=h.s4
  have:=h.len
  rw [hl,all_words h.sw,h.r,hd]
  simp
  omega
structure Ru where
  h:Nat
  s:Str
  e:Str
  t:Str
  u:Int
  ms:List (Int × Str)
def ruV (r:Ru):PV:=.tup [.int r.h,.str r.s,.str r.e,.str r.t,.int r.u,.tup (r.ms.map prV)]
def stV (ss:List Str) (ls:List (Int × Str)) (u:Int):PV:=.tup [.tup (ss.map .str),.tup (ls.map prV),.int u]
def kP (p:Int × Str):HK:=.tup [.int p.1,.str p.2]
theorem kP_inj {p q:Int × Str} (h:kP p=kP q):p=q:=by
  unfold kP at h
  injection h with h
  injection h with h1 h
  injection h with h2 _
  injection h1 with h1
  injection h2 with h2
  exact Prod.ext h1 h2
def evB (e:Str):Bool:=decide (e = "go") || decide (e = "fall")
def fitB (r:Ru) (ss:List Str) (ls:List (Int × Str)):Bool:=decide (ss.getD r.h Str.empty=r.s) && (evB r.e || decide (((r.h:Int),r.e) ∈ ls))
theorem ixs {ss:List Str} {h:Nat} (hh:h < ss.length) (S:Store):oIx S (.tup (ss.map .str)) (.int h)=.ok (.str (ss.getD h Str.empty)) S:=by
  refine ix_tup ?_ S
  rw [List.getElem?_map,List.getD_eq_getElem?_getD,List.getElem?_eq_getElem hh]
  rfl
theorem nes (S:Store) (a b:Str):oNe S (.str a) (.str b)=.ok (.bl (!decide (a=b))) S:=by
  show Res.ok (PV.bl (!(a == b))) S=_
  by_cases q:a=b
  · rw [decide_eq_true q,beq_iff_eq.mpr q]
  · rw [decide_eq_false q,beq_eq_false_iff_ne.mpr q]
theorem eqs (S:Store) (a b:Str):oEq S (.str a) (.str b)=.ok (.bl (decide (a=b))) S:=by
  show Res.ok (PV.bl (a == b)) S=_
  by_cases q:a=b
  · rw [decide_eq_true q,beq_iff_eq.mpr q]
  · rw [decide_eq_false q,beq_eq_false_iff_ne.mpr q]
theorem pr_eq (p q:Int × Str):peq (prV p) (prV q)=decide (p=q):=by
  show ((p.1 == q.1) && ((p.2 == q.2) && true))=_
  by_cases e:p=q
  · subst e; simp
  · rw [decide_eq_false e]
    by_cases e1:p.1=q.1
    · by_cases e2:p.2=q.2
      · exact absurd (Prod.ext e1 e2) e
      · simp [e2]
    · simp [e1]
theorem in_prs (ls:List (Int × Str)) (p:Int × Str) (S:Store):oIn false S (prV p) (.tup (ls.map prV))=.ok (.bl (decide (p ∈ ls))) S:=by
  show (if good dep (prV p)=true/\(ls.map prV).all (good dep)=true then Res.ok (PV.bl (((ls.map prV).any fun y=>peq y (prV p)) != false)) S else .stuck)=_
  rw [if_pos ⟨rfl,by rw [List.all_map,List.all_eq_true]; exact fun _ _=>rfl⟩]
  have:((ls.map prV).any fun y=>peq y (prV p))=decide (p ∈ ls):=by
    rw [List.any_map]
    by_cases q:p ∈ ls
    · rw [decide_eq_true q,List.any_eq_true]
      exact ⟨p,q,by show peq (prV p) (prV p)=true; rw [pr_eq]; simp⟩
    · rw [decide_eq_false q,List.any_eq_false]
      intro x hx
      show ¬ peq (prV x) (prV p)=true
      rw [pr_eq]
      intro e
      have e:x=p:=by simpa using e
      rw [e] at hx; exact q hx
  rw [this,Bool.bne_false]
theorem and_eq {a b:ME} {Γ:Gam} {S:Store} {x:Bool} {r:Res PV} (h:a Γ S=.ok (.bl x) S) (h2:x=true->b Γ S=r) (h3:x=false->r=.ok (.bl false) S):mAnd a b Γ S=r:=by
  rw [mAnd_eq,h,bind_ok]
  cases x with
  | true=>exact h2 rfl
  | false=>rw [h3 rfl]; rfl
theorem or_eq {a b:ME} {Γ:Gam} {S:Store} {x y:Bool} (h:a Γ S=.ok (.bl x) S) (h2:b Γ S=.ok (.bl y) S):mOr a b Γ S=.ok (.bl (x || y)) S:=by
  rw [mOr_eq,h,bind_ok]
  cases x with
  | true=>rfl
  | false=>exact h2
theorem fits_ok (r:Ru) {ss:List Str} (hh:r.h < ss.length) (ls:List (Int × Str)) (u:Int) (S:Store):F__law_e_fits [ruV r,stV ss ls u] S=.ok (.bl (fitB r ss ls)) S:=by
  refine ret_bl ?_
  show m__law_e_fits [some (ruV r),some (stV ss ls u)] S=_
  have h1:=ixs hh S
  have hne:=nes S (ss.getD r.h Str.empty) r.s
  unfold m__law_e_fits
  by_cases q:ss.getD r.h Str.empty=r.s
  · rw [decide_eq_true q] at hne
    have hf:fitB r ss ls=(decide (r.e = "go") || (decide (r.e = "fall") || decide (((r.h:Int),r.e) ∈ ls))):=by
      unfold fitB evB; rw [decide_eq_true q,Bool.true_and,Bool.or_assoc]
    rw [hf]
    exact seq_nx (if_f (tb_ok (op_ok (op_ok rfl rfl h1) rfl hne)) rfl) (ret_ok (or_eq (op_ok rfl rfl (eqs S r.e "go")) (or_eq (op_ok rfl rfl (eqs S r.e "fall")) (op_ok rfl rfl (in_prs ls ((r.h:Int),r.e) S)))))
  · rw [decide_eq_false q] at hne
    have hf:fitB r ss ls=false:=by unfold fitB; rw [decide_eq_false q,Bool.false_and]
    rw [hf]
    exact seq_rt (if_t (tb_ok (op_ok (op_ok rfl rfl h1) rfl hne)) rfl)
theorem val_encK (ks:List HK) (k:HK):(valT (encK ks) k).isSome=decide (k ∈ ks):=by
  unfold valT encK
  rw [Option.isSome_map]
  by_cases q:k ∈ ks
  · rw [decide_eq_true q,List.find?_isSome]
    exact ⟨(k,.bl true),List.mem_map.mpr ⟨k,q,rfl⟩,by simp⟩
  · rw [decide_eq_false q]
    cases z:List.find? (fun kv=>decide (kv.1=k)) (ks.map fun k=>(k,PV.bl true)) with
    | none=>rfl
    | some x=>
      have h1:=List.mem_of_find?_eq_some z
      have h2:=List.find?_some z
      obtain ⟨y,hy,rfl⟩:=List.mem_map.mp h1
      have:y=k:=by simpa using h2
      rw [this] at hy; exact absurd hy q
theorem may_ok (r:Ru) {ss:List Str} (hh:r.h < ss.length) {ks:List HK} {S:Store} {i j:Nat} (hi:S[i]?=some (.lst (ss.map .str))) (hj:S[j]?=some (.dtp (encK ks))) :
    F_may_be_done [ruV r,.tup [.ref i,.ref j]] S=.ok (.bl (decide (ss.getD r.h Str.empty=r.s) && (evB r.e || decide (kP ((r.h:Int),r.e) ∈ ks)))) S:=by
  refine ret_bl ?_
  show m_may_be_done [some (ruV r),some (.tup [.ref i,.ref j])] S=_
  have hV:ListAt S (.ref i) (ss.map .str):=.inr (.inr ⟨i,rfl,hi⟩)
  have h1:oIx S (.ref i) (.int r.h)=.ok (.str (ss.getD r.h Str.empty)) S:=by
    rw [hV.ix]
    exact ixs hh S
  have hne:=nes S (ss.getD r.h Str.empty) r.s
  have hd:dtpOf S (.ref j)=some (encK ks):=by show (match S[j]? with | some (.dtp kvs)=>some kvs | _=>none)=_; rw [hj]
  have hin:oInT false S (.tup [.int r.h,.str r.e]) (.ref j)=.ok (.bl (decide (kP ((r.h:Int),r.e) ∈ ks))) S:=by
    unfold oInT
    rw [hd,show keyN (.tup [.int r.h,.str r.e])=some (kP ((r.h:Int),r.e)) from rfl]
    show Res.ok (PV.bl ((valT (encK ks) _).isSome != false)) S=_
    rw [val_encK,Bool.bne_false]
  have hev:mInG false ["go", "fall"] (mOp oIx (mVar 0) (mC (.int 2))) [some (ruV r),some (.tup [.ref i,.ref j])] S=.ok (.bl (evB r.e)) S:=by
    rw [inG_ok (x:=r.e) (S1:=S) rfl]
    congr 2
    rw [Bool.bne_false]
    show (decide ("go" = r.e) || (decide ("fall" = r.e) || false))=_
    unfold evB
    rw [Bool.or_false]
    congr 1 <;> exact decide_eq_decide.mpr eq_comm
  unfold m_may_be_done
  by_cases q:ss.getD r.h Str.empty=r.s
  · rw [decide_eq_true q] at hne ⊢
    rw [Bool.true_and]
    exact seq_nx (if_f (tb_ok (op_ok (op_ok (op_ok rfl rfl rfl) rfl h1) rfl hne)) rfl) (ret_ok (or_eq hev (op_ok rfl rfl hin)))
  · rw [decide_eq_false q] at hne ⊢
    rw [Bool.false_and]
    exact seq_rt (if_t (tb_ok (op_ok (op_ok (op_ok rfl rfl rfl) rfl h1) rfl hne)) rfl)
theorem last_at (S:Store) (c:Cell):(S ++ [c])[S.length]?=some c:=by rw [List.getElem?_append_right (Nat.le_refl _),Nat.sub_self]; rfl
theorem addl (S:Store) {a b:List PV} (h:a.length + b.length<=1000000):oAdd S (.lst a) (.lst b)=.ok (.lst (a ++ b)) S:=if_pos (show _<=lim from h)
theorem addt (S:Store) {a b:List PV} (h:a.length + b.length<=1000000):oAdd S (.tup a) (.tup b)=.ok (.tup (a ++ b)) S:=if_pos (show _<=lim from h)
theorem set_lst {S:Store} {n k:Nat} {xs:List PV} (h:S[n]?=some (.lst xs)) (hk:k < xs.length) (v:PV):setIx S (.ref n) (.int k) v=some (S.set n (.lst (xs.set k v))):=by
  unfold setIx
  simp only [h]
  rw [ixN_nat hk]
  rfl
theorem add_map (acc:List (Int × Str)) (p:Int × Str):addK (acc.map kP) (kP p)=(addK acc p).map kP:=by
  unfold addK
  by_cases q:p ∈ acc
  · rw [if_pos q,if_pos (List.mem_map.mpr ⟨p,q,rfl⟩)]
  · rw [if_neg q,if_neg,List.map_append]
    · rfl
    · intro h
      obtain ⟨x,hx,e⟩:=List.mem_map.mp h
      rw [kP_inj e] at hx; exact q hx
theorem addK_len {α:Type} [DecidableEq α] (acc:List α) (p:α):(addK acc p).length<=acc.length + 1:=by unfold addK; split <;> simp
theorem step_loop {D:Nat} {x0 x1 x2:Option PV}:∀ (ps acc:List (Int × Str)) (S:Store) (a:Option PV),S[D]?=some (.dtp (encK (acc.map kP)))->acc.length + ps.length < 1000 ->
    ∃ a',forG (gaName 4) b__law_e_step_1 [] (ps.map prV) [x0,x1,x2,some (.ref D),a] S=.nx [x0,x1,x2,some (.ref D),a'] (S.set D (.dtp (encK ((ps.foldl addK acc).map kP))))
  | [],acc,S,a,h,_=>⟨a,by
    have hl:=(List.getElem?_eq_some_iff.mp h).1
    have:S.set D (.dtp (encK (acc.map kP)))=S:=by
      apply List.ext_getElem?
      intro i
      by_cases q:D=i
      · subst q; rw [List.getElem?_set_self hl,h]
      · rw [List.getElem?_set_ne q]
    simp [forG,this]⟩
  | p :: ps,acc,S,a,h,hb=>by
    rw [List.length_cons] at hb
    have hl:=(List.getElem?_eq_some_iff.mp h).1
    have hput:=dput_encK h (by rw [List.length_map]; omega) (p:=prV p) (k:=kP p) rfl
    rw [add_map] at hput
    have hst:b__law_e_step_1 [x0,x1,x2,some (.ref D),some (prV p)] S=.nx [x0,x1,x2,some (.ref D),some (prV p)] (S.set D (.dtp (encK ((addK acc p).map kP)))):=mDPutT_ok rfl rfl rfl hput
    obtain ⟨a',e⟩:=step_loop ps (addK acc p) (S.set D (.dtp (encK ((addK acc p).map kP)))) (some (prV p)) (List.getElem?_set_self hl) (by have:=addK_len acc p; omega)
    refine ⟨a',?_⟩
    rw [List.set_set] at e
    rw [List.map_cons,List.foldl_cons,<- e]
    simp [forG,hst]
def lsT (ls ms:List (Int × Str)):List (Int × Str):=sortQ (metK (ls ++ ms))
theorem keysP_enc (ps:List (Int × Str)):keysP (encK (ps.map kP))=some ps:=by
  induction ps with
  | nil=>rfl
  | cons p ps ih=>
    show (match keyP (kP p),keysP (encK (ps.map kP)) with | some p,some l=>some (p :: l) | _,_=>none)=_
    rw [ih]
    rfl
theorem st_good (ss:List Str) (ls:List (Int × Str)) (u:Int):good 12 (stV ss ls u)=true:=by
  show ((ss.map PV.str).all (good 10) && ((ls.map prV).all (good 10) && (true && true)))=true
  have h1:(ss.map PV.str).all (good 10)=true:=by rw [List.all_map,List.all_eq_true]; exact fun _ _=>rfl
  have h2:(ls.map prV).all (good 10)=true:=by rw [List.all_map,List.all_eq_true]; exact fun _ _=>rfl
  rw [h1,h2]
  rfl
theorem step_ok (r:Ru) {ss:List Str} (hh:r.h < ss.length) {ls:List (Int × Str)} (hl:ls.length + r.ms.length < 64) (u:Int) (S:Store):F__law_e_step [ruV r,stV ss ls u] S=.ok (stV (ss.set r.h r.t) (lsT ls r.ms) (u + r.u)) S:=by
  have c1:(S ++ [Cell.lst (ss.map .str)])[S.length]?=some (.lst (ss.map .str)):=last_at _ _
  have hs:=set_lst c1 (k:=r.h) (by rw [List.length_map]; exact hh) (.str r.t)
  have e1:(S ++ [Cell.lst (ss.map PV.str)]).set S.length (.lst ((ss.map PV.str).set r.h (.str r.t)))=S ++ [Cell.lst ((ss.set r.h r.t).map PV.str)]:=by
    rw [List.set_append_right _ _ (Nat.le_refl _),Nat.sub_self,List.map_set]
    rfl
  rw [e1] at hs
  obtain ⟨A2,hA2⟩:∃ A2,S ++ [Cell.lst ((ss.set r.h r.t).map PV.str)]=A2:=⟨_,rfl⟩
  rw [hA2] at hs
  have cD:(A2 ++ [Cell.dtp []])[A2.length]?=some (.dtp (encK (([]:List (Int × Str)).map kP))):=last_at _ _
  have hlen:(ls ++ r.ms).length < 64:=by rw [List.length_append]; exact hl
  obtain ⟨a',e2⟩:=step_loop (x0:=some (ruV r)) (x1:=some (stV ss ls u)) (x2:=some (.ref S.length)) (ls ++ r.ms) [] (A2 ++ [Cell.dtp []]) none cD (by simp only [List.length_nil]; omega)
  have e3:(A2 ++ [Cell.dtp []]).set A2.length (.dtp (encK (((ls ++ r.ms).foldl addK []).map kP)))=A2 ++ [Cell.dtp (encK ((metK (ls ++ r.ms)).map kP))]:=by
    rw [List.set_append_right _ _ (Nat.le_refl _),Nat.sub_self]
    rfl
  rw [e3] at e2
  have hml:=metK_len (ls ++ r.ms)
  obtain ⟨A4,hA4⟩:∃ A4,A2 ++ [Cell.dtp (encK ((metK (ls ++ r.ms)).map kP))]=A4:=⟨_,rfl⟩
  rw [hA4] at e2
  have d4:dtpOf A4 (.ref A2.length)=some (encK ((metK (ls ++ r.ms)).map kP)):=by
    have:A4[A2.length]?=some (.dtp (encK ((metK (ls ++ r.ms)).map kP))):=by rw [<- hA4]; exact last_at _ _
    show (match A4[A2.length]? with | some (.dtp kvs)=>some kvs | _=>none)=_
    rw [this]
  have s4:cSortP A4 [.ref A2.length]=.ok (.lst ((lsT ls r.ms).map prV)) A4:=by
    unfold cSortP
    simp only [d4,keysP_enc]
    rw [if_pos (by omega)]
    rfl
  have t4:cTuple A4 [.ref S.length]=.ok (.tup ((ss.set r.h r.t).map .str)) A4:=by
    have:A4[S.length]?=some (.lst ((ss.set r.h r.t).map .str)):=by
      rw [<- hA4,<- hA2,List.getElem?_append_left (by simp)]
      exact last_at _ _
    show (match (match A4[S.length]? with | some (.lst xs)=>some xs | _=>none) with | some xs=>Res.ok (PV.tup xs) A4 | none=>.stuck)=_
    rw [this]
  have hadd:oAdd (A2 ++ [Cell.dtp []]) (.tup (ls.map prV)) (.tup (r.ms.map prV))=.ok (.tup ((ls ++ r.ms).map prV)) (A2 ++ [Cell.dtp []]):=by
    rw [addt _ (by rw [List.length_map,List.length_map]; omega),List.map_append]
  have st:m__law_e_step [some (ruV r),some (stV ss ls u),none,none,none] S=.rt (stV (ss.set r.h r.t) (lsT ls r.ms) (u + r.u)) A4:=by
    unfold m__law_e_step
    refine seq_nx (set_ok (trk_ok (ps:=ss.map .str) rfl)) ?_
    refine seq_nx (six_ok rfl rfl rfl hs) ?_
    refine seq_nx (set_ok rfl) ?_
    refine seq_nx (for_ok (sq_ok (op_ok rfl rfl hadd) rfl (by rw [List.length_map]; omega)) e2) ?_
    exact ret_ok (tup_ok (cons_ok (bi_ok rfl t4) (cons_ok (bi_ok (cons_ok (bi_ok rfl s4) rfl) rfl) (cons_ok (op_ok rfl rfl (addi A4 u r.u)) rfl))) (by simp))
  have:=callF_rt (nl:=5) (ps:=[ruV r,stV ss ls u]) st
  unfold F__law_e_step
  rw [this,<- hA4,<- hA2,List.append_assoc]
  exact fin_goodA (st_good _ _ _)
theorem nodup_len {α:Type} [DecidableEq α]:∀ {l m:List α},l.Nodup->(∀ x ∈ l,x ∈ m)->l.length<=m.length
  | [],_,_,_=>Nat.zero_le _
  | a :: l,m,h,hs=>by
    obtain ⟨h1,h2⟩:=List.nodup_cons.mp h
    have ha:=hs a (by simp)
    have:=nodup_len (m:=m.erase a) h2 fun x hx=>(List.mem_erase_of_ne (show x ≠ a from fun e=>h1 (by rw [<- e]; exact hx))).mpr (hs x (List.mem_cons_of_mem _ hx))
    rw [List.length_erase_of_mem ha] at this
    have:=List.length_pos_of_mem ha
    rw [List.length_cons]
    omega
theorem mem_addK {α:Type} [DecidableEq α] {acc:List α} {p x:α}:x ∈ addK acc p <-> x ∈ acc\/x=p:=by
  unfold addK
  split
  · rename_i q
    exact ⟨.inl,fun h=>h.elim id (fun e=>e ▸ q)⟩
  · simp
theorem mem_fold {α:Type} [DecidableEq α] {x:α}:∀ {ps acc:List α},x ∈ ps.foldl addK acc <-> x ∈ acc\/x ∈ ps
  | [],acc=>by simp
  | p :: ps,acc=>by
    rw [List.foldl_cons,mem_fold,mem_addK,List.mem_cons]
    constructor
    · rintro ((h | h) | h)
      · exact .inl h
      · exact .inr (.inl h)
      · exact .inr (.inr h)
    · rintro (h | h | h)
      · exact .inl (.inl h)
      · exact .inl (.inr h)
      · exact .inr h
theorem addK_nd {α:Type} [DecidableEq α] {ks:List α} (h:ks.Nodup) (k:α):(addK ks k).Nodup:=by
  unfold addK
  split
  · exact h
  · rename_i q
    exact List.nodup_append.mpr ⟨h,by simp,fun x hx y hy e=>by
      have:y=k:=by simpa using hy
      rw [e,this] at hx; exact q hx⟩
theorem fold_nd {α:Type} [DecidableEq α]:∀ {ps acc:List α},acc.Nodup->(ps.foldl addK acc).Nodup
  | [],_,h=>h
  | p :: ps,_,h=>by rw [List.foldl_cons]; exact fold_nd (addK_nd h p)
theorem mem_lsT {ls ms:List (Int × Str)} {x:Int × Str}:x ∈ lsT ls ms <-> x ∈ ls\/x ∈ ms:=by
  unfold lsT
  rw [(sortQ_perm _).mem_iff]
  unfold metK
  rw [mem_fold,List.mem_append]
  simp
def InW (ws:List Str) (p:Int × Str):Prop:=0<=p.1/\p.1 < 4/\p.2 ∈ ws
structure StI (n:Nat) (ws:List Str) (ss:List Str) (ls:List (Int × Str)):Prop where
  len:ss.length=n
  nd:ls.Nodup
  sub:∀ p ∈ ls,InW ws p
theorem StI.small {n:Nat} {ws ss:List Str} {ls:List (Int × Str)} (I:StI n ws ss ls) (hw:ws.length<=2):ls.length<=8:=by
  have h:=nodup_len (m:=(ws.map fun w=>(0,w)) ++ (ws.map fun w=>(1,w)) ++ (ws.map fun w=>(2,w)) ++ (ws.map fun w=>((3:Int),w))) I.nd fun p hp=>by
    obtain ⟨h1,h2,h3⟩:=I.sub p hp
    have:p.1=0\/p.1=1\/p.1=2\/p.1=3:=by omega
    obtain ⟨a,b⟩:=p
    simp only [List.mem_append,List.mem_map,Prod.mk.injEq]
    rcases this with e | e | e | e
    · exact .inl (.inl (.inl ⟨b,h3,e.symm,rfl⟩))
    · exact .inl (.inl (.inr ⟨b,h3,e.symm,rfl⟩))
    · exact .inl (.inr ⟨b,h3,e.symm,rfl⟩)
    · exact .inr ⟨b,h3,e.symm,rfl⟩
  simp only [List.length_append,List.length_map] at h
  omega
structure RuI (n:Nat) (ws:List Str) (r:Ru):Prop where
  h:r.h < n
  ms:r.ms.length<=8
  sub:∀ p ∈ r.ms,InW ws p
theorem StI.step {n:Nat} {ws ss:List Str} {ls:List (Int × Str)} {r:Ru} (I:StI n ws ss ls) (J:RuI n ws r):StI n ws (ss.set r.h r.t) (lsT ls r.ms) where
  len:=by rw [List.length_set]; exact I.len
  nd:=(sortQ_perm _).nodup_iff.mpr (fold_nd List.nodup_nil)
  sub:=fun p hp=>(mem_lsT.mp hp).elim (I.sub p) (J.sub p)
def walkB (rs:List Ru):List Int->List Str->List (Int × Str)->Int->Option Int
  | [],_,_,u=>some u
  | k :: ks,ss,ls,u=>match rs[k.toNat]? with
    | some r=>if 0<=k/\fitB r ss ls=true then walkB rs ks (ss.set r.h r.t) (lsT ls r.ms) (u + r.u) else none
    | none=>none
def brkB (most:Int) (starts:List Str) (rs:List Ru) (ks:List Int):Bool:=match walkB rs ks starts [] 0 with
  | some u=>decide (most < u)
  | none=>false
structure MI1 (starts:List Str) (rs:List Ru) (ws:List Str):Prop where
  w2:ws.length<=2
  ru:∀ r ∈ rs,RuI starts.length ws r
  len:rs.length<=9
theorem lei (S:Store) (a b:Int):(oI fun a b=>.bl (decide (a<=b))) S (.int a) (.int b)=.ok (.bl (decide (a<=b))) S:=rfl
theorem lti (S:Store) (a b:Int):oLt S (.int a) (.int b)=.ok (.bl (decide (a < b))) S:=by simp
theorem ru_at {rs:List Ru} {k:Int} (h0:0<=k) {r:Ru} (h:rs[k.toNat]?=some r) (S:Store):oIx S (.tup (rs.map ruV)) (.int k)=.ok (ruV r) S:=by
  have e:k=((k.toNat:Nat):Int):=by omega
  rw [e]
  refine ix_tup ?_ S
  rw [List.getElem?_map,h]
  rfl
theorem brk_loop {starts ws:List Str} {rs:List Ru} (K:MI1 starts rs ws) {most:Int} {V:PV} {S:Store} {w:Wt} (hw:wOk w S):∀ (ks:List Int) (ss:List Str) (ls:List (Int × Str)) (u:Int) (a:Option PV),StI starts.length ws ss ls ->
    (walkB rs ks ss ls u=none/\forG (gaName 3) b__law_e_breaks_1 w (ks.map .int) [some (manV most starts (rs.map ruV)),some V,some (stV ss ls u),a] S=.rt (.bl false) S) \/
    (∃ u' ss' ls' a',walkB rs ks ss ls u=some u'/\forG (gaName 3) b__law_e_breaks_1 w (ks.map .int) [some (manV most starts (rs.map ruV)),some V,some (stV ss ls u),a] S=.nx [some (manV most starts (rs.map ruV)),some V,some (stV ss' ls' u'),a'] S)
  | [],ss,ls,u,a,_=>.inr ⟨u,ss,ls,a,rfl,by simp [forG,hw]⟩
  | k :: ks,ss,ls,u,a,I=>by
    have hlen:((rs.map ruV).length:Int)=(rs.length:Int):=by rw [List.length_map]
    have stop:∀ (hstop:b__law_e_breaks_1 [some (manV most starts (rs.map ruV)),some V,some (stV ss ls u),some (.int k)] S=.rt (.bl false) S),forG (gaName 3) b__law_e_breaks_1 w ((k :: ks).map .int) [some (manV most starts (rs.map ruV)),some V,some (stV ss ls u),a] S=.rt (.bl false) S:=fun hstop=>by simp [forG,hw,hstop]
    by_cases q0:k < 0
    · refine .inl ⟨?_,stop (seq_rt (if_t (or_t (tb_ok (op_ok rfl rfl (lti_t S q0)))) rfl))⟩
      unfold walkB
      split
      · rw [if_neg (fun z=>by omega)]
      · rfl
    · by_cases q1:(rs.length:Int)<=k
      · refine .inl ⟨?_,stop (seq_rt (if_t (or_f (tb_ok (op_ok rfl rfl (lti_f S q0))) (or_t (tb_ok (op_ok rfl rfl (by show Res.ok (PV.bl (decide (((rs.map ruV).length:Int)<=k))) S=_; rw [hlen,decide_eq_true q1]))))) rfl))⟩
        have:rs[k.toNat]?=none:=List.getElem?_eq_none (by omega)
        unfold walkB
        rw [this]
      · have hk:k.toNat < rs.length:=by omega
        have hr:rs[k.toNat]?=some rs[k.toNat]:=List.getElem?_eq_getElem hk
        have J:=K.ru _ (List.getElem_mem hk)
        generalize rs[k.toNat]=r at hr J
        have hix:=ru_at (by omega) hr S
        have hf:=fits_ok r (ss:=ss) (by rw [I.len]; exact J.h) ls u S
        have hst:=step_ok r (ss:=ss) (by rw [I.len]; exact J.h) (ls:=ls) (by have:=I.small K.w2; have:=J.ms; omega) u S
        have t1:toB (mOp (oI fun a b=>.bl (decide (b<=a))) (mVar 3) (mCall cLen (mCons (mOp oIx (mVar 0) (mC (.int 2))) mNil))) [some (manV most starts (rs.map ruV)),some V,some (stV ss ls u),some (.int k)] S=.ok false S:=tb_ok (op_ok rfl rfl (by show Res.ok (PV.bl (decide (((rs.map ruV).length:Int)<=k))) S=_; rw [hlen,decide_eq_false q1]))
        cases z:fitB r ss ls with
        | false=>
          rw [z] at hf
          refine .inl ⟨?_,stop (seq_rt (if_t (or_f (tb_ok (op_ok rfl rfl (lti_f S q0))) (or_f t1 (not_ok (tb_ok (call_ok (n:=2) (cons_ok (op_ok rfl rfl hix) rfl) rfl hf))))) rfl))⟩
          unfold walkB
          rw [hr]
          simp [z]
        | true=>
          rw [z] at hf
          have hb:b__law_e_breaks_1 [some (manV most starts (rs.map ruV)),some V,some (stV ss ls u),some (.int k)] S=.nx [some (manV most starts (rs.map ruV)),some V,some (stV (ss.set r.h r.t) (lsT ls r.ms) (u + r.u)),some (.int k)] S:=
            seq_nx (if_f (or_f (tb_ok (op_ok rfl rfl (lti_f S q0))) (or_f t1 (not_ok (tb_ok (call_ok (n:=2) (cons_ok (op_ok rfl rfl hix) rfl) rfl hf))))) rfl) (set_ok (call_ok (n:=2) (cons_ok (op_ok rfl rfl hix) rfl) rfl hst))
          have hwk:walkB rs (k :: ks) ss ls u=walkB rs ks (ss.set r.h r.t) (lsT ls r.ms) (u + r.u):=by
            rw [walkB]
            rw [hr]
            simp only
            rw [if_pos ⟨by omega,z⟩]
          have hfo:forG (gaName 3) b__law_e_breaks_1 w ((k :: ks).map .int) [some (manV most starts (rs.map ruV)),some V,some (stV ss ls u),a] S=forG (gaName 3) b__law_e_breaks_1 w (ks.map .int) [some (manV most starts (rs.map ruV)),some V,some (stV (ss.set r.h r.t) (lsT ls r.ms) (u + r.u)),some (.int k)] S:=by
            simp [forG,hw,hb]
          rw [hwk,hfo]
          exact brk_loop K hw ks _ _ _ _ (I.step J)
theorem breaks_ok {starts ws:List Str} {rs:List Ru} (K:MI1 starts rs ws) (most:Int) {V:PV} {S:Store} {ks:List Int} {w:Wt} (hV:srcOf S V=some (ks.map .int,w)) (hw:wOk w S) (hl:ks.length<=1000):F__law_e_breaks [manV most starts (rs.map ruV),V] S=.ok (.bl (brkB most starts rs ks)) S:=by
  refine ret_bl ?_
  show m__law_e_breaks [some (manV most starts (rs.map ruV)),some V,none,none] S=_
  have I0:StI starts.length ws starts []:=⟨rfl,List.nodup_nil,fun p hp=>nomatch hp⟩
  unfold m__law_e_breaks brkB
  rcases brk_loop K (most:=most) (V:=V) hw ks starts [] 0 none I0 with ⟨e1,e2⟩ | ⟨u',ss',ls',a',e1,e2⟩
  · rw [e1]
    exact seq_nx (set_ok rfl) (seq_rt (for_ok (sq_ok rfl hV (by rw [List.length_map]; omega)) e2))
  · rw [e1]
    exact seq_nx (set_ok rfl) (seq_nx (for_ok (sq_ok rfl hV (by rw [List.length_map]; omega)) e2) (ret_ok rfl))
def U (S:Store) (ss:List Str) (K:List HK):Store:=S ++ [Cell.lst (ss.map .str),.dtp (encK K)]
theorem U_i (S:Store) (ss:List Str) (K:List HK):(U S ss K)[S.length]?=some (.lst (ss.map .str)):=by
  unfold U; rw [List.getElem?_append_right (Nat.le_refl _),Nat.sub_self]; rfl
theorem U_j (S:Store) (ss:List Str) (K:List HK):(U S ss K)[S.length + 1]?=some (.dtp (encK K)):=by
  unfold U; rw [List.getElem?_append_right (by omega),show S.length + 1 - S.length=1 by omega]; rfl
theorem U_si (S:Store) (ss ss':List Str) (K:List HK):(U S ss K).set S.length (.lst (ss'.map .str))=U S ss' K:=by
  unfold U; rw [List.set_append_right _ _ (Nat.le_refl _),Nat.sub_self]; rfl
theorem U_sj (S:Store) (ss:List Str) (K K':List HK):(U S ss K).set (S.length + 1) (.dtp (encK K'))=U S ss K':=by
  unfold U; rw [List.set_append_right _ _ (by omega),show S.length + 1 - S.length=1 by omega]; rfl
def updK (K:List HK) (ms:List (Int × Str)):List HK:=ms.foldl (fun acc p=>addK acc (kP p)) K
theorem updK_eq (ms:List (Int × Str)):∀ K:List HK,updK K ms=(ms.map kP).foldl addK K:=by
  unfold updK
  induction ms with
  | nil=>intro K; rfl
  | cons p ms ih=>intro K; rw [List.foldl_cons,List.map_cons,List.foldl_cons,ih]
theorem mem_updK {K:List HK} {ms:List (Int × Str)} {p:Int × Str}:kP p ∈ updK K ms <-> kP p ∈ K\/p ∈ ms:=by
  rw [updK_eq,mem_fold,List.mem_map]
  constructor
  · rintro (h | ⟨x,hx,e⟩)
    · exact .inl h
    · rw [kP_inj e] at hx; exact .inr hx
  · rintro (h | h)
    · exact .inl h
    · exact .inr ⟨p,h,rfl⟩
theorem updK_len (K:List HK) (ms:List (Int × Str)):(updK K ms).length<=K.length + ms.length:=by
  rw [updK_eq]
  have:=foldl_addK_len (ms.map kP) K
  rwa [List.length_map] at this
theorem pairs_enc (ms:List (Int × Str)):pairsH (ms.map fun p=>.tup [prV p,.bl true])=some (encK (ms.map kP)):=by
  induction ms with
  | nil=>rfl
  | cons p ms ih=>
    show (match keyN (prV p),pairsH (ms.map fun p=>.tup [prV p,.bl true]) with | some k,some l=>some ((k,PV.bl true) :: l) | _,_=>none)=_
    rw [ih]
    rfl
theorem putAll_enc (ms:List (Int × Str)):∀ K:List HK,putAllT (encK K) (encK (ms.map kP))=encK (updK K ms):=by
  induction ms with
  | nil=>intro K; rfl
  | cons p ms ih=>
    intro K
    show putAllT (Sm.putT (encK K) (kP p) (.bl true)) (encK (ms.map kP))=_
    rw [put_encK,ih]
    rfl
theorem upd_ok {S:Store} {ss:List Str} {K:List HK} {ms:List (Int × Str)} (hl:K.length + ms.length<=100000):updT (U S ss K) (.ref (S.length + 1)) [.lst (ms.map fun p=>.tup [prV p,.bl true])]=.ok .non (U S ss (updK K ms)):=by
  have hd:dtpOf (U S ss K) (.ref (S.length + 1))=some (encK K):=by show (match (U S ss K)[S.length + 1]? with | some (.dtp kvs)=>some kvs | _=>none)=_; rw [U_j]
  unfold updT
  simp only [hd,pairs_enc]
  rw [if_pos (by rw [lim_eq]; unfold encK; simp only [List.length_map]; omega),putAll_enc,U_sj]
theorem chain_t {o o':OP} {a b c:ME} {Γ:Gam} {S:Store} {x y z:PV} {r:Res PV} (h1:a Γ S=.ok x S) (h2:b Γ S=.ok y S) (h3:o S x y=.ok (.bl true) S) (h4:c Γ S=.ok z S) (h5:o' S y z=r):mChain o o' a b c Γ S=r:=by
  unfold mChain
  rw [h1,bind_ok,h2,bind_ok,h3,bind_ok]
  show (c Γ S).bind _=_
  rw [h4,bind_ok]
  exact h5
theorem chain_f {o o':OP} {a b c:ME} {Γ:Gam} {S:Store} {x y:PV} (h1:a Γ S=.ok x S) (h2:b Γ S=.ok y S) (h3:o S x y=.ok (.bl false) S):mChain o o' a b c Γ S=.ok (.bl false) S:=by
  unfold mChain
  rw [h1,bind_ok,h2,bind_ok,h3,bind_ok]
theorem use_loop {starts ws:List Str} {rs:List Ru} (M:MI1 starts rs ws) {most:Int} {V:PV} {S:Store}:∀ (ks:List Int) (ss:List Str) (ls:List (Int × Str)) (K:List HK) (u:Int) (a b:Option PV),StI starts.length ws ss ls->(∀ p,kP p ∈ K <-> p ∈ ls)->K.length + 8 * ks.length<=100000 ->
    (walkB rs ks ss ls u=none/\∃ ss' K',forG (gaName 5) b_used_behind_1 [] (ks.map .int) [some (manV most starts (rs.map ruV)),some V,some (.ref S.length),some (.ref (S.length + 1)),some (.int u),a,b] (U S ss K)=.rt .non (U S ss' K')) \/
    (∃ u' a' b' ss' K',walkB rs ks ss ls u=some u'/\forG (gaName 5) b_used_behind_1 [] (ks.map .int) [some (manV most starts (rs.map ruV)),some V,some (.ref S.length),some (.ref (S.length + 1)),some (.int u),a,b] (U S ss K)=.nx [some (manV most starts (rs.map ruV)),some V,some (.ref S.length),some (.ref (S.length + 1)),some (.int u'),a',b'] (U S ss' K'))
  | [],ss,ls,K,u,a,b,_,_,_=>.inr ⟨u,a,b,ss,K,rfl,by simp [forG]⟩
  | k :: ks,ss,ls,K,u,a,b,I,hK,hb=>by
    have hlen:((rs.map ruV).length:Int)=(rs.length:Int):=by rw [List.length_map]
    rw [List.length_cons] at hb
    generalize hA:U S ss K=A
    have stop:∀ (hstop:b_used_behind_1 [some (manV most starts (rs.map ruV)),some V,some (.ref S.length),some (.ref (S.length + 1)),some (.int u),some (.int k),b] A=.rt .non A),∃ ss' K',forG (gaName 5) b_used_behind_1 [] ((k :: ks).map .int) [some (manV most starts (rs.map ruV)),some V,some (.ref S.length),some (.ref (S.length + 1)),some (.int u),a,b] A=.rt .non (U S ss' K'):=fun hstop=>⟨ss,K,by rw [hA]; simp [forG,hstop]⟩
    have chain:∀ x:Bool,(decide ((0:Int)<=k) && decide (k < (rs.length:Int)))=x->toB (mChain (oI fun a b=>.bl (decide (a<=b))) oLt (mC (.int 0)) (mVar 5) (mCall cLen (mCons (mOp oIx (mVar 0) (mC (.int 2))) mNil))) [some (manV most starts (rs.map ruV)),some V,some (.ref S.length),some (.ref (S.length + 1)),some (.int u),some (.int k),b] A=.ok x A:=fun x hx=>by
      refine tb_ok ?_
      have h2:=lti A k ((rs.map ruV).length:Int)
      rw [hlen] at h2
      by_cases q0:(0:Int)<=k
      · rw [decide_eq_true q0,Bool.true_and] at hx
        refine chain_t (z:=.int ((rs.map ruV).length:Nat)) rfl rfl (by rw [lei,decide_eq_true q0]) rfl ?_
        rw [hlen,h2,hx]
      · rw [decide_eq_false q0,Bool.false_and] at hx
        rw [<- hx]
        exact chain_f rfl rfl (by rw [lei,decide_eq_false q0])
    by_cases q:(decide ((0:Int)<=k) && decide (k < (rs.length:Int)))=true
    · have q':=q
      simp only [Bool.and_eq_true,decide_eq_true_eq] at q'
      have hk:k.toNat < rs.length:=by omega
      have hr:rs[k.toNat]?=some rs[k.toNat]:=List.getElem?_eq_getElem hk
      have J:=M.ru _ (List.getElem_mem hk)
      generalize rs[k.toNat]=r at hr J
      have hix:=ru_at q'.1 hr A
      have hm:F_may_be_done [ruV r,.tup [.ref S.length,.ref (S.length + 1)]] A=.ok (.bl (fitB r ss ls)) A:=by
        rw [<- hA,may_ok r (ss:=ss) (ks:=K) (by rw [I.len]; exact J.h) (U_i S ss K) (U_j S ss K)]
        congr 2
        unfold fitB
        rw [decide_eq_decide.mpr (hK ((r.h:Int),r.e))]
      cases z:fitB r ss ls with
      | false=>
        rw [z] at hm
        refine .inl ⟨?_,stop (seq_rt (if_t (or_f (not_ok (chain true q)) (not_ok (tb_ok (call_ok (n:=2) (cons_ok (op_ok rfl rfl hix) rfl) rfl hm)))) rfl))⟩
        rw [walkB,hr]
        simp [z]
      | true=>
        rw [z] at hm
        have hs:=set_lst (S:=U S ss K) (U_i S ss K) (k:=r.h) (by rw [List.length_map,I.len]; exact J.h) (.str r.t)
        have hs':((ss.map PV.str).set r.h (.str r.t))=(ss.set r.h r.t).map PV.str:=by rw [List.map_set]
        rw [hs',U_si,hA] at hs
        have hJ:=J.ms
        have hu:=upd_ok (S:=S) (ss:=ss.set r.h r.t) (K:=K) (ms:=r.ms) (by omega)
        have hd:dtpOf (U S (ss.set r.h r.t) K) (.ref (S.length + 1))=some (encK K):=by show (match (U S (ss.set r.h r.t) K)[S.length + 1]? with | some (.dtp kvs)=>some kvs | _=>none)=_; rw [U_j]
        have hc:compG (gaName 0) mTrue e_used_behind_1 [] [none] (r.ms.map prV) (U S (ss.set r.h r.t) K)=.ok (r.ms.map fun p=>.tup [prV p,.bl true]) (U S (ss.set r.h r.t) K):=
          compG_on prV (fun p=>PV.tup [prV p,.bl true]) (wOk_nil _) fun p _=>⟨_,rfl,rfl⟩
        have hup:mUpd (mVar 3) (mCons (mVal (mCompN [none] (gaName 0) (mSeq (mOp oIx (mVar 6) (mC (.int 5)))) mTrue e_used_behind_1)) mNil) [some (manV most starts (rs.map ruV)),some V,some (.ref S.length),some (.ref (S.length + 1)),some (.int u),some (.int k),some (ruV r)] (U S (ss.set r.h r.t) K)=.ok .non (U S (ss.set r.h r.t) (updK K r.ms)):=by
          have hv:mVal (mCompN [none] (gaName 0) (mSeq (mOp oIx (mVar 6) (mC (.int 5)))) mTrue e_used_behind_1) [some (manV most starts (rs.map ruV)),some V,some (.ref S.length),some (.ref (S.length + 1)),some (.int u),some (.int k),some (ruV r)] (U S (ss.set r.h r.t) K)=.ok (.lst (r.ms.map fun p=>.tup [prV p,.bl true])) (U S (ss.set r.h r.t) K):=val_ok (comp_ok (sq_ok rfl rfl (by rw [List.length_map]; omega)) hc)
          unfold mUpd
          show (match dtpOf (U S (ss.set r.h r.t) K) (.ref (S.length + 1)) with | some _=>_ | none=>_)=_
          rw [hd]
          show ((mCons _ mNil) _ _).bind _=_
          rw [cons_ok hv (show mNil _ _=.ok [] _ from rfl),bind_ok]
          exact hu
        have hb1:b_used_behind_1 [some (manV most starts (rs.map ruV)),some V,some (.ref S.length),some (.ref (S.length + 1)),some (.int u),some (.int k),b] A=.nx [some (manV most starts (rs.map ruV)),some V,some (.ref S.length),some (.ref (S.length + 1)),some (.int (u + r.u)),some (.int k),some (ruV r)] (U S (ss.set r.h r.t) (updK K r.ms)):=
          seq_nx (if_f (or_f (not_ok (chain true q)) (not_ok (tb_ok (call_ok (n:=2) (cons_ok (op_ok rfl rfl hix) rfl) rfl hm)))) rfl) (seq_nx (set_ok (op_ok rfl rfl hix)) (seq_nx (six_ok rfl rfl rfl hs) (seq_nx (exp_ok hup) rfl)))
        have hwk:walkB rs (k :: ks) ss ls u=walkB rs ks (ss.set r.h r.t) (lsT ls r.ms) (u + r.u):=by
          rw [walkB,hr]
          simp only
          rw [if_pos ⟨q'.1,z⟩]
        have hfo:forG (gaName 5) b_used_behind_1 [] ((k :: ks).map .int) [some (manV most starts (rs.map ruV)),some V,some (.ref S.length),some (.ref (S.length + 1)),some (.int u),a,b] A=forG (gaName 5) b_used_behind_1 [] (ks.map .int) [some (manV most starts (rs.map ruV)),some V,some (.ref S.length),some (.ref (S.length + 1)),some (.int (u + r.u)),some (.int k),some (ruV r)] (U S (ss.set r.h r.t) (updK K r.ms)):=by
          simp [forG,hb1]
        rw [hwk,hfo]
        exact use_loop M ks _ _ _ _ _ _ (I.step J) (fun p=>by rw [mem_updK,mem_lsT,hK]) (by have:=updK_len K r.ms; omega)
    · have q:=Bool.not_eq_true _ ▸ q
      refine .inl ⟨?_,stop (seq_rt (if_t (or_t (not_ok (chain false q))) rfl))⟩
      rw [walkB]
      split
      · rename_i r hr
        have:=(List.getElem?_eq_some_iff.mp hr).1
        rw [if_neg]
        rintro ⟨z1,_⟩
        have:(decide ((0:Int)<=k) && decide (k < (rs.length:Int)))=true:=by simp; omega
        rw [q] at this; cases this
      · rfl
theorem fin_U (S:Store) (ss:List Str) (K:List HK) (v:PV) (hv:good 12 v=true):fin S v (U S ss K)=.ok v S:=fin_goodA hv
theorem used_ok {starts ws:List Str} {rs:List Ru} (M:MI1 starts rs ws) (most:Int) {S:Store} {ks:List Int} (hl:ks.length<=1000):F_used_behind [manV most starts (rs.map ruV),.lst (ks.map .int)] S=.ok (match walkB rs ks starts [] 0 with | some u=>.int u | none=>.non) S:=by
  have I0:StI starts.length ws starts []:=⟨rfl,List.nodup_nil,fun p hp=>nomatch hp⟩
  have hU:(S ++ [Cell.lst (starts.map PV.str)]) ++ [Cell.dtp []]=U S starts []:=by rw [List.append_assoc]; rfl
  have hl1:(S ++ [Cell.lst (starts.map PV.str)]).length=S.length + 1:=by simp
  have hd:mDispT [some (manV most starts (rs.map ruV)),some (.lst (ks.map .int)),some (.ref S.length),none,none,none,none] (S ++ [Cell.lst (starts.map PV.str)])=.ok (.ref (S.length + 1)) (U S starts []):=by
    show Res.ok (PV.ref (S ++ [Cell.lst (starts.map PV.str)]).length) _=_
    rw [hl1,hU]
  unfold F_used_behind
  rcases use_loop M (most:=most) (V:=.lst (ks.map .int)) (S:=S) ks starts [] [] 0 none none I0 (fun p=>by simp) (by simp; omega) with ⟨e1,ss',K',e2⟩ | ⟨u',a',b',ss',K',e1,e2⟩
  · rw [e1]
    have st:m_used_behind [some (manV most starts (rs.map ruV)),some (.lst (ks.map .int)),none,none,none,none,none] S=.rt .non (U S ss' K'):=
      seq_nx (set_ok (trk_ok (ps:=starts.map .str) rfl)) (seq_nx (set_ok hd) (seq_nx (set_ok rfl) (seq_rt (for_ok (sq_ok rfl rfl (by rw [List.length_map]; omega)) e2))))
    rw [callF_rt (nl:=7) (ps:=[manV most starts (rs.map ruV),.lst (ks.map .int)]) st,fin_U _ _ _ _ rfl]
  · rw [e1]
    have st:m_used_behind [some (manV most starts (rs.map ruV)),some (.lst (ks.map .int)),none,none,none,none,none] S=.rt (.int u') (U S ss' K'):=
      seq_nx (set_ok (trk_ok (ps:=starts.map .str) rfl)) (seq_nx (set_ok hd) (seq_nx (set_ok rfl) (seq_nx (for_ok (sq_ok rfl rfl (by rw [List.length_map]; omega)) e2) (ret_ok rfl))))
    rw [callF_rt (nl:=7) (ps:=[manV most starts (rs.map ruV),.lst (ks.map .int)]) st,fin_U _ _ _ _ rfl]
theorem need_ok {most:Int} {starts:List Str} {rules:List PV} (h:Man most starts rules) (S:Store):F_need_manner [manV most starts rules] S=.ok .non S:=by
  have hm:=manner_p (man_pl h) S
  rw [man_is h] at hm
  have st:m_need_manner [some (manV most starts rules)] S=.nx [some (manV most starts rules)] S:=if_f (not_ok (tb_ok (call_ok (n:=1) rfl rfl hm))) rfl
  unfold F_need_manner callF
  show (match m_need_manner [some (manV most starts rules)] S with | .rt v st'=>fin S v st' | .nx _ st'=>fin S .non st' | .exc x st'=>finX S x st' | _=>.stuck)=_
  rw [st]
  exact fin_non S
theorem break_ok {starts ws:List Str} {rs:List Ru} (M:MI1 starts rs ws) {most:Int} (h:Man most starts (rs.map ruV)) {S:Store} {ks:List Int} (hl:ks.length<=1000):F_is_break [manV most starts (rs.map ruV),.lst (ks.map .int)] S=.ok (.bl (brkB most starts rs ks)) S:=by
  have h1:=need_ok h S
  have h2:=used_ok M most (S:=S) hl
  refine ret_bl ?_
  show m_is_break [some (manV most starts (rs.map ruV)),some (.lst (ks.map .int)),none] S=_
  unfold brkB
  cases z:walkB rs ks starts [] 0 with
  | none=>
    rw [z] at h2
    exact seq_nx (exp_ok (call_ok (n:=1) rfl rfl h1)) (seq_nx (set_ok (call_ok (n:=2) rfl rfl h2)) (ret_ok (and_eq (x:=false) (op_ok rfl rfl rfl) (fun e=>nomatch e) fun _=>rfl)))
  | some u=>
    rw [z] at h2
    exact seq_nx (exp_ok (call_ok (n:=1) rfl rfl h1)) (seq_nx (set_ok (call_ok (n:=2) rfl rfl h2)) (ret_ok (and_eq (x:=true) (op_ok rfl rfl rfl) (fun _=>op_ok rfl rfl rfl) (fun e=>nomatch e))))
theorem lets_of {n:Nat} (hn:n<=4) {ws:List Str}:∀ {ls:List PV},(∀ l ∈ ls,letP n l=true)->(∀ l ∈ ls,∃ (h:Int) (y:Str),l=.tup [.int h,.str y]/\y ∈ ws)->∃ ms:List (Int × Str),ls=ms.map prV/\∀ p ∈ ms,InW ws p
  | [],_,_=>⟨[],rfl,fun p hp=>nomatch hp⟩
  | l :: ls,h1,h2=>by
    obtain ⟨ms,e,hm⟩:=lets_of hn (fun x hx=>h1 x (List.mem_cons_of_mem _ hx)) (fun x hx=>h2 x (List.mem_cons_of_mem _ hx))
    obtain ⟨x,s,e1,x0,x1,_⟩:=letP_is (h1 l (by simp))
    obtain ⟨h,y,e2,hy⟩:=h2 l (by simp)
    rw [e1] at e2
    cases e2
    refine ⟨(x,s) :: ms,by rw [List.map_cons,<- e,e1]; rfl,fun p hp=>?_⟩
    rcases List.mem_cons.mp hp with rfl | hp
    · exact ⟨x0,by show x < 4; omega,hy⟩
    · exact hm p hp
theorem rule_of {n:Nat} (hn:n<=4) {ws:List Str} {p:PV} (h:ruleP n p=true) (hl:LetIn ws p):∃ r,p=ruV r/\RuI n ws r:=by
  obtain ⟨x,s,e,t,u,ls,rfl,x0,x1,_,_,_,_,_,l8,hls⟩:=ruleP_is h
  obtain ⟨ms,rfl,hms⟩:=lets_of hn hls (hl _ _ _ _ _ ls rfl)
  refine ⟨⟨x.toNat,s,e,t,u,ms⟩,?_,⟨by show x.toNat < n; omega,by rw [List.length_map] at l8; exact l8,hms⟩⟩
  show _=PV.tup [.int (x.toNat:Nat),.str s,.str e,.str t,.int u,.tup (ms.map prV)]
  rw [Int.toNat_of_nonneg x0]
theorem rules_of {n:Nat} (hn:n<=4) {ws:List Str}:∀ {rules:List PV},(∀ p ∈ rules,ruleP n p=true/\LetIn ws p)->∃ rs:List Ru,rules=rs.map ruV/\∀ r ∈ rs,RuI n ws r
  | [],_=>⟨[],rfl,fun r hr=>nomatch hr⟩
  | p :: rules,h=>by
    obtain ⟨rs,e,hr⟩:=rules_of hn fun x hx=>h x (List.mem_cons_of_mem _ hx)
    obtain ⟨r,e1,h1⟩:=rule_of hn (h p (by simp)).1 (h p (by simp)).2
    refine ⟨r :: rs,by rw [List.map_cons,<- e,e1],fun x hx=>?_⟩
    rcases List.mem_cons.mp hx with rfl | hx
    · exact h1
    · exact hr x hx
theorem man_of {most:Int} {starts:List Str} {rules:List PV} (h:Man most starts rules):∃ rs ws,rules=rs.map ruV/\MI1 starts rs ws:=by
  obtain ⟨ws,w2,hw⟩:=h.ws
  obtain ⟨rs,e,hr⟩:=rules_of h.s4 (rules:=rules) fun p hp=>⟨List.all_eq_true.mp h.r p hp,hw p hp⟩
  exact ⟨rs,ws,e,w2,hr,by have:=h.len; rw [e,List.length_map] at this; exact this⟩
theorem comp_filt {mt:MT} {me:ME} {Γ0:Gam} {S:Store} {f:Nat->Bool}:∀ ys:List Nat,(∀ k:Nat,k ∈ ys->∃ Γ1,gaName 0 (.int ((0:Int) + (k:Int))) Γ0=some Γ1/\mt Γ1 S=.ok (f k) S/\me Γ1 S=.ok (.int ((0:Int) + (k:Int))) S)->compG (gaName 0) mt me [] Γ0 (ys.map fun (k:Nat)=>.int ((0:Int) + (k:Int))) S=.ok ((ys.filter f).map fun (k:Nat)=>.int ((0:Int) + (k:Int))) S
  | [],_=>by simp [compG]
  | y :: ys,h=>by
    obtain ⟨Γ1,h1,h2,h3⟩:=h y (by simp)
    have ih:=comp_filt ys fun k hk=>h k (List.mem_cons_of_mem _ hk)
    rw [List.map_cons,compG,if_pos (wOk_nil S),h1]
    show (mt Γ1 S).bind _=_
    rw [h2,bind_ok]
    cases z:f y with
    | true=>
      rw [if_pos rfl,h3,bind_ok,ih,bind_ok,List.filter_cons_of_pos (by rw [z])]
      rfl
    | false=>
      rw [if_neg Bool.false_ne_true,ih,List.filter_cons_of_neg (by rw [z]; exact Bool.false_ne_true)]
theorem drawn_run_ok {ns:List Int} {S:Store} {L:Nat} (T:TapeAt S L ns) {starts ws:List Str} {rs:List Ru} (K:MI1 starts rs ws) (most:Int) :
    ∃ (xs:List Int) (S':Store),xs.length<=30/\S'[S.length]?=some (.lst (xs.map .int))/\TapeAt S' L ns/\Mw L S S'/\F__law_e_drawn_run [.ref L,manV most starts (rs.map ruV)] S=.ok (.ref S.length) S':=by
  have T1:=T.add (.lst [])
  have hM:S.length ≠ L:=by have:=T.lt; omega
  obtain ⟨k,S2,hk,T2,M2,e2⟩:=digit_ok T1 31 (by decide) (by decide)
  have c2:S2[S.length]?=some (.lst (([]:List Int).map .int)):=by rw [M2.w.keep _ hM (by rw [List.length_append]; simp)]; exact last_at _ _
  have I0:StI starts.length ws starts []:=⟨rfl,List.nodup_nil,fun p hp=>nomatch hp⟩
  generalize hV:manV most starts (rs.map ruV)=V
  have v2:∀ A,oIx A V (.int 2)=.ok (.tup (rs.map ruV)) A:=fun A=>by subst hV; rfl
  have hlen:((rs.map ruV).length:Int)=(rs.length:Int):=by rw [List.length_map]
  obtain ⟨Γ3,S3,e3,T3,M3,xs,c3,hxl,ss,ls,u,I3,b4,b5,b6,rfl⟩:=forG_inv (xs:=List.range k) (fun (i:Nat)=>PV.int ((0:Int) + (i:Int)))
    (fun i Γ A=>TapeAt A L ns/\Mw L S A/\∃ xs:List Int,A[S.length]?=some (.lst (xs.map .int))/\xs.length<=i/\∃ ss ls u,StI starts.length ws ss ls/\∃ b4 b5 b6,Γ=[some (.ref L),some V,some (stV ss ls u),some (.ref S.length),b4,b5,b6])
    (ga:=gaName 4) (body:=b__law_e_drawn_run_1) (w:=[]) (fun _ _ A _=>wOk_nil A) (fun i x Γ A hx ⟨Ti,Mi,xs,ci,hxl,ss,ls,u,I,b4,b5,b6,eΓ⟩=>by
      subst eΓ
      refine ⟨_,rfl,?_⟩
      have hx8:i < k:=by have:=(List.getElem?_eq_some_iff.mp hx).1; rwa [List.length_range] at this
      have hcomp:=comp_filt (mt:=t__law_e_drawn_run_1) (me:=e__law_e_drawn_run_1) (Γ0:=[none,some (stV ss ls u),some V]) (S:=A) (f:=fun j=>match rs[j]? with | some r=>fitB r ss ls | none=>false) (List.range rs.length) fun j hj=>by
        have hj:=List.mem_range.mp hj
        have hr:rs[j]?=some rs[j]:=List.getElem?_eq_getElem hj
        have J:=K.ru _ (List.getElem_mem hj)
        refine ⟨_,rfl,?_,rfl⟩
        have hix:=ru_at (k:=(0:Int) + (j:Int)) (by omega) (r:=rs[j]) (by rw [show ((0:Int) + (j:Int)).toNat=j by omega]; exact hr) A
        have hf:=fits_ok rs[j] (ss:=ss) (by rw [I.len]; exact J.h) ls u A
        rw [hr]
        exact tb_ok (call_ok (n:=2) (cons_ok (op_ok (op_ok rfl rfl (v2 A)) rfl hix) rfl) rfl hf)
      generalize hz:(List.range rs.length).filter (fun j=>match rs[j]? with | some r=>fitB r ss ls | none=>false)=zs at hcomp
      have hzs:∀ z ∈ zs,z < rs.length:=fun z h=>by rw [<- hz] at h; exact List.mem_range.mp (List.mem_filter.mp h).1
      have hzl:zs.length<=9:=by rw [<- hz]; exact Nat.le_trans (List.length_filter_le _ _) (by rw [List.length_range]; exact K.len)
      have s1:mSet 5 (mVal (mCompN [none,some 2,some 1] (gaName 0) (mRange1 (mCons (mCall cLen (mCons (mOp oIx (mVar 1) (mC (.int 2))) mNil)) mNil)) t__law_e_drawn_run_1 e__law_e_drawn_run_1)) [some (.ref L),some V,some (stV ss ls u),some (.ref S.length),some (.int ((0:Int) + (x:Int))),b5,b6] A=.nx [some (.ref L),some V,some (stV ss ls u),some (.ref S.length),some (.int ((0:Int) + (x:Int))),some (.lst (zs.map fun (k:Nat)=>.int ((0:Int) + (k:Int)))),b6] A:=by
        refine set_ok (val_ok (comp_ok (xs:=(List.range rs.length).map fun (k:Nat)=>.int ((0:Int) + (k:Int))) (w:=[]) (rgw (n:=rs.length) (by have:=K.len; omega) (bi_ok (cons_ok (op_ok rfl rfl (v2 A)) rfl) ?_)) hcomp))
        show Res.ok (PV.int ((rs.map ruV).length:Nat)) A=_
        rw [hlen]
      cases zs with
      | nil=>
        exact ⟨_,A,seq_nx s1 (if_f (tb_ok (op_ok rfl rfl rfl)) rfl),Ti,Mi,xs,ci,by omega,ss,ls,u,I,_,_,_,rfl⟩
      | cons z0 zr=>
        obtain ⟨d,A1,hd,TA,MA,ea⟩:=digit_ok Ti (z0 :: zr).length (by simp) (by omega)
        have hzd:=hzs _ (List.getElem_mem hd)
        generalize hzz:(z0 :: zr)[d]=z at hzd
        have hgz:((z0 :: zr).map fun (k:Nat)=>PV.int ((0:Int) + (k:Int)))[d]?=some (.int ((0:Int) + (z:Int))):=by rw [List.getElem?_map,List.getElem?_eq_getElem hd,hzz]; rfl
        have hr:rs[z]?=some rs[z]:=List.getElem?_eq_getElem hzd
        have J:=K.ru _ (List.getElem_mem hzd)
        have hix:=ru_at (k:=(0:Int) + (z:Int)) (by omega) (r:=rs[z]) (by rw [show ((0:Int) + (z:Int)).toNat=z by omega]; exact hr) A1
        have hst:=step_ok rs[z] (ss:=ss) (by rw [I.len]; exact J.h) (ls:=ls) (by have:=I.small K.w2; have:=J.ms; omega) u A1
        have hMi:S.length < A.length:=(List.getElem?_eq_some_iff.mp ci).1
        have c1:A1[S.length]?=some (.lst (xs.map .int)):=by rw [MA.keep _ hM]; exact ci
        have hM1:S.length < A1.length:=(List.getElem?_eq_some_iff.mp c1).1
        have hlz:cLen A [.lst ((z0 :: zr).map fun (k:Nat)=>PV.int ((0:Int) + (k:Int)))]=.ok (.int ((z0 :: zr).length:Nat)) A:=by
          show Res.ok (PV.int (((z0 :: zr).map fun (k:Nat)=>PV.int ((0:Int) + (k:Int))).length:Nat)) A=_
          rw [List.length_map]
        have hne:oNe A (.lst ((z0 :: zr).map fun (k:Nat)=>PV.int ((0:Int) + (k:Int)))) (.lst [])=.ok (.bl true) A:=by
          show (if good dep (.lst ((z0 :: zr).map fun (k:Nat)=>PV.int ((0:Int) + (k:Int))))=true/\good dep (.lst [])=true then _ else _)=_
          rw [if_pos ⟨by show ((z0 :: zr).map _).all (good 11)=true; rw [List.all_map,List.all_eq_true]; exact fun _ _=>rfl,rfl⟩]
          rfl
        refine ⟨_,A1.set S.length (.lst ((xs ++ [(0:Int) + (z:Int)]).map .int)),seq_nx s1 (if_t (tb_ok (op_ok rfl rfl hne)) (seq_nx (set_ok (op_ok rfl (call_ok (n:=2) (cons_ok rfl (cons_ok (bi_ok rfl hlz) rfl)) rfl ea) (ix_lst hgz A1))) (seq_nx (set_ok (call_ok (n:=2) (cons_ok (op_ok (op_ok rfl rfl (v2 A1)) rfl hix) rfl) rfl hst)) (app_ok (xs:=xs.map .int) rfl (by show (match A1[S.length]? with | some (.lst xs)=>some xs | _=>none)=_; rw [c1]) rfl (by rw [app_lst c1 (by rw [List.length_map]; omega),List.map_append]; rfl))))),TA.put hM _,⟨?_,fun t h1 h2=>?_⟩,xs ++ [(0:Int) + (z:Int)],?_,by rw [List.length_append]; simp; omega,_,_,_,I.step J,_,_,_,rfl⟩
        · rw [List.length_set]; exact Nat.le_trans Mi.len MA.w.len
        · rw [List.getElem?_set_ne (by omega)]
          exact (Mi.trans MA.w).keep t h1 h2
        · rw [List.getElem?_set_self hM1])
    (Γ:=[some (.ref L),some V,some (stV starts [] 0),some (.ref S.length),none,none,none]) (st:=S2)
    ⟨T2,(Mw.add L S _).trans M2.w,[],c2,Nat.le_refl _,starts,[],0,I0,none,none,none,rfl⟩
  rw [List.length_range] at hxl
  refine ⟨xs,S3,by omega,c3,T3,M3,callK_rt ?_⟩
  show m__law_e_drawn_run [some (.ref L),some V,none,none,none,none,none] S=_
  have v1:oIx S V (.int 1)=.ok (.tup (starts.map .str)) S:=by subst hV; rfl
  exact seq_nx (set_ok (tup_ok (cons_ok (op_ok rfl rfl v1) (cons_ok rfl (cons_ok rfl rfl))) (by simp))) (seq_nx (set_ok (trk_ok rfl)) (seq_nx (for_ok (rgw (n:=k) (by omega) (call_ok (n:=2) rfl rfl e2)) e3) (ret_ok rfl)))
theorem list_ref {S:Store} {D:Nat} {xs:List PV} (h:S[D]?=some (.lst xs)):listOf S (.ref D)=some xs/\seqOf S (.ref D)=some xs/\lstOf S (.ref D)=some xs:=by
  refine ⟨?_,?_,?_⟩
  · show (match S[D]? with | some (.lst xs)=>some xs | _=>none)=_; rw [h]
  · show (match S[D]? with | some (.lst xs)=>some xs | _=>none)=_; rw [h]
  · show (match S[D]? with | some (.lst xs)=>some xs | _=>none)=_; rw [h]
theorem bent_ok {ns:List Int} {S:Store} {L D:Nat} (T:TapeAt S L ns) (hD:D ≠ L) {xs:List Int} (hx:xs.length<=30) (cD:S[D]?=some (.lst (xs.map .int))) {starts:List Str} {rs:List Ru} (hrl:rs.length<=9) (most:Int) :
    ∃ (zs:List Int) (S':Store),zs.length<=100/\TapeAt S' L ns/\Mv L S S'/\F__law_e_bent [.ref L,manV most starts (rs.map ruV),.ref D] S=.ok (.lst (zs.map .int)) S':=by
  generalize hV:manV most starts (rs.map ruV)=V
  have v2:∀ A,oIx A V (.int 2)=.ok (.tup (rs.map ruV)) A:=fun A=>by subst hV; rfl
  have hlen:(rs.map ruV).length=rs.length:=List.length_map _
  have hln:∀ A,cLen A [.tup (rs.map ruV)]=.ok (.int (rs.length:Nat)) A:=fun A=>by show Res.ok (PV.int ((rs.map ruV).length:Nat)) A=_; rw [hlen]
  have hrun:cLen S [.ref D]=.ok (.int (xs.length:Nat)) S:=by
    unfold cLen
    simp only [(list_ref cD).2.1]
    rw [List.length_map]
  obtain ⟨at',S1,hat,T1,M1,e1⟩:=digit_ok T (xs.length + 1) (by omega) (by omega)
  obtain ⟨far,S2,hfar,T2,M2,e2⟩:=digit_ok T1 100000000000000000000 (by decide) (by decide)
  obtain ⟨dg,S3,hdg,T3,M3,e3⟩:=digit_ok T2 (rs.length + 1) (by omega) (by omega)
  obtain ⟨k4,S4,hk4,T4,M4,e4⟩:=digit_ok T3 6 (by decide) (by decide)
  obtain ⟨w,S5,hw,T5,M5,e5⟩:=digit_ok T4 6 (by decide) (by decide)
  have c5:S5[D]?=some (.lst (xs.map .int)):=by rw [M5.keep _ hD,M4.keep _ hD,M3.keep _ hD,M2.keep _ hD,M1.keep _ hD]; exact cD
  have MM:Mv L S S5:=⟨by rw [M5.len,M4.len,M3.len,M2.len,M1.len],fun t ht=>by rw [M5.keep _ ht,M4.keep _ ht,M3.keep _ ht,M2.keep _ ht,M1.keep _ ht]⟩
  generalize hB:[PV.int (-1),.int (rs.length:Nat),.int (-((rs.length:Nat):Int)),.int (((rs.length:Nat):Int) + ((far:Nat):Int)),.int (-1 - ((far:Nat):Int)),.int (dg:Nat)]=B
  obtain ⟨num,en⟩:∃ num:Int,oIx S4 (.lst B) (.int k4)=.ok (.int num) S4:=by
    subst hB
    have:k4=0\/k4=1\/k4=2\/k4=3\/k4=4\/k4=5:=by omega
    rcases this with rfl | rfl | rfl | rfl | rfl | rfl <;> exact ⟨_,rfl⟩
  have ha1:oAdd S (.int (xs.length:Nat)) (.int 1)=.ok (.int ((xs.length + 1:Nat):Int)) S:=by rw [addi]; push_cast; rfl
  have ha2:oAdd S2 (.int (rs.length:Nat)) (.int 1)=.ok (.int ((rs.length + 1:Nat):Int)) S2:=by rw [addi]; push_cast; rfl
  have hp:oPow S1 (.int 10) (.int 20)=.ok (.int ((100000000000000000000:Nat):Int)) S1:=rfl
  have sA:mSl (mVar 2) mNoPart (mPart (mVar 3)) [some (.ref L),some V,some (.ref D),some (.int at'),some (.int far),some (.lst B),some (.int num),some (.int w)] S5=.ok (.lst ((xs.take at').map .int)) S5:=by
    show oSl S5 (.ref D) none (some (at':Int))=_
    unfold oSl
    simp only [(list_ref c5).1]
    rw [cut_front,List.map_take]
  have sB:mSl (mVar 2) (mPart (mVar 3)) mNoPart [some (.ref L),some V,some (.ref D),some (.int at'),some (.int far),some (.lst B),some (.int num),some (.int w)] S5=.ok (.lst ((xs.drop at').map .int)) S5:=by
    show oSl S5 (.ref D) (some (at':Int)) none=_
    unfold oSl
    simp only [(list_ref c5).1]
    rw [cut_back,List.map_drop]
  have sC:mSl (mVar 2) (mPart (mOp oAdd (mVar 3) (mC (.int 1)))) mNoPart [some (.ref L),some V,some (.ref D),some (.int at'),some (.int far),some (.lst B),some (.int num),some (.int w)] S5=.ok (.lst ((xs.drop (at' + 1)).map .int)) S5:=by
    show oSl S5 (.ref D) (some ((at':Int) + 1)) none=_
    unfold oSl
    simp only [(list_ref c5).1]
    rw [show ((at':Int) + 1)=((at' + 1:Nat):Int) by push_cast; rfl,cut_back,List.map_drop]
  have ltk:(xs.take at').length<=30:=by rw [List.length_take]; omega
  have ld1:(xs.drop at').length<=30:=by rw [List.length_drop]; omega
  have ld2:(xs.drop (at' + 1)).length<=30:=by rw [List.length_drop]; omega
  have am:∀ (a b:List Int),a.length + b.length<=1000->oAdd S5 (.lst (a.map .int)) (.lst (b.map .int))=.ok (.lst ((a ++ b).map .int)) S5:=fun a b h=>by rw [addl S5 (by simp only [List.length_map]; omega),List.map_append]
  have pre:∀ {r:SR},(mSeqS (mIfS (toB (mOp oEq (mVar 7) (mC (.int 0)))) (mRet (mSl (mVar 2) mNoPart (mPart (mVar 3)))) mNext)
      (mSeqS (mIfS (toB (mOp oEq (mVar 7) (mC (.int 1)))) (mRet (mOp oAdd (mOp oAdd (mSl (mVar 2) mNoPart (mPart (mVar 3))) (mLst (mCons (mVar 6) mNil))) (mSl (mVar 2) (mPart (mOp oAdd (mVar 3) (mC (.int 1)))) mNoPart))) mNext)
      (mSeqS (mIfS (toB (mOp oEq (mVar 7) (mC (.int 2)))) (mRet (mOp oAdd (mOp oAdd (mSl (mVar 2) mNoPart (mPart (mVar 3))) (mLst (mCons (mVar 6) mNil))) (mSl (mVar 2) (mPart (mVar 3)) mNoPart))) mNext)
      (mSeqS (mIfS (toB (mOp oEq (mVar 7) (mC (.int 3)))) (mRet (mOp oAdd (mSl (mVar 2) mNoPart (mPart (mVar 3))) (mSl (mVar 2) (mPart (mOp oAdd (mVar 3) (mC (.int 1)))) mNoPart))) mNext)
      (mSeqS (mIfS (toB (mOp oEq (mVar 7) (mC (.int 4)))) (mRet (mOp oAdd (mVar 2) (mSl (mVar 2) (mPart (mVar 3)) mNoPart))) mNext)
      (mRet (mVal (mRevN (mVar 2) (mNeg (mC (.int 1)))))))))))
      [some (.ref L),some V,some (.ref D),some (.int at'),some (.int far),some (.lst B),some (.int num),some (.int w)] S5=r ->
      m__law_e_bent [some (.ref L),some V,some (.ref D),none,none,none,none,none] S=r:=fun h=>by
    unfold m__law_e_bent
    refine seq_nx (set_ok (call_ok (n:=2) (cons_ok rfl (cons_ok (op_ok (bi_ok rfl hrun) rfl ha1) rfl)) rfl e1)) ?_
    refine seq_nx (set_ok (call_ok (n:=2) (cons_ok rfl (cons_ok (op_ok rfl rfl hp) rfl)) rfl e2)) ?_
    have cl:∀ (Γ:Gam) (A:Store),mVar 1 Γ A=.ok V A->mCall cLen (mCons (mOp oIx (mVar 1) (mC (.int 2))) mNil) Γ A=.ok (.int (rs.length:Nat)) A:=fun Γ A h=>bi_ok (cons_ok (op_ok h rfl (v2 A)) rfl) (hln A)
    refine seq_nx (set_ok (v:=.lst B) (by
      subst hB
      exact bi_lst (cons_ok rfl (cons_ok (cl _ S2 rfl) (cons_ok (by rw [mNeg_eq,cl _ S2 rfl]; rfl) (cons_ok (op_ok (cl _ S2 rfl) rfl (addi S2 _ _)) (cons_ok (op_ok rfl rfl (subi S2 _ _)) (cons_ok (call_ok (n:=2) (cons_ok rfl (cons_ok (op_ok (cl _ S2 rfl) rfl ha2) rfl)) rfl e3) rfl)))))) (by simp))) ?_
    refine seq_nx (set_ok (op_ok rfl (call_ok (n:=2) rfl rfl e4) en)) ?_
    refine seq_nx (set_ok (call_ok (n:=2) rfl rfl e5)) ?_
    exact h
  have ne:∀ (j:Nat),w ≠ j->toB (mOp oEq (mVar 7) (mC (.int (j:Nat)))) [some (.ref L),some V,some (.ref D),some (.int at'),some (.int far),some (.lst B),some (.int num),some (.int w)] S5=.ok false S5:=fun j h=>tb_ok (op_ok rfl rfl (eqi_f S5 (by omega)))
  have eq:∀ (j:Nat),w=j->toB (mOp oEq (mVar 7) (mC (.int (j:Nat)))) [some (.ref L),some V,some (.ref D),some (.int at'),some (.int far),some (.lst B),some (.int num),some (.int w)] S5=.ok true S5:=fun j h=>tb_ok (op_ok rfl rfl (eqi_t S5 (by omega)))
  have n1:mLst (mCons (mVar 6) mNil) [some (.ref L),some V,some (.ref D),some (.int at'),some (.int far),some (.lst B),some (.int num),some (.int w)] S5=.ok (.lst ([num].map .int)) S5:=rfl
  have hcase:w=0\/w=1\/w=2\/w=3\/w=4\/w=5:=by omega
  rcases hcase with q | q | q | q | q | q
  · refine ⟨xs.take at',S5,by omega,T5,MM,callK_rt (pre ?_)⟩
    exact seq_rt (if_t (eq 0 q) (ret_ok sA))
  · refine ⟨xs.take at' ++ [num] ++ xs.drop (at' + 1),S5,by simp only [List.length_append]; simp; omega,T5,MM,callK_rt (pre ?_)⟩
    exact seq_nx (if_f (ne 0 (by omega)) rfl) (seq_rt (if_t (eq 1 q) (ret_ok (op_ok (op_ok sA n1 (am _ _ (by simp; omega))) sC (am _ _ (by simp only [List.length_append]; simp; omega))))))
  · refine ⟨xs.take at' ++ [num] ++ xs.drop at',S5,by simp only [List.length_append]; simp; omega,T5,MM,callK_rt (pre ?_)⟩
    exact seq_nx (if_f (ne 0 (by omega)) rfl) (seq_nx (if_f (ne 1 (by omega)) rfl) (seq_rt (if_t (eq 2 q) (ret_ok (op_ok (op_ok sA n1 (am _ _ (by simp; omega))) sB (am _ _ (by simp only [List.length_append]; simp; omega)))))))
  · refine ⟨xs.take at' ++ xs.drop (at' + 1),S5,by simp only [List.length_append]; omega,T5,MM,callK_rt (pre ?_)⟩
    exact seq_nx (if_f (ne 0 (by omega)) rfl) (seq_nx (if_f (ne 1 (by omega)) rfl) (seq_nx (if_f (ne 2 (by omega)) rfl) (seq_rt (if_t (eq 3 q) (ret_ok (op_ok sA sC (am _ _ (by omega))))))))
  · refine ⟨xs ++ xs.drop at',S5,by simp only [List.length_append]; omega,T5,MM,callK_rt (pre ?_)⟩
    have hadd:oAdd S5 (.ref D) (.lst ((xs.drop at').map .int))=.ok (.lst ((xs ++ xs.drop at').map .int)) S5:=by
      show (match lstOf S5 (.ref D),lstOf S5 (.lst ((xs.drop at').map .int)) with | some xs,some ys=>if xs.length + ys.length<=lim then Res.ok (PV.lst (xs ++ ys)) S5 else .stuck | _,_=>.stuck)=_
      rw [(list_ref c5).2.2]
      show (if (xs.map PV.int).length + ((xs.drop at').map PV.int).length<=lim then _ else _)=_
      rw [if_pos (by rw [lim_eq]; simp only [List.length_map]; omega),List.map_append]
    exact seq_nx (if_f (ne 0 (by omega)) rfl) (seq_nx (if_f (ne 1 (by omega)) rfl) (seq_nx (if_f (ne 2 (by omega)) rfl) (seq_nx (if_f (ne 3 (by omega)) rfl) (seq_rt (if_t (eq 4 q) (ret_ok (op_ok rfl sB hadd)))))))
  · refine ⟨xs.reverse,S5,by rw [List.length_reverse]; omega,T5,MM,callK_rt (pre ?_)⟩
    have hrv:mRevN (mVar 2) (mNeg (mC (.int 1))) [some (.ref L),some V,some (.ref D),some (.int at'),some (.int far),some (.lst B),some (.int num),some (.int w)] S5=.ok (xs.reverse.map .int) S5:=by
      rw [mRevN_eq]
      show (match PV.int (-1),listOf S5 (.ref D) with | .int i,some xs=>if i=-1 then Res.ok xs.reverse S5 else .stuck | _,_=>.stuck)=_
      rw [(list_ref c5).1]
      show Res.ok (xs.map PV.int).reverse S5=_
      rw [List.map_reverse]
    exact seq_nx (if_f (ne 0 (by omega)) rfl) (seq_nx (if_f (ne 1 (by omega)) rfl) (seq_nx (if_f (ne 2 (by omega)) rfl) (seq_nx (if_f (ne 3 (by omega)) rfl) (seq_nx (if_f (ne 4 (by omega)) rfl) (ret_ok (val_ok hrv))))))
theorem forG_invB {α:Type} (g:α->PV) {xs:List α} (I:Gam->Store->Prop) {ga:GA} {body:MS} (h:∀ x Γ st,x ∈ xs->I Γ st->∃ Γ1,ga (g x) Γ=some Γ1/\∃ Γ2 st2,I Γ2 st2/\(body Γ1 st=.nx Γ2 st2\/body Γ1 st=.bk Γ2 st2)) {Γ:Gam} {st:Store} (h0:I Γ st):∃ Γ' st',forG ga body [] (xs.map g) Γ st=.nx Γ' st'/\I Γ' st':=by
  induction xs generalizing Γ st with
  | nil=>exact ⟨Γ,st,by simp [forG],h0⟩
  | cons x xs ih=>
    obtain ⟨Γ1,h1,Γ2,st2,i2,e2⟩:=h x Γ st List.mem_cons_self h0
    rcases e2 with e2 | e2
    · obtain ⟨Γ',st',e',i'⟩:=ih (fun y Γ st hy=>h y Γ st (List.mem_cons_of_mem _ hy)) i2
      exact ⟨Γ',st',by simp [forG,h1,e2,e'],i'⟩
    · exact ⟨Γ2,st2,by simp [forG,h1,e2],i2⟩
def RunAt (S:Store) (v:PV) (ks:List Int):Prop:=v=.lst (ks.map .int)\/∃ D,v=.ref D/\S[D]?=some (.lst (ks.map .int))
theorem ints_good (ks:List Int):good dep (.lst (ks.map .int))=true:=by
  show (ks.map PV.int).all (good 11)=true
  rw [List.all_map,List.all_eq_true]
  exact fun _ _=>rfl
theorem RunAt.src {S:Store} {v:PV} {ks:List Int} (h:RunAt S v ks):∃ w,srcOf S v=some (ks.map .int,w)/\wOk w S:=by
  rcases h with rfl | ⟨D,rfl,c⟩
  · exact ⟨[],rfl,wOk_nil S⟩
  · refine ⟨[(D,.lst (ks.map .int))],?_,fun x hx=>?_⟩
    · show (match S[D]? with | some (.lst xs)=>some (xs,[(D,Cell.lst xs)]) | _=>none)=_
      rw [c]
    · have:x=(D,.lst (ks.map .int)):=by simpa using hx
      rw [this]; exact c
theorem RunAt.list {S:Store} {v:PV} {ks:List Int} (h:RunAt S v ks):cList S [v]=.ok (.lst (ks.map .int)) S:=by
  rcases h with rfl | ⟨D,rfl,c⟩
  · rfl
  · unfold cList
    simp only [(list_ref c).2.1]
theorem RunAt.ne {S:Store} {v:PV} {ks:List Int} (h:RunAt S v ks):oNe S (.lst (ks.map .int)) v=.ok (.bl false) S:=by
  have g:=ints_good ks
  have hp:peq (.lst (ks.map PV.int)) (.lst (ks.map PV.int))=true:=peq_self g
  have hd:der S v=.lst (ks.map .int):=by
    rcases h with rfl | ⟨D,rfl,c⟩
    · rfl
    · show (match S[D]? with | some (.lst xs)=>PV.lst xs | _=>.ref D)=_
      rw [c]
  unfold oNe
  rw [hd]
  show (if good dep (.lst (ks.map .int))=true/\good dep (.lst (ks.map .int))=true then Res.ok (PV.bl (!peq (.lst (ks.map .int)) (.lst (ks.map .int)))) S else .stuck)=_
  rw [if_pos ⟨g,g⟩,hp]
  rfl
theorem look_ok {starts ws:List Str} {rs:List Ru} (M:MI1 starts rs ws) {most:Int} (h:Man most starts (rs.map ruV)) {S:Store} {v:PV} {ks:List Int} (hv:RunAt S v ks) (hl:ks.length<=1000) (c0 c1 c2 c4 c5 c6 c8 c9:Option PV):∃ c6' c9',b_law_3 [c0,c1,c2,some (manV most starts (rs.map ruV)),c4,c5,c6,some v,c8,c9] S=.nx [c0,c1,c2,some (manV most starts (rs.map ruV)),c4,c5,c6',some v,some (.lst (ks.map .int)),c9'] S:=by
  obtain ⟨w,hs,hw⟩:=hv.src
  have hb:=break_ok M h (S:=S) hl
  have hk:=breaks_ok M most hs hw hl
  generalize manV most starts (rs.map ruV)=V at *
  generalize hR:PV.lst (ks.map .int)=R at *
  have hne:=hv.ne
  rw [hR] at hne
  have turn:∀ a c9,b_law_4 [c0,c1,c2,some V,c4,c5,a,some v,some R,c9] S=.nx [c0,c1,c2,some V,c4,c5,a,some v,some R,some (.bl (brkB most starts rs ks))] S:=fun a c9=>
    seq_nx (set_ok (call_ok (n:=2) rfl rfl hb)) (if_f (or_f (not_ok (tb_ok (isI_ok "bool" (p:=.bl (brkB most starts rs ks)) rfl trivial))) (or_f (tb_ok (op_ok rfl (call_ok (n:=2) rfl rfl hk) (ne_good rfl rfl))) (tb_ok (op_ok rfl rfl hne)))) rfl)
  have hls:cList S [v]=.ok R S:=by rw [<- hR]; exact hv.list
  have t0:=turn (some (.int ((0:Int) + ((0:Nat):Int)))) c9
  have t1:=turn (some (.int ((0:Int) + ((1:Nat):Int)))) (some (.bl (brkB most starts rs ks)))
  refine ⟨some (.int ((0:Int) + ((1:Nat):Int))),some (.bl (brkB most starts rs ks)),seq_nx (set_ok (bi_ok rfl hls)) (for_ok (rg_ok (n:=2) (by decide) rfl) ?_)⟩
  show forG (gaName 6) b_law_4 [] [.int ((0:Int) + ((0:Nat):Int)),.int ((0:Int) + ((1:Nat):Int))] _ _=_
  rw [forG,if_pos (wOk_nil S)]
  show (match b_law_4 [c0,c1,c2,some V,c4,c5,some (.int ((0:Int) + ((0:Nat):Int))),some v,some R,c9] S with | .nx Γ2 st2=>forG (gaName 6) b_law_4 [] [.int ((0:Int) + ((1:Nat):Int))] Γ2 st2 | .ct Γ2 st2=>forG (gaName 6) b_law_4 [] [.int ((0:Int) + ((1:Nat):Int))] Γ2 st2 | .bk Γ2 st2=>.nx Γ2 st2 | .rt v st2=>.rt v st2 | .exc x st2=>.exc x st2 | .stuck=>.stuck)=_
  rw [t0]
  show forG (gaName 6) b_law_4 [] [.int ((0:Int) + ((1:Nat):Int))] _ _=_
  rw [forG,if_pos (wOk_nil S)]
  show (match b_law_4 [c0,c1,c2,some V,c4,c5,some (.int ((0:Int) + ((1:Nat):Int))),some v,some R,some (.bl (brkB most starts rs ks))] S with | .nx Γ2 st2=>forG (gaName 6) b_law_4 [] [] Γ2 st2 | .ct Γ2 st2=>forG (gaName 6) b_law_4 [] [] Γ2 st2 | .bk Γ2 st2=>.nx Γ2 st2 | .rt v st2=>.rt v st2 | .exc x st2=>.exc x st2 | .stuck=>.stuck)=_
  rw [t1]
  show forG (gaName 6) b_law_4 [] [] _ _=_
  rw [forG,if_pos (wOk_nil S)]
theorem looks_ok {starts ws:List Str} {rs:List Ru} (M:MI1 starts rs ws) {most:Int} (h:Man most starts (rs.map ruV)) {S:Store} {w:Wt} (hw:wOk w S) {c0 c1 c2 c4 c5:Option PV}:∀ {vs:List PV} (c6 c7 c8 c9:Option PV),(∀ v ∈ vs,∃ ks:List Int,ks.length<=1000/\RunAt S v ks)->∃ d6 d7 d8 d9,forG (gaName 7) b_law_3 w vs [c0,c1,c2,some (manV most starts (rs.map ruV)),c4,c5,c6,c7,c8,c9] S=.nx [c0,c1,c2,some (manV most starts (rs.map ruV)),c4,c5,d6,d7,d8,d9] S
  | [],c6,c7,c8,c9,_=>⟨c6,c7,c8,c9,by rw [forG,if_pos hw]⟩
  | v :: vs,c6,c7,c8,c9,hv=>by
    obtain ⟨ks,hl,hr⟩:=hv v (by simp)
    obtain ⟨e6,e9,hb⟩:=look_ok M h hr hl c0 c1 c2 c4 c5 c6 c8 c9
    obtain ⟨d6,d7,d8,d9,ih⟩:=looks_ok M h hw (vs:=vs) (c0:=c0) (c1:=c1) (c2:=c2) (c4:=c4) (c5:=c5) e6 (some v) (some (.lst (ks.map .int))) e9 fun x hx=>hv x (List.mem_cons_of_mem _ hx)
    refine ⟨d6,d7,d8,d9,?_⟩
    rw [forG,if_pos hw]
    show (match b_law_3 [c0,c1,c2,some (manV most starts (rs.map ruV)),c4,c5,c6,some v,c8,c9] S with | .nx Γ2 st2=>forG (gaName 7) b_law_3 w vs Γ2 st2 | .ct Γ2 st2=>forG (gaName 7) b_law_3 w vs Γ2 st2 | .bk Γ2 st2=>.nx Γ2 st2 | .rt v st2=>.rt v st2 | .exc x st2=>.exc x st2 | .stuck=>.stuck)=_
    rw [hb]
    exact ih
theorem law_ok (ns:List Int):∃ S',m_law [some (.fro (ns.map .int)),none,none,none,none,none,none,none,none,none] []=.rt (.bl true) S':=by
  have T0:TapeAt [Cell.lst [.fro (ns.map .int),.int 0,.int 0]] 0 ns:=⟨0,0,rfl⟩
  obtain ⟨Γ1,S1,e1,T1,x2,x3,x4,x5,x6,x7,x8,x9,rfl⟩:=forG_invB (xs:=List.range 3) (fun (i:Nat)=>PV.int ((0:Int) + (i:Int))) (fun Γ A=>TapeAt A 0 ns/\∃ c2 c3 c4 c5 c6 c7 c8 c9,Γ=[some (.fro (ns.map .int)),some (.ref 0),c2,c3,c4,c5,c6,c7,c8,c9])
    (ga:=gaName 2) (body:=b_law_1) (fun x Γ A _ ⟨T,c2,c3,c4,c5,c6,c7,c8,c9,eΓ⟩=>by
      subst eΓ
      refine ⟨_,rfl,?_⟩
      have hT:=T
      obtain ⟨p,c,eS⟩:=T
      obtain ⟨_,i1,_⟩:=tape_ix eS
      by_cases q:(1:Int) < (0:Int) + (x:Int)/\((ns.map PV.int).length:Int)<=(p:Int)
      · refine ⟨[some (.fro (ns.map .int)),some (.ref 0),some (.int ((0:Int) + (x:Int))),c3,c4,c5,c6,c7,c8,c9],A,⟨hT,_,_,_,_,_,_,_,_,rfl⟩,.inr ?_⟩
        unfold b_law_1
        have h1:(tAndM (toB (mOp (oI fun a b=>.bl (decide (b < a))) (mVar 2) (mC (.int 1)))) (toB (mOp (oI fun a b=>.bl (decide (b<=a))) (mOp oIx (mVar 1) (mC (.int 1))) (mCall cLen (mCons (mVar 0) mNil))))) [some (.fro (ns.map .int)),some (.ref 0),some (.int ((0:Int) + (x:Int))),c3,c4,c5,c6,c7,c8,c9] A=.ok true A:=
          and_t (tb_ok (op_ok rfl rfl (gti_t A q.1))) (tb_ok (op_ok (op_ok rfl rfl i1) rfl (by show Res.ok (PV.bl (decide _)) A=_; rw [decide_eq_true q.2])))
        show mSeqS _ _ [some (.fro (ns.map .int)),some (.ref 0),some (.int ((0:Int) + (x:Int))),c3,c4,c5,c6,c7,c8,c9] A=_
        rw [mSeqS_eq,if_t h1 (show mBreak _ A=.bk _ A from rfl)]
      · have h1:(tAndM (toB (mOp (oI fun a b=>.bl (decide (b < a))) (mVar 2) (mC (.int 1)))) (toB (mOp (oI fun a b=>.bl (decide (b<=a))) (mOp oIx (mVar 1) (mC (.int 1))) (mCall cLen (mCons (mVar 0) mNil))))) [some (.fro (ns.map .int)),some (.ref 0),some (.int ((0:Int) + (x:Int))),c3,c4,c5,c6,c7,c8,c9] A=.ok false A:=by
          by_cases q1:(1:Int) < (0:Int) + (x:Int)
          · exact and_t (tb_ok (op_ok rfl rfl (gti_t A q1))) (tb_ok (op_ok (op_ok rfl rfl i1) rfl (by show Res.ok (PV.bl (decide _)) A=_; rw [decide_eq_false (fun h=>q ⟨q1,h⟩)])))
          · exact and_f (tb_ok (op_ok rfl rfl (gti_f A q1)))
        obtain ⟨most,starts,rules,A1,hM,T1,M1,e1⟩:=manner_ok hT
        obtain ⟨rs,ws,rfl,K⟩:=man_of hM
        obtain ⟨xs,A2,hxl,c2',T2,M2,e2⟩:=drawn_run_ok T1 K most
        have hD:A1.length ≠ 0:=by have:=T1.lt; omega
        have hDl:A1.length < A2.length:=(List.getElem?_eq_some_iff.mp c2').1
        have T3:=T2.add (.lst [.ref A1.length,.lst []])
        have hE:A2.length ≠ 0:=by omega
        obtain ⟨Γ4,A4,e4,T4,cD,l4,vs,cE,hvl,hvs,a6,rfl⟩:=forG_inv (xs:=List.range 6) (fun (i:Nat)=>PV.int ((0:Int) + (i:Int)))
          (fun i Γ B=>TapeAt B 0 ns/\B[A1.length]?=some (.lst (xs.map .int))/\A2.length < B.length/\∃ vs:List PV,B[A2.length]?=some (.lst vs)/\vs.length<=2 + i/\(∀ v ∈ vs,∃ ks:List Int,ks.length<=1000/\(v=.lst (ks.map .int)\/(v=.ref A1.length/\ks=xs)))/\∃ a6,Γ=[some (.fro (ns.map .int)),some (.ref 0),some (.int ((0:Int) + (x:Int))),some (manV most starts (rs.map ruV)),some (.ref A1.length),some (.ref A2.length),a6,c7,c8,c9])
          (ga:=gaName 6) (body:=b_law_2) (w:=[]) (fun _ _ B _=>wOk_nil B) (fun i y Γ B hy ⟨TB,cD,lB,vs,cE,hvl,hvs,a6,eΓ⟩=>by
            subst eΓ
            obtain ⟨zs,B1,hzl,TB1,MB,eb⟩:=bent_ok TB hD (by omega) cD (starts:=starts) K.len most
            have cE1:B1[A2.length]?=some (.lst vs):=by rw [MB.keep _ hE]; exact cE
            have hEl:A2.length < B1.length:=(List.getElem?_eq_some_iff.mp cE1).1
            have hy6:i < 6:=by have:=(List.getElem?_eq_some_iff.mp hy).1; rwa [List.length_range] at this
            refine ⟨_,rfl,_,B1.set A2.length (.lst (vs ++ [.lst (zs.map .int)])),app_ok (xs:=vs) rfl (list_ref cE).1 (cons_ok (call_ok (n:=3) rfl rfl eb) rfl) (app_lst cE1 (by omega) _),TB1.put hE _,?_,by rw [List.length_set]; exact hEl,vs ++ [.lst (zs.map .int)],List.getElem?_set_self hEl,by rw [List.length_append]; simp; omega,fun v hv=>?_,_,rfl⟩
            · rw [List.getElem?_set_ne (by omega),MB.keep _ hD]; exact cD
            · rcases List.mem_append.mp hv with hv | hv
              · exact hvs v hv
              · have:v=.lst (zs.map .int):=by simpa using hv
                exact ⟨zs,by omega,.inl this⟩)
          (Γ:=[some (.fro (ns.map .int)),some (.ref 0),some (.int ((0:Int) + (x:Int))),some (manV most starts (rs.map ruV)),some (.ref A1.length),some (.ref A2.length),c6,c7,c8,c9]) (st:=A2 ++ [Cell.lst [.ref A1.length,.lst []]])
          ⟨T3,by rw [List.getElem?_append_left hDl]; exact c2',by simp,[.ref A1.length,.lst []],last_at _ _,by simp,fun v hv=>by
            simp only [List.mem_cons,List.not_mem_nil,or_false] at hv
            rcases hv with rfl | rfl
            · exact ⟨xs,by omega,.inr ⟨rfl,rfl⟩⟩
            · exact ⟨[],by simp,.inl rfl⟩,c6,rfl⟩
        obtain ⟨d6,d7,d8,d9,e5⟩:=looks_ok K hM (S:=A4) (w:=[(A2.length,.lst vs)]) (fun z hz=>by
            have:z=(A2.length,.lst vs):=by simpa using hz
            rw [this]; exact cE) (c0:=some (.fro (ns.map .int))) (c1:=some (.ref 0)) (c2:=some (.int ((0:Int) + (x:Int)))) (c4:=some (.ref A1.length)) (c5:=some (.ref A2.length)) (vs:=vs) a6 c7 c8 c9 fun v hv=>by
          obtain ⟨ks,hl,h⟩:=hvs v hv
          refine ⟨ks,hl,?_⟩
          rcases h with h | ⟨h,rfl⟩
          · exact .inl h
          · exact .inr ⟨_,h,cD⟩
        refine ⟨[some (.fro (ns.map .int)),some (.ref 0),some (.int ((0:Int) + (x:Int))),some (manV most starts (rs.map ruV)),some (.ref A1.length),some (.ref A2.length),d6,d7,d8,d9],A4,⟨T4,_,_,_,_,_,_,_,_,rfl⟩,.inl ?_⟩
        have hsrc:srcOf A4 (.ref A2.length)=some (vs,[(A2.length,.lst vs)]):=by
          show (match A4[A2.length]? with | some (.lst xs)=>some (xs,[(A2.length,Cell.lst xs)]) | _=>none)=_
          rw [cE]
        rw [List.length_range] at hvl
        exact seq_nx (if_f h1 rfl) (seq_nx (set_ok (call_ok (n:=1) rfl rfl e1)) (seq_nx (set_ok (call_ok (n:=2) rfl rfl e2)) (seq_nx (set_ok (trk_ok rfl)) (seq_nx (for_ok (rg_ok (n:=6) (by decide) rfl) e4) (for_ok (sq_ok rfl hsrc (by omega)) e5))))))
    (Γ:=[some (.fro (ns.map .int)),some (.ref 0),none,none,none,none,none,none,none,none]) (st:=[Cell.lst [.fro (ns.map .int),.int 0,.int 0]])
    ⟨T0,none,none,none,none,none,none,none,none,rfl⟩
  exact ⟨S1,seq_nx (set_ok (trk_ok rfl)) (seq_nx (for_ok (rg_ok (n:=3) (by decide) rfl) e1) (ret_ok rfl))⟩
theorem law_all:∀ ns:List Int,ns.length<=63->∃ st',F_law [.fro (ns.map .int)] []=.ok (.bl true) st':=fun ns _=>by
  obtain ⟨S',e⟩:=law_ok ns
  have:=callF_rt (nl:=10) (ps:=[.fro (ns.map .int)]) e
  refine ⟨[],?_⟩
  unfold F_law
  rw [this]
  unfold fin
  rw [if_pos (List.nil_prefix)]
  simp [fz,okO]
end Lw
namespace Lw
open PySem PySem.Spec L2 Sm
theorem all_mk {l:PySem.W.OpenLaw} {w:World} {K:PySem.W.Frag} {h:Heap} {mg:Str->Option Value} {fa f1 f2 f3 f4 f5 f6 f7 f8 f9 f10 f11 f12 f13 f14 f15 f16 f17 f18 f19 f20 f21 f22 f23 f24 f25 f26:Addr} (X:K.In h) (G:h.Ns mainGlobals mg) (hfa:mg "law" = some (.ref fa))
    {od26 an26:Option Addr} {sl26:Array (Option Value)} {oc26 kV26 dc26 pm26 cd26 ct26:Value}
    {e_NoManner:Addr}
    {t_MOST_SIGNS_OF_WORD:Tok}
    {t_MOST_STOCK:Tok}
    {t_MOST_STARTS:Tok}
    {t_MOST_RULES:Tok}
    {t_MOST_USE_AT_ONCE:Tok}
    {t_MOST_LETTERS_OF_RULE:Tok}
    {ua_EVENTS_WITHOUT_LETTER:Addr} {ut_EVENTS_WITHOUT_LETTER0 ut_EVENTS_WITHOUT_LETTER1:Tok} {um_EVENTS_WITHOUT_LETTER:Nat} {us_EVENTS_WITHOUT_LETTER:Array (Option Value)}
    (a26:PySem.W.nsIn K mainGlobals "law" = some (some (.ref f26)))
    (l26:K.lookup f26=some ⟨oc26,od26,.func (PySem.W.fnOf "law" "law" (defArgs s_law) (defBody s_law) (defScope s_law) .none kV26 dc26 pm26 an26 cd26 ct26),sl26⟩)
    (c26:PySem.W.codeIn K cd26 "law" = true)
    (k26:PySem.W.keepIn K (.ref f26)=true)
    (z_all:PySem.W.nsIn K mainGlobals "all" = some none)
    (z_bool:PySem.W.nsIn K mainGlobals "bool" = some none)
    (z_int:PySem.W.nsIn K mainGlobals "int" = some none)
    (z_isinstance:PySem.W.nsIn K mainGlobals "isinstance" = some none)
    (z_len:PySem.W.nsIn K mainGlobals "len" = some none)
    (z_list:PySem.W.nsIn K mainGlobals "list" = some none)
    (z_range:PySem.W.nsIn K mainGlobals "range" = some none)
    (z_set:PySem.W.nsIn K mainGlobals "set" = some none)
    (z_sorted:PySem.W.nsIn K mainGlobals "sorted" = some none)
    (z_str:PySem.W.nsIn K mainGlobals "str" = some none)
    (z_tuple:PySem.W.nsIn K mainGlobals "tuple" = some none)
    (v_MOST_SIGNS_OF_WORD:PySem.W.nsIn K mainGlobals "MOST_SIGNS_OF_WORD" = some (some (.int 8 t_MOST_SIGNS_OF_WORD)))
    (v_MOST_STOCK:PySem.W.nsIn K mainGlobals "MOST_STOCK" = some (some (.int 20 t_MOST_STOCK)))
    (v_MOST_STARTS:PySem.W.nsIn K mainGlobals "MOST_STARTS" = some (some (.int 4 t_MOST_STARTS)))
    (v_MOST_RULES:PySem.W.nsIn K mainGlobals "MOST_RULES" = some (some (.int 60 t_MOST_RULES)))
    (v_MOST_USE_AT_ONCE:PySem.W.nsIn K mainGlobals "MOST_USE_AT_ONCE" = some (some (.int 9 t_MOST_USE_AT_ONCE)))
    (v_MOST_LETTERS_OF_RULE:PySem.W.nsIn K mainGlobals "MOST_LETTERS_OF_RULE" = some (some (.int 8 t_MOST_LETTERS_OF_RULE)))
    (un_EVENTS_WITHOUT_LETTER:PySem.W.nsIn K mainGlobals "EVENTS_WITHOUT_LETTER" = some (some (.ref ua_EVENTS_WITHOUT_LETTER)))
    (ul_EVENTS_WITHOUT_LETTER:K.lookup ua_EVENTS_WITHOUT_LETTER=some ⟨.type "tuple",none,.seq #[.str "go" ut_EVENTS_WITHOUT_LETTER0,.str "fall" ut_EVENTS_WITHOUT_LETTER1] um_EVENTS_WITHOUT_LETTER,us_EVENTS_WITHOUT_LETTER⟩)
    (n_NoManner:PySem.W.nsIn K mainGlobals "NoManner" = some (some (.ref e_NoManner)))
    (h1:FA K "is_whole" s_is_whole f1)
    (h2:FA K "is_between" s_is_between f2)
    (h3:FA K "is_sized_tuple" s_is_sized_tuple f3)
    (h4:FA K "is_word" s_is_word f4)
    (h5:FA K "is_letter" s_is_letter f5)
    (h6:FA K "are_letters_of_rule" s_are_letters_of_rule f6)
    (h7:FA K "is_rule" s_is_rule f7)
    (h8:FA K "are_rules" s_are_rules f8)
    (h9:FA K "are_starts" s_are_starts f9)
    (h10:FA K "is_manner" s_is_manner f10)
    (h11:FA K "need_manner" s_need_manner f11)
    (h12:FA K "may_be_done" s_may_be_done f12)
    (h13:FA K "used_behind" s_used_behind f13)
    (h14:FA K "is_break" s_is_break f14)
    (h15:FA K "_law_e_stirred" s__law_e_stirred f15)
    (h16:FA K "_law_e_digit" s__law_e_digit f16)
    (h17:FA K "_law_e_name" s__law_e_name f17)
    (h18:FA K "_law_e_letter_name" s__law_e_letter_name f18)
    (h19:FA K "_law_e_rule" s__law_e_rule f19)
    (h20:FA K "_law_e_manner" s__law_e_manner f20)
    (h21:FA K "_law_e_fits" s__law_e_fits f21)
    (h22:FA K "_law_e_step" s__law_e_step f22)
    (h23:FA K "_law_e_breaks" s__law_e_breaks f23)
    (h24:FA K "_law_e_drawn_run" s__law_e_drawn_run f24)
    (h25:FA K "_law_e_bent" s__law_e_bent f25)
    (x_NoManner:PySem.W.excIn K e_NoManner bmVE "ValueError.__new__" = true)
    (hL:noL K=true) :
    ∃ fd:FuncData,(∀ (s:Shared) (v:Value),BindsTo s fd ⟨[v],[]⟩ [("script",v)])/\∀ base:Heap,K.In base->base.Ns mainGlobals mg->FnOk l.prog w K mg base (CXD l.prog w) 10 fa fd ["script"] (spLawS K):=by
  have e:=hfa.symm.trans (PySem.W.mg_of X G a26)
  cases e
  have T:Txt K mg:=⟨PySem.W.mg_none_of X G z_all,PySem.W.mg_none_of X G z_bool,PySem.W.mg_none_of X G z_int,PySem.W.mg_none_of X G z_isinstance,PySem.W.mg_none_of X G z_len,PySem.W.mg_none_of X G z_list,PySem.W.mg_none_of X G z_range,PySem.W.mg_none_of X G z_set,PySem.W.mg_none_of X G z_sorted,PySem.W.mg_none_of X G z_str,PySem.W.mg_none_of X G z_tuple,⟨_,PySem.W.mg_of X G v_MOST_SIGNS_OF_WORD⟩,⟨_,PySem.W.mg_of X G v_MOST_STOCK⟩,⟨_,PySem.W.mg_of X G v_MOST_STARTS⟩,⟨_,PySem.W.mg_of X G v_MOST_RULES⟩,⟨_,PySem.W.mg_of X G v_MOST_USE_AT_ONCE⟩,⟨_,PySem.W.mg_of X G v_MOST_LETTERS_OF_RULE⟩,⟨_,_,_,_,PySem.W.mg_of X G un_EVENTS_WITHOUT_LETTER,ul_EVENTS_WITHOUT_LETTER,rfl,rfl,(by show 2<=sizeLine; decide),.cons ⟨_,rfl⟩ (.cons ⟨_,rfl⟩ (.nil))⟩⟩
  have C_NoManner:∃ C,mg "NoManner" = some (.ref C)/\PySem.W.excIn K C bmVE "ValueError.__new__" = true:=⟨_,PySem.W.mg_of X G n_NoManner,x_NoManner⟩
  obtain ⟨_,A1⟩:=atS2 ["thing"] X G h1
  obtain ⟨_,A2⟩:=atS2 ["thing", "least", "most"] X G h2
  obtain ⟨_,A3⟩:=atS2 ["thing", "least", "most"] X G h3
  obtain ⟨_,A4⟩:=atS2 ["thing"] X G h4
  obtain ⟨_,A5⟩:=atS2 ["n", "thing"] X G h5
  obtain ⟨_,A6⟩:=atS2 ["n", "thing"] X G h6
  obtain ⟨_,A7⟩:=atS2 ["n", "thing"] X G h7
  obtain ⟨_,A8⟩:=atS2 ["n", "thing"] X G h8
  obtain ⟨_,A9⟩:=atS2 ["thing"] X G h9
  obtain ⟨_,A10⟩:=atS2 ["thing"] X G h10
  obtain ⟨_,A11⟩:=atS2 ["manner"] X G h11
  obtain ⟨_,A12⟩:=atS2 ["rule", "stand"] X G h12
  obtain ⟨_,A13⟩:=atS2 ["manner", "run"] X G h13
  obtain ⟨_,A14⟩:=atS2 ["manner", "run"] X G h14
  obtain ⟨_,A15⟩:=atS2 ["cell", "place"] X G h15
  obtain ⟨_,A16⟩:=atS2 ["tape", "many"] X G h16
  obtain ⟨_,A17⟩:=atS2 ["tape"] X G h17
  obtain ⟨_,A18⟩:=atS2 ["tape"] X G h18
  obtain ⟨_,A19⟩:=atS2 ["tape", "n", "states", "names"] X G h19
  obtain ⟨_,A20⟩:=atS2 ["tape"] X G h20
  obtain ⟨_,A21⟩:=atS2 ["rule", "stand"] X G h21
  obtain ⟨_,A22⟩:=atS2 ["rule", "stand"] X G h22
  obtain ⟨_,A23⟩:=atS2 ["manner", "run"] X G h23
  obtain ⟨_,A24⟩:=atS2 ["tape", "manner"] X G h24
  obtain ⟨_,A25⟩:=atS2 ["tape", "manner", "run"] X G h25
  have A26:=atS_mk (st:=s_law) (ps:=["script"]) X G a26 l26 c26 k26 fun _ _ _ _ _ _ us hl=>match us,hl with | [_],_=>rfl
  refine ⟨PySem.W.fnOf "law" "law" (defArgs s_law) (defBody s_law) (defScope s_law) .none kV26 dc26 pm26 an26 cd26 ct26,fun s v=>.of_eq rfl,fun base kb nb=>?_⟩
  have D_is_whole:=A1.d l.prog w base rfl (ok_is_whole A1.F T    )
  have D_is_between:=A2.d l.prog w base rfl (ok_is_between A2.F T   D_is_whole )
  have D_is_sized_tuple:=A3.d l.prog w base rfl (ok_is_sized_tuple A3.F T    )
  have D_is_word:=A4.d l.prog w base rfl (ok_is_word A4.F T    )
  have D_is_letter:=A5.d l.prog w base rfl (ok_is_letter A5.F T   D_is_sized_tuple D_is_between D_is_word )
  have D_are_letters_of_rule:=A6.d l.prog w base rfl (ok_are_letters_of_rule A6.F T   D_is_sized_tuple D_is_letter )
  have D_is_rule:=A7.d l.prog w base rfl (ok_is_rule A7.F T   D_is_sized_tuple D_is_between D_is_word D_are_letters_of_rule )
  have D_are_rules:=A8.d l.prog w base rfl (ok_are_rules A8.F T   D_is_sized_tuple D_is_rule )
  have D_are_starts:=A9.d l.prog w base rfl (ok_are_starts A9.F T   D_is_sized_tuple D_is_word )
  have D_is_manner:=A10.d l.prog w base rfl (ok_is_manner A10.F T   D_is_sized_tuple D_is_between D_are_starts D_are_rules )
  have D_need_manner:=A11.d l.prog w base rfl (ok_need_manner A11.F T  C_NoManner D_is_manner )
  have D_may_be_done:=A12.d l.prog w base rfl (ok_may_be_done A12.F T    )
  have D_used_behind:=A13.d l.prog w base rfl (ok_used_behind A13.F T   D_may_be_done )
  have D_is_break:=A14.d l.prog w base rfl (ok_is_break A14.F T   D_need_manner D_used_behind )
  have D__law_e_stirred:=A15.d l.prog w base rfl (ok__law_e_stirred A15.F T    )
  have D__law_e_digit:=A16.d l.prog w base rfl (ok__law_e_digit A16.F T   D__law_e_stirred )
  have D__law_e_name:=A17.d l.prog w base rfl (ok__law_e_name A17.F T   D__law_e_digit )
  have D__law_e_letter_name:=A18.d l.prog w base rfl (ok__law_e_letter_name A18.F T   D__law_e_name )
  have D__law_e_rule:=A19.d l.prog w base rfl (ok__law_e_rule A19.F T   D__law_e_digit )
  have D__law_e_manner:=A20.d l.prog w base rfl (ok__law_e_manner A20.F T   D__law_e_digit D__law_e_name D__law_e_letter_name D__law_e_rule )
  have D__law_e_fits:=A21.d l.prog w base rfl (ok__law_e_fits A21.F T    )
  have D__law_e_step:=A22.d l.prog w base rfl (ok__law_e_step A22.F T    )
  have D__law_e_breaks:=A23.d l.prog w base rfl (ok__law_e_breaks A23.F T   D__law_e_fits D__law_e_step )
  have D__law_e_drawn_run:=A24.d l.prog w base rfl (ok__law_e_drawn_run A24.F T   D__law_e_digit D__law_e_fits D__law_e_step )
  have D__law_e_bent:=A25.d l.prog w base rfl (ok__law_e_bent A25.F T   D__law_e_digit )
  exact law_imp hL (ok_law A26.F T   D__law_e_manner D__law_e_drawn_run D__law_e_bent D_is_break D__law_e_breaks ) law_all
end Lw
theorem PySem.W.Fast.tw4991933747030889021 : True := trivial
theorem PySem.W.Fast.tw3098091397980633094 : True := trivial
theorem PySem.W.Fast.tw5846928550650315254 : True := trivial
theorem PySem.W.Fast.tw15953556939500017004 : True := trivial
theorem PySem.W.Fast.tw6793298695672708648 : True := trivial
theorem PySem.W.Fast.tw9985399261839405281 : True := trivial
theorem PySem.W.Fast.tw3600463579451334298 : True := trivial
theorem PySem.W.Fast.te7302963650942281547 : True := trivial
open PySem PySem.W PyProof.Rows Sm
set_option maxRecDepth 100000 in
set_option maxHeartbeats 0 in
theorem PySem.Challenge.cw_lendwharf_k61_runs_looked_at_holds : PySem.Challenge.rw_lendwharf_k61_runs_looked_at.Holds := by
  w_on; o_law; k_head; (case hw=>w_witness2)
  k_fill
  refine Sm.walkS (l:=PySem.Challenge.rw_lendwharf_k61_runs_looked_at) (k:=10) rfl ⟨rfl,by decide,by decide⟩ rfl (fun w h Y=>PySem.W.kIn_of Y) ?F
  case F=>
    intro w mg fa h KX G hmg
    refine' Lw.all_mk KX G hmg ..
    any_goals k_is
    any_goals exact FA.mk (by k_is) (by k_is) (by k_is) (by k_is)
    any_goals k_exc
    all_goals first | rfl | decide
