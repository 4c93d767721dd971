import PyProof.Rows.All
import Wide.All
import OpenK.AllK
import Wide.FinOn
import Lean
import PyProof.EqAt
import PyProof.EqKinds
import PyProof.TupleCall
import PyProof.ZipIter
import PyProof.Draws
import PyProof.SumAny
import PyProof.EnumMake
import PyProof.WalkInts
import PyProof.ExcArgsOwn
import PyProof.ExcAttrAll.ValueError
import PyProof.NsDelKeeps
import KE.KTryMore
import OpenK.KOwn
import PyProof.ListMulRoad
import PyProof.FactsAll.tuple_2
import PyProof.NeKinds
import PyProof.Rows.RuleIs
import PyProof.ExcInit
import PyProof.ExcClass3
import OpenK.KCls
import PyProof.InstStoreFacts
import OpenK.KMake
import PyProof.DictRoads
import PyProof.Rows.CountFlat
import PyProof.ListRange
import PyProof.Rows.SetFrom
import PyProof.CollectStr
import PyProof.Rows.TupMore
import PyProof.AttrMissHeap
import KE.KDictOf
import PyProof.DictWalks
import KE.KSortTup
import PyProof.DictItemsLoops
import KE.KDictList
import PyProof.CallStr
import PyProof.StrWalks
import PyProof.StrOps
import PyProof.StrCalls2
import KE.KRevIter
import PyProof.Rows.StrOrd
import PyProof.Rows.StrNews
import PyProof.JoinWalk
import PyProof.CollectIter
import PyProof.Conv_int
import PyProof.FactsAll.str
import PyProof.Conv_int_bool
import PySem.Challenge.RW_lendwharf_k68_table_texts
set_option Elab.async false
set_option linter.all false
set_option maxRecDepth 100000
set_option maxHeartbeats 4000000
noncomputable section
namespace L2
open PySem PySem.Spec PyProof.Rows
abbrev Key:=Sum Int Str
def keyIs : Key -> Value -> Bool
  | .inl k,v=>Value.isInt k v
  | .inr x,v=>Value.isStrOf x v
def keyH (w : World) : Key -> Int
  | .inl k=>hashInt k
  | .inr x=>hashStr w x
theorem keyIs_shape : ∀ {k : Key} {v : Value},keyIs k v = true -> (∃ i t,k = Sum.inl i /\ v = Value.int i t) \/ (∃ x t,k = Sum.inr x /\ v = Value.str x t)
  | .inl i,v,h=>by
    obtain ⟨t,e⟩:=Value.isInt_shape (k:=i) (v:=v) h
    exact .inl ⟨i,t,rfl,e⟩
  | .inr x,v,h=>by
    obtain ⟨t,e⟩:=Value.isStrOf_shape (x:=x) (v:=v) h
    exact .inr ⟨x,t,rfl,e⟩
theorem keyIs_int (i : Int) (t : Tok) : keyIs (.inl i) (.int i t) = true:=by simp [keyIs,Value.isInt]
theorem keyIs_str (x : Str) (t : Tok) : keyIs (.inr x) (.str x t) = true:=by simp [keyIs,Value.isStrOf]
theorem key_ll (a b : Int) : decide ((Sum.inl a : Key) = Sum.inl b) = (a == b):=by
  by_cases e : a = b
  · subst e; simp
  · have h : ¬ (Sum.inl a : Key) = Sum.inl b:=fun q=>e (Sum.inl.inj q)
    rw [decide_eq_false h]
    exact (beq_eq_false_iff_ne.mpr e).symm
theorem key_rr (a b : Str) : decide ((Sum.inr a : Key) = Sum.inr b) = decide (a = b):=by
  by_cases e : a = b
  · subst e; simp
  · have h : ¬ (Sum.inr a : Key) = Sum.inr b:=fun q=>e (Sum.inr.inj q)
    rw [decide_eq_false h,decide_eq_false e]
theorem key_lr (a : Int) (b : Str) : decide ((Sum.inl a : Key) = Sum.inr b) = false:=decide_eq_false (fun q=>nomatch q)
theorem key_rl (a : Str) (b : Int) : decide ((Sum.inr a : Key) = Sum.inl b) = false:=decide_eq_false (fun q=>nomatch q)
def mixKind (prog : Program) (w : World) : PySem.KeyKind prog w Key where
  is:=keyIs
  hash:=keyH w
  inj:=fun v a b ha hb=>by
    rcases keyIs_shape ha with ⟨i,t,rfl,rfl⟩ | ⟨x,t,rfl,rfl⟩
    · rcases keyIs_shape hb with ⟨j,u,rfl,e⟩ | ⟨y,u,rfl,e⟩
      · injection e with e1 _; rw [e1]
      · exact nomatch e
    · rcases keyIs_shape hb with ⟨j,u,rfl,e⟩ | ⟨y,u,rfl,e⟩
      · exact nomatch e
      · injection e with e1 _; rw [e1]
  byValue:=fun k v h=>by
    rcases keyIs_shape h with ⟨i,t,rfl,rfl⟩ | ⟨x,t,rfl,rfl⟩ <;> rfl
  pyHash:=fun hv h=>by
    rcases keyIs_shape hv with ⟨i,t,rfl,rfl⟩ | ⟨x,t,rfl,rfl⟩
    · exact wpAny_pyHash_int h
    · exact wpAny_pyHash_str h
  eqBool:=fun hu hv h=>by
    rcases keyIs_shape hu with ⟨i,t,rfl,rfl⟩ | ⟨x,t,rfl,rfl⟩
    · rcases keyIs_shape hv with ⟨j,u,rfl,rfl⟩ | ⟨y,u,rfl,rfl⟩
      · rw [key_ll] at h; exact wpAny_eqBool_int h
      · rw [key_lr] at h; exact SeqAt.EqAt.int_str i t y u _ _ _ _ h
    · rcases keyIs_shape hv with ⟨j,u,rfl,rfl⟩ | ⟨y,u,rfl,rfl⟩
      · rw [key_rl] at h; exact SeqAt.EqAt.str_int x t j u _ _ _ _ h
      · rw [key_rr] at h; exact wpAny_eqBool_str h
  «strs»:=fun k x t v h=>by
    rcases keyIs_shape h with ⟨i,u,rfl,e⟩ | ⟨y,u,rfl,e⟩
    · exact nomatch e
    · injection e with e1 _
      subst e1
      cases v <;> rfl
inductive HK where
  | int (i : Int) | str (x : Str) | tup (l : List HK)
instance : DecidableEq HK:=fun _ _=>Classical.propDecidable _
mutual
def KIs (h : Heap) : HK -> Value -> Prop
  | .int i,v=>∃ t,v = .int i t
  | .str x,v=>∃ t,v = .str x t
  | .tup l,v=>∃ a items,v = .ref a /\ IsTup h a items /\ KIsL h l items.toList
def KIsL (h : Heap) : List HK -> List Value -> Prop
  | [],vs=>vs = []
  | k :: l,vs=>∃ v r,vs = v :: r /\ KIs h k v /\ KIsL h l r
end
def Dp : Nat -> HK -> Prop
  | _,.int _=>True
  | _,.str _=>True
  | 0,.tup _=>False
  | d + 1,.tup l=>∀ k ∈ l,Dp d k
theorem KIsL.len {h : Heap} : ∀ {l : List HK} {vs : List Value},KIsL h l vs -> l.length = vs.length
  | [],_,r=>by cases r; rfl
  | k :: l,_,⟨v,r,e,_,q⟩=>by subst e; rw [List.length_cons,List.length_cons,q.len]
theorem KIsL.get {h : Heap} : ∀ {l : List HK} {vs : List Value},KIsL h l vs -> ∀ (j : Nat) (h1 : j < l.length) (h2 : j < vs.length),KIs h l[j] vs[j]
  | [],_,_,j,h1,_=>by simp at h1
  | k :: l,_,⟨v,r,e,q,t⟩,0,h1,h2=>by subst e; exact q
  | k :: l,_,⟨v,r,e,q,t⟩,j + 1,h1,h2=>by subst e; exact t.get j (by simpa using h1) (by simpa using h2)
theorem KIsL.of {h h' : Heap} : ∀ {l : List HK} {vs : List Value},KIsL h l vs -> (∀ k v,k ∈ l -> KIs h k v -> KIs h' k v) -> KIsL h' l vs
  | [],_,r,_=>r
  | k :: l,_,⟨v,r,e,q,t⟩,f=>⟨v,r,e,f k v (by simp) q,t.of fun k v hk=>f k v (List.mem_cons_of_mem _ hk)⟩
theorem KIs.keep {h h' : Heap} (hk : ∀ a its,IsTup h a its -> IsTup h' a its) : ∀ (d : Nat) {k : HK} {v : Value},Dp d k -> KIs h k v -> KIs h' k v
  | d,.int _,_,_,r=>r
  | d,.str _,_,_,r=>r
  | 0,.tup _,_,p,_=>p.elim
  | d + 1,.tup l,_,p,⟨a,its,e,i,r⟩=>⟨a,its,e,hk a its i,r.of fun k v hm=>KIs.keep hk d (p k hm)⟩
theorem tup_uniq {h : Heap} {a : Addr} {x y : Array Value} (p : IsTup h a x) (q : IsTup h a y) : x = y:=by
  obtain ⟨o,h1,h2,n,h3⟩:=p
  obtain ⟨o',g1,g2,n',g3⟩:=q
  rw [h1] at g1; cases g1
  rw [h3] at g3; cases g3; rfl
theorem KIs.inj {h : Heap} : ∀ (d : Nat) {x y : HK} {v : Value},Dp d x -> Dp d y -> KIs h x v -> KIs h y v -> x = y:=by
  intro d
  induction d with
  | zero=>
    intro x y v dx dy p q
    cases x with
    | tup l=>exact dx.elim
    | int i=>
      obtain ⟨t,rfl⟩:=p
      cases y with
      | tup l=>exact dy.elim
      | int j=>obtain ⟨u,e⟩:=q; cases e; rfl
      | str j=>obtain ⟨u,e⟩:=q; cases e
    | str i=>
      obtain ⟨t,rfl⟩:=p
      cases y with
      | tup l=>exact dy.elim
      | int j=>obtain ⟨u,e⟩:=q; cases e
      | str j=>obtain ⟨u,e⟩:=q; cases e; rfl
  | succ d ih=>
    intro x y v dx dy p q
    cases x with
    | int i=>
      obtain ⟨t,rfl⟩:=p
      cases y with
      | tup l=>obtain ⟨_,_,e,_⟩:=q; cases e
      | int j=>obtain ⟨u,e⟩:=q; cases e; rfl
      | str j=>obtain ⟨u,e⟩:=q; cases e
    | str i=>
      obtain ⟨t,rfl⟩:=p
      cases y with
      | tup l=>obtain ⟨_,_,e,_⟩:=q; cases e
      | int j=>obtain ⟨u,e⟩:=q; cases e
      | str j=>obtain ⟨u,e⟩:=q; cases e; rfl
    | tup l=>
      obtain ⟨a,its,rfl,p1,p2⟩:=p
      cases y with
      | int j=>obtain ⟨u,e⟩:=q; cases e
      | str j=>obtain ⟨u,e⟩:=q; cases e
      | tup m=>
        obtain ⟨b,jts,e,q1,q2⟩:=q
        cases e
        have e:=tup_uniq p1 q1
        subst e
        have l1:=p2.len
        have l2:=q2.len
        congr 1
        refine List.ext_getElem (by omega) fun j h1 h2=>?_
        exact ih (dx _ (List.getElem_mem h1)) (dy _ (List.getElem_mem h2)) (p2.get j h1 (by omega)) (q2.get j h2 (by omega))
theorem all_eqA {α : Type} [DecidableEq α] (d : α) (xs ys : List α) : ((List.range (min xs.length ys.length)).all (fun j=>decide (xs.getD j d = ys.getD j d)) && xs.length == ys.length) = decide (xs = ys):=by
  rw [Bool.eq_iff_iff]
  simp only [Bool.and_eq_true,List.all_eq_true,List.mem_range,decide_eq_true_eq,beq_iff_eq]
  constructor
  · rintro ⟨h,e⟩
    refine List.ext_getElem e fun i h1 h2=>?_
    have:=h i (by omega)
    simpa [List.getD_eq_getElem?_getD,h1,h2] using this
  · rintro rfl
    simp
section
variable {prog : Program} {w : World}
mutual
def hkH (prog : Program) (w : World) : HK -> Int
  | .int i=>(mixKind prog w).hash (.inl i)
  | .str x=>(mixKind prog w).hash (.inr x)
  | .tup l=>reduceHash (Builtin.Tuple.tupleHashOf (hkHL prog w l))
def hkHL (prog : Program) (w : World) : List HK -> List Int
  | []=>[]
  | k :: l=>hkH prog w k :: hkHL prog w l
end
mutual
def hkD : HK -> Nat
  | .int _=>1
  | .str _=>1
  | .tup l=>hkDL l + 1
def hkDL : List HK -> Nat
  | []=>0
  | k :: l=>hkD k + hkDL l
end
theorem hkHL_map (l : List HK) : hkHL prog w l = l.map (hkH prog w):=by
  induction l with
  | nil=>rfl
  | cons k l ih=>rw [hkHL,ih]; rfl
theorem hkDL_app (l m : List HK) : hkDL (l ++ m) = hkDL l + hkDL m:=by
  induction l with
  | nil=>simp [hkDL]
  | cons k l ih=>rw [List.cons_append,hkDL,hkDL,ih]; omega
variable {A : Around} {E : Value -> Shared -> Prop}
theorem all_eqK (xs ys : List HK) : ((List.range (min xs.length ys.length)).all (fun j=>decide (xs.getD j (.int 0) = ys.getD j (.int 0))) && xs.length == ys.length) = decide (xs = ys):=all_eqA (.int 0) xs ys
theorem hk_hash : ∀ (d : Nat) {A : Around} {s : Shared} {k : HK} {v : Value} {Q : Int -> Shared -> Prop},Dp d k -> A.units + d < cLine -> KIs s.heap k v -> Q (hkH prog w k) { s with toks:=s.toks + hkD k } ->
    wpAny (model prog w) A (pyHash v) Q E s:=by
  intro d
  induction d with
  | zero=>
    intro A s k v Q dk hu r q
    cases k with
    | tup l=>exact dk.elim
    | int i=>obtain ⟨t,rfl⟩:=r; exact (mixKind prog w).pyHash (k:=.inl i) (keyIs_int i t) q
    | str i=>obtain ⟨t,rfl⟩:=r; exact (mixKind prog w).pyHash (k:=.inr i) (keyIs_str i t) q
  | succ d ih=>
    intro A s k v Q dk hu r q
    cases k with
    | int i=>obtain ⟨t,rfl⟩:=r; exact (mixKind prog w).pyHash (k:=.inl i) (keyIs_int i t) q
    | str i=>obtain ⟨t,rfl⟩:=r; exact (mixKind prog w).pyHash (k:=.inr i) (keyIs_str i t) q
    | tup ks=>
      obtain ⟨a,items,rfl,⟨o,ho,hc,n,hd⟩,hi⟩:=r
      have hT : s.TypeIs (.ref a) "tuple" := ⟨o,ho,hc⟩
      have hu0 : A.units < cLine:=by omega
      unfold pyHash
      unfold pyHashByItsType
      have nb : ¬ (some (Value.builtin "tuple.__hash__") == some Value.none) = true:=by rw [beq_builtin_none]; exact Bool.false_ne_true
      have sp {Q : Option Value -> Shared -> Prop} (h : Q (some (.builtin "tuple.__hash__")) s) : wpAny (model prog w) A (specialOf (.ref a) "__hash__") Q E s:=wpAny_specialOf hT F.slot_tuple_hash.lookup h
      refine wpAny_bind (wpAny_cRoomFor_or (.inr hu0) (wpAny_bind (sp ?_)))
      show wpAny _ _ (if (some (Value.builtin "tuple.__hash__") == some Value.none) = true then _ else _) _ _ _
      rw [if_neg nb]
      refine wpAny_bind (sp (wpAny_bind (wpAny_callSpecialIfBoundUnlessNone?_slot hT F.slot_tuple_hash (wpAny_call_entry F.slot_tuple_hash hT F.entry_tuple_hash ?_ (F.args_tuple_hash_1 _)))))
      show wpAny _ A.in1 (Builtin.Tuple.tupleItemsOf (.ref a) >>= _) _ _ s
      refine wpAny_bind (wpAny_tupleItemsOf ho hd (wpAny_bind ?_))
      rw [<- Array.forIn_toList]
      have hin : A.in1.units + d < cLine:=by show A.units + 1 + d < cLine; omega
      refine wpAny_forIn_list _ (fun rest (b : Array Int) s'=>∃ dn lf,ks = dn ++ lf /\ KIsL s.heap lf rest /\ b.toList = dn.map (hkH prog w) /\ s' = { s with toks:=s.toks + hkDL dn }) _ ?_ ?_ _ _ ⟨[],ks,rfl,hi,rfl,rfl⟩
      · rintro x rest b s' ⟨dn,lf,rfl,hl,hb,rfl⟩
        cases lf with
        | nil=>cases hl
        | cons k lf=>
          obtain ⟨v,r,e,h1,h2⟩:=hl
          cases e
          refine wpAny_bind (ih (s:={ s with toks:=s.toks + hkDL dn }) (dk k (by simp)) hin h1 ?_)
          exact wpAny_pure ⟨dn ++ [k],lf,by simp,h2,by simp [hb],by simp [hkDL_app,hkDL,Nat.add_assoc]⟩
      · rintro b s' ⟨dn,lf,rfl,hl,hb,rfl⟩
        cases lf with
        | cons k lf=>obtain ⟨_,_,e,_⟩:=hl; cases e
        | nil=>
          rw [List.append_nil] at q
          show wpAny _ _ (retInt (Builtin.Tuple.tupleHashOf b.toList)) _ _ _
          rw [hb,<- hkHL_map]
          refine wpAny_ret_mkInt ?_
          have q : Q (reduceHash (Builtin.Tuple.tupleHashOf (hkHL prog w dn))) { s with toks:=s.toks + (hkDL dn + 1) }:=q
          generalize Builtin.Tuple.tupleHashOf (hkHL prog w dn) = z at *
          show wpAny _ _ (if (decide (-(2 : Int) ^ 63 <= z) && decide (z < 2 ^ 63)) = true then _ else _) Q E _
          unfold reduceHash at q
          split
          · rename_i hr
            rw [if_pos hr] at q
            exact wpAny_pure (by simpa [Nat.add_assoc] using q)
          · rename_i hr
            rw [if_neg hr] at q
            exact wpAny_bind (wpAny_rule (wpAny_pure (by simpa [Nat.add_assoc] using q)))
theorem hk_eq : ∀ (d : Nat) {A : Around} {s : Shared} {x y : HK} {u v : Value},Dp d x -> Dp d y -> A.units + d < cLine -> KIs s.heap x u -> KIs s.heap y v -> SeqAt.EqAt A s u v (decide (x = y)):=by
  intro d
  have leaf : ∀ {A : Around} {s : Shared} {x y : HK} {u v : Value},(∀ l,x ≠ .tup l) -> (∀ l,y ≠ .tup l) -> KIs s.heap x u -> KIs s.heap y v -> SeqAt.EqAt A s u v (decide (x = y)):=by
    intro A s x y u v nx ny p q
    cases x with
    | tup l=>exact absurd rfl (nx l)
    | int i=>
      obtain ⟨t,rfl⟩:=p
      cases y with
      | tup l=>exact absurd rfl (ny l)
      | int j=>
        obtain ⟨t',rfl⟩:=q
        have:=SeqAt.EqAt.int_int (A:=A) (s:=s) i t j t'
        rwa [show (i == j) = decide (HK.int i = HK.int j) by by_cases e : i = j <;> simp [e]] at this
      | str j=>
        obtain ⟨t',rfl⟩:=q
        rw [decide_eq_false (by simp)]
        exact SeqAt.EqAt.int_str _ _ _ _
    | str i=>
      obtain ⟨t,rfl⟩:=p
      cases y with
      | tup l=>exact absurd rfl (ny l)
      | int j=>
        obtain ⟨t',rfl⟩:=q
        rw [decide_eq_false (by simp)]
        exact SeqAt.EqAt.str_int _ _ _ _
      | str j=>
        obtain ⟨t',rfl⟩:=q
        have:=SeqAt.EqAt.str_str (A:=A) (s:=s) i t j t'
        rwa [show (i == j) = decide (HK.str i = HK.str j) by by_cases e : i = j <;> simp [e]] at this
  induction d with
  | zero=>
    intro A s x y u v dx dy hu p q
    exact leaf (fun l e=>by subst e; exact dx) (fun l e=>by subst e; exact dy) p q
  | succ d ih=>
    intro A s x y u v dx dy hu p q
    have hu0 : A.units < cLine:=by omega
    cases x with
    | tup l=>
      obtain ⟨a,its,rfl,p1,p2⟩:=p
      cases y with
      | int j=>
        obtain ⟨t',rfl⟩:=q
        rw [decide_eq_false (by simp)]
        exact SeqAt.EqAt.tuple_int _ _ p1 hu0
      | str j=>
        obtain ⟨t',rfl⟩:=q
        rw [decide_eq_false (by simp)]
        exact SeqAt.EqAt.tuple_str _ _ p1 hu0
      | tup m=>
        obtain ⟨b,jts,rfl,q1,q2⟩:=q
        by_cases e : a = b
        · subst e
          have e:=KIs.inj (d + 1) (h:=s.heap) dx dy ⟨a,its,rfl,p1,p2⟩ ⟨a,jts,rfl,q1,q2⟩
          rw [decide_eq_true e]
          exact SeqAt.EqAt.same _
        · have l1:=p2.len
          have l2:=q2.len
          have he : ∀ j (h1 : j < its.size) (h2 : j < jts.size),SeqAt.EqAt A.in1 s its[j] jts[j] (decide (l.getD j (.int 0) = m.getD j (.int 0))):=fun j h1 h2=>by
            have k1 : j < l.length:=by rw [l1,Array.length_toList]; exact h1
            have k2 : j < m.length:=by rw [l2,Array.length_toList]; exact h2
            have e1 : l.getD j (.int 0) = l[j]:=by rw [List.getD_eq_getElem?_getD,List.getElem?_eq_getElem k1]; rfl
            have e2 : m.getD j (.int 0) = m[j]:=by rw [List.getD_eq_getElem?_getD,List.getElem?_eq_getElem k2]; rfl
            rw [e1,e2]
            exact ih (dx _ (List.getElem_mem k1)) (dy _ (List.getElem_mem k2)) (by show A.units + 1 + d < cLine; omega) (p2.get j k1 (by simpa using h1)) (q2.get j k2 (by simpa using h2))
          have rc:=SeqAt.RcAt.tuples p1 q1 hu0 he
          have s1 : its.size = l.length:=by rw [l1,Array.length_toList]
          have s2 : jts.size = m.length:=by rw [l2,Array.length_toList]
          rw [s1,s2,all_eqK] at rc
          exact SeqAt.EqAt.of_refs e (by simpa using rc)
    | int i=>
      cases y with
      | tup m=>
        obtain ⟨t',rfl⟩:=p
        obtain ⟨b,jts,rfl,q1,q2⟩:=q
        rw [decide_eq_false (by simp)]
        exact SeqAt.EqAt.int_tuple _ _ q1 hu0
      | _=>exact leaf (by simp) (by simp) p q
    | str i=>
      cases y with
      | tup m=>
        obtain ⟨t',rfl⟩:=p
        obtain ⟨b,jts,rfl,q1,q2⟩:=q
        rw [decide_eq_false (by simp)]
        exact SeqAt.EqAt.str_tuple _ _ q1 hu0
      | _=>exact leaf (by simp) (by simp) p q
theorem hk_quiet : ∀ (d : Nat) {A : Around} {s : Shared} {k : HK} {v : Value} {Q : Bool -> Shared -> Prop} (m : Nat),d < m -> Dp d k -> KIs s.heap k v -> Q true s -> wpAny (model prog w) A (eqIsQuiet m v) Q E s:=by
  intro d
  have leaf : ∀ {A : Around} {s : Shared} {v : Value} {Q : Bool -> Shared -> Prop} (m : Nat),carriedByValue v = true -> Q true s -> wpAny (model prog w) A (eqIsQuiet m v) Q E s:=by
    intro A s v Q m hv q
    rw [eqIsQuiet_byValue m hv]
    exact wpAny_pure q
  induction d with
  | zero=>
    intro A s k v Q m hm dk r q
    cases k with
    | tup l=>exact dk.elim
    | int i=>obtain ⟨t,rfl⟩:=r; exact leaf m rfl q
    | str i=>obtain ⟨t,rfl⟩:=r; exact leaf m rfl q
  | succ d ih=>
    intro A s k v Q m hm dk r q
    cases k with
    | int i=>obtain ⟨t,rfl⟩:=r; exact leaf m rfl q
    | str i=>obtain ⟨t,rfl⟩:=r; exact leaf m rfl q
    | tup ks=>
      obtain ⟨a,items,rfl,⟨o,ho,hc,n,hd⟩,hi⟩:=r
      have hT : s.TypeIs (.ref a) "tuple" := ⟨o,ho,hc⟩
      obtain ⟨m,rfl⟩ : ∃ m',m = m' + 1:=⟨m - 1,by omega⟩
      unfold eqIsQuiet
      refine wpAny_bind (wpAny_specialOf hT F.slot_tuple_eq.lookup ?_)
      show wpAny _ _ (isInstance (.ref a) (.type "tuple") >>= _) _ _ s
      refine wpAny_bind (wpAny_isInstance hT isSubtype_tuple_tuple ?_)
      simp only [Bool.not_true,Bool.false_eq_true,if_false]
      refine wpAny_bind (wpAny_seqItems ho hd (wpAny_bind ?_))
      show wpAny _ _ (forIn items _ _) _ _ s
      rw [<- Array.forIn_toList]
      refine wpAny_forIn_list _ (fun rest r s'=>r.1 = none /\ s' = s /\ ∃ l,KIsL s.heap l rest /\ ∀ k ∈ l,k ∈ ks) _ ?_ ?_ _ _ ⟨rfl,rfl,ks,hi,fun _ h=>h⟩
      · rintro v rest r s' ⟨hr,rfl,l,hl,hall⟩
        cases l with
        | nil=>cases hl
        | cons k l=>
          obtain ⟨v',r',e,h1,h2⟩:=hl
          cases e
          refine wpAny_bind (ih m (by omega) (dk k (hall k (by simp))) h1 ?_)
          simp only [Bool.not_true,Bool.false_eq_true,if_false]
          exact wpAny_pure ⟨rfl,rfl,l,h2,fun x hx=>hall x (List.mem_cons_of_mem _ hx)⟩
      · rintro ⟨r1,r2⟩ s' ⟨hr,rfl,_⟩
        simp only at hr
        subst hr
        exact wpAny_pure q
def nk (prog : Program) (w : World) : HeapKind prog w HK where
  is:=fun h k a=>KIs h k (.ref a) /\ Dp 5 k
  hash:=hkH prog w
  draws:=hkD
  room:=fun A=>A.units + 5 < cLine
  inj:=fun hx hy=>KIs.inj 5 hx.2 hy.2 hx.1 hy.1
  keeps:=fun {h h' k a d o es ep} x ho hd hs=>⟨KIs.keep (fun b its ⟨ob,h1,h2,n,h3⟩=>⟨ob,(hs.2 b fun e=>by
    subst e
    rw [ho] at h1; cases h1
    rw [hd] at h3; cases h3).trans h1,h2,n,h3⟩) 5 x.2 x.1,x.2⟩
  pyHash:=fun hu hk h=>hk_hash 5 hk.2 hu hk.1 h
  eqBool:=fun hu hx hy h=>hk_eq 5 hx.2 hy.2 hu hx.1 hy.1 prog w _ _ h
  quiet:=fun hk h=>hk_quiet 5 8 (by decide) hk.2 hk.1 h
end
end L2
namespace L2
open PySem PySem.Spec PyProof.Rows
inductive V where
  | non | bl (b : Bool) | int (i : Int) | str (x : Str) | byt (b : Array UInt8) | flt (b : UInt64) | ref (a : Addr) | ty (n : String)
  deriving DecidableEq
def RelV : V -> Value -> Prop
  | .non,u=>u = Value.none
  | .bl b,u=>u = Value.bool b
  | .int i,u=>∃ t,u = Value.int i t
  | .str x,u=>∃ t,u = Value.str x t
  | .byt b,u=>∃ t,u = Value.bytes b t
  | .flt b,u=>∃ t,u = Value.float b t
  | .ref a,u=>u = Value.ref a
  | .ty n,u=>u = Value.type n
abbrev Vals : List V -> List Value -> Prop:=Paired RelV
theorem Vals.length {xs : List V} {us : List Value} (r : Vals xs us) : xs.length = us.length:=Paired.length r
theorem Vals.get : ∀ {xs : List V} {us : List Value} {i : Nat} {x : V},Vals xs us -> xs[i]? = some x -> ∃ u,us[i]? = some u /\ RelV x u
  | _,_,_,_,.nil,e=>by simp at e
  | _,_,0,_,.cons r _,e=>by simp at e; subst e; exact ⟨_,rfl,r⟩
  | _,_,i + 1,x,.cons _ t,e=>by
    obtain ⟨u,h1,h2⟩:=Vals.get (i:=i) (x:=x) t (by simpa using e)
    exact ⟨u,by simpa using h1,h2⟩
theorem Vals.set {x : V} {u : Value} (r : RelV x u) : ∀ {xs : List V} {us : List Value} (i : Nat),Vals xs us -> Vals (xs.set i x) (us.set i u)
  | _,_,_,.nil=>.nil
  | _,_,0,.cons _ t=>.cons r t
  | _,_,i + 1,.cons q t=>.cons q (Vals.set r i t)
theorem Vals.append : ∀ {xs ys : List V} {us ws : List Value},Vals xs us -> Vals ys ws -> Vals (xs ++ ys) (us ++ ws)
  | _,_,_,_,.nil,s=>s
  | _,_,_,_,.cons r t,s=>.cons r (Vals.append t s)
theorem Vals.take : ∀ {xs : List V} {us : List Value} (n : Nat),Vals xs us -> Vals (xs.take n) (us.take n)
  | _,_,0,_=>.nil
  | _,_,_ + 1,.nil=>.nil
  | _,_,n + 1,.cons r t=>.cons r (Vals.take n t)
theorem Vals.drop : ∀ {xs : List V} {us : List Value} (n : Nat),Vals xs us -> Vals (xs.drop n) (us.drop n)
  | _,_,0,r=>r
  | _,_,_ + 1,.nil=>.nil
  | _,_,n + 1,.cons _ t=>Vals.drop n t
def RelO : Option V -> Option Value -> Prop
  | some v,some u=>RelV v u
  | none,none=>True
  | _,_=>False
def KV {κ : Type} : List (κ × V) -> List (κ × Value) -> Prop:=Paired fun (p : κ × V) (q : κ × Value)=>p.1 = q.1 /\ RelV p.2 q.2
def kV : Key -> V
  | .inl i=>.int i
  | .inr x=>.str x
inductive HO where
  | lst (xs : List V)
  | tup (xs : List V)
  | dK (kvs : List (Key × V)) | dT (kvs : List (HK × V))
  | set (S : Int -> Bool) (n : Nat)
  | ins (C dx : Addr) (fs : List (Str × V))
  | own (x : Addr)
  | xd (fs : List (Str × V))
  | met (f x : Addr)
  | rng (lo hi : Int)
  | frz (o : Obj) (u : HO)
  | tbl (ps : Array Value)
  | ext (φ : Heap -> Prop)
abbrev Hp:=Addr -> Option HO
def upd (H : Hp) (a : Addr) (o : HO) : Hp:=fun b=>if b = a then some o else H b
theorem upd_same {H : Hp} {a : Addr} {o : HO} : upd H a o a = some o:=by unfold upd; rw [if_pos rfl]
theorem upd_ne {H : Hp} {a b : Addr} {o : HO} (h : b ≠ a) : upd H a o b = H b:=by unfold upd; rw [if_neg h]
theorem ne_of_none {H : Hp} {a b : Addr} {o : HO} (h : H a = some o) (h' : H b = none) : a ≠ b:=by
  intro e; subst e; rw [h] at h'; cases h'
mutual
def KAt (H : Hp) : HK -> V -> Prop
  | .int i,v=>v = .int i
  | .str x,v=>v = .str x
  | .tup l,v=>∃ a vs,v = .ref a /\ H a = some (.tup vs) /\ KAtL H l vs
def KAtL (H : Hp) : List HK -> List V -> Prop
  | [],vs=>vs = []
  | k :: l,vs=>∃ v r,vs = v :: r /\ KAt H k v /\ KAtL H l r
end
mutual
theorem KAt.keep {H H' : Hp} (ht : ∀ b xs,H b = some (.tup xs) -> H' b = some (.tup xs)) : ∀ {k : HK} {v : V},KAt H k v -> KAt H' k v
  | .int _,_,r=>r
  | .str _,_,r=>r
  | .tup _,_,⟨a,vs,e,h,r⟩=>⟨a,vs,e,ht a vs h,KAtL.keep ht r⟩
theorem KAtL.keep {H H' : Hp} (ht : ∀ b xs,H b = some (.tup xs) -> H' b = some (.tup xs)) : ∀ {l : List HK} {vs : List V},KAtL H l vs -> KAtL H' l vs
  | [],_,r=>r
  | _ :: _,_,⟨v,r,e,h,t⟩=>⟨v,r,e,KAt.keep ht h,KAtL.keep ht t⟩
end
def KR (H : Hp) (k : HK) (b : Addr) : Prop:=KAt H k (.ref b) /\ Dp 5 k
theorem KR.keep {H H' : Hp} {k : HK} {b : Addr} (r : KR H k b) (ht : ∀ b xs,H b = some (.tup xs) -> H' b = some (.tup xs)) : KR H' k b:=⟨r.1.keep ht,r.2⟩
section
variable (P : Program) (w : World)
def ObjOk (H : Hp) (h : Heap) (a : Addr) : HO -> Prop
  | .lst xs=>xs.length <= sizeLine /\ ∃ (its : List Value) (n : Nat),Vals xs its /\ h.get? a = some { cls:=.type "list",data:=.seq its.toArray n }
  | .tup xs=>xs.length <= sizeLine /\ ∃ its : List Value,Vals xs its /\ IsTup h a its.toArray
  | .dK kvs=>kvs.length <= sizeLine /\ (a == sysModules) = false /\ ∃ vs,KV kvs vs /\ h.DictOf (mixKind P w) a vs
  | .dT kvs=>kvs.length <= sizeLine /\ (a == sysModules) = false /\ ∃ xs : List (HK × Addr × Value),
      Paired (fun (p : HK × V) (q : HK × Addr × Value)=>p.1 = q.1 /\ KR H p.1 q.2.1 /\ RelV p.2 q.2.2) kvs xs /\
      ∃ o es ep,h.get? a = some o /\ o.ExactDict /\ o.data = .dict es ep /\ es.toList = xs.map (entryOfKey (nk P w)) /\ (xs.map (·.1)).Nodup
  | .set S n=>h.SetOf (intKind P w) a S n
  | .ins C dx fs=>H dx = some (.own a) /\ fs.length <= 1000 /\ dx ≠ a /\ h.get? a = some (PySem.W.instObj C dx) /\
      ∃ mA,h.Ns1 dx mA /\ (∀ f,RelO (fs.lookup f) (mA f)) /\ PySem.Within mA (fs.map (·.1))
  | .own _=>∃ o,h.get? a = some o
  | .xd fs=>∃ mA,h.Ns1 a mA /\ ∀ f,RelO (fs.lookup f) (mA f)
  | .rng lo hi=>∃ t u v,h.get? a = some { cls:=.type "range",data:=.fields #[.int lo t,.int hi u,.int 1 v] }
  | .frz o u=>h.get? a = some o /\ ObjOk H h a u
  | .tbl ps=>h.get? a = some { cls:=.none,data:=.fields ps }
  | .met f x=>h.get? a = some (PySem.W.methodObj (.ref f) (.ref x))
  | .ext φ=>φ h /\ (∃ o,h.get? a = some o) /\ ∀ h1 h2 : Heap,φ h1 -> (∀ o,h1.get? a = some o -> h2.get? a = some o) -> φ h2
def HOk (H : Hp) (h : Heap) : Prop:=∀ a o,H a = some o -> ObjOk P w H h a o
end
section
variable {P : Program} {w : World} {H H' : Hp} {h h' : Heap} {a : Addr} {o : HO}
theorem ObjOk.lt (x : ObjOk P w H h a o) : a < h.objs.size:=by
  cases o with
  | lst xs=>obtain ⟨_,_,_,_,e⟩:=x; exact Heap.lt_size e
  | tup xs=>obtain ⟨_,_,_,p⟩:=x; exact p.lt
  | dK kvs=>obtain ⟨_,_,_,_,o,_,_,e,_⟩:=x; exact Heap.lt_size e
  | dT kvs=>obtain ⟨_,_,_,_,o,_,_,e,_⟩:=x; exact Heap.lt_size e
  | set S n=>obtain ⟨o,_,_,_,e,_⟩:=x; exact Heap.lt_size e
  | ins C dx fs=>obtain ⟨_,_,_,e,_⟩:=x; exact Heap.lt_size e
  | own y=>obtain ⟨_,e⟩:=x; exact Heap.lt_size e
  | xd fs=>obtain ⟨_,⟨_,_,_,e,_⟩,_⟩:=x; exact Heap.lt_size e
  | rng lo hi=>obtain ⟨_,_,_,e⟩:=x; exact Heap.lt_size e
  | frz ob u=>obtain ⟨e,_⟩:=x; exact Heap.lt_size e
  | tbl ps=>exact Heap.lt_size (show h.get? a = some _ from x)
  | met f y=>exact Heap.lt_size (show h.get? a = some _ from x)
  | ext φ=>obtain ⟨_,⟨_,e⟩,_⟩:=x; exact Heap.lt_size e
theorem Paired.mapP {α β : Type} {F G : α -> β -> Prop} : ∀ {l₁ : List α} {l₂ : List β},Paired F l₁ l₂ -> (∀ a b,F a b -> G a b) -> Paired G l₁ l₂
  | _,_,.nil,_=>.nil
  | _,_,.cons r t,f=>.cons (f _ _ r) (Paired.mapP t f)
theorem ObjOk.stay (x : ObjOk P w H h a o) (k : ∀ b u,(b = a \/ H b = some (.own a)) -> h.get? b = some u -> h'.get? b = some u)
    (ho : ∀ b,H b = some (.own a) -> H' b = some (.own a)) (ht : ∀ b xs,H b = some (.tup xs) -> H' b = some (.tup xs)) : ObjOk P w H' h' a o:=by
  induction o with
  | lst xs=>obtain ⟨z,its,n,r,e⟩:=x; exact ⟨z,its,n,r,k _ _ (.inl rfl) e⟩
  | tup xs=>obtain ⟨z,its,r,ob,e,c⟩:=x; exact ⟨z,its,r,ob,k _ _ (.inl rfl) e,c⟩
  | dK kvs=>obtain ⟨z,y,vs,r,ob,es,ep,e,c⟩:=x; exact ⟨z,y,vs,r,ob,es,ep,k _ _ (.inl rfl) e,c⟩
  | dT kvs=>
    obtain ⟨z,y,xs,r,ob,es,ep,e,c⟩:=x
    exact ⟨z,y,xs,Paired.mapP r fun p q z=>⟨z.1,z.2.1.keep ht,z.2.2⟩,ob,es,ep,k _ _ (.inl rfl) e,c⟩
  | set S n=>obtain ⟨ob,es,ep,t,e,c⟩:=x; exact ⟨ob,es,ep,t,k _ _ (.inl rfl) e,c⟩
  | ins C dx fs=>
    obtain ⟨d,z,ne,e,mA,⟨od,es,ep,e2,c⟩,r⟩:=x
    exact ⟨ho _ d,z,ne,k _ _ (.inl rfl) e,mA,⟨od,es,ep,k _ _ (.inr d) e2,c⟩,r⟩
  | own y=>obtain ⟨ob,e⟩:=x; exact ⟨ob,k _ _ (.inl rfl) e⟩
  | xd fs=>obtain ⟨mA,⟨od,es,ep,e,c⟩,r⟩:=x; exact ⟨mA,⟨od,es,ep,k _ _ (.inl rfl) e,c⟩,r⟩
  | rng lo hi=>obtain ⟨t,u,v,e⟩:=x; exact ⟨t,u,v,k _ _ (.inl rfl) e⟩
  | frz ob u ih=>obtain ⟨e,q⟩:=x; exact ⟨k _ _ (.inl rfl) e,ih q⟩
  | tbl ps=>
    have e : h.get? a = some { cls:=.none,data:=.fields ps }:=x
    show h'.get? a = some { cls:=.none,data:=.fields ps }
    exact k a _ (.inl rfl) e
  | met f y=>
    have e : h.get? a = some (PySem.W.methodObj (.ref f) (.ref y)):=x
    show h'.get? a = some (PySem.W.methodObj (.ref f) (.ref y))
    exact k a _ (.inl rfl) e
  | ext φ=>obtain ⟨p,⟨o,e⟩,st⟩:=x; exact ⟨st _ _ p fun o q=>k _ _ (.inl rfl) q,⟨o,k _ _ (.inl rfl) e⟩,st⟩
theorem HOk.lt (x : HOk P w H h) (e : H a = some o) : a < h.objs.size:=(x a o e).lt
theorem HOk.fresh (x : HOk P w H h) (e : h.objs.size <= a) : H a = none:=by
  cases q : H a with
  | none=>rfl
  | some u=>exact absurd (Nat.lt_of_lt_of_le (x.lt q) e) (Nat.lt_irrefl _)
theorem HOk.kept (x : HOk P w H h) (k : ∀ b u,h.get? b = some u -> h'.get? b = some u) : HOk P w H h':=fun a o e=>
  (x a o e).stay (fun b u _ q=>k b u q) (fun _ q=>q) fun _ _ q=>q
theorem HOk.laid (x : HOk P w H h) (k : ∀ b u,h.get? b = some u -> h'.get? b = some u) (hp : h.objs.size <= a) (new : ObjOk P w (upd H a o) h' a o) : HOk P w (upd H a o) h':=fun b u e=>by
  have hn:=x.fresh hp
  by_cases hb : b = a
  · subst hb; rw [upd_same] at e; cases e; exact new
  · rw [upd_ne hb] at e
    exact (x b u e).stay (fun c v _ q=>k c v q) (fun c q=>by rw [upd_ne (ne_of_none q hn)]; exact q) fun c xs q=>by rw [upd_ne (ne_of_none q hn)]; exact q
end
def Rd (H : Hp) (a : Addr) (u : HO) : Prop:=H a = some u \/ ∃ o,H a = some (.frz o u)
theorem Rd.ok {P : Program} {w : World} {H : Hp} {h : Heap} {a : Addr} {u : HO} (r : Rd H a u) (x : HOk P w H h) : ObjOk P w H h a u:=by
  rcases r with r | ⟨o,r⟩
  · exact x a u r
  · obtain ⟨_,q⟩:=x a _ r
    exact q
def Mut : Option HO -> Prop
  | some (.lst _)=>True
  | some (.dK _)=>True
  | some (.dT _)=>True
  | some (.set _ _)=>True
  | some (.ins _ _ _)=>True
  | some (.ext _)=>True
  | _=>False
section
variable {P : Program} {w : World} {H : Hp} {h h' : Heap} {x e : Addr} {o' : HO}
theorem HOk.write (ok : HOk P w H h) (mu : Mut (H x)) (he : e = x \/ H e = some (.own x)) (k : ∀ b u,b ≠ e -> h.get? b = some u -> h'.get? b = some u) (heo : ∃ u,h'.get? e = some u)
    (new : ObjOk P w (upd H x o') h' x o') : HOk P w (upd H x o') h':=fun b u q=>by
  have nown : ∀ c y,H c = some (.own y) -> c ≠ x:=fun c y r z=>by subst z; rw [r] at mu; exact mu
  have ntup : ∀ c xs,H c = some (.tup xs) -> c ≠ x:=fun c xs r z=>by subst z; rw [r] at mu; exact mu
  by_cases hb : b = x
  · subst hb; rw [upd_same] at q; cases q; exact new
  · rw [upd_ne hb] at q
    by_cases hbe : b = e
    · have q' : H b = some (.own x):=by
        rcases he with z | z
        · exact absurd (hbe.trans z) hb
        · rw [hbe]; exact z
      rw [q] at q'; cases q'
      obtain ⟨v,hv⟩:=heo
      exact ⟨v,by rw [hbe]; exact hv⟩
    · refine (ok b u q).stay (fun c v hc r=>k c v ?_ r) (fun c r=>by rw [upd_ne (nown c b r)]; exact r) fun c xs r=>by rw [upd_ne (ntup c xs r)]; exact r
      rcases hc with rfl | hc
      · exact hbe
      · rintro rfl
        rcases he with z | z
        · exact nown c b hc z
        · rw [hc] at z; cases z; exact hb rfl
end
structure Un (fs ex : List Addr) (H H' : Hp) (h h' : Heap) : Prop where
  keep : ∀ b o,h.get? b = some o -> H b = none -> b ∉ fs -> b ∉ ex -> h'.get? b = some o
  slot : ∀ b o,h.get? b = some o -> H b = none -> b ∈ fs -> b ∉ ex -> ∃ sl,h'.get? b = some { o with slots:=sl }
  free : ∀ b o,h.get? b = some o -> H b = none -> b ∉ ex -> H' b = none
  there : ∀ b o,h.get? b = some o -> b ∉ ex -> ∃ o',h'.get? b = some o'
  tups : ∀ b xs,H b = some (.tup xs) -> H' b = some (.tup xs)
  frzs : ∀ b o u,H b = some (.frz o u) -> H' b = some (.frz o u)
  tbls : ∀ b ps,H b = some (.tbl ps) -> ∃ more,H' b = some (.tbl (ps ++ more))
section
variable {fs fs' ex ex' : List Addr} {H H1 H2 : Hp} {h h1 h2 h' : Heap} {a x e : Addr} {o : HO}
theorem Un.any (u : Un fs ex H H1 h h1) {b : Addr} {ob : Obj} (q : h.get? b = some ob) (n : H b = none) (hx : b ∉ ex) : ∃ sl,h1.get? b = some { ob with slots:=sl }:=by
  by_cases hb : b ∈ fs
  · exact u.slot b ob q n hb hx
  · exact ⟨ob.slots,u.keep b ob q n hb hx⟩
theorem Un.kept (k : ∀ b u,h.get? b = some u -> h'.get? b = some u) : Un fs ex H H h h':=
  ⟨fun b ob q _ _ _=>k b ob q,fun b ob q _ _ _=>⟨ob.slots,k b ob q⟩,fun _ _ _ n _=>n,fun b ob q _=>⟨ob,k b ob q⟩,fun _ _ q=>q,fun _ _ _ q=>q,fun _ ps q=>⟨#[],by rw [q]; simp⟩⟩
theorem Un.refl : Un fs ex H H h h:=Un.kept fun _ _ q=>q
theorem Un.laid (k : ∀ b u,h.get? b = some u -> h'.get? b = some u) (hp : h.objs.size <= a) (hn : H a = none) : Un fs ex H (upd H a o) h h' where
  keep:=fun b u q _ _ _=>k b u q
  slot:=fun b u q _ _ _=>⟨u.slots,k b u q⟩
  free:=fun b u q n _=>by rw [upd_ne (Nat.ne_of_lt (Nat.lt_of_lt_of_le (Heap.lt_size q) hp))]; exact n
  there:=fun b u q _=>⟨u,k b u q⟩
  tups:=fun b xs q=>by rw [upd_ne (ne_of_none q hn)]; exact q
  frzs:=fun b u xs q=>by rw [upd_ne (ne_of_none q hn)]; exact q
  tbls:=fun b ps q=>⟨#[],by rw [upd_ne (ne_of_none q hn),q]; simp⟩
theorem Un.write (mu : Mut (H x)) (he : e = x \/ H e = some (.own x)) (k : ∀ b u,b ≠ e -> h.get? b = some u -> h'.get? b = some u) (heo : ∃ u,h'.get? e = some u) : Un fs ex H (upd H x o) h h':=by
  have hx : ∀ b,H b = none -> b ≠ x:=fun b n z=>by subst z; rw [n] at mu; exact mu
  have hb : ∀ b,H b = none -> b ≠ e:=fun b n z=>by
    subst z
    rcases he with r | r
    · exact hx b n r
    · rw [n] at r; cases r
  have hm : ∀ b u,H b = some u -> ¬ Mut (some u) -> b ≠ x:=fun b u q nm z=>by subst z; rw [q] at mu; exact nm mu
  refine ⟨fun b u q n _ _=>k b u (hb b n) q,fun b u q n _ _=>⟨u.slots,k b u (hb b n) q⟩,fun b u q n _=>by rw [upd_ne (hx b n)]; exact n,fun b u q _=>?_,
    fun b xs q=>by rw [upd_ne (hm b _ q fun z=>z)]; exact q,fun b u xs q=>by rw [upd_ne (hm b _ q fun z=>z)]; exact q,fun b ps q=>⟨#[],by rw [upd_ne (hm b _ q fun z=>z),q]; simp⟩⟩
  by_cases hbe : b = e
  · subst hbe; exact heo
  · exact ⟨u,k b u hbe q⟩
end
def trk (h : Heap) (H : Hp) : List Addr:=(List.range h.objs.size).filter fun a=>(H a).isSome
def hidT (h : Heap) (H : Hp) : Heap:=PySem.W.hideAll h (trk h H)
theorem hidT_size (h : Heap) (H : Hp) : (hidT h H).objs.size = h.objs.size:=PySem.W.hideAll_size _ _
theorem hidT_get {h : Heap} {H : Hp} {b : Addr} {o : Obj} (e : h.get? b = some o) (n : H b = none) : (hidT h H).get? b = some o:=
  PySem.W.hideAll_get _ e fun hm=>by
    have q : (H b).isSome = true:=(List.mem_filter.mp hm).2
    rw [n] at q; simp at q
theorem of_hidT {h : Heap} {H : Hp} {b : Addr} {o : Obj} (e : (hidT h H).get? b = some o) : h.get? b = some o /\ H b = none:=by
  have e' : h.get? b = some o:=PySem.W.of_hideAll (trk h H) e
  refine ⟨e',?_⟩
  cases q : H b with
  | none=>rfl
  | some x=>
    have hm : b ∈ trk h H:=List.mem_filter.mpr ⟨List.mem_range.mpr (Heap.lt_size e'),by simp [q]⟩
    have z : (hidT h H).get? b = none:=PySem.W.hideAll_none (trk h H) hm
    rw [z] at e; cases e
def allNews (g h : Heap) (L : Addr) : List (Addr × Obj):=(List.range h.objs.size).filterMap fun a=>if a = L \/ (g.get? a).isSome = true then none else (h.get? a).map fun o=>(a,o)
def rest (g h : Heap) (L d : Addr) : List (Addr × Obj):=(allNews g h L).filter fun p=>decide (p.1 ≠ d)
end L2
namespace L2
open PySem PySem.Spec PyProof.Rows
structure Mod (K : PySem.W.Frag) (mg : Str -> Option Value) (base : Heap) : Prop where
  kin : K.In base
  glob : base.Ns mainGlobals mg
  blt : ∃ mb,base.Ns builtinsNs mb /\ ∀ x : Str,x ≠ "__name__" -> mb x = bootBuiltins x
  nolimit : base.NoLimit
structure Cx where
  prog : Program
  w : World
  K : PySem.W.Frag
  mg : Str -> Option Value
  base : Heap
  A : Around
  N : List Str
  s₀ : Shared
  H₀ : Hp
  env : Env
  outer : List Env
  stack : List Env
  ex : List Addr
  fn : Str -> Bool
  calm : Bool
  pn : List (Addr × Obj)
  xe : Value -> Shared -> Prop
def frs (l : List Env) : List Addr:=l.filterMap (·.frame)
abbrev Cx.fs (X : Cx) : List Addr:=frs X.outer
def Vis (sc : Scope) (x : Str) : Prop:=sc.names.lookup x = some .local \/ sc.names.lookup x = some .cell \/ sc.names.lookup x = some .free
def Loc (sc : Scope) (x : Str) : Prop:=sc.names.lookup x = some .local \/ sc.names.lookup x = some .cell
def Look (env : Env) (h : Heap) (m : Str -> Option Value) (x : Str) (u : Value) : Prop:=
  (env.kindOf x = some .local /\ m x = some u) \/ ((env.kindOf x = some .cell \/ env.kindOf x = some .free) /\ ∃ c,env.cells.lookup x = some c /\ h.IsCell c (some u))
structure Cx.Ok (X : Cx) : Prop where
  mod : Mod X.K X.mg X.base
  kind : X.env.scope.kind = .function
  glob : X.env.globals = mainGlobals
  blt : X.env.builtins = builtinsNs
  above : X.s₀.heap.objs.size <= X.env.locals
  inj : ∀ x y c,X.env.cells.lookup x = some c -> X.env.cells.lookup y = some c -> x = y
  has : ∀ x,(X.env.kindOf x = some .cell \/ X.env.kindOf x = some .free) -> ∃ c,X.env.cells.lookup x = some c
  cab : ∀ x c,X.fn x = true -> X.env.cells.lookup x = some c -> X.s₀.heap.objs.size <= c
  hd : X.calm = true -> X.A.handled = none
  frames : X.A.frames = some X.stack
  stk : X.stack = X.outer \/ (X.stack = X.env :: X.outer /\ X.env.frame = some X.env.locals)
  exf : ∀ b ∈ X.ex,b ≠ X.env.locals /\ ∀ x c,X.env.cells.lookup x = some c -> c ≠ b
  bs : ∀ b o,X.base.get? b = some o -> X.s₀.heap.get? b = some o /\ X.H₀ b = none
  bsz : X.base.objs.size <= X.s₀.heap.objs.size
  noex : ∀ b o,X.base.get? b = some o -> b ∉ X.ex
  exfs : ∀ b ∈ X.ex,b ∉ X.fs
  funs : X.s₀.heap.FunFrames X.base X.outer
  frf : ∀ b ∈ X.fs,X.H₀ b = none
structure Inv (X : Cx) (pins : List (Addr × Obj)) (σ : List (Option V)) (H : Hp) (s : Shared) : Prop where
  ok : X.Ok
  os : s.os = X.s₀.os
  bare : AllBare s.gens
  base : Un X.fs X.ex X.H₀ H X.s₀.heap s.heap
  loc : ∃ m,s.heap.Ns X.env.locals m /\ ∀ (i : Nat) (x : Str) (v : V),X.N[i]? = some x -> σ[i]? = some (some v) -> Vis X.env.scope x -> ∃ u,RelV v u /\ Look X.env s.heap m x u
  cell : ∀ x c,X.env.cells.lookup x = some c -> ∃ v,s.heap.IsCell c v
  free : H X.env.locals = none
  freeC : ∀ x c,X.env.cells.lookup x = some c -> H c = none
  pin : ∀ p ∈ X.pn ++ pins,s.heap.get? p.1 = some p.2 /\ H p.1 = none /\ p.1 ≠ X.env.locals /\ p.1 ∉ X.fs /\ ∀ v,p.2.data ≠ .cell v
  hok : HOk X.prog X.w H s.heap
  len : σ.length = X.N.length
section
variable {X : Cx} {pins : List (Addr × Obj)} {σ : List (Option V)} {H H' : Hp} {s : Shared} {h' : Heap}
theorem Cx.Ok.nofr (ok : X.Ok) {b : Addr} {o : Obj} (e : X.base.get? b = some o) : b ∉ X.fs:=fun hb=>by
  have:=(ok.funs.mem hb).1
  rw [e] at this; cases this
theorem Inv.bs (I : Inv X pins σ H s) : ∀ b o,X.base.get? b = some o -> s.heap.get? b = some o /\ H b = none:=fun b o e=>
  ⟨I.base.keep b o (I.ok.bs b o e).1 (I.ok.bs b o e).2 (I.ok.nofr e) (I.ok.noex b o e),I.base.free b o (I.ok.bs b o e).1 (I.ok.bs b o e).2 (I.ok.noex b o e)⟩
theorem Inv.bk (I : Inv X pins σ H s) : ∀ b o,X.base.get? b = some o -> s.heap.get? b = some o:=fun b o e=>(I.bs b o e).1
theorem Inv.mod (I : Inv X pins σ H s) : Mod X.K X.mg X.base:=I.ok.mod
theorem Inv.kIn (I : Inv X pins σ H s) : X.K.In s.heap:=I.ok.mod.kin.keeps I.bk
theorem Inv.lt (I : Inv X pins σ H s) : X.env.locals < s.heap.objs.size:=let ⟨_,hn,_⟩:=I.loc; hn.lt
theorem Inv.sz (I : Inv X pins σ H s) : X.s₀.heap.objs.size <= s.heap.objs.size:=Nat.le_trans I.ok.above (Nat.le_of_lt I.lt)
theorem Inv.nofs (I : Inv X pins σ H s) {a : Addr} (h : s.heap.objs.size <= a) : a ∉ X.fs:=fun hb=>by
  obtain ⟨_,o,ho,_⟩:=I.ok.funs.mem hb
  exact absurd (Nat.lt_of_lt_of_le (Heap.lt_size ho) (Nat.le_trans I.sz h)) (Nat.lt_irrefl _)
theorem Inv.cne (I : Inv X pins σ H s) : ∀ x c,X.env.cells.lookup x = some c -> c ≠ X.env.locals:=fun x c e z=>by
  obtain ⟨v,o,ho,hd⟩:=I.cell x c e
  obtain ⟨m,⟨o',es,ep,ho',hd',_⟩,_⟩:=I.loc
  rw [z,ho'] at ho; cases ho; rw [hd'] at hd; cases hd
theorem Inv.funs (I : Inv X pins σ H s) : s.heap.FunFrames X.base X.outer:=by
  have all : ∀ (l : List Env),(∀ b ∈ frs l,b ∈ X.fs) -> X.s₀.heap.FunFrames X.base l -> s.heap.FunFrames X.base l:=by
    intro l
    induction l with
    | nil=>intro _ _; trivial
    | cons env r ih=>
      intro hs hl
      obtain ⟨hk,⟨L,o,hf,hn,ho,hd⟩,hr⟩:=hl
      have hL : L ∈ X.fs:=hs L (by unfold frs; rw [List.filterMap_cons,hf]; exact List.mem_cons_self)
      obtain ⟨sl,e⟩:=I.base.slot L o ho (I.ok.frf L hL) hL fun z=>I.ok.exfs L z hL
      exact ⟨hk,⟨L,_,hf,hn,e,hd⟩,ih (fun b hb=>hs b (by unfold frs; rw [List.filterMap_cons,hf]; exact List.mem_cons_of_mem _ hb)) hr⟩
  exact all X.outer (fun _ hb=>hb) I.ok.funs
theorem Inv.stack (I : Inv X pins σ H s) : s.heap.FunFrames X.base X.stack:=by
  rcases I.ok.stk with e | ⟨e,hf⟩
  · rw [e]; exact I.funs
  · rw [e]
    obtain ⟨m,hn,_⟩:=I.loc
    refine .cons (by rw [I.ok.kind]; decide) hf hn ?_ I.funs
    exact Heap.get?_none_of_le (Nat.le_trans I.ok.bsz I.ok.above)
theorem Inv.stkSub (I : Inv X pins σ H s) : ∀ b ∈ frs X.stack,b ∈ X.env.locals :: X.fs:=fun b hb=>by
  rcases I.ok.stk with e | ⟨e,hf⟩
  · rw [e] at hb; exact List.mem_cons_of_mem _ hb
  · rw [e] at hb
    unfold frs at hb
    rw [List.filterMap_cons,hf] at hb
    exact hb
theorem Inv.stkFree (I : Inv X pins σ H s) : ∀ b ∈ frs X.stack,H b = none:=fun b hb=>by
  rcases List.mem_cons.mp (I.stkSub b hb) with e | hb
  · rw [e]; exact I.free
  · obtain ⟨_,o,ho,_⟩:=I.ok.funs.mem hb
    exact I.base.free b o ho (I.ok.frf b hb) fun z=>I.ok.exfs b z hb
theorem Inv.step {g' : Array GenState} {t' : Nat} {d' : Drawn} {ch : List Addr} (I : Inv X pins σ H s)
    (hch : ∀ b ∈ ch,(b ∈ X.ex \/ X.s₀.heap.objs.size <= b) /\ b ≠ X.env.locals /\ (∀ x c,X.env.cells.lookup x = some c -> c ≠ b) /\ ∀ p ∈ X.pn ++ pins,p.1 ≠ b)
    (keep : ∀ b o,b ≠ X.env.locals -> b ∉ X.fs -> b ∉ ch -> s.heap.get? b = some o -> H b = none -> h'.get? b = some o)
    (slot : ∀ b o,b ≠ X.env.locals -> b ∈ X.fs -> b ∉ ch -> s.heap.get? b = some o -> H b = none -> ∃ sl,h'.get? b = some { o with slots:=sl }) (free : ∀ b o,b ∉ ch -> s.heap.get? b = some o -> H b = none -> H' b = none)
    (there : ∀ b o,b ∉ ch -> s.heap.get? b = some o -> ∃ o',h'.get? b = some o')
    (tups : ∀ b xs,H b = some (.tup xs) -> H' b = some (.tup xs)) (frzs : ∀ b o u,H b = some (.frz o u) -> H' b = some (.frz o u)) (tbls : ∀ b ps,H b = some (.tbl ps) -> ∃ more,H' b = some (.tbl (ps ++ more)))
    (ns : ∀ m,s.heap.Ns X.env.locals m -> h'.Ns X.env.locals m) (hok : HOk X.prog X.w H' h') (hg : AllBare g') :
    Inv X pins σ H' { s with heap:=h',gens:=g',drawn:=d',toks:=t' }:=by
  have neL : ∀ b o,X.s₀.heap.get? b = some o -> b ≠ X.env.locals:=fun b o e=>Nat.ne_of_lt (Nat.lt_of_lt_of_le (Heap.lt_size e) I.ok.above)
  have neC : ∀ b o,X.s₀.heap.get? b = some o -> b ∉ X.ex -> b ∉ ch:=fun b o e hx hb=>by
    rcases (hch b hb).1 with z | z
    · exact hx z
    · exact absurd (Nat.lt_of_lt_of_le (Heap.lt_size e) z) (Nat.lt_irrefl _)
  have cellK : ∀ x c,X.env.cells.lookup x = some c -> ∀ v,s.heap.IsCell c v -> h'.IsCell c v:=fun x c e v ⟨o,ho,hd⟩=>by
    have nch : c ∉ ch:=fun z=>(hch c z).2.2.1 x c e rfl
    by_cases hc : c ∈ X.fs
    · obtain ⟨sl,q⟩:=slot c o (I.cne x c e) hc nch ho (I.freeC x c e)
      exact ⟨_,q,hd⟩
    · exact ⟨o,keep c o (I.cne x c e) hc nch ho (I.freeC x c e),hd⟩
  refine ⟨I.ok,I.os,hg,⟨fun b o e n hb hx=>?_,fun b o e n hb hx=>?_,fun b o e n hx=>?_,fun b o e hx=>?_,fun b xs e=>tups b xs (I.base.tups b xs e),fun b o xs e=>frzs b o xs (I.base.frzs b o xs e),fun b ps e=>?_⟩,?_,fun x c e=>?_,?_,fun x c e=>?_,fun p hp=>?_,hok,I.len⟩
  · exact keep b o (neL b o e) hb (neC b o e hx) (I.base.keep b o e n hb hx) (I.base.free b o e n hx)
  · obtain ⟨sl,e1⟩:=I.base.slot b o e n hb hx
    obtain ⟨sl',e2⟩:=slot b _ (neL b o e) hb (neC b o e hx) e1 (I.base.free b o e n hx)
    exact ⟨sl',e2⟩
  · obtain ⟨o',e1⟩:=I.base.there b o e hx
    exact free b o' (neC b o e hx) e1 (I.base.free b o e n hx)
  · obtain ⟨o',e1⟩:=I.base.there b o e hx
    exact there b o' (neC b o e hx) e1
  · obtain ⟨m1,e1⟩:=I.base.tbls b ps e
    obtain ⟨m2,e2⟩:=tbls b _ e1
    exact ⟨m1 ++ m2,by rw [e2,Array.append_assoc]⟩
  · obtain ⟨m,hn,hl⟩:=I.loc
    refine ⟨m,ns m hn,fun i x v e1 e2 e3=>?_⟩
    obtain ⟨u,r,l⟩:=hl i x v e1 e2 e3
    refine ⟨u,r,?_⟩
    rcases l with l | ⟨k,c,e,z⟩
    · exact .inl l
    · exact .inr ⟨k,c,e,cellK x c e _ z⟩
  · obtain ⟨v,z⟩:=I.cell x c e
    exact ⟨v,cellK x c e v z⟩
  · obtain ⟨m,⟨o,_,_,ho,_⟩,_⟩:=I.loc
    exact free _ o (fun z=>(hch _ z).2.1 rfl) ho I.free
  · obtain ⟨v,o,ho,hd⟩:=I.cell x c e
    exact free c o (fun z=>(hch c z).2.2.1 x c e rfl) ho (I.freeC x c e)
  · obtain ⟨e,n,ne,nf,d⟩:=I.pin p hp
    have nch : p.1 ∉ ch:=fun z=>(hch p.1 z).2.2.2 p hp rfl
    exact ⟨keep p.1 p.2 ne nf nch e n,free p.1 p.2 nch e n,ne,nf,d⟩
theorem Inv.un {t' : Nat} (I : Inv X pins σ H s) (u : Un X.fs [] H H' s.heap h') (hok : HOk X.prog X.w H' h') : Inv X pins σ H' { s with heap:=h',toks:=t' }:=by
  obtain ⟨m,⟨o,es,ep,ho,r⟩,_⟩:=id I.loc
  obtain ⟨sl,hL⟩:=u.any ho I.free (by simp)
  exact I.step (g':=s.gens) (d':=s.drawn) (ch:=[]) (fun _ z=>nomatch z) (fun b o _ hb _ e n=>u.keep b o e n hb (by simp)) (fun b o _ hb _ e n=>u.slot b o e n hb (by simp)) (fun b o _ e n=>u.free b o e n (by simp)) (fun b o _ e=>u.there b o e (by simp)) u.tups u.frzs u.tbls (fun m' hm=>by
    obtain ⟨o',es',ep',ho',r'⟩:=hm
    rw [ho] at ho'; cases ho'
    exact ⟨_,es',ep',hL,r'⟩) hok I.bare
theorem Inv.call {g' : Array GenState} {t' : Nat} {d' : Drawn} {ch : List Addr} (I : Inv X pins σ H s) (u : Un (frs X.stack) ch H H' s.heap h') (hok : HOk X.prog X.w H' h') (hg : AllBare g')
    (hch : ∀ b ∈ ch,(b ∈ X.ex \/ X.s₀.heap.objs.size <= b) /\ b ≠ X.env.locals /\ (∀ x c,X.env.cells.lookup x = some c -> c ≠ b) /\ ∀ p ∈ X.pn ++ pins,p.1 ≠ b) :
    Inv X pins σ H' { s with heap:=h',gens:=g',drawn:=d',toks:=t' }:=by
  obtain ⟨m,⟨o,es,ep,ho,r⟩,_⟩:=id I.loc
  obtain ⟨sl,hL⟩:=u.any ho I.free fun z=>(hch _ z).2.1 rfl
  exact I.step (ch:=ch) hch (fun b o hL hb hc e n=>u.keep b o e n (fun z=>(List.mem_cons.mp (I.stkSub b z)).elim hL hb) hc) (fun b o _ _ hc e n=>u.any e n hc) (fun b o hc e n=>u.free b o e n hc) (fun b o hc e=>u.there b o e hc) u.tups u.frzs u.tbls (fun m' hm=>by
    obtain ⟨o',es',ep',ho',r'⟩:=hm
    rw [ho] at ho'; cases ho'
    exact ⟨_,es',ep',hL,r'⟩) hok hg
theorem Inv.turned {t' : Nat} {it : Addr} (I : Inv X pins σ H s) (k : ∀ b o,b ≠ it -> s.heap.get? b = some o -> h'.get? b = some o) (hn : H it = none) (hL : it ≠ X.env.locals)
    (h1 : it ∈ X.ex \/ X.s₀.heap.objs.size <= it) (h2 : ∀ x c,X.env.cells.lookup x = some c -> c ≠ it) (h3 : ∀ p ∈ X.pn ++ pins,p.1 ≠ it) : Inv X pins σ H { s with heap:=h',toks:=t' }:=by
  have nit : ∀ b u,H b = some u -> b ≠ it:=fun b u e z=>by rw [z,hn] at e; cases e
  refine I.step (g':=s.gens) (d':=s.drawn) (ch:=[it]) (fun b hb=>?_) (fun b o _ _ hc e _=>k b o (fun z=>hc (by simp [z])) e) (fun b o _ _ hc e _=>⟨o.slots,k b o (fun z=>hc (by simp [z])) e⟩) (fun _ _ _ _ n=>n)
    (fun b o hc e=>⟨o,k b o (fun z=>hc (by simp [z])) e⟩) (fun _ _ e=>e) (fun _ _ _ e=>e) (fun b ps e=>⟨#[],by rw [e]; simp⟩) (fun m hm=>?_) (fun b u e=>?_) I.bare
  · have e : b = it:=by simpa using hb
    subst e
    exact ⟨h1,hL,h2,h3⟩
  · obtain ⟨o,es,ep,ho,r⟩:=hm
    exact ⟨o,es,ep,k _ o (Ne.symm hL) ho,r⟩
  · refine (I.hok b u e).stay (fun c v hc q=>k c v ?_ q) (fun _ q=>q) fun _ _ q=>q
    rcases hc with z | z
    · rw [z]; exact nit b u e
    · exact nit c _ z
theorem Inv.tok (I : Inv X pins σ H s) (t : Nat) : Inv X pins σ H { s with toks:=t }:=I.un (h':=s.heap) (t':=t) Un.refl I.hok
theorem Inv.kept {t' : Nat} (I : Inv X pins σ H s) (k : ∀ b u,s.heap.get? b = some u -> h'.get? b = some u) : Inv X pins σ H { s with heap:=h',toks:=t' }:=I.un (Un.kept k) (I.hok.kept k)
theorem Inv.laid {a : Addr} {o : HO} {t' : Nat} (I : Inv X pins σ H s) (k : ∀ b u,s.heap.get? b = some u -> h'.get? b = some u) (hp : s.heap.objs.size <= a) (new : ObjOk X.prog X.w (upd H a o) h' a o) :
    Inv X pins σ (upd H a o) { s with heap:=h',toks:=t' }:=I.un (Un.laid k hp (I.hok.fresh hp)) (I.hok.laid k hp new)
theorem Inv.write {x e : Addr} {o : HO} {t' : Nat} (I : Inv X pins σ H s) (mu : Mut (H x)) (he : e = x \/ H e = some (.own x)) (k : ∀ b u,b ≠ e -> s.heap.get? b = some u -> h'.get? b = some u) (heo : ∃ u,h'.get? e = some u)
    (new : ObjOk X.prog X.w (upd H x o) h' x o) : Inv X pins σ (upd H x o) { s with heap:=h',toks:=t' }:=I.un (Un.write mu he k heo) (I.hok.write mu he k heo new)
theorem Inv.pins_of {pins' : List (Addr × Obj)} (I : Inv X pins σ H s) (h : ∀ p ∈ pins',s.heap.get? p.1 = some p.2 /\ H p.1 = none /\ p.1 ≠ X.env.locals /\ p.1 ∉ X.fs /\ ∀ v,p.2.data ≠ .cell v) : Inv X pins' σ H s:=
  ⟨I.ok,I.os,I.bare,I.base,I.loc,I.cell,I.free,I.freeC,fun p hp=>(List.mem_append.mp hp).elim (fun z=>I.pin p (List.mem_append_left _ z)) (h p),I.hok,I.len⟩
theorem nodup_ix {N : List Str} (hN : N.Nodup) {i j : Nat} {x : Str} (a : N[i]? = some x) (b : N[j]? = some x) : i = j:=by
  obtain ⟨h1,e1⟩:=List.getElem?_eq_some_iff.mp a
  obtain ⟨h2,e2⟩:=List.getElem?_eq_some_iff.mp b
  exact (List.getElem_inj hN).mp (e1.trans e2.symm)
theorem store_ok2 {M : Model} {A : Around} {E : Value -> Shared -> Prop} {i : Nat} {x : Str} {v : V} {u : Value} {Q : Unit -> Shared -> Prop} (I : Inv X pins σ H s) (hN : X.N.Nodup) (hi : X.N[i]? = some x) (hx : Loc X.env.scope x) (r : RelV v u)
    (h : ∀ s',Inv X pins (σ.set i (some v)) H s' -> (∃ a,Heap.SameBut a s.heap s'.heap /\ (a = X.env.locals \/ X.env.cells.lookup x = some a)) -> Q () s') (hf : X.fn x = true \/ X.env.scope.names.lookup x = some .local:=by first | exact .inl rfl | exact .inr rfl | assumption) : wpAny M A (storeName X.env x u) Q E s:=by
  obtain ⟨m,hn,hl⟩:=id I.loc
  have hcls : (X.env.scope.kind == .class || (X.env.scope.kind == .module && X.env.locals != X.env.globals)) = false:=by rw [I.ok.kind]; rfl
  have hiσ : i < σ.length:=by rw [I.len]; exact (List.getElem?_eq_some_iff.mp hi).1
  have cne:=I.cne
  have tracked : ∀ {a : Addr} {h' : Heap},(∃ o,s.heap.get? a = some o /\ H a = none) -> Heap.SameBut a s.heap h' -> HOk X.prog X.w H h':=fun {a h'} ha hs b ob e=>by
    obtain ⟨_,_,hfree⟩:=ha
    refine (I.hok b ob e).stay (fun c w' hc q=>(hs.2 c ?_).trans q) (fun _ q=>q) fun _ _ q=>q
    rintro rfl
    rcases hc with rfl | hc
    · rw [hfree] at e; cases e
    · rw [hfree] at hc; cases hc
  rcases hx with hk | hk
  · refine wpAny_storeName_local hk hn (fun h' hn' hs=>?_) hcls
    obtain ⟨oL,_,_,hoL,_⟩:=id hn
    refine h _ ⟨I.ok,I.os,I.bare,⟨fun b o e n hb hx=>?_,fun b o e n hb hx=>?_,I.base.free,fun b o e hx=>?_,I.base.tups,I.base.frzs,I.base.tbls⟩,⟨_,hn',fun j y v' e1 e2 e3=>?_⟩,fun y c e=>?_,I.free,I.freeC,fun p hp=>?_,tracked ⟨oL,hoL,I.free⟩ hs,by simpa using I.len⟩ ⟨_,hs,.inl rfl⟩
    · exact (hs.2 b (Nat.ne_of_lt (Nat.lt_of_lt_of_le (Heap.lt_size e) I.ok.above))).trans (I.base.keep b o e n hb hx)
    · obtain ⟨sl,e1⟩:=I.base.slot b o e n hb hx
      exact ⟨sl,(hs.2 b (Nat.ne_of_lt (Nat.lt_of_lt_of_le (Heap.lt_size e) I.ok.above))).trans e1⟩
    · obtain ⟨o',e1⟩:=I.base.there b o e hx
      exact ⟨o',(hs.2 b (Nat.ne_of_lt (Nat.lt_of_lt_of_le (Heap.lt_size e) I.ok.above))).trans e1⟩
    · by_cases hj : j = i
      · subst hj
        rw [hi] at e1; cases e1
        rw [List.getElem?_set_self hiσ] at e2
        cases e2
        exact ⟨u,r,.inl ⟨hk,by simp⟩⟩
      · rw [List.getElem?_set_ne (Ne.symm hj)] at e2
        obtain ⟨u',r',q⟩:=hl j y v' e1 e2 e3
        refine ⟨u',r',?_⟩
        rcases q with ⟨k,e⟩ | ⟨k,c,e,z⟩
        · refine .inl ⟨k,?_⟩
          have : y ≠ x:=fun e=>hj (nodup_ix hN e1 (e ▸ hi))
          simp [this,e]
        · exact .inr ⟨k,c,e,z.sameBut hs (cne y c e)⟩
    · obtain ⟨w',z⟩:=I.cell y c e
      exact ⟨w',z.sameBut hs (cne y c e)⟩
    · obtain ⟨e,n,ne,nf,d⟩:=I.pin p hp
      exact ⟨(hs.2 p.1 ne).trans e,n,ne,nf,d⟩
  · have hfn : X.fn x = true:=by
      rcases hf with z | z
      · exact z
      · rw [z] at hk; cases hk
    obtain ⟨c,hc⟩:=I.ok.has x (.inl hk)
    obtain ⟨w',z⟩:=I.cell x c hc
    refine wpAny_storeName_cell I.ok.kind hk hc z (fun h' hc' hs=>?_)
    obtain ⟨oc,hoc,hocd⟩:=id z
    refine h { s with heap:=h' } ⟨I.ok,I.os,I.bare,⟨fun b o e n hb hx=>?_,fun b o e n hb hx=>?_,I.base.free,fun b o e hx=>?_,I.base.tups,I.base.frzs,I.base.tbls⟩,⟨m,hn.sameBut hs (Ne.symm (cne x c hc)),fun j y v' e1 e2 e3=>?_⟩,fun y c' e=>?_,I.free,I.freeC,fun p hp=>?_,tracked ⟨oc,hoc,I.freeC x c hc⟩ hs,by simpa using I.len⟩ ⟨c,hs,.inr hc⟩
    · exact (hs.2 b (Nat.ne_of_lt (Nat.lt_of_lt_of_le (Heap.lt_size e) (I.ok.cab x c hfn hc)))).trans (I.base.keep b o e n hb hx)
    · obtain ⟨sl,e1⟩:=I.base.slot b o e n hb hx
      exact ⟨sl,(hs.2 b (Nat.ne_of_lt (Nat.lt_of_lt_of_le (Heap.lt_size e) (I.ok.cab x c hfn hc)))).trans e1⟩
    · obtain ⟨o',e1⟩:=I.base.there b o e hx
      exact ⟨o',(hs.2 b (Nat.ne_of_lt (Nat.lt_of_lt_of_le (Heap.lt_size e) (I.ok.cab x c hfn hc)))).trans e1⟩
    · by_cases hj : j = i
      · subst hj
        rw [hi] at e1; cases e1
        rw [List.getElem?_set_self hiσ] at e2
        cases e2
        exact ⟨u,r,.inr ⟨.inl hk,c,hc,hc'⟩⟩
      · rw [List.getElem?_set_ne (Ne.symm hj)] at e2
        obtain ⟨u',r',q⟩:=hl j y v' e1 e2 e3
        refine ⟨u',r',?_⟩
        rcases q with q | ⟨k,c',e,z'⟩
        · exact .inl q
        · refine .inr ⟨k,c',e,z'.sameBut hs ?_⟩
          rintro rfl
          exact hj (nodup_ix hN e1 (I.ok.inj _ _ _ e hc ▸ hi))
    · by_cases hcc : c' = c
      · subst hcc; exact ⟨_,hc'⟩
      · obtain ⟨w2,z2⟩:=I.cell y c' e
        exact ⟨w2,z2.sameBut hs hcc⟩
    · obtain ⟨e,n,ne,nf,d⟩:=I.pin p hp
      refine ⟨(hs.2 p.1 ?_).trans e,n,ne,nf,d⟩
      intro q
      rw [q,hoc] at e
      have q' : oc = p.2:=Option.some.inj e
      exact d w' (by rw [<- q']; exact hocd)
theorem store_ok {M : Model} {A : Around} {E : Value -> Shared -> Prop} {i : Nat} {x : Str} {v : V} {u : Value} {Q : Unit -> Shared -> Prop} (I : Inv X pins σ H s) (hN : X.N.Nodup) (hi : X.N[i]? = some x) (hx : Loc X.env.scope x) (r : RelV v u)
    (h : ∀ s',Inv X pins (σ.set i (some v)) H s' -> Q () s') (hf : X.fn x = true \/ X.env.scope.names.lookup x = some .local:=by first | exact .inl rfl | exact .inr rfl | assumption) : wpAny M A (storeName X.env x u) Q E s:=
  store_ok2 I hN hi hx r (fun s' I' _=>h s' I') hf
theorem Inv.call' {s' : Shared} {ch : List Addr} (I : Inv X pins σ H s) (ho : s'.os = s.os) (u : Un (frs X.stack) ch H H' s.heap s'.heap) (hok : HOk X.prog X.w H' s'.heap) (hg : AllBare s'.gens)
    (hch : ∀ b ∈ ch,(b ∈ X.ex \/ X.s₀.heap.objs.size <= b) /\ b ≠ X.env.locals /\ (∀ x c,X.env.cells.lookup x = some c -> c ≠ b) /\ ∀ p ∈ X.pn ++ pins,p.1 ≠ b) : Inv X pins σ H' s':=by
  obtain ⟨h',g',d',t',o'⟩:=s'
  have e : o' = s.os:=ho
  subst e
  exact I.call (g':=g') (t':=t') (d':=d') u hok hg hch
end
abbrev XK:=Value -> Option Addr -> Hp -> Prop
abbrev St:=List (Option V)
abbrev VK:=V -> Hp -> Prop
abbrev TE:=St -> Hp -> VK -> Prop
abbrev TT:=St -> Hp -> (Bool -> Hp -> Prop) -> Prop
abbrev TA:=St -> Hp -> (List V -> Hp -> Prop) -> Prop
structure Ends where
  nx : St -> Hp -> Prop
  rt : VK
  bk : St -> Hp -> Prop:=fun _ _=>False
  ct : St -> Hp -> Prop:=fun _ _=>False
abbrev TS:=Ends -> St -> Hp -> Prop
def EP (X : Cx) (pins : List (Addr × Obj)) (σ : St) (Q : VK) (u : Value) (s' : Shared) : Prop:=∃ v H',Inv X pins σ H' s' /\ RelV v u /\ Q v H'
def TP (X : Cx) (pins : List (Addr × Obj)) (σ : St) (Q : Bool -> Hp -> Prop) (b : Bool) (s' : Shared) : Prop:=∃ H',Inv X pins σ H' s' /\ Q b H'
def AP (X : Cx) (pins : List (Addr × Obj)) (σ : St) (Q : List V -> Hp -> Prop) (us : List Value) (s' : Shared) : Prop:=∃ vs H',Inv X pins σ H' s' /\ Vals vs us /\ Q vs H'
def SP (X : Cx) (pins : List (Addr × Obj)) (D : Ends) (f : Flow) (s' : Shared) : Prop:=
  match f with
  | .next=>∃ σ' H',Inv X pins σ' H' s' /\ D.nx σ' H'
  | .brk=>∃ σ' H',Inv X pins σ' H' s' /\ D.bk σ' H'
  | .cont=>∃ σ' H',Inv X pins σ' H' s' /\ D.ct σ' H'
  | .ret u=>∃ v σ' H',Inv X pins σ' H' s' /\ RelV v u /\ D.rt v H'
def PE (X : Cx) (e : Expr) (t : TE) : Prop:=
  ∀ (pins : List (Addr × Obj)) (s : Shared) (σ : St) (H : Hp) (Q : VK),Inv X pins σ H s -> t σ H Q -> wpAny (model X.prog X.w) X.A (eval e X.env) (EP X pins σ Q) X.xe s
def PT (X : Cx) (e : Expr) (t : TT) : Prop:=
  ∀ (pins : List (Addr × Obj)) (s : Shared) (σ : St) (H : Hp) (Q : Bool -> Hp -> Prop),Inv X pins σ H s -> t σ H Q -> wpAny (model X.prog X.w) X.A (isTrue e X.env (eval e X.env)) (TP X pins σ Q) X.xe s
def PW (X : Cx) (e : Expr) (t : TT) : Prop:=
  ∀ (whole : Sem Value) (pins : List (Addr × Obj)) (s : Shared) (σ : St) (H : Hp) (Q : Bool -> Hp -> Prop),Inv X pins σ H s -> t σ H Q -> wpAny (model X.prog X.w) X.A (isTrue e X.env whole) (TP X pins σ Q) X.xe s
theorem PW.pt {X : Cx} {e : Expr} {t : TT} (h : PW X e t) : PT X e t:=h _
def PA (X : Cx) (es : List Expr) (t : TA) : Prop:=
  ∀ (pos : Pos) (pins : List (Addr × Obj)) (s : Shared) (σ : St) (H : Hp) (Q : List V -> Hp -> Prop),Inv X pins σ H s -> t σ H Q -> wpAny (model X.prog X.w) X.A (spliced (backTo pos (starEach es X.env))) (AP X pins σ Q) X.xe s
def PS (X : Cx) (st : Stmt) (t : TS) : Prop:=
  ∀ (pins : List (Addr × Obj)) (s : Shared) (σ : St) (H : Hp) (D : Ends),Inv X pins σ H s -> t D σ H -> wpAny (model X.prog X.w) X.A (exec st X.env) (SP X pins D) X.xe s
def PSs (X : Cx) (st : List Stmt) (t : TS) : Prop:=
  ∀ (pins : List (Addr × Obj)) (s : Shared) (σ : St) (H : Hp) (D : Ends),Inv X pins σ H s -> t D σ H -> wpAny (model X.prog X.w) X.A (execs st X.env) (SP X pins D) X.xe s
theorem thn {α : Type} {t : Sem α} {Q Q' : α -> Shared -> Prop} {M : Model} {A : Around} {E : Value -> Shared -> Prop} {s : Shared} (h : wpAny M A t Q E s) (hQ : ∀ a s,Q a s -> Q' a s) : wpAny M A t Q' E s:=wpAny_mono h hQ fun _ _ x=>x
end L2
namespace L2
open PySem PySem.Spec PyProof.Rows
section
variable {X : Cx}
def tVar (i : Nat) : TE:=fun σ H Q=>∃ v,σ[i]? = some (some v) /\ Q v H
def tC (v : V) : TE:=fun _ H Q=>Q v H
theorem pe_var {i : Nat} {x : Str} {pos : Pos} (hN : X.N[i]? = some x) (hv : Vis X.env.scope x) (hd : (x == ("__debug__" : Str)) = false:=by decide) (hcd : (x == ("__classdict__" : Str)) = false:=by decide) : PE X (.Name x pos) (tVar i):=by
  intro pins s σ H Q I h
  obtain ⟨v,e,h⟩:=h
  obtain ⟨m,hn,hl⟩:=I.loc
  obtain ⟨u,r,l⟩:=hl i x v hN e hv
  have fin : EP X pins σ Q u s:=⟨v,H,I,r,h⟩
  rcases l with ⟨hk,hm⟩ | ⟨hk,c,hc,hcell⟩
  · exact wpAny_Name (wpAny_loadName_local I.ok.kind hk hn hm fin) hd
  · rcases hk with hk | hk
    · exact wpAny_Name (wpAny_loadName_cell I.ok.kind hk hc hcell fin) hd
    · exact wpAny_Name (wpAny_loadName_free I.ok.kind hk hc hcell fin hcd) hd
theorem pe_int {i j pos} : PE X (.Constant (.int i) j pos) (tC (.int i)):=fun _ _ _ H _ I h=>wpAny_Constant_int ⟨.int i,H,I.tok _,⟨_,rfl⟩,h⟩
theorem pe_bl {b j pos} : PE X (.Constant (.bool b) j pos) (tC (.bl b)):=fun _ _ _ H _ I h=>Constant_bool ⟨.bl b,H,I,rfl,h⟩
theorem pe_non {j pos} : PE X (.Constant .none j pos) (tC .non):=fun _ _ _ H _ I h=>Constant_none ⟨.non,H,I,rfl,h⟩
theorem pe_str {x j pos} : PE X (.Constant (.str x) j pos) (tC (.str x)):=fun _ _ _ H _ I h=>Calls.Constant_str ⟨.str x,H,I.tok _,⟨_,rfl⟩,h⟩
def Gl (X : Cx) (x : Str) : Prop:=X.env.kindOf x = some .globalImplicit
theorem ld_glob {E : Value -> Shared -> Prop} {pins : List (Addr × Obj)} {s : Shared} {σ : St} {H : Hp} {x : Str} {u : Value} {pos : Pos} {Q : Value -> Shared -> Prop} (I : Inv X pins σ H s) (hg : Gl X x) (hm : X.mg x = some u) (h : Q u s)
    (hd : (x == ("__debug__" : Str)) = false:=by decide) : wpAny (model X.prog X.w) X.A (eval (.Name x pos) X.env) Q E s:=
  Calls.Name_function_global I.ok.kind hg (Calls.loadGlobal_global (by rw [I.ok.glob]; exact I.mod.glob.keeps I.bk) hm h) hd
theorem ld_blt {E : Value -> Shared -> Prop} {pins : List (Addr × Obj)} {s : Shared} {σ : St} {H : Hp} {x : Str} {u : Value} {pos : Pos} {Q : Value -> Shared -> Prop} (I : Inv X pins σ H s) (hg : Gl X x) (hm : X.mg x = none) (hv : bootBuiltins x = some u) (h : Q u s)
    (hn : x ≠ "__name__" := by decide) (hd : (x == ("__debug__" : Str)) = false:=by decide) : wpAny (model X.prog X.w) X.A (eval (.Name x pos) X.env) Q E s:=by
  obtain ⟨mb,h1,h2⟩:=I.mod.blt
  exact Calls.Name_function_global I.ok.kind hg (Calls.loadGlobal_builtin (by rw [I.ok.glob]; exact I.mod.glob.keeps I.bk) hm (by rw [I.ok.blt]; exact h1.keeps I.bk) ((h2 x hn).trans hv) h) hd
theorem pe_glob {x : Str} {v : V} {u : Value} {pos : Pos} (hg : Gl X x) (hm : X.mg x = some u) (r : RelV v u) (hd : (x == ("__debug__" : Str)) = false:=by decide) : PE X (.Name x pos) (tC v):=
  fun _ _ _ H _ I h=>ld_glob I hg hm ⟨v,H,I,r,h⟩ hd
theorem pe_bltn {x : Str} {v : V} {u : Value} {pos : Pos} (hg : Gl X x) (hm : X.mg x = none) (hv : bootBuiltins x = some u) (r : RelV v u) (hn : x ≠ "__name__" := by decide) (hd : (x == ("__debug__" : Str)) = false:=by decide) : PE X (.Name x pos) (tC v):=
  fun _ _ _ H _ I h=>ld_blt I hg hm hv ⟨v,H,I,r,h⟩ hn hd
variable {a b : Expr} {ta tb : TE} {pos : Pos}
def tB (t : TE) : TT:=fun σ H Q=>t σ H fun x H1=>∃ c,x = .bl c /\ Q c H1
theorem pt_val {e : Expr} {t : TE} (h : PE X e t) (he : ∀ whole,isTrue e X.env whole = (do let v <- whole; standAt e.pos; holding [v] (truthy v)):=by intro _; rfl) : PT X e (tB t):=by
  intro pins s σ H Q I hw
  refine isTrue_plain (thn (h pins s σ H _ I hw) fun v s1 ⟨x,H1,I1,r1,q1⟩=>?_) (he _)
  obtain ⟨d,rfl,q⟩:=q1
  cases r1
  exact wpAny_truthy_bool ⟨H1,I1,q⟩
variable {tA tB' : TT} {rest : List Expr}
def tAnd (t u : TT) : TT:=fun σ H Q=>t σ H fun c H1=>if c = true then u σ H1 Q else Q false H1
def tOr (t u : TT) : TT:=fun σ H Q=>t σ H fun c H1=>if c = true then Q true H1 else u σ H1 Q
def tNot (t : TT) : TT:=fun σ H Q=>t σ H fun c H1=>Q (!c) H1
theorem pw_and1 (ha : PT X a tA) : PW X (.BoolOp .And [a] pos) tA:=by
  intro wh pins s σ H Q I h
  refine isTrue_and (thn (ha pins s σ H Q I h) fun c s1 e=>?_)
  cases c with
  | true=>exact isTrue_and_nil e
  | false=>exact e
theorem pw_or1 (ha : PT X a tA) : PW X (.BoolOp .Or [a] pos) tA:=by
  intro wh pins s σ H Q I h
  refine isTrue_or (thn (ha pins s σ H Q I h) fun c s1 e=>?_)
  cases c with
  | false=>exact isTrue_or_nil e
  | true=>exact e
theorem pw_and (ha : PT X a tA) (hb : PW X (.BoolOp .And (b :: rest) pos) tB') : PW X (.BoolOp .And (a :: b :: rest) pos) (tAnd tA tB'):=by
  intro wh pins s σ H Q I h
  refine isTrue_and (thn (ha pins s σ H _ I h) fun c s1 ⟨H1,I1,q1⟩=>?_)
  cases c with
  | true=>exact hb wh pins s1 σ H1 Q I1 q1
  | false=>exact ⟨H1,I1,q1⟩
theorem pw_or (ha : PT X a tA) (hb : PW X (.BoolOp .Or (b :: rest) pos) tB') : PW X (.BoolOp .Or (a :: b :: rest) pos) (tOr tA tB'):=by
  intro wh pins s σ H Q I h
  refine isTrue_or (thn (ha pins s σ H _ I h) fun c s1 ⟨H1,I1,q1⟩=>?_)
  cases c with
  | true=>exact ⟨H1,I1,q1⟩
  | false=>exact hb wh pins s1 σ H1 Q I1 q1
theorem pt_not (ha : PT X a tA) : PT X (.UnaryOp .Not a pos) (tNot tA):=by
  intro pins s σ H Q I h
  exact isTrue_not (ha pins s σ H (fun c H1=>Q (!c) H1) I h)
def tAndV (ta tb : TE) : TE:=fun σ H Q=>ta σ H fun x H1=>∃ c,x = .bl c /\ if c = true then tb σ H1 Q else Q (.bl false) H1
def tOrV (ta tb : TE) : TE:=fun σ H Q=>ta σ H fun x H1=>∃ c,x = .bl c /\ if c = true then Q (.bl true) H1 else tb σ H1 Q
def tNotV (ta : TE) : TE:=fun σ H Q=>ta σ H fun x H1=>∃ c,x = .bl c /\ Q (.bl (!c)) H1
theorem pe_one {op} {t : TE} (h : PE X a t) : PE X (.BoolOp op [a] pos) t:=fun pins s σ H Q I hw=>BoolOp_one (h pins s σ H Q I hw)
theorem pe_and (ha : PE X a ta) (hb : PE X (.BoolOp .And (b :: rest) pos) tb) : PE X (.BoolOp .And (a :: b :: rest) pos) (tAndV ta tb):=by
  intro pins s σ H Q I h
  refine BoolOp_and (thn (ha pins s σ H _ I h) fun v s1 ⟨x,H1,I1,r1,q1⟩=>?_)
  obtain ⟨c,rfl,q1⟩:=q1
  cases r1
  refine wpAny_truthy_bool ?_
  cases c with
  | true=>exact hb pins s1 σ H1 Q I1 q1
  | false=>exact ⟨.bl false,H1,I1,rfl,q1⟩
theorem pe_or (ha : PE X a ta) (hb : PE X (.BoolOp .Or (b :: rest) pos) tb) : PE X (.BoolOp .Or (a :: b :: rest) pos) (tOrV ta tb):=by
  intro pins s σ H Q I h
  refine BoolOp_or (thn (ha pins s σ H _ I h) fun v s1 ⟨x,H1,I1,r1,q1⟩=>?_)
  obtain ⟨c,rfl,q1⟩:=q1
  cases r1
  refine wpAny_truthy_bool ?_
  cases c with
  | false=>exact hb pins s1 σ H1 Q I1 q1
  | true=>exact ⟨.bl true,H1,I1,rfl,q1⟩
theorem pe_not (ha : PE X a ta) : PE X (.UnaryOp .Not a pos) (tNotV ta):=by
  intro pins s σ H Q I h
  refine UnaryOp_ (thn (ha pins s σ H _ I h) fun v s1 ⟨x,H1,I1,r1,q1⟩=>?_)
  obtain ⟨c,rfl,q1⟩:=q1
  cases r1
  exact not_of (wpAny_truthy_bool ⟨.bl (!c),H1,I1,rfl,q1⟩)
end
end L2
namespace L2
open PySem PySem.Spec PyProof.Rows
def SqL (K : PySem.W.Frag) (H : Hp) (a : Addr) (xs : List V) : Prop:=
  Rd H a (.lst xs) \/
    ∃ (o : Obj) (its : Array Value) (n : Nat),K.lookup a = some o /\ o.cls = .type "list" /\ o.dict = none /\ o.data = .seq its n /\ its.size <= sizeLine /\ Vals xs its.toList
def SqT (K : PySem.W.Frag) (H : Hp) (a : Addr) (xs : List V) : Prop:=
  Rd H a (.tup xs) \/
    ∃ (o : Obj) (its : Array Value) (n : Nat),K.lookup a = some o /\ o.cls = .type "tuple" /\ o.data = .seq its n /\ its.size <= sizeLine /\ Vals xs its.toList
def absV : Value -> Option V
  | .none=>some .non
  | .bool b=>some (.bl b)
  | .int i _=>some (.int i)
  | .str x _=>some (.str x)
  | .bytes b _=>some (.byt b)
  | .float b _=>some (.flt b)
  | .ref a=>some (.ref a)
  | .type n=>some (.ty n)
  | _=>none
theorem RelV.abs {x : V} {u : Value} (r : RelV x u) : absV u = some x:=by
  cases x with
  | non=>cases r; rfl
  | bl _=>cases r; rfl
  | int _=>obtain ⟨t,rfl⟩:=r; rfl
  | str _=>obtain ⟨t,rfl⟩:=r; rfl
  | byt _=>obtain ⟨t,rfl⟩:=r; rfl
  | flt _=>obtain ⟨t,rfl⟩:=r; rfl
  | ref _=>cases r; rfl
  | ty _=>cases r; rfl
theorem RelV.inj {x y : V} {u : Value} (r : RelV x u) (q : RelV y u) : x = y:=Option.some.inj (r.abs.symm.trans q.abs)
theorem Vals.inj : ∀ {xs ys : List V} {us : List Value},Vals xs us -> Vals ys us -> xs = ys
  | _,_,_,.nil,.nil=>rfl
  | _,_,_,.cons r t,.cons r' t'=>by rw [r.inj r',Vals.inj t t']
section
variable {X : Cx} {pins : List (Addr × Obj)} {σ : St} {H : Hp} {s : Shared} {a : Addr} {xs ys : List V}
theorem SqL.of {K : PySem.W.Frag} (h : H a = some (.lst xs)) : SqL K H a xs:=.inl (.inl h)
theorem SqT.of {K : PySem.W.Frag} (h : H a = some (.tup xs)) : SqT K H a xs:=.inl (.inl h)
theorem Inv.list (I : Inv X pins σ H s) (h : SqL X.K H a xs) : ∃ its : List Value,Vals xs its /\ PlainL s.heap a its.toArray /\ xs.length <= sizeLine:=by
  rcases h with h | ⟨o,its,n,hk,hc,hd,hs,hz,r⟩
  · obtain ⟨z,its,n,r,e⟩:=h.ok I.hok
    exact ⟨its,r,⟨_,n,e,rfl,rfl,rfl⟩,z⟩
  · refine ⟨its.toList,r,⟨o,n,I.kIn a o hk,hc,hd,by simpa using hs⟩,?_⟩
    have e:=r.length
    simp only [Array.length_toList] at e
    omega
theorem Inv.tuple (I : Inv X pins σ H s) (h : SqT X.K H a xs) : ∃ its : List Value,Vals xs its /\ IsTup s.heap a its.toArray /\ xs.length <= sizeLine:=by
  rcases h with h | ⟨o,its,n,hk,hc,hs,hz,r⟩
  · obtain ⟨z,its,r,p⟩:=h.ok I.hok
    exact ⟨its,r,p,z⟩
  · refine ⟨its.toList,r,⟨o,I.kIn a o hk,hc,n,by simpa using hs⟩,?_⟩
    have e:=r.length
    simp only [Array.length_toList] at e
    omega
theorem Inv.list_inj (I : Inv X pins σ H s) (h : SqL X.K H a xs) (h' : SqL X.K H a ys) : xs = ys:=by
  obtain ⟨its,r,⟨o,n,e,_,_,d⟩,_⟩:=I.list h
  obtain ⟨its',r',⟨o',n',e',_,_,d'⟩,_⟩:=I.list h'
  rw [e] at e'; cases e'
  rw [d] at d'
  injection d' with d1 _
  have : its = its':=by simpa using congrArg Array.toList d1
  subst this
  exact r.inj r'
theorem Inv.tuple_inj (I : Inv X pins σ H s) (h : SqT X.K H a xs) (h' : SqT X.K H a ys) : xs = ys:=by
  obtain ⟨its,r,⟨o,e,_,n,d⟩,_⟩:=I.tuple h
  obtain ⟨its',r',⟨o',e',_,n',d'⟩,_⟩:=I.tuple h'
  rw [e] at e'; cases e'
  rw [d] at d'
  injection d' with d1 _
  have : its = its':=by simpa using congrArg Array.toList d1
  subst this
  exact r.inj r'
end
section
variable {X : Cx} {st : Stmt} {rest : List Stmt} {t u : TS} {e : Expr} {te : TE} {pos : Pos}
def tNext : TS:=fun D σ H=>D.nx σ H
def tSeq (t u : TS) : TS:=fun D σ H=>t { D with nx:=u D } σ H
theorem pss_nil : PSs X [] tNext:=fun _ _ σ H _ I h=>wpAny_execs_nil ⟨σ,H,I,h⟩
theorem pss_cons (h1 : PS X st t) (h2 : PSs X rest u) : PSs X (st :: rest) (tSeq t u):=by
  intro pins s σ H D I h
  refine wpAny_execs_cons (thn (h1 pins s σ H { D with nx:=u D } I h) fun f s1 q=>?_)
  cases f with
  | next=>
    obtain ⟨σ',H',I',q⟩:=q
    exact h2 pins s1 σ' H' D I' q
  | ret v=>exact q
  | brk=>exact q
  | cont=>exact q
theorem pss_one (h1 : PS X st t) : PSs X [st] t:=by
  intro pins s σ H D I h
  refine wpAny_execs_cons (thn (h1 pins s σ H D I h) fun f s1 q=>?_)
  cases f with
  | next=>exact wpAny_execs_nil q
  | ret v=>exact q
  | brk=>exact q
  | cont=>exact q
theorem Inv.quiet {pins : List (Addr × Obj)} {σ : St} {H : Hp} {s : Shared} (I : Inv X pins σ H s) : interactive X.env = false:=by simp [interactive,I.ok.kind]
def tDrop (te : TE) : TS:=fun D σ H=>te σ H fun _ H1=>D.nx σ H1
theorem ps_expr (he : PE X e te) (hs : swapsWith e none pos.line X.env = pure false:=by rfl) : PS X (.Expr e pos) (tDrop te):=by
  intro pins s σ H D I h
  exact wpAny_Expr_any (thn (he pins s σ H _ I h) fun v s1 ⟨x,H1,I1,r1,q1⟩=>⟨σ,H1,I1,q1⟩) I.quiet hs
def tRet (te : TE) : TS:=fun D σ H=>te σ H D.rt
theorem ps_ret (he : PE X e te) : PS X (.Return (some e) pos) (tRet te):=by
  intro pins s σ H D I h
  exact wpAny_Return_some (thn (he pins s σ H _ I h) fun v s1 ⟨x,H1,I1,r1,q1⟩=>⟨x,σ,H1,I1,r1,q1⟩)
def tIfS (c : TT) (t u : TS) : TS:=fun D σ H=>c σ H fun b H1=>if b = true then t D σ H1 else u D σ H1
theorem ps_if {c : Expr} {a b : List Stmt} {tc : TT} (hc : PT X c tc) (ha : PSs X a t) (hb : PSs X b u) : PS X (.If c a b pos) (tIfS tc t u):=by
  intro pins s σ H D I h
  refine wpAny_If (thn (hc pins s σ H _ I h) fun d s1 ⟨H1,I1,q1⟩=>?_)
  cases d with
  | true=>exact ha pins s1 σ H1 D I1 q1
  | false=>exact hb pins s1 σ H1 D I1 q1
end
abbrev TG:=V -> St -> Hp -> (St -> Hp -> Prop) -> Prop
abbrev TGs:=List V -> St -> Hp -> (St -> Hp -> Prop) -> Prop
def PG (X : Cx) (target : Expr) (t : TG) : Prop:=
  ∀ (pins : List (Addr × Obj)) (s : Shared) (σ : St) (H : Hp) (v : V) (u : Value) (Q : St -> Hp -> Prop),Inv X pins σ H s -> RelV v u -> t v σ H Q ->
    wpAny (model X.prog X.w) X.A (assign target X.env u) (fun _ s'=>∃ σ' H',Inv X pins σ' H' s' /\ Q σ' H') X.xe s
abbrev TSet:=V -> V -> V -> Hp -> (Hp -> Prop) -> Prop
def PSet (X : Cx) (t : TSet) : Prop:=
  ∀ (pins : List (Addr × Obj)) (s : Shared) (σ : St) (H : Hp) (o i v : V) (ov iv u : Value) (Q : Hp -> Prop),Inv X pins σ H s -> RelV o ov -> RelV i iv -> RelV v u -> t o i v H Q ->
    wpAny (model X.prog X.w) X.A (setItem ov iv u) (fun _ s'=>∃ H',Inv X pins σ H' s' /\ Q H') X.xe s
section
variable {X : Cx} {pos : Pos}
def gName (i : Nat) : TG:=fun v σ H Q=>Q (σ.set i (some v)) H
theorem pg_name {i : Nat} {x : Str} (hN : X.N.Nodup) (hi : X.N[i]? = some x) (hx : Loc X.env.scope x) (hf : X.fn x = true \/ X.env.scope.names.lookup x = some .local:=by first | exact .inl rfl | exact .inr rfl | assumption) : PG X (.Name x pos) (gName i):=by
  intro pins s σ H v u Q I r h
  exact wpAny_assign_Name (store_ok I hN hi hx r (fun s' I'=>⟨_,H,I',h⟩) hf)
def gNil : TGs:=fun vs σ H Q=>vs = [] /\ Q σ H
def gCons (t : TG) (u : TGs) : TGs:=fun vs σ H Q=>∃ v r,vs = v :: r /\ t v σ H fun σ' H'=>u r σ' H' Q
def gTup (K : PySem.W.Frag) (n : Nat) (t : TGs) : TG:=fun v σ H Q=>∃ a xs,v = .ref a /\ SqT K H a xs /\ xs.length = n /\ t xs σ H Q
def gSub (to ti : TE) (t : TSet) : TG:=fun v σ H Q=>to σ H fun o H1=>ti σ H1 fun i H2=>t o i v H2 fun H3=>Q σ H3
theorem pg_sub {o i : Expr} {to ti : TE} {t : TSet} (ho : PE X o to) (hi : PE X i ti) (hs : PSet X t)
    (ha : ∀ v,assign (.Subscript o i pos) X.env v = (do
      let ov <- holding [v] (eval o X.env)
      let iv <- holding [v,ov] (eval i X.env)
      standAt pos
      holding [v,ov,iv] (setItem ov iv v)
      release [v,ov,iv] []):=by intro _; rfl) : PG X (.Subscript o i pos) (gSub to ti t):=by
  intro pins s σ H v u Q I r h
  rw [ha]
  refine wpAny_bind (wpAny_holding (thn (ho pins s σ H _ I h) fun ov s1 ⟨x,H1,I1,r1,q1⟩=>?_))
  refine wpAny_bind (wpAny_holding (thn (hi pins s1 σ H1 _ I1 q1) fun iv s2 ⟨y,H2,I2,r2,q2⟩=>?_))
  refine wpAny_bind (wpAny_standAt (wpAny_bind (wpAny_holding (thn (hs pins s2 σ H2 x y v ov iv u _ I2 r1 r2 r q2) fun _ s3 ⟨H3,I3,q3⟩=>?_))))
  exact wpAny_release ⟨σ,H3,I3,q3⟩
def tAsg (te : TE) (g : TG) : TS:=fun D σ H=>te σ H fun x H1=>g x σ H1 D.nx
theorem ps_asg {tg e : Expr} {te : TE} {g : TG} (he : PE X e te) (hg : PG X tg g) (hs : swapsWithSole [tg] e pos.line X.env = pure false:=by rfl) (hw : swappedStores [tg] e X.env = pure none:=by rfl)
    (h1 : (assignEach [tg] X.env).map (·.2) = [assign tg X.env]:=by rfl) : PS X (.Assign [tg] e pos) (tAsg te g):=by
  intro pins s σ H D I h
  refine wpAny_Assign_stores (thn (he pins s σ H _ I h) fun v s1 ⟨x,H1,I1,r1,q1⟩=>?_) hs hw
  rw [h1]
  exact thn (hg pins s1 σ H1 x v _ I1 r1 q1) fun _ s2 q=>q
theorem ps_set {i : Nat} {x : Str} {e : Expr} {te : TE} {pos' : Pos} (hN : X.N.Nodup) (hi : X.N[i]? = some x) (hx : Loc X.env.scope x) (he : PE X e te) (hs : swapsWith e (some (.Name x pos')) pos.line X.env = pure false:=by rfl) (hf : X.fn x = true \/ X.env.scope.names.lookup x = some .local:=by first | exact .inl rfl | exact .inr rfl | assumption) :
    PS X (.Assign [.Name x pos'] e pos) (tAsg te (gName i)):=by
  intro pins s σ H D I h
  refine wpAny_Assign_Name (thn (he pins s σ H _ I h) fun v s1 ⟨y,H1,I1,r1,q1⟩=>?_) hs
  exact store_ok I1 hN hi hx r1 (fun s2 I2=>⟨_,H1,I2,q1⟩) hf
end
section
variable {X : Cx} {pos : Pos}
def tWhile (c : TT) (tb : TS) : TS:=fun D σ H=>∃ W : Nat -> St -> Hp -> Prop,(∃ m,W m σ H) /\ ∀ m σ H,W m σ H ->
  c σ H fun b H1=>if b = true then ∃ N : St -> Hp -> Prop,(∀ σ' H',N σ' H' -> ∃ m',m' < m /\ W m' σ' H') /\ tb { D with nx:=N,ct:=N,bk:=D.nx } σ H1 else D.nx σ H1
theorem ps_while {c : Expr} {body : List Stmt} {tc : TT} {tb : TS} (hp : PassesOwn (model X.prog X.w) X.A X.env X.xe) (hc : PT X c tc) (hb : PSs X body tb) : PS X (.While c body [] pos) (tWhile tc tb):=by
  intro pins s σ H D I h
  obtain ⟨W,⟨m0,w0⟩,turn⟩:=h
  refine wpAny_While (codeAny_whileLoop (fun n s'=>∃ σ' H',Inv X pins σ' H' s' /\ W n σ' H') ?_ m0 ⟨σ,H,I,w0⟩)
  rintro n s1 ⟨σ1,H1,I1,w1⟩
  refine wpAny_passesOwn hp (thn (hc pins s1 σ1 H1 _ I1 (turn n σ1 H1 w1)) fun b s2 ⟨H2,I2,q2⟩=>?_)
  cases b with
  | true=>
    obtain ⟨N,hN,q2⟩:=q2
    rw [if_pos rfl]
    refine wpAny_passesOwn hp (thn (hb pins s2 σ1 H2 _ I2 q2) fun f s3 q3=>?_)
    cases f with
    | next=>
      obtain ⟨σ3,H3,I3,n3⟩:=q3
      obtain ⟨m',hm,w3⟩:=hN σ3 H3 n3
      exact ⟨m',hm,σ3,H3,I3,w3⟩
    | cont=>
      obtain ⟨σ3,H3,I3,n3⟩:=q3
      obtain ⟨m',hm,w3⟩:=hN σ3 H3 n3
      exact ⟨m',hm,σ3,H3,I3,w3⟩
    | brk=>exact q3
    | ret v=>exact q3
  | false=>
    rw [if_neg Bool.false_ne_true]
    exact wpAny_execs_nil ⟨σ1,H2,I2,q2⟩
end
structure It where
  go : Nat -> Hp -> Prop
  yld : Nat -> Hp -> V -> Hp -> Prop
  stop : Nat -> Hp -> Prop
def FpOk (X : Cx) (pins : List (Addr × Obj)) (H : Hp) (b : Addr) : Prop:=
  H b = none /\ b ≠ X.env.locals /\ b ∉ X.fs /\ (b ∈ X.ex \/ X.s₀.heap.objs.size <= b) /\ (∀ x c,X.env.cells.lookup x = some c -> c ≠ b) /\ ∀ p ∈ X.pn ++ pins,p.1 ≠ b
theorem Inv.fpOk {X : Cx} {pins : List (Addr × Obj)} {σ : St} {H H' : Hp} {s : Shared} {b : Addr} (I : Inv X pins σ H s) (hb : s.heap.objs.size <= b) (hn : H' b = none) : FpOk X pins H' b:=by
  refine ⟨hn,Nat.ne_of_gt (Nat.lt_of_lt_of_le I.lt hb),I.nofs hb,.inr (Nat.le_trans I.sz hb),fun x c e z=>?_,fun p hp z=>?_⟩
  · obtain ⟨v,q⟩:=I.cell x c e
    exact absurd (Nat.lt_of_lt_of_le q.lt (by rw [z]; exact hb)) (Nat.lt_irrefl _)
  · exact absurd (Nat.lt_of_lt_of_le (Heap.lt_size (I.pin p hp).1) (by rw [z]; exact hb)) (Nat.lt_irrefl _)
structure Turn (P : Program) (w : World) (K : PySem.W.Frag) (tg : Expr) (J : It) (fp : List Addr) (it : Addr) (tn : Nat -> Heap -> Prop) : Prop where
  mem : it ∈ fp
  obj : ∀ i h,tn i h -> ∀ b ∈ fp,∃ o,h.get? b = some o /\ ∀ v,o.data ≠ .cell v
  keep : ∀ i h h',tn i h -> (∀ b ∈ fp,∀ o,h.get? b = some o -> h'.get? b = some o) -> tn i h'
  item : ∀ (X : Cx),X.prog = P -> X.w = w -> X.K = K -> X.calm = true -> ∀ (i : Nat) (pins : List (Addr × Obj)) (s : Shared) (σ : St) (H : Hp) (E : Value -> Shared -> Prop),Inv X pins σ H s -> (∀ b ∈ fp,FpOk X pins H b) -> tn i s.heap -> J.go i H ->
    wpAny (model P w) X.A (pyNext (.ref it)) (fun r s1=>∃ u,r = some u /\
      wpAny (model P w) X.A (letOwnedTupleGo tg (.ref it) u) (fun _ s2=>∃ x H',Inv X pins σ H' s2 /\ RelV x u /\ J.yld i H x H' /\ tn (i + 1) s2.heap /\ ∀ b ∈ fp,H' b = none) E s1) E s
  done : ∀ (X : Cx),X.prog = P -> X.w = w -> X.K = K -> X.calm = true -> ∀ (i : Nat) (pins : List (Addr × Obj)) (s : Shared) (σ : St) (H : Hp) (E : Value -> Shared -> Prop),Inv X pins σ H s -> (∀ b ∈ fp,FpOk X pins H b) -> tn i s.heap -> J.stop i H ->
    wpAny (model P w) X.A (pyNext (.ref it)) (fun r s1=>r = none /\ Inv X pins σ H s1) E s
  self : ∀ (A : Around) (i : Nat) (s : Shared) (Q : Value -> Shared -> Prop) (E : Value -> Shared -> Prop),tn i s.heap -> Q (.ref it) s -> wpAny (model P w) A (pyIter (.ref it)) Q E s
abbrev TI:=St -> Hp -> (It -> Hp -> Prop) -> Prop
def PIE (X : Cx) (pins : List (Addr × Obj)) (σ : St) (tg : Expr) (R : It -> Hp -> Prop) (itv : Value) (s2 : Shared) : Prop:=
  ∃ (it : Addr) (fp : List Addr) (tn : Nat -> Heap -> Prop) (J : It) (H' : Hp),itv = .ref it /\ Inv X pins σ H' s2 /\ Turn X.prog X.w X.K tg J fp it tn /\ tn 0 s2.heap /\ (∀ b ∈ fp,FpOk X pins H' b) /\ R J H'
def PI (X : Cx) (tg iter : Expr) (wi : TI) : Prop:=
  ∀ (pins : List (Addr × Obj)) (s : Shared) (σ : St) (H : Hp) (R : It -> Hp -> Prop),Inv X pins σ H s -> wi σ H R ->
    wpAny (model X.prog X.w) X.A (eval iter X.env) (fun v s1=>wpAny (model X.prog X.w) X.A (pyIter v) (PIE X pins σ tg R) X.xe s1) X.xe s
theorem go_of {M : Model} {A : Around} {E : Value -> Shared -> Prop} {s : Shared} {tg : Expr} {it : Addr} {u : Value} {o : Obj} {n : String} {vs : Array Value} {Q : Unit -> Shared -> Prop} (ho : s.heap.get? it = some o) (hc : o.cls = .type n) (hd : o.data = .fields vs)
    (hn : ["enumerate", "zip", "dict_itemiterator", "dict_reverseitemiterator", "odict_iterator", "itertools.zip_longest", "itertools.pairwise"].contains n = false) (hQ : Q () s) : wpAny M A (letOwnedTupleGo tg (.ref it) u) Q E s:=by
  unfold letOwnedTupleGo
  cases tg <;> first
    | exact wpAny_pure hQ
    | (cases u <;> first
        | exact wpAny_pure hQ
        | (refine wpAny_bind (wpAny_load ho ?_)
           rw [hc,hd]
           show wpAny M A (if (["enumerate", "zip", "dict_itemiterator", "dict_reverseitemiterator", "odict_iterator", "itertools.zip_longest", "itertools.pairwise"].contains n && vs[0]? == some (rawInt _)) = true then _ else _) Q E s
           rw [if_neg (by intro h; rw [hn,Bool.false_and] at h; cases h)]
           exact wpAny_pure hQ))
def Itl (K : PySem.W.Frag) (a : Addr) : It:=
  ⟨fun i H=>∃ xs x,SqL K H a xs /\ xs[i]? = some x,fun i H x H'=>H' = H /\ ∀ xs,SqL K H a xs -> xs[i]? = some x,fun i H=>∃ xs,SqL K H a xs /\ xs.length <= i⟩
def Itt (K : PySem.W.Frag) (a : Addr) : It:=
  ⟨fun i H=>∃ xs x,SqT K H a xs /\ xs[i]? = some x,fun i H x H'=>H' = H /\ ∀ xs,SqT K H a xs -> xs[i]? = some x,fun i H=>∃ xs,SqT K H a xs /\ xs.length <= i⟩
def Itr (lo : Int) (n : Nat) : It:=⟨fun i _=>i < n,fun i H x H'=>H' = H /\ x = .int (lo + i),fun i _=>n <= i⟩
theorem turn_list {P : Program} {w : World} {K : PySem.W.Frag} {tg : Expr} (a it : Addr) : Turn P w K tg (Itl K a) [it] it (fun i h=>h.IsListIter it a i) where
  mem:=by simp
  obj:=fun i h st b hb=>by
    have e : b = it:=by simpa using hb
    subst e
    obtain ⟨o,e,c,d⟩:=st
    exact ⟨o,e,fun v z=>by rw [d] at z; cases z⟩
  keep:=fun i h h' st k=>st.at fun o e=>k it (by simp) o e
  item:=by
    intro X hP hw hK hc i pins s σ H E I hf st hg
    subst hP hw hK
    obtain ⟨xs,x,hq,hx⟩:=hg
    obtain ⟨its,rv,p,hz⟩:=I.list hq
    obtain ⟨u,hu,ru⟩:=rv.get hx
    obtain ⟨f0,f1,f2,f3,f4,f5⟩:=hf it (by simp)
    refine wpAny_pyNext_list_item st p.isList (x:=u) (by simpa using hu) fun h' st' sb=>?_
    have I1 : Inv X pins σ H { s with heap:=h' }:=I.turned (t':=s.toks) (fun b o hb e=>(sb.2 b hb).trans e) f0 f1 f3 f4 f5
    obtain ⟨o,e,c,d⟩:=id st'
    exact ⟨u,rfl,go_of (s:={ s with heap:=h' }) e c d (by decide) ⟨x,H,I1,ru,⟨rfl,fun ys hy=>by rw [I.list_inj hy hq]; exact hx⟩,st',fun b hb=>(hf b hb).1⟩⟩
  done:=by
    intro X hP hw hK hc i pins s σ H E I hf st hg
    subst hP hw hK
    obtain ⟨xs,hq,hx⟩:=hg
    obtain ⟨its,rv,p,hz⟩:=I.list hq
    obtain ⟨f0,f1,f2,f3,f4,f5⟩:=hf it (by simp)
    have hl:=rv.length
    exact wpAny_pyNext_list_end (I.ok.hd hc) st p.isList (by simp; omega) fun h' eb=>⟨rfl,I.turned (t':=s.toks) (fun b o hb e=>eb b o hb e) f0 f1 f3 f4 f5⟩
  self:=fun _ _ _ _ _ st h=>wpAny_pyIter_listiter st h
theorem turn_tuple {P : Program} {w : World} {K : PySem.W.Frag} {tg : Expr} (a it : Addr) : Turn P w K tg (Itt K a) [it] it (fun i h=>h.IsTupleIter it a i) where
  mem:=by simp
  obj:=fun i h st b hb=>by
    have e : b = it:=by simpa using hb
    subst e
    obtain ⟨o,e,c,d⟩:=st
    exact ⟨o,e,fun v z=>by rw [d] at z; cases z⟩
  keep:=fun i h h' st k=>st.at fun o e=>k it (by simp) o e
  item:=by
    intro X hP hw hK hc i pins s σ H E I hf st hg
    subst hP hw hK
    obtain ⟨xs,x,hq,hx⟩:=hg
    obtain ⟨its,rv,p,hz⟩:=I.tuple hq
    obtain ⟨u,hu,ru⟩:=rv.get hx
    obtain ⟨f0,f1,f2,f3,f4,f5⟩:=hf it (by simp)
    refine wpAny_pyNext_tuple_item st (show s.heap.IsTuple a its.toArray from p) (x:=u) (by simpa using hu) fun h' st' sb=>?_
    have I1 : Inv X pins σ H { s with heap:=h' }:=I.turned (t':=s.toks) (fun b o hb e=>(sb.2 b hb).trans e) f0 f1 f3 f4 f5
    obtain ⟨o,e,c,d⟩:=id st'
    exact ⟨u,rfl,go_of (s:={ s with heap:=h' }) e c d (by decide) ⟨x,H,I1,ru,⟨rfl,fun ys hy=>by rw [I.tuple_inj hy hq]; exact hx⟩,st',fun b hb=>(hf b hb).1⟩⟩
  done:=by
    intro X hP hw hK hc i pins s σ H E I hf st hg
    subst hP hw hK
    obtain ⟨xs,hq,hx⟩:=hg
    obtain ⟨its,rv,p,hz⟩:=I.tuple hq
    obtain ⟨f0,f1,f2,f3,f4,f5⟩:=hf it (by simp)
    have hl:=rv.length
    exact wpAny_pyNext_tuple_end (I.ok.hd hc) st (show s.heap.IsTuple a its.toArray from p) (by simp; omega) fun h' eb=>⟨rfl,I.turned (t':=s.toks) (fun b o hb e=>eb b o hb e) f0 f1 f3 f4 f5⟩
  self:=fun _ _ _ _ _ st h=>wpAny_pyIter_tupleiter st h
theorem turn_range {P : Program} {w : World} {K : PySem.W.Frag} {tg : Expr} (it : Addr) (lo : Int) (n : Nat) : Turn P w K tg (Itr lo n) [it] it (fun i h=>IsRangeIter h it (lo + (i : Nat) * 1) ((n : Int) - (i : Nat)) 1) where
  mem:=by simp
  obj:=fun i h st b hb=>by
    have e : b = it:=by simpa using hb
    subst e
    exact ⟨_,st,fun v z=>by
      have z' : Data.fields _ = Data.cell v:=z
      cases z'⟩
  keep:=fun i h h' st k=>k it (by simp) _ st
  item:=by
    intro X hP hw hK hc i pins s σ H E I hf st hg
    subst hP hw hK
    obtain ⟨f0,f1,f2,f3,f4,f5⟩:=hf it (by simp)
    have W:=Walks.range (prog:=X.prog) (w:=X.w) (I.ok.hd hc) it lo 1 n
    refine W.item i s _ _ hg st fun v h' tk hv st' kk=>?_
    obtain ⟨t,rfl⟩:=hv
    have I1 : Inv X pins σ H { s with heap:=h',toks:=tk }:=I.turned (fun b o hb e=>kk b o (by simpa using hb) e) f0 f1 f3 f4 f5
    refine ⟨_,rfl,go_of (s:={ s with heap:=h',toks:=tk }) (n := "range_iterator") st' rfl rfl (by decide) ⟨.int (lo + i),H,I1,⟨t,?_⟩,⟨rfl,rfl⟩,st',fun b hb=>(hf b hb).1⟩⟩
    rw [Int.mul_one]
  done:=by
    intro X hP hw hK hc i pins s σ H E I hf st hg
    subst hP hw hK
    obtain ⟨f0,f1,f2,f3,f4,f5⟩:=hf it (by simp)
    exact wpAny_pyNext_range_end (I.ok.hd hc) st (by have : n <= i:=hg; omega) fun h' eb=>⟨rfl,I.turned (t':=s.toks) (fun b o hb e=>eb b o hb e) f0 f1 f3 f4 f5⟩
  self:=fun _ _ _ _ _ st h=>wpAny_pyIter_rangeiter st h
end L2
namespace L2
open PySem PySem.Spec PyProof.Rows
section
variable {X : Cx} {tg : Expr}
def iList (K : PySem.W.Frag) (tl : TE) : TI:=fun σ H R=>tl σ H fun x H1=>∃ a,x = .ref a /\ (∃ xs,SqL K H1 a xs) /\ R (Itl K a) H1
def iTup (K : PySem.W.Frag) (tl : TE) : TI:=fun σ H R=>tl σ H fun x H1=>∃ a,x = .ref a /\ (∃ xs,SqT K H1 a xs) /\ R (Itt K a) H1
theorem pi_list {l : Expr} {tl : TE} (hl : PE X l tl) : PI X tg l (iList X.K tl):=by
  intro pins s σ H R I h
  refine thn (hl pins s σ H _ I h) fun v s1 ⟨x,H1,I1,r1,q1⟩=>?_
  obtain ⟨a,e,⟨xs,hq⟩,q⟩:=q1
  subst e
  cases r1
  obtain ⟨its,rv,p,hz⟩:=I1.list hq
  refine wpAny_pyIter_list p.isList ?_
  refine ⟨s1.heap.objs.size,[s1.heap.objs.size],_,_,H1,rfl,I1.kept (t':=s1.toks) fun b o e=>Heap.get?_push_of_some _ e,turn_list a _,⟨_,Heap.get?_push_size _ rfl,rfl,rfl⟩,fun b hb=>?_,q⟩
  have e : b = s1.heap.objs.size:=by simpa using hb
  subst e
  exact I1.fpOk (Nat.le_refl _) (I1.hok.fresh (Nat.le_refl _))
theorem pi_tup {l : Expr} {tl : TE} (hl : PE X l tl) : PI X tg l (iTup X.K tl):=by
  intro pins s σ H R I h
  refine thn (hl pins s σ H _ I h) fun v s1 ⟨x,H1,I1,r1,q1⟩=>?_
  obtain ⟨a,e,⟨xs,hq⟩,q⟩:=q1
  subst e
  cases r1
  obtain ⟨its,rv,p,hz⟩:=I1.tuple hq
  refine wpAny_pyIter_tuple (show s1.heap.IsTuple a its.toArray from p) ?_
  refine ⟨s1.heap.objs.size,[s1.heap.objs.size],_,_,H1,rfl,I1.kept (t':=s1.toks) fun b o e=>Heap.get?_push_of_some _ e,turn_tuple a _,⟨_,Heap.get?_push_size _ rfl,rfl,rfl⟩,fun b hb=>?_,q⟩
  have e : b = s1.heap.objs.size:=by simpa using hb
  subst e
  exact I1.fpOk (Nat.le_refl _) (I1.hok.fresh (Nat.le_refl _))
theorem range_it {pins : List (Addr × Obj)} {σ : St} {H : Hp} {s : Shared} {R : It -> Hp -> Prop} {E : Value -> Shared -> Prop} {lo hi : Int} {t u v : Tok} {tk : Nat} (I : Inv X pins σ H s) (h1 : -(2 ^ 62) <= lo) (h2 : lo < 2 ^ 62) (h3 : -(2 ^ 62) <= hi) (h4 : hi < 2 ^ 62)
    (q : R (Itr lo (hi - lo).toNat) H) : wpAny (model X.prog X.w) X.A (pyIter (.ref s.heap.objs.size)) (PIE X pins σ tg R) E { s with heap:=s.heap.push { cls:=.type "range",data:=.fields #[.int lo t,.int hi u,.int 1 v] },toks:=tk }:=by
  refine wpAny_pyIter_range (IsRange.new ..) (small_one h1 h2 h3 h4) ?_
  have I1 : Inv X pins σ H { s with heap:=s.heap.push { cls:=.type "range",data:=.fields #[.int lo t,.int hi u,.int 1 v] },toks:=tk }:=I.kept fun b o e=>Heap.get?_push_of_some _ e
  refine ⟨(s.heap.push { cls:=.type "range",data:=.fields #[.int lo t,.int hi u,.int 1 v] }).objs.size,[(s.heap.push { cls:=.type "range",data:=.fields #[.int lo t,.int hi u,.int 1 v] }).objs.size],_,_,H,rfl,
    I1.kept (t':=tk) fun b o e=>Heap.get?_push_of_some _ e,turn_range _ lo (hi - lo).toNat,?_,fun b hb=>?_,q⟩
  · have e1 : lo + ((0 : Nat) : Int) * 1 = lo:=by simp
    have e2 : (((hi - lo).toNat : Nat) : Int) - ((0 : Nat) : Int) = Builtin.Range.rangeSize lo hi 1:=by rw [rangeSize_one]; split <;> omega
    show IsRangeIter _ _ (lo + ((0 : Nat) : Int) * 1) ((((hi - lo).toNat : Nat) : Int) - ((0 : Nat) : Int)) 1
    rw [e1,e2]
    exact Heap.get?_push_size _ rfl
  · have e : b = (s.heap.push { cls:=.type "range",data:=.fields #[.int lo t,.int hi u,.int 1 v] }).objs.size:=by simpa using hb
    subst e
    exact I1.fpOk (Nat.le_refl _) (I1.hok.fresh (Nat.le_refl _))
def iRng1 (ta : TA) : TI:=fun σ H R=>ta σ H fun vs H1=>∃ j : Int,vs = [.int j] /\ -(2 ^ 62) <= j /\ j < 2 ^ 62 /\ R (Itr 0 j.toNat) H1
def iRng2 (ta : TA) : TI:=fun σ H R=>ta σ H fun vs H1=>∃ i j : Int,vs = [.int i,.int j] /\ (-(2 ^ 62) <= i /\ i < 2 ^ 62 /\ -(2 ^ 62) <= j /\ j < 2 ^ 62) /\ R (Itr i (j - i).toNat) H1
theorem pi_range1 {a : Expr} {ta : TA} {p pos : Pos} (hg : Gl X "range") (hm : X.mg "range" = none) (ha : PA X [a] ta) (hs : starEach [a] X.env = [(false,eval a X.env)]:=by rfl) : PI X tg (.Call (.Name "range" p) [a] [] pos) (iRng1 ta):=by
  intro pins s σ H R I h
  refine Call_ (ld_blt I hg hm boot_range (PyProof.Rows.callWith_type1 (thn (ha pos pins s σ H _ I h) fun us s1 ⟨vs,H1,I1,r1,q1⟩=>?_) hs rfl))
  obtain ⟨j,e,q1,q2,q⟩:=q1
  subst e
  cases r1 with
  | cons r rr=>
    cases rr
    obtain ⟨t,rfl⟩:=r
    exact call_range_1 (range_it I1 (by omega) (by omega) q1 q2 (by simpa using q))
theorem pi_range2 {a b : Expr} {ta : TA} {p pos : Pos} (hg : Gl X "range") (hm : X.mg "range" = none) (ha : PA X [a,b] ta) (hs : starEach [a,b] X.env = [(false,eval a X.env),(false,eval b X.env)]:=by rfl) (hs2 : starEach [b] X.env = [(false,eval b X.env)]:=by rfl) :
    PI X tg (.Call (.Name "range" p) [a,b] [] pos) (iRng2 ta):=by
  intro pins s σ H R I h
  refine Call_ (ld_blt I hg hm boot_range (PyProof.Rows.callWith_type1 (thn (ha pos pins s σ H _ I h) fun us s1 ⟨vs,H1,I1,r1,q1⟩=>?_) (by rw [hs,hs2]) (by rw [hs2]; rfl)))
  obtain ⟨i,j,e,⟨q1,q2,q3,q4⟩,q⟩:=q1
  subst e
  cases r1 with
  | cons r rr=>
    cases rr with
    | cons r' rr=>
      cases rr
      obtain ⟨t,rfl⟩:=r
      obtain ⟨t',rfl⟩:=r'
      exact call_range_2 (range_it I1 q1 q2 q3 q4 q)
def tFor (wi : TI) (g : TG) (tb : TS) : TS:=fun D σ H=>wi σ H fun J H1=>∃ W : Nat -> Nat -> St -> Hp -> Prop,(∃ m,W 0 m σ H1) /\ ∀ i m σ H,W i m σ H ->
  (J.stop i H /\ D.nx σ H) \/ (J.go i H /\ ∃ N : St -> Hp -> Prop,(∀ σ' H',N σ' H' -> ∃ m',m' < m /\ W (i + 1) m' σ' H') /\ ∀ x H',J.yld i H x H' -> g x σ H' fun σ2 H2=>tb { D with nx:=N,ct:=N,bk:=D.nx } σ2 H2)
def pinsAt (fp : List Addr) (h : Heap) : List (Addr × Obj):=fp.filterMap fun b=>(h.get? b).map fun o=>(b,o)
theorem mem_pinsAt {fp : List Addr} {h : Heap} {b : Addr} {o : Obj} (hb : b ∈ fp) (e : h.get? b = some o) : (b,o) ∈ pinsAt fp h:=List.mem_filterMap.mpr ⟨b,hb,by rw [e]; rfl⟩
theorem of_pinsAt {fp : List Addr} {h : Heap} {p : Addr × Obj} (hp : p ∈ pinsAt fp h) : p.1 ∈ fp /\ h.get? p.1 = some p.2:=by
  obtain ⟨b,hb,e⟩:=List.mem_filterMap.mp hp
  cases q : h.get? b with
  | none=>rw [q] at e; cases e
  | some o=>
    rw [q] at e
    have e' : (b,o) = p:=Option.some.inj e
    subst e'
    exact ⟨hb,q⟩
theorem Inv.pinned {pins : List (Addr × Obj)} {σ : St} {H : Hp} {s : Shared} {fp : List Addr} (I : Inv X pins σ H s) (hf : ∀ b ∈ fp,FpOk X pins H b) (ho : ∀ b ∈ fp,∃ o,s.heap.get? b = some o /\ ∀ v,o.data ≠ .cell v) : Inv X (pins ++ pinsAt fp s.heap) σ H s:=
  I.pins_of fun p hp=>(List.mem_append.mp hp).elim (fun z=>I.pin p (List.mem_append_right _ z)) fun z=>by
    obtain ⟨hb,e⟩:=of_pinsAt z
    obtain ⟨f0,f1,f2,_⟩:=hf p.1 hb
    obtain ⟨o,e',d⟩:=ho p.1 hb
    rw [e] at e'; cases e'
    exact ⟨e,f0,f1,f2,d⟩
theorem Inv.unpinned {pins pl : List (Addr × Obj)} {σ : St} {H : Hp} {s : Shared} (I : Inv X (pins ++ pl) σ H s) : Inv X pins σ H s:=I.pins_of fun p hp=>I.pin p (List.mem_append_right _ (List.mem_append_left _ hp))
theorem ps_for {iter : Expr} {body : List Stmt} {wi : TI} {g : TG} {tb : TS} {pos : Pos} (hp : PassesOwn (model X.prog X.w) X.A X.env X.xe) (hc : X.calm = true) (hi : PI X tg iter wi) (hg : PG X tg g) (hb : PSs X body tb)
    (hs : ∀ x,foldedSetIterable iter X.env x = pure x:=by intro _; rfl) : PS X (.For tg iter body [] pos) (tFor wi g tb):=by
  intro pins s σ H D I h
  refine wpAny_For (thn (hi pins s σ H _ I h) fun v s1 h1=>thn h1 fun itv s2 h2=>?_) hs
  obtain ⟨it,fp,tn,J,H2,e,I2,T,st2,f2,W,⟨m0,w0⟩,turn⟩:=h2
  subst e
  have stat : ∀ {H' : Hp},(∀ b ∈ fp,H' b = none) -> ∀ b ∈ fp,FpOk X pins H' b:=fun hn b hb=>⟨hn b hb,(f2 b hb).2⟩
  refine codeAny_forLoop_any (fun n s'=>∃ i σ' H',Inv X pins σ' H' s' /\ tn i s'.heap /\ (∀ b ∈ fp,H' b = none) /\ W i n σ' H') ?_ m0 ⟨0,σ,H2,I2,st2,fun b hb=>(f2 b hb).1,w0⟩
  rintro n s3 ⟨i,σ3,H3,I3,st3,fr3,w3⟩
  rcases turn i n σ3 H3 w3 with ⟨stop,qn⟩ | ⟨go,N,hN,step⟩
  · refine wpAny_passesOwn hp (thn (T.done X rfl rfl rfl hc i pins s3 σ3 H3 X.xe I3 (stat fr3) st3 stop) fun r s4 ⟨hr,I4⟩=>?_)
    subst hr
    exact wpAny_execs_nil ⟨σ3,H3,I4,qn⟩
  · refine wpAny_passesOwn hp (thn (T.item X rfl rfl rfl hc i pins s3 σ3 H3 X.xe I3 (stat fr3) st3 go) fun r s4 ⟨u,hr,h4⟩=>?_)
    subst hr
    refine wpAny_passesOwn hp (thn h4 fun _ s5 ⟨x,H5,I5,r5,y5,st5,fr5⟩=>?_)
    have I5':=I5.pinned (stat fr5) (T.obj _ _ st5)
    refine wpAny_passesOwn hp (thn (hg _ s5 σ3 H5 x u _ I5' r5 (step x H5 y5)) fun _ s6 ⟨σ6,H6,I6,q6⟩=>?_)
    refine wpAny_passesOwn hp (thn (hb _ s6 σ6 H6 _ I6 q6) fun f s7 q7=>?_)
    have again : ∀ {σ7 : St} {H7 : Hp},Inv X (pins ++ pinsAt fp s5.heap) σ7 H7 s7 -> N σ7 H7 -> ∃ m,m < n /\ ∃ i σ' H',Inv X pins σ' H' s7 /\ tn i s7.heap /\ (∀ b ∈ fp,H' b = none) /\ W i m σ' H':=fun {σ7 H7} I7 n7=>by
      obtain ⟨m',hm,w7⟩:=hN σ7 H7 n7
      refine ⟨m',hm,i + 1,σ7,H7,I7.unpinned,T.keep _ _ _ st5 fun b hb o e=>(I7.pin (b,o) (List.mem_append_right _ (List.mem_append_right _ (mem_pinsAt hb e)))).1,fun b hb=>?_,w7⟩
      obtain ⟨o,e,d⟩:=T.obj _ _ st5 b hb
      exact (I7.pin (b,o) (List.mem_append_right _ (List.mem_append_right _ (mem_pinsAt hb e)))).2.1
    cases f with
    | next=>obtain ⟨σ7,H7,I7,n7⟩:=q7; exact again I7 n7
    | cont=>obtain ⟨σ7,H7,I7,n7⟩:=q7; exact again I7 n7
    | brk=>obtain ⟨σ7,H7,I7,q7⟩:=q7; exact ⟨σ7,H7,I7.unpinned,q7⟩
    | ret v=>obtain ⟨x7,σ7,H7,I7,r7,q7⟩:=q7; exact ⟨x7,σ7,H7,I7.unpinned,r7,q7⟩
end
end L2
namespace L2
open PySem PySem.Spec PyProof.Rows
abbrev R2:=V -> V -> Hp -> VK -> Prop
def OpR (X : Cx) (f : Value -> Value -> Sem Value) (r : R2) : Prop:=
  ∀ (pins : List (Addr × Obj)) (s : Shared) (σ : St) (H : Hp) (x y : V) (v u : Value) (Q : VK),Inv X pins σ H s -> RelV x v -> RelV y u -> r x y H Q ->
    wpAny (model X.prog X.w) X.A (f v u) (EP X pins σ Q) X.xe s
def CallR (X : Cx) (f : Value) (r : List V -> Hp -> VK -> Prop) : Prop:=
  ∀ (pins : List (Addr × Obj)) (s : Shared) (σ : St) (H : Hp) (xs : List V) (us : List Value) (Q : VK),Inv X pins σ H s -> Vals xs us -> r xs H Q ->
    wpAny (model X.prog X.w) X.A (call f us) (EP X pins σ Q) X.xe s
def tOp (r : R2) (ta tb : TE) : TE:=fun σ H Q=>ta σ H fun x H1=>tb σ H1 fun y H2=>r x y H2 Q
def rI (C : Int -> Int -> Prop) (g : Int -> Int -> V) : R2:=fun x y H Q=>∃ i j,x = .int i /\ y = .int j /\ C i j /\ Q (g i j) H
def rI0 (g : Int -> Int -> V) : R2:=fun x y H Q=>∃ i j,x = .int i /\ y = .int j /\ Q (g i j) H
section
variable {X : Cx} {a b c : Expr} {ta tb tc : TE} {pos : Pos}
theorem binT (ha : PE X a ta) (hb : PE X b tb) {pins : List (Addr × Obj)} {s : Shared} {σ : St} {H : Hp} {R : V -> V -> Hp -> Prop} (I : Inv X pins σ H s)
    (h : ta σ H fun x H1=>tb σ H1 fun y H2=>R x y H2) {Q : Value -> Shared -> Prop} {f : Value -> Value -> Sem Value}
    (hf : ∀ v u s2 x y H2,Inv X pins σ H2 s2 -> RelV x v -> RelV y u -> R x y H2 -> wpAny (model X.prog X.w) X.A (f v u) Q X.xe s2) :
    wpAny (model X.prog X.w) X.A (eval a X.env) (fun v s₁=>wpAny (model X.prog X.w) X.A (eval b X.env) (fun u s₂=>wpAny (model X.prog X.w) X.A (f v u) Q X.xe s₂) X.xe s₁) X.xe s:=by
  refine thn (ha pins s σ H _ I h) fun v s1 ⟨x,H1,I1,r1,q1⟩=>?_
  refine thn (hb pins s1 σ H1 _ I1 q1) fun u s2 ⟨y,H2,I2,r2,q2⟩=>?_
  exact hf v u s2 x y H2 I2 r1 r2 q2
theorem pe_op {op : Operator} {r : R2} (ho : OpR X (binaryOp op) r) (ha : PE X a ta) (hb : PE X b tb) : PE X (.BinOp a op b pos) (tOp r ta tb):=by
  intro pins s σ H Q I h
  exact wpAny_BinOp (binT ha hb I h fun v u s2 x y H2 I2 rx ry q=>ho pins s2 σ H2 x y v u Q I2 rx ry q)
theorem opI {f : Value -> Value -> Sem Value} {C : Int -> Int -> Prop} {g : Int -> Int -> Int}
    (rule : ∀ (i j : Int) (t u : Tok) (s : Shared) (Q : Value -> Shared -> Prop) (E : Value -> Shared -> Prop),C i j -> Q (.int (g i j) s.toks) { s with toks:=s.toks + 1 } -> wpAny (model X.prog X.w) X.A (f (.int i t) (.int j u)) Q E s) :
    OpR X f (rI C fun i j=>.int (g i j)):=by
  intro pins s σ H x y v u Q I rx ry h
  obtain ⟨i,j,rfl,rfl,hc,q⟩:=h
  obtain ⟨t,rfl⟩:=rx
  obtain ⟨t',rfl⟩:=ry
  exact rule i j t t' s _ _ hc ⟨.int (g i j),H,I.tok _,⟨_,rfl⟩,q⟩
theorem opI0 {f : Value -> Value -> Sem Value} {g : Int -> Int -> Int}
    (rule : ∀ (i j : Int) (t u : Tok) (s : Shared) (Q : Value -> Shared -> Prop) (E : Value -> Shared -> Prop),Q (.int (g i j) s.toks) { s with toks:=s.toks + 1 } -> wpAny (model X.prog X.w) X.A (f (.int i t) (.int j u)) Q E s) :
    OpR X f (rI0 fun i j=>.int (g i j)):=by
  intro pins s σ H x y v u Q I rx ry h
  obtain ⟨i,j,rfl,rfl,q⟩:=h
  obtain ⟨t,rfl⟩:=rx
  obtain ⟨t',rfl⟩:=ry
  exact rule i j t t' s _ _ ⟨.int (g i j),H,I.tok _,⟨_,rfl⟩,q⟩
theorem opB0 {f : Value -> Value -> Sem Value} {g : Int -> Int -> Bool}
    (rule : ∀ (i j : Int) (t u : Tok) (s : Shared) (Q : Value -> Shared -> Prop) (E : Value -> Shared -> Prop),Q (.bool (g i j)) s -> wpAny (model X.prog X.w) X.A (f (.int i t) (.int j u)) Q E s) :
    OpR X f (rI0 fun i j=>.bl (g i j)):=by
  intro pins s σ H x y v u Q I rx ry h
  obtain ⟨i,j,rfl,rfl,q⟩:=h
  obtain ⟨t,rfl⟩:=rx
  obtain ⟨t',rfl⟩:=ry
  exact rule i j t t' s _ _ ⟨.bl (g i j),H,I,rfl,q⟩
def CDiv (i j : Int) : Prop:=0 < j /\ j < 1073741824
def CPow (i j : Int) : Prop:=0 <= j /\ j <= 1000000 /\ i.natAbs < 2 ^ 64
def CMul (i j : Int) : Prop:=(-(2 ^ 64) < i /\ i < 2 ^ 64) \/ (-(2 ^ 64) < j /\ j < 2 ^ 64)
theorem CMul.ok {i j : Int} (h : CMul i j) : IntMulOk i j:=by
  rcases h with ⟨h1,h2⟩ | ⟨h1,h2⟩
  · exact .of_left (intBits_le_64 h1 h2)
  · exact .of_right (intBits_le_64 h1 h2)
theorem op_add : OpR X (binaryOp .Add) (rI0 fun i j=>.int (i + j)):=opI0 fun _ _ _ _ _ _ _ q=>add_int q
theorem op_sub : OpR X (binaryOp .Sub) (rI0 fun i j=>.int (i - j)):=opI0 fun _ _ _ _ _ _ _ q=>sub_int q
theorem op_mul : OpR X (binaryOp .Mult) (rI CMul fun i j=>.int (i * j)):=opI fun _ _ _ _ _ _ _ hc q=>mul_int q hc.ok
theorem op_fdiv : OpR X (binaryOp .FloorDiv) (rI CDiv fun i j=>.int (i / j)):=opI fun i j _ _ _ _ _ hc q=>by
  have h1 : (0 : Int) < j:=hc.1
  have h2 : j < 1073741824:=hc.2
  exact floordiv_int (by omega) (by rw [Int.fdiv_eq_ediv_of_nonneg i (by omega)]; exact q) (.inl (PyProof.noPylong_small (by omega)))
theorem op_mod : OpR X (binaryOp .Mod) (rI (fun _ j=>0 < j) fun i j=>.int (i % j)):=opI fun i j _ _ _ _ _ hc q=>by
  have h1 : (0 : Int) < j:=hc
  exact mod_int' (by omega) (by rw [Int.fmod_eq_emod_of_nonneg i (by omega)]; exact q)
theorem op_pow : OpR X (binaryOp .Pow) (rI CPow fun i j=>.int (i ^ j.toNat)):=opI fun _ _ _ _ _ _ _ hc q=>pow_int_small hc.1 hc.2.1 hc.2.2 q
end
def scal : V -> V -> Bool
  | .non,.non=>true | .non,.int _=>true | .int _,.non=>true | .non,.bl _=>true | .bl _,.non=>true | .non,.str _=>true | .str _,.non=>true
  | .int _,.int _=>true | .bl _,.bl _=>true | .str _,.str _=>true | .byt _,.byt _=>true
  | .int _,.str _=>true | .str _,.int _=>true | .bl _,.str _=>true | .str _,.bl _=>true
  | _,_=>false
def rNe : R2:=fun x y H Q=>scal x y = true /\ Q (.bl (!decide (x = y))) H
theorem dec_int {i j : Int} : decide (V.int i = V.int j) = (i == j):=by
  rw [Bool.eq_iff_iff]
  simp
theorem dec_bl {i j : Bool} : decide (V.bl i = V.bl j) = (i == j):=by
  rw [Bool.eq_iff_iff]
  simp
theorem dec_str {i j : Str} : decide (V.str i = V.str j) = (i == j):=by
  rw [Bool.eq_iff_iff]
  simp
theorem dec_byt {i j : Array UInt8} : decide (V.byt i = V.byt j) = (i.toList == j.toList):=by
  rw [Bool.eq_iff_iff]
  cases i
  cases j
  simp
section
variable {X : Cx} {a b c : Expr} {ta tb tc : TE} {pos : Pos}
theorem fin_bl {pins : List (Addr × Obj)} {σ : St} {H : Hp} {s : Shared} {Q : VK} {k k' : Bool} (I : Inv X pins σ H s) (q : Q (.bl k) H) (e : k = k') : EP X pins σ Q (.bool k') s:=by
  subst e
  exact ⟨.bl k,H,I,rfl,q⟩
theorem op_ne : OpR X (compareOp .NotEq) rNe:=by
  intro pins s σ H x y v u Q I rx ry h
  obtain ⟨hs,q⟩:=h
  cases x with
  | non=>
    cases rx
    cases y with
    | non=>cases ry; exact PySem.EqNone.ne_none_none (fin_bl I q (by simp))
    | bl j=>cases ry; exact PySem.EqNone.ne_none_bool (fin_bl I q (by simp))
    | int j=>obtain ⟨t',rfl⟩:=ry; exact PySem.EqNone.ne_none_int (fin_bl I q (by simp))
    | str j=>obtain ⟨t',rfl⟩:=ry; exact PySem.EqNone.ne_none_str (fin_bl I q (by simp))
    | _=>exact absurd (show false = true from hs) Bool.false_ne_true
  | bl i=>
    cases rx
    cases y with
    | non=>cases ry; exact PySem.EqNone.ne_bool_none (fin_bl I q (by simp))
    | bl j=>cases ry; exact ne_bool (fin_bl I q (congrArg not dec_bl))
    | str j=>obtain ⟨t',rfl⟩:=ry; exact PySem.EqMixed.ne_bool_str (fin_bl I q (by simp))
    | _=>exact absurd (show false = true from hs) Bool.false_ne_true
  | int i=>
    obtain ⟨t,rfl⟩:=rx
    cases y with
    | non=>cases ry; exact PySem.EqNone.ne_int_none (fin_bl I q (by simp))
    | int j=>obtain ⟨t',rfl⟩:=ry; exact ne_int (fin_bl I q (congrArg not dec_int))
    | str j=>obtain ⟨t',rfl⟩:=ry; exact PySem.EqMixed.ne_int_str (fin_bl I q (by simp))
    | _=>exact absurd (show false = true from hs) Bool.false_ne_true
  | str i=>
    obtain ⟨t,rfl⟩:=rx
    cases y with
    | non=>cases ry; exact PySem.EqNone.ne_str_none (fin_bl I q (by simp))
    | bl j=>cases ry; exact PySem.EqMixed.ne_str_bool (fin_bl I q (by simp))
    | int j=>obtain ⟨t',rfl⟩:=ry; exact PySem.EqMixed.ne_str_int (fin_bl I q (by simp))
    | str j=>obtain ⟨t',rfl⟩:=ry; exact ne_str (fin_bl I q (congrArg not dec_str))
    | _=>exact absurd (show false = true from hs) Bool.false_ne_true
  | byt i=>
    obtain ⟨t,rfl⟩:=rx
    cases y with
    | byt j=>obtain ⟨t',rfl⟩:=ry; exact PySem.W.ne_bytes (fin_bl I q (congrArg not dec_byt))
    | _=>exact absurd (show false = true from hs) Bool.false_ne_true
  | _=>cases y <;> exact absurd (show false = true from hs) Bool.false_ne_true
theorem op_lt : OpR X (compareOp .Lt) (rI0 fun i j=>.bl (decide (i < j))):=opB0 fun _ _ _ _ _ _ _ q=>lt_int q
theorem op_le : OpR X (compareOp .LtE) (rI0 fun i j=>.bl (decide (i <= j))):=opB0 fun _ _ _ _ _ _ _ q=>le_int q
theorem op_gt : OpR X (compareOp .Gt) (rI0 fun i j=>.bl (decide (j < i))):=opB0 fun _ _ _ _ _ _ _ q=>gt_int q
theorem op_ge : OpR X (compareOp .GtE) (rI0 fun i j=>.bl (decide (j <= i))):=opB0 fun _ _ _ _ _ _ _ q=>ge_int q
theorem op_in_str : OpR X (compareOp .In) (fun x y H Q=>∃ i j,x = .str i /\ y = .str j /\ Q (.bl (!(Builtin.Str.occurrences j i 0 j.length 1).isEmpty)) H):=by
  intro pins s σ H x y v u Q I rx ry h
  obtain ⟨i,j,rfl,rfl,q⟩:=h
  obtain ⟨t,rfl⟩:=rx
  obtain ⟨t',rfl⟩:=ry
  exact in_str (fin_bl I q rfl)
theorem op_isN : OpR X (compareOp .Is) (fun x y H Q=>y = .non /\ Q (.bl (decide (x = .non))) H):=by
  intro pins s σ H x y v u Q I rx ry h
  obtain ⟨rfl,q⟩:=h
  cases ry
  refine is_none_gen (fin_bl I q ?_)
  cases x <;> first
    | (cases rx; rfl)
    | (obtain ⟨t,rfl⟩:=rx; rfl)
theorem OpR.or {f : Value -> Value -> Sem Value} {r r' : R2} (h : OpR X f r) (h' : OpR X f r') : OpR X f (fun x y H Q=>r x y H Q \/ r' x y H Q):=by
  intro pins s σ H x y v u Q I rx ry q
  rcases q with q | q
  · exact h pins s σ H x y v u Q I rx ry q
  · exact h' pins s σ H x y v u Q I rx ry q
theorem nomark (b : Expr) {op : CmpOp} (h : op ≠ .In:=by decide) (h2 : op ≠ .NotIn:=by decide) : behindInMarks op b = false:=by
  have e1 : (op == CmpOp.In) = false:=by cases op <;> first | rfl | exact absurd rfl h
  have e2 : (op == CmpOp.NotIn) = false:=by cases op <;> first | rfl | exact absurd rfl h2
  cases b <;> simp [behindInMarks,e1,e2]
theorem pe_cmpR {op : CmpOp} {r : R2} (ho : OpR X (compareOp op) r) (ha : PE X a ta) (hb : PE X b tb) (hm : behindInMarks op b = false) : PE X (.Compare a [op] [b] pos) (tOp r ta tb):=by
  intro pins s σ H Q I h
  exact wpAny_Compare1 (binT ha hb I h fun v u s2 x y H2 I2 rx ry q=>ho pins s2 σ H2 x y v u Q I2 rx ry q) hm
def tTest (t : TE) : TT:=fun σ H Q=>t σ H fun x H'=>∃ k,x = .bl k /\ Q k H'
theorem pt_cmpR {op : CmpOp} {r : R2} (ho : OpR X (compareOp op) r) (ha : PE X a ta) (hb : PE X b tb) (hm : behindInMarks op b = false) : PT X (.Compare a [op] [b] pos) (tTest (tOp r ta tb)):=by
  intro pins s σ H Q I h
  refine wpAny_isTrue_Compare1 (thn (ha pins s σ H _ I h) fun v s1 ⟨x,H1,I1,r1,q1⟩=>thn (hb pins s1 σ H1 _ I1 q1) fun u s2 ⟨y,H2,I2,r2,q2⟩=>
    thn (ho pins s2 σ H2 x y v u _ I2 r1 r2 q2) fun c s3 ⟨z,H3,I3,r3,k,e,q3⟩=>?_) hm
  subst e
  cases r3
  exact wpAny_truthy_bool ⟨H3,I3,q3⟩
def tChain (r r' : R2) (ta tb tc : TE) : TE:=fun σ H Q=>ta σ H fun x H1=>tb σ H1 fun y H2=>r x y H2 fun z H3=>∃ k,z = .bl k /\
  (if k = true then tc σ H3 fun w' H4=>r' y w' H4 Q else Q (.bl false) H3)
theorem pe_chain {op op' : CmpOp} {r r' : R2} (ho : OpR X (compareOp op) r) (ho' : OpR X (compareOp op') r') (ha : PE X a ta) (hb : PE X b tb) (hc : PE X c tc)
    (hm : lastMarks [op,op'] [b,c] = false:=by with_unfolding_all rfl) : PE X (.Compare a [op,op'] [b,c] pos) (tChain r r' ta tb tc):=by
  intro pins s σ H Q I h
  refine Compare_chain (thn (ha pins s σ H _ I h) fun v s1 ⟨x,H1,I1,r1,q1⟩=>chain_link (thn (hb pins s1 σ H1 _ I1 q1) fun u s2 ⟨y,H2,I2,r2,q2⟩=>
    thn (ho pins s2 σ H2 x y v u _ I2 r1 r2 q2) fun d s3 ⟨z,H3,I3,r3,k,e,q3⟩=>?_)) hm
  subst e
  cases r3
  refine wpAny_truthy_bool ?_
  cases k with
  | false=>exact ite_ff ⟨.bl false,H3,I3,rfl,q3⟩
  | true=>exact ite_tt (chain_last (thn (hc pins s3 σ H3 _ I3 q3) fun w' s4 ⟨z',H4,I4,r4,q4⟩=>ho' pins s4 σ H4 y z' u w' Q I4 r2 r4 q4))
theorem pt_chain {op op' : CmpOp} {r r' : R2} (ho : OpR X (compareOp op) r) (ho' : OpR X (compareOp op') r') (ha : PE X a ta) (hb : PE X b tb) (hc : PE X c tc)
    (hm : lastMarks [op,op'] [b,c] = false:=by with_unfolding_all rfl) : PT X (.Compare a [op,op'] [b,c] pos) (tTest (tChain r r' ta tb tc)):=by
  intro pins s σ H Q I h
  refine isTrue_chain (thn (ha pins s σ H _ I h) fun v s1 ⟨x,H1,I1,r1,q1⟩=>test_link (thn (hb pins s1 σ H1 _ I1 q1) fun u s2 ⟨y,H2,I2,r2,q2⟩=>
    thn (ho pins s2 σ H2 x y v u _ I2 r1 r2 q2) fun d s3 ⟨z,H3,I3,r3,k,e,q3⟩=>?_)) hm
  subst e
  cases r3
  refine wpAny_truthy_bool ?_
  cases k with
  | false=>
    obtain ⟨k',e',q'⟩:=q3
    cases e'
    exact ite_ff ⟨H3,I3,q'⟩
  | true=>
    refine ite_tt (test_last (thn (hc pins s3 σ H3 _ I3 q3) fun w' s4 ⟨z',H4,I4,r4,q4⟩=>thn (ho' pins s4 σ H4 y z' u w' _ I4 r2 r4 q4) fun d' s5 ⟨z2,H5,I5,r5,k2,e2,q5⟩=>?_))
    subst e2
    cases r5
    exact wpAny_truthy_bool ⟨H5,I5,q5⟩
theorem line63 : (sizeLine : Nat) < 2 ^ 63:=by rw [sizeLine_eq]; decide
theorem op_add_str : OpR X (binaryOp .Add) (fun x y H Q=>∃ i j,x = .str i /\ y = .str j /\ i.length + j.length <= sizeLine /\ Q (.str (i ++ j)) H):=by
  intro pins s σ H x y v u Q I rx ry h
  obtain ⟨i,j,rfl,rfl,hz,q⟩:=h
  obtain ⟨t,rfl⟩:=rx
  obtain ⟨t',rfl⟩:=ry
  exact add_str (fun t' tk=>⟨.str (i ++ j),H,I.tok _,⟨_,rfl⟩,q⟩) hz
theorem vals1 {x : V} {us : List Value} (r : Vals [x] us) : ∃ u,us = [u] /\ RelV x u:=by
  cases r with
  | cons r1 r2=>cases r2; exact ⟨_,rfl,r1⟩
theorem vals2 {x y : V} {us : List Value} (r : Vals [x,y] us) : ∃ u w',us = [u,w'] /\ RelV x u /\ RelV y w':=by
  cases r with
  | cons r1 r2=>
    cases r2 with
    | cons r3 r4=>cases r4; exact ⟨_,_,rfl,r1,r3⟩
theorem call_max2 (hc : X.calm = true) : CallR X (.builtin "max") (fun xs H Q=>∃ i j,xs = [.int i,.int j] /\ Q (.int (if j > i then j else i)) H):=by
  intro pins s σ H xs us Q I r h
  obtain ⟨i,j,rfl,q⟩:=h
  obtain ⟨u,w',rfl,⟨t,rfl⟩,⟨t',rfl⟩⟩:=vals2 r
  refine max_two_ints (I.ok.hd hc) fun h' tk k=>⟨_,H,I.kept k,?_,q⟩
  by_cases hj : j > i
  · rw [if_pos hj,if_pos hj]; exact ⟨_,rfl⟩
  · rw [if_neg hj,if_neg hj]; exact ⟨_,rfl⟩
theorem call_min2 (hc : X.calm = true) : CallR X (.builtin "min") (fun xs H Q=>∃ i j,xs = [.int i,.int j] /\ Q (.int (if j < i then j else i)) H):=by
  intro pins s σ H xs us Q I r h
  obtain ⟨i,j,rfl,q⟩:=h
  obtain ⟨u,w',rfl,⟨t,rfl⟩,⟨t',rfl⟩⟩:=vals2 r
  refine min_two_ints (I.ok.hd hc) fun h' tk k=>⟨_,H,I.kept k,?_,q⟩
  by_cases hj : j < i
  · rw [if_pos hj,if_pos hj]; exact ⟨_,rfl⟩
  · rw [if_neg hj,if_neg hj]; exact ⟨_,rfl⟩
theorem call_ord : CallR X (.builtin "ord") (fun xs H Q=>∃ x,xs = [.str x] /\ x.length = 1 /\ Q (.int (x.cps.getD 0 0 : Nat)) H):=by
  intro pins s σ H xs us Q I r h
  obtain ⟨x,rfl,hz,q⟩:=h
  obtain ⟨u,rfl,t,rfl⟩:=vals1 r
  exact ord_of_one hz ⟨.int _,H,I.tok _,⟨_,rfl⟩,q⟩
end
end L2
namespace L2
open PySem PySem.Spec PyProof.Rows
structure ObjM (h : Heap) (x dx C : Addr) (mA : Str -> Option Value) : Prop where
  obj : h.get? x = some (PySem.W.instObj C dx)
  ns : h.Ns1 dx mA
  ne : dx ≠ x
theorem lookIn_ns {h : Heap} {dx : Addr} {mA : Str -> Option Value} (n : h.Ns1 dx mA) : ∃ od,h.get? dx = some od /\ ∀ name,PySem.W.lookIn name od = some (mA name):=by
  obtain ⟨o,es,ep,ho,hd,hk,_,hm⟩:=n
  refine ⟨o,ho,fun name=>?_⟩
  have e:=hm name
  unfold nsFind findBy at e
  rw [<- Array.find?_toList] at e
  unfold PySem.W.lookIn
  rw [hd]
  dsimp only
  split
  · rename_i y q
    rw [q] at e
    exact congrArg some e
  · rename_i q
    rw [q] at e
    have a : es.toList.any (·.refKey) = false:=by
      rw [List.any_eq_false]
      intro y hy
      obtain ⟨z,t,hkey⟩:=hk y (Array.mem_toList_iff.mp hy)
      simp [DictEntry.refKey,hkey]
    have a' : ¬ es.toList.any (·.refKey) = true:=by rw [a]; exact Bool.false_ne_true
    rw [if_neg a']
    exact congrArg some e
theorem ObjM.look {h : Heap} {x dx C : Addr} {mA : Str -> Option Value} (I : ObjM h x dx C mA) : ∃ od,PySem.W.InstAt h x (PySem.W.instObj C dx) C (some od) /\ ∀ name,PySem.W.lookIn name od = some (mA name):=
  let ⟨od,ho,hl⟩:=lookIn_ns I.ns
  ⟨od,⟨I.obj,rfl,rfl,ho⟩,hl⟩
section
variable {P : Program} {w : World} {H H' : Hp} {h h' : Heap} {a C dx : Addr} {fs fs' : List (Str × V)}
theorem ins_get (hok : HOk P w H h) (e : H a = some (.ins C dx fs)) : ∃ mA,ObjM h a dx C mA /\ (∀ f,RelO (fs.lookup f) (mA f)) /\ PySem.Within mA (fs.map (·.1)) /\ fs.length <= 1000 /\ H dx = some (.own a):=by
  obtain ⟨d,z,ne,ob,mA,n,r,q⟩:=(show ObjOk P w H h a (.ins C dx fs) from hok a _ e)
  exact ⟨mA,⟨ob,n,ne⟩,r,q,z,d⟩
end
structure Cls (K : PySem.W.Frag) (C : Addr) : Prop where
  pg : PySem.W.plainGet K C Str.empty = true
  hd : PySem.W.hasDictIn K C = true
  po : PySem.W.plainOver K C = true
  sa : PySem.W.findIn K (.ref C) "__setattr__" = some (some (.builtin "object.__setattr__"))
theorem Cls.get {K : PySem.W.Frag} {C : Addr} (c : Cls K C) (f : Str) : PySem.W.plainGet K C f = true:=c.pg
section
variable {X : Cx} {pins : List (Addr × Obj)} {σ : St} {H : Hp} {s : Shared} {A : Around} {E : Value -> Shared -> Prop} {Q : Value -> Shared -> Prop} {c : Value} {b : Bool}
inductive TyOf (K : PySem.W.Frag) (H : Hp) : V -> Value -> Prop where
  | non : TyOf K H .non (.type "NoneType")
  | bl (x : Bool) : TyOf K H (.bl x) (.type "bool")
  | int (i : Int) : TyOf K H (.int i) (.type "int")
  | str (x : Str) : TyOf K H (.str x) (.type "str")
  | flt (x : UInt64) : TyOf K H (.flt x) (.type "float")
  | lst {a : Addr} {xs : List V} (e : H a = some (.lst xs)) : TyOf K H (.ref a) (.type "list")
  | frz {a : Addr} {o : Obj} {xs : List V} (e : H a = some (.frz o (.lst xs))) : TyOf K H (.ref a) (.type "list")
  | tup {a : Addr} {xs : List V} (e : H a = some (.tup xs)) : TyOf K H (.ref a) (.type "tuple")
  | dK {a : Addr} {kvs : List (Key × V)} (e : H a = some (.dK kvs)) : TyOf K H (.ref a) (.type "dict")
  | dT {a : Addr} {kvs : List (HK × V)} (e : H a = some (.dT kvs)) : TyOf K H (.ref a) (.type "dict")
  | ins {a C dx : Addr} {fs : List (Str × V)} (e : H a = some (.ins C dx fs)) (cl : Cls K C) (ha : PySem.W.findIn K (.ref C) "__class__" = some (some (.builtin "object.__class__")))
      (hn : PySem.W.specialIn K (.builtin "object.__class__") "__get__" = some (some (.builtin "getset_descriptor.__get__"))) (htk : PySem.W.takesIn K (.builtin "object.__class__") = some true)
      (hm : PySem.W.mroIn K C (.type "object") = some true) : TyOf K H (.ref a) (.ref C)
theorem isinst_ok {x : V} {u t : Value} (I : Inv X pins σ H s) (rx : RelV x u) (ty : TyOf X.K H x t) (e : PySem.W.kitOne X.K t c = some b) (h : ∀ tk,Q (.bool b) { s with toks:=tk }) :
    wpAny (model X.prog X.w) A (call (.builtin "isinstance") [u,c]) Q E s:=by
  cases ty with
  | non=>cases (show u = Value.none from rx); exact PySem.W.kia_one PySem.W.kitx_none I.kIn True.intro e (fun z=>nomatch z) h
  | bl y=>cases (show u = Value.bool y from rx); exact PySem.W.kia_one PySem.W.kitx_bool I.kIn True.intro e (fun z=>nomatch z) h
  | int i=>obtain ⟨t,q⟩:=(show ∃ t,u = Value.int i t from rx); cases q; exact PySem.W.kia_one PySem.W.kitx_int I.kIn True.intro e (fun z=>nomatch z) h
  | str y=>obtain ⟨t,q⟩:=(show ∃ t,u = Value.str y t from rx); cases q; exact PySem.W.kia_one PySem.W.kitx_str I.kIn True.intro e (fun z=>nomatch z) h
  | flt y=>obtain ⟨t,q⟩:=(show ∃ t,u = Value.float y t from rx); cases q; exact PySem.W.kia_one PySem.W.kitx_float I.kIn True.intro e (fun z=>nomatch z) h
  | @lst a xs ea=>
    cases (show u = Value.ref a from rx)
    obtain ⟨_,_,n,_,h1⟩:=(show ObjOk X.prog X.w H s.heap a (.lst xs) from I.hok a _ ea)
    exact PySem.W.kia_one PySem.W.kitx_list I.kIn ⟨_,h1,rfl⟩ e (fun z=>nomatch z) h
  | @frz a ob xs ea=>
    cases (show u = Value.ref a from rx)
    obtain ⟨_,_,_,n,_,h1⟩:=(show ObjOk X.prog X.w H s.heap a (.frz ob (.lst xs)) from I.hok a _ ea)
    exact PySem.W.kia_one PySem.W.kitx_list I.kIn ⟨_,h1,rfl⟩ e (fun z=>nomatch z) h
  | @tup a xs ea=>
    cases (show u = Value.ref a from rx)
    obtain ⟨_,_,_,p⟩:=(show ObjOk X.prog X.w H s.heap a (.tup xs) from I.hok a _ ea)
    obtain ⟨o,h1,h2,_⟩:=p
    exact PySem.W.kia_one PySem.W.kitx_tuple I.kIn ⟨o,h1,h2⟩ e (fun z=>nomatch z) h
  | @dK a kvs ea=>
    cases (show u = Value.ref a from rx)
    obtain ⟨_,_,vs,_,p⟩:=(show ObjOk X.prog X.w H s.heap a (.dK kvs) from I.hok a _ ea)
    obtain ⟨o,es,ep,h1,h2,_⟩:=p
    exact PySem.W.kia_one PySem.W.kitx_dict I.kIn ⟨o,h1,h2.1⟩ e (fun z=>nomatch z) h
  | @dT a kvs ea=>
    cases (show u = Value.ref a from rx)
    obtain ⟨_,_,xs,_,o,es,ep,h1,h2,_⟩:=(show ObjOk X.prog X.w H s.heap a (.dT kvs) from I.hok a _ ea)
    exact PySem.W.kia_one PySem.W.kitx_dict I.kIn ⟨o,h1,h2.1⟩ e (fun z=>nomatch z) h
  | @ins a C dx fs ea cl ha hn htk hm=>
    cases (show u = Value.ref a from rx)
    obtain ⟨mA,O,_⟩:=ins_get I.hok ea
    obtain ⟨od,J,_⟩:=O.look
    exact PySem.W.kia_one (PySem.W.kitx_own (cl.get _) cl.hd ha hn htk hm) I.kIn J e (fun z=>nomatch z) h
end
end L2
namespace L2
open PySem PySem.Spec PyProof.Rows
structure Room (k : Nat) (A : Around) : Prop where
  hd : A.handled = none
  dp : A.depth + 3 * k + 5 < recursionLimit
  un : A.units + 16 * k + 200 < cLine
theorem Room.mono {j k : Nat} {A : Around} (r : Room k A) (h : j <= k) : Room j A:=⟨r.hd,by have:=r.dp; omega,by have:=r.un; omega⟩
theorem Room.deeper {k : Nat} {A : Around} (r : Room (k + 1) A) (env : Env) : Room k (A.deeper env):=
  ⟨r.hd,by have:=r.dp; show A.depth + 1 + 3 * k + 5 < _; omega,by have:=r.un; show A.units + 3 + 16 * k + 200 < _; omega⟩
theorem Room.depth {k : Nat} {A : Around} (r : Room k A) : A.depth < recursionLimit:=by have:=r.dp; omega
theorem Room.units {k : Nat} {A : Around} (r : Room k A) : A.units + 64 < cLine:=by have:=r.un; omega
def tNil : TA:=fun _ H Q=>Q [] H
def tCons (ta : TE) (tr : TA) : TA:=fun σ H Q=>ta σ H fun x H1=>tr σ H1 fun xs H2=>Q (x :: xs) H2
section
variable {X : Cx} {e : Expr} {es : List Expr} {te : TE} {t : TA} {pos : Pos}
theorem pa_nil : PA X [] tNil:=fun _ _ _ _ H Q I h=>Calls.spliced_nil ⟨[],H,I,.nil,h⟩
theorem pa_cons (ha : PE X e te) (hr : PA X es t) (hs : starEach (e :: es) X.env = (false,eval e X.env) :: starEach es X.env:=by rfl) : PA X (e :: es) (tCons te t):=by
  intro pos pins s σ H Q I h
  rw [hs]
  show wpAny _ _ (spliced ((false,eval e X.env) :: backTo pos (starEach es X.env))) _ _ s
  refine Calls.spliced_cons (thn (ha pins s σ H _ I h) fun u s1 ⟨x,H1,I1,r1,q1⟩=>?_)
  exact thn (hr pos pins s1 σ H1 _ I1 q1) fun us s2 ⟨xs,H2,I2,r2,q2⟩=>⟨x :: xs,H2,I2,.cons r1 r2,q2⟩
def tTup (t : TA) : TE:=fun σ H Q=>t σ H fun xs H1=>xs.length <= sizeLine /\ ∀ p,H1 p = none -> Q (.ref p) (upd H1 p (.tup xs))
def tLst (t : TA) : TE:=fun σ H Q=>t σ H fun xs H1=>xs.length <= sizeLine /\ ∀ p,H1 p = none -> Q (.ref p) (upd H1 p (.lst xs))
theorem pe_tup {x1} (h : PA X es t) : PE X (.Tuple es x1 pos) (tTup t):=by
  intro pins s σ H Q I hq
  refine wpAny_Tuple_spliced (thn (h pos pins s σ H _ I hq) fun us s1 ⟨xs,H1,I1,r,z,q⟩=>⟨by rw [<- r.length]; exact z,?_⟩)
  have hf : H1 s1.heap.objs.size = none:=I1.hok.fresh (Nat.le_refl _)
  refine ⟨.ref s1.heap.objs.size,upd H1 s1.heap.objs.size (.tup xs),I1.laid (t':=s1.toks) (fun b u e=>Heap.get?_push_of_some _ e) (Nat.le_refl _) ?_,rfl,q _ hf⟩
  exact ⟨z,us,r,⟨_,Heap.get?_push_size _ rfl,rfl,_,rfl⟩⟩
theorem pe_lst (h : PA X es t) : PE X (.List es pos) (tLst t):=by
  intro pins s σ H Q I hq
  refine wpAny_List_spliced (thn (h pos pins s σ H _ I hq) fun us s1 ⟨xs,H1,I1,r,z,q⟩=>⟨by rw [<- r.length]; exact z,?_⟩)
  have hf : H1 s1.heap.objs.size = none:=I1.hok.fresh (Nat.le_refl _)
  refine ⟨.ref s1.heap.objs.size,upd H1 s1.heap.objs.size (.lst xs),I1.laid (t':=s1.toks) (fun b u e=>Heap.get?_push_of_some _ e) (Nat.le_refl _) ?_,rfl,q _ hf⟩
  exact ⟨z,us,0,r,Heap.get?_push_size _ rfl⟩
end
abbrev Sp:=List V -> Hp -> VK -> XK -> Prop
abbrev CXT:=List Env -> Hp -> Shared -> XK -> Value -> Shared -> Prop
structure Env0 (P : Program) (w : World) (K : PySem.W.Frag) (mg : Str -> Option Value) (base : Heap) (A : Around) (outer : List Env) (s : Shared) (H : Hp) : Prop where
  frames : A.frames = some outer
  mod : Mod K mg base
  bs : ∀ b o,base.get? b = some o -> s.heap.get? b = some o /\ H b = none
  bsz : base.objs.size <= s.heap.objs.size
  funs : s.heap.FunFrames base outer
  frf : ∀ b ∈ frs outer,H b = none
  hok : HOk P w H s.heap
  bare : AllBare s.gens
def CE (outer : List Env) (P : Program) (w : World) (H : Hp) (s : Shared) (Q : VK) (u : Value) (s' : Shared) : Prop:=
  ∃ v H',s'.os = s.os /\ AllBare s'.gens /\ Un (frs outer) [] H H' s.heap s'.heap /\ HOk P w H' s'.heap /\ RelV v u /\ Q v H'
def CR (CX : CXT) (outer : List Env) (P : Program) (w : World) (H : Hp) (s : Shared) (Q : VK) (E : XK) (r : Result) (s' : Shared) : Prop:=
  match r with
  | .ok (.ret u)=>CE outer P w H s Q u s'
  | .ok _=>False
  | .error e=>CX outer H s E e s'
structure FnOk (P : Program) (w : World) (K : PySem.W.Frag) (mg : Str -> Option Value) (base : Heap) (CX : CXT) (k : Nat) (f : Addr) (fd : FuncData) (ps : List Str) (sp : Sp) : Prop where
  len : ∀ vs H Q E,sp vs H Q E -> vs.length = ps.length
  run : ∀ (A : Around) (outer : List Env) (s : Shared) (H : Hp) (args : Args) (us : List Value) (vs : List V) (Q : VK) (E : XK),Room k A -> Env0 P w K mg base A outer s H -> BindsTo s fd args (ps.zip us) -> Vals vs us -> sp vs H Q E ->
    codeAny (model P w) A (.call (.ref f) args) (CR CX outer P w H s Q E) s
theorem FnOk.imp {P : Program} {w : World} {K : PySem.W.Frag} {mg : Str -> Option Value} {base : Heap} {CX : CXT} {k : Nat} {f : Addr} {fd : FuncData} {ps : List Str} {sp sp' : Sp} (F : FnOk P w K mg base CX k f fd ps sp)
    (h : ∀ vs H Q E,sp' vs H Q E -> sp vs H Q E) : FnOk P w K mg base CX k f fd ps sp':=
  ⟨fun vs H Q E q=>F.len vs H Q E (h _ _ _ _ q),fun A outer s H args us vs Q E hr he hb hv hs=>F.run A outer s H args us vs Q E hr he hb hv (h _ _ _ _ hs)⟩
section
variable {X : Cx} {pins : List (Addr × Obj)} {σ : St} {H : Hp} {s s' : Shared}
theorem Inv.env0 (I : Inv X pins σ H s) : Env0 X.prog X.w X.K X.mg X.base X.A X.stack s H:=
  ⟨I.ok.frames,I.ok.mod,I.bs,Nat.le_trans I.ok.bsz I.sz,I.stack,I.stkFree,I.hok,I.bare⟩
theorem Inv.after {Q : VK} {u : Value} (I : Inv X pins σ H s) (h : CE X.stack X.prog X.w H s Q u s') : EP X pins σ Q u s':=by
  obtain ⟨v,H',os,bare,un,hok,r,q⟩:=h
  obtain ⟨hh,g,d,t,os'⟩:=s'
  obtain rfl : os' = s.os:=os
  exact ⟨v,H',I.call (h':=hh) (g':=g) (d':=d) (t':=t) (ch:=[]) un hok bare (fun b z=>absurd z (by simp)),r,q⟩
end
def tCall (sp : Sp) (dvs : List V) (E : XK) (t : TA) : TE:=fun σ H Q=>t σ H fun vs H1=>sp (vs ++ dvs) H1 Q E
def Binds (K : PySem.W.Frag) (fd : FuncData) (ps : List Str) (ds : List Value) : Prop:=
  ∀ (s : Shared) (us : List Value),K.In s.heap -> (us ++ ds).length = ps.length -> BindsTo s fd ⟨us,[]⟩ (ps.zip (us ++ ds))
theorem Binds.all {K : PySem.W.Frag} {fd : FuncData} {ps : List Str} (h : ∀ us : List Value,us.length = ps.length -> bindArgs fd ⟨us,[]⟩ = pure (ps.zip us)) : Binds K fd ps []:=fun s us _ hl=>by
  rw [List.append_nil] at hl ⊢
  exact .of_eq (h us hl)
def Passes (CX : CXT) (X : Cx) (E : XK) : Prop:=∀ (pins : List (Addr × Obj)) (σ : St) (H : Hp) (s : Shared) (e : Value) (s' : Shared),Inv X pins σ H s -> CX X.stack H s E e s' -> X.xe e s'
section
variable {X : Cx} {CX : CXT} {k : Nat} {f C : Addr} {fd : FuncData} {ps : List Str} {sp : Sp} {dvs : List V} {ds : List Value} {E : XK} {x m : Str} {p pos apos : Pos} {e o : Expr} {es : List Expr} {ta : TE} {t : TA}
theorem run_fn {pins : List (Addr × Obj)} {σ : St} {H : Hp} {s : Shared} {Q : VK} {us : List Value} {vs : List V} (F : FnOk X.prog X.w X.K X.mg X.base CX k f fd ps sp) (hr : Room k X.A) (hb : Binds X.K fd ps ds) (hd : Vals dvs ds) (hx : Passes CX X E)
    (I : Inv X pins σ H s) (r : Vals vs us) (h : sp (vs ++ dvs) H Q E) : wpAny (model X.prog X.w) X.A (call (.ref f) us) (EP X pins σ Q) X.xe s:=by
  have r2 : Vals (vs ++ dvs) (us ++ ds):=r.append hd
  have hl : (us ++ ds).length = ps.length:=by rw [<- r2.length]; exact F.len _ _ _ _ h
  refine wpAny_call (codeAny_mono (F.run X.A X.stack s H ⟨us,[]⟩ (us ++ ds) (vs ++ dvs) Q E hr I.env0 (hb s us I.kIn hl) r2 h) fun r s' hq=>?_)
  cases r with
  | error e=>exact hx pins σ H s e s' I hq
  | ok fl=>
    cases fl with
    | ret u=>exact I.after hq
    | next=>exact False.elim hq
    | brk=>exact False.elim hq
    | cont=>exact False.elim hq
theorem pe_call (F : FnOk X.prog X.w X.K X.mg X.base CX k f fd ps sp) (hr : Room k X.A) (hg : Gl X x) (hm : X.mg x = some (.ref f)) (hk : PySem.W.keepIn X.K (.ref f) = true) (hb : Binds X.K fd ps ds) (hd : Vals dvs ds) (hx : Passes CX X E)
    (ha : PA X (e :: es) t) (hdb : (x == ("__debug__" : Str)) = false:=by decide) (he : starEach (e :: es) X.env = (false,eval e X.env) :: starEach es X.env:=by rfl) (hpl : (backTo pos (starEach es X.env)).any (·.1) = false:=by rfl) :
    PE X (.Call (.Name x p) (e :: es) [] pos) (tCall sp dvs E t):=by
  intro pins s σ H Q I h
  refine wpAny_Call_Name_kw (ld_glob I hg hm ?_ hdb)
  refine PySem.W.callWith_K (h₀:=X.base) I.ok.mod.kin hk (thn (ha pos pins s σ H _ I h) fun us s1 ⟨vs,H1,I1,r,q⟩=>⟨I1.kIn,?_⟩) he hpl
  exact run_fn F hr hb hd hx I1 r q
end
structure FnScope (N P : List Str) (sc : Scope) : Prop where
  kind : sc.kind = .function
  co : sc.isCoroutine = false
  gen : sc.isGenerator = false
  nd : N.Nodup
  pre : N.take P.length = P
  par : ∀ x ∈ P,sc.names.lookup x = some .local \/ sc.names.lookup x = some .cell
  nofree : ∀ y ∈ sc.names,y.2 ≠ .free
theorem bindL_out {kindOf : Str -> Option NameKind} {x : Str} : ∀ {binds : List (Str × Value)} {m : Str -> Option Value},(∀ v,(x,v) ∉ binds) -> bindL kindOf binds m x = m x
  | [],_,_=>rfl
  | (n,v) :: r,m,h=>by
    unfold bindL
    rw [bindL_out fun w hw=>h w (List.mem_cons_of_mem _ hw)]
    split
    · have : x ≠ n:=by rintro rfl; exact h v List.mem_cons_self
      simp [this]
    · rfl
theorem bindC_out {kindOf : Str -> Option NameKind} {x : Str} : ∀ {binds : List (Str × Value)} {m : Str -> Option Value},(∀ v,(x,v) ∉ binds) -> bindC kindOf binds m x = m x
  | [],_,_=>rfl
  | (n,v) :: r,m,h=>by
    unfold bindC
    rw [bindC_out fun w hw=>h w (List.mem_cons_of_mem _ hw)]
    split
    · rfl
    · have : x ≠ n:=by rintro rfl; exact h v List.mem_cons_self
      simp [this]
theorem bindL_get {kindOf : Str -> Option NameKind} {x : Str} {v : Value} : ∀ {P : List Str} {vs : List Value} {i : Nat} {m : Str -> Option Value},P.Nodup -> P[i]? = some x -> vs[i]? = some v -> kindOf x = some .local ->
    bindL kindOf (P.zip vs) m x = some v
  | [],_,_,_,_,h,_,_=>by simp at h
  | _ :: _,[],_,_,_,_,h,_=>by simp at h
  | p :: P,w :: vs,0,m,nd,h1,h2,hk=>by
    simp at h1 h2; subst h1; subst h2
    show bindL kindOf ((p,w) :: P.zip vs) m p = _
    unfold bindL
    rw [bindL_out fun v hv=>(List.nodup_cons.mp nd).1 (List.of_mem_zip hv).1,if_pos hk]
    simp
  | p :: P,w :: vs,i + 1,m,nd,h1,h2,hk=>by
    show bindL kindOf ((p,w) :: P.zip vs) m x = _
    unfold bindL
    exact bindL_get (i:=i) (List.nodup_cons.mp nd).2 (by simpa using h1) (by simpa using h2) hk
theorem bindC_get {kindOf : Str -> Option NameKind} {x : Str} {v : Value} : ∀ {P : List Str} {vs : List Value} {i : Nat} {m : Str -> Option Value},P.Nodup -> P[i]? = some x -> vs[i]? = some v -> kindOf x ≠ some .local ->
    bindC kindOf (P.zip vs) m x = some v
  | [],_,_,_,_,h,_,_=>by simp at h
  | _ :: _,[],_,_,_,_,h,_=>by simp at h
  | p :: P,w :: vs,0,m,nd,h1,h2,hk=>by
    simp at h1 h2; subst h1; subst h2
    show bindC kindOf ((p,w) :: P.zip vs) m p = _
    unfold bindC
    rw [bindC_out fun v hv=>(List.nodup_cons.mp nd).1 (List.of_mem_zip hv).1,if_neg hk]
    simp
  | p :: P,w :: vs,i + 1,m,nd,h1,h2,hk=>by
    show bindC kindOf ((p,w) :: P.zip vs) m x = _
    unfold bindC
    exact bindC_get (i:=i) (List.nodup_cons.mp nd).2 (by simpa using h1) (by simpa using h2) hk
def start (N : List Str) (vs : List V) : St:=vs.map some ++ List.replicate (N.length - vs.length) none
def cxOf (CX : CXT) (P : Program) (w : World) (K : PySem.W.Frag) (mg : Str -> Option Value) (base : Heap) (N : List Str) (qual : Str) (scope : Scope) (f : Addr) (cd : Value) (A : Around) (outer : List Env) (s : Shared) (H : Hp) (E : XK) : Cx where
  prog:=P
  w:=w
  K:=K
  mg:=mg
  base:=base
  A:=A.deeper (envOfC qual scope s.heap.objs.size f cd)
  N:=N
  s₀:=s
  H₀:=H
  env:=envOfC qual scope s.heap.objs.size f cd
  outer:=outer
  stack:=envOfC qual scope s.heap.objs.size f cd :: outer
  ex:=[]
  calm:=true
  fn:=fun _=>true
  pn:=[]
  xe:=fun e s'=>wpAny (model P w) (A.deeper (envOfC qual scope s.heap.objs.size f cd)) (leaving (envOfC qual scope s.heap.objs.size f cd) e) (fun _ s''=>CX outer H s E e s'') (fun e' s''=>CX outer H s E e' s'') s'
theorem cell_has {sc : Scope} {n : Nat} {x : Str} (h : sc.names.lookup x = some .cell) : ∃ c,(cellsFrom n sc.names []).lookup x = some c:=by
  have q:=PySem.W.cellsFrom_some sc.names n [] (.inl h)
  exact Option.isSome_iff_exists.mp q
theorem inv_start {CX : CXT} {P : Program} {w : World} {K : PySem.W.Frag} {mg : Str -> Option Value} {base : Heap} {N ps : List Str} {qual : Str} {scope : Scope} {f : Addr} {cd : Value} {A : Around} {outer : List Env} {s s1 : Shared} {H : Hp} {E : XK} {us : List Value} {vs : List V}
    (S : FnScope N ps scope) (hd : A.handled = none) (e0 : Env0 P w K mg base A outer s H) (hl : vs.length = ps.length) (r : Vals vs us)
    (x : InCallC s s.heap.objs.size (bindL (envOfC qual scope s.heap.objs.size f cd).kindOf (ps.zip us) fun _=>none) (cellsFrom (s.heap.objs.size + 1) scope.names []) (bindC (envOfC qual scope s.heap.objs.size f cd).kindOf (ps.zip us) fun _=>none) s1) :
    Inv (cxOf CX P w K mg base N qual scope f cd A outer s H E) [] (start N vs) H s1:=by
  have hpl : ps.length <= N.length:=by have:=congrArg List.length S.pre; rw [List.length_take] at this; omega
  obtain ⟨h1,tk,rfl,hk⟩:=x.done
  have noA : ∀ b : Addr,b ∉ (cxOf CX P w K mg base N qual scope f cd A outer s H E).ex:=fun b z=>absurd (show b ∈ ([] : List Addr) from z) (by simp)
  refine ⟨⟨e0.mod,S.kind,rfl,rfl,Nat.le_refl _,fun y z c h1 h2=>?_,fun y hy=>?_,fun y c _ h=>?_,fun _=>hd,Around.frames_deeper e0.frames,.inr ⟨rfl,rfl⟩,fun b z=>absurd z (noA b),e0.bs,e0.bsz,fun b _ _=>noA b,fun b z=>absurd z (noA b),e0.funs,e0.frf⟩,
    rfl,e0.bare,Un.kept hk,⟨_,x.toInCall.ns,fun i y v h1 h2 h3=>?_⟩,fun y c h=>⟨_,x.cell y c h⟩,e0.hok.fresh (Nat.le_refl _),fun y c h=>?_,fun p hp=>absurd (show p ∈ ([] : List (Addr × Obj)) from hp) (by simp),e0.hok.kept hk,?_⟩
  · exact name_of_addr x.apart (PySem.mem_of_lookup h1) (PySem.mem_of_lookup h2)
  · have hy : scope.names.lookup y = some .cell \/ scope.names.lookup y = some .free:=hy
    rcases hy with hy | hy
    · exact cell_has hy
    · exact absurd rfl (S.nofree _ (PySem.mem_of_lookup hy))
  · exact Nat.le_of_lt (x.above y c (PySem.mem_of_lookup h))
  · have hi : i < vs.length:=by
      unfold start at h2
      by_cases hi : i < vs.length
      · exact hi
      · rw [List.getElem?_append_right (by simpa using hi)] at h2
        rw [List.getElem?_replicate] at h2
        split at h2 <;> cases h2
    have ha : vs[i]? = some v:=by
      unfold start at h2
      rw [List.getElem?_append_left (by simpa using hi),List.getElem?_map] at h2
      cases e : vs[i]? with
      | none=>rw [e] at h2; cases h2
      | some a=>rw [e] at h2; cases h2; rfl
    obtain ⟨u,hu,rv⟩:=r.get ha
    have hp : ps[i]? = some y:=by
      rw [<- S.pre,List.getElem?_take_of_lt (by omega)]; exact h1
    have ndP : ps.Nodup:=by rw [<- S.pre]; exact S.nd.sublist (List.take_sublist _ _)
    refine ⟨u,rv,?_⟩
    rcases S.par y (List.mem_of_getElem? hp) with k | k
    · exact .inl ⟨k,bindL_get ndP hp hu k⟩
    · obtain ⟨c,e⟩:=cell_has (n:=s.heap.objs.size + 1) k
      refine .inr ⟨.inl k,c,e,?_⟩
      have q:=x.cell y c e
      rw [bindC_get ndP hp hu (by show scope.names.lookup y ≠ _; rw [k]; decide)] at q
      exact q
  · exact e0.hok.fresh (Nat.le_of_lt (x.above y c (PySem.mem_of_lookup h)))
  · unfold start
    show _ = N.length
    rw [List.length_append,List.length_map,List.length_replicate]
    omega
theorem fn_of {CX : CXT} {P : Program} {w : World} {K : PySem.W.Frag} {mg : Str -> Option Value} {base : Heap} {k : Nat} {f : Addr} {name qual : Str} {params : Arguments} {body : List Stmt} {scope : Scope} {dV kV doc pm cdv ct oc : Value} {an od : Option Addr}
    {osl : Array (Option Value)} {N ps : List Str} {sp : Sp} (lk : K.lookup f = some ⟨oc,od,.func (PySem.W.fnOf name qual params body scope dV kV doc pm an cdv ct),osl⟩) (hcd : PySem.W.codeIn K cdv qual = true) (S : FnScope N ps scope)
    (len : ∀ vs H Q E,sp vs H Q E -> vs.length = ps.length)
    (hbody : ∀ (A : Around) (outer : List Env) (s : Shared) (H : Hp) (vs : List V) (Q : VK) (E : XK),Room k (A.deeper (envOfC qual scope s.heap.objs.size f cdv)) -> sp vs H Q E ->
      ∃ t,PSs (cxOf CX P w K mg base N qual scope f cdv A outer s H E) body t /\ t { nx:=fun _ H'=>Q .non H',rt:=Q } (start N vs) H) :
    FnOk P w K mg base CX (k + 1) f (PySem.W.fnOf name qual params body scope dV kV doc pm an cdv ct) ps sp:=by
  refine ⟨len,fun A outer s H args us vs Q E hr e0 hb r hsp=>?_⟩
  have hl:=len _ _ _ _ hsp
  have KX : K.In s.heap:=e0.mod.kin.keeps fun b o e=>(e0.bs b o e).1
  have lim : s.heap.NoLimit:=e0.mod.nolimit.keeps fun b o e=>(e0.bs b o e).1
  have hkind : ∀ y ∈ ps.zip us,scope.names.lookup y.1 = some .local \/ (scope.names.lookup y.1 = some .cell /\ ((cellsFrom (s.heap.objs.size + 1) scope.names []).lookup y.1).isSome = true):=fun ⟨n,v⟩ hy=>by
    rcases S.par n (List.of_mem_zip hy).1 with q | q
    · exact .inl q
    · exact .inr ⟨q,PySem.W.cellsFrom_some _ _ _ (.inl q)⟩
  refine codeAny_call_function hr.depth (KX _ _ lk) rfl S.co S.gen rfl (PySem.W.codeRec_of KX hcd) (hb _ _ _ _ ?_)
  refine wpAny_newFunctionEnv_cells S.kind hkind fun env he s1 x=>?_
  subst he
  refine ⟨lim.keeps x.toInCall.keep,codeAny_func ?_⟩
  obtain ⟨t,ht,hq⟩:=hbody A outer s H vs Q E (hr.deeper _) hsp
  have I : Inv (cxOf CX P w K mg base N qual scope f cdv A outer s H E) [] (start N vs) H s1:=inv_start S hr.hd e0 hl r x
  refine wpAny_mono (ht [] s1 (start N vs) H _ I hq) (fun fl s' hs=>?_) fun e s' hs=>hs
  have fin : ∀ {σ' : St} {H' : Hp} {v : V} {u : Value},Inv (cxOf CX P w K mg base N qual scope f cdv A outer s H E) [] σ' H' s' -> RelV v u -> Q v H' -> CE outer P w H s Q u s':=
    fun {σ' H' v u} J rv q=>⟨v,H',J.os,J.bare,J.base,J.hok,rv,q⟩
  cases fl with
  | ret u=>
    obtain ⟨v,σ',H',J,rv,q⟩:=hs
    exact fin J rv q
  | next=>
    obtain ⟨σ',H',J,q⟩:=hs
    exact fin (v:=V.non) (u:=Value.none) J rfl q
  | brk=>
    obtain ⟨_,_,_,q⟩:=hs
    exact False.elim q
  | cont=>
    obtain ⟨_,_,_,q⟩:=hs
    exact False.elim q
end L2
namespace L2
open PySem PySem.Spec PyProof.Rows
section
variable {X : Cx} {x : Str} {p pos : Pos} {e : Expr} {es : List Expr} {t : TA} {id T : String} {r : List V -> Hp -> VK -> Prop}
def tCB (r : List V -> Hp -> VK -> Prop) (t : TA) : TE:=fun σ H Q=>t σ H fun vs H1=>r vs H1 Q
theorem pe_callB (hc : CallR X (.builtin id) r) (hg : Gl X x) (hm : X.mg x = none) (hv : bootBuiltins x = some (.builtin id)) (ha : PA X (e :: es) t) (hn : x ≠ "__name__" := by decide) (hdb : (x == ("__debug__" : Str)) = false:=by decide)
    (he : starEach (e :: es) X.env = (false,eval e X.env) :: starEach es X.env:=by rfl) (hpl : (backTo pos (starEach es X.env)).any (·.1) = false:=by rfl) : PE X (.Call (.Name x p) (e :: es) [] pos) (tCB r t):=by
  intro pins s σ H Q I h
  refine wpAny_Call_Name_kw (ld_blt I hg hm hv ?_ hn hdb)
  exact PyProof.Rows.callWith_builtin1 (thn (ha pos pins s σ H _ I h) fun us s1 ⟨vs,H1,I1,r1,q1⟩=>hc pins s1 σ H1 vs us Q I1 r1 q1) he hpl
theorem pe_callTy (hc : CallR X (.type T) r) (hg : Gl X x) (hm : X.mg x = none) (hv : bootBuiltins x = some (.type T)) (ha : PA X (e :: es) t) (hn : x ≠ "__name__" := by decide) (hdb : (x == ("__debug__" : Str)) = false:=by decide)
    (he : starEach (e :: es) X.env = (false,eval e X.env) :: starEach es X.env:=by rfl) (hpl : (backTo pos (starEach es X.env)).any (·.1) = false:=by rfl) : PE X (.Call (.Name x p) (e :: es) [] pos) (tCB r t):=by
  intro pins s σ H Q I h
  refine wpAny_Call_Name_kw (ld_blt I hg hm hv ?_ hn hdb)
  exact PyProof.Rows.callWith_type1 (thn (ha pos pins s σ H _ I h) fun us s1 ⟨vs,H1,I1,r1,q1⟩=>hc pins s1 σ H1 vs us Q I1 r1 q1) he hpl
end
end L2
namespace HT
open PySem PyProof.Rows
def lexLt : List Int -> List Int -> Bool
  | [],[]=>false
  | [],_ :: _=>true
  | _ :: _,[]=>false
  | x :: xs,y :: ys=>if x = y then lexLt xs ys else decide (x < y)
theorem lexLt_cons (x y : Int) (xs ys : List Int) : lexLt (x :: xs) (y :: ys) = if x = y then lexLt xs ys else decide (x < y):=rfl
theorem lexLt_nil_nil : lexLt [] [] = false:=rfl
theorem lexLt_nil_cons (y : Int) (ys : List Int) : lexLt [] (y :: ys) = true:=rfl
theorem lexLt_cons_nil (x : Int) (xs : List Int) : lexLt (x :: xs) [] = false:=rfl
theorem eqAt_int (A : Around) (s : Shared) (a : Int) (t : Tok) (c : Int) (u : Tok) : ∃ e,SeqAt.EqAt A s (.int a t) (.int c u) e /\ (e = true <-> a = c):=
  ⟨(a == c),SeqAt.EqAt.int_int a t c u,by simp⟩
theorem rcLt_int (A : Around) (s : Shared) (a : Int) (t : Tok) (c : Int) (u : Tok) (prog : Program) (w : World) (E : Value -> Shared -> Prop) (Q : Value -> Shared -> Prop) (h : Q (.bool (decide (a < c))) s) :
    wpAny (model prog w) A (richCompare .Lt (.int a t) (.int c u)) Q E s:=
  (PyProof.Rows.lt_int h : wpAny (model prog w) A (compareOp .Lt (.int a t) (.int c u)) Q E s)
section
open PySem.SeqAt
open PySem.AutoSeq1 (wpAny_loadPart')
open PySem.MeetsSeq PySem.MeetsSeq2 PySem.MeetsSeq3
theorem tuple_lt_ints (l b : Addr) (items items2 : Array Value) (n n2 : Nat) (dd dd2 : Option Addr) (sl sl2 : Array (Option Value)) (ns ms : List Int) (hi : IntsAre items.toList ns) (hj : IntsAre items2.toList ms) :
    Meets (Builtin.«tuple.__lt__» ⟨[.ref l,.ref b],[]⟩)
      (fun _ R s=>s.heap.get? l = some { cls:=.type "tuple",dict:=dd,data:=.seq items n,slots:=sl } /\ s.heap.get? b = some { cls:=.type "tuple",dict:=dd2,data:=.seq items2 n2,slots:=sl2 } /\
        R (.ok (.ret (.bool (lexLt ns ms)))) s):=
  .of_wp fun prog w A R s h=>by
    obtain ⟨hp,g,d,tk,os⟩:=s; obtain ⟨hl,hb,h⟩:=h
    have f2:=AutoSeq1.sub_tuple_tuple
    have z1 : items.size = ns.length:=by rw [<- hi.length]; simp
    have z2 : items2.size = ms.length:=by rw [<- hj.length]; simp
    wp_walk using wpAny_loadPart' hl,wpAny_loadPart' hb,wpAny_forIn_list _ (fun rest b s'=>b.1 = none /\ s' = ⟨hp,g,d,tk,os⟩ /\ ∃ (vs ws : List Value) (ns' ms' : List Int),rest = vs.zip ws /\
      IntsAre vs ns' /\ IntsAre ws ms' /\ ns'.length + items2.size = ms'.length + items.size /\ R (.ok (.ret (.bool (lexLt ns' ms')))) ⟨hp,g,d,tk,os⟩) _
    case turn=>
      rintro ⟨y,x⟩ rest b s' ⟨hb',rfl,vs,ws,ns',ms',hz,hvi,hwi,hlen,hR⟩
      cases hvi with
      | nil=>rw [List.zip_nil_left] at hz; cases hz
      | cons a t hvi'=>
        cases hwi with
        | nil=>rw [List.zip_nil_right] at hz; cases hz
        | cons c u hwi'=>
          rw [List.zip_cons_cons] at hz
          injection hz with hyx hrest
          injection hyx with hy hx
          subst hy hx
          rw [lexLt_cons] at hR
          simp only [List.length_cons] at hlen
          obtain ⟨e,he,hiff⟩:=eqAt_int A.in1 ⟨hp,g,d,tk,os⟩ a t c u
          refine wpAny_bind (he prog w _ _ ?_)
          cases e with
          | true=>
            rw [if_pos (hiff.mp rfl)] at hR
            wp_walk
            exact ⟨rfl,rfl,_,_,_,_,hrest,hvi',hwi',by omega,hR⟩
          | false=>
            rw [if_neg (fun q=>absurd (hiff.mpr q) Bool.false_ne_true)] at hR
            have hri:=rcLt_int A.in1 ⟨hp,g,d,tk,os⟩ a t c u prog w
            wp_walk using hri
            exact ⟨_,rfl,by simpa using hR⟩
    case fin=>
      rintro ⟨b1,b2⟩ s' ⟨hb',rfl,vs,ws,ns',ms',hz,hvi,hwi,hlen,hR⟩
      simp only at hb'
      subst hb'
      have hv : lexLt ns' ms' = decide (items.size < items2.size):=by
        cases hvi with
        | nil=>
          cases hwi with
          | nil=>
            simp only [List.length_nil] at hlen
            rw [lexLt_nil_nil]
            exact (decide_eq_false (by omega)).symm
          | cons c u hw=>
            simp only [List.length_nil,List.length_cons] at hlen
            rw [lexLt_nil_cons]
            exact (decide_eq_true (by omega)).symm
        | cons a t hv=>
          cases hwi with
          | nil=>
            simp only [List.length_nil,List.length_cons] at hlen
            rw [lexLt_cons_nil]
            exact (decide_eq_false (by omega)).symm
          | cons c u hw=>
            rw [List.zip_cons_cons] at hz
            cases hz
      rw [hv] at hR
      wp_walk
      exact ⟨_,rfl,by simpa [Builtin.Tuple.tupleCompareSizes] using hR⟩
    case h=>
      exact ⟨rfl,rfl,items.toList,items2.toList,ns,ms,rfl,hi,hj,by omega,h⟩
end
section
variable {prog : Program} {w : World} {A : Around} {E : Value -> Shared -> Prop} {s : Shared}
theorem lt_tupInts {l b : Addr} {items items2 : Array Value} {ns ms : List Int} {Q : Value -> Shared -> Prop} (hl : IsTup s.heap l items) (hb : IsTup s.heap b items2) (hi : IntsAre items.toList ns) (hj : IntsAre items2.toList ms)
    (hu : A.units < cLine) (h : Q (.bool (lexLt ns ms)) s) : wpAny (model prog w) A (compareOp .Lt (.ref l) (.ref b)) Q E s:=by
  obtain ⟨⟨cls,dd,data,sl⟩,ho,hc,n,hd⟩:=id hl
  obtain ⟨⟨cls2,dd2,data2,sl2⟩,ho2,hc2,n2,hd2⟩:=id hb
  simp only at hc hd hc2 hd2
  subst hc hd hc2 hd2
  exact richCompare_meets_room (op:=.Lt) ⟨_,ho,rfl⟩ ⟨_,ho2,rfl⟩ PySem.F.slot_tuple_lt PySem.F.entry_tuple_lt (PySem.F.args_tuple_lt_2 _ _) (tuple_lt_ints l b items items2 n n2 dd dd2 sl sl2 ns ms hi hj)
    ⟨ho,ho2,show Value.bool (lexLt ns ms) ≠ Value.notImplemented /\ Q (.bool (lexLt ns ms)) s from ⟨(fun x=>nomatch x),h⟩⟩ hu
theorem cat_tup {t b : Addr} {vs ws : List Value} {Q : Value -> Shared -> Prop} (ht : IsTup s.heap t vs.toArray) (hb : IsTup s.heap b ws.toArray) (hv : vs ≠ [])
    (h1 : ws = [] -> Q (.ref t) s) (h2 : ws ≠ [] -> Q (.ref s.heap.objs.size) { s with heap:=s.heap.push { cls:=.type "tuple",data:=.seq (vs ++ ws).toArray } })
    (hsz : vs.length + ws.length <= sizeLine) : wpAny (model prog w) A (binaryOp .Add (.ref t) (.ref b)) Q E s:=by
  obtain ⟨⟨cls,dd,data,sl⟩,ho,hc,n,hd⟩:=id ht
  obtain ⟨⟨cls2,dd2,data2,sl2⟩,ho2,hc2,n2,hd2⟩:=id hb
  simp only at hc hd hc2 hd2
  subst hc hd hc2 hd2
  have e : vs.toArray ++ ws.toArray = (vs ++ ws).toArray:=by simp
  by_cases hw : ws = []
  · exact concat_meets ⟨_,ho,rfl⟩ ⟨_,ho2,rfl⟩ noFill_tuple_add seq_tuple_add PySem.F.slot_tuple_add PySem.F.entry_tuple_add (PySem.F.args_tuple_add_2 _ _)
      (tuple_addW1 t b vs.toArray ws.toArray n n2 dd dd2 sl sl2 (by simpa using hv) (by simp [hw])) ⟨ho,ho2,h1 hw⟩
  · refine concat_meets ⟨_,ho,rfl⟩ ⟨_,ho2,rfl⟩ noFill_tuple_add seq_tuple_add PySem.F.slot_tuple_add PySem.F.entry_tuple_add (PySem.F.args_tuple_add_2 _ _)
      (tuple_addW2 t b vs.toArray ws.toArray n n2 dd dd2 sl sl2 (by simpa using hv) (by simpa using hw) (by rw [List.size_toArray,List.size_toArray]; exact hsz)) ⟨ho,ho2,?_⟩
    rw [e]
    exact h2 hw
def sIx (n d : Nat) : Option Int -> Nat
  | none=>d
  | some v=>if v < 0 then (v + (n : Int)).toNat else min v.toNat n
theorem sIx_none (n d : Nat) : sIx n d none = d:=rfl
theorem sIx_nat (n d k : Nat) : sIx n d (some (k : Int)) = min k n:=by
  show (if (k : Int) < 0 then ((k : Int) + (n : Int)).toNat else min (k : Int).toNat n) = min k n
  rw [if_neg (by omega),Int.toNat_natCast]
theorem sIx_le (n d : Nat) (hd : d <= n) (o : Option Int) : sIx n d o <= n:=by
  cases o with
  | none=>exact hd
  | some v=>
    show (if v < 0 then (v + (n : Int)).toNat else min v.toNat n) <= n
    by_cases hv : v < 0
    · rw [if_pos hv]; omega
    · rw [if_neg hv]; exact Nat.min_le_right _ _
theorem clip_eq (v : Int) (n d : Nat) : (if v < 0 then max (v + (n : Int)) 0 else min v (n : Int)) = ((sIx n d (some v) : Nat) : Int):=by
  show (if v < 0 then max (v + (n : Int)) 0 else min v (n : Int)) = (((if v < 0 then (v + (n : Int)).toNat else min v.toNat n) : Nat) : Int)
  by_cases hv : v < 0
  · simp only [if_pos hv]; omega
  · simp only [if_neg hv]; omega
theorem adjust_gen (lo hi : Option Int) (n : Nat) : Builtin.Slice.sliceAdjust lo hi 1 (n : Int) = (((sIx n 0 lo : Nat) : Int),((sIx n n hi : Nat) : Int)):=by
  have h1 : ¬ ((1 : Int) < 0):=by omega
  unfold Builtin.Slice.sliceAdjust
  simp only [h1,if_false]
  refine Prod.ext ?_ ?_
  · cases lo with
    | none=>rfl
    | some v=>exact clip_eq v n 0
  · cases hi with
    | none=>rfl
    | some v=>exact clip_eq v n n
theorem places_gen (i j : Nat) : Builtin.Slice.slicePlaces (i : Int) (j : Int) 1 = j - i:=by
  unfold Builtin.Slice.slicePlaces
  have h1 : (1 : Int) > 0:=by omega
  simp only [h1,if_true,Int.ediv_one]
  split <;> omega
theorem slicePart_ {v : Value} {o : Option Int} {Q : Option Int -> Shared -> Prop} (p : IsPart v o) (h : Q o s) : wpAny (model prog w) A (Builtin.Slice.slicePartIndex v) Q E s:=by
  cases p with
  | none=>exact slicePart_none h
  | int i t=>exact slicePart_int h
theorem sliceApplied_gen {sl : Addr} {vl vu : Value} {lo hi : Option Int} {n : Nat} {Q : Int × Int × Nat -> Shared -> Prop} (hs : s.heap.IsSliceOf sl vl vu .none) (pl : IsPart vl lo) (pu : IsPart vu hi)
    (h : Q (((sIx n 0 lo : Nat) : Int),1,sIx n n hi - sIx n 0 lo) s) : wpAny (model prog w) A (Builtin.Slice.sliceApplied (.ref sl) (pure (n : Int))) Q E s:=by
  obtain ⟨os,hos,hcs,hds⟩:=id hs
  unfold Builtin.Slice.sliceApplied Builtin.Slice.sliceFields
  refine wpAny_bind (wpAny_bind (wpAny_field hos hds (x:=vl) rfl (wpAny_bind (wpAny_field hos hds (x:=vu) rfl (wpAny_bind (wpAny_field hos hds (x:=.none) rfl (wpAny_pure ?_)))))))
  refine wpAny_bind (slicePart_none ?_)
  show wpAny _ _ (if ((1 : Int) == 0) = true then _ else _) _ _ s
  rw [if_neg (by decide)]
  refine wpAny_bind (slicePart_ pl (wpAny_bind (slicePart_ pu (wpAny_bind (wpAny_pure ?_)))))
  show wpAny _ _ (match Builtin.Slice.sliceAdjust lo hi 1 (n : Int) with | (lo,hi)=>pure (lo,(1 : Int),Builtin.Slice.slicePlaces lo hi 1)) _ _ s
  rw [adjust_gen lo hi n]
  show wpAny _ _ (pure (((sIx n 0 lo : Nat) : Int),(1 : Int),Builtin.Slice.slicePlaces ((sIx n 0 lo : Nat) : Int) ((sIx n n hi : Nat) : Int) 1)) _ _ s
  rw [places_gen]
  exact wpAny_pure h
theorem pick_gen (xs : Array Value) (i k : Nat) : ((List.range k).filterMap fun (m : Nat)=>xs[((i : Int) + (m : Int) * 1).toNat]?).toArray = ((xs.toList.drop i).take k).toArray:=by
  have e : (fun (m : Nat)=>xs[((i : Int) + (m : Int) * 1).toNat]?) = fun m=>xs[i + m]?:=by
    funext m
    have : ((i : Int) + (m : Int) * 1).toNat = i + m:=by omega
    rw [this]
  rw [e]
  have:=pick_run xs i k
  rw [List.filterMap_map] at this
  have e2 : ((fun x=>xs[x]?) ∘ fun x=>i + x) = fun m=>xs[i + m]?:=rfl
  rw [e2] at this
  rw [this]
theorem getItem_tuple_cut {t sl : Addr} {items : Array Value} {vl vu : Value} {lo hi : Option Int} {Q : Value -> Shared -> Prop} (ht : IsTup s.heap t items) (hs : s.heap.IsSliceOf sl vl vu .none) (pl : IsPart vl lo) (pu : IsPart vu hi)
    (hw : ¬ (sIx items.size 0 lo = 0 /\ sIx items.size items.size hi = items.size))
    (h : Q (.ref s.heap.objs.size) { s with heap:=s.heap.push { cls:=.type "tuple",data:=.seq ((items.toList.drop (sIx items.size 0 lo)).take (sIx items.size items.size hi - sIx items.size 0 lo)).toArray } })
    (hsz : items.size <= sizeLine) : wpAny (model prog w) A (getItem (.ref t) (.ref sl)) Q E s:=by
  have htake : sizeOk (.seq ((items.toList.drop (sIx items.size 0 lo)).take (sIx items.size items.size hi - sIx items.size 0 lo)).toArray):=by
    show ((items.toList.drop (sIx items.size 0 lo)).take (sIx items.size items.size hi - sIx items.size 0 lo)).toArray.size <= sizeLine
    rw [List.size_toArray,List.length_take,List.length_drop,Array.length_toList]
    omega
  have hj : sIx items.size items.size hi <= items.size:=sIx_le _ _ (Nat.le_refl _) hi
  obtain ⟨os,hos,hcs,hds⟩:=id hs
  have hTs : s.TypeIs (.ref sl) "slice" := ⟨os,hos,hcs⟩
  unfold getItem
  try with_reducible refine wpAny_holding ?_
  first | refine wpAny_bind (wpAny_pure ?_) | skip
  refine wpAny_bind (wpAny_sequenceKey ht.typeIs (by decide) ?_)
  refine wpAny_bind (wpAny_callSpecial?_slot (name:=Str.ofString "__getitem__") ht.typeIs PyProof.Rows.slot_tuple_getitem
    (wpAny_call_entry PyProof.Rows.slot_tuple_getitem ht.typeIs entry_tuple_getitem ?_ (args_tuple_getitem _ _)))
  show wpAny _ _ (Builtin.Tuple.tupleItemsOf (.ref t) >>= _) _ _ s
  refine wpAny_bind (tupleItemsOf_ ht ?_)
  refine wpAny_bind (wpAny_typeOf hTs ?_)
  rw [if_pos (by decide)]
  refine wpAny_bind (sliceApplied_gen hs pl pu ?_)
  have hno : ¬ ((((sIx items.size 0 lo : Nat) : Int) == 0 && (1 : Int) == 1 && (sIx items.size items.size hi - sIx items.size 0 lo) == items.size) = true):=by
    intro q
    rw [Bool.and_eq_true,Bool.and_eq_true] at q
    have q1 : ((sIx items.size 0 lo : Nat) : Int) = 0:=eq_of_beq q.1.1
    have q2 : sIx items.size items.size hi - sIx items.size 0 lo = items.size:=eq_of_beq q.2
    exact hw ⟨by omega,by omega⟩
  show wpAny _ _ (if (((sIx items.size 0 lo : Nat) : Int) == 0 && (1 : Int) == 1 && (sIx items.size items.size hi - sIx items.size 0 lo) == items.size) = true then _ else _) _ _ s
  rw [if_neg hno,pick_gen]
  first
    | exact wpAny_bind (m:=Builtin.Tuple.tupleExact _) (wpAny_newObj_type (wpAny_pure ⟨_,rfl,wpAny_pure h⟩) htake)
    | exact wpAny_bind (m:=Builtin.Tuple.tupleExact _) (wpAny_newObj_type (wpAny_bind (wpAny_pure (wpAny_pure ⟨_,rfl,wpAny_pure h⟩))) htake)
    | exact wpAny_bind (wpAny_bind (m:=Builtin.Tuple.tupleExact _) (wpAny_newObj_type (wpAny_pure (wpAny_pure ⟨_,rfl,wpAny_pure h⟩)) htake))
    | exact wpAny_bind (wpAny_bind (m:=Builtin.Tuple.tupleExact _) (wpAny_newObj_type (wpAny_pure ⟨_,rfl,wpAny_pure h⟩) htake))
end
end HT
namespace L2
open PySem PySem.Spec PyProof.Rows
abbrev TO:=St -> Hp -> (Option Int -> Hp -> Prop) -> Prop
def PO (X : Cx) (e : Option Expr) (t : TO) : Prop:=
  ∀ (pins : List (Addr × Obj)) (s : Shared) (σ : St) (H : Hp) (Q : Option Int -> Hp -> Prop),Inv X pins σ H s -> t σ H Q ->
    wpAny (model X.prog X.w) X.A (evalPart e X.env) (fun u s'=>∃ o H',Inv X pins σ H' s' /\ IsPart u o /\ Q o H') X.xe s
def tNoPart : TO:=fun _ H Q=>Q none H
def tPart (t : TE) : TO:=fun σ H Q=>t σ H fun x H1=>∃ i,x = .int i /\ Q (some i) H1
theorem intsAre_of {ns : List Int} : ∀ {us : List Value},Vals (ns.map V.int) us -> IntsAre us ns:=by
  induction ns with
  | nil=>intro us r; rw [List.map_nil] at r; cases r; exact .nil
  | cons n ns ih=>
    intro us r
    rw [List.map_cons] at r
    cases r with
    | cons r1 r2=>
      obtain ⟨t,e⟩:=r1
      subst e
      exact .cons n t (ih r2)
section
variable {X : Cx} {e : Expr} {te : TE} {lo hi : Option Expr} {tl th : TO} {pos p2 : Pos}
theorem po_none : PO X none tNoPart:=by
  intro pins s σ H Q I h
  rw [evalPart_none]
  exact wpAny_pure ⟨none,H,I,.none,h⟩
theorem po_some (h : PE X e te) : PO X (some e) (tPart te):=by
  intro pins s σ H Q I hw
  rw [evalPart_some]
  refine thn (h pins s σ H _ I hw) fun u s1 ⟨x,H1,I1,r1,q1⟩=>?_
  obtain ⟨i,rfl,q⟩:=q1
  obtain ⟨t,rfl⟩:=r1
  exact ⟨some i,H1,I1,.int i t,q⟩
def SlR (X : Cx) (r : V -> Option Int -> Option Int -> Hp -> VK -> Prop) : Prop:=
  ∀ (pins : List (Addr × Obj)) (s : Shared) (σ : St) (H : Hp) (x : V) (v vl vu : Value) (lo hi : Option Int) (sl : Addr) (Q : VK),Inv X pins σ H s -> RelV x v -> s.heap.IsSliceOf sl vl vu .none -> IsPart vl lo -> IsPart vu hi -> r x lo hi H Q ->
    ∃ T id,typeLookup (.type T) "__getitem__" = pure (some (.builtin id)) /\ s.TypeIs v T /\ wpAny (model X.prog X.w) X.A (getItem v (.ref sl)) (EP X pins σ Q) X.xe s
theorem SlR.or {r r' : V -> Option Int -> Option Int -> Hp -> VK -> Prop} (h : SlR X r) (h' : SlR X r') : SlR X (fun x lo hi H Q=>r x lo hi H Q \/ r' x lo hi H Q):=by
  intro pins s σ H x v vl vu lo hi sl Q I rx hs pl pu q
  rcases q with q | q
  · exact h pins s σ H x v vl vu lo hi sl Q I rx hs pl pu q
  · exact h' pins s σ H x v vl vu lo hi sl Q I rx hs pl pu q
def tSl (r : V -> Option Int -> Option Int -> Hp -> VK -> Prop) (te : TE) (tl th : TO) : TE:=fun σ H Q=>te σ H fun x H1=>tl σ H1 fun l H2=>th σ H2 fun u H3=>r x l u H3 Q
theorem pe_slice {r : V -> Option Int -> Option Int -> Hp -> VK -> Prop} (hr : SlR X r) (he : PE X e te) (hl : PO X lo tl) (hu : PO X hi th) : PE X (.Subscript e (.Slice lo hi none p2) pos) (tSl r te tl th):=by
  intro pins s σ H Q I h
  refine Subscript_ (thn (he pins s σ H _ I h) fun v s1 ⟨x,H1,I1,r1,q1⟩=>?_)
  refine wpAny_Slice (thn (hl pins s1 σ H1 _ I1 q1) fun vl s2 ⟨l,H2,I2,pl,q2⟩=>thn (hu pins s2 σ H2 _ I2 q2) fun vu s3 ⟨u,H3,I3,pu,q3⟩=>?_)
  rw [evalPart_none]
  refine wpAny_pure ?_
  have I4 : Inv X pins σ H3 { s3 with heap:=s3.heap.push { cls:=.type "slice",data:=.fields #[vl,vu,.none] } }:=I3.kept (t':=s3.toks) fun b ob q=>Heap.get?_push_of_some _ q
  obtain ⟨T,id,hT,ht,hg⟩:=hr pins { s3 with heap:=s3.heap.push { cls:=.type "slice",data:=.fields #[vl,vu,.none] } } σ H3 x v vl vu l u s3.heap.objs.size Q I4 r1 (Heap.IsSliceOf.new ..) pl pu q3
  show wpAny (model X.prog X.w) X.A (subscriptTail e (.Slice lo hi none p2) v (.ref s3.heap.objs.size)) (EP X pins σ Q) X.xe { s3 with heap:=s3.heap.push { cls:=.type "slice",data:=.fields #[vl,vu,.none] } }
  exact tail_any (ops:=[.ref s3.heap.objs.size,v]) ht hT hg (by with_unfolding_all rfl)
def cutV (xs : List V) (lo hi : Option Int) : List V:=(xs.drop (HT.sIx xs.length 0 lo)).take (HT.sIx xs.length xs.length hi - HT.sIx xs.length 0 lo)
theorem cutV_length (xs : List V) (lo hi : Option Int) : (cutV xs lo hi).length <= xs.length:=by
  unfold cutV
  rw [List.length_take,List.length_drop]
  omega
def rSlT (K : PySem.W.Frag) : V -> Option Int -> Option Int -> Hp -> VK -> Prop:=fun x lo hi H Q=>∃ a xs,x = .ref a /\ SqT K H a xs /\
  ¬ (HT.sIx xs.length 0 lo = 0 /\ HT.sIx xs.length xs.length hi = xs.length) /\ ∀ p,H p = none -> Q (.ref p) (upd H p (.tup (cutV xs lo hi)))
theorem sl_tup : SlR X (rSlT X.K):=by
  intro pins s σ H x v vl vu lo hi sl Q I rx hs pl pu h
  obtain ⟨a,xs,rfl,hx,hw,q⟩:=h
  cases rx
  obtain ⟨its,r,ht,hz⟩:=I.tuple hx
  have hlen : its.toArray.size = xs.length:=by rw [List.size_toArray]; exact r.length.symm
  refine ⟨"tuple",_,PyProof.Rows.slot_tuple_getitem.lookup,ht.typeIs,?_⟩
  refine HT.getItem_tuple_cut ht hs pl pu (by rw [hlen]; exact hw) ?_ (by rw [hlen]; exact hz)
  rw [hlen]
  refine ⟨.ref s.heap.objs.size,_,I.laid (t':=s.toks) (o:=.tup (cutV xs lo hi)) (fun b ob q=>Heap.get?_push_of_some _ q) (Nat.le_refl _) ?_,rfl,q _ (I.hok.fresh (Nat.le_refl _))⟩
  exact ⟨Nat.le_trans (cutV_length xs lo hi) hz,_,(r.drop (HT.sIx xs.length 0 lo)).take (HT.sIx xs.length xs.length hi - HT.sIx xs.length 0 lo),IsTup.new _ _⟩
def rLtT (K : PySem.W.Frag) : R2:=fun x y H Q=>∃ a b ns ms,x = .ref a /\ y = .ref b /\ SqT K H a (ns.map V.int) /\ SqT K H b (ms.map V.int) /\ Q (.bl (HT.lexLt ns ms)) H
theorem op_ltT (hu : X.A.units < cLine) : OpR X (compareOp .Lt) (rLtT X.K):=by
  intro pins s σ H x y v u Q I rx ry h
  obtain ⟨a,b,ns,ms,rfl,rfl,ha,hb,q⟩:=h
  cases rx
  cases ry
  obtain ⟨its,r1,p1,_⟩:=I.tuple ha
  obtain ⟨its2,r2,p2,_⟩:=I.tuple hb
  have i1 : IntsAre its.toArray.toList ns:=intsAre_of r1
  have i2 : IntsAre its2.toArray.toList ms:=intsAre_of r2
  exact HT.lt_tupInts p1 p2 i1 i2 hu ⟨.bl (HT.lexLt ns ms),H,I,rfl,q⟩
def rCatT (K : PySem.W.Frag) : R2:=fun x y H Q=>∃ a b xs ys,x = .ref a /\ y = .ref b /\ SqT K H a xs /\ SqT K H b ys /\ xs ≠ [] /\ xs.length + ys.length <= sizeLine /\
  (ys = [] -> Q (.ref a) H) /\ (ys ≠ [] -> ∀ p,H p = none -> Q (.ref p) (upd H p (.tup (xs ++ ys))))
theorem Vals.nil_iff {xs : List V} {us : List Value} (r : Vals xs us) : us = [] <-> xs = []:=by
  cases r with
  | nil=>simp
  | cons _ _=>simp
theorem op_catT : OpR X (binaryOp .Add) (rCatT X.K):=by
  intro pins s σ H x y v u Q I rx ry h
  obtain ⟨a,b,xs,ys,rfl,rfl,ha,hb,hx,hz,q1,q2⟩:=h
  cases rx
  cases ry
  obtain ⟨its,r1,p1,_⟩:=I.tuple ha
  obtain ⟨its2,r2,p2,_⟩:=I.tuple hb
  refine HT.cat_tup p1 p2 (fun z=>hx (r1.nil_iff.mp z)) (fun z=>⟨.ref a,H,I,rfl,q1 (r2.nil_iff.mp z)⟩) (fun z=>?_) (by rw [<- r1.length,<- r2.length]; exact hz)
  refine ⟨.ref s.heap.objs.size,_,I.laid (t':=s.toks) (o:=.tup (xs ++ ys)) (fun b ob q=>Heap.get?_push_of_some _ q) (Nat.le_refl _) ?_,rfl,q2 (fun w=>z (r2.nil_iff.mpr w)) _ (I.hok.fresh (Nat.le_refl _))⟩
  exact ⟨by rw [List.length_append]; exact hz,_,r1.append r2,IsTup.new _ _⟩
end
end L2
namespace L2
open PySem PySem.Spec PyProof.Rows
def ixN (n : Nat) (i : Int) : Option Nat:=if 0 <= i then (if i < n then some i.toNat else none) else if -(n : Int) <= i then some (i + n).toNat else none
def atI {α : Type} (xs : List α) (i : Int) : Option α:=(ixN xs.length i).bind fun j=>xs[j]?
theorem ixN_seq {n : Nat} {i : Int} {j : Nat} (h : ixN n i = some j) : seqIndex? i n = some j /\ j < n /\ -(n : Int) <= i /\ i < n:=by
  unfold ixN at h
  by_cases h0 : 0 <= i
  · rw [if_pos h0] at h
    by_cases h1 : i < n
    · rw [if_pos h1] at h
      have e : i.toNat = j:=Option.some.inj h
      exact ⟨by rw [seqIndex_of h0 h1,e],by omega,by omega,h1⟩
    · rw [if_neg h1] at h; cases h
  · rw [if_neg h0] at h
    by_cases h1 : -(n : Int) <= i
    · rw [if_pos h1] at h
      have e : (i + n).toNat = j:=Option.some.inj h
      exact ⟨by rw [seqIndex_neg (by omega) h1,e],by omega,h1,by omega⟩
    · rw [if_neg h1] at h; cases h
theorem atI_get {α : Type} {xs : List α} {i : Int} {v : α} (h : atI xs i = some v) : ∃ j,seqIndex? i xs.length = some j /\ xs[j]? = some v /\ j < xs.length /\ -(xs.length : Int) <= i /\ i < xs.length:=by
  unfold atI at h
  cases e : ixN xs.length i with
  | none=>rw [e] at h; cases h
  | some j=>
    rw [e] at h
    obtain ⟨h1,h2,h3,h4⟩:=ixN_seq e
    exact ⟨j,h1,h,h2,h3,h4⟩
def PlainIx (b : Expr) : Prop:=∀ o i,subscripted b false o i = operate [o,i] (getItem o i)
def IxR (X : Cx) (r : R2) : Prop:=
  ∀ (value slice : Expr) (pins : List (Addr × Obj)) (s : Shared) (σ : St) (H : Hp) (x y : V) (v u : Value) (Q : VK),Inv X pins σ H s -> RelV x v -> RelV y u -> r x y H Q ->
    subscripted slice false v u = operate [v,u] (getItem v u) -> wpAny (model X.prog X.w) X.A (subscriptTail value slice v u) (EP X pins σ Q) X.xe s
def MtR (X : Cx) (id : String) (r : V -> List V -> Hp -> VK -> Prop) : Prop:=
  ∀ (pins : List (Addr × Obj)) (s : Shared) (σ : St) (H : Hp) (x : V) (xs : List V) (v : Value) (us : List Value) (Q : VK),Inv X pins σ H s -> RelV x v -> Vals xs us -> r x xs H Q ->
    wpAny (model X.prog X.w) X.A (call (.builtin id) (v :: us)) (EP X pins σ Q) X.xe s
section
variable {X : Cx} {a b : Expr} {ta tb : TE} {pos : Pos}
theorem IxR.or {r r' : R2} (h : IxR X r) (h' : IxR X r') : IxR X (fun x y H Q=>r x y H Q \/ r' x y H Q):=by
  intro value slice pins s σ H x y v u Q I rx ry q hs
  rcases q with q | q
  · exact h value slice pins s σ H x y v u Q I rx ry q hs
  · exact h' value slice pins s σ H x y v u Q I rx ry q hs
theorem pe_ix {r : R2} (hr : IxR X r) (ha : PE X a ta) (hb : PE X b tb) (hs : PlainIx b) : PE X (.Subscript a b pos) (tOp r ta tb):=by
  intro pins s σ H Q I h
  exact Subscript_ (binT ha hb I h fun v u s2 x y H2 I2 rx ry q=>hr a b pins s2 σ H2 x y v u Q I2 rx ry q (hs _ _))
def rIxL (K : PySem.W.Frag) : R2:=fun x y H Q=>∃ p xs i v,x = .ref p /\ y = .int i /\ SqL K H p xs /\ atI xs i = some v /\ Q v H
def rIxT (K : PySem.W.Frag) : R2:=fun x y H Q=>∃ p xs i v,x = .ref p /\ y = .int i /\ SqT K H p xs /\ atI xs i = some v /\ Q v H
def rIxS : R2:=fun x y H Q=>∃ z i c,x = .str z /\ y = .int i /\ z.length <= sizeLine /\ atI z.cps.toList i = some c /\ Q (.str ⟨#[c]⟩) H
theorem ix_list : IxR X (rIxL X.K):=by
  intro value slice pins s σ H x y v u Q I rx ry h hs
  obtain ⟨p,xs,i,z,rfl,rfl,hq,he,q⟩:=h
  cases rx
  obtain ⟨t,rfl⟩:=ry
  obtain ⟨its,r,pl,hz⟩:=I.list hq
  obtain ⟨j,h1,h2,h3,h4,h5⟩:=atI_get he
  obtain ⟨w,ew,rw'⟩:=r.get h2
  have hl:=r.length
  have hn:=line63
  have fin : EP X pins σ Q w s:=⟨z,H,I,rw',q⟩
  by_cases h0 : 0 <= i
  · have hj : i.toNat = j:=by
      rw [seqIndex_of h0 h5] at h1
      exact Option.some.inj h1
    exact item_listR pl.isList h0 (by omega) (by rw [hj]; simpa using ew) fin hs
  · have hj : (i + (its.toArray.size : Int)).toNat = j:=by
      rw [seqIndex_neg (by omega) h4] at h1
      rw [List.size_toArray,<- hl]
      exact Option.some.inj h1
    exact subscriptTail_builtinR (x:=w) pl.isList.typeIs slot_list_getitem.lookup
      (wpAny_getItem_list_neg (Q:=fun r s'=>r = w /\ EP X pins σ Q r s') pl.isList (by omega) (by rw [List.size_toArray] <;> omega) (by omega) (by rw [hj]; simpa using ew) ⟨rfl,fin⟩) hs
theorem ix_tup : IxR X (rIxT X.K):=by
  intro value slice pins s σ H x y v u Q I rx ry h hs
  obtain ⟨p,xs,i,z,rfl,rfl,hq,he,q⟩:=h
  cases rx
  obtain ⟨t,rfl⟩:=ry
  obtain ⟨its,r,pl,hz⟩:=I.tuple hq
  obtain ⟨j,h1,h2,h3,h4,h5⟩:=atI_get he
  obtain ⟨w,ew,rw'⟩:=r.get h2
  have hl:=r.length
  have hn:=line63
  have fin : EP X pins σ Q w s:=⟨z,H,I,rw',q⟩
  exact subscriptTail_builtinR (x:=w) pl.typeIs slot_tuple_getitem.lookup
    (getItem_tuple (j:=j) (Q:=fun r s'=>r = w /\ EP X pins σ Q r s') pl (by omega) (by omega) (by rw [List.size_toArray,<- hl]; exact h1) (by simpa using ew) ⟨rfl,fin⟩) hs
theorem ix_str : IxR X rIxS:=by
  intro value slice pins s σ H x y v u Q I rx ry h hs
  obtain ⟨z,i,c,rfl,rfl,hz,he,q⟩:=h
  obtain ⟨t,rfl⟩:=rx
  obtain ⟨t',rfl⟩:=ry
  obtain ⟨j,h1,h2,h3,h4,h5⟩:=atI_get he
  have hl : z.cps.toList.length = z.length:=by simp [Str.length]
  rw [hl] at h1 h4 h5
  have hn:=line63
  exact tail_any (typeIs_str s z t) slot_str_getitem.lookup (getItem_str (c:=c) (by
    have e1 : decide (i < -(2 ^ 63 : Int)) = false:=decide_eq_false (by omega)
    have e2 : decide (i >= 2 ^ 63) = false:=decide_eq_false (by omega)
    rw [e1,e2,Bool.or_false]) (by rw [h1]; simpa using h2) ⟨.str ⟨#[c]⟩,H,I.tok _,⟨_,rfl⟩,q⟩) hs
def rIx (K : PySem.W.Frag) : R2:=fun x y H Q=>rIxL K x y H Q \/ rIxT K x y H Q \/ rIxS x y H Q
theorem ix_seq : IxR X (rIx X.K):=ix_list.or (ix_tup.or ix_str)
theorem mapSeq_set (its : List Value) (n j : Nat) (u : Value) : Obj.mapSeq (·.setIfInBounds j u) { cls:=.type "list",data:=.seq its.toArray n } = { cls:=.type "list",data:=.seq (its.set j u).toArray n }:=by
  simp [Obj.mapSeq]
theorem Inv.lst {pins : List (Addr × Obj)} {σ : St} {H : Hp} {s : Shared} {p : Addr} {xs : List V} (I : Inv X pins σ H s) (h : H p = some (.lst xs)) :
    ∃ (its : List Value) (n : Nat),Vals xs its /\ s.heap.get? p = some { cls:=.type "list",data:=.seq its.toArray n } /\ xs.length <= sizeLine:=by
  obtain ⟨z,its,n,r,e⟩:=I.hok p _ h
  exact ⟨its,n,r,e,z⟩
theorem Inv.lstUpd {pins : List (Addr × Obj)} {σ : St} {H : Hp} {s : Shared} {p : Addr} {xs ys : List V} {its its' : List Value} {n n' : Nat} {f : Obj -> Obj} (I : Inv X pins σ H s) (h : H p = some (.lst xs))
    (ho : s.heap.get? p = some { cls:=.type "list",data:=.seq its.toArray n }) (hf : f { cls:=.type "list",data:=.seq its.toArray n } = { cls:=.type "list",data:=.seq its'.toArray n' }) (r : Vals ys its') (hz : ys.length <= sizeLine) (t : Nat) :
    Inv X pins σ (upd H p (.lst ys)) { s with heap:=s.heap.update p f,toks:=t }:=by
  have e : (s.heap.update p f).get? p = some { cls:=.type "list",data:=.seq its'.toArray n' }:=by
    rw [Heap.get?_update_self f ho (by rw [hf] <;> rfl),hf]
  refine I.write (x:=p) (e:=p) (by rw [h]; trivial) (.inl rfl) (fun b u hb q=>(Heap.get?_update_other _ _ (Ne.symm hb)).trans q) ⟨_,e⟩ ?_
  exact ⟨hz,its',n',r,e⟩
def rSetL : V -> V -> V -> Hp -> (Hp -> Prop) -> Prop:=fun o i v H Q=>∃ p xs k j,o = .ref p /\ i = .int k /\ H p = some (.lst xs) /\ ixN xs.length k = some j /\ Q (upd H p (.lst (xs.set j v)))
theorem set_list : PSet X rSetL:=by
  intro pins s σ H o i v ov iv u Q I ro ri rv h
  obtain ⟨p,xs,k,j,rfl,rfl,hp,hj,q⟩:=h
  cases ro
  obtain ⟨t,rfl⟩:=ri
  obtain ⟨its,n,r,ho,hz⟩:=I.lst hp
  obtain ⟨h1,h2,h3,h4⟩:=ixN_seq hj
  have hl:=r.length
  have hn:=line63
  have I' : Inv X pins σ (upd H p (.lst (xs.set j v))) { s with heap:=s.heap.update p (Obj.mapSeq (·.setIfInBounds j u)) }:=
    I.lstUpd hp ho (mapSeq_set its n j u) (r.set rv j) (by rw [List.length_set]; exact hz) s.toks
  by_cases h0 : 0 <= k
  · have hk : k.toNat = j:=by
      rw [seqIndex_of h0 h4] at h1
      exact Option.some.inj h1
    exact PySem.W.ki_setAt ho h0 (by omega) (by rw [List.size_toArray,<- hl]; exact h4) (by rw [hk]; exact ⟨_,I',q⟩)
  · have hk : (k + (its.toArray.size : Int)).toNat = j:=by
      rw [seqIndex_neg (by omega) h3] at h1
      rw [List.size_toArray,<- hl]
      exact Option.some.inj h1
    exact PySem.W.ki_setBack ho (by omega) (by rw [List.size_toArray,<- hl]; exact h3) (by omega) (by rw [hk]; exact ⟨_,I',q⟩)
theorem slice_bounds (lo hi : Option Int) (n : Nat) : (sliceBounds lo hi none n).1 = ((HT.sIx n 0 lo : Nat) : Int) /\ (sliceBounds lo hi none n).2.1 = ((HT.sIx n n hi : Nat) : Int) /\ (sliceBounds lo hi none n).2.2 = 1:=by
  refine ⟨?_,?_,rfl⟩
  · cases lo with
    | none=>simp [sliceBounds,HT.sIx]
    | some i=>
      simp only [sliceBounds,HT.sIx,Option.getD_none,show (1 : Int) > 0 by decide,if_true]
      by_cases h : i < 0
      · simp only [h,if_true] <;> omega
      · simp only [h,if_false] <;> omega
  · cases hi with
    | none=>simp [sliceBounds,HT.sIx]
    | some i=>
      simp only [sliceBounds,HT.sIx,Option.getD_none,show (1 : Int) > 0 by decide,if_true]
      by_cases h : i < 0
      · simp only [h,if_true] <;> omega
      · simp only [h,if_false] <;> omega
theorem slicePick_cut (its : List Value) (lo hi : Option Int) : slicePick its.toArray lo hi none = ((its.drop (HT.sIx its.length 0 lo)).take (HT.sIx its.length its.length hi - HT.sIx its.length 0 lo)).toArray:=by
  obtain ⟨h1,h2,h3⟩:=slice_bounds lo hi its.toArray.size
  unfold slicePick
  rw [h1,h2,h3]
  simp only [sliceRange_one,pick_run,List.size_toArray] <;> rfl
def rSlL (K : PySem.W.Frag) : V -> Option Int -> Option Int -> Hp -> VK -> Prop:=fun x lo hi H Q=>∃ a xs,x = .ref a /\ SqL K H a xs /\ ∀ p,H p = none -> Q (.ref p) (upd H p (.lst (cutV xs lo hi)))
theorem sl_list : SlR X (rSlL X.K):=by
  intro pins s σ H x v vl vu lo hi sl Q I rx hs pl pu h
  obtain ⟨a,xs,rfl,hx,q⟩:=h
  cases rx
  obtain ⟨its,r,ht,hz⟩:=I.list hx
  have hlen:=r.length
  refine ⟨"list",_,slot_list_getitem.lookup,ht.isList.typeIs,?_⟩
  refine wpAny_getItem_list_slice ht.isList hs pl pu .none (by simp) ?_ (by rw [List.size_toArray] <;> omega)
  rw [slicePick_cut,<- hlen]
  refine ⟨.ref s.heap.objs.size,_,I.laid (t':=s.toks) (o:=.lst (cutV xs lo hi)) (fun b ob q=>Heap.get?_push_of_some _ q) (Nat.le_refl _) ?_,rfl,q _ (I.hok.fresh (Nat.le_refl _))⟩
  exact ⟨Nat.le_trans (cutV_length xs lo hi) hz,_,0,(r.drop (HT.sIx xs.length 0 lo)).take (HT.sIx xs.length xs.length hi - HT.sIx xs.length 0 lo),Heap.get?_push_size _ rfl⟩
theorem call_len_seq : CallR X (.builtin "len") (fun xs H Q=>∃ p ys,xs = [.ref p] /\ (SqL X.K H p ys \/ SqT X.K H p ys) /\ Q (.int ys.length) H):=by
  intro pins s σ H xs us Q I r h
  obtain ⟨p,ys,rfl,hq,q⟩:=h
  obtain ⟨u,rfl,rx⟩:=vals1 r
  cases rx
  have hn:=line63
  rcases hq with hq | hq
  · obtain ⟨its,r',pl,hz⟩:=I.list hq
    have hlen:=r'.length
    exact Calls.call_len_list pl.isList (by simp only [List.size_toArray] <;> omega) ⟨.int ys.length,H,I.tok _,⟨s.toks + 1,by rw [List.size_toArray,hlen]⟩,q⟩
  · obtain ⟨its,r',pl,hz⟩:=I.tuple hq
    have hlen:=r'.length
    exact len_tuple pl (by simp only [List.size_toArray] <;> omega) ⟨.int ys.length,H,I.tok _,⟨s.toks + 1,by rw [List.size_toArray,hlen]⟩,q⟩
theorem call_len_str : CallR X (.builtin "len") (fun xs H Q=>∃ z,xs = [.str z] /\ z.length <= sizeLine /\ Q (.int z.length) H):=by
  intro pins s σ H xs us Q I r h
  obtain ⟨z,rfl,hz,q⟩:=h
  obtain ⟨u,rfl,t,rfl⟩:=vals1 r
  have hn:=line63
  exact len_str (by omega) ⟨.int z.length,H,I.tok _,⟨_,rfl⟩,q⟩
theorem call_tuple_of : CallR X (.type "tuple") (fun xs H Q=>∃ p ys,xs = [.ref p] /\ ((SqL X.K H p ys /\ ∀ l,H l = none -> Q (.ref l) (upd H l (.tup ys))) \/ (SqT X.K H p ys /\ Q (.ref p) H))):=by
  intro pins s σ H xs us Q I r h
  obtain ⟨p,ys,rfl,h⟩:=h
  obtain ⟨u,rfl,rx⟩:=vals1 r
  cases rx
  rcases h with ⟨hq,q⟩ | ⟨hq,q⟩
  · obtain ⟨its,r',pl,hz⟩:=I.list hq
    have hlen:=r'.length
    refine call_tuple_list pl.isList (fun h' kp=>?_) (by simp only [List.size_toArray] <;> omega)
    have I1 : Inv X pins σ H { s with heap:=h' }:=I.kept (t':=s.toks) kp
    have I2 : Inv X pins σ (upd H h'.objs.size (.tup ys)) { s with heap:=h'.push { cls:=.type "tuple",data:=.seq its.toArray } }:=
      I1.laid (t':=s.toks) (fun b o e=>Heap.get?_push_of_some _ e) (Nat.le_refl _) (show ObjOk X.prog X.w _ _ _ (.tup ys) from ⟨hz,its,r',IsTup.new _ _⟩)
    exact ⟨.ref h'.objs.size,_,I2,rfl,q _ (I1.hok.fresh (Nat.le_refl _))⟩
  · obtain ⟨its,r',pl,hz⟩:=I.tuple hq
    exact call_tuple_same pl ⟨.ref p,H,I,rfl,q⟩
def tyV (K : PySem.W.Frag) (T : String) (x : V) (H : Hp) : Prop:=match x with
  | .str _=>T = "str"
  | .int _=>T = "int"
  | .ref p=>(T = "list" /\ ∃ xs,SqL K H p xs) \/ (T = "tuple" /\ ∃ o,K.lookup p = some o /\ o.cls = .type "tuple" /\ o.dict = none) \/
      (T = "dict" /\ ((∃ kvs,H p = some (.dK kvs)) \/ ∃ kvs,H p = some (.dT kvs))) \/ (T = "set" /\ ∃ S n,H p = some (.set S n))
  | _=>False
theorem tyV_is {pins : List (Addr × Obj)} {σ : St} {H : Hp} {s : Shared} {T : String} {x : V} {v : Value} (I : Inv X pins σ H s) (r : RelV x v) (ty : tyV X.K T x H) :
    s.TypeIs v T /\ ∀ a,v = .ref a -> ∃ ob,s.heap.get? a = some ob /\ ob.dict = none:=by
  cases x with
  | str z=>
    obtain ⟨t,rfl⟩:=r
    cases (show T = "str" from ty)
    exact ⟨typeIs_str s z t,fun _ e=>nomatch e⟩
  | int i=>
    obtain ⟨t,rfl⟩:=r
    cases (show T = "int" from ty)
    exact ⟨typeIs_int s i t,fun _ e=>nomatch e⟩
  | ref p=>
    cases r
    rcases ty with ⟨rfl,xs,hq⟩ | ⟨rfl,o,hk,hc,hd⟩ | ⟨rfl,hk⟩ | ⟨rfl,S,n,hk⟩
    · obtain ⟨its,_,pl,_⟩:=I.list hq
      refine ⟨pl.isList.typeIs,fun a e=>?_⟩
      cases e
      obtain ⟨o,n,e,c,hd,_⟩:=pl
      exact ⟨o,e,hd⟩
    · refine ⟨⟨o,I.kIn p o hk,hc⟩,fun a e=>?_⟩
      cases e
      exact ⟨o,I.kIn _ o hk,hd⟩
    · have z : ∃ o,s.heap.get? p = some o /\ o.ExactDict:=by
        rcases hk with ⟨kvs,hk⟩ | ⟨kvs,hk⟩
        · obtain ⟨_,_,_,_,o,_,_,e,ex,_⟩:=I.hok p _ hk
          exact ⟨o,e,ex⟩
        · obtain ⟨_,_,_,_,o,_,_,e,ex,_⟩:=I.hok p _ hk
          exact ⟨o,e,ex⟩
      obtain ⟨o,e,ex⟩:=z
      refine ⟨⟨o,e,ex.1⟩,fun a e2=>?_⟩
      cases e2
      exact ⟨o,e,ex.2.1⟩
    · obtain ⟨o,_,_,_,e,ex,_⟩:=I.hok p _ hk
      refine ⟨⟨o,e,ex.1⟩,fun a e2=>?_⟩
      cases e2
      exact ⟨o,e,ex.2.1⟩
  | _=>exact False.elim ty
def tBM (K : PySem.W.Frag) (T : String) (r : V -> List V -> Hp -> VK -> Prop) (to : TE) (t : TA) : TE:=fun σ H Q=>to σ H fun x H1=>tyV K T x H1 /\ t σ H1 fun xs H2=>r x xs H2 Q
variable {o e : Expr} {es : List Expr} {to : TE} {t : TA} {name : Str} {apos cpos : Pos} {T id : String} {r : V -> List V -> Hp -> VK -> Prop}
theorem pe_bm (pa : PlainAttrs T) (slot : Slot T name id) (hty : typeOf (.builtin id) = pure (.type "method_descriptor")) (hm : MtR X id r) (ho : PE X o to) (ha : PA X (e :: es) t)
    (hbase : attributeBase o name X.env (eval o X.env) = eval o X.env:=by rfl)
    (hfew : ((backTo cpos (starEach (e :: es) X.env)).all (fun x=>!x.1) && (backToKw cpos (keywordEach [] X.env)).all (fun x=>x.1.isSome)
      && decide ((e :: es).length + ([] : List Keyword).length + (if ([] : List Keyword).isEmpty then 0 else 1) < 30)) = true:=by rfl)
    (hline : (apos.endLine == cpos.line) = true:=by rfl) (hs : starEach (e :: es) X.env = (false,eval e X.env) :: starEach es X.env:=by rfl) (hplain : (backTo cpos (starEach es X.env)).any (·.1) = false:=by rfl) :
    PE X (.Call (.Attribute o name apos) (e :: es) [] cpos) (tBM X.K T r to t):=by
  intro pins s σ H Q I h
  refine wpAny_Call_method_late hbase hfew hline rfl (thn (ho pins s σ H _ I h) fun v s1 ⟨x,H1,I1,r1,ty,q1⟩=>?_)
  obtain ⟨h1,h2⟩:=tyV_is I1 r1 ty
  refine ⟨T,id,pa,slot,hty,h1,h2,?_⟩
  have hA:=ha cpos pins s1 σ H1 _ I1 q1
  rw [hs] at hA ⊢
  refine Calls.callWith_builtin (by show (false || (backTo cpos (starEach es X.env)).any (·.1)) = false; rw [hplain] <;> rfl) (Calls.evalArgs_plain ?_)
  exact thn hA fun us s2 ⟨vs,H2,I2,r2,q2⟩=>hm pins s2 σ H2 x vs v us Q I2 r1 r2 q2
end
end L2
namespace L2
open PySem PySem.Spec PyProof.Rows
def MtM (X : Cx) (id : String) (r : V -> List V -> Hp -> VK -> Prop) : Prop:=
  ∀ (pins : List (Addr × Obj)) (s : Shared) (σ : St) (H : Hp) (x : V) (xs : List V) (v : Value) (us : List Value) (Q : VK),Inv X pins σ H s -> RelV x v -> Vals xs us -> r x xs H Q ->
    wpAny (model X.prog X.w) X.A (call (.builtin id) (v :: us)) (EP X pins σ Q) X.xe s
theorem Vals.one : ∀ {x : V} {us : List Value},Vals [x] us -> ∃ u,us = [u] /\ RelV x u
  | _,_,.cons r .nil=>⟨_,rfl,r⟩
theorem Vals.rep {xs : List V} {us : List Value} (h : Vals xs us) : ∀ k : Nat,Vals (List.replicate k xs).flatten (List.replicate k us).flatten
  | 0=>.nil
  | k + 1=>by
    rw [List.replicate_succ,List.replicate_succ,List.flatten_cons,List.flatten_cons]
    exact Vals.append h (Vals.rep h k)
theorem foldl_rep (its : List Value) : ∀ (k : Nat) (acc : List Value),
    List.foldl (fun x1 x2=>x1 ++ x2) acc.toArray (List.replicate k its.toArray) = (acc ++ (List.replicate k its).flatten).toArray
  | 0,acc=>by simp
  | k + 1,acc=>by
    have e : acc.toArray ++ its.toArray = (acc ++ its).toArray:=by simp
    have e2 : (acc ++ its) ++ (List.replicate k its).flatten = acc ++ (List.replicate (k + 1) its).flatten:=by
      rw [List.replicate_succ,List.flatten_cons,List.append_assoc]
    rw [<- e2,<- foldl_rep its k (acc ++ its),<- e,List.replicate_succ,List.foldl_cons]
section
variable {X : Cx} {pins : List (Addr × Obj)} {σ : St} {H : Hp} {s : Shared} {l b : Addr} {xs ys zs : List V}
theorem Inv.lset {its its' : List Value} {n : Nat} {f : Array Value -> Array Value} {t' : Nat} (I : Inv X pins σ H s) (hH : H l = some (.lst xs))
    (e : s.heap.get? l = some { cls:=.type "list",data:=.seq its.toArray n }) (hf : f its.toArray = its'.toArray) (hv : Vals ys its') (hz : ys.length <= sizeLine) :
    Inv X pins σ (upd H l (.lst ys)) { s with heap:=s.heap.update l (Obj.mapSeq f),toks:=t' }:=by
  have q:=PySem.IsL.update e f
  rw [hf] at q
  refine I.write (x:=l) (e:=l) (by rw [hH]; exact trivial) (.inl rfl) (fun b' u hb hu=>(Heap.get?_update_other s.heap (Obj.mapSeq f) (Ne.symm hb)).trans hu) ⟨_,q⟩ ?_
  exact ⟨hz,its',_,hv,q⟩
theorem Inv.lnew {its : List Value} {t' : Nat} (I : Inv X pins σ H s) (hv : Vals ys its) (hz : ys.length <= sizeLine) :
    Inv X pins σ (upd H s.heap.objs.size (.lst ys)) { s with heap:=s.heap.push { cls:=.type "list",data:=.seq its.toArray },toks:=t' }:=
  I.laid (fun _ _ q=>Heap.get?_push_of_some _ q) (Nat.le_refl _) ⟨hz,its,0,hv,Heap.get?_push_size _ rfl⟩
theorem Inv.fresh (I : Inv X pins σ H s) : H s.heap.objs.size = none:=I.hok.fresh (Nat.le_refl _)
theorem Inv.lstM (I : Inv X pins σ H s) (hH : H l = some (.lst xs)) : xs.length <= sizeLine /\ ∃ (its : List Value) (n : Nat),Vals xs its /\ xs.length = its.length /\ s.heap.get? l = some { cls:=.type "list",data:=.seq its.toArray n }:=by
  obtain ⟨z,its,n,r,e⟩:=I.hok l _ hH
  exact ⟨z,its,n,r,r.length,e⟩
theorem notLongL {n : Nat} (h : n <= sizeLine) : Builtin.List.listTooLong n = false:=by
  unfold Builtin.List.listTooLong
  exact decide_eq_false (by omega)
end
section
variable {X : Cx}
def rAppend : V -> List V -> Hp -> VK -> Prop:=fun x vs H Q=>∃ l xs y,x = .ref l /\ vs = [y] /\ H l = some (.lst xs) /\ xs.length < sizeLine /\ Q .non (upd H l (.lst (xs ++ [y])))
theorem mt_append : MtM X "list.append" rAppend:=by
  intro pins s σ H x vs v us Q I rx rv h
  obtain ⟨l,xs,y,rfl,rfl,hH,hz,q⟩:=h
  cases rx
  obtain ⟨u,rfl,ru⟩:=rv.one
  obtain ⟨z,its,n,r,hl,e⟩:=I.lstM hH
  refine call_meets F.slot_list_append ⟨_,e,rfl⟩ F.entry_list_append (F.args_list_append_2 _ _) (PySem.list_append l its.toArray n u (by rw [List.size_toArray]; omega)) ⟨e,?_⟩
  refine ⟨.non,_,I.lset (its':=its ++ [u]) hH e (by simp) (r.append (.cons ru .nil)) ?_,rfl,q⟩
  rw [List.length_append,List.length_singleton]
  omega
def rCat : R2:=fun x y H Q=>∃ l b xs zs,x = .ref l /\ y = .ref b /\ H l = some (.lst xs) /\ H b = some (.lst zs) /\ xs.length + zs.length <= sizeLine /\ ∀ p,H p = none -> Q (.ref p) (upd H p (.lst (xs ++ zs)))
theorem op_cat : OpR X (binaryOp .Add) rCat:=by
  intro pins s σ H x y v u Q I rx ry h
  obtain ⟨l,b,xs,zs,rfl,rfl,hH,hB,hz,q⟩:=h
  cases rx
  cases ry
  obtain ⟨z,its,n,r,hl,e⟩:=I.lstM hH
  obtain ⟨z2,its2,n2,r2,hl2,e2⟩:=I.lstM hB
  refine PySem.P.add_list e e2 ?_ (by rw [List.size_toArray,List.size_toArray]; omega)
  have ea : its.toArray ++ its2.toArray = (its ++ its2).toArray:=by simp
  rw [ea]
  exact ⟨.ref _,_,I.lnew (t':=s.toks) (r.append r2) (by rw [List.length_append]; omega),rfl,q _ I.fresh⟩
def rRep : R2:=fun x y H Q=>∃ l k xs,x = .ref l /\ y = .int k /\ H l = some (.lst xs) /\ -(2 ^ 63) <= k /\ k < 2 ^ 63 /\ xs.length * k.toNat <= sizeLine /\
  ∀ p,H p = none -> Q (.ref p) (upd H p (.lst (List.replicate k.toNat xs).flatten))
theorem len_rep {α : Type} (xs : List α) (k : Nat) : (List.replicate k xs).flatten.length = k * xs.length:=by
  induction k with
  | zero=>simp
  | succ k ih=>rw [List.replicate_succ,List.flatten_cons,List.length_append,ih,Nat.succ_mul,Nat.add_comm]
theorem op_rep : OpR X (binaryOp .Mult) rRep:=by
  intro pins s σ H x y v u Q I rx ry h
  obtain ⟨l,k,xs,rfl,rfl,hH,h1,h2,hz,q⟩:=h
  cases rx
  obtain ⟨t,rfl⟩:=ry
  obtain ⟨z,its,n,r,hl,e⟩:=I.lstM hH
  have hlen : its.toArray.size * k.toNat <= sizeLine:=by rw [List.size_toArray,<- hl]; exact hz
  have hcap : ¬ its.toArray.size * k.toNat > (2 ^ 63 - 1) / 8:=by
    have : (sizeLine : Nat) <= (2 ^ 63 - 1) / 8:=by decide
    omega
  have hfit : ¬ (!Builtin.List.listFitsIndex k) = true:=by
    rw [fitsIndex_both h1 h2]
    exact Bool.false_ne_true
  have hlong : ¬ Builtin.List.listTooLong (its.toArray.size * k.toNat) = true:=by
    rw [notLongL hlen]
    exact Bool.false_ne_true
  have hnew : List.foldl (fun x1 x2=>x1 ++ x2) #[] (List.replicate (if its.toArray.isEmpty = true then 0 else k.toNat) its.toArray) = (List.replicate k.toNat its).flatten.toArray:=by
    have f0 : ∀ m : Nat,List.foldl (fun x1 x2=>x1 ++ x2) #[] (List.replicate m its.toArray) = (List.replicate m its).flatten.toArray:=fun m=>by
      have:=foldl_rep its m []
      rw [List.nil_append] at this
      exact this
    rw [f0]
    cases its with
    | nil=>simp
    | cons a r'=>rw [if_neg (by simp)]
  refine wpAny_binaryOp_repeat_ref (T := "list") (U := "int") (by decide) ⟨_,e,rfl⟩ (fun s'=>typeIs_int s' k t) noFill_list_mul F.fills_int_mul F.slot_int_rmul repeat_list F.slot_int_index.lookup
    (call_meets F.slot_int_rmul (typeIs_int s k t) F.entry_int_rmul (F.args_int_rmul_2 _ _) (int___rmul___int_list k t l its.toArray n)
      ⟨e,rfl,⟨_,e,rfl⟩,call_meets F.slot_list_mul ⟨_,e,rfl⟩ F.entry_list_mul (F.args_list_mul_2 _ _) (AutoListH.list___mul___list_int_3 l its.toArray n k t hfit hcap hlong) ⟨e,?_⟩⟩)
  rw [hnew]
  exact ⟨.ref _,_,I.lnew (t':=s.toks) (r.rep k.toNat) (by rw [len_rep,Nat.mul_comm]; exact hz),rfl,q _ I.fresh⟩
end
end L2
namespace Att
open PySem PySem.W PySem.Calls PyProof.Rows
theorem ints_of_wellAll {P : Params} {h : Heap} : ∀ (ns : List Int) (vs : List Value),WellAll P h vs (ns.map WData.int) -> IntsAre vs ns:=by
  intro ns
  induction ns with
  | nil=>
    intro vs w
    rw [List.map_nil] at w
    cases w
    exact .nil
  | cons n ns ih=>
    intro vs w
    rw [List.map_cons] at w
    cases w with
    | cons a b=>
      cases a
      exact .cons _ _ (ih _ b)
theorem script_of {l : OpenLaw} {n : Nat} (hn : l.most = some n) {P : Params} {h : Heap} {args : List WData} {vals : List Value}
    (hpre : l.row.toRowW.claim.pre args = true) (hwl : WellAll P h vals args) :
    ∃ a vs ns,vals = [Value.ref a] /\ args = [WData.list (ns.map WData.int)] /\ h.get? a = some { cls:=.type "list",data:=.seq vs.toArray } /\ IntsAre vs ns /\ ns.length <= n:=by
  have hsh : WShape.hasAll [] args [.list .int] = true:=(pre_splitW hpre).1
  have hc : l.pre.holds [] { args:=args } = true:=(pre_splitW hpre).2
  obtain ⟨d,r,rfl,h1,h2⟩:=hasAllW_cons hsh
  obtain rfl:=hasAllW_nil h2
  obtain ⟨xs,rfl,h3⟩:=hasW_list h1
  obtain ⟨ns,rfl⟩:=items_int h3
  have hlen : ns.length <= n:=by
    unfold OpenLaw.pre at hc
    have h4 : (WTm.not (.lt (.lit (.int (n : Int))) (.len (.arg 0)))).holds [] { args:=[.list (ns.map .int)] } = true:=by
      have h4:=(holds_andW hc).1
      rw [hn] at h4
      exact h4
    have h5:=condW_of h4 (w_not (w_lt w_lit (w_len_list (w_arg rfl))))
    rw [List.length_map] at h5
    refine Nat.le_of_not_lt fun q=>?_
    have q' : (n : Int) < ((ns.length : Nat) : Int):=by omega
    first
      | (rw [decide_eq_true q'] at h5; exact absurd h5 (by decide))
      | (simp at h5; omega)
  cases hwl with
  | cons w1 w2=>
    cases w2
    cases w1 with
    | list ho hall=>exact ⟨_,_,ns,rfl,rfl,ho,ints_of_wellAll ns _ hall,hlen⟩
theorem post_true (l : OpenLaw) (args : List WData) : l.row.toRowW.claim.post args (.bool true) args = true:=
  postW_of (r:=l.row.toRowW) (X:=(true == true))
    (show WShape.has [] (.bool true) .bool = true by first | rfl | decide | simp [WShape.has,WShape.arms,WShape.armsAll])
    (show (WTm.eq .res (.lit (.bool true))).value [] { args:=args,res:=some (.bool true),after:=args } = some (.bool (true == true)) from w_eq_bool (w_res rfl) w_lit) rfl
theorem attach_call {l : OpenLaw} {n : Nat} {q : Program} {loose : List Str} {XP : (Str -> Option Value) -> Heap -> Prop} {YP : World -> Heap -> Prop} {d : DefRec}
    (hn : l.most = some n) (hdf : d.params.defaults = [])
    (call : ∀ (w : World) (s₀ s₁ : Shared) (mg mb : Str -> Option Value) (fa : Addr) (o : Obj) (pm cd doc : Value) (a : Addr) (vs : List Value) (ns : List Int),
      Ground q loose [] XP w s₀ mg mb s₁.heap -> YP w s₁.heap ->
      s₁.heap.get? fa = some o -> o.data = .func (docDef d.name d.params d.body d.scope pm cd doc) -> s₁.heap.CodeRec cd d.name -> mg d.name = some (.ref fa) ->
      s₁.heap.get? a = some { cls:=.type "list",data:=.seq vs.toArray } -> IntsAre vs ns -> ns.length <= n -> s₁.gens = #[] ->
      codeAny (model l.prog w) callerA (.call (.ref fa) ⟨[.ref a],[]⟩) (fun r s'=>r = .ok (.ret (.bool true)) /\ OldK s₁.heap s'.heap /\ s'.os = s₁.os /\ AllBare s'.gens) s₁) :
    WalkO q loose XP YP l.row.toRowW d [] (fun f vs=>PySem.call f vs):=by
  intro w s₀ s₁ mg mb G Y fa o pm cd doc dV kV ho hd hcd hD hmg hg args vals as hpre hlay hrd hwl hlo
  obtain rfl : dV = .none:=Dflts.none hD hdf
  obtain rfl : kV = .none:=Dflts.noKw hD
  obtain ⟨a,vs,ns,rfl,rfl,hobj,hints,hlen⟩:=script_of hn hpre hwl
  refine enter_call (codeAny_mono (call w s₀ s₁ mg mb fa o pm cd doc a vs ns G Y ho (fd_plain hd) hcd hmg hobj hints hlen hg) fun r s' hq=>?_)
  obtain ⟨rfl,h2,h3,h4⟩:=hq
  exact ⟨.inl ⟨.bool true,.bool true,[],rfl,fun _=>rfl,.bool true,post_true l _,fun _=>⟨List.Pairwise.nil,fun _ hm=>(nomatch hm)⟩⟩,h2,h3,h4⟩
end Att
namespace L2
open PySem PySem.Spec PyProof.Rows
theorem vals_ints : ∀ {vs : List Value} {ns : List Int},IntsAre vs ns -> Vals (ns.map V.int) vs
  | _,_,.nil=>.nil
  | _,_,.cons n t h=>.cons ⟨t,rfl⟩ (vals_ints h)
def Only (H : Hp) : Prop:=∀ b,H b = none \/ ∃ o xs,H b = some (.frz o (.lst xs))
theorem law_call {P : Program} {w : World} {K : PySem.W.Frag} {mg mb : Str -> Option Value} {CX : CXT} {k : Nat} {fa a : Addr} {fd : FuncData} {x : Str} {sp : Sp} {s₁ : Shared} {vs : List Value} {ns : List Int}
    (KX : K.In s₁.heap) (hns : s₁.heap.Ns mainGlobals mg) (hb : s₁.heap.Ns builtinsNs mb) (hbb : ∀ x : Str,x ≠ "__name__" -> mb x = bootBuiltins x) (hlim : s₁.heap.NoLimit) (hg : s₁.gens = #[])
    (ha : s₁.heap.get? a = some { cls:=.type "list",data:=.seq vs.toArray }) (hi : IntsAre vs ns) (hl : ns.length <= sizeLine) (hr : Room k callerA)
    (F : ∀ base : Heap,K.In base -> base.Ns mainGlobals mg -> FnOk P w K mg base CX k fa fd [x] sp) (hbind : ∀ (s : Shared) (u : Value),BindsTo s fd ⟨[u],[]⟩ [(x,u)])
    (hsp : ∀ H : Hp,Only H -> SqL K H a (ns.map V.int) -> sp [.ref a] H (fun v _=>v = .bl true) fun _ _ _=>False)
    (hCX : ∀ H e s',CX [] H s₁ (fun _ _ _=>False) e s' -> False) :
    codeAny (model P w) callerA (.call (.ref fa) ⟨[.ref a],[]⟩) (fun r s'=>r = .ok (.ret (.bool true)) /\ OldK s₁.heap s'.heap /\ s'.os = s₁.os /\ AllBare s'.gens) s₁:=by
  have rv:=vals_ints hi
  have lenV:=hi.length
  have core : ∀ H : Hp,Only H -> SqL K H a (ns.map V.int) -> HOk P w H s₁.heap -> (∀ b,H b ≠ none -> b = a) -> (H a ≠ none -> K.lookup a = none) ->
      codeAny (model P w) callerA (.call (.ref fa) ⟨[.ref a],[]⟩) (fun r s'=>r = .ok (.ret (.bool true)) /\ OldK s₁.heap s'.heap /\ s'.os = s₁.os /\ AllBare s'.gens) s₁:=by
    intro H hO hS hok hA hK
    have base_of : ∀ {b : Addr} {o : Obj},s₁.heap.get? b = some o -> H b = none -> (hidT s₁.heap H).get? b = some o:=fun e n=>hidT_get e n
    have noA : ∀ {b : Addr} {o : Obj} {es : Array DictEntry} {ep : Nat},s₁.heap.get? b = some o -> o.data = .dict es ep -> H b = none:=fun {b o es ep} e d=>by
      cases q : H b with
      | none=>rfl
      | some u=>
        have e' : b = a:=hA b (by rw [q]; simp)
        subst e'
        rw [ha] at e; cases e
        have d' : Data.seq vs.toArray _ = Data.dict es ep:=d
        cases d'
    have nsK : ∀ {b : Addr} {m : Str -> Option Value},s₁.heap.Ns b m -> (hidT s₁.heap H).Ns b m:=fun {b m} ⟨o,es,ep,e,d,r⟩=>⟨o,es,ep,base_of e (noA e d),d,r⟩
    have hKb : K.In (hidT s₁.heap H):=fun b o e=>base_of (KX b o e) (by
      cases q : H b with
      | none=>rfl
      | some u=>
        have e' : b = a:=hA b (by rw [q]; simp)
        subst e'
        rw [hK (by rw [q]; simp)] at e; cases e)
    have hM : Mod K mg (hidT s₁.heap H):=⟨hKb,nsK hns,⟨mb,nsK hb,hbb⟩,let ⟨mc,h1,h2⟩:=hlim; ⟨mc,nsK h1,h2⟩⟩
    have e0 : Env0 P w K mg (hidT s₁.heap H) callerA [] s₁ H:=⟨rfl,hM,fun b o e=>of_hidT e,Nat.le_of_eq (hidT_size _ _),trivial,fun b hb=>absurd (show b ∈ ([] : List Addr) from hb) (by simp),hok,.of_eq hg⟩
    refine codeAny_mono ((F _ hKb (nsK hns)).run callerA [] s₁ H ⟨[.ref a],[]⟩ [.ref a] [.ref a] _ _ hr e0 (hbind s₁ (.ref a)) (.cons rfl .nil) (hsp H hO hS)) fun r s' h=>?_
    cases r with
    | error e=>exact (hCX H e s' h).elim
    | ok fl=>
      cases fl with
      | next=>exact False.elim h
      | brk=>exact False.elim h
      | cont=>exact False.elim h
      | ret u=>
        obtain ⟨v,H',os,bare,un,hok',r',q⟩:=h
        have q' : v = .bl true:=q
        subst q'
        obtain rfl : u = Value.bool true:=r'
        refine ⟨rfl,OldK.of_keep fun b o e=>?_,os,bare⟩
        cases q : H b with
        | none=>exact un.keep b o e q (by intro z; exact absurd (show b ∈ ([] : List Addr) from z) (by simp)) (by simp)
        | some u=>
          rcases hO b with z | ⟨ob,xs,z⟩
          · rw [q] at z; cases z
          · have z2:=un.frzs b ob _ z
            obtain ⟨e1,_⟩:=hok b _ z
            obtain ⟨e2,_⟩:=hok' b _ z2
            rw [e] at e1; cases e1
            exact e2
  cases hk : K.lookup a with
  | some o=>
    have e:=KX a o hk
    rw [ha] at e
    cases e
    refine core (fun _=>none) (fun _=>.inl rfl) (.inr ⟨_,vs.toArray,_,hk,rfl,rfl,rfl,by rw [List.size_toArray,lenV]; exact hl,by simpa using rv⟩) (fun b u z=>by have z' : (none : Option HO) = some u:=z; cases z') (fun b z=>absurd rfl z) fun z=>absurd rfl z
  | none=>
    refine core (fun b=>if b = a then some (.frz { cls:=.type "list",data:=.seq vs.toArray } (.lst (ns.map V.int))) else none) (fun b=>?_) (.inl (.inr ⟨{ cls:=.type "list",data:=.seq vs.toArray },if_pos rfl⟩)) (fun b u z=>?_) (fun b z=>?_) fun _=>hk
    · by_cases hb : b = a
      · exact .inr ⟨_,_,if_pos hb⟩
      · exact .inl (if_neg hb)
    · by_cases hb : b = a
      · have z':=(if_pos hb).symm.trans z
        cases z'
        subst hb
        exact ⟨ha,by rw [List.length_map]; exact hl,vs,_,rv,ha⟩
      · have z':=(if_neg hb).symm.trans z
        cases z'
    · by_cases hb : b = a
      · exact hb
      · exact absurd (if_neg hb) z
end L2
namespace L2
open PySem PySem.Spec PyProof.Rows
theorem walk_of {l : PySem.W.OpenLaw} {n k : Nat} {q : Program} {loose : List Str} {XP : (Str -> Option Value) -> Heap -> Prop} {YP : World -> Heap -> Prop} {d : DefRec} {K : Params -> PySem.W.Frag} {CX : World -> CXT} {sp : World -> Sp} {x : Str}
    (hn : l.most = some n) (hn2 : n <= sizeLine) (hdf : d.params.defaults = []) (hr : Room k callerA)
    (hY : ∀ (w : World) (h : Heap),YP w h -> (K w.params).In h)
    (F : ∀ (w : World) (mg : Str -> Option Value) (fa : Addr) (h : Heap),(K w.params).In h -> h.Ns mainGlobals mg -> mg d.name = some (.ref fa) ->
      ∃ fd : FuncData,(∀ (s : Shared) (u : Value),BindsTo s fd ⟨[u],[]⟩ [(x,u)]) /\
        ∀ base : Heap,(K w.params).In base -> base.Ns mainGlobals mg -> FnOk l.prog w (K w.params) mg base (CX w) k fa fd [x] (sp w))
    (hsp : ∀ (w : World) (H : Hp) (a : Addr) (ns : List Int),ns.length <= n -> Only H -> SqL (K w.params) H a (ns.map V.int) -> sp w [.ref a] H (fun v _=>v = .bl true) fun _ _ _=>False)
    (hCX : ∀ (w : World) (H : Hp) (s : Shared) (e : Value) (s' : Shared),CX w [] H s (fun _ _ _=>False) e s' -> False) :
    PySem.W.WalkO q loose XP YP l.row.toRowW d [] (fun f vs=>PySem.call f vs):=by
  refine Att.attach_call hn hdf fun w s₀ s₁ mg mb fa o pm cd doc a vs ns G Y ho hd hcd hmg hobj hints hlen hg=>?_
  have KX:=hY w _ Y
  obtain ⟨fd,hb,hF⟩:=F w mg fa _ KX G.T.g hmg
  exact law_call KX G.T.g G.T.b G.T.builtins G.T.nolimit hg hobj hints (Nat.le_trans hlen hn2) hr hF hb (fun H hO hS=>hsp w H a ns hlen hO hS) fun H e s'=>hCX w H s₁ e s'
end L2
namespace L2
open PySem PySem.Spec PyProof.Rows
def defArgs (s : Stmt) : Arguments:=match s with
  | .FunctionDef _ a _ _ _ _ _ _ _ _=>a
  | _=>{ posonlyargs:=[],args:=[],vararg:=none,kwonlyargs:=[],kw_defaults:=[],kwarg:=none,defaults:=[] }
def defBody (s : Stmt) : List Stmt:=match s with
  | .FunctionDef _ _ b _ _ _ _ _ _ _=>b
  | _=>[]
def defScope (s : Stmt) : Scope:=match s with
  | .FunctionDef _ _ _ _ _ _ sc _ _ _=>sc
  | _=>{ kind:=.function,names:=[],isGenerator:=false,isCoroutine:=false }
abbrev E0 : XK:=fun _ _ _=>False
structure Fun (K : PySem.W.Frag) (x qual : Str) (st : Stmt) (f : Addr) (fd : FuncData) : Prop where
  ex : ∃ (oc : Value) (od : Option Addr) (kV doc pm : Value) (an : Option Addr) (cdv ct : Value) (osl : Array (Option Value)),
    fd = PySem.W.fnOf x qual (defArgs st) (defBody st) (defScope st) .none kV doc pm an cdv ct /\ K.lookup f = some ⟨oc,od,.func fd,osl⟩ /\ PySem.W.codeIn K cdv qual = true
  kp : PySem.W.keepIn K (.ref f) = true
section
variable {P : Program} {w : World} {K : PySem.W.Frag} {mg : Str -> Option Value} {base : Heap}
theorem Fun.binds {x qual : Str} {st : Stmt} {f : Addr} {fd : FuncData} {ps : List Str} (F : Fun K x qual st f fd)
    (h : ∀ (kV doc pm : Value) (an : Option Addr) (cdv ct : Value) (us : List Value),us.length = ps.length -> bindArgs (PySem.W.fnOf x qual (defArgs st) (defBody st) (defScope st) .none kV doc pm an cdv ct) ⟨us,[]⟩ = pure (ps.zip us)) : Binds K fd ps []:=by
  obtain ⟨oc,od,kV,doc,pm,an,cdv,ct,osl,rfl,lk,hcd⟩:=F.ex
  exact .all (h kV doc pm an cdv ct)
theorem fun_mk {x qual : Str} {st : Stmt} {f : Addr} {oc : Value} {od an : Option Addr} {osl : Array (Option Value)} {kV doc pm cdv ct : Value} (l : K.lookup f = some ⟨oc,od,.func (PySem.W.fnOf x qual (defArgs st) (defBody st) (defScope st) .none kV doc pm an cdv ct),osl⟩)
    (c : PySem.W.codeIn K cdv qual = true) (k : PySem.W.keepIn K (.ref f) = true) : Fun K x qual st f (PySem.W.fnOf x qual (defArgs st) (defBody st) (defScope st) .none kV doc pm an cdv ct):=⟨⟨oc,od,kV,doc,pm,an,cdv,ct,osl,rfl,l,c⟩,k⟩
end
theorem small1000 {n : Nat} (h : n <= 1000) : n < sizeLine:=Nat.lt_of_le_of_lt h (by decide)
section
variable {X : Cx}
theorem pv (i : Nat) {x : Str} {pos : Pos} (hN : X.N[i]? = some x:=by rfl) (hv : Vis X.env.scope x:=by first | exact Or.inl rfl | exact Or.inr (Or.inl rfl) | exact Or.inr (Or.inr rfl)) (hd : (x == ("__debug__" : Str)) = false:=by decide)
    (hcd : (x == ("__classdict__" : Str)) = false:=by decide) : PE X (.Name x pos) (tVar i):=pe_var hN hv hd hcd
end
theorem iteF {A B : Prop} (h : B) : if false = true then A else B:=by
  rw [if_neg Bool.false_ne_true]
  exact h
def Same (H H' : Hp) : Prop:=∀ b o,H b = some o -> H' b = some o
theorem Same.refl (H : Hp) : Same H H:=fun _ _ h=>h
end L2
namespace L2
open PySem PySem.Spec PyProof.Rows
theorem closure_of {scope : Scope} {env : Env} (h : ∀ x ∈ scope.names,x.2 = .free -> ∃ c,env.cells.lookup x.1 = some c) :
    ∃ cl,closureFor scope env = pure cl /\ (∀ x c,cl.lookup x = some c -> env.cells.lookup x = some c) /\ (∀ x ∈ scope.names,x.2 = .free -> ∃ c,cl.lookup x.1 = some c):=by
  have key : ∀ (l : List (Str × NameKind)) (acc : List (Str × Addr)),(∀ x ∈ l,x.2 = .free -> ∃ c,env.cells.lookup x.1 = some c) -> (∀ x c,acc.lookup x = some c -> env.cells.lookup x = some c) ->
      ∃ cl,(forIn l acc fun (x : Str × NameKind) (r : List (Str × Addr))=>(match x with
        | (name,kind)=>if (kind == NameKind.free) = true then (do let c <- cellOf env name; pure (ForInStep.yield ((name,c) :: r))) else (do pure PUnit.unit; pure (ForInStep.yield r)) : Sem (ForInStep (List (Str × Addr))))) = pure cl /\
        (∀ x c,cl.lookup x = some c -> env.cells.lookup x = some c) /\ (∀ x ∈ l,x.2 = .free -> ∃ c,cl.lookup x.1 = some c) /\ (∀ x c,acc.lookup x = some c -> ∃ c',cl.lookup x = some c'):=by
    intro l
    induction l with
    | nil=>intro acc _ ha; exact ⟨acc,rfl,ha,fun x hx=>(by simp at hx),fun x c e=>⟨c,e⟩⟩
    | cons x r ih=>
      intro acc hl ha
      obtain ⟨n,k⟩:=x
      by_cases hk : k = .free
      · subst hk
        obtain ⟨c,hc⟩:=hl (n,.free) List.mem_cons_self rfl
        have ha' : ∀ x c',((n,c) :: acc).lookup x = some c' -> env.cells.lookup x = some c':=fun x c' e=>by
          rw [List.lookup_cons] at e
          by_cases hx : x = n
          · subst hx; simp at e; rw [<- e]; exact hc
          · have : (x == n) = false:=by simpa using hx
            rw [this] at e; exact ha x c' e
        obtain ⟨cl,e1,e2,e3,e4⟩:=ih ((n,c) :: acc) (fun y hy=>hl y (List.mem_cons_of_mem _ hy)) ha'
        refine ⟨cl,?_,e2,fun y hy hf=>?_,fun y c' e=>?_⟩
        · rw [List.forIn_cons]
          have hcell : cellOf env n = pure c:=by unfold cellOf; rw [hc]
          simp only [beq_self_eq_true,if_true,hcell]
          exact e1
        · rcases List.mem_cons.mp hy with e | hy
          · subst e
            exact e4 n c (by simp)
          · exact e3 y hy hf
        · by_cases hy : y = n
          · subst hy; exact e4 y c (by simp)
          · have : (y == n) = false:=by simpa using hy
            exact e4 y c' (by rw [List.lookup_cons,this]; exact e)
      · obtain ⟨cl,e1,e2,e3,e4⟩:=ih acc (fun y hy=>hl y (List.mem_cons_of_mem _ hy)) ha
        refine ⟨cl,?_,e2,fun y hy hf=>?_,e4⟩
        · rw [List.forIn_cons]
          have : (k == NameKind.free) = false:=by simpa using hk
          simp only [this,Bool.false_eq_true,if_false]
          exact e1
        · rcases List.mem_cons.mp hy with e | hy
          · subst e; exact absurd hf hk
          · exact e3 y hy hf
  obtain ⟨cl,e1,e2,e3,_⟩:=key scope.names [] h (fun x c e=>by simp at e)
  refine ⟨cl,?_,e2,e3⟩
  unfold closureFor
  exact (congrArg (fun z=>z >>= pure) e1).trans rfl
theorem lookup_relab (f : Str -> NameKind -> NameKind) (x : Str) : ∀ l : List (Str × NameKind),(l.map fun y=>(y.1,f y.1 y.2)).lookup x = (l.lookup x).map (f x)
  | []=>rfl
  | (n,k) :: r=>by
    have ih:=lookup_relab f x r
    rw [List.map_cons,List.lookup_cons,List.lookup_cons]
    by_cases hx : x = n
    · subst hx; simp
    · have hb : (x == n) = false:=by simpa using hx
      rw [hb]; exact ih
theorem relabel_lookup {scope : Scope} {env : Env} {x : Str} : (relabel scope env).names.lookup x =
    (scope.names.lookup x).map fun k=>if (k == .free && env.scope.kind == .function && env.kindOf x == some .cell) then .cell else k:=by
  rw [<- lookup_relab (fun n k=>if (k == .free && env.scope.kind == .function && env.kindOf n == some .cell) then .cell else k)]
  unfold relabel
  refine congrArg (List.lookup x) (List.map_congr_left fun y _=>?_)
  obtain ⟨n,k⟩:=y
  show (if (k == NameKind.free && env.scope.kind == .function && env.kindOf n == some .cell) = true then (n,NameKind.cell) else (n,k)) = _
  split <;> rfl
def capOf (cap : List (Option Nat)) (σ : St) : St:=cap.map fun c=>c.bind fun j=>(σ[j]?).join
def blk (X : Cx) (N' : List Str) (sc : Scope) (cl : List (Str × Addr)) (C : Addr) (s0 : Shared) (H0 : Hp) (ex : List Addr) : Cx:=
  { X with N:=N',s₀:=s0,H₀:=H0,env:=compEnvC sc cl C X.env,outer:=X.stack,ex:=ex,fn:=fun _=>false,pn:=[],xe:=fun _ _=>False }
section
variable {X : Cx}
theorem HOk.same {P : Program} {w : World} {H : Hp} {h h' : Heap} {a : Addr} (ok : HOk P w H h) (hn : H a = none) (hs : Heap.SameBut a h h') : HOk P w H h':=fun b ob e=>by
  refine (ok b ob e).stay (fun c w' hc q=>(hs.2 c ?_).trans q) (fun _ q=>q) fun _ _ q=>q
  rintro rfl
  rcases hc with rfl | hc
  · rw [hn] at e; cases e
  · rw [hn] at hc; cases hc
end
end L2
namespace L2
open PySem PySem.Spec PyProof.Rows
def HasItems (t : Bool) (h : Heap) (a : Addr) (items : Array Value) : Prop:=if t = true then h.IsTuple a items else h.IsList a items
def IterAt (t : Bool) (h : Heap) (it a : Addr) (i : Nat) : Prop:=if t = true then h.IsTupleIter it a i else h.IsListIter it a i
theorem HasItems.at {t : Bool} {h h' : Heap} {a : Addr} {items : Array Value} (x : HasItems t h a items) (k : ∀ o,h.get? a = some o -> h'.get? a = some o) : HasItems t h' a items:=by
  cases t
  · exact Heap.IsList.at x k
  · obtain ⟨o,e,r⟩:=x
    exact ⟨o,k o e,r⟩
theorem HasItems.there {t : Bool} {h : Heap} {a : Addr} {items : Array Value} (x : HasItems t h a items) : ∃ o,h.get? a = some o:=by
  cases t
  · obtain ⟨o,e,_⟩:=x; exact ⟨o,e⟩
  · obtain ⟨o,e,_⟩:=x; exact ⟨o,e⟩
section
variable {prog : Program} {w : World} {A : Around} {E : Value -> Shared -> Prop} {s : Shared}
def iterObj (t : Bool) (l : Addr) : Obj:=if t = true then { cls:=.type "tuple_iterator",data:=.fields #[.ref l,.int 0 0] } else { cls:=.type "list_iterator",data:=.fields #[.ref l,.int 0 0] }
theorem pyIter_seq {t : Bool} {l : Addr} {items : Array Value} {Q : Value -> Shared -> Prop} (hl : HasItems t s.heap l items)
    (hQ : Q (.ref s.heap.objs.size) { s with heap:=s.heap.push (iterObj t l) }) : wpAny (model prog w) A (pyIter (.ref l)) Q E s:=by
  cases t
  · exact wpAny_pyIter_list hl hQ
  · exact wpAny_pyIter_tuple hl hQ
theorem iterObj_at {t : Bool} {h : Heap} {it l : Addr} (e : h.get? it = some (iterObj t l)) : IterAt t h it l 0:=by
  cases t
  · exact ⟨_,e,rfl,rfl⟩
  · exact ⟨_,e,rfl,rfl⟩
theorem iterObj_free (t : Bool) (l : Addr) : (iterObj t l).isFreed = false:=by cases t <;> rfl
end
def SqK (K : PySem.W.Frag) (t : Bool) (H : Hp) (a : Addr) (xs : List V) : Prop:=if t = true then SqT K H a xs else SqL K H a xs
section
variable {X : Cx} {pins : List (Addr × Obj)} {σ : St} {H : Hp} {s : Shared}
theorem Inv.seqK {t : Bool} {a : Addr} {xs : List V} (I : Inv X pins σ H s) (h : SqK X.K t H a xs) : ∃ its : List Value,Vals xs its /\ HasItems t s.heap a its.toArray /\ xs.length <= sizeLine:=by
  cases t
  · obtain ⟨its,r,p,z⟩:=I.list h
    exact ⟨its,r,p.isList,z⟩
  · obtain ⟨its,r,p,z⟩:=I.tuple h
    exact ⟨its,r,p,z⟩
end
end L2
namespace L2
open PySem PySem.Spec PyProof.Rows
theorem walksK {prog : Program} {w : World} {A : Around} (hh : A.handled = none) (t : Bool) (I ax : Addr) (hne : ax ≠ I) (items : Array Value) :
    Walks prog w A I [I,ax] [I] items.size (fun i v=>items[i]? = some v) (fun i h=>IterAt t h I ax i /\ HasItems t h ax items):=by
  cases t
  · exact Walks.list hh I ax hne items
  · exact Walks.tuple hh I ax hne items
theorem getD_at {α : Type} (l : List α) (d : α) {n : Nat} (h : n < l.length) : l.getD n d = l[n]:=by simp [List.getD,h]
theorem preSum_list (ns : List Int) : preSum (fun j=>ns.getD j 0) ns.length = ns.sum:=by
  have key : ∀ (k : Nat),k <= ns.length -> preSum (fun j=>ns.getD j 0) k = (ns.take k).sum:=by
    intro k
    induction k with
    | zero=>intro _; rfl
    | succ k ih=>
      intro hk
      show preSum _ k + ns.getD k 0 = _
      have hlt : k < ns.length:=by omega
      rw [ih (by omega),List.take_succ,List.sum_append,getD_at _ _ hlt,List.getElem?_eq_getElem hlt]
      simp
  rw [key ns.length (Nat.le_refl _),List.take_length]
section
variable {X : Cx} {pins : List (Addr × Obj)} {σ : St} {H : Hp} {s : Shared}
theorem Inv.movedNew {s' : Shared} (I : Inv X pins σ H s) {o : Obj} (m : Moved [s.heap.objs.size] (fun a b=>b = a) { s with heap:=s.heap.push o } s') : Inv X pins σ H s':=by
  obtain ⟨m1,m2,m3,m4,m5⟩:=m
  obtain ⟨h',g',d',t',o'⟩:=s'
  have e1 : g' = s.gens:=m2
  have e2 : d' = s.drawn:=m3
  have e3 : o' = s.os:=m4
  subst e1 e2 e3
  refine I.kept (t':=t') fun b u e=>m1 b u (fun z=>?_) (Heap.get?_push_of_some _ e)
  have : b = s.heap.objs.size:=by simpa using z
  exact absurd (Heap.lt_size e) (by rw [this]; exact Nat.lt_irrefl _)
theorem ints_get {ns : List Int} {its : List Value} (r : Vals (ns.map V.int) its) : ∀ (i : Nat) (v : Value),its.toArray[i]? = some v -> ∃ t,v = Value.int (ns.getD i 0) t:=fun i v e=>by
  have e' : its[i]? = some v:=by simpa using e
  have hi : i < its.length:=(List.getElem?_eq_some_iff.mp e').1
  have hl:=r.length
  rw [List.length_map] at hl
  have hn : (ns.map V.int)[i]? = some (V.int (ns.getD i 0)):=by
    have : i < ns.length:=by omega
    simp [List.getD,this]
  obtain ⟨u,hu,t,ru⟩:=r.get hn
  rw [e'] at hu
  cases hu
  exact ⟨t,ru⟩
theorem bools_get {bs : List Bool} {its : List Value} (r : Vals (bs.map V.bl) its) : ∀ (i : Nat) (v : Value),its.toArray[i]? = some v -> v = Value.bool (bs.getD i false):=fun i v e=>by
  have e' : its[i]? = some v:=by simpa using e
  have hi : i < its.length:=(List.getElem?_eq_some_iff.mp e').1
  have hl:=r.length
  rw [List.length_map] at hl
  have hn : (bs.map V.bl)[i]? = some (V.bl (bs.getD i false)):=by
    have : i < bs.length:=by omega
    simp [List.getD,this]
  obtain ⟨u,hu,ru⟩:=r.get hn
  rw [e'] at hu
  cases hu
  exact ru
theorem iterObj_walk {t : Bool} {l : Addr} {items : Array Value} (hl : HasItems t s.heap l items) : l ≠ s.heap.objs.size /\
    (IterAt t (s.heap.push (iterObj t l)) s.heap.objs.size l 0 /\ HasItems t (s.heap.push (iterObj t l)) l items) /\ ∀ b ∈ [s.heap.objs.size,l],b < (s.heap.push (iterObj t l)).objs.size:=by
  obtain ⟨o,e⟩:=hl.there
  have hlt:=Heap.lt_size e
  refine ⟨Nat.ne_of_lt hlt,⟨iterObj_at (Heap.get?_push_size _ (iterObj_free _ _)),hl.at fun o e=>Heap.get?_push_of_some _ e⟩,fun b hb=>?_⟩
  rw [Heap.size_push]
  simp at hb
  rcases hb with rfl | rfl
  · exact Nat.lt_succ_self _
  · exact Nat.lt_succ_of_lt hlt
end
section
variable {X : Cx}
theorem call_sum (t : Bool) (hc : X.calm = true) : CallR X (.builtin "sum") (fun xs H Q=>∃ (a : Addr) (ns : List Int),xs = [.ref a] /\ SqK X.K t H a (ns.map V.int) /\ Q (.int ns.sum) H):=by
  intro pins s σ H xs us Q I r h
  obtain ⟨a,ns,rfl,hq,q⟩:=h
  obtain ⟨u,rfl,r1⟩:=vals1 r
  cases r1
  obtain ⟨its,rv,p,_⟩:=I.seqK hq
  obtain ⟨w1,w2,w3⟩:=iterObj_walk p
  have hl:=rv.length
  rw [List.length_map] at hl
  refine call_sum_walkAnyS (pyIter_seq p ⟨_,_,_,_,_,_,_,fun j=>ns.getD j 0,rfl,(walksK (A:=X.A.in1) (I.ok.hd hc) t _ a w1 its.toArray).toS,w2,w3,ints_get rv,fun s' t' m=>?_⟩)
  refine ⟨.int ns.sum,H,I.movedNew m,⟨t',?_⟩,q⟩
  rw [List.size_toArray,<- hl,preSum_list]
theorem range_all (bs : List Bool) : (List.range bs.length).all (fun i=>bs.getD i false) = bs.all id:=by
  induction bs with
  | nil=>rfl
  | cons b r ih=>
    rw [List.length_cons,List.range_succ_eq_map,List.all_cons,List.all_map,List.all_cons,<- ih]
    rfl
theorem call_all (t : Bool) (hc : X.calm = true) : CallR X (.builtin "all") (fun xs H Q=>∃ (a : Addr) (bs : List Bool),xs = [.ref a] /\ SqK X.K t H a (bs.map V.bl) /\ Q (.bl (bs.all id)) H):=by
  intro pins s σ H xs us Q I r h
  obtain ⟨a,bs,rfl,hq,q⟩:=h
  obtain ⟨u,rfl,r1⟩:=vals1 r
  cases r1
  obtain ⟨its,rv,p,_⟩:=I.seqK hq
  obtain ⟨w1,w2,w3⟩:=iterObj_walk p
  have hl:=rv.length
  rw [List.length_map] at hl
  refine call_all_walkS (pyIter_seq p ⟨_,_,_,_,_,_,_,fun j=>bs.getD j false,rfl,(walksK (A:=X.A.in1) (I.ok.hd hc) t _ a w1 its.toArray).toS,w2,fun i v s' Q' E' hv hQ=>?_,fun s' m=>?_⟩)
  · rw [bools_get rv i v hv]
    exact wpAny_truthy_bool hQ
  · refine ⟨.bl (bs.all id),H,I.movedNew m,?_,q⟩
    show Value.bool _ = _
    rw [List.size_toArray,<- hl,range_all]
theorem call_maxL (t : Bool) (hc : X.calm = true) : CallR X (.builtin "max") (fun xs H Q=>∃ (a : Addr) (ns : List Int),xs = [.ref a] /\ SqK X.K t H a (ns.map V.int) /\ ns ≠ [] /\ ∀ m,m ∈ ns -> (∀ k,k ∈ ns -> k <= m) -> Q (.int m) H):=by
  intro pins s σ H xs us Q I r h
  obtain ⟨a,ns,rfl,hq,hne,q⟩:=h
  obtain ⟨u,rfl,r1⟩:=vals1 r
  cases r1
  obtain ⟨its,rv,p,_⟩:=I.seqK hq
  obtain ⟨w1,w2,w3⟩:=iterObj_walk p
  have hl:=rv.length
  rw [List.length_map] at hl
  have hpos : 0 < ns.length:=List.length_pos_iff.mpr hne
  refine call_max_walkS (pyIter_seq p ⟨_,_,_,_,_,_,_,_,rfl,(walksK (A:=X.A.in1) (I.ok.hd hc) t _ a w1 its.toArray).toS,w2,w3,by rw [List.size_toArray]; omega,CmpOf.ints_gt (fun j=>ns.getD j 0) (fun i v hv=>ints_get rv i v hv),fun v s' hv m=>?_⟩)
  obtain ⟨t',rfl⟩:=ints_get rv _ _ hv
  obtain ⟨h1,h2⟩:=argBest_gt (fun j=>ns.getD j 0) (its.toArray.size - 1)
  have hb : argBest (fun i j=>decide (ns.getD i 0 > ns.getD j 0)) (its.toArray.size - 1) < ns.length:=by
    have e' : its.toArray.size = ns.length:=by rw [List.size_toArray]; omega
    rw [e'] at h1 ⊢
    exact Nat.lt_of_le_of_lt h1 (by omega)
  refine ⟨.int (ns.getD (argBest (fun i j=>decide (ns.getD i 0 > ns.getD j 0)) (its.toArray.size - 1)) 0),H,I.movedNew m,⟨t',rfl⟩,q _ ?_ fun k hk=>?_⟩
  · rw [getD_at _ _ hb]
    exact List.getElem_mem hb
  · obtain ⟨j,hj,rfl⟩:=List.mem_iff_getElem.mp hk
    have:=h2 j (by rw [List.size_toArray]; omega)
    rw [getD_at _ _ hj] at this
    exact this
theorem call_minL (t : Bool) (hc : X.calm = true) : CallR X (.builtin "min") (fun xs H Q=>∃ (a : Addr) (ns : List Int),xs = [.ref a] /\ SqK X.K t H a (ns.map V.int) /\ ns ≠ [] /\ ∀ m,m ∈ ns -> (∀ k,k ∈ ns -> m <= k) -> Q (.int m) H):=by
  intro pins s σ H xs us Q I r h
  obtain ⟨a,ns,rfl,hq,hne,q⟩:=h
  obtain ⟨u,rfl,r1⟩:=vals1 r
  cases r1
  obtain ⟨its,rv,p,_⟩:=I.seqK hq
  obtain ⟨w1,w2,w3⟩:=iterObj_walk p
  have hl:=rv.length
  rw [List.length_map] at hl
  have hpos : 0 < ns.length:=List.length_pos_iff.mpr hne
  refine call_min_walkS (pyIter_seq p ⟨_,_,_,_,_,_,_,_,rfl,(walksK (A:=X.A.in1) (I.ok.hd hc) t _ a w1 its.toArray).toS,w2,w3,by rw [List.size_toArray]; omega,CmpOf.ints_lt (fun j=>ns.getD j 0) (fun i v hv=>ints_get rv i v hv),fun v s' hv m=>?_⟩)
  obtain ⟨t',rfl⟩:=ints_get rv _ _ hv
  obtain ⟨h1,h2⟩:=argBest_lt (fun j=>ns.getD j 0) (its.toArray.size - 1)
  have hb : argBest (fun i j=>decide (ns.getD i 0 < ns.getD j 0)) (its.toArray.size - 1) < ns.length:=by
    have e' : its.toArray.size = ns.length:=by rw [List.size_toArray]; omega
    rw [e'] at h1 ⊢
    exact Nat.lt_of_le_of_lt h1 (by omega)
  refine ⟨.int (ns.getD (argBest (fun i j=>decide (ns.getD i 0 < ns.getD j 0)) (its.toArray.size - 1)) 0),H,I.movedNew m,⟨t',rfl⟩,q _ ?_ fun k hk=>?_⟩
  · rw [getD_at _ _ hb]
    exact List.getElem_mem hb
  · obtain ⟨j,hj,rfl⟩:=List.mem_iff_getElem.mp hk
    have:=h2 j (by rw [List.size_toArray]; omega)
    rw [getD_at _ _ hj] at this
    exact this
end
end L2
namespace L2
open PySem PySem.Spec PyProof.Rows
section
variable {K : PySem.W.Frag} {cap : List (Option Nat)} {te : TE} {σ : St} {H1 : Hp} {Q : VK}
abbrev g2 (K : PySem.W.Frag) : TG:=gTup K 2 (gCons (gName 0) (gCons (gName 1) gNil))
end
def clsV : V -> Option Value
  | .ty n=>some (.type n)
  | .ref a=>some (.ref a)
  | _=>none
theorem clsV_rel {c : V} {cv u : Value} (e : clsV c = some cv) (r : RelV c u) : u = cv:=by
  cases c with
  | ty n=>cases e; exact r
  | ref a=>cases e; exact r
  | _=>cases e
section
variable {X : Cx}
theorem call_isinst : CallR X (.builtin "isinstance") (fun xs H Q=>∃ x c cv t b,xs = [x,c] /\ clsV c = some cv /\ TyOf X.K H x t /\ PySem.W.kitOne X.K t cv = some b /\ Q (.bl b) H):=by
  intro pins s σ H xs us Q I r h
  obtain ⟨x,c,cv,t,b,rfl,hc,ty,e,q⟩:=h
  obtain ⟨u,w',rfl,r1,r2⟩:=vals2 r
  rw [clsV_rel hc r2]
  exact isinst_ok I r1 ty e fun tk=>⟨.bl b,H,I.tok tk,rfl,q⟩
theorem boot_isinstance : bootBuiltins "isinstance" = some (.builtin "isinstance"):=by decide +kernel
theorem boot_sum : bootBuiltins "sum" = some (.builtin "sum"):=by decide +kernel
theorem boot_all : bootBuiltins "all" = some (.builtin "all"):=by decide +kernel
theorem boot_max : bootBuiltins "max" = some (.builtin "max"):=by decide +kernel
theorem boot_min : bootBuiltins "min" = some (.builtin "min"):=by decide +kernel
theorem boot_tuple : bootBuiltins "tuple" = some (.type "tuple"):=by decide +kernel
theorem boot_int : bootBuiltins "int" = some (.type "int"):=by decide +kernel
theorem boot_bool : bootBuiltins "bool" = some (.type "bool"):=by decide +kernel
theorem boot_str : bootBuiltins "str" = some (.type "str"):=by decide +kernel
end
def Tab (H : Hp) (a : Addr) (tb : List (List Int)) : Prop:=∃ rs : List Addr,H a = some (.tup (rs.map V.ref)) /\ Paired (fun r row=>H r = some (.tup (List.map V.int row))) rs tb
def Sz (n : Nat) (tb : List (List Int)) : Prop:=tb.length = n /\ ∀ row ∈ tb,row.length = n + 1
end L2
namespace L2
open PySem PySem.Spec PyProof.Rows PySem.W PySem.Builtin.Getset_descriptor
structure XCls (K : Frag) (C : Addr) : Prop where
  cls : (clsIn K C).isSome = true
  ga : findIn K (.ref C) "__getattribute__" = some (some (.builtin "BaseException.__getattribute__"))
  gt : findIn K (.ref C) "__getattr__" = some none
  cl : findIn K (.ref C) "__class__" = some (some (.builtin "object.__class__"))
  gs : specialIn K (.builtin "object.__class__") "__get__" = some (some (.builtin "getset_descriptor.__get__"))
  tk : takesIn K (.builtin "object.__class__") = some true
  ob : mroIn K C (.type "object") = some true
  be : mroIn K C (.type "BaseException") = some true
def IsX (x C : Addr) (h : Heap) : Prop:=∃ ox,h.get? x = some ox /\ ox.cls = .ref C
theorem IsX.type {M : Model} {h : Heap} {x C : Addr} (I : IsX x C h) : Looks M h (typeOf (.ref x)) (.ref C):=by
  obtain ⟨ox,h1,h2⟩:=I
  exact h2 ▸ (Looks.ld h1).andThen .now
theorem xc_find {K : Frag} {M : Model} {h : Heap} {x C : Addr} (X : K.In h) (F : XCls K C) : Looks M h (Builtin.ObjectAttr.find (.ref x) (.ref C) "__class__") (.bind (.builtin "getset_descriptor.__get__") (.builtin "object.__class__")):=by
  have L1:=looks_findIn (M:=M) X F.cl
  have L2 : Looks M h (Builtin.ObjectAttr.getOf (some (.builtin "object.__class__"))) (some (.builtin "getset_descriptor.__get__")):=looks_specialIn X F.gs
  have L3 : Looks M h (Builtin.ObjectAttr.dataDescriptor? (some (.builtin "object.__class__")) (some (.builtin "getset_descriptor.__get__"))) (some (.builtin "getset_descriptor.__get__",.builtin "object.__class__")):=(looks_takesIn X F.tk).andThen .now
  exact L1.andThen (L2.andThen (L3.andThen (Looks.tag .now)))
section
variable {prog : Program} {w : World} {A : Around} {E : Value -> Shared -> Prop} {h : Heap} {g : Array GenState} {d : Drawn} {t : Nat} {os : OsState} {K : Frag} {x C : Addr}
theorem xc_get {tp : Value} {R : Result -> Shared -> Prop} (X : K.In h) (F : XCls K C) (I : IsX x C h) (hq : R (.ok (.ret (.ref C))) ⟨h,g,d,t,os⟩) : codeAny (model prog w) A (.call (.builtin "getset_descriptor.__get__") ⟨[.builtin "object.__class__",.ref x,tp],[]⟩) R ⟨h,g,d,t,os⟩:=by
  have L0:=I.type (M:=model prog w)
  have L1:=looks_mroIn (M:=model prog w) X F.ob
  refine codeAny_call_builtin KF.slot_gs.plain KF.entry_gs (KF.slot_gs.check _ _ _ _ _ _ _ _ KF.type_class (KF.args_gs _ _ _) ?_)
  unfold Builtin.«getset_descriptor.__get__» descrGet
  rw [dga_obj]
  refine wpAny_bind (wpAny_pure ?_)
  unfold descrGetter descrCheckInstance descrNameAndClass isInstance
  simp only [KF.owner_class]
  repeat lk
  refine ⟨Code.quiet_builtin _ (by decide +kernel),codeAny_builtin KF.entry_class ?_⟩
  unfold Builtin.«object.__class__» shownTypeOf
  repeat lk
  exact hq
theorem xc_entry {tk : Tok} {Q : Fin -> Shared -> Prop} (X : K.In h) (F : XCls K C) (I : IsX x C h) (hq : Q (.done (.ret (.ref C))) ⟨h,g,d,t,os⟩) :
    wpAny (model prog w) A (Builtin.«object.__getattribute__» ⟨[.ref x,.str "__class__" tk],[]⟩) Q E ⟨h,g,d,t,os⟩:=by
  have L0:=I.type (M:=model prog w)
  have L1:=xc_find (M:=model prog w) (x:=x) X F
  unfold Builtin.«object.__getattribute__»
  refine wpAny_bind (wpAny_pure ?_)
  refine wpAny_bind (wpAny_pure ?_)
  refine wpAny_bind (L0.at (wpAny_bind (L1.at ?_)))
  show wpAny _ _ (Builtin.ObjectAttr.bindTo (.builtin "getset_descriptor.__get__") (.builtin "object.__class__") (.ref x) (.ref C)) _ _ _
  unfold Builtin.ObjectAttr.bindTo
  refine wpAny_bind (wpAny_holding (wpAny_call (xc_get X F I ?_)))
  exact wpAny_pure hq
theorem xc_check {M : Model} {nameV : Value} {Q : Unit -> Shared -> Prop} (X : K.In h) (F : XCls K C) (I : IsX x C h) (hq : Q () ⟨h,g,d,t,os⟩) : wpAny M A (checkBuiltinCall "BaseException.__getattribute__" ⟨[.ref x,nameV],[]⟩) Q E ⟨h,g,d,t,os⟩:=by
  have hk : builtinKind "BaseException.__getattribute__" = some .slot:=by decide +kernel
  have hsplit : splitId "BaseException.__getattribute__" = some ("BaseException", "__getattribute__"):=by decide +kernel
  have LI : Looks M h (isInstance (.ref x) (.type "BaseException")) true:=(I.type).andThen (looks_mroIn X F.be)
  have ha:=PySem.F.args_bexc_ga (.ref x) nameV
  simp only [checkBuiltinCall,hk,hsplit]
  refine wpAny_bind (LI.at ?_)
  simp only [Bool.not_true,Bool.false_eq_true,if_false]
  exact wpAny_of_eq ha hq
theorem xc_call {tk : Tok} {R : Result -> Shared -> Prop} (X : K.In h) (F : XCls K C) (I : IsX x C h) (hq : R (.ok (.ret (.ref C))) ⟨h,g,d,t,os⟩) :
    codeAny (model prog w) A (.call (.builtin "BaseException.__getattribute__") ⟨[.ref x,.str "__class__" tk],[]⟩) R ⟨h,g,d,t,os⟩:=
  codeAny_call_builtin PySem.F.attr_ValueError.ga.plain PySem.F.entry_bexc_ga (xc_check X F I (xc_entry X F I hq))
theorem xc_by {tk : Tok} {Q : Value -> Shared -> Prop} (X : K.In h) (F : XCls K C) (I : IsX x C h) (hq : Q (.ref C) ⟨h,g,d,t,os⟩) : wpAny (model prog w) A (getAttrBy (.ref x) (.str "__class__" tk) false) Q E ⟨h,g,d,t,os⟩:=by
  have L0:=I.type (M:=model prog w)
  have L1:=looks_findIn (M:=model prog w) X F.ga
  have L2:=looks_findIn (M:=model prog w) X F.gt
  have hx2 : (Value.builtin "BaseException.__getattribute__" == Value.builtin "object.__getattribute__") = false:=by decide +kernel
  have hx1 : (onTheHeap (Value.ref C) && Value.builtin "BaseException.__getattribute__" == Value.builtin "object.__getattribute__") = false:=by rw [hx2]; rfl
  have f3:=PySem.F.attr_ValueError.ga.bind (.ref x)
  unfold getAttrBy
  refine wpAny_holding (wpAny_bind (L0.at (wpAny_bind (L1.at ?_))))
  repeat (any_goals (first | assumption | with_reducible refine L2.at ?_ | wp_step))
  refine xc_call X F I ?_
  repeat (any_goals (first | assumption | wp_step))
theorem xc_attr {Q : Option Value -> Shared -> Prop} (X : K.In h) (F : XCls K C) (I : IsX x C h) (hq : Q (some (.ref C)) ⟨h,g,d,t + 1,os⟩) : wpAny (model prog w) A (getAttr? (.ref x) "__class__") Q E ⟨h,g,d,t,os⟩:=by
  unfold getAttr? getAttrBy?
  repeat (any_goals (first | assumption | with_reducible apply xc_by X F I | wp_step))
end
theorem kitx_exc {K : Frag} {x C : Addr} (F : XCls K C) : KitX K (.ref x) (.ref C) (IsX x C) where
  ty:=fun _ _ _ I=>I.type
  it:=fun _ _ X _=>by
    obtain ⟨cdD,hcD⟩:=Option.isSome_iff_exists.mp F.cls
    unfold clsIn at hcD
    split at hcD
    · rename_i c' d' cd' sl' ho
      intro A' Q' E' s' k q
      unfold isType loadHead
      exact wpAny_bind (wpAny_loadPart (k _ _ (X _ _ ho)) (wpAny_pure q))
    · cases hcD
  ne:=fun h tp dd its n sl X htp=>by
    obtain ⟨cdD,hcD⟩:=Option.isSome_iff_exists.mp F.cls
    refine Bool.eq_false_iff.mpr fun q=>?_
    have e : C = tp:=Value.ref.inj (beq_iff_eq.mp q)
    subst e
    unfold clsIn at hcD
    split at hcD
    · rename_i c' d' cd' sl' ho
      have z:=(X _ _ ho).symm.trans htp
      cases z
    · cases hcD
  ca:=fun {prog w A E Q s} X I k=>by
    obtain ⟨h,g,d,t,os⟩:=s
    exact xc_attr X F I k
end L2
namespace L2
open PySem PySem.Spec PyProof.Rows
theorem ObjOk.there {P : Program} {w : World} {H : Hp} {h : Heap} {a : Addr} {o : HO} (x : ObjOk P w H h a o) : ∃ u,h.get? a = some u:=by
  cases o with
  | lst xs=>obtain ⟨_,_,_,_,e⟩:=x; exact ⟨_,e⟩
  | tup xs=>obtain ⟨_,_,_,o,e,_⟩:=x; exact ⟨o,e⟩
  | dK kvs=>obtain ⟨_,_,_,_,o,_,_,e,_⟩:=x; exact ⟨o,e⟩
  | dT kvs=>obtain ⟨_,_,_,_,o,_,_,e,_⟩:=x; exact ⟨o,e⟩
  | set S n=>obtain ⟨o,_,_,_,e,_⟩:=x; exact ⟨o,e⟩
  | ins C dx fs=>obtain ⟨_,_,_,e,_⟩:=x; exact ⟨_,e⟩
  | own y=>exact x
  | xd fs=>obtain ⟨_,⟨o,_,_,e,_⟩,_⟩:=x; exact ⟨o,e⟩
  | rng lo hi=>obtain ⟨_,_,_,e⟩:=x; exact ⟨_,e⟩
  | frz ob u=>obtain ⟨e,_⟩:=x; exact ⟨_,e⟩
  | tbl ps=>exact ⟨_,x⟩
  | met f y=>exact ⟨_,x⟩
  | ext φ=>exact x.2.1
theorem HOk.none_of {P : Program} {w : World} {H : Hp} {h : Heap} {a : Addr} (x : HOk P w H h) (e : h.get? a = none) : H a = none:=by
  cases q : H a with
  | none=>rfl
  | some o=>
    obtain ⟨u,z⟩:=(x a o q).there
    rw [e] at z
    cases z
structure Fly (P : Program) (w : World) (outer : List Env) (H H' : Hp) (s s' : Shared) (a : Addr) (cls a0 : Value) (B : Heap) : Prop where
  os : s'.os = s.os
  bare : AllBare s'.gens
  fl : Heap.FlyingW B outer a cls a0 s'.heap
  hokB : HOk P w H' B
  keep : ∀ b o,s.heap.get? b = some o -> H b = none -> b ∉ frs outer -> B.get? b = some o
  there : ∀ b o,s.heap.get? b = some o -> b ∉ frs outer -> ∃ o',B.get? b = some o'
  slot : ∀ b o,s.heap.get? b = some o -> b ∈ frs outer -> ∃ sl,s'.heap.get? b = some { o with slots:=sl }
  free : ∀ b o,s.heap.get? b = some o -> H b = none -> H' b = none
  tups : ∀ b xs,H b = some (.tup xs) -> H' b = some (.tup xs)
  frzs : ∀ b o u,H b = some (.frz o u) -> H' b = some (.frz o u)
  tbls : ∀ b ps,H b = some (.tbl ps) -> ∃ more,H' b = some (.tbl (ps ++ more))
abbrev bmVE : List Value:=[.type "ValueError",.type "Exception",.type "BaseException",.type "object"]
theorem own_obj {K : PySem.W.Frag} {h : Heap} {C : Addr} {bmB : List Value} {newId : String} {x : Str} {mg : Str -> Option Value} (X : K.In h) (m : mg x = some (.ref C)) (q : PySem.W.excIn K C bmB newId = true) : OwnCls x C bmB newId mg h:=by
  refine ⟨m,?_⟩
  unfold PySem.W.excIn at q
  split at q
  · rename_i dd cd sl ho
    split at q
    · rename_i C' bm k0 k1 k2 k3 n k5 hm hs
      simp only [Bool.and_eq_true,beq_iff_eq,Bool.not_eq_true'] at q
      obtain ⟨⟨⟨⟨⟨rfl,rfl⟩,hdel⟩,ht⟩,hok⟩,hni⟩:=q
      obtain ⟨nm,bs,mro,ns,qn,hd,sn,sub,ab,col,del⟩:=cd
      dsimp only at hm hdel hok hni
      subst hm hdel
      have hsl : sl = #[k0,k1,k2,k3,some (.builtin n),k5]:=by
        obtain ⟨l⟩:=sl
        simp only at hs
        rw [hs]
      subst hsl
      exact ⟨bm,ns,nm,qn,bs,hd,sn,sub,ab,col,dd,k0,k1,k2,k3,k5,_,X _ _ ho,.of_isNs (PySem.W.isNs_of_in X hok),PySem.W.nsMap_none_of_in X hok hni,PySem.W.tail_of_in X ht⟩
    · cases q
  · cases q
section
variable {X : Cx}
def tRaise (C : Addr) (E : XK) (t : TA) : TS:=fun _ σ H=>t σ H fun vs H1=>vs.length <= sizeLine /\ E (.ref C) none H1
end
end L2
namespace L2
open PySem PySem.Spec PyProof.Rows
def suiteCx (X : Cx) (a : Addr) : Cx:={ X with A:=X.A.mark (some (.ref a)),calm:=false,xe:=fun _ _=>False }
section
variable {X : Cx} {pins : List (Addr × Obj)} {σ : St} {H H' : Hp} {s s' : Shared} {a C : Addr}
theorem Inv.suite (I : Inv X pins σ H s) (a : Addr) : Inv (suiteCx X a) pins σ H s:=
  ⟨⟨I.ok.mod,I.ok.kind,I.ok.glob,I.ok.blt,I.ok.above,I.ok.inj,I.ok.has,I.ok.cab,fun h=>(by cases h),I.ok.frames,I.ok.stk,I.ok.exf,I.ok.bs,I.ok.bsz,I.ok.noex,I.ok.exfs,I.ok.funs,I.ok.frf⟩,I.os,I.bare,I.base,I.loc,I.cell,I.free,I.freeC,I.pin,I.hok,I.len⟩
theorem Inv.unsuite (ok : X.Ok) (I : Inv (suiteCx X a) pins σ H s) : Inv X pins σ H s:=⟨ok,I.os,I.bare,I.base,I.loc,I.cell,I.free,I.freeC,I.pin,I.hok,I.len⟩
theorem Fly.inv {cls a0 : Value} {B h5 : Heap} (I : Inv X pins σ H s) (F : Fly X.prog X.w X.stack H H' s s' a cls a0 B) (kB : B.StaysIn h5) (sm : s'.heap.UpToSlots h5) : Inv X pins σ H' { s' with heap:=h5 }:=by
  have sl : ∀ b o,s.heap.get? b = some o -> b ∈ frs X.stack -> ∃ sl,h5.get? b = some { o with slots:=sl }:=fun b o q hb=>by
    obtain ⟨sl,z⟩:=F.slot b o q hb
    obtain ⟨_,o',ho',hnf⟩:=I.stack.mem hb
    rw [q] at ho'
    cases ho'
    obtain ⟨sl',z'⟩:=sm b _ z hnf
    exact ⟨sl',z'⟩
  refine I.call' (s':={ s' with heap:=h5 }) (ch:=[]) F.os ⟨fun b o q n hb _=>kB _ _ (F.keep b o q n hb),fun b o q n hb _=>sl b o q hb,fun b o q n _=>F.free b o q n,fun b o q _=>?_,F.tups,F.frzs,F.tbls⟩ (F.hokB.kept kB) F.bare fun b z=>absurd z (by simp)
  by_cases hb : b ∈ frs X.stack
  · obtain ⟨sl,z⟩:=sl b o q hb
    exact ⟨_,z⟩
  · obtain ⟨o',z⟩:=F.there b o q hb
    exact ⟨o',kB _ _ z⟩
theorem Fly.new {cls a0 : Value} {B : Heap} (F : Fly X.prog X.w X.stack H H' s s' a cls a0 B) : s.heap.get? a = none /\ H' a = none:=by
  have hB : B.get? a = none:=F.fl.2.1
  refine ⟨?_,F.hokB.none_of hB⟩
  cases q : s.heap.get? a with
  | none=>rfl
  | some o=>
    by_cases hb : a ∈ frs X.stack
    · obtain ⟨_,o',ho',hnf⟩:=F.fl.2.2.1.mem hb
      obtain ⟨oe,vs,he,_,hd,_⟩:=F.fl.first
      rw [ho'] at he
      cases he
      exact absurd hd (hnf vs)
    · obtain ⟨o',z⟩:=F.there a o q hb
      rw [hB] at z
      cases z
theorem Inv.track {s1 : Shared} {φ : Heap -> Prop} (I0 : Inv X pins σ H s) (hex : ∀ b,b ∉ X.ex) (h0 : s.heap.get? a = none) (I : Inv X pins σ H' s1) (hn : H' a = none) (o : ObjOk X.prog X.w (upd H' a (.ext φ)) s1.heap a (.ext φ)) : Inv X pins σ (upd H' a (.ext φ)) s1:=by
  have ne0 : ∀ b u,s.heap.get? b = some u -> b ≠ a:=fun b u e z=>by rw [z,h0] at e; cases e
  have nes : ∀ b u,X.s₀.heap.get? b = some u -> b ≠ a:=fun b u e=>by
    obtain ⟨u',e'⟩:=I0.base.there b u e (hex b)
    exact ne0 b u' e'
  refine ⟨I.ok,I.os,I.bare,?_,I.loc,I.cell,?_,?_,?_,?_,I.len⟩
  · have u0:=I.base
    exact ⟨u0.keep,u0.slot,fun c o e n hx=>by rw [upd_ne (nes c o e)]; exact u0.free c o e n hx,u0.there,
      fun c ts e=>by have:=u0.tups c ts e; rw [upd_ne (ne_of_none this hn)]; exact this,
      fun c o ts e=>by have:=u0.frzs c o ts e; rw [upd_ne (ne_of_none this hn)]; exact this,
      fun c ps e=>by obtain ⟨more,q⟩:=u0.tbls c ps e; exact ⟨more,by rw [upd_ne (ne_of_none q hn)]; exact q⟩⟩
  · obtain ⟨m,⟨o,_,_,e,_⟩,_⟩:=I0.loc
    rw [upd_ne (ne0 _ _ e)]; exact I.free
  · intro x c e
    obtain ⟨v,o,z,_⟩:=I0.cell x c e
    rw [upd_ne (ne0 _ _ z)]; exact I.freeC x c e
  · intro p hp
    obtain ⟨e,n,ne,nf,d⟩:=I.pin p hp
    exact ⟨e,by rw [upd_ne (ne0 _ _ (I0.pin p hp).1)]; exact n,ne,nf,d⟩
  · intro c u q
    by_cases hc : c = a
    · subst hc
      rw [upd_same] at q; cases q
      exact o
    · rw [upd_ne hc] at q
      exact (I.hok c u q).stay (fun _ _ _ r=>r) (fun c' r=>by rw [upd_ne (ne_of_none r hn)]; exact r) fun c' ts r=>by rw [upd_ne (ne_of_none r hn)]; exact r
theorem Inv.forget {i : Nat} {n : Str} {m : Str -> Option Value} {h' : Heap} {v : Option Value} {tk : Nat} (I : Inv X pins σ H s) (hN : X.N.Nodup) (hi : X.N[i]? = some n) (hl : ∀ (i : Nat) (x : Str) (v : V),X.N[i]? = some x -> σ[i]? = some (some v) -> Vis X.env.scope x -> ∃ u,RelV v u /\ Look X.env s.heap m x u)
    (hn' : h'.Ns X.env.locals (fun x=>if x = n then v else m x)) (hs : Heap.SameBut X.env.locals s.heap h') : Inv X pins (σ.set i none) H { s with heap:=h',toks:=tk }:=by
  have cne:=I.cne
  have tracked : HOk X.prog X.w H h':=I.hok.same I.free hs
  have neL : ∀ b o,X.s₀.heap.get? b = some o -> b ≠ X.env.locals:=fun b o e=>Nat.ne_of_lt (Nat.lt_of_lt_of_le (Heap.lt_size e) I.ok.above)
  refine ⟨I.ok,I.os,I.bare,⟨fun b o e n hb hx=>(hs.2 b (neL b o e)).trans (I.base.keep b o e n hb hx),fun b o e n hb hx=>?_,I.base.free,fun b o e hx=>?_,I.base.tups,I.base.frzs,I.base.tbls⟩,⟨_,hn',fun j y v' e1 e2 e3=>?_⟩,fun y c e=>?_,I.free,I.freeC,fun p hp=>?_,tracked,by simpa using I.len⟩
  · obtain ⟨sl,z⟩:=I.base.slot b o e n hb hx
    exact ⟨sl,(hs.2 b (neL b o e)).trans z⟩
  · obtain ⟨o',z⟩:=I.base.there b o e hx
    exact ⟨o',(hs.2 b (neL b o e)).trans z⟩
  · by_cases hj : j = i
    · subst hj
      rw [hi] at e1; cases e1
      have : j < σ.length:=by have:=(List.getElem?_eq_some_iff.mp e2).1; simpa using this
      rw [List.getElem?_set_self this] at e2
      cases e2
    · rw [List.getElem?_set_ne (Ne.symm hj)] at e2
      obtain ⟨u,r,q⟩:=hl j y v' e1 e2 e3
      refine ⟨u,r,?_⟩
      rcases q with ⟨k,e⟩ | ⟨k,c,e,z⟩
      · refine .inl ⟨k,?_⟩
        have : y ≠ n:=fun e=>hj (nodup_ix hN e1 (e ▸ hi))
        simp [this,e]
      · exact .inr ⟨k,c,e,z.sameBut hs (cne y c e)⟩
  · obtain ⟨w',z⟩:=I.cell y c e
    exact ⟨w',z.sameBut hs (cne y c e)⟩
  · obtain ⟨e,n,ne,nf,d⟩:=I.pin p hp
    exact ⟨(hs.2 p.1 ne).trans e,n,ne,nf,d⟩
end
end L2
namespace L2
open PySem PySem.Spec PyProof.Rows
theorem tuple_mul_same (l : Addr) (items : Array Value) (n : Nat) (dd : Option Addr) (sl : Array (Option Value)) (t : Tok) :
    Meets (Builtin.«tuple.__mul__» ⟨[.ref l,.int 1 t],[]⟩) (fun _ R s=>s.heap.get? l = some { cls:=.type "tuple",dict:=dd,data:=.seq items n,slots:=sl } /\ R (.ok (.ret (.ref l))) s):=
  .of_wp fun prog w A R s h=>by
    obtain ⟨hp,g,d,tk,os⟩:=s; obtain ⟨hl,h⟩:=h
    wp_walk using wpAny_loadPart' hl
    exact ⟨_,rfl,h⟩
theorem tuple_mul_many (l : Addr) (items : Array Value) (n : Nat) (dd : Option Addr) (sl : Array (Option Value)) (x : Int) (t : Tok) (h1 : ¬ (decide (x < -(2 ^ 63)) || decide (x >= 2 ^ 63)) = true) (h2 : ¬ (items.isEmpty || x == 1) = true) (h3 : ¬ (decide (x <= 0) || items.isEmpty) = true) (h4 : ¬ (items.size : Int) * x > (2 ^ 63 - 1) / 8) (h5 : ¬ Builtin.Tuple.tupleTooMany ((items.size : Int) * x) = true)
    (h6 : ((List.replicate x.toNat items).foldl (fun x1 x2=>x1 ++ x2) #[]).size <= sizeLine) :
    Meets (Builtin.«tuple.__mul__» ⟨[.ref l,.int x t],[]⟩) (fun _ R s=>s.heap.get? l = some { cls:=.type "tuple",dict:=dd,data:=.seq items n,slots:=sl } /\
      R (.ok (.ret (Value.ref s.heap.objs.size))) { s with heap:=s.heap.push { cls:=Value.type "tuple",data:=Data.seq ((List.replicate x.toNat items).foldl (fun x1 x2=>x1 ++ x2) #[]) } }):=
  .of_wp fun prog w A R s h=>by
    obtain ⟨hp,g,d,tk,os⟩:=s; obtain ⟨hl,h⟩:=h
    wp_walk using wpAny_loadPart' hl
    refine wpAny_ite_false (decide_eq_false h1) ?_
    wp_walk using wpAny_loadPart' hl
    refine wpAny_ite_false (decide_eq_false h4) ?_
    wp_walk using wpAny_loadPart' hl
    all_goals first | exact ⟨_,rfl,h⟩ | (refine wpAny_ite_false (decide_eq_false h5) ?_; wp_walk) | skip
    all_goals first | exact ⟨_,rfl,h⟩ | (refine wpAny_ite_false (decide_eq_false (Nat.not_lt.mpr h6)) ?_; wp_walk; exact ⟨_,rfl,h⟩)
theorem int_rmul_tuple (a : Int) (t : Tok) (l : Addr) (items : Array Value) (n : Nat) (dd : Option Addr) (sl : Array (Option Value)) :
    Meets (Builtin.«int.__rmul__» ⟨[.int a t,.ref l],[]⟩) (fun _ R s=>s.heap.get? l = some { cls:=.type "tuple",dict:=dd,data:=.seq items n,slots:=sl } /\ R (.ok (.ret Value.notImplemented)) s):=
  .of_wp fun prog w A R s h=>by obtain ⟨hp,g,d,tk,os⟩:=s; obtain ⟨hl,h⟩:=h; wp_walk using wpAny_loadPart' hl; exact ⟨_,rfl,h⟩
theorem noFill_tuple_mul : fillsNumberSlot (.type "tuple") "mul" = pure false:=
  PySem.fillsNumberSlot_seq (id := "tuple.__mul__") (r:=some (.builtin "tuple.__rmul__")) F.slot_tuple_mul.lookup (by decide +kernel) F.slot_tuple_rmul.lookup (by decide +kernel)
theorem repeat_tuple : seqRepeat? (.type "tuple") = pure (some (.builtin "tuple.__mul__")):=by
  unfold seqRepeat?
  rw [PySem.seqSlot_of (T := "tuple") (name := "__mul__") (id := "tuple.__mul__") F.slot_tuple_mul.lookup (by decide +kernel),PySem.seqSlot_of (T := "tuple") (name := "__rmul__") (id := "tuple.__rmul__") F.slot_tuple_rmul.lookup (by decide +kernel)]
  rfl
section
variable {X : Cx}
def rRepT (K : PySem.W.Frag) : R2:=fun x y H Q=>∃ a k xs,x = .ref a /\ y = .int k /\ SqT K H a xs /\ xs ≠ [] /\ 1 <= k /\ xs.length * k.toNat <= 4096 /\
  (k = 1 -> Q (.ref a) H) /\ (k ≠ 1 -> ∀ p,H p = none -> Q (.ref p) (upd H p (.tup (List.replicate k.toNat xs).flatten)))
theorem op_repT : OpR X (binaryOp .Mult) (rRepT X.K):=by
  intro pins s σ H x y v u Q I rx ry h
  obtain ⟨a,k,xs,rfl,rfl,ha,hne,hk,hz,q1,q2⟩:=h
  cases rx
  obtain ⟨t,rfl⟩:=ry
  obtain ⟨its,r,p1,hs⟩:=I.tuple ha
  obtain ⟨⟨cls,dd,data,sl⟩,ho,hc,n,hd⟩:=id p1
  simp only at hc hd
  subst hc hd
  have hl : its.length = xs.length:=r.length.symm
  have hpos : 0 < its.length:=by rw [hl]; exact List.length_pos_iff.mpr hne
  have hkz : k.toNat <= 4096:=by
    have : 1 * k.toNat <= xs.length * k.toNat:=Nat.mul_le_mul_right _ (by omega)
    omega
  refine wpAny_binaryOp_repeat_ref (T := "tuple") (U := "int") (by decide) ⟨_,ho,rfl⟩ (fun s'=>typeIs_int s' k t) noFill_tuple_mul F.fills_int_mul F.slot_int_rmul repeat_tuple F.slot_int_index.lookup
    (call_meets F.slot_int_rmul (typeIs_int s k t) F.entry_int_rmul (F.args_int_rmul_2 _ _) (int_rmul_tuple k t a its.toArray n dd sl)
      ⟨ho,rfl,⟨_,ho,rfl⟩,?_⟩)
  by_cases h1 : k = 1
  · subst h1
    exact call_meets F.slot_tuple_mul ⟨_,ho,rfl⟩ F.entry_tuple_mul (F.args_tuple_mul_2 _ _) (tuple_mul_same a its.toArray n dd sl t) ⟨ho,⟨.ref a,H,I,rfl,q1 rfl⟩⟩
  · have f0 : List.foldl (fun x1 x2=>x1 ++ x2) #[] (List.replicate k.toNat its.toArray) = (List.replicate k.toNat its).flatten.toArray:=by
      have:=foldl_rep its k.toNat []
      rw [List.nil_append] at this
      exact this
    have hlen : (its.toArray.size : Int) * k = ((its.length * k.toNat : Nat) : Int):=by
      rw [List.size_toArray,Int.natCast_mul,Int.toNat_of_nonneg (by omega)]
    have hfl : (List.replicate k.toNat its).flatten.length <= 4096:=by rw [len_rep,hl,Nat.mul_comm]; exact hz
    have hb : its.length * k.toNat <= 4096:=by rw [hl]; exact hz
    refine call_meets F.slot_tuple_mul ⟨_,ho,rfl⟩ F.entry_tuple_mul (F.args_tuple_mul_2 _ _) (tuple_mul_many a its.toArray n dd sl k t ?_ ?_ ?_ ?_ ?_ ?_) ⟨ho,?_⟩
    · rw [decide_eq_false (by omega),decide_eq_false (by omega)]; exact Bool.false_ne_true
    · intro z
      rcases Bool.or_eq_true_iff.mp z with z | z
      · rw [List.isEmpty_toArray,List.isEmpty_iff] at z; rw [z] at hpos; simp at hpos
      · exact h1 (eq_of_beq z)
    · intro z
      rcases Bool.or_eq_true_iff.mp z with z | z
      · have:=of_decide_eq_true z; omega
      · rw [List.isEmpty_toArray,List.isEmpty_iff] at z; rw [z] at hpos; simp at hpos
    · rw [hlen]; omega
    · rw [hlen]
      have : (4096 : Int) <= sizeLine:=by decide
      show ¬ decide (((its.length * k.toNat : Nat) : Int) > (sizeLine : Int)) = true
      rw [decide_eq_false (by omega)]; exact Bool.false_ne_true
    · rw [f0,List.size_toArray]; exact Nat.le_trans hfl (by decide)
    · rw [f0]
      refine ⟨.ref s.heap.objs.size,_,I.laid (t':=s.toks) (o:=.tup (List.replicate k.toNat xs).flatten) (fun b ob q=>Heap.get?_push_of_some _ q) (Nat.le_refl _) ?_,rfl,q2 h1 _ (I.hok.fresh (Nat.le_refl _))⟩
      exact ⟨by rw [len_rep,Nat.mul_comm]; exact Nat.le_trans hz (by decide),_,r.rep k.toNat,IsTup.new _ _⟩
end
section
variable {X : Cx} {pins : List (Addr × Obj)} {s : Shared} {σ : St} {H : Hp}
open PySem.SeqAt
theorem op_is_bl : OpR X (compareOp .Is) (fun x y H Q=>∃ b c,x = .bl b /\ y = .bl c /\ Q (.bl (b == c)) H):=by
  intro pins s σ H x y v u Q I rx ry h
  obtain ⟨b,c,rfl,rfl,q⟩:=h
  cases rx
  cases ry
  exact PyProof.Rows.is_bool ⟨.bl _,H,I,rfl,q⟩
end
end L2
namespace L2
open PySem PySem.Spec PyProof.Rows
structure JE (X : Cx) (e : Expr) (t : TE) : Prop where out : PE X e t
structure JA (X : Cx) (es : List Expr) (t : TA) : Prop where out : PA X es t
structure JS (X : Cx) (st : Stmt) (t : TS) : Prop where out : PS X st t
structure JSs (X : Cx) (sts : List Stmt) (t : TS) : Prop where out : PSs X sts t
section
variable {X : Cx} {pos : Pos}
theorem jok {sts : List Stmt} {R : TS -> Prop} (h : ∃ t,JSs X sts t /\ R t) : ∃ t,PSs X sts t /\ R t:=by
  obtain ⟨t,a,b⟩:=h
  exact ⟨t,a.out,b⟩
theorem ja_nil : JA X [] tNil:=⟨pa_nil⟩
theorem ja_cons {e : Expr} {es : List Expr} {te : TE} {t : TA} (ha : JE X e te) (hr : JA X es t) (hs : starEach (e :: es) X.env = (false,eval e X.env) :: starEach es X.env:=by rfl) : JA X (e :: es) (tCons te t):=⟨pa_cons ha.out hr.out hs⟩
theorem je_lst {es : List Expr} {t : TA} (h : JA X es t) : JE X (.List es pos) (tLst t):=⟨pe_lst h.out⟩
theorem je_str {x : Str} {j : Nat} : JE X (.Constant (.str x) j pos) (tC (.str x)):=⟨pe_str⟩
theorem je_op {a b : Expr} {ta tb : TE} {op : Operator} {r : R2} (ho : OpR X (binaryOp op) r) (ha : JE X a ta) (hb : JE X b tb) : JE X (.BinOp a op b pos) (tOp r ta tb):=⟨pe_op ho ha.out hb.out⟩
theorem je_ix {a b : Expr} {ta tb : TE} {r : R2} (hr : IxR X r) (ha : JE X a ta) (hb : JE X b tb) (hs : PlainIx b) : JE X (.Subscript a b pos) (tOp r ta tb):=⟨pe_ix hr ha.out hb.out hs⟩
theorem jss_nil : JSs X [] tNext:=⟨pss_nil⟩
theorem jss_cons {st : Stmt} {rest : List Stmt} {t u : TS} (h1 : JS X st t) (h2 : JSs X rest u) : JSs X (st :: rest) (tSeq t u):=⟨pss_cons h1.out h2.out⟩
theorem jss_one {st : Stmt} {t : TS} (h1 : JS X st t) : JSs X [st] t:=⟨pss_one h1.out⟩
theorem js_if {c : Expr} {a b : List Stmt} {tc : TT} {t u : TS} (hc : PT X c tc) (ha : JSs X a t) (hb : JSs X b u) : JS X (.If c a b pos) (tIfS tc t u):=⟨ps_if hc ha.out hb.out⟩
theorem js_ret {e : Expr} {te : TE} (he : JE X e te) : JS X (.Return (some e) pos) (tRet te):=⟨ps_ret he.out⟩
theorem js_set {i : Nat} {x : Str} {e : Expr} {te : TE} {pos' : Pos} (hN : X.N.Nodup) (hi : X.N[i]? = some x) (hx : Loc X.env.scope x) (he : JE X e te) (hs : swapsWith e (some (.Name x pos')) pos.line X.env = pure false:=by rfl) (hf : X.fn x = true \/ X.env.scope.names.lookup x = some .local:=by first | exact .inl rfl | exact .inr rfl | assumption) :
    JS X (.Assign [.Name x pos'] e pos) (tAsg te (gName i)):=⟨ps_set hN hi hx he.out hs hf⟩
end
end L2
namespace L2
open PySem PySem.Spec PyProof.Rows
theorem cellsFrom_look : ∀ (names : List (Str × NameKind)) (h : Heap) (acc : List (Str × Addr)) (x : Str) (c : Addr),(cellsFrom h.objs.size names acc).lookup x = some c ->
    acc.lookup x = some c \/ ((x,NameKind.cell) ∈ names /\ h.objs.size <= c /\ (pushCells h names).IsCell c none)
  | [],_,_,_,_,e=>.inl e
  | (name,kind) :: r,h,acc,x,c,e=>by
    unfold cellsFrom at e
    unfold pushCells
    by_cases hk : (kind == NameKind.cell) = true
    · rw [if_pos hk] at e ⊢
      have hk' : kind = .cell:=by simpa using hk
      have ih:=cellsFrom_look r (h.push { cls:=.type "cell",data:=.cell none }) ((name,h.objs.size) :: acc) x c (by rw [Heap.size_push]; exact e)
      rw [Heap.size_push] at ih
      rcases ih with z | ⟨z1,z2,z3⟩
      · rw [List.lookup_cons] at z
        cases hb : x == name with
        | true=>
          rw [hb] at z; cases z
          exact .inr ⟨by rw [beq_iff_eq.mp hb,hk']; exact List.mem_cons_self,Nat.le_refl _,⟨_,pushCells_keeps _ _ _ _ (Heap.get?_push_size _ rfl),rfl⟩⟩
        | false=>rw [hb] at z; exact .inl z
      · exact .inr ⟨List.mem_cons_of_mem _ z1,by omega,z3⟩
    · rw [if_neg hk] at e ⊢
      rcases cellsFrom_look r h acc x c e with z | ⟨z1,z2,z3⟩
      · exact .inl z
      · exact .inr ⟨List.mem_cons_of_mem _ z1,z2,z3⟩
theorem cellsFrom_old {x : Str} : ∀ (names : List (Str × NameKind)) (n : Nat) (acc : List (Str × Addr)),(x,NameKind.cell) ∉ names -> (cellsFrom n names acc).lookup x = acc.lookup x
  | [],_,_,_=>rfl
  | (name,kind) :: r,n,acc,h=>by
    unfold cellsFrom
    have hr : (x,NameKind.cell) ∉ r:=fun z=>h (List.mem_cons_of_mem _ z)
    by_cases hk : (kind == NameKind.cell) = true
    · rw [if_pos hk,cellsFrom_old r _ _ hr,List.lookup_cons]
      cases hb : x == name with
      | true=>exact absurd (by rw [beq_iff_eq.mp hb,show kind = .cell by simpa using hk]; exact List.mem_cons_self) h
      | false=>rfl
    · rw [if_neg hk,cellsFrom_old r _ _ hr]
theorem cellsFrom_new {x : Str} {c : Addr} : ∀ (names : List (Str × NameKind)) (n : Nat) (acc : List (Str × Addr)),(x,NameKind.cell) ∈ names -> (cellsFrom n names acc).lookup x = some c -> n <= c
  | [],_,_,h,_=>by cases h
  | (name,kind) :: r,n,acc,h,e=>by
    unfold cellsFrom at e
    by_cases hr : (x,NameKind.cell) ∈ r
    · by_cases hk : (kind == NameKind.cell) = true
      · rw [if_pos hk] at e
        exact Nat.le_of_succ_le (cellsFrom_new r _ _ hr e)
      · rw [if_neg hk] at e
        exact cellsFrom_new r _ _ hr e
    · rcases List.mem_cons.mp h with q | q
      · cases q
        rw [if_pos (by decide),cellsFrom_old r _ _ hr,List.lookup_cons] at e
        simp at e
        exact Nat.le_of_eq e
      · exact absurd q hr
theorem cellsFrom_inj : ∀ (names : List (Str × NameKind)) (n : Nat) (acc : List (Str × Addr)),(∀ x c,acc.lookup x = some c -> c < n) -> (∀ x y c,acc.lookup x = some c -> acc.lookup y = some c -> x = y) ->
    ∀ x y c,(cellsFrom n names acc).lookup x = some c -> (cellsFrom n names acc).lookup y = some c -> x = y
  | [],_,_,_,h=>h
  | (name,kind) :: r,n,acc,h1,h2=>by
    unfold cellsFrom
    by_cases hk : (kind == NameKind.cell) = true
    · rw [if_pos hk]
      refine cellsFrom_inj r (n + 1) _ (fun x c e=>?_) (fun x y c e e'=>?_)
      · rw [List.lookup_cons] at e
        cases hb : x == name with
        | true=>rw [hb] at e; cases e; exact Nat.lt_succ_self _
        | false=>rw [hb] at e; exact Nat.lt_succ_of_lt (h1 x c e)
      · rw [List.lookup_cons] at e e'
        cases hb : x == name with
        | true=>
          rw [hb] at e; cases e
          cases hb' : y == name with
          | true=>rw [beq_iff_eq.mp hb,beq_iff_eq.mp hb']
          | false=>rw [hb'] at e'; exact absurd (h1 y _ e') (Nat.lt_irrefl _)
        | false=>
          rw [hb] at e
          cases hb' : y == name with
          | true=>rw [hb'] at e'; cases e'; exact absurd (h1 x _ e) (Nat.lt_irrefl _)
          | false=>rw [hb'] at e'; exact h2 x y c e e'
    · rw [if_neg hk]
      exact cellsFrom_inj r n acc h1 h2
theorem wpAny_newEnvC {M : Model} {A : Around} {E : Value -> Shared -> Prop} {s : Shared} {scope : Scope} {globals : Addr} {cl : List (Str × Addr)} {qual : Str} {func : Option Addr} {code : Value} {env : Env} {builtins : Addr} {Q : Env -> Shared -> Prop}
    (hQ : Q (newEnv scope s.heap.objs.size globals (cellsFrom (s.heap.objs.size + 1) scope.names cl) qual func code (some env) builtins) { s with heap:=pushCells (s.heap.push { cls:=.type "dict",data:=.dict #[] }) scope.names }) :
    wpAny M A (newFunctionEnv scope globals cl [] qual func code (some env) builtins) Q E s:=by
  simp only [newFunctionEnv,Option.isSome_some,if_true]
  refine wpAny_bind (wpAny_alloc ?_)
  refine wpAny_bind (wpAny_layCells _ (fun name kind cells=>by cases hkc : kind == NameKind.cell <;> simp [hkc]) _ _ _ _ ?_)
  rw [show ({ s with heap:=s.heap.push { cls:=.type "dict",data:=.dict #[] } } : Shared).heap.objs.size = s.heap.objs.size + 1 from Heap.size_push ..]
  refine wpAny_bind ?_
  rw [List.forIn_nil]
  exact wpAny_pure (wpAny_pure hQ)
def compOkC (N N' : List Str) (sc scE : Scope) (cap : List (Option Nat)) : Bool:=
  sc.kind == .function && sc.names.all (fun x=>x.2 != .cell || sc.names.lookup x.1 == some .cell) && sc.names.all (fun x=>x.2 != .local || sc.names.lookup x.1 == some .local) &&
  sc.names.all (fun x=>x.2 != .free || scE.names.lookup x.1 == some .cell || scE.names.lookup x.1 == some .free) && cap.length == N'.length &&
  (List.range cap.length).all (fun i=>match cap[i]? with
    | some (some j)=>(match N'[i]?,N[j]? with | some a,some b=>a == b && sc.names.lookup a == some .free | _,_=>false)
    | _=>true)
structure CompOkC (N N' : List Str) (sc scE : Scope) (cap : List (Option Nat)) : Prop where
  kind : sc.kind = .function
  cel : ∀ x ∈ sc.names,x.2 = .cell -> sc.names.lookup x.1 = some .cell
  loc : ∀ x ∈ sc.names,x.2 = .local -> sc.names.lookup x.1 = some .local
  fre : ∀ x ∈ sc.names,x.2 = .free -> scE.names.lookup x.1 = some .cell \/ scE.names.lookup x.1 = some .free
  len : cap.length = N'.length
  at_ : ∀ (i j : Nat),cap[i]? = some (some j) -> ∃ x,N'[i]? = some x /\ N[j]? = some x /\ sc.names.lookup x = some .free
theorem compOkC.of {N N' : List Str} {sc scE : Scope} {cap : List (Option Nat)} (h : compOkC N N' sc scE cap = true) : CompOkC N N' sc scE cap:=by
  unfold compOkC at h
  simp only [Bool.and_eq_true,List.all_eq_true,beq_iff_eq,Bool.or_eq_true,bne_iff_ne] at h
  obtain ⟨⟨⟨⟨⟨h1,h2⟩,h3⟩,h4⟩,h5⟩,h6⟩:=h
  refine ⟨h1,fun x hx e=>?_,fun x hx e=>?_,fun x hx e=>?_,h5,fun i j e=>?_⟩
  · rcases h2 x hx with z | z
    · exact absurd e z
    · exact z
  · rcases h3 x hx with z | z
    · exact absurd e z
    · exact z
  · rcases h4 x hx with (z | z) | z
    · exact absurd e z
    · exact .inl z
    · exact .inr z
  · have hi : i < cap.length:=(List.getElem?_eq_some_iff.mp e).1
    have:=h6 i (List.mem_range.mpr hi)
    rw [e] at this
    simp only at this
    cases e1 : N'[i]? with
    | none=>rw [e1] at this; cases this
    | some a=>
      cases e2 : N[j]? with
      | none=>rw [e1,e2] at this; cases this
      | some b=>
        rw [e1,e2] at this
        simp only [Bool.and_eq_true,beq_iff_eq] at this
        obtain ⟨rfl,z⟩:=this
        exact ⟨a,rfl,rfl,z⟩
def blkC (X : Cx) (N' : List Str) (sc : Scope) (cl : List (Str × Addr)) (C : Addr) (s0 : Shared) (H0 : Hp) (ex : List Addr) : Cx:=
  { X with N:=N',s₀:=s0,H₀:=H0,env:=compEnvC sc cl C X.env,outer:=X.stack,ex:=ex,fn:=fun x=>sc.names.lookup x == some .cell,pn:=[],xe:=fun _ _=>False }
section
variable {X : Cx}
theorem blk_invC {pins : List (Addr × Obj)} {σ : St} {H : Hp} {s : Shared} {N N' : List Str} {sc scE : Scope} {cap : List (Option Nat)} {cl : List (Str × Addr)} {fp : List Addr}
    (I : Inv X pins σ H s) (hN : X.N = N) (hE : X.env.scope = scE) (ck : CompOkC N N' sc scE cap) (c1 : ∀ x c,cl.lookup x = some c -> X.env.cells.lookup x = some c) (c2 : ∀ x ∈ sc.names,x.2 = .free -> ∃ c,cl.lookup x.1 = some c)
    (hf : ∀ b ∈ fp,FpOk X pins H b) (hfs : ∀ b ∈ fp,b < s.heap.objs.size) :
    Inv (blkC X N' sc (cellsFrom (s.heap.objs.size + 1) sc.names cl) s.heap.objs.size s H fp) [] (capOf cap σ) H { s with heap:=pushCells (s.heap.push { cls:=.type "dict",data:=.dict #[] }) sc.names }:=by
  obtain ⟨h₁,hh₁⟩ : ∃ h₁,pushCells (s.heap.push { cls:=.type "dict",data:=.dict #[] }) sc.names = h₁:=⟨_,rfl⟩
  obtain ⟨cl',hcl'⟩ : ∃ cl',cellsFrom (s.heap.objs.size + 1) sc.names cl = cl':=⟨_,rfl⟩
  rw [hh₁,hcl']
  have keep : ∀ b o,s.heap.get? b = some o -> h₁.get? b = some o:=fun b o e=>by rw [<- hh₁]; exact pushCells_keeps _ _ b o (Heap.get?_push_of_some _ e)
  have hns : h₁.Ns s.heap.objs.size (fun _=>none):=by rw [<- hh₁]; exact (Heap.Ns.new s.heap (.type "dict")).keeps (pushCells_keeps _ _)
  have look : ∀ x c,cl'.lookup x = some c -> cl.lookup x = some c \/ (s.heap.objs.size + 1 <= c /\ h₁.IsCell c none):=fun x c e=>by
    rw [<- hcl'] at e
    have:=cellsFrom_look (sc.names) (s.heap.push { cls:=.type "dict",data:=.dict #[] }) cl x c (by rw [Heap.size_push]; exact e)
    rw [Heap.size_push,hh₁] at this
    rcases this with z | ⟨_,z,z'⟩
    · exact .inl z
    · exact .inr ⟨z,z'⟩
  have cellLt : ∀ x c,cl.lookup x = some c -> c < s.heap.objs.size:=fun x c e=>by
    obtain ⟨v,o,ho,_⟩:=I.cell x c (c1 x c e)
    exact Heap.lt_size ho
  have inj : ∀ x y c,cl'.lookup x = some c -> cl'.lookup y = some c -> x = y:=by
    rw [<- hcl']
    exact cellsFrom_inj _ _ _ (fun x c e=>Nat.lt_succ_of_lt (cellLt x c e)) fun x y c a b=>I.ok.inj x y c (c1 x c a) (c1 y c b)
  have isC : ∀ x,sc.names.lookup x = some .cell -> ∃ c,cl'.lookup x = some c:=fun x e=>by
    rw [<- hcl']
    exact Option.isSome_iff_exists.mp (PySem.W.cellsFrom_some _ _ _ (.inl e))
  have isF : ∀ x,sc.names.lookup x = some .free -> cl'.lookup x = cl.lookup x:=fun x e=>by
    rw [<- hcl']
    refine cellsFrom_old _ _ _ fun z=>?_
    have:=ck.cel _ z rfl
    rw [e] at this; cases this
  have kindOf : ∀ x k,(compEnvC sc cl' s.heap.objs.size X.env).kindOf x = some k -> k = .cell \/ k = .free -> sc.names.lookup x = some .free \/ sc.names.lookup x = some .cell:=fun x k e hk=>by
    have e' : (relabel sc X.env).names.lookup x = some k:=e
    rw [relabel_lookup] at e'
    cases q : sc.names.lookup x with
    | none=>rw [q] at e'; cases e'
    | some k'=>
      rw [q] at e'
      have e'' : (if (k' == NameKind.free && X.env.scope.kind == .function && X.env.kindOf x == some .cell) = true then NameKind.cell else k') = k:=Option.some.inj e'
      by_cases hc : (k' == NameKind.free && X.env.scope.kind == .function && X.env.kindOf x == some .cell) = true
      · simp only [Bool.and_eq_true,beq_iff_eq] at hc
        rw [hc.1.1]; exact .inl rfl
      · rw [if_neg hc] at e''
        subst e''
        rcases hk with z | z
        · rw [z]; exact .inr rfl
        · rw [z]; exact .inl rfl
  have cellAt : ∀ x c,X.env.cells.lookup x = some c -> ∀ v,s.heap.IsCell c v -> h₁.IsCell c v:=fun x c e v ⟨o,ho,hd⟩=>⟨o,keep c o ho,hd⟩
  have Hnew : ∀ c,s.heap.objs.size <= c -> H c = none:=fun c hc=>I.hok.fresh hc
  refine ⟨⟨I.ok.mod,ck.kind,I.ok.glob,I.ok.blt,Nat.le_refl _,inj,fun x hx=>?_,fun x c h1 h2=>?_,I.ok.hd,I.ok.frames,.inl rfl,fun b hb=>?_,I.bs,
    Nat.le_trans I.ok.bsz I.sz,fun b o e hb=>?_,fun b hb hz=>?_,I.stack,I.stkFree⟩,rfl,I.bare,Un.kept keep,⟨_,hns,fun i x v e1 e2 e3=>?_⟩,fun x c e=>?_,Hnew _ (Nat.le_refl _),fun x c e=>?_,fun p hp=>(by cases hp),I.hok.kept keep,?_⟩
  · have hx : (compEnvC sc cl' s.heap.objs.size X.env).kindOf x = some .cell \/ (compEnvC sc cl' s.heap.objs.size X.env).kindOf x = some .free:=hx
    have q : sc.names.lookup x = some .free \/ sc.names.lookup x = some .cell:=by
      rcases hx with z | z
      · exact kindOf x _ z (.inl rfl)
      · exact kindOf x _ z (.inr rfl)
    rcases q with q | q
    · obtain ⟨c,hc⟩:=c2 _ (PySem.mem_of_lookup q) rfl
      exact ⟨c,(isF x q).trans hc⟩
    · exact isC x q
  · have h1 : sc.names.lookup x = some .cell:=by simpa [blkC] using h1
    have h2 : cl'.lookup x = some c:=h2
    rw [<- hcl'] at h2
    exact Nat.le_trans (Nat.le_succ _) (cellsFrom_new _ _ _ (PySem.mem_of_lookup h1) h2)
  · refine ⟨Nat.ne_of_lt (hfs b hb),fun x c e=>?_⟩
    rcases look x c e with z | ⟨z,_⟩
    · exact (hf b hb).2.2.2.2.1 x c (c1 x c z)
    · exact fun q=>absurd (Nat.lt_of_lt_of_le (hfs b hb) (Nat.le_trans (Nat.le_succ _) (q ▸ z))) (Nat.lt_irrefl _)
  · rcases (hf b hb).2.2.2.1 with z | z
    · exact I.ok.noex b o e z
    · exact absurd (Nat.lt_of_lt_of_le (Heap.lt_size e) (Nat.le_trans I.ok.bsz z)) (Nat.lt_irrefl _)
  · rcases List.mem_cons.mp (I.stkSub b hz) with e | z
    · exact (hf b hb).2.1 e
    · exact (hf b hb).2.2.1 z
  · have e1 : N'[i]? = some x:=e1
    have e2 : (capOf cap σ)[i]? = some (some v):=e2
    unfold capOf at e2
    rw [List.getElem?_map] at e2
    cases q : cap[i]? with
    | none=>rw [q] at e2; cases e2
    | some oj=>
      rw [q] at e2
      cases oj with
      | none=>cases e2
      | some j=>
        obtain ⟨y,z1,z2,z3⟩:=ck.at_ i j q
        rw [e1] at z1; cases z1
        have ev : σ[j]? = some (some v):=by
          have e2' : (σ[j]?).join = some v:=Option.some.inj e2
          cases r : σ[j]? with
          | none=>rw [r] at e2'; cases e2'
          | some o=>rw [r] at e2'; exact congrArg some e2'
        obtain ⟨m',hm',hl⟩:=I.loc
        have sK : X.env.scope.names.lookup x = some .cell \/ X.env.scope.names.lookup x = some .free:=by rw [hE]; exact ck.fre _ (PySem.mem_of_lookup z3) rfl
        obtain ⟨u,ru,l⟩:=hl j x v (by rw [hN]; exact z2) ev (sK.elim (fun z=>.inr (.inl z)) fun z=>.inr (.inr z))
        refine ⟨u,ru,?_⟩
        obtain ⟨c,hc⟩:=c2 _ (PySem.mem_of_lookup z3) rfl
        rcases l with ⟨k,_⟩ | ⟨k,c',hc',hcell⟩
        · have k : X.env.scope.names.lookup x = some .local:=k
          rcases sK with z | z <;> (rw [k] at z; cases z)
        · have : c = c':=by
            have q1:=c1 x c hc
            rw [hc'] at q1
            exact (Option.some.inj q1).symm
          subst this
          refine .inr ⟨?_,c,(isF x z3).trans hc,cellAt x c hc' _ hcell⟩
          show (relabel sc X.env).names.lookup x = some .cell \/ (relabel sc X.env).names.lookup x = some .free
          rw [relabel_lookup,z3]
          show some (if _ then NameKind.cell else NameKind.free) = _ \/ some (if _ then NameKind.cell else NameKind.free) = _
          split
          · exact .inl rfl
          · exact .inr rfl
  · rcases look x c e with z | ⟨_,z⟩
    · obtain ⟨v,q⟩:=I.cell x c (c1 x c z)
      exact ⟨v,cellAt x c (c1 x c z) v q⟩
    · exact ⟨_,z⟩
  · rcases look x c e with z | ⟨z,_⟩
    · exact I.freeC x c (c1 x c z)
    · exact Hnew c (by omega)
  · unfold capOf
    show _ = N'.length
    rw [List.length_map]
    exact ck.len
end
end L2
namespace PySem
open Sem (wp)
def fld2 (o : Obj) : Option Value:=match o.data with | .fields vs=>vs[2]? | _=>none
theorem fld2_map {o : Obj} {vs : Array Value} {x : Value} (od : o.data = .fields vs) : fld2 (Obj.mapFields (·.setIfInBounds 1 x) o) = fld2 o:=by
  have d:=Obj.data_mapFields od (·.setIfInBounds 1 x)
  unfold fld2
  rw [d,od]
  exact Array.getElem?_setIfInBounds_ne (by decide)
section
variable {M : Model} {A : Around} {E : Value -> Shared -> Prop} {s : Shared} {bs : Heap} {en : Env} {ou : List Env} {L e : Addr} {ob : Obj} {vs : Array Value} {a0 : Value} {Q : Unit -> Shared -> Prop}
theorem entry_dict {head : Value} {nx : Bool} (fr : A.frames = some (en :: ou)) (ff : s.heap.FunFrames bs (en :: ou)) (ef : en.frame = some L) (oe : s.heap.get? e = some ob) (kb : bs.StaysIn s.heap) (ne : bs.get? e = none)
    (od : ob.data = .fields vs) (z1 : 1 < vs.size) (z0 : vs[0]? = some a0)
    (h : ∀ h',Heap.LeftW bs (en :: ou) e ob.cls a0 s.heap h' -> (∃ o',h'.get? e = some o' /\ o'.dict = ob.dict /\ fld2 o' = fld2 ob) -> Q () { s with heap:=h' }) :
    wpAny M A (do
      let a <- frameOf en
      let pl <- entryPlaceOf L nx
      let b <- EntryCells.newEntry head a .none (rawInt L) .none pl
      setField (.ref e) 1 b) (fun _ s'=>wpAny M A (setFlight (.ref e) none) Q E s') E s:=by
  have nf : e ∉ (en :: ou).filterMap (·.frame):=fun m=>by
    obtain ⟨_,o,q,n⟩:=ff.mem m
    rw [oe] at q
    cases q
    exact n vs od
  refine wpAny_bind (wpAny_frameOf_fun fr ff ef fun g gs=>?_)
  refine wpAny_bind (wpAny_entryPlaceOf fun pl hp=>?_)
  unfold EntryCells.newEntry newFields
  refine wpAny_bind (wpAny_newObj_type ?_ (hp.sizeOk5 _ _ _ _ _))
  have ge : g.get? e = some ob:=(gs.2.1 e nf).trans oe
  have gb : bs.StaysIn g:=fun b o q=>(gs.2.1 b fun m=>by
    rw [(ff.mem m).1] at q
    cases q).trans (kb b o q)
  obtain ⟨tb,etb⟩ : ∃ tb : List Value,[head,.ref L,.none,rawInt L,.none] ++ (if pl.isEmpty then List.replicate 6 Value.none else pl) = tb:=⟨_,rfl⟩
  have l5 : 3 < tb.length /\ tb[3]? = some (rawInt L):=by
    rw [<- etb]
    exact ⟨by simp,by simp⟩
  rw [etb]
  have ge2:=Heap.get?_push_of_some (h:=g) { cls:=.type "traceback",dict:=none,data:=.fields tb.toArray } ge
  refine wpAny_setField ge2 od z1 ?_
  have te : g.objs.size ≠ e:=Nat.ne_of_gt (Heap.lt_size ge)
  have d3:=Obj.data_mapFields od (·.setIfInBounds 1 (Value.ref g.objs.size))
  have ge3:=Heap.get?_update_self (Obj.mapFields (·.setIfInBounds 1 (Value.ref g.objs.size))) ge2 (Obj.isFreed_of_fields d3)
  have gt3:=(Heap.get?_update_other (g.push { cls:=.type "traceback",dict:=none,data:=.fields tb.toArray })
    (Obj.mapFields (·.setIfInBounds 1 (Value.ref g.objs.size))) te.symm).trans
    (Heap.get?_push_size g rfl)
  unfold setFlight
  refine wpAny_bind (wpAny_field ge3 d3 (x:=.ref g.objs.size) (by simp [z1]) ?_)
  rw [if_pos (show (Value.ref g.objs.size != Value.none) = true by simp)]
  refine wpAny_setField gt3 rfl (by simpa using l5.1) (h _ ?_ ?_)
  all_goals
    obtain ⟨g3,eg3⟩ : ∃ g3,((g.push { cls:=.type "traceback",dict:=none,data:=.fields tb.toArray }).update e (Obj.mapFields (·.setIfInBounds 1 (Value.ref g.objs.size)))) = g3:=⟨_,rfl⟩
    rw [eg3] at ge3 gt3 ⊢
  · have kp : ∀ b o,b ≠ e -> g.get? b = some o -> (g3.update g.objs.size (Obj.mapFields (·.setIfInBounds 3 ((none : Option Addr).elim Value.none fun f=>rawInt f)))).get? b = some o:=fun b o n q=>by
      rw [Heap.get?_update_other _ _ (Nat.ne_of_gt (Heap.lt_size q)),<- eg3,Heap.get?_update_other _ _ n.symm]
      exact Heap.get?_push_of_some _ q
    have nr : ∀ b o,s.heap.get? b = some o -> (∀ ws,o.data ≠ .fields ws) -> b ≠ e:=fun b o q n z=>by
      rw [z,oe] at q
      cases q
      exact n vs od
    refine ⟨fun b o q=>kp b o (fun z=>by rw [z,ne] at q; cases q) (gb b o q),ff.of_keeps fun b o q n=>?_,?_,fun b o q n=>?_⟩
    · obtain ⟨sl,z⟩:=gs.2.2 b o q
      exact ⟨_,kp b _ (nr b o q n) z,rfl⟩
    · refine ⟨_,_,g.objs.size,_,_,?_,⟨Obj.cls_mapFields _ _,?_⟩,d3,by simp [z1],gb.fresh,te,Heap.get?_update_self _ gt3 (Obj.isFreed_of_fields (Obj.data_mapFields rfl _)),Obj.data_mapFields rfl _,?_⟩
      · rw [Heap.get?_update_other _ _ te]
        exact ge3
      · rw [Array.getElem?_setIfInBounds_ne (by decide)]
        exact z0
      · have:=l5.1
        simp [this]
    · obtain ⟨sl,z⟩:=gs.2.2 b o q
      exact ⟨sl,kp b _ (nr b o q n) z⟩
  · refine ⟨_,(Heap.get?_update_other _ _ te).trans ge3,?_,fld2_map od⟩
    cases ob with
    | mk c d dt sl=>cases dt <;> first | rfl | cases od
theorem leave1_dict (fr : A.frames = some (en :: ou)) (ff : s.heap.FunFrames bs (en :: ou)) (ef : en.frame = some L) (oe : s.heap.get? e = some ob) (kb : bs.StaysIn s.heap) (ne : bs.get? e = none)
    (od : ob.data = .fields vs) (z1 : vs[1]? = some .none) (z0 : vs[0]? = some a0)
    (h : ∀ h',Heap.LeftW bs (en :: ou) e ob.cls a0 s.heap h' -> (∃ o',h'.get? e = some o' /\ o'.dict = ob.dict /\ fld2 o' = fld2 ob) -> Q () { s with heap:=h' }) : wpAny M A (leaving en (.ref e)) Q E s:=by
  unfold leaving noteFrame
  simp only [ef]
  refine wpAny_bind (wpAny_bind (wpAny_field oe od z1 ?_))
  rw [if_neg (by decide)]
  exact entry_dict fr ff ef oe kb ne od (Array.getElem?_eq_some_iff.mp z1).1 z0 h
theorem leave2_dict {cls : Value} {dv : Option Addr} (fr : A.frames = some (en :: ou)) (ef : en.frame = some L) (fl : Heap.FlyingW bs (en :: ou) e cls a0 s.heap) (dd : ∃ o',s.heap.get? e = some o' /\ o'.dict = dv /\ fld2 o' = some .none)
    (h : ∀ h',Heap.FlyingW bs ou e cls a0 h' -> (∃ o',h'.get? e = some o' /\ o'.dict = dv /\ fld2 o' = some .none) -> s.heap.UpToSlots h' -> Q () { s with heap:=h' }) : wpAny M A (leaving en (.ref e)) Q E s:=by
  obtain ⟨kb,ne,ff,oe,ws,T,oT,ts,he,⟨hc,z0⟩,od,z1,nT,Te,hT,dT,z3⟩:=fl
  obtain ⟨o',ho',hdv,hfl⟩:=dd
  rw [he] at ho'
  cases ho'
  unfold leaving noteFrame
  simp only [ef]
  refine wpAny_bind (wpAny_bind (wpAny_field he od z1 ?_))
  rw [if_pos (show (Value.ref T != Value.none) = true by simp)]
  refine wpAny_bind (wpAny_field hT dT z3 ?_)
  rw [if_neg (show ¬ ((Value.none == rawInt L) = true) by simp [rawInt])]
  refine wpAny_bind (wpAny_setField hT dT (Array.getElem?_eq_some_iff.mp z3).1 ?_)
  have ot : ∀ b,b ≠ T -> (s.heap.update T (Obj.mapFields (·.setIfInBounds 3 Value.none))).get? b = s.heap.get? b:=fun b n=>Heap.get?_update_other _ _ n.symm
  have nr : ∀ b o,s.heap.get? b = some o -> (∀ ws,o.data ≠ .fields ws) -> b ≠ T:=fun b o q n z=>by
    rw [z,hT] at q
    cases q
    exact n ts dT
  refine entry_dict fr (ff.of_keeps fun b o q n=>⟨o,(ot b (nr b o q n)).trans q,rfl⟩) ef ((ot e Te.symm).trans he) (fun b o q=>(ot b fun z=>by rw [z,nT] at q; cases q).trans (kb b o q)) ne od (Array.getElem?_eq_some_iff.mp z1).1 z0 fun h' lf d'=>?_
  obtain ⟨k1,⟨_,_,k2⟩,k3,k4⟩:=lf
  rw [hc] at k3
  exact h h' ⟨k1,ne,k2,k3⟩ (d'.imp fun o q=>⟨q.1,q.2.1.trans hdv,q.2.2.trans hfl⟩) fun b o q n=>k4 b o ((ot b (nr b o q n)).trans q) n
theorem note_entry_dict {head : Value} {nx : Bool} (fr : A.frames = some (en :: ou)) (ff : s.heap.FunFrames bs (en :: ou)) (ef : en.frame = some L) (oe : s.heap.get? e = some ob) (kb : bs.StaysIn s.heap) (ne : bs.get? e = none)
    (od : ob.data = .fields vs) (z1 : 1 < vs.size) (z0 : vs[0]? = some a0)
    (h : ∀ h',Heap.NotedW bs (en :: ou) e ob.cls a0 (rawInt L) s.heap h' -> (∃ o',h'.get? e = some o' /\ o'.dict = ob.dict /\ fld2 o' = fld2 ob) -> Q () { s with heap:=h' }) :
    wpAny M A (do
      let a <- frameOf en
      let pl <- entryPlaceOf L nx
      let b <- EntryCells.newEntry head a .none (rawInt L) .none pl
      setField (.ref e) 1 b) Q E s:=by
  have nf : e ∉ (en :: ou).filterMap (·.frame):=fun m=>by
    obtain ⟨_,o,q,n⟩:=ff.mem m
    rw [oe] at q
    cases q
    exact n vs od
  refine wpAny_bind (wpAny_frameOf_fun fr ff ef fun g gs=>?_)
  refine wpAny_bind (wpAny_entryPlaceOf fun pl hp=>?_)
  unfold EntryCells.newEntry newFields
  refine wpAny_bind (wpAny_newObj_type ?_ (hp.sizeOk5 _ _ _ _ _))
  have ge : g.get? e = some ob:=(gs.2.1 e nf).trans oe
  have gb : bs.StaysIn g:=fun b o q=>(gs.2.1 b fun m=>by
    rw [(ff.mem m).1] at q
    cases q).trans (kb b o q)
  obtain ⟨tb,etb⟩ : ∃ tb : List Value,[head,.ref L,.none,rawInt L,.none] ++ (if pl.isEmpty then List.replicate 6 Value.none else pl) = tb:=⟨_,rfl⟩
  have l5 : 3 < tb.length /\ tb[3]? = some (rawInt L):=by
    rw [<- etb]
    exact ⟨by simp,by simp⟩
  rw [etb]
  have ge2:=Heap.get?_push_of_some (h:=g) { cls:=.type "traceback",dict:=none,data:=.fields tb.toArray } ge
  have te : g.objs.size ≠ e:=Nat.ne_of_gt (Heap.lt_size ge)
  have d3:=Obj.data_mapFields od (·.setIfInBounds 1 (Value.ref g.objs.size))
  have ge3:=Heap.get?_update_self (Obj.mapFields (·.setIfInBounds 1 (Value.ref g.objs.size))) ge2 (Obj.isFreed_of_fields d3)
  have gt3:=(Heap.get?_update_other (g.push { cls:=.type "traceback",dict:=none,data:=.fields tb.toArray })
    (Obj.mapFields (·.setIfInBounds 1 (Value.ref g.objs.size))) te.symm).trans
    (Heap.get?_push_size g rfl)
  refine wpAny_setField ge2 od z1 (h _ ?_ ?_)
  · have kp : ∀ b o,b ≠ e -> g.get? b = some o -> ((g.push { cls:=.type "traceback",dict:=none,data:=.fields tb.toArray }).update e (Obj.mapFields (·.setIfInBounds 1 (Value.ref g.objs.size)))).get? b = some o:=fun b o n q=>by
      rw [Heap.get?_update_other _ _ n.symm]
      exact Heap.get?_push_of_some _ q
    have nr : ∀ b o,s.heap.get? b = some o -> (∀ ws,o.data ≠ .fields ws) -> b ≠ e:=fun b o q n z=>by
      rw [z,oe] at q
      cases q
      exact n vs od
    refine ⟨fun b o q=>kp b o (fun z=>by rw [z,ne] at q; cases q) (gb b o q),ff.of_keeps fun b o q n=>?_,?_,fun b o q n=>?_⟩
    · obtain ⟨sl,z⟩:=gs.2.2 b o q
      exact ⟨_,kp b _ (nr b o q n) z,rfl⟩
    · refine ⟨_,_,g.objs.size,_,_,ge3,⟨Obj.cls_mapFields _ _,?_⟩,d3,by simp [z1],gb.fresh,te,gt3,rfl,by simpa using l5.2⟩
      rw [Array.getElem?_setIfInBounds_ne (by decide)]
      exact z0
    · obtain ⟨sl,z⟩:=gs.2.2 b o q
      exact ⟨sl,kp b _ (nr b o q n) z⟩
  · refine ⟨_,ge3,?_,fld2_map od⟩
    cases ob with
    | mk c d dt sl=>cases dt <;> first | rfl | cases od
theorem look_dict {cls : Value} {dv : Option Addr} (fr : A.frames = some (en :: ou)) (ef : en.frame = some L) (fl : Heap.FlyingW bs (en :: ou) e cls a0 s.heap) (dd : ∃ o',s.heap.get? e = some o' /\ o'.dict = dv /\ fld2 o' = some .none)
    (h : ∀ h',Heap.HeldW bs (en :: ou) e cls a0 L h' -> (∃ o',h'.get? e = some o' /\ o'.dict = dv /\ fld2 o' = some .none) -> s.heap.UpToSlots h' -> Q () { s with heap:=h' }) : wpAny M A (noteFrame (.ref e) en) Q E s:=by
  obtain ⟨kb,ne,ff,oe,ws,T,oT,ts,he,⟨hc,z0⟩,od,z1,nT,Te,hT,dT,z3⟩:=fl
  obtain ⟨o',ho',hdv,hfl⟩:=dd
  rw [he] at ho'
  cases ho'
  unfold noteFrame
  simp only [ef]
  refine wpAny_bind (wpAny_field he od z1 ?_)
  rw [if_pos (show (Value.ref T != Value.none) = true by simp)]
  refine wpAny_bind (wpAny_field hT dT z3 ?_)
  rw [if_neg (show ¬ ((Value.none == rawInt L) = true) by simp [rawInt])]
  refine wpAny_bind (wpAny_setField hT dT (Array.getElem?_eq_some_iff.mp z3).1 ?_)
  have ot : ∀ b,b ≠ T -> (s.heap.update T (Obj.mapFields (·.setIfInBounds 3 Value.none))).get? b = s.heap.get? b:=fun b n=>Heap.get?_update_other _ _ n.symm
  have nr : ∀ b o,s.heap.get? b = some o -> (∀ ws,o.data ≠ .fields ws) -> b ≠ T:=fun b o q n z=>by
    rw [z,hT] at q
    cases q
    exact n ts dT
  refine note_entry_dict fr (ff.of_keeps fun b o q n=>⟨o,(ot b (nr b o q n)).trans q,rfl⟩) ef ((ot e Te.symm).trans he) (fun b o q=>(ot b fun z=>by rw [z,nT] at q; cases q).trans (kb b o q)) ne od (Array.getElem?_eq_some_iff.mp z1).1 z0 fun h' nt d'=>?_
  obtain ⟨k1,k2,k3,k4⟩:=nt
  rw [hc] at k3
  exact h h' ⟨k1,ne,k2,k3⟩ (d'.imp fun o q=>⟨q.1,q.2.1.trans hdv,q.2.2.trans hfl⟩) fun b o q n=>k4 b o ((ot b (nr b o q n)).trans q) n
theorem flight_dict {l : List Env} {cls fv : Value} {dv : Option Addr} (kb : bs.StaysIn s.heap) (ne : bs.get? e = none) (ff : s.heap.FunFrames bs l) (tr : s.heap.TracedAtW bs e cls a0 fv) (dd : ∃ o',s.heap.get? e = some o' /\ o'.dict = dv /\ fld2 o' = some .none)
    (h : ∀ h',Heap.FlyingW bs l e cls a0 h' -> (∃ o',h'.get? e = some o' /\ o'.dict = dv /\ fld2 o' = some .none) -> s.heap.UpToSlots h' -> Q () { s with heap:=h' }) : wpAny M A (setFlight (.ref e) none) Q E s:=by
  obtain ⟨oe,ws,T,oT,ts,he,hc,od,z1,nT,Te,hT,dT,z3⟩:=tr
  obtain ⟨o',ho',hdv,hfl⟩:=dd
  have s3:=(Array.getElem?_eq_some_iff.mp z3).1
  have ot : ∀ b,b ≠ T -> (s.heap.update T (Obj.mapFields (·.setIfInBounds 3 ((none : Option Addr).elim Value.none fun f=>rawInt f)))).get? b = s.heap.get? b:=fun b n=>Heap.get?_update_other _ _ n.symm
  have nr : ∀ b o,s.heap.get? b = some o -> (∀ ws,o.data ≠ .fields ws) -> b ≠ T:=fun b o q n z=>by
    rw [z,hT] at q
    cases q
    exact n ts dT
  unfold setFlight
  refine wpAny_bind (wpAny_field he od z1 ?_)
  rw [if_pos (show (Value.ref T != Value.none) = true by simp)]
  refine wpAny_setField hT dT s3 (h _ ⟨fun b o q=>(ot b fun z=>by rw [z,nT] at q; cases q).trans (kb b o q),ne,ff.of_keeps fun b o q n=>⟨o,(ot b (nr b o q n)).trans q,rfl⟩,?_⟩ ⟨o',(ot e Te.symm).trans ho',hdv,hfl⟩ fun b o q n=>⟨o.slots,(ot b (nr b o q n)).trans q⟩)
  exact ⟨oe,ws,T,_,_,(ot e Te.symm).trans he,hc,od,z1,nT,Te,Heap.get?_update_self _ hT (Obj.isFreed_of_fields (Obj.data_mapFields dT _)),Obj.data_mapFields dT _,by simp [s3]⟩
end
end PySem
namespace L2
open PySem PySem.Spec PyProof.Rows
def CXD (P : Program) (w : World) : CXT:=fun outer H s E e s'=>∃ a cls a0 dv H' B,e = Value.ref a /\ Fly P w outer H H' s s' a cls a0 B /\ (∃ o',s'.heap.get? a = some o' /\ o'.dict = dv /\ fld2 o' = some .none) /\ E cls dv H'
theorem pass00D {P : Program} {w : World} {X : Cx} : Passes (CXD P w) X E0:=fun _ _ _ _ _ _ _ h=>by
  obtain ⟨_,_,_,_,_,_,_,_,_,z⟩:=h
  exact z.elim
section
variable {P : Program} {w : World} {K : PySem.W.Frag} {mg : Str -> Option Value} {base : Heap} {N : List Str} {qual : Str} {scope : Scope} {f : Addr} {cd : Value} {A : Around} {outer : List Env} {s : Shared} {H : Hp} {E : XK}
abbrev cxD (P : Program) (w : World) (K : PySem.W.Frag) (mg : Str -> Option Value) (base : Heap) (N : List Str) (qual : Str) (scope : Scope) (f : Addr) (cd : Value) (A : Around) (outer : List Env) (s : Shared) (H : Hp) (E : XK) : Cx:=cxOf (CXD P w) P w K mg base N qual scope f cd A outer s H E
theorem stk_neD {pins : List (Addr × Obj)} {σ : St} {H1 : Hp} {s1 : Shared} (I : Inv (cxD P w K mg base N qual scope f cd A outer s H E) pins σ H1 s1) {b : Addr} {o : Obj} (e : s.heap.get? b = some o) (n : b ∉ frs outer) : b ∉ frs (cxD P w K mg base N qual scope f cd A outer s H E).stack:=fun hb=>by
  rcases List.mem_cons.mp (I.stkSub b hb) with z | z
  · have h1 : b < s.heap.objs.size:=Heap.lt_size e
    have h2 : s.heap.objs.size <= (cxD P w K mg base N qual scope f cd A outer s H E).env.locals:=I.ok.above
    rw [<- z] at h2
    exact absurd (Nat.lt_of_lt_of_le h1 h2) (Nat.lt_irrefl _)
  · exact n z
theorem frs_subD {b : Addr} (h : b ∈ frs outer) : b ∈ frs (cxD P w K mg base N qual scope f cd A outer s H E).stack:=by
  show b ∈ frs (_ :: outer)
  unfold frs at h ⊢
  rw [List.filterMap_cons]
  split
  · exact h
  · exact List.mem_cons_of_mem _ h
theorem raiseD {pins : List (Addr × Obj)} {σ : St} {H1 : Hp} {s1 : Shared} {hx : Heap} {e C t : Addr} {dv : Option Addr} (I : Inv (cxD P w K mg base N qual scope f cd A outer s H E) pins σ H1 s1)
    (hk : ∀ b o,b ≠ e -> s1.heap.get? b = some o -> hx.get? b = some o) (he1 : ∀ o,s1.heap.get? e = some o -> ∃ vs,o.data = .fields vs) (new : s.heap.get? e = none) (hH : H1 e = none)
    (oe : hx.get? e = some { cls:=.ref C,dict:=dv,data:=.fields #[.ref t,.none,.none,.none,.bool false,.none] }) (hE : E (.ref C) dv H1) :
    (cxD P w K mg base N qual scope f cd A outer s H E).xe (.ref e) { s1 with heap:=hx }:=by
  have hin : ∀ en ∈ (cxD P w K mg base N qual scope f cd A outer s H E).stack,∀ b,en.frame = some b -> b ∈ e :: frs (cxD P w K mg base N qual scope f cd A outer s H E).stack:=fun en he b hb=>List.mem_cons_of_mem _ (List.mem_filterMap.mpr ⟨en,he,hb⟩)
  have ff:=PySem.W.funFrames_hide I.stack hin
  have nee : ∀ b o,s1.heap.get? b = some o -> (∀ vs,o.data ≠ .fields vs) -> b ≠ e:=fun b o q n z=>by
    subst z
    obtain ⟨vs,d⟩:=he1 o q
    exact n vs d
  have hid : (PySem.W.hideAll s1.heap (e :: frs (cxD P w K mg base N qual scope f cd A outer s H E).stack)).get? e = none:=PySem.W.hideAll_none _ List.mem_cons_self
  have kb : (PySem.W.hideAll s1.heap (e :: frs (cxD P w K mg base N qual scope f cd A outer s H E).stack)).StaysIn hx:=fun b o q=>hk b o (fun z=>by rw [z,hid] at q; cases q) (PySem.W.of_hideAll _ q)
  show wpAny (model P w) _ (leaving _ (.ref e)) _ _ _
  refine leave1_dict (bs:=PySem.W.hideAll s1.heap (e :: frs (cxD P w K mg base N qual scope f cd A outer s H E).stack)) (a0:=.ref t) (s:={ s1 with heap:=hx }) I.ok.frames (ff.of_keeps fun b o q n=>⟨o,hk b o (nee b o q n) q,rfl⟩) rfl oe kb hid rfl rfl rfl fun h2 lf dd=>?_
  obtain ⟨k1,⟨_,_,k2⟩,k3,k4⟩:=lf
  have noex : ∀ b : Addr,b ∉ (cxD P w K mg base N qual scope f cd A outer s H E).ex:=fun b z=>absurd (show b ∈ ([] : List Addr) from z) (by simp)
  have nse : ∀ b o,s.heap.get? b = some o -> b ≠ e:=fun b o q z=>by rw [z,new] at q; cases q
  have out : ∀ b o,s.heap.get? b = some o -> b ∉ frs outer -> b ∉ e :: frs (cxD P w K mg base N qual scope f cd A outer s H E).stack:=fun b o q n m=>by
    rcases List.mem_cons.mp m with z | z
    · exact nse b o q z
    · exact stk_neD I q n z
  refine ⟨e,.ref C,.ref t,dv,H1,_,rfl,⟨I.os,I.bare,⟨k1,hid,k2,k3⟩,fun b u q=>?_,fun b o q n hb=>?_,fun b o q hb=>?_,fun b o q hb=>?_,fun b o q n=>I.base.free b o q n (noex b),I.base.tups,I.base.frzs,I.base.tbls⟩,dd,hE⟩
  · have ne : ∀ c v,H1 c = some v -> c ∉ e :: frs (cxD P w K mg base N qual scope f cd A outer s H E).stack:=fun c v z m=>by
      rcases List.mem_cons.mp m with m | m
      · rw [m,hH] at z; cases z
      · rw [I.stkFree c m] at z; cases z
    refine (I.hok b u q).stay (fun c v hc r=>PySem.W.hideAll_get _ r ?_) (fun _ r=>r) fun _ _ r=>r
    rcases hc with rfl | hc
    · exact ne c u q
    · exact ne c _ hc
  · exact PySem.W.hideAll_get _ (I.base.keep b o q n hb (noex b)) (out b o q hb)
  · obtain ⟨o',z⟩:=I.base.there b o q (noex b)
    exact ⟨o',PySem.W.hideAll_get _ z (out b o q hb)⟩
  · obtain ⟨sl,z⟩:=I.base.slot b o q (I.ok.frf b hb) hb (noex b)
    obtain ⟨_,o',ho',hnf⟩:=I.ok.funs.mem hb
    have ho2 : s.heap.get? b = some o':=ho'
    rw [q] at ho2
    cases ho2
    obtain ⟨sl',z'⟩:=k4 b _ (hk b _ (nse b o q) z) hnf
    exact ⟨sl',z'⟩
theorem pass_onD : Passes (CXD P w) (cxD P w K mg base N qual scope f cd A outer s H E) E:=by
  intro pins σ H1 s1 e s' I h
  obtain ⟨a,cls,a0,dv,H',B,rfl,F,dd,hE⟩:=h
  show wpAny (model P w) _ (leaving _ (.ref a)) _ _ _
  have noex : ∀ b : Addr,b ∉ (cxD P w K mg base N qual scope f cd A outer s H E).ex:=fun b z=>absurd (show b ∈ ([] : List Addr) from z) (by simp)
  refine leave2_dict I.ok.frames rfl F.fl dd fun h2 x1 d2 x2=>?_
  refine ⟨a,cls,a0,dv,H',B,rfl,⟨F.os.trans I.os,F.bare,x1,F.hokB,fun b o q n hb=>?_,fun b o q hb=>?_,fun b o q hb=>?_,fun b o q n=>?_,fun b xs q=>F.tups b xs (I.base.tups b xs q),fun b o u q=>F.frzs b o u (I.base.frzs b o u q),fun b ps q=>?_⟩,d2,hE⟩
  · exact F.keep b o (I.base.keep b o q n hb (noex b)) (I.base.free b o q n (noex b)) (stk_neD I q hb)
  · obtain ⟨o',z⟩:=I.base.there b o q (noex b)
    exact F.there b o' z (stk_neD I q hb)
  · obtain ⟨sl,z⟩:=I.base.slot b o q (I.ok.frf b hb) hb (noex b)
    obtain ⟨_,o',ho',hnf⟩:=I.ok.funs.mem hb
    have ho2 : s.heap.get? b = some o':=ho'
    rw [q] at ho2
    cases ho2
    obtain ⟨sl',z'⟩:=F.slot b _ z (frs_subD hb)
    obtain ⟨sl2,z2⟩:=x2 b _ z' hnf
    exact ⟨sl2,z2⟩
  · obtain ⟨o',z⟩:=I.base.there b o q (noex b)
    exact F.free b o' z (I.base.free b o q n (noex b))
  · obtain ⟨m1,e1⟩:=I.base.tbls b ps q
    obtain ⟨m2,e2⟩:=F.tbls b _ e1
    exact ⟨m1 ++ m2,by rw [e2,Array.append_assoc]⟩
end
section
variable {X : Cx}
def RaiseD (X : Cx) (E : XK) : Prop:=∀ (pins : List (Addr × Obj)) (σ : St) (H0 H1 : Hp) (s0 s1 : Shared) (hx : Heap) (e C t : Addr) (dv : Option Addr),Inv X pins σ H0 s0 -> s0.heap.get? e = none -> Inv X pins σ H1 s1 -> (∀ b o,b ≠ e -> s1.heap.get? b = some o -> hx.get? b = some o) ->
  (∀ o,s1.heap.get? e = some o -> ∃ vs,o.data = .fields vs) -> H1 e = none -> hx.get? e = some { cls:=.ref C,dict:=dv,data:=.fields #[.ref t,.none,.none,.none,.bool false,.none] } -> E (.ref C) dv H1 -> X.xe (.ref e) { s1 with heap:=hx }
theorem ps_raiseD {x : Str} {C : Addr} {e : Expr} {t : TA} {E : XK} {np cpos pos : Pos} (hcalm : X.calm = true) (RO : RaiseD X E) (hg : Gl X x) (hm : X.mg x = some (.ref C)) (q : PySem.W.excIn X.K C bmVE "ValueError.__new__" = true) (ha : PA X [e] t)
    (hdb : (x == ("__debug__" : Str)) = false:=by decide) (he : starEach [e] X.env = [(false,eval e X.env)]:=by rfl) : PS X (.Raise (some (.Call (.Name x np) [e] [] cpos)) none pos) (tRaise C E t):=by
  intro pins s σ H D I h
  obtain ⟨tl,N,nm,qn,bs,hdct,sn,sub,ab,col,dd,k0,k1,k2,k3,k5,mN,hC,hN,hni,T⟩:=(own_obj I.mod.kin hm q).obj
  refine wpAny_Raise_call_subU (C:=C) (nm:=nm) (q:=qn) (N:=N) (bs:=bs) (bm:=tl) (hdct:=hdct) (sn:=sn) (sub:=sub) (ab:=ab) (col:=col) (dd:=dd) (k0:=k0) (k1:=k1) (k2:=k2) (k3:=k3) (k5:=k5)
    PySem.F.excBase_ValueError (by decide +kernel) PySem.F.excBase_ValueError (mN:=mN) (T.hasType (by decide +kernel)) (I.ok.hd hcalm) (by rw [he]; rfl) hni (ld_glob I hg hm ⟨rfl,?_⟩ hdb)
  have ha':=ha cpos pins s σ H _ I h
  rw [he] at ha' ⊢
  refine Calls.evalArgs_plain (wpAny_mono ha' (fun us s1 ⟨vs,H1,I1,r,z,hE⟩=>?_) fun _ _ y=>y)
  refine ⟨rfl,by rw [<- r.length]; exact z,I1.bk _ _ hC,hN.keeps I1.bk,T.keeps I1.bk,fun h' e' hx=>?_⟩
  obtain ⟨t,oe,_,_⟩:=hx.there
  exact RO pins σ H1 H1 s1 s1 h' e' C t none I1 hx.new I1 (fun b o _ k=>hx.keeps b o k) (fun o k=>by rw [hx.new] at k; cases k) (I1.hok.none_of hx.new) oe hE
end
theorem raiseDok {P : Program} {w : World} {K : PySem.W.Frag} {mg : Str -> Option Value} {base : Heap} {N : List Str} {qual : Str} {scope : Scope} {f : Addr} {cd : Value} {A : Around} {outer : List Env} {s : Shared} {H : Hp} {E : XK} :
    RaiseD (cxD P w K mg base N qual scope f cd A outer s H E) E:=fun pins σ H0 H1 s0 s1 hx e C t dv I0 g0 I hk he1 hH oe hE=>by
  refine raiseD I hk he1 ?_ hH oe hE
  cases q : s.heap.get? e with
  | none=>rfl
  | some o=>
    obtain ⟨o',z⟩:=I0.base.there e o q (fun z=>absurd (show e ∈ ([] : List Addr) from z) (by simp))
    rw [g0] at z; cases z
theorem Fun.okD {P : Program} {w : World} {K : PySem.W.Frag} {mg : Str -> Option Value} {base : Heap} {x qual : Str} {st : Stmt} {f : Addr} {fd : FuncData} {N ps : List Str} {k : Nat} {sp : Sp} (F : Fun K x qual st f fd) (S : FnScope N ps (defScope st)) (len : ∀ vs H Q E,sp vs H Q E -> vs.length = ps.length)
    (hbody : ∀ (cdv : Value) (A : Around) (outer : List Env) (s : Shared) (H : Hp) (vs : List V) (Q : VK) (E : XK),Room k (A.deeper (envOfC qual (defScope st) s.heap.objs.size f cdv)) -> sp vs H Q E ->
      ∃ t,PSs (cxD P w K mg base N qual (defScope st) f cdv A outer s H E) (defBody st) t /\ t { nx:=fun _ H'=>Q .non H',rt:=Q } (start N vs) H) : FnOk P w K mg base (CXD P w) (k + 1) f fd ps sp:=by
  obtain ⟨oc,od,kV,doc,pm,an,cdv,ct,osl,rfl,lk,hcd⟩:=F.ex
  exact fn_of lk hcd S len fun A outer s H vs Q E hr hsp=>hbody cdv A outer s H vs Q E hr hsp
end L2
namespace L2
open PySem PySem.Spec PyProof.Rows PySem.W PySem.Builtin.Getset_descriptor
def IsXD (x C : Addr) (dv : Option Addr) (h : Heap) : Prop:=∃ ox vs,h.get? x = some ox /\ ox.cls = .ref C /\ ox.dict = dv /\ ox.data = .fields vs /\ vs[2]? = some .none
theorem IsXD.x {x C : Addr} {dv : Option Addr} {h : Heap} (I : IsXD x C dv h) : IsX x C h:=let ⟨ox,_,a,b,_⟩:=I; ⟨ox,a,b⟩
theorem extD_ok {P : Program} {w : World} {H : Hp} {h : Heap} {a C : Addr} {dv : Option Addr} (I : IsXD a C dv h) : ObjOk P w H h a (.ext (IsXD a C dv)):=
  ⟨I,(let ⟨o,_,e,_⟩:=I; ⟨o,e⟩),fun h1 h2 ⟨o,vs,e,c⟩ k=>⟨o,vs,k o e,c⟩⟩
end L2
namespace L2
open PySem PySem.Spec PyProof.Rows
section
variable {X : Cx}
theorem call_isxD (K : PySem.W.Frag) (hK : X.K = K:=by rfl) : CallR X (.builtin "isinstance") (fun xs H Q=>∃ (a C : Addr) (dv : Option Addr) (c : V) (cv : Value) (b : Bool),xs = [.ref a,c] /\ clsV c = some cv /\ H a = some (.ext (IsXD a C dv)) /\ XCls K C /\ PySem.W.kitOne K (.ref C) cv = some b /\ Q (.bl b) H):=by
  subst hK
  intro pins s σ H xs us Q I r h
  obtain ⟨a,C,dv,c,cv,b,rfl,hc,ha,F,e,q⟩:=h
  obtain ⟨u,w',rfl,r1,r2⟩:=vals2 r
  cases r1
  rw [clsV_rel hc r2]
  exact PySem.W.kia_one (kitx_exc F) I.kIn (I.hok a _ ha).1.x e (fun z=>nomatch z) fun tk=>⟨.bl b,H,I.tok tk,rfl,q⟩
end
end L2
namespace L2
open PySem PySem.Spec PyProof.Rows PySem.W PySem.Builtin.Getset_descriptor
section
variable {X : Cx} {pins : List (Addr × Obj)} {σ : St} {H H' : Hp} {s s' : Shared} {a C : Addr}
theorem handleR {cn n : Str} {i : Nat} {CC : Addr} {a0 : Value} {B : Heap} {dv : Option Addr} {np hpos : Pos} {b₀ : Stmt} {suite : List Stmt} {ts : TS} {D : Ends} (hN : X.N.Nodup) (hi : X.N[i]? = some n) (hk : X.env.scope.names.lookup n = some .local) (hex : ∀ b,b ∉ X.ex)
    (hst : X.stack = X.env :: X.outer) (hfr : X.env.frame = some X.env.locals) (hg : Gl X cn) (hm : X.mg cn = some (.ref CC)) (hx : exmOne X.K (.ref C) (.ref CC) = some true) (I : Inv X pins σ H s) (F : Fly X.prog X.w X.stack H H' s s' a (.ref C) a0 B) (dd : ∃ o',s'.heap.get? a = some o' /\ o'.dict = dv /\ fld2 o' = some .none)
    (hsuite : PSs (suiteCx X a) (b₀ :: suite) ts) (q : ts { nx:=fun σ2 H2=>D.nx (σ2.set i none) H2,rt:=D.rt } (σ.set i (some (.ref a))) (upd H' a (.ext (IsXD a C dv)))) (hdb : (cn == ("__debug__" : Str)) = false:=by decide) :
    wpAny (model X.prog X.w) X.A (noteFrame (.ref a) X.env) (fun _ s₂=>wpAny (model X.prog X.w) X.A (setFlight (.ref a) none) (fun _ s₃=>wpAny (model X.prog X.w) X.A (handleBy (.ref a) X.env [.ExceptHandler (some (.Name cn np)) (some n) (b₀ :: suite) hpos]) (SP X pins D) X.xe s₃) X.xe s₂) X.xe s':=by
  have hcls : (X.env.scope.kind == .class || (X.env.scope.kind == .module && X.env.locals != X.env.globals)) = false:=by rw [I.ok.kind]; rfl
  have fl0:=F.fl
  rw [hst] at fl0
  refine look_dict (by rw [<- hst]; exact I.ok.frames) hfr fl0 dd fun h4 held4 d4 sm4=>?_
  refine flight_dict (s:={ s' with heap:=h4 }) held4.1 held4.2.1 held4.2.2.1 held4.2.2.2 d4 fun h5 fl5 d5 sm5=>?_
  obtain ⟨n1,n2⟩:=F.new
  have I5 : Inv X pins σ H' { s' with heap:=h5 }:=F.inv I fl5.1 (sm4.trans sm5)
  obtain ⟨ob,hob,hobc⟩:=fl5.there
  have LT : Looks (model X.prog X.w) h5 (typeOf (.ref a)) (.ref C):=IsX.type ⟨ob,hob,hobc⟩
  refine wpAny_handleBy_cons (codeAny_handlers_test (ld_glob (X:=suiteCx X a) (I5.suite a) hg hm ?_ hdb)) (by intro z; cases z)
  refine (exm_one (h:=h5) I5.kIn LT hx).at ?_
  refine codeAny_handlers_suite_as ?_
  refine flight_dict (s:={ s' with heap:=h5 }) fl5.1 fl5.2.1 fl5.2.2.1 fl5.2.2.2.at d5 fun h6 fl6 d6 sm6=>?_
  have I6 : Inv X pins σ H' { s' with heap:=h6 }:=F.inv I fl6.1 ((sm4.trans sm5).trans sm6)
  obtain ⟨ob6,vs6,hob6,hobc6,hod6,_⟩:=fl6.first
  obtain ⟨o',ho',hd',hf'⟩:=d6
  rw [hob6] at ho'
  cases ho'
  have I7 : Inv X pins σ (upd H' a (.ext (IsXD a C dv))) { s' with heap:=h6 }:=Inv.track I hex n1 I6 n2 (extD_ok ⟨ob6,vs6,hob6,hobc6,hd',hod6,by unfold fld2 at hf'; rw [hod6] at hf'; exact hf'⟩)
  refine store_ok (X:=suiteCx X a) (v:=.ref a) (I7.suite a) hN hi (.inl hk) rfl (fun s8 I8=>?_) (.inr hk)
  refine wpAny_mono (hsuite pins s8 _ _ _ I8 q) (fun f s9 h9=>?_) fun _ _ z=>z.elim
  cases f with
  | next=>
    obtain ⟨σ9,H9,I9,q9⟩:=h9
    have I9':=I9.unsuite I.ok
    obtain ⟨m,hn,hl⟩:=id I9'.loc
    exact wpAny_nameGoes_keeps hk hn hcls fun h10 v hn' hs'=>⟨_,_,I9'.forget hN hi hl hn' hs',q9⟩
  | brk=>obtain ⟨_,_,_,z⟩:=h9; exact z.elim
  | cont=>obtain ⟨_,_,_,z⟩:=h9; exact z.elim
  | ret u=>
    obtain ⟨v9,σ9,H9,I9,r9,q9⟩:=h9
    have I9':=I9.unsuite I.ok
    obtain ⟨m,hn,hl⟩:=id I9'.loc
    exact wpAny_nameGoes_keeps hk hn hcls fun h10 v hn' hs'=>⟨v9,_,_,I9'.forget hN hi hl hn' hs',r9,q9⟩
end
end L2
namespace L2
open PySem PySem.Spec PyProof.Rows PySem.SeqAt
section
variable {X : Cx}
theorem countB {bs : List Bool} {its : List Value} (r : Vals (bs.map V.bl) its) : its.countP (isBoolOf true) = bs.countP id:=by
  induction bs generalizing its with
  | nil=>cases r; rfl
  | cons b bs ih=>
    cases r with
    | cons a r=>
      cases a
      rw [List.countP_cons,List.countP_cons,ih r]
      cases b <;> rfl
theorem eqB {bs : List Bool} {its : List Value} (r : Vals (bs.map V.bl) its) : ∀ y,y ∈ its -> ∀ (A : Around) (s : Shared),EqAt A s y (.bool true) (isBoolOf true y):=by
  induction bs generalizing its with
  | nil=>cases r; intro y hy; exact absurd hy (by simp)
  | cons b bs ih=>
    cases r with
    | cons a r=>
      cases a
      intro y hy A s
      rcases List.mem_cons.mp hy with e4 | hy
      · rw [e4]; exact EqAt.bool_bool b true
      · exact ih r y hy A s
def rCountB : V -> List V -> Hp -> VK -> Prop:=fun x vs H Q=>∃ (l : Addr) (bs : List Bool),x = .ref l /\ vs = [.bl true] /\ H l = some (.lst (bs.map V.bl)) /\ Q (.int (bs.countP id : Nat)) H
theorem mt_countB : MtR X "list.count" rCountB:=by
  intro pins s σ H x vs v us Q I rx rv h
  obtain ⟨l,bs,rfl,rfl,hH,q⟩:=h
  cases rx
  obtain ⟨u,rfl,ru⟩:=rv.one
  obtain rfl : u = Value.bool true:=ru
  obtain ⟨z,its,n,r,hl,e⟩:=I.lstM hH
  refine call_meets PySem.F.slot_list_count ⟨_,e,rfl⟩ PySem.F.entry_list_count (PySem.F.args_list_count_2 _ _) (list_countAt l its.toArray n none #[] (.bool true) (isBoolOf true)) ⟨e,fun y hy=>eqB r y (by simpa using hy) _ _,?_⟩
  rw [show its.toArray.toList = its from rfl,countB r]
  exact ⟨.int _,H,I.tok _,⟨_,rfl⟩,q⟩
def rIndexB : V -> List V -> Hp -> VK -> Prop:=fun x vs H Q=>∃ (l : Addr) (bs : List Bool) (j : Nat),x = .ref l /\ vs = [.bl true] /\ H l = some (.lst (bs.map V.bl)) /\ bs.length <= 1000 /\ bs[j]? = some true /\ (∀ m,m < j -> bs[m]? = some false) /\ Q (.int (j : Nat)) H
theorem mt_indexB : MtR X "list.index" rIndexB:=by
  intro pins s σ H x vs v us Q I rx rv h
  obtain ⟨l,bs,j,rfl,rfl,hH,hz,hj,hno,q⟩:=h
  cases rx
  obtain ⟨u,rfl,ru⟩:=rv.one
  obtain rfl : u = Value.bool true:=ru
  obtain ⟨z,its,n,r,hl,e⟩:=I.lstM hH
  rw [List.length_map] at hl
  have lj : j < bs.length:=(List.getElem?_eq_some_iff.mp hj).1
  have at' : ∀ m (hm : m < its.toArray.size) b,bs[m]? = some b -> its.toArray[m] = Value.bool b:=fun m hm b hb=>by
    obtain ⟨u,hu,ru⟩:=r.get (show (bs.map V.bl)[m]? = some (V.bl b) by rw [List.getElem?_map,hb]; rfl)
    obtain rfl : u = Value.bool b:=ru
    have : its.toArray[m]? = some (Value.bool b):=by simpa using hu
    exact (Array.getElem?_eq_some_iff.mp this).2
  refine call_meets PySem.F.slot_list_index ⟨_,e,rfl⟩ PySem.F.entry_list_index (PySem.F.args_list_index_2 _ _)
    (list_indexAt l its.toArray n none #[] (.bool true) (isBoolOf true) j (by rw [List.size_toArray,<- hl]; exact lj) (by omega) ?_ ?_) ⟨e,fun y hy=>eqB r y (by simpa using hy) _ _,⟨.int _,H,I.tok _,⟨_,rfl⟩,q⟩⟩
  · rw [at' j _ true hj]; rfl
  · intro m hm hlt
    rw [at' m hm false (hno m hlt)]; rfl
end
end L2
namespace L2
open PySem PySem.Spec PyProof.Rows
section
variable {X : Cx}
def rCatT0 (K : PySem.W.Frag) : R2:=fun x y H Q=>∃ a b ys,x = .ref a /\ y = .ref b /\ SqT K H a [] /\ SqT K H b ys /\ Q (.ref b) H
theorem op_catT0 : OpR X (binaryOp .Add) (rCatT0 X.K):=by
  intro pins s σ H x y v u Q I rx ry h
  obtain ⟨a,b,ys,rfl,rfl,ha,hb,q⟩:=h
  cases rx
  cases ry
  obtain ⟨its,r1,p1,_⟩:=I.tuple ha
  obtain ⟨its2,r2,p2,_⟩:=I.tuple hb
  have e1 : its = []:=r1.nil_iff.mpr rfl
  subst e1
  obtain ⟨⟨cls,dd,data,sl⟩,ho,hc,n,hd⟩:=id p1
  obtain ⟨⟨cls2,dd2,data2,sl2⟩,ho2,hc2,n2,hd2⟩:=id p2
  simp only at hc hd hc2 hd2
  subst hc hd hc2 hd2
  exact concat_meets ⟨_,ho,rfl⟩ ⟨_,ho2,rfl⟩ noFill_tuple_add seq_tuple_add PySem.F.slot_tuple_add PySem.F.entry_tuple_add (PySem.F.args_tuple_add_2 _ _)
    (tuple_addW0 a b ([] : List Value).toArray its2.toArray n n2 dd dd2 sl sl2 (by simp)) ⟨ho,ho2,⟨.ref b,H,I,rfl,q⟩⟩
abbrev rCat2 (K : PySem.W.Frag) : R2:=fun x y H Q=>rCatT K x y H Q \/ rCatT0 K x y H Q
theorem op_cat2 : OpR X (binaryOp .Add) (rCat2 X.K):=op_catT.or op_catT0
end
end L2
namespace L2
open PySem PySem.Spec PyProof.Rows
def PTs (X : Cx) (ifs : List Expr) (t : TT) : Prop:=
  ∀ (pins : List (Addr × Obj)) (s : Shared) (σ : St) (H : Hp) (Q : Bool -> Hp -> Prop),Inv X pins σ H s -> t σ H Q ->
    wpAny (model X.prog X.w) X.A (forIn ifs true fun c r=>if r = true then do let ok <- isTrue c X.env (eval c X.env); pure (ForInStep.yield ok) else pure (ForInStep.yield r)) (TP X pins σ Q) X.xe s
def tTrue : TT:=fun _ H Q=>Q true H
theorem pts_nil {X : Cx} : PTs X [] tTrue:=fun _ _ _ H _ I h=>wpAny_tests_nil ⟨H,I,h⟩
def compBodyT (J : It) (cap : List (Option Nat)) (g : TG) (tt : TT) (te : TE) (σ : St) (H1 : Hp) (Q : VK) : Prop:=∀ acc,H1 acc = none ->
  ∃ W : Nat -> Nat -> List V -> St -> Hp -> Prop,(∃ m,W 0 m [] (capOf cap σ) (upd H1 acc (.lst []))) /\ ∀ i m ys σ' H',W i m ys σ' H' -> H' acc = some (.lst ys) /\
    ((J.stop i H' /\ Q (.ref acc) H') \/ (J.go i H' /\ ys.length < sizeLine /\ ∀ x H2,J.yld i H' x H2 -> g x σ' H2 fun σ3 H3=>tt σ3 H3 fun b H4=>
      if b = true then te σ3 H4 fun y H5=>H5 acc = some (.lst ys) /\ ∃ m',m' < m /\ W (i + 1) m' (ys ++ [y]) σ3 (upd H5 acc (.lst (ys ++ [y])))
      else ∃ m',m' < m /\ W (i + 1) m' ys σ3 H4))
def tCompT (cap : List (Option Nat)) (wi : TI) (g : TG) (tt : TT) (te : TE) : TE:=fun σ H Q=>wi σ H fun J H1=>compBodyT J cap g tt te σ H1 Q
section
variable {prog : Program} {w : World} {A : Around} {R : Result -> Shared -> Prop} {s : Shared}
theorem compLoop_anyT {elt target iter : Expr} {ifs : List Expr} {scope : Scope} {pos : Pos} {it acc : Value} {env : Env} (I : Nat -> Shared -> Prop)
    (turn : ∀ n s,I n s -> wpAny (model prog w) A (pyNext it) (fun r s₁=>match r with
      | none=>R (.ok .next) s₁
      | some v=>wpAny (model prog w) A (letOwnedTupleGo target it v) (fun _ s₁'=>wpAny (model prog w) A (assign target env v) (fun _ s₂=>
          wpAny (model prog w) A (forIn ifs true fun c r=>if r = true then do let ok <- isTrue c env (eval c env); pure (ForInStep.yield ok) else pure (ForInStep.yield r)) (fun ok s₃=>
            if ok = true then wpAny (model prog w) A (eval elt env) (fun x s₄=>
              wpAny (model prog w) A (call (.builtin "list.append") [acc,x]) (fun _ s₅=>∃ m,m < n /\ I m s₅) (fun _ _=>False) s₄) (fun _ _=>False) s₃
            else ∃ m,m < n /\ I m s₃) (fun _ _=>False) s₂)
          (fun _ _=>False) s₁') (fun _ _=>False) s₁) (fun _ _=>False) s)
    (n : Nat) (h : I n s) : codeAny (model prog w) A (.compLoop (.ListComp elt [⟨target,iter,ifs,0⟩] scope pos) 0 it acc env) R s:=by
  refine codeAny_loop rfl I (fun n s hI=>?_) n h
  show wpAny _ A ((compTurn (.ListComp elt [⟨target,iter,ifs,0⟩] scope pos) 0 it acc env).onRaise (fun x=>do noteFrame x env; theTreesLotGoes x)) _ _ s
  refine wpAny_noted ?_
  rw [compTurn_list]
  refine wpAny_bind (wpAny_standAt (wpAny_bind (wpAny_mono (turn n s hI) (fun r s₁ h₁=>?_) fun _ _ h'=>h'.elim)))
  cases r with
  | none=>exact wpAny_pure h₁
  | some v=>
    refine wpAny_bind (wpAny_mono h₁ (fun _ s₁' h₁'=>?_) fun _ _ h'=>h'.elim)
    refine wpAny_bind (wpAny_mono h₁' (fun _ s₂ h₂=>wpAny_bind (wpAny_mono h₂ (fun ok s₃ h₃=>?_) fun _ _ h'=>h'.elim)) fun _ _ h'=>h'.elim)
    cases ok with
    | true=>
      rw [if_pos rfl] at h₃
      exact wpAny_bind (wpAny_bind (wpAny_mono h₃ (fun x s₄ h₄=>wpAny_bind (wpAny_mono h₄ (fun _ s₅ h₅=>wpAny_pure (wpAny_pure ⟨rfl,h₅⟩)) fun _ _ h'=>h'.elim)) fun _ _ h'=>h'.elim))
    | false=>
      rw [if_neg Bool.false_ne_true] at h₃
      exact wpAny_bind (wpAny_pure (wpAny_pure ⟨rfl,h₃⟩))
end
section
variable {X : Cx}
theorem comp_coreT {elt tg iter : Expr} {ifs : List Expr} {tt : TT} {pos : Pos} {N N' : List Str} {sc scE : Scope} {cap : List (Option Nat)} {wi : TI} {g : TG} {te : TE} {use : Option (Value -> Sem Unit)} {QQ : Value -> Shared -> Prop} (hcalm : X.calm = true) (hi : PI X tg iter wi)
    (hg : ∀ cl C s0 H0 ex,PG (blkC X N' sc cl C s0 H0 ex) tg g) (he : ∀ cl C s0 H0 ex,PE (blkC X N' sc cl C s0 H0 ex) elt te) (htt : ∀ cl C s0 H0 ex,PTs (blkC X N' sc cl C s0 H0 ex) ifs tt)
    (hN : X.N = N) (hE : X.env.scope = scE) (hc : compOkC N N' sc scE cap = true) (hs : ∀ x,foldedSetIterable iter X.env x = pure x)
    {pins : List (Addr × Obj)} {s : Shared} {σ : St} {H : Hp} {Q : VK} (I : Inv X pins σ H s) (h : tCompT cap wi g tt te σ H Q)
    (fin : ∀ acc C H' s' m,Inv X pins σ H' s' -> s'.heap.Ns C m -> FpOk X pins H' C -> Q (.ref acc) H' -> compPost (model X.prog X.w) X.A X.xe use QQ (.ref acc) C (.ok .next) s') {pos' : Pos} :
    wpAny (model X.prog X.w) X.A (comprehension (.ListComp elt [⟨tg,iter,ifs,0⟩] sc pos) sc X.env pos' (newList []) false (eval iter X.env) use) QQ X.xe s:=by
  have ck:=compOkC.of hc
  obtain ⟨cl,hcl,c1,c2⟩:=closure_of (scope:=sc) (env:=X.env) fun x hx hf=>I.ok.has x.1 (by
    have:=ck.fre x hx hf
    rw [<- hE] at this
    exact this)
  refine wpAny_comprehension_free (use:=use) rfl hs hcl ck.kind ck.loc (thn (hi pins s σ H _ I h) fun v s1 h1=>thn h1 fun itv s2 h2=>?_)
  obtain ⟨it,fp,tn,J,H2,e,I2,T,st2,f2,hw⟩:=h2
  subst e
  have fsz : ∀ b ∈ fp,b < s2.heap.objs.size:=fun b hb=>by
    obtain ⟨o,e,_⟩:=T.obj _ _ st2 b hb
    exact Heap.lt_size e
  obtain ⟨W,⟨m0,w0⟩,turn⟩:=hw s2.heap.objs.size I2.fresh
  refine wpAny_newObj_type (wpAny_newEnvC ?_)
  dsimp only
  have I3 : Inv X pins σ (upd H2 s2.heap.objs.size (.lst [])) { s2 with heap:=s2.heap.push { cls:=.type "list",data:=.seq ([] : List Value).toArray } }:=
    I2.lnew (its:=[]) (ys:=[]) (t':=s2.toks) .nil (Nat.zero_le _)
  generalize hs3 : ({ s2 with heap:=s2.heap.push { cls:=.type "list",data:=.seq ([] : List Value).toArray } } : Shared) = s3 at I3
  have hh3 : s3.heap = s2.heap.push { cls:=.type "list",data:=.seq ([] : List Value).toArray }:=by rw [<- hs3]
  have hsz : s3.heap.objs.size = s2.heap.objs.size + 1:=by rw [hh3,Heap.size_push]
  have f3 : ∀ b ∈ fp,FpOk X pins (upd H2 s2.heap.objs.size (.lst [])) b:=fun b hb=>by
    obtain ⟨g0,g1⟩:=f2 b hb
    exact ⟨by rw [upd_ne (Nat.ne_of_lt (fsz b hb))]; exact g0,g1⟩
  have k3 : ∀ b o,s2.heap.get? b = some o -> s3.heap.get? b = some o:=fun b o e=>by rw [hh3]; exact Heap.get?_push_of_some _ e
  obtain ⟨cl',hcl'⟩ : ∃ cl',cellsFrom (s3.heap.objs.size + 1) sc.names cl = cl':=⟨_,rfl⟩
  obtain ⟨h₁,hh₁⟩ : ∃ h₁,pushCells (s3.heap.push { cls:=.type "dict",data:=.dict #[] }) sc.names = h₁:=⟨_,rfl⟩
  have k1 : ∀ b o,s3.heap.get? b = some o -> h₁.get? b = some o:=fun b o e=>by rw [<- hh₁]; exact pushCells_keeps _ _ b o (Heap.get?_push_of_some _ e)
  have c1' : ∀ x c,cl'.lookup x = some c -> cl.lookup x = some c \/ s3.heap.objs.size + 1 <= c:=fun x c e=>by
    rw [<- hcl'] at e
    have:=cellsFrom_look (sc.names) (s3.heap.push { cls:=.type "dict",data:=.dict #[] }) cl x c (by rw [Heap.size_push]; exact e)
    rcases this with z | ⟨_,z,_⟩
    · exact .inl z
    · rw [Heap.size_push] at z; exact .inr z
  have I4 : Inv (blkC X N' sc cl' s3.heap.objs.size s3 (upd H2 s2.heap.objs.size (.lst [])) fp) [] (capOf cap σ) (upd H2 s2.heap.objs.size (.lst [])) { s3 with heap:=h₁ }:=by
    rw [<- hcl',<- hh₁]
    exact blk_invC I3 hN hE ck c1 c2 f3 (fun b hb=>Nat.lt_of_lt_of_le (fsz b hb) (by rw [hsz]; exact Nat.le_succ _))
  have st4 : tn 0 h₁:=T.keep _ _ _ st2 fun b hb o e=>k1 b o (k3 b o e)
  generalize hX' : blkC X N' sc cl' s3.heap.objs.size s3 (upd H2 s2.heap.objs.size (.lst [])) fp = X' at I4
  have hxe : X'.xe = fun _ _=>False:=by rw [<- hX']; rfl
  have hprog : X'.prog = X.prog:=by rw [<- hX']; rfl
  have hww : X'.w = X.w:=by rw [<- hX']; rfl
  have hKK : X'.K = X.K:=by rw [<- hX']; rfl
  have hAA : X'.A = X.A:=by rw [<- hX']; rfl
  have hcc : X'.calm = true:=by rw [<- hX']; exact hcalm
  have henv : X'.env = compEnvC sc cl' s3.heap.objs.size X.env:=by rw [<- hX']; rfl
  have hloc : X'.env.locals = s3.heap.objs.size:=by rw [henv]; rfl
  have hg' : PG X' tg g:=by rw [<- hX']; exact hg _ _ _ _ _
  have he' : PE X' elt te:=by rw [<- hX']; exact he _ _ _ _ _
  have htt' : PTs X' ifs tt:=by rw [<- hX']; exact htt _ _ _ _ _
  have stat : ∀ {H' : Hp},(∀ b ∈ fp,H' b = none) -> ∀ b ∈ fp,FpOk X' [] H' b:=fun {H'} hn b hb=>by
    obtain ⟨_,g1,g2,g3,g4,g5⟩:=f3 b hb
    refine ⟨hn b hb,by rw [hloc,hsz]; exact Nat.ne_of_lt (Nat.lt_succ_of_lt (fsz b hb)),?_,?_,?_,fun p hp=>?_⟩
    · rw [<- hX']
      intro z
      rcases List.mem_cons.mp (I3.stkSub b z) with e | z
      · exact g1 e
      · exact g2 z
    · left
      rw [<- hX']
      exact hb
    · intro x c e
      rw [henv] at e
      rcases c1' x c e with z | z
      · exact g4 x c (c1 x c z)
      · exact fun q=>absurd (Nat.lt_of_lt_of_le (fsz b hb) (Nat.le_trans (Nat.le_trans (Nat.le_succ _) (hsz ▸ Nat.le_succ _)) (q ▸ z))) (Nat.lt_irrefl _)
    · rw [<- hX'] at hp
      cases hp
  have fin' : ∀ {σ' : St} {H' : Hp} {s' : Shared},Inv X' [] σ' H' s' -> Q (.ref s2.heap.objs.size) H' -> compPost (model X.prog X.w) X.A X.xe use QQ (.ref s2.heap.objs.size) s3.heap.objs.size (.ok .next) s':=fun {σ' H' s'} J q=>by
    obtain ⟨mm,hmm,_⟩:=J.loc
    rw [hloc] at hmm
    have hfree : H' s3.heap.objs.size = none:=by have:=J.free; rw [hloc] at this; exact this
    have hok:=J.hok
    rw [hprog,hww] at hok
    have u1 : Un (frs X.stack) fp (upd H2 s2.heap.objs.size (.lst [])) H' s3.heap s'.heap:=by
      have:=J.base
      rw [<- hX'] at this
      exact this
    have hos : s'.os = s3.os:=by have:=J.os; rw [<- hX'] at this; exact this
    refine fin _ _ H' s' mm (I3.call' (s':=s') hos u1 hok J.bare fun b hb=>?_) hmm (I3.fpOk (Nat.le_refl _) hfree) q
    obtain ⟨_,g1,g2,g3,g4,g5⟩:=f3 b hb
    exact ⟨g3,g1,g4,g5⟩
  have loop : codeAny (model X.prog X.w) X.A (.compLoop (.ListComp elt [⟨tg,iter,ifs,0⟩] sc pos) 0 (.ref it) (.ref s2.heap.objs.size) X'.env)
      (compPost (model X.prog X.w) X.A X.xe use QQ (.ref s2.heap.objs.size) s3.heap.objs.size) { s3 with heap:=h₁ }:=by
    refine compLoop_anyT (fun n s'=>∃ i ys σ' H',Inv X' [] σ' H' s' /\ tn i s'.heap /\ (∀ b ∈ fp,H' b = none) /\ W i n ys σ' H') ?_ m0 ⟨0,[],_,_,I4,st4,fun b hb=>(f3 b hb).1,w0⟩
    rintro n s5 ⟨i,ys,σ5,H5,I5,st5,fr5,w5⟩
    obtain ⟨hacc,q⟩:=turn i n ys σ5 H5 w5
    rcases q with ⟨stop,q⟩ | ⟨go,hlen,step⟩
    · refine thn (hAA ▸ T.done X' hprog hww hKK hcc i [] s5 σ5 H5 _ I5 (stat fr5) st5 stop) fun r s6 ⟨hr,I6⟩=>?_
      subst hr
      exact fin' I6 q
    · refine thn (hAA ▸ T.item X' hprog hww hKK hcc i [] s5 σ5 H5 _ I5 (stat fr5) st5 go) fun r s6 ⟨u,hr,h6⟩=>?_
      subst hr
      refine thn h6 fun _ s7 ⟨x,H7,I7,r7,y7,st7,fr7⟩=>?_
      have I7':=I7.pinned (stat fr7) (T.obj _ _ st7)
      have g7:=hg' _ s7 σ5 H7 x u _ I7' r7 (step x H7 y7)
      rw [hprog,hww,hAA,hxe] at g7
      refine thn g7 fun _ s8 ⟨σ8,H8,I8,q8⟩=>?_
      have t8:=htt' _ s8 σ8 H8 _ I8 q8
      rw [hprog,hww,hAA,hxe] at t8
      refine thn t8 fun okb s8t ⟨H8t,I8t,q8t⟩=>?_
      cases okb with
      | false=>
        rw [if_neg Bool.false_ne_true] at q8t ⊢
        obtain ⟨m',hm',w9⟩:=q8t
        refine ⟨m',hm',i + 1,_,σ8,_,I8t.unpinned,T.keep _ _ _ st7 fun b hb o eo=>(I8t.pin (b,o) (List.mem_append_right _ (List.mem_append_right _ (mem_pinsAt hb eo)))).1,fun b hb=>?_,w9⟩
        obtain ⟨o,eo,d⟩:=T.obj _ _ st7 b hb
        exact (I8t.pin (b,o) (List.mem_append_right _ (List.mem_append_right _ (mem_pinsAt hb eo)))).2.1
      | true=>
      rw [if_pos rfl] at q8t ⊢
      have g8:=he' _ s8t σ8 H8t _ I8t q8t
      rw [hprog,hww,hAA,hxe] at g8
      refine thn g8 fun y s9 ⟨yv,H9,I9,r9,a9,m',hm',w9⟩=>?_
      obtain ⟨z,its,nn,rr,hl,e⟩:=I9.lstM a9
      refine call_meets F.slot_list_append ⟨_,e,rfl⟩ F.entry_list_append (F.args_list_append_2 _ _) (PySem.list_append _ its.toArray nn y (by rw [List.size_toArray]; omega)) ⟨e,?_⟩
      have I10 : Inv X' ([] ++ pinsAt fp s7.heap) σ8 (upd H9 s2.heap.objs.size (.lst (ys ++ [yv]))) { s9 with heap:=s9.heap.update s2.heap.objs.size (Obj.mapSeq fun a=>a.push y) }:=
        I9.lset (t':=s9.toks) (its':=its ++ [y]) a9 e (by simp) (rr.append (.cons r9 .nil)) (by rw [List.length_append,List.length_singleton]; omega)
      refine ⟨m',hm',i + 1,_,σ8,_,I10.unpinned,T.keep _ _ _ st7 fun b hb o eo=>(I10.pin (b,o) (List.mem_append_right _ (List.mem_append_right _ (mem_pinsAt hb eo)))).1,fun b hb=>?_,w9⟩
      obtain ⟨o,eo,d⟩:=T.obj _ _ st7 b hb
      exact (I10.pin (b,o) (List.mem_append_right _ (List.mem_append_right _ (mem_pinsAt hb eo)))).2.1
  rw [henv] at loop
  have goal:=codeAny_compStart_list (rest:=[]) (ifs:=ifs) loop (T.self X.A 0 _ _ _ st4 loop)
  subst hs3
  rw [<- hcl',<- hh₁] at goal
  exact goal
theorem pe_compT {elt tg iter : Expr} {ifs : List Expr} {tt : TT} {pos : Pos} {N N' : List Str} {sc scE : Scope} {cap : List (Option Nat)} {wi : TI} {g : TG} {te : TE} (hcalm : X.calm = true) (hi : PI X tg iter wi)
    (hg : ∀ cl C s0 H0 ex,PG (blkC X N' sc cl C s0 H0 ex) tg g) (he : ∀ cl C s0 H0 ex,PE (blkC X N' sc cl C s0 H0 ex) elt te) (htt : ∀ cl C s0 H0 ex,PTs (blkC X N' sc cl C s0 H0 ex) ifs tt)
    (hN : X.N = N:=by rfl) (hE : X.env.scope = scE:=by rfl) (hc : compOkC N N' sc scE cap = true:=by decide +kernel) (hs : ∀ x,foldedSetIterable iter X.env x = pure x:=by intro _; rfl) :
    PE X (.ListComp elt [⟨tg,iter,ifs,0⟩] sc pos) (tCompT cap wi g tt te):=by
  intro pins s σ H Q I h
  rw [eval_ListComp]
  refine comp_coreT (use:=none) hcalm hi hg he htt hN hE hc hs I h fun acc C H' s' m I' hm hf q=>⟨m,hm,fun h' hs'=>?_⟩
  obtain ⟨f0,f1,f2,f3,f4,f5⟩:=hf
  exact ⟨.ref acc,H',I'.turned (t':=s'.toks) (fun b o hb e=>(hs'.2 b hb).trans e) f0 f1 f3 f4 f5,rfl,q⟩
theorem ps_compT {ifs : List Expr} {tt : TT} {i : Nat} {x : Str} {px spos : Pos} {elt tg iter : Expr} {pos : Pos} {N N' : List Str} {sc scE : Scope} {cap : List (Option Nat)} {wi : TI} {g : TG} {te : TE} (hnd : X.N.Nodup) (hix : X.N[i]? = some x) (hx : Loc X.env.scope x) (hcalm : X.calm = true) (hi : PI X tg iter wi)
    (hg : ∀ cl C s0 H0 ex,PG (blkC X N' sc cl C s0 H0 ex) tg g) (he : ∀ cl C s0 H0 ex,PE (blkC X N' sc cl C s0 H0 ex) elt te) (htt : ∀ cl C s0 H0 ex,PTs (blkC X N' sc cl C s0 H0 ex) ifs tt)
    (hsw : swapsWith (.ListComp elt [⟨tg,iter,ifs,0⟩] sc pos) (some (.Name x px)) spos.line X.env = pure true:=by rfl)
    (hN : X.N = N:=by rfl) (hE : X.env.scope = scE:=by rfl) (hc : compOkC N N' sc scE cap = true:=by decide +kernel) (hs : ∀ x,foldedSetIterable iter X.env x = pure x:=by intro _; rfl)
    (hf : X.fn x = true \/ X.env.scope.names.lookup x = some .local:=by first | exact .inl rfl | exact .inr rfl | assumption) :
    PS X (.Assign [.Name x px] (.ListComp elt [⟨tg,iter,ifs,0⟩] sc pos) spos) (tAsg (tCompT cap wi g tt te) (gName i)):=by
  intro pins s σ H D I h
  rw [exec_Assign_Name_used _ _ _ _ hsw]
  refine wpAny_bind (wpAny_standAt (wpAny_bind ?_))
  show wpAny _ _ (do let _ <- comprehension (.ListComp elt [⟨tg,iter,ifs,0⟩] sc pos) sc X.env _ (newList []) false (eval iter X.env) (some (assign (.Name x px) X.env))) _ _ s
  refine wpAny_bind (wpAny_mono (comp_coreT (use:=some (assign (.Name x px) X.env)) (QQ:=fun _ s'=>SP X pins D .next s') hcalm hi hg he htt hN hE hc hs I h ?_) (fun _ s' hq=>wpAny_pure (wpAny_pure hq)) fun _ _ e=>e)
  intro acc C H' s' m I' hm hfp q
  obtain ⟨f0,f1,f2,f3,f4,f5⟩:=hfp
  show wpAny _ _ (assign (.Name x px) X.env (.ref acc)) _ _ _
  refine wpAny_assign_Name (store_ok2 I' hnd hix hx (v:=.ref acc) rfl (fun s2 I2 ⟨a,sb,ha⟩=>⟨m,?_,fun h' hs'=>?_⟩) hf)
  · refine hm.sameBut sb fun z=>?_
    rcases ha with ha | ha
    · exact f1 (z.trans ha)
    · exact f4 x a ha z.symm
  · exact ⟨_,H',I2.turned (t':=s2.toks) (fun b o hb e=>(hs'.2 b hb).trans e) f0 f1 f3 f4 f5,q⟩
end
end L2
namespace L2
open PySem PySem.Spec PyProof.Rows
structure M1 (X : Cx) (o : Expr) (m : Str) (apos : Pos) (e : Expr) (cpos : Pos) : Prop where
  base : attributeBase o m X.env (eval o X.env) = eval o X.env
  few : ((backTo cpos (starEach [e] X.env)).all (fun x=>!x.1) && (backToKw cpos (keywordEach [] X.env)).all (fun x=>x.1.isSome)
    && decide (([e] : List Expr).length + ([] : List Keyword).length + (if ([] : List Keyword).isEmpty then 0 else 1) < 30)) = true
  line : (apos.endLine == cpos.line) = true
  trees : backTo cpos (starEach [e] X.env) = [(false,eval e X.env)]
structure M2 (X : Cx) (o : Expr) (m : Str) (apos : Pos) (e f : Expr) (cpos : Pos) : Prop where
  base : attributeBase o m X.env (eval o X.env) = eval o X.env
  few : ((backTo cpos (starEach [e,f] X.env)).all (fun x=>!x.1) && (backToKw cpos (keywordEach [] X.env)).all (fun x=>x.1.isSome)
    && decide (([e,f] : List Expr).length + ([] : List Keyword).length + (if ([] : List Keyword).isEmpty then 0 else 1) < 30)) = true
  line : (apos.endLine == cpos.line) = true
  trees : backTo cpos (starEach [e,f] X.env) = [(false,eval e X.env),(false,eval f X.env)]
end L2
namespace L2
open PySem PySem.Spec PyProof.Rows
section
variable {X : Cx} {tg : Expr}
theorem op_le_str : OpR X (compareOp .LtE) (fun x y H Q=>∃ i j,x = .str i /\ y = .str j /\ Q (.bl (!decide (j.cps.toList < i.cps.toList))) H):=by
  intro pins s σ H x y v u Q I rx ry h
  obtain ⟨i,j,rfl,rfl,q⟩:=h
  obtain ⟨t,rfl⟩:=rx
  obtain ⟨t',rfl⟩:=ry
  exact PySem.P.le_str (fin_bl I q rfl)
def Itst (x : Str) : It:=⟨fun i _=>i < x.cps.size,fun i H v H'=>H' = H /\ ∃ c,x.cps[i]? = some c /\ v = .str ⟨#[c]⟩,fun i _=>x.cps.size <= i⟩
theorem walks_str {prog : Program} {w : World} {A : Around} (h : A.handled = none) (I : Addr) (x : Str) (t : Tok) : Walks prog w A I [I] [I] x.cps.size (SignAt x) fun i h=>h.IsStrIter I (strIterType x) x t i:=by
  unfold strIterType
  split
  · exact Walks.strAscii h I x t
  · exact Walks.strWide h I x t
theorem iter_name (x : Str) : strIterType x = "str_ascii_iterator" \/ strIterType x = "str_iterator" := by
  unfold strIterType
  split
  · exact .inl rfl
  · exact .inr rfl
theorem turn_str {P : Program} {w : World} {K : PySem.W.Frag} {tg : Expr} (x : Str) (t : Tok) (it : Addr) : Turn P w K tg (Itst x) [it] it (fun i h=>h.IsStrIter it (strIterType x) x t i /\ i <= x.cps.size) where
  mem:=by simp
  obj:=fun i h st b hb=>by
    have e : b = it:=by simpa using hb
    subst e
    obtain ⟨o,e,c,d⟩:=st.1
    exact ⟨o,e,fun v z=>by rw [d] at z; cases z⟩
  keep:=fun i h h' st k=>by
    obtain ⟨⟨o,e,c,d⟩,hi⟩:=st
    exact ⟨⟨o,k it (by simp) o e,c,d⟩,hi⟩
  item:=by
    intro X hP hw hK hc i pins s σ H E I hf st hg
    subst hP hw hK
    obtain ⟨f0,f1,f2,f3,f4,f5⟩:=hf it (by simp)
    have W:=walks_str (prog:=X.prog) (w:=X.w) (I.ok.hd hc) it x t
    refine W.item i s _ _ hg st.1 fun v h' tk hv st' kk=>?_
    obtain ⟨c,u,hcc,rfl⟩:=hv
    have I1 : Inv X pins σ H { s with heap:=h',toks:=tk }:=I.turned (fun b o hb e=>kk b o (by simpa using hb) e) f0 f1 f3 f4 f5
    obtain ⟨o,e1,e2,e3⟩:=st'
    refine ⟨_,rfl,go_of (s:={ s with heap:=h',toks:=tk }) (n:=strIterType x) e1 e2 e3 ?_ ⟨.str ⟨#[c]⟩,H,I1,⟨u,rfl⟩,⟨rfl,c,hcc,rfl⟩,⟨⟨o,e1,e2,e3⟩,hg⟩,fun b hb=>(hf b hb).1⟩⟩
    rcases iter_name x with q | q <;> rw [q] <;> decide
  done:=by
    intro X hP hw hK hc i pins s σ H E I hf st hg
    subst hP hw hK
    obtain ⟨f0,f1,f2,f3,f4,f5⟩:=hf it (by simp)
    have W:=walks_str (prog:=X.prog) (w:=X.w) (I.ok.hd hc) it x t
    have e : i = x.cps.size:=Nat.le_antisymm st.2 hg
    subst e
    exact W.done s _ _ st.1 fun h' tk kk=>⟨rfl,I.turned (fun b o hb e=>kk b o (by simpa using hb) e) f0 f1 f3 f4 f5⟩
  self:=fun A i s Q E st h=>by
    obtain ⟨st,_⟩:=st
    revert st
    rcases iter_name x with q | q <;> rw [q] <;> intro st
    · exact wpAny_pyIter_striter_ascii st h
    · exact wpAny_pyIter_striter_wide st h
def iStr (tl : TE) : TI:=fun σ H R=>tl σ H fun v H1=>∃ x,v = .str x /\ R (Itst x) H1
theorem pi_str {l : Expr} {tl : TE} (hl : PE X l tl) : PI X tg l (iStr tl):=by
  intro pins s σ H R I h
  refine thn (hl pins s σ H _ I h) fun v s1 ⟨z,H1,I1,r1,q1⟩=>?_
  obtain ⟨x,e,q⟩:=q1
  subst e
  obtain ⟨t,rfl⟩:=r1
  refine wpAny_pyIter_strU ?_
  refine ⟨s1.heap.objs.size,[s1.heap.objs.size],_,_,H1,rfl,I1.kept (t':=s1.toks) fun b o e=>Heap.get?_push_of_some _ e,turn_str x t _,⟨⟨_,Heap.get?_push_size _ rfl,rfl,rfl⟩,Nat.zero_le _⟩,fun b hb=>?_,q⟩
  have e : b = s1.heap.objs.size:=by simpa using hb
  subst e
  exact I1.fpOk (Nat.le_refl _) (I1.hok.fresh (Nat.le_refl _))
theorem strs_of : ∀ {ss : List Str} {us : List Value},Vals (ss.map V.str) us -> ∃ l : List (Str × Tok),us = strValues l /\ l.map (·.1) = ss
  | [],_,.nil=>⟨[],rfl,rfl⟩
  | s :: ss,_,.cons r t=>by
    obtain ⟨l,e1,e2⟩:=strs_of t
    obtain ⟨tk,rfl⟩:=r
    exact ⟨(s,tk) :: l,by rw [e1]; rfl,by rw [List.map_cons,e2]⟩
theorem mt_join : MtR X "str.join" (fun x vs H Q=>∃ sep p ss,x = .str sep /\ vs = [.ref p] /\ SqL X.K H p (ss.map V.str) /\ JoinOk sep ss = true /\ Q (.str (Txt.join sep ss)) H):=by
  intro pins s σ H x vs v us Q I rx rv h
  obtain ⟨sep,p,ss,rfl,rfl,hq,hz,q⟩:=h
  obtain ⟨t,rfl⟩:=rx
  obtain ⟨u,rfl,ru⟩:=rv.one
  cases ru
  obtain ⟨its,r',pl,_⟩:=I.list hq
  obtain ⟨l,e1,e2⟩:=strs_of r'
  subst e1
  exact SC.join pl.isList e2 hz fun t' k=>⟨.str _,H,I.tok _,⟨_,rfl⟩,q⟩
end
end L2
namespace L2
open PySem PySem.Spec PyProof.Rows PySem.W
section
variable {prog : Program} {w : World} {A : Around} {E : Value -> Shared -> Prop} {s : Shared}
theorem getD_of {vs : List Value} : (List.range vs.length).map (fun i=>vs.getD i Value.none) = vs:=by
  apply List.ext_getElem?
  intro i
  by_cases z : i < vs.length
  · simp [z]
  · simp [z]
end
end L2
namespace L2
open PySem PySem.Spec PyProof.Rows
theorem lri_len : typeLookup (.type "list_reverseiterator") "__len__" = pure none:=by rw [typeLookup_type,builtinLookup_eq_fast]; kernel_rfl
theorem lri_hint : typeLookup (.type "list_reverseiterator") "__length_hint__" = pure (some (.builtin "list_reverseiterator.__length_hint__")):=by rw [typeLookup_type,builtinLookup_eq_fast]; kernel_rfl
section
variable {prog : Program} {w : World} {A : Around} {E : Value -> Shared -> Prop} {s : Shared}
theorem hint_rev {I l : Addr} {i : Int} {Q : Bool -> Shared -> Prop} (hr : s.heap.IsRevIter I l i) (h : Q false s) : wpAny (model prog w) A (Builtin.List.listLengthHint (.ref I)) Q E s:=by
  unfold Builtin.List.listLengthHint
  refine wpAny_bind (wpAny_specialOf hr.typeIs lri_len ?_)
  refine wpAny_ite_split (fun hab=>absurd hab (by decide)) (fun _=>?_)
  refine wpAny_ite_split (fun hab=>absurd hab (by decide)) (fun _=>?_)
  refine wpAny_bind (wpAny_specialOf hr.typeIs lri_hint ?_)
  generalize hid : ("list_reverseiterator.__length_hint__" : String) = id0
  wp_delta
  rw [show splitId id0 = some ("list_reverseiterator", "__length_hint__") from by subst hid; decide +kernel]
  subst hid
  refine wpAny_bind (wpAny_isInstance (T := "list_reverseiterator") (b:=true) hr.typeIs (by rw [isSubtype_type]; kernel_rfl) ?_)
  refine wpAny_ite_split (fun hab=>absurd hab (by decide)) (fun _=>?_)
  refine wpAny_ite_split (fun _=>?_) (fun hab=>absurd (by decide +kernel) hab)
  refine wpAny_ite_split (fun hab=>absurd hab (by decide +kernel)) (fun _=>?_)
  exact wpAny_pure h
theorem extend_rev {R : Result -> Shared -> Prop} {I l : Addr} {items : Array Value} (hh : A.handled = none) (hr : s.heap.IsRevIter I l ((items.size : Int) - 1)) (hl : s.heap.IsList l items) (hlen : items.size <= 2 ^ 24) (S : Addr) (res : Value) (c₀ : Nat) (hS : s.heap.get? S = some { cls:=.type "list",data:=.seq #[] c₀ }) (hSl : S ≠ l)
    (hR : ∀ h' tk acc' c',(∀ b o,b ≠ S -> b ≠ I -> s.heap.get? b = some o -> h'.get? b = some o) -> h'.get? S = some { cls:=.type "list",dict:=none,data:=.seq acc' c',slots:=#[] } ->
      ItemsOf (fun i v=>items[items.size - 1 - i]? = some v) acc' items.size -> R (.ok (.ret res)) { s with heap:=h',toks:=tk }) :
    wpAny (model prog w) A.in1 (Builtin.List.listExtendWith (.ref S) (.ref I) res)
      (fun fin s'=>match fin with | .done f=>R (.ok f) s' | .again c'=>c'.quiet = true /\ codeAny (model prog w) A c' R s') (fun e s'=>R (.error e) s') s:=by
  have hSI : S ≠ I:=fun e=>by
    obtain ⟨o,h1,h2,_⟩:=hr
    rw [<- e,hS] at h1; cases h1
    have h2 : Value.type "list" = Value.type "list_reverseiterator" := h2
    exact absurd h2 (by decide)
  have hIl : l ≠ I:=fun e=>by
    obtain ⟨o,h1,h2,_⟩:=hr
    obtain ⟨o',g1,g2,_⟩:=hl
    rw [e,h1] at g1; cases g1
    rw [h2] at g2; exact absurd g2 (by decide)
  have hSf : S ∉ [I,l]:=fun hm=>by
    simp at hm
    rcases hm with e | e
    · exact hSI e
    · exact hSl e
  have W:=(Walks.listRev (prog:=prog) (w:=w) (A:=A.in1) hh I l hIl items).toS
  have hst : (0 : Nat) <= items.size /\ s.heap.IsRevIter I l ((items.size : Int) - 1 - ((0 : Nat) : Int)) /\ s.heap.IsList l items:=⟨Nat.zero_le _,by simpa using hr,hl⟩
  unfold Builtin.List.listExtendWith
  refine wpAny_bind (wpAny_typeOf (T := "list_reverseiterator") hr.typeIs ?_)
  have h1 : Builtin.List.listSameRef (.ref S) (.ref I) = false:=by simp [Builtin.List.listSameRef,hSI]
  have h2 : (Value.type "list_reverseiterator" == Value.type "list") = false:=by decide
  have h3 : (Value.type "list_reverseiterator" == Value.type "tuple") = false:=by decide
  simp only [h1,h2,h3,Bool.or_false,Bool.false_eq_true,if_false]
  refine wpAny_bind (wpAny_pyIter_revIter hr ?_)
  refine wpAny_bind (wpAny_holding (hint_rev hr ?_))
  refine wpAny_ite_split (fun hab=>absurd hab (by decide)) (fun _=>wpAny_pure ⟨plainId_quiet F.plain_extend_loop _,?_⟩)
  refine codeAny_extend_loopS W (by rw [sizeLine_eq]; omega) S hSf res items.size 0 _ #[] c₀ rfl (Nat.zero_le _) hst hS (ItemsOf.nil _) fun s' acc' c' hm hS' hacc=>?_
  rw [Moved.eq_with hm]
  refine hR s'.heap s'.toks acc' c' (fun b o hb hb2 e=>hm.heap b o (fun hmem=>?_) e) hS' hacc
  rcases List.mem_cons.mp hmem with e' | hmem
  · exact hb e'
  · exact hb2 (by simpa using hmem)
end
end L2
namespace L2
open PySem PySem.Spec PyProof.Rows PySem.Builtin.Str
section
variable {prog : Program} {w : World} {A : Around} {E : Value -> Shared -> Prop} {s : Shared} {x y : Str} {t u : Tok} {Q : Value -> Shared -> Prop}
theorem split_call (hy : (y.length == 0) = false) (h : ∀ l k,l.map (·.1) = Txt.split x y -> Q (.ref s.heap.objs.size) { s with heap:=s.heap.push { cls:=.type "list",data:=.seq (strValues l).toArray },toks:=k }) (hsz : x.length + 2 <= sizeLine) :
    wpAny (model prog w) A (call (.builtin "str.split") [.str x t,.str y u]) Q E s:=by
  have hn : (partsBetween x (occurrences x y 0 x.length (x.length + 1)) y.length).length <= sizeLine:=by
    have e1:=StrLaws.occ_length_le x y 0 x.length (x.length + 1)
    rw [length_partsBetween]; omega
  cases h1 : (decide (x.length < y.length) || decide (strKind x < strKind y))
  · cases hf : (occurrences x y 0 x.length (x.length + 1)).isEmpty
    · refine call_meets F.slot_str_split (typeIs_str _ _ _) F.entry_str_split (F.args_str_split_2 _ _) (meets_str_split_sep x y t u h1 hy hf (by omega) hn) ?_
      show wants Q E _ { s with toks:=_,heap:=s.heap.push { cls:=.type "list",data:=.seq (strsFrom s.toks (partsBetween x (occurrences x y 0 x.length (x.length + 1)) y.length)).toArray } }
      rw [strsFrom_eq]
      exact h (numbered s.toks _) _ ((numbered_texts _ _).trans ((if_neg (ne_true_of_eq_false h1)).trans (if_neg (ne_true_of_eq_false hf))).symm)
    · exact call_meets F.slot_str_split (typeIs_str _ _ _) F.entry_str_split (F.args_str_split_2 _ _) (meets_str_split_not_found x y t u h1 hy hf)
        (h [(x,t)] s.toks ((if_neg (ne_true_of_eq_false h1)).trans (if_pos hf)).symm)
  · exact call_meets F.slot_str_split (typeIs_str _ _ _) F.entry_str_split (F.args_str_split_2 _ _) (meets_str_split_cannot_occur x y t u h1)
      (h [(x,t)] s.toks (if_pos h1).symm)
end
section
variable {prog : Program} {w : World} {A : Around} {E : Value -> Shared -> Prop} {s : Shared}
theorem collect_rev {Q : List Value -> Shared -> Prop} {I l : Addr} {items : Array Value} (hh : A.handled = none) (hr : s.heap.IsRevIter I l ((items.size : Int) - 1)) (hl : s.heap.IsList l items) (hlen : items.size <= 2 ^ 24)
    (hQ : ∀ h' tk acc,(∀ b o,b ≠ I -> s.heap.get? b = some o -> h'.get? b = some o) -> ItemsOf (fun i v=>items[items.size - 1 - i]? = some v) acc items.size -> Q acc.toList { s with heap:=h',toks:=tk }) : wpAny (model prog w) A (collect (.ref I)) Q E s:=by
  have hlt : l < s.heap.objs.size:=let ⟨o,h1,_⟩:=hl; Heap.lt_size h1
  have H : ∀ R : Result -> Shared -> Prop,(∀ h' tk acc' c',(∀ b o,b ≠ I -> s.heap.get? b = some o -> h'.get? b = some o) -> h'.get? s.heap.objs.size = some { cls:=.type "list",dict:=none,data:=.seq acc' c',slots:=#[] } -> ItemsOf (fun i v=>items[items.size - 1 - i]? = some v) acc' items.size -> R (.ok (.ret (.ref s.heap.objs.size))) { s with heap:=h',toks:=tk }) -> codeAny (model prog w) A (.builtin "proto.collect" ⟨[.ref I],[]⟩) R s:=fun R hR=>by
    refine codeAny_builtin F.entry_proto_collect ?_
    rw [Around.under_plainId F.plain_proto_collect _]
    show wpAny _ A.in1 (newList [] >>= fun l=>again (.builtin "list.__iadd__" ⟨[l,.ref I],[]⟩)) _ _ s
    refine wpAny_bind (wpAny_newObj_type ?_)
    refine wpAny_pure ⟨plainId_quiet F.plain_list_iadd _,codeAny_builtin F.entry_list_iadd ?_⟩
    rw [Around.under_plainId F.plain_list_iadd _]
    have hS₁ : (s.heap.push { cls:=.type "list",data:=.seq ([] : List Value).toArray }).get? s.heap.objs.size = some { cls:=.type "list",data:=.seq ([] : List Value).toArray }:=Heap.get?_push_size _ rfl
    show wpAny _ A.in1 (Builtin.List.listExtendWith (.ref s.heap.objs.size) (.ref I) (.ref s.heap.objs.size)) _ _ _
    exact extend_rev (A:=A) (R:=R) (s:={ s with heap:=s.heap.push { cls:=.type "list",data:=.seq ([] : List Value).toArray } }) (by simpa using hh) (hr.at fun o e=>Heap.get?_push_of_some _ e) (hl.push _) hlen s.heap.objs.size (.ref s.heap.objs.size) 0 hS₁ (Nat.ne_of_gt hlt) fun h' tk acc' c' hk hS' hacc=>hR h' tk acc' c' (fun b o hb e=>hk b o (Nat.ne_of_lt (Heap.lt_size e)) hb (Heap.get?_push_of_some _ e)) hS' hacc
  unfold collect
  refine wpAny_bind (wpAny_runValue (H _ fun h' tk acc' c' hk hS' hacc=>?_))
  show wpAny _ A (load s.heap.objs.size >>= _) _ _ _
  refine wpAny_bind (wpAny_load hS' ?_)
  exact wpAny_pure (hQ h' tk acc' hk hacc)
theorem gives_tail (x : Str) (l : List (Str × Tok)) (hok : tooLong ((l.map (·.1)).toArray.foldl (· + ·.length + x.length) 0) = false) : Gives (joinTail x (strValues l)) (joinMade x l):=by
  have g0:=gives_joinTail x l hok
  cases l with
  | nil=>exact g0
  | cons p r=>cases r with
    | nil=>exact g0
    | cons q r'=>exact g0
theorem join_rev {x : Str} {t : Tok} {Q : Value -> Shared -> Prop} {I l : Addr} {ls : List (Str × Tok)} (hh : A.handled = none) (hr : s.heap.IsRevIter I l (((strValues ls).toArray.size : Int) - 1)) (hl : s.heap.IsList l (strValues ls).toArray) (hlen : ls.length <= 1000000) (hok : JoinOk x (ls.map (·.1)).reverse = true)
    (hq : ∀ h' t' k,(∀ b o,b ≠ I -> s.heap.get? b = some o -> h'.get? b = some o) -> Q (.str (Txt.join x (ls.map (·.1)).reverse) t') { s with heap:=h',toks:=k }) :
    wpAny (model prog w) A (call (.builtin "str.join") [.str x t,.ref I]) Q E s:=by
  have hsz : (strValues ls).toArray.size = ls.length:=by simp [strValues]
  refine wpAny_call (codeAny_call_builtin F.slot_str_join.plain F.entry_str_join (F.slot_str_join.check _ _ _ _ _ _ _ _ (typeIs_str _ _ _) (F.args_str_join_2 _ _) ?_))
  rw [join_tree_other]
  refine wpAny_bind (wpAny_typeOf hr.typeIs ?_)
  show wpAny _ A.in1 ((pyIter (.ref I)).tryCatch _ >>= fun it=>collect it >>= fun items=>joinTail x items) _ _ s
  refine wpAny_bind (wpAny_tryCatch (wpAny_pyIter_revIter hr ?_))
  refine wpAny_bind (collect_rev (by simpa using hh) hr hl (by rw [hsz]; omega) fun h' tk acc hk hacc=>?_)
  have hacc2 : acc.toList = strValues ls.reverse:=by
    have e1 : acc.toList.length = ls.length:=by rw [Array.length_toList,hacc.1,hsz]
    apply List.ext_getElem?
    intro j
    by_cases q : j < ls.length
    · have h1:=hacc.2 j acc.toList[j] (by rw [<- Array.getElem?_toList]; exact List.getElem?_eq_getElem (by omega))
      rw [hsz,List.getElem?_toArray] at h1
      rw [List.getElem?_eq_getElem (by omega),<- h1]
      unfold strValues
      rw [List.getElem?_map,List.getElem?_map,List.getElem?_reverse q]
    · rw [List.getElem?_eq_none (by omega),List.getElem?_eq_none (by unfold strValues; rw [List.length_map,List.length_reverse]; omega)]
  rw [hacc2]
  have hok' : JoinOk x (ls.reverse.map (·.1)) = true:=by rw [List.map_reverse]; exact hok
  unfold JoinOk at hok'
  rw [Bool.not_eq_true'] at hok'
  have g:=gives_tail x ls.reverse hok'
  exact g prog w A (wants Q E) _ (post_join ls.reverse ⟨joinFit_length hok',fun t' k=>by rw [List.map_reverse]; exact hq h' t' k hk⟩)
end
theorem split_len (x y : Str) : (Txt.split x y).length <= x.length + 2:=by
  have hn : (partsBetween x (occurrences x y 0 x.length (x.length + 1)) y.length).length <= x.length + 2:=by
    have e1:=StrLaws.occ_length_le x y 0 x.length (x.length + 1)
    rw [length_partsBetween]; omega
  unfold Txt.split
  split
  · simp
  · split
    · simp
    · exact hn
theorem strs_to : ∀ (l : List (Str × Tok)),Vals ((l.map (·.1)).map V.str) (strValues l)
  | []=>.nil
  | (x,t) :: l=>.cons ⟨t,rfl⟩ (strs_to l)
section
variable {X : Cx}
theorem mt_split : MtR X "str.split" (fun x vs H Q=>∃ y sep,x = .str y /\ vs = [.str sep] /\ (sep.length == 0) = false /\ y.length <= 1000000 /\ ∀ p,H p = none -> Q (.ref p) (upd H p (.lst ((Txt.split y sep).map V.str)))):=by
  intro pins s σ H x vs v us Q I rx rv h
  obtain ⟨y,sep,rfl,rfl,hy,hz,q⟩:=h
  obtain ⟨t,rfl⟩:=rx
  obtain ⟨u,rfl,ru⟩:=rv.one
  obtain ⟨t',rfl⟩:=ru
  refine split_call hy (fun l k e=>?_) (by rw [sizeLine_eq]; omega)
  refine ⟨.ref s.heap.objs.size,_,I.laid (t':=k) (o:=.lst ((Txt.split y sep).map V.str)) (fun b u e=>Heap.get?_push_of_some _ e) (Nat.le_refl _) ?_,rfl,q _ (I.hok.fresh (Nat.le_refl _))⟩
  refine ⟨by rw [List.length_map,sizeLine_eq]; have:=split_len y sep; omega,strValues l,0,?_,?_⟩
  · rw [<- e]; exact strs_to l
  · exact Heap.get?_push_size _ rfl
theorem mt_zfill : MtR X "str.zfill" (fun x vs H Q=>∃ y k,x = .str y /\ vs = [.int k] /\ PadOk k = true /\ Q (.str (Txt.zfill y k)) H):=by
  intro pins s σ H x vs v us Q I rx rv h
  obtain ⟨y,k,rfl,rfl,hk,q⟩:=h
  obtain ⟨t,rfl⟩:=rx
  obtain ⟨u,rfl,ru⟩:=rv.one
  obtain ⟨t',rfl⟩:=ru
  exact SC.zfill hk fun t' k=>⟨.str _,H,I.tok _,⟨_,rfl⟩,q⟩
theorem part_of {v : Value} {o : Option Int} (p : IsPart v o) : ∃ l : Option (Int × Tok),v = partValue l /\ l.map (·.1) = o:=by
  cases p
  · exact ⟨none,rfl,rfl⟩
  · exact ⟨some (_,_),rfl,rfl⟩
theorem sl_str : SlR X (fun x lo hi H Q=>∃ z,x = .str z /\ z.length <= 1000000 /\ Q (.str (Txt.slice z lo hi)) H):=by
  intro pins s σ H x v vl vu lo hi sl Q I rx hs pl pu h
  obtain ⟨z,rfl,hz,q⟩:=h
  obtain ⟨t,rfl⟩:=rx
  obtain ⟨l,rfl,rfl⟩:=part_of pl
  obtain ⟨u,rfl,rfl⟩:=part_of pu
  refine ⟨"str",_,F.slot_str_getitem.lookup,typeIs_str _ _ _,wpAny_getItem_str_slice (l:=l) (u:=u) (st:=none) hs rfl (post_val_or_str ⟨Nat.le_trans (Txt.slice_le z _ _) (by rw [sizeLine_eq]; omega),fun t' k=>?_⟩)⟩
  exact ⟨.str _,H,I.tok _,⟨_,rfl⟩,q⟩
theorem log_mid {a : Int} (h : a.natAbs < 10 ^ 40) : a.natAbs.log2 < 1920:=by
  by_cases z : a.natAbs = 0
  · rw [z]; decide
  · have:=(Nat.log2_lt z (k:=140)).mpr (Nat.lt_trans h (by decide))
    omega
theorem call_strB : CallR X (.type "str") (fun xs H Q=>∃ a : Int,xs = [.int a] /\ a.natAbs < 10 ^ 40 /\ Q (.str (toString a : String)) H):=by
  intro pins s σ H xs us Q I r h
  obtain ⟨a,rfl,hl,q⟩:=h
  obtain ⟨u,rfl,rx⟩:=vals1 r
  obtain ⟨t,rfl⟩:=rx
  refine PySem.P.str_of_int (log_mid hl) ?_
  exact ⟨.str (toString a : String),H,I.tok _,⟨_,rfl⟩,q⟩
def tJR (to : TE) (ta : TA) : TE:=fun σ H Q=>to σ H fun x H1=>∃ sep,x = .str sep /\ ta σ H1 fun vs H2=>∃ (l : Addr) (ss : List Str),vs = [.ref l] /\ H2 l = some (.lst (ss.map V.str)) /\ ss.length <= 1000000 /\ JoinOk sep ss.reverse = true /\ Q (.str (Txt.join sep ss.reverse)) H2
theorem pe_joinRev {o a : Expr} {to : TE} {ta : TA} {p' pos' apos cpos : Pos} (hc : X.calm = true) (hg' : Gl X "reversed") (hm' : X.mg "reversed" = none) (hb' : bootBuiltins "reversed" = some (.type "reversed")) (ho : PE X o to) (ha : PA X [a] ta)
    (hbase : attributeBase o "join" X.env (eval o X.env) = eval o X.env:=by rfl)
    (hfew : ((backTo cpos (starEach [.Call (.Name "reversed" p') [a] [] pos'] X.env)).all (fun x=>!x.1) && (backToKw cpos (keywordEach [] X.env)).all (fun x=>x.1.isSome)
      && decide (([.Call (.Name "reversed" p') [a] [] pos'] : List Expr).length + ([] : List Keyword).length + (if ([] : List Keyword).isEmpty then 0 else 1) < 30)) = true:=by rfl)
    (hline : (apos.endLine == cpos.line) = true:=by rfl) (hs : starEach [a] X.env = [(false,eval a X.env)]:=by rfl)
    (hs2 : starEach [.Call (.Name "reversed" p') [a] [] pos'] X.env = [(false,eval (.Call (.Name "reversed" p') [a] [] pos') X.env)]:=by rfl) :
    PE X (.Call (.Attribute o "join" apos) [.Call (.Name "reversed" p') [a] [] pos'] [] cpos) (tJR to ta):=by
  intro pins s σ H Q I h
  refine wpAny_Call_method_late hbase hfew hline rfl (thn (ho pins s σ H _ I h) fun v s1 ⟨x,H1,I1,r1,q1⟩=>?_)
  obtain ⟨sep,rfl,q1⟩:=q1
  obtain ⟨t,rfl⟩:=r1
  refine ⟨"str", "str.join",PySem.F.plainAttrs_str,PySem.F.slot_str_join,PySem.F.type_str_join,typeIs_str _ _ _,?_,?_⟩
  · exact fun a e=>nomatch e
  · have ha1:=fun Q h=>ha pos' pins s1 σ H1 Q I1 h
    rw [hs2]
    refine Calls.callWith_builtin rfl (Calls.evalArgs_plain ?_)
    refine Calls.spliced_cons ?_
    refine Call_ (ld_blt I1 hg' hm' hb' (PyProof.Rows.callWith_type1 (thn (ha1 _ q1) fun us s2 ⟨vs,H2,I2,r2,q2⟩=>?_) hs rfl))
    obtain ⟨l,ss,rfl,hq,hn,hok,q⟩:=q2
    cases r2 with
    | cons r rr=>
      cases rr
      cases r
      obtain ⟨hz0,its,n,r',hn0,hli⟩:=I2.lstM hq
      obtain ⟨ls,e1,e2⟩:=strs_of r'
      subst e1
      have hlen : ls.length = ss.length:=by rw [<- e2,List.length_map]
      have hL : s2.heap.IsList l (strValues ls).toArray:=⟨_,hli,rfl,n,rfl⟩
      refine call_reversed_list hL ?_
      refine Calls.spliced_nil ?_
      have hrv : (s2.heap.push (revObj l (((strValues ls).toArray.size : Int) - 1))).IsRevIter s2.heap.objs.size l (((strValues ls).toArray.size : Int) - 1):=⟨_,Heap.get?_push_size _ rfl,rfl,rfl⟩
      refine join_rev (I2.ok.hd hc) hrv (hL.push _) (by omega) (by rw [e2]; exact hok) fun h' t' k hk=>?_
      rw [e2]
      exact ⟨.str _,H2,I2.kept (t':=k) fun b u e=>hk b u (Nat.ne_of_lt (Heap.lt_size e)) (Heap.get?_push_of_some _ e),⟨_,rfl⟩,q⟩
end
end L2
namespace L2
open PySem PySem.Spec PyProof.Rows
theorem str_no_int : typeLookup (.type "str") "__int__" = pure none:=by rw [typeLookup_type,builtinLookup_eq_fast]; kernel_rfl
theorem str_no_index : typeLookup (.type "str") "__index__" = pure none:=by rw [typeLookup_type,builtinLookup_eq_fast]; kernel_rfl
theorem str_no_trunc : typeLookup (.type "str") "__trunc__" = pure none:=by rw [typeLookup_type,builtinLookup_eq_fast]; kernel_rfl
def Fig (c : Nat) : Prop:=48 <= c /\ c <= 57
def figN (cs : List Nat) : Nat:=cs.foldl (fun n c=>n * 10 + (c - 48)) 0
theorem fig_or {c : Nat} (h : Fig c) : c = 48 \/ c = 49 \/ c = 50 \/ c = 51 \/ c = 52 \/ c = 53 \/ c = 54 \/ c = 55 \/ c = 56 \/ c = 57:=by unfold Fig at h; omega
theorem drop_none {p : Nat -> Bool} (hp : ∀ c,Fig c -> p c = false) {l : List Nat} (hl : ∀ c ∈ l,Fig c) : l.dropWhile p = l:=by
  cases l with
  | nil=>rfl
  | cons c l=>rw [List.dropWhile_cons,hp c (hl c (by simp))]; rfl
theorem drop_end {p : Nat -> Bool} (hp : ∀ c,Fig c -> p c = false) {l : List Nat} (hl : ∀ c ∈ l,Fig c) : (l.reverse.dropWhile p).reverse = l:=by
  rw [drop_none hp (fun c hc=>hl c (List.mem_reverse.mp hc)),List.reverse_reverse]
theorem fold_figs {f : Array Nat × Bool -> Nat -> Option (Array Nat × Bool)} (hf : ∀ ds b c,Fig c -> f (ds,b) c = some (ds.push (c - 48),true)) : ∀ (cs : List Nat) (ds : Array Nat) (b : Bool),(∀ c ∈ cs,Fig c) -> cs ≠ [] -> List.foldlM f (ds,b) cs = some (ds ++ (cs.map (· - 48)).toArray,true)
  | [c],ds,b,h,_=>by
    rw [List.foldlM_cons,hf ds b c (h c (by simp))]
    simp
  | c :: d :: cs,ds,b,h,_=>by
    rw [List.foldlM_cons,hf ds b c (h c (by simp))]
    show List.foldlM f (ds.push (c - 48),true) (d :: cs) = _
    rw [fold_figs hf (d :: cs) _ _ (fun x hx=>h x (List.mem_cons_of_mem _ hx)) (by simp)]
    simp
theorem arr_fig (l : List Nat) : Array.foldl (fun acc d=>acc * 10 + d) 0 (#[] ++ (l.map (· - 48)).toArray) = figN l:=by
  rw [Array.empty_append,<- Array.foldl_toList,List.foldl_map]
  rfl
theorem meets_int_new_str (x : Str) (u : Tok) {c : Nat} {cs : List Nat} (hx : x.cps.toList = c :: cs) (hc : Fig c) (hcs : ∀ d ∈ cs,Fig d) (h0 : c = 48 -> cs = []) (hl : cs.length < 640) :
    Meets (Builtin.«int.__new__» ⟨[.type "int",.str x u],[]⟩) (Made.int (figN (c :: cs) : Nat)).spec:=
  Meets.of_wp fun prog w A R s hs=>by
    obtain ⟨hp,g,d,tk,os⟩:=s
    have f1:=F.conv_sub_int
    have f2:=F.madeHere_int
    have hT : (⟨hp,g,d,tk,os⟩ : Shared).TypeIs (.str x u) "str" := rfl
    have f3:=str_no_int
    have f4:=str_no_index
    have f5:=str_no_trunc
    have hall : ∀ e ∈ c :: cs,Fig e:=fun e he=>by
      rcases List.mem_cons.mp he with rfl | he
      · exact hc
      · exact hcs e he
    have h1 : (x.cps.all fun x=>decide (x < 128)) = true:=by
      rw [<- Array.all_toList,hx,List.all_eq_true]
      intro e he
      have:=hall e he
      unfold Fig at this
      simp; omega
    have h2 : (c :: cs).takeWhile (fun x=>x != 0) = c :: cs:=by
      have : ∀ l : List Nat,(∀ e ∈ l,Fig e) -> l.takeWhile (fun x=>x != 0) = l:=by
        intro l
        induction l with
        | nil=>intro _; rfl
        | cons a l ih=>
          intro h
          have ha:=h a (by simp)
          unfold Fig at ha
          rw [List.takeWhile_cons,if_pos (by simp; omega),ih fun e he=>h e (List.mem_cons_of_mem _ he)]
      exact this _ hall
    repeat (any_goals (first | assumption | wp_step))
    simp only [h1,if_true,hx,h2]
    rw [if_pos (by rw [List.length_cons]; omega)]
    refine wpAny_bind (wpAny_pure ?_)
    clear h1 h2 hx
    have hfin : ∀ i : Int,i = (figN (c :: cs) : Nat) -> wpAny (model prog w) A.in1 (mkInt i) (fun a s'=>
      wpAny (model prog w) A.in1 (ret a) (fun fin s'=>∃ v,fin = Fin.done (Flow.ret v) /\ R (Except.ok (Flow.ret v)) s') (fun e s'=>R (Except.error e) s') s') (fun e s'=>R (Except.error e) s') ⟨hp,g,d,tk,os⟩:=fun i hi=>by
      subst hi
      repeat (any_goals (first | assumption | wp_step))
      exact ⟨_,rfl,hs⟩
    rcases fig_or hc with rfl | rfl | rfl | rfl | rfl | rfl | rfl | rfl | rfl | rfl
    · have:=h0 rfl
      subst this
      split <;> rename_i heq
      · cases heq
      · cases heq
      · cases heq
        exact hfin 0 rfl
      · cases heq
    all_goals
      split
      all_goals
        rename_i heq
        conv at heq=>lhs; whnf
        rw [drop_none ?_ hall,drop_end ?_ hall] at heq
        · split at heq
          · rename_i hd
            exfalso
            change (bind (List.foldlM _ (#[],false) (_ :: cs)) _) = _ at hd
            rw [fold_figs ?_ _ _ _ hall (by simp)] at hd
            · cases hd
            · intro ds b c h
              rcases fig_or h with rfl | rfl | rfl | rfl | rfl | rfl | rfl | rfl | rfl | rfl <;> rfl
          · rename_i hd
            change (bind (List.foldlM _ (#[],false) (_ :: cs)) _) = _ at hd
            rw [fold_figs ?_ _ _ _ hall (by simp)] at hd
            · cases hd
              rw [if_neg (show ¬ (_ && (0 != 0) && _) = true from by rw [show ((0 : Nat) != 0) = false from rfl,Bool.and_false,Bool.false_and]; decide),if_neg (by rw [Array.empty_append,List.size_toArray,List.length_map,List.length_cons]; simp; omega)] at heq
              cases heq
              first
              | done
              | (rw [if_pos (by simp)]
                 refine hfin _ ?_
                 rw [arr_fig]
                 rfl)
            · intro ds b c h
              rcases fig_or h with rfl | rfl | rfl | rfl | rfl | rfl | rfl | rfl | rfl | rfl <;> rfl
        all_goals
          intro c h
          rcases fig_or h with rfl | rfl | rfl | rfl | rfl | rfl | rfl | rfl | rfl | rfl <;> rfl
theorem call_intS {X : Cx} : CallR X (.type "int") (fun xs H Q=>∃ x c cs,xs = [.str x] /\ x.cps.toList = c :: cs /\ Fig c /\ (∀ d ∈ cs,Fig d) /\ (c = 48 -> cs = []) /\ cs.length < 640 /\ Q (.int (figN (c :: cs) : Nat)) H):=by
  intro pins s σ H xs us Q I r h
  obtain ⟨x,c,cs,rfl,hx,h1,h2,h3,h4,q⟩:=h
  obtain ⟨u,rfl,rx⟩:=vals1 r
  obtain ⟨t,rfl⟩:=rx
  exact call_int_1 (meets_int_new_str x t hx h1 h2 h3 h4) (show (Made.int (figN (c :: cs) : Nat)).post _ s from ⟨rfl,⟨.int _,H,I.tok _,⟨_,rfl⟩,q⟩⟩)
end L2
namespace L2
open PySem PySem.Spec PyProof.Rows
structure RoomH (k : Nat) (A : Around) : Prop where
  dp : A.depth + 3 * k + 5 < recursionLimit
  un : A.units + 16 * k + 200 < cLine
theorem Room.h {k : Nat} {A : Around} (r : Room k A) {v : Option Value} : RoomH k (A.mark v):=⟨r.dp,r.un⟩
theorem RoomH.deeper {k : Nat} {A : Around} (r : RoomH (k + 1) A) (env : Env) : RoomH k (A.deeper env):=
  ⟨by have:=r.dp; show A.depth + 1 + 3 * k + 5 < _; omega,by have:=r.un; show A.units + 3 + 16 * k + 200 < _; omega⟩
theorem RoomH.mono {j k : Nat} {A : Around} (r : RoomH k A) (h : j <= k) : RoomH j A:=⟨by have:=r.dp; omega,by have:=r.un; omega⟩
def CXN : CXT:=fun _ _ _ _ _ _=>False
structure FnOkH (P : Program) (w : World) (K : PySem.W.Frag) (mg : Str -> Option Value) (base : Heap) (k : Nat) (f : Addr) (fd : FuncData) (ps : List Str) (sp : Sp) : Prop where
  len : ∀ vs H Q E,sp vs H Q E -> vs.length = ps.length
  run : ∀ (A : Around) (outer : List Env) (s : Shared) (H : Hp) (args : Args) (us : List Value) (vs : List V) (Q : VK) (E : XK),RoomH k A -> Env0 P w K mg base A outer s H -> BindsTo s fd args (ps.zip us) -> Vals vs us -> sp vs H Q E ->
    codeAny (model P w) A (.call (.ref f) args) (CR CXN outer P w H s Q E) s
abbrev cxH (P : Program) (w : World) (K : PySem.W.Frag) (mg : Str -> Option Value) (base : Heap) (N : List Str) (qual : Str) (scope : Scope) (f : Addr) (cd : Value) (A : Around) (outer : List Env) (s : Shared) (H : Hp) : Cx:=
  { cxOf CXN P w K mg base N qual scope f cd A outer s H E0 with calm:=false,xe:=fun _ _=>False }
theorem inv_startH {P : Program} {w : World} {K : PySem.W.Frag} {mg : Str -> Option Value} {base : Heap} {N ps : List Str} {qual : Str} {scope : Scope} {f : Addr} {cd : Value} {A : Around} {outer : List Env} {s s1 : Shared} {H : Hp} {us : List Value} {vs : List V}
    (S : FnScope N ps scope) (e0 : Env0 P w K mg base A outer s H) (hl : vs.length = ps.length) (r : Vals vs us)
    (x : InCallC s s.heap.objs.size (bindL (envOfC qual scope s.heap.objs.size f cd).kindOf (ps.zip us) fun _=>none) (cellsFrom (s.heap.objs.size + 1) scope.names []) (bindC (envOfC qual scope s.heap.objs.size f cd).kindOf (ps.zip us) fun _=>none) s1) :
    Inv (cxH P w K mg base N qual scope f cd A outer s H) [] (start N vs) H s1:=by
  have e1 : Env0 P w K mg base { A with handled:=none } outer s H:=⟨e0.frames,e0.mod,e0.bs,e0.bsz,e0.funs,e0.frf,e0.hok,e0.bare⟩
  have I:=inv_start (CX:=CXN) (E:=E0) (cd:=cd) (qual:=qual) (f:=f) S (A:={ A with handled:=none }) rfl e1 hl r x
  exact ⟨⟨I.ok.mod,I.ok.kind,I.ok.glob,I.ok.blt,I.ok.above,I.ok.inj,I.ok.has,I.ok.cab,fun h=>(by cases h),Around.frames_deeper e0.frames,I.ok.stk,I.ok.exf,I.ok.bs,I.ok.bsz,I.ok.noex,I.ok.exfs,I.ok.funs,I.ok.frf⟩,I.os,I.bare,I.base,I.loc,I.cell,I.free,I.freeC,I.pin,I.hok,I.len⟩
theorem fn_ofH {P : Program} {w : World} {K : PySem.W.Frag} {mg : Str -> Option Value} {base : Heap} {k : Nat} {f : Addr} {name qual : Str} {params : Arguments} {body : List Stmt} {scope : Scope} {dV kV doc pm cdv ct oc : Value} {an od : Option Addr}
    {osl : Array (Option Value)} {N ps : List Str} {sp : Sp} (lk : K.lookup f = some ⟨oc,od,.func (PySem.W.fnOf name qual params body scope dV kV doc pm an cdv ct),osl⟩) (hcd : PySem.W.codeIn K cdv qual = true) (S : FnScope N ps scope)
    (len : ∀ vs H Q E,sp vs H Q E -> vs.length = ps.length)
    (hbody : ∀ (A : Around) (outer : List Env) (s : Shared) (H : Hp) (vs : List V) (Q : VK) (E : XK),RoomH k (A.deeper (envOfC qual scope s.heap.objs.size f cdv)) -> sp vs H Q E ->
      ∃ t,PSs (cxH P w K mg base N qual scope f cdv A outer s H) body t /\ t { nx:=fun _ H'=>Q .non H',rt:=Q } (start N vs) H) :
    FnOkH P w K mg base (k + 1) f (PySem.W.fnOf name qual params body scope dV kV doc pm an cdv ct) ps sp:=by
  refine ⟨len,fun A outer s H args us vs Q E hr e0 hb r hsp=>?_⟩
  have hl:=len _ _ _ _ hsp
  have KX : K.In s.heap:=e0.mod.kin.keeps fun b o e=>(e0.bs b o e).1
  have lim : s.heap.NoLimit:=e0.mod.nolimit.keeps fun b o e=>(e0.bs b o e).1
  have hkind : ∀ y ∈ ps.zip us,scope.names.lookup y.1 = some .local \/ (scope.names.lookup y.1 = some .cell /\ ((cellsFrom (s.heap.objs.size + 1) scope.names []).lookup y.1).isSome = true):=fun ⟨n,v⟩ hy=>by
    rcases S.par n (List.of_mem_zip hy).1 with q | q
    · exact .inl q
    · exact .inr ⟨q,PySem.W.cellsFrom_some _ _ _ (.inl q)⟩
  refine codeAny_call_function (by have:=hr.dp; omega) (KX _ _ lk) rfl S.co S.gen rfl (PySem.W.codeRec_of KX hcd) (hb _ _ _ _ ?_)
  refine wpAny_newFunctionEnv_cells S.kind hkind fun env he s1 x=>?_
  subst he
  refine ⟨lim.keeps x.toInCall.keep,codeAny_func ?_⟩
  obtain ⟨t,ht,hq⟩:=hbody A outer s H vs Q E (hr.deeper _) hsp
  have I : Inv (cxH P w K mg base N qual scope f cdv A outer s H) [] (start N vs) H s1:=inv_startH S e0 hl r x
  refine wpAny_mono (ht [] s1 (start N vs) H _ I hq) (fun fl s' hs=>?_) fun e s' hs=>False.elim hs
  have fin : ∀ {σ' : St} {H' : Hp} {v : V} {u : Value},Inv (cxH P w K mg base N qual scope f cdv A outer s H) [] σ' H' s' -> RelV v u -> Q v H' -> CE outer P w H s Q u s':=
    fun {σ' H' v u} J rv q=>⟨v,H',J.os,J.bare,J.base,J.hok,rv,q⟩
  cases fl with
  | ret u=>
    obtain ⟨v,σ',H',J,rv,q⟩:=hs
    exact fin J rv q
  | next=>
    obtain ⟨σ',H',J,q⟩:=hs
    exact fin (v:=V.non) (u:=Value.none) J rfl q
  | brk=>
    obtain ⟨_,_,_,q⟩:=hs
    exact False.elim q
  | cont=>
    obtain ⟨_,_,_,q⟩:=hs
    exact False.elim q
theorem Fun.okH {P : Program} {w : World} {K : PySem.W.Frag} {mg : Str -> Option Value} {base : Heap} {x qual : Str} {st : Stmt} {f : Addr} {fd : FuncData} {N ps : List Str} {k : Nat} {sp : Sp} (F : Fun K x qual st f fd) (S : FnScope N ps (defScope st)) (len : ∀ vs H Q E,sp vs H Q E -> vs.length = ps.length)
    (hbody : ∀ (cdv : Value) (A : Around) (outer : List Env) (s : Shared) (H : Hp) (vs : List V) (Q : VK) (E : XK),RoomH k (A.deeper (envOfC qual (defScope st) s.heap.objs.size f cdv)) -> sp vs H Q E ->
      ∃ t,PSs (cxH P w K mg base N qual (defScope st) f cdv A outer s H) (defBody st) t /\ t { nx:=fun _ H'=>Q .non H',rt:=Q } (start N vs) H) : FnOkH P w K mg base (k + 1) f fd ps sp:=by
  obtain ⟨oc,od,kV,doc,pm,an,cdv,ct,osl,rfl,lk,hcd⟩:=F.ex
  exact fn_ofH lk hcd S len fun A outer s H vs Q E hr hsp=>hbody cdv A outer s H vs Q E hr hsp
section
variable {X : Cx} {k : Nat} {f : Addr} {fd : FuncData} {ps : List Str} {sp : Sp} {E : XK} {x : Str} {p pos : Pos} {e : Expr} {es : List Expr} {t : TA}
theorem pe_callH (F : FnOkH X.prog X.w X.K X.mg X.base k f fd ps sp) (hr : RoomH k X.A) (hg : Gl X x) (hm : X.mg x = some (.ref f)) (hk : PySem.W.keepIn X.K (.ref f) = true) (hb : Binds X.K fd ps [])
    (ha : PA X (e :: es) t) (hdb : (x == ("__debug__" : Str)) = false:=by decide) (he : starEach (e :: es) X.env = (false,eval e X.env) :: starEach es X.env:=by rfl) (hpl : (backTo pos (starEach es X.env)).any (·.1) = false:=by rfl) :
    PE X (.Call (.Name x p) (e :: es) [] pos) (tCall sp [] E t):=by
  intro pins s σ H Q I h
  refine wpAny_Call_Name_kw (ld_glob I hg hm ?_ hdb)
  refine PySem.W.callWith_K (h₀:=X.base) I.ok.mod.kin hk (thn (ha pos pins s σ H _ I h) fun us s1 ⟨vs,H1,I1,r,q⟩=>⟨I1.kIn,?_⟩) he hpl
  have r2 : Vals (vs ++ []) (us ++ []):=r.append .nil
  have hl : (us ++ []).length = ps.length:=by rw [<- r2.length]; exact F.len _ _ _ _ q
  refine wpAny_call (codeAny_mono (F.run X.A X.stack s1 H1 ⟨us,[]⟩ (us ++ []) (vs ++ []) Q E hr I1.env0 (hb s1 us I1.kIn hl) r2 q) fun r s' hq=>?_)
  cases r with
  | error e=>exact False.elim hq
  | ok fl=>
    cases fl with
    | ret u=>exact I1.after hq
    | next=>exact False.elim hq
    | brk=>exact False.elim hq
    | cont=>exact False.elim hq
end
end L2
namespace PySem
open Sem (wp)
section
variable {M : Model} {A : Around} {E : Value -> Shared -> Prop} {s : Shared} {bs : Heap} {en : Env} {ou : List Env} {L e : Addr} {a0 : Value} {Q : Unit -> Shared -> Prop} {cls fv : Value} {dv : Option Addr}
theorem flightG {g : Option Addr} {l : List Env} (kb : bs.StaysIn s.heap) (ff : s.heap.FunFrames bs l) (tr : s.heap.TracedAtW bs e cls a0 fv) (dd : ∃ o',s.heap.get? e = some o' /\ o'.dict = dv /\ fld2 o' = some .none)
    (h : ∀ h' fv',bs.StaysIn h' -> h'.FunFrames bs l -> h'.TracedAtW bs e cls a0 fv' -> (∃ o',h'.get? e = some o' /\ o'.dict = dv /\ fld2 o' = some .none) -> s.heap.UpToSlots h' -> Q () { s with heap:=h' }) : wpAny M A (setFlight (.ref e) g) Q E s:=by
  obtain ⟨oe,ws,T,oT,ts,he,hc,od,z1,nT,Te,hT,dT,z3⟩:=tr
  obtain ⟨o',ho',hdv,hfl⟩:=dd
  have s3:=(Array.getElem?_eq_some_iff.mp z3).1
  obtain ⟨gv,eg⟩ : ∃ gv,(g.elim Value.none fun f=>rawInt f) = gv:=⟨_,rfl⟩
  have ot : ∀ b,b ≠ T -> (s.heap.update T (Obj.mapFields (·.setIfInBounds 3 gv))).get? b = s.heap.get? b:=fun b n=>Heap.get?_update_other _ _ n.symm
  have nr : ∀ b o,s.heap.get? b = some o -> (∀ ws,o.data ≠ .fields ws) -> b ≠ T:=fun b o q n z=>by
    rw [z,hT] at q
    cases q
    exact n ts dT
  unfold setFlight
  refine wpAny_bind (wpAny_field he od z1 ?_)
  rw [if_pos (show (Value.ref T != Value.none) = true by simp),eg]
  refine wpAny_setField hT dT s3 (h _ gv (fun b o q=>(ot b fun z=>by rw [z,nT] at q; cases q).trans (kb b o q)) (ff.of_keeps fun b o q n=>⟨o,(ot b (nr b o q n)).trans q,rfl⟩) ?_ ⟨o',(ot e Te.symm).trans ho',hdv,hfl⟩ fun b o q n=>⟨o.slots,(ot b (nr b o q n)).trans q⟩)
  exact ⟨oe,ws,T,_,_,(ot e Te.symm).trans he,hc,od,z1,nT,Te,Heap.get?_update_self _ hT (Obj.isFreed_of_fields (Obj.data_mapFields dT _)),Obj.data_mapFields dT _,by simp [s3]⟩
theorem leave3_dict (fr : A.frames = some (en :: ou)) (ef : en.frame = some L) (kb : bs.StaysIn s.heap) (ne : bs.get? e = none) (ff : s.heap.FunFrames bs (en :: ou)) (tr : s.heap.TracedAtW bs e cls a0 fv) (dd : ∃ o',s.heap.get? e = some o' /\ o'.dict = dv /\ fld2 o' = some .none)
    (h : ∀ h',Heap.FlyingW bs ou e cls a0 h' -> (∃ o',h'.get? e = some o' /\ o'.dict = dv /\ fld2 o' = some .none) -> s.heap.UpToSlots h' -> Q () { s with heap:=h' }) : wpAny M A (leaving en (.ref e)) Q E s:=by
  by_cases hm : fv = rawInt L
  · subst hm
    have tr':=tr
    obtain ⟨oe,ws,T,oT,ts,he,⟨hc,z0⟩,od,z1,nT,Te,hT,dT,z3⟩:=tr'
    unfold leaving
    exact wpAny_bind (wpAny_noteFrame_inFlight ef he od z1 hT dT z3 (flight_dict kb ne ff tr dd fun h' fl d u=>h h' ⟨fl.1,fl.2.1,fl.2.2.1.2.2,fl.2.2.2⟩ d u))
  obtain ⟨oe,ws,T,oT,ts,he,⟨hc,z0⟩,od,z1,nT,Te,hT,dT,z3⟩:=tr
  obtain ⟨o',ho',hdv,hfl⟩:=dd
  rw [he] at ho'
  cases ho'
  unfold leaving noteFrame
  simp only [ef]
  refine wpAny_bind (wpAny_bind (wpAny_field he od z1 ?_))
  rw [if_pos (show (Value.ref T != Value.none) = true by simp)]
  refine wpAny_bind (wpAny_field hT dT z3 ?_)
  rw [if_neg (show ¬ ((fv == rawInt L) = true) by rw [beq_iff_eq]; exact hm)]
  refine wpAny_bind (wpAny_setField hT dT (Array.getElem?_eq_some_iff.mp z3).1 ?_)
  have ot : ∀ b,b ≠ T -> (s.heap.update T (Obj.mapFields (·.setIfInBounds 3 Value.none))).get? b = s.heap.get? b:=fun b n=>Heap.get?_update_other _ _ n.symm
  have nr : ∀ b o,s.heap.get? b = some o -> (∀ ws,o.data ≠ .fields ws) -> b ≠ T:=fun b o q n z=>by
    rw [z,hT] at q
    cases q
    exact n ts dT
  refine entry_dict fr (ff.of_keeps fun b o q n=>⟨o,(ot b (nr b o q n)).trans q,rfl⟩) ef ((ot e Te.symm).trans he) (fun b o q=>(ot b fun z=>by rw [z,nT] at q; cases q).trans (kb b o q)) ne od (Array.getElem?_eq_some_iff.mp z1).1 z0 fun h' lf d'=>?_
  obtain ⟨k1,⟨_,_,k2⟩,k3,k4⟩:=lf
  rw [hc] at k3
  exact h h' ⟨k1,ne,k2,k3⟩ (d'.imp fun o q=>⟨q.1,q.2.1.trans hdv,q.2.2.trans hfl⟩) fun b o q n=>k4 b o ((ot b (nr b o q n)).trans q) n
end
theorem Heap.FunFrames.stayIn {h h' B B' : Heap} (kB : ∀ b,B.get? b = none -> B'.get? b = none) : ∀ {l : List Env},(∀ b ∈ l.filterMap (·.frame),∀ o,h.get? b = some o -> h'.get? b = some o) -> h.FunFrames B l -> h'.FunFrames B' l
  | [],_,_=>trivial
  | en :: r,k,⟨a,⟨L,o,ef,n,ho,d⟩,t⟩=>by
    refine ⟨a,⟨L,o,ef,kB _ n,k L ?_ o ho,d⟩,Heap.FunFrames.stayIn kB (fun b hb=>k b ?_) t⟩
    · rw [List.filterMap_cons,ef]; exact List.mem_cons_self
    · rw [List.filterMap_cons,ef]; exact List.mem_cons_of_mem _ hb
end PySem
namespace L2
open PySem PySem.Spec PyProof.Rows
structure FlyM (P : Program) (w : World) (outer : List Env) (H H' : Hp) (s s' : Shared) (a : Addr) (cls a0 : Value) (B : Heap) (fv : Value) : Prop where
  os : s'.os = s.os
  bare : AllBare s'.gens
  kb : B.StaysIn s'.heap
  ne : B.get? a = none
  ff : s'.heap.FunFrames B outer
  tr : s'.heap.TracedAtW B a cls a0 fv
  hokB : HOk P w H' B
  keep : ∀ b o,s.heap.get? b = some o -> H b = none -> b ∉ frs outer -> B.get? b = some o
  there : ∀ b o,s.heap.get? b = some o -> b ∉ frs outer -> ∃ o',B.get? b = some o'
  slot : ∀ b o,s.heap.get? b = some o -> b ∈ frs outer -> ∃ sl,s'.heap.get? b = some { o with slots:=sl }
  free : ∀ b o,s.heap.get? b = some o -> H b = none -> H' b = none
  tups : ∀ b xs,H b = some (.tup xs) -> H' b = some (.tup xs)
  frzs : ∀ b o u,H b = some (.frz o u) -> H' b = some (.frz o u)
  tbls : ∀ b ps,H b = some (.tbl ps) -> ∃ more,H' b = some (.tbl (ps ++ more))
def CXM (P : Program) (w : World) : CXT:=fun outer H s E e s'=>∃ a cls a0 dv H' B fv,e = Value.ref a /\ FlyM P w outer H H' s s' a cls a0 B fv /\ (∃ o',s'.heap.get? a = some o' /\ o'.dict = dv /\ fld2 o' = some .none) /\ E cls dv H'
section
variable {P : Program} {w : World} {K : PySem.W.Frag} {mg : Str -> Option Value} {base : Heap} {N : List Str} {qual : Str} {scope : Scope} {f : Addr} {cd : Value} {A : Around} {outer : List Env} {s : Shared} {H : Hp} {E : XK}
theorem pass_onM : Passes (CXM P w) (cxD P w K mg base N qual scope f cd A outer s H E) E:=by
  intro pins σ H1 s1 e s' I h
  obtain ⟨a,cls,a0,dv,H',B,fv,rfl,F,dd,hE⟩:=h
  show wpAny (model P w) _ (leaving _ (.ref a)) _ _ _
  have noex : ∀ b : Addr,b ∉ (cxD P w K mg base N qual scope f cd A outer s H E).ex:=fun b z=>absurd (show b ∈ ([] : List Addr) from z) (by simp)
  refine leave3_dict I.ok.frames rfl F.kb F.ne F.ff F.tr dd fun h2 x1 d2 x2=>?_
  refine ⟨a,cls,a0,dv,H',B,rfl,⟨F.os.trans I.os,F.bare,x1,F.hokB,fun b o q n hb=>?_,fun b o q hb=>?_,fun b o q hb=>?_,fun b o q n=>?_,fun b xs q=>F.tups b xs (I.base.tups b xs q),fun b o u q=>F.frzs b o u (I.base.frzs b o u q),fun b ps q=>?_⟩,d2,hE⟩
  · exact F.keep b o (I.base.keep b o q n hb (noex b)) (I.base.free b o q n (noex b)) (stk_neD I q hb)
  · obtain ⟨o',z⟩:=I.base.there b o q (noex b)
    exact F.there b o' z (stk_neD I q hb)
  · obtain ⟨sl,z⟩:=I.base.slot b o q (I.ok.frf b hb) hb (noex b)
    obtain ⟨_,o',ho',hnf⟩:=I.ok.funs.mem hb
    have ho2 : s.heap.get? b = some o':=ho'
    rw [q] at ho2
    cases ho2
    obtain ⟨sl',z'⟩:=F.slot b _ z (frs_subD hb)
    obtain ⟨sl2,z2⟩:=x2 b _ z' hnf
    exact ⟨sl2,z2⟩
  · obtain ⟨o',z⟩:=I.base.there b o q (noex b)
    exact F.free b o' z (I.base.free b o q n (noex b))
  · obtain ⟨m1,e1⟩:=I.base.tbls b ps q
    obtain ⟨m2,e2⟩:=F.tbls b _ e1
    exact ⟨m1 ++ m2,by rw [e2,Array.append_assoc]⟩
end
section
variable {prog : Program} {w : World} {A : Around} {R : Result -> Shared -> Prop} {s : Shared}
theorem compLoop_anyX {elt target iter : Expr} {ifs : List Expr} {scope : Scope} {pos : Pos} {it acc : Value} {env : Env} (I : Nat -> Shared -> Prop)
    (turn : ∀ n s,I n s -> wpAny (model prog w) A (pyNext it) (fun r s₁=>match r with
      | none=>R (.ok .next) s₁
      | some v=>wpAny (model prog w) A (letOwnedTupleGo target it v) (fun _ s₁'=>wpAny (model prog w) A (assign target env v) (fun _ s₂=>
          wpAny (model prog w) A (forIn ifs true fun c r=>if r = true then do let ok <- isTrue c env (eval c env); pure (ForInStep.yield ok) else pure (ForInStep.yield r)) (fun ok s₃=>
            if ok = true then wpAny (model prog w) A (eval elt env) (fun x s₄=>
              wpAny (model prog w) A (call (.builtin "list.append") [acc,x]) (fun _ s₅=>∃ m,m < n /\ I m s₅) (fun _ _=>False) s₄) (notedBy (model prog w) A env fun x s'=>R (.error x) s') s₃
            else ∃ m,m < n /\ I m s₃) (fun _ _=>False) s₂)
          (fun _ _=>False) s₁') (fun _ _=>False) s₁) (fun _ _=>False) s)
    (n : Nat) (h : I n s) : codeAny (model prog w) A (.compLoop (.ListComp elt [⟨target,iter,ifs,0⟩] scope pos) 0 it acc env) R s:=by
  refine codeAny_loop rfl I (fun n s hI=>?_) n h
  show wpAny _ A ((compTurn (.ListComp elt [⟨target,iter,ifs,0⟩] scope pos) 0 it acc env).onRaise (fun x=>do noteFrame x env; theTreesLotGoes x)) _ _ s
  refine wpAny_noted ?_
  rw [compTurn_list]
  refine wpAny_bind (wpAny_standAt (wpAny_bind (wpAny_mono (turn n s hI) (fun r s₁ h₁=>?_) fun _ _ h'=>h'.elim)))
  cases r with
  | none=>exact wpAny_pure h₁
  | some v=>
    refine wpAny_bind (wpAny_mono h₁ (fun _ s₁' h₁'=>?_) fun _ _ h'=>h'.elim)
    refine wpAny_bind (wpAny_mono h₁' (fun _ s₂ h₂=>wpAny_bind (wpAny_mono h₂ (fun ok s₃ h₃=>?_) fun _ _ h'=>h'.elim)) fun _ _ h'=>h'.elim)
    cases ok with
    | true=>
      rw [if_pos rfl] at h₃
      exact wpAny_bind (wpAny_bind (wpAny_mono h₃ (fun x s₄ h₄=>wpAny_bind (wpAny_mono h₄ (fun _ s₅ h₅=>wpAny_pure (wpAny_pure ⟨rfl,h₅⟩)) fun _ _ h'=>h'.elim)) fun _ _ h'=>h'))
    | false=>
      rw [if_neg Bool.false_ne_true] at h₃
      exact wpAny_bind (wpAny_pure (wpAny_pure ⟨rfl,h₃⟩))
end
def blkX (X : Cx) (E : XK) (N' : List Str) (sc : Scope) (cl : List (Str × Addr)) (C : Addr) (s0 : Shared) (H0 : Hp) (ex : List Addr) : Cx:=
  { blkC X N' sc cl C s0 H0 ex with xe:=fun v s'=>∃ pins σ1 H1 s1,Inv (blkC X N' sc cl C s0 H0 ex) pins σ1 H1 s1 /\ CXD X.prog X.w X.stack H1 s1 E v s' }
section
variable {X : Cx} {E : XK} {N' : List Str} {sc : Scope} {cl : List (Str × Addr)} {C : Addr} {s0 : Shared} {H0 : Hp} {ex : List Addr} {pins : List (Addr × Obj)} {σ : St} {H : Hp} {s : Shared}
theorem blkIn (I : Inv (blkC X N' sc cl C s0 H0 ex) pins σ H s) : Inv (blkX X E N' sc cl C s0 H0 ex) pins σ H s:=
  ⟨⟨I.ok.mod,I.ok.kind,I.ok.glob,I.ok.blt,I.ok.above,I.ok.inj,I.ok.has,I.ok.cab,I.ok.hd,I.ok.frames,I.ok.stk,I.ok.exf,I.ok.bs,I.ok.bsz,I.ok.noex,I.ok.exfs,I.ok.funs,I.ok.frf⟩,I.os,I.bare,I.base,I.loc,I.cell,I.free,I.freeC,I.pin,I.hok,I.len⟩
theorem blkOut (I : Inv (blkX X E N' sc cl C s0 H0 ex) pins σ H s) : Inv (blkC X N' sc cl C s0 H0 ex) pins σ H s:=
  ⟨⟨I.ok.mod,I.ok.kind,I.ok.glob,I.ok.blt,I.ok.above,I.ok.inj,I.ok.has,I.ok.cab,I.ok.hd,I.ok.frames,I.ok.stk,I.ok.exf,I.ok.bs,I.ok.bsz,I.ok.noex,I.ok.exfs,I.ok.funs,I.ok.frf⟩,I.os,I.bare,I.base,I.loc,I.cell,I.free,I.freeC,I.pin,I.hok,I.len⟩
theorem pass_blk : Passes (CXD X.prog X.w) (blkX X E N' sc cl C s0 H0 ex) E:=fun pins σ H s _ _ I h=>⟨pins,σ,H,s,blkOut I,h⟩
end
section
variable {X : Cx} {E : XK} {pins : List (Addr × Obj)} {σ : St} {H1 : Hp} {s1 : Shared}
theorem blk_error {C L : Addr} {x : Value} {s' : Shared} {cenv : Env} {m : Str -> Option Value} {acc : Value} {use : Option (Value -> Sem Unit)} {QQ : Value -> Shared -> Prop} {ou : List Env} (hx : Passes (CXM X.prog X.w) X E) (hst : X.stack = X.env :: ou) (ef : X.env.frame = some L) (hce : cenv.frame = X.env.frame)
    (I : Inv X pins σ H1 s1) (hm : s1.heap.Ns C m) (hf : FpOk X pins H1 C) (hfs : C ∉ frs X.stack) (h : CXD X.prog X.w X.stack H1 s1 E x s') :
    notedBy (model X.prog X.w) X.A cenv (fun x s'=>compPost (model X.prog X.w) X.A X.xe use QQ acc C (.error x) s') x s':=by
  obtain ⟨a,cls,a0,dv,H',B,rfl,F,dd,hE⟩:=h
  have e0 : noteFrame (.ref a) cenv = noteFrame (.ref a) X.env:=by unfold noteFrame PySem.frameOf; rw [hce]
  show wpAny _ _ (noteFrame (.ref a) cenv) _ _ _
  rw [e0]
  have fl:=F.fl
  rw [hst] at fl
  refine look_dict (by rw [I.ok.frames,hst]) ef fl dd fun h1 hd1 dd1 u1=>?_
  obtain ⟨oC,eC,pC,hoC,hdC,rC⟩:=hm
  have bC : B.get? C = some oC:=F.keep C oC hoC hf.1 hfs
  have nC : ∀ vs,oC.data ≠ .fields vs:=fun vs z=>by rw [hdC] at z; cases z
  have hC1 : h1.get? C = some oC:=hd1.1 C oC bC
  have go : ∃ m,h1.Ns C m /\ ∀ h2,Heap.SameBut C h1 h2 -> ∀ cenv : Env,cenv.locals = C -> wpAny (model X.prog X.w) X.A (PySem.passOn "comprehension.variables-let-go" (.ref a) cenv : Sem Value) (fun _ _=>False) X.xe { s' with heap:=h2 }:=by
    refine ⟨m,⟨oC,eC,pC,hC1,hdC,rC⟩,fun h2 sb cenv _=>?_⟩
    obtain ⟨B2,eB⟩ : ∃ B2,PySem.W.hideAll B [C] = B2:=⟨_,rfl⟩
    have b0 : B2.get? C = none:=by rw [<- eB]; exact PySem.W.hideAll_none _ List.mem_cons_self
    have b1 : ∀ b o,B2.get? b = some o -> b ≠ C /\ B.get? b = some o:=fun b o q=>⟨fun z=>(by rw [z,b0] at q; cases q),by rw [<- eB] at q; exact PySem.W.of_hideAll _ q⟩
    have b2 : ∀ b o,b ≠ C -> B.get? b = some o -> B2.get? b = some o:=fun b o n q=>by rw [<- eB]; exact PySem.W.hideAll_get _ q (by simpa using n)
    have bn : ∀ b,B.get? b = none -> B2.get? b = none:=fun b q=>by
      cases z : B2.get? b with
      | none=>rfl
      | some o=>rw [(b1 b o z).2] at q; cases q
    obtain ⟨k1,ne,ff,oe,ws,T,oT,ts,he,hc,od,z1,nT,Te,hT,dT,z3⟩:=hd1
    have cT : T ≠ C:=fun z=>by rw [z,bC] at nT; cases nT
    have cA : a ≠ C:=fun z=>by rw [z,bC] at ne; cases ne
    have kb2 : B2.StaysIn h2:=fun b o q=>by
      obtain ⟨n,q⟩:=b1 b o q
      rw [sb.2 b n]
      exact k1 b o q
    have ff2 : h2.FunFrames B2 X.stack:=by
      rw [hst]
      refine Heap.FunFrames.stayIn bn (fun b hb o q=>?_) ff
      rw [sb.2 b fun z=>hfs ?_]
      · exact q
      · rw [hst,<- z]; exact hb
    have tr2 : h2.TracedAtW B2 a cls a0 (rawInt L):=⟨oe,ws,T,oT,ts,by rw [sb.2 a cA]; exact he,hc,od,z1,bn _ nT,Te,by rw [sb.2 T cT]; exact hT,dT,z3⟩
    have dd2 : ∃ o',h2.get? a = some o' /\ o'.dict = dv /\ fld2 o' = some .none:=by
      obtain ⟨o',q,r⟩:=dd1
      exact ⟨o',by rw [sb.2 a cA]; exact q,r⟩
    unfold PySem.passOn
    refine wpAny_bind (wpAny_field (s:={ s' with heap:=h2 }) (show h2.get? a = some oe by rw [sb.2 a cA]; exact he) od z1 ?_)
    rw [if_neg (show ¬ ((Value.ref T == Value.none) = true) by simp)]
    refine wpAny_bind (flightG (s:={ s' with heap:=h2 }) kb2 ff2 tr2 dd2 fun h3 fv3 kb3 ff3 tr3 dd3 u3=>?_)
    refine wpAny_throw ?_
    obtain ⟨s1h,eS⟩ : ∃ s1h : Shared,({ s1 with heap:=PySem.W.hideAll s1.heap [C],toks:=s1.toks } : Shared) = s1h:=⟨_,rfl⟩
    have c0 : (PySem.W.hideAll s1.heap [C]).get? C = none:=PySem.W.hideAll_none _ List.mem_cons_self
    have c1 : ∀ b o,s1h.heap.get? b = some o -> b ≠ C /\ s1.heap.get? b = some o:=fun b o q=>by
      rw [<- eS] at q
      exact ⟨fun z=>(by rw [z,c0] at q; cases q),PySem.W.of_hideAll _ q⟩
    obtain ⟨f0,f1,f2,f3,f4,f5⟩:=hf
    have I2 : Inv X pins σ H1 s1h:=by
      rw [<- eS]
      exact I.turned (it:=C) (fun b o n q=>PySem.W.hideAll_get _ q (by simpa using n)) f0 f1 f3 f4 f5
    refine hx pins σ H1 s1h _ _ I2 ⟨a,cls,a0,dv,H',B2,fv3,rfl,⟨by rw [<- eS]; exact F.os,F.bare,kb3,bn _ ne,ff3,tr3,fun b u q=>?_,fun b o q n hb=>?_,fun b o q hb=>?_,fun b o q hb=>?_,fun b o q n=>F.free b o (c1 b o q).2 n,F.tups,F.frzs,F.tbls⟩,dd3,hE⟩
    · have fC : H' C = none:=F.free C oC hoC f0
      have nc : ∀ c v,H' c = some v -> c ≠ C:=fun c v r z=>by rw [z,fC] at r; cases r
      refine (F.hokB b u q).stay (fun c v hc r=>b2 c v ?_ r) (fun _ r=>r) fun _ _ r=>r
      rcases hc with rfl | hc
      · exact nc c u q
      · exact nc c _ hc
    · exact b2 b o (c1 b o q).1 (F.keep b o (c1 b o q).2 n hb)
    · obtain ⟨o',z⟩:=F.there b o (c1 b o q).2 hb
      exact ⟨o',b2 b o' (c1 b o q).1 z⟩
    · obtain ⟨sl,z⟩:=F.slot b o (c1 b o q).2 hb
      obtain ⟨_,o',ho',hnf⟩:=F.fl.2.2.1.mem hb
      rw [z] at ho'
      cases ho'
      obtain ⟨sl1,z1⟩:=u1 b _ z hnf
      have z2 : h2.get? b = some { o with slots:=sl1 }:=by rw [sb.2 b (c1 b o q).1]; exact z1
      obtain ⟨sl3,z3⟩:=u3 b _ z2 hnf
      exact ⟨sl3,z3⟩
  unfold compPost
  cases use <;> exact go
end
section
variable {X : Cx} {E : XK}
theorem comp_coreX {elt tg iter : Expr} {ifs : List Expr} {tt : TT} {pos : Pos} {N N' : List Str} {sc scE : Scope} {cap : List (Option Nat)} {wi : TI} {g : TG} {te : TE} {use : Option (Value -> Sem Unit)} {QQ : Value -> Shared -> Prop} (hcalm : X.calm = true) (hi : PI X tg iter wi)
    (hg : ∀ cl C s0 H0 ex,PG (blkC X N' sc cl C s0 H0 ex) tg g) (he : ∀ cl C s0 H0 ex,PE (blkX X E N' sc cl C s0 H0 ex) elt te) (hx : Passes (CXM X.prog X.w) X E) (hst : X.stack = X.env :: X.outer) (htt : ∀ cl C s0 H0 ex,PTs (blkC X N' sc cl C s0 H0 ex) ifs tt)
    (hN : X.N = N) (hE : X.env.scope = scE) (hc : compOkC N N' sc scE cap = true) (hs : ∀ x,foldedSetIterable iter X.env x = pure x)
    {pins : List (Addr × Obj)} {s : Shared} {σ : St} {H : Hp} {Q : VK} (I : Inv X pins σ H s) (h : tCompT cap wi g tt te σ H Q)
    (fin : ∀ acc C H' s' m,Inv X pins σ H' s' -> s'.heap.Ns C m -> FpOk X pins H' C -> Q (.ref acc) H' -> compPost (model X.prog X.w) X.A X.xe use QQ (.ref acc) C (.ok .next) s') {pos' : Pos} :
    wpAny (model X.prog X.w) X.A (comprehension (.ListComp elt [⟨tg,iter,ifs,0⟩] sc pos) sc X.env pos' (newList []) false (eval iter X.env) use) QQ X.xe s:=by
  have ck:=compOkC.of hc
  obtain ⟨cl,hcl,c1,c2⟩:=closure_of (scope:=sc) (env:=X.env) fun x hx hf=>I.ok.has x.1 (by
    have:=ck.fre x hx hf
    rw [<- hE] at this
    exact this)
  refine wpAny_comprehension_free (use:=use) rfl hs hcl ck.kind ck.loc (thn (hi pins s σ H _ I h) fun v s1 h1=>thn h1 fun itv s2 h2=>?_)
  obtain ⟨it,fp,tn,J,H2,e,I2,T,st2,f2,hw⟩:=h2
  subst e
  have fsz : ∀ b ∈ fp,b < s2.heap.objs.size:=fun b hb=>by
    obtain ⟨o,e,_⟩:=T.obj _ _ st2 b hb
    exact Heap.lt_size e
  obtain ⟨W,⟨m0,w0⟩,turn⟩:=hw s2.heap.objs.size I2.fresh
  refine wpAny_newObj_type (wpAny_newEnvC ?_)
  dsimp only
  have I3 : Inv X pins σ (upd H2 s2.heap.objs.size (.lst [])) { s2 with heap:=s2.heap.push { cls:=.type "list",data:=.seq ([] : List Value).toArray } }:=
    I2.lnew (its:=[]) (ys:=[]) (t':=s2.toks) .nil (Nat.zero_le _)
  generalize hs3 : ({ s2 with heap:=s2.heap.push { cls:=.type "list",data:=.seq ([] : List Value).toArray } } : Shared) = s3 at I3
  have hh3 : s3.heap = s2.heap.push { cls:=.type "list",data:=.seq ([] : List Value).toArray }:=by rw [<- hs3]
  have hsz : s3.heap.objs.size = s2.heap.objs.size + 1:=by rw [hh3,Heap.size_push]
  have f3 : ∀ b ∈ fp,FpOk X pins (upd H2 s2.heap.objs.size (.lst [])) b:=fun b hb=>by
    obtain ⟨g0,g1⟩:=f2 b hb
    exact ⟨by rw [upd_ne (Nat.ne_of_lt (fsz b hb))]; exact g0,g1⟩
  have k3 : ∀ b o,s2.heap.get? b = some o -> s3.heap.get? b = some o:=fun b o e=>by rw [hh3]; exact Heap.get?_push_of_some _ e
  obtain ⟨cl',hcl'⟩ : ∃ cl',cellsFrom (s3.heap.objs.size + 1) sc.names cl = cl':=⟨_,rfl⟩
  obtain ⟨h₁,hh₁⟩ : ∃ h₁,pushCells (s3.heap.push { cls:=.type "dict",data:=.dict #[] }) sc.names = h₁:=⟨_,rfl⟩
  have k1 : ∀ b o,s3.heap.get? b = some o -> h₁.get? b = some o:=fun b o e=>by rw [<- hh₁]; exact pushCells_keeps _ _ b o (Heap.get?_push_of_some _ e)
  have c1' : ∀ x c,cl'.lookup x = some c -> cl.lookup x = some c \/ s3.heap.objs.size + 1 <= c:=fun x c e=>by
    rw [<- hcl'] at e
    have:=cellsFrom_look (sc.names) (s3.heap.push { cls:=.type "dict",data:=.dict #[] }) cl x c (by rw [Heap.size_push]; exact e)
    rcases this with z | ⟨_,z,_⟩
    · exact .inl z
    · rw [Heap.size_push] at z; exact .inr z
  have I4 : Inv (blkC X N' sc cl' s3.heap.objs.size s3 (upd H2 s2.heap.objs.size (.lst [])) fp) [] (capOf cap σ) (upd H2 s2.heap.objs.size (.lst [])) { s3 with heap:=h₁ }:=by
    rw [<- hcl',<- hh₁]
    exact blk_invC I3 hN hE ck c1 c2 f3 (fun b hb=>Nat.lt_of_lt_of_le (fsz b hb) (by rw [hsz]; exact Nat.le_succ _))
  have st4 : tn 0 h₁:=T.keep _ _ _ st2 fun b hb o e=>k1 b o (k3 b o e)
  generalize hX' : blkC X N' sc cl' s3.heap.objs.size s3 (upd H2 s2.heap.objs.size (.lst [])) fp = X' at I4
  have hxe : X'.xe = fun _ _=>False:=by rw [<- hX']; rfl
  have hprog : X'.prog = X.prog:=by rw [<- hX']; rfl
  have hww : X'.w = X.w:=by rw [<- hX']; rfl
  have hKK : X'.K = X.K:=by rw [<- hX']; rfl
  have hAA : X'.A = X.A:=by rw [<- hX']; rfl
  have hcc : X'.calm = true:=by rw [<- hX']; exact hcalm
  have henv : X'.env = compEnvC sc cl' s3.heap.objs.size X.env:=by rw [<- hX']; rfl
  have hloc : X'.env.locals = s3.heap.objs.size:=by rw [henv]; rfl
  have hg' : PG X' tg g:=by rw [<- hX']; exact hg _ _ _ _ _
  obtain ⟨X2,hX2⟩ : ∃ X2,blkX X E N' sc cl' s3.heap.objs.size s3 (upd H2 s2.heap.objs.size (.lst [])) fp = X2:=⟨_,rfl⟩
  have he' : PE X2 elt te:=by rw [<- hX2]; exact he _ _ _ _ _
  have toX2 : ∀ {pp : List (Addr × Obj)} {σ' : St} {H' : Hp} {s' : Shared},Inv X' pp σ' H' s' -> Inv X2 pp σ' H' s':=fun {pp σ' H' s'} J=>by
    rw [<- hX'] at J
    rw [<- hX2]
    exact blkIn J
  have ofX2 : ∀ {pp : List (Addr × Obj)} {σ' : St} {H' : Hp} {s' : Shared},Inv X2 pp σ' H' s' -> Inv X' pp σ' H' s':=fun {pp σ' H' s'} J=>by
    rw [<- hX2] at J
    rw [<- hX']
    exact blkOut J
  have htt' : PTs X' ifs tt:=by rw [<- hX']; exact htt _ _ _ _ _
  have stat : ∀ {H' : Hp},(∀ b ∈ fp,H' b = none) -> ∀ b ∈ fp,FpOk X' [] H' b:=fun {H'} hn b hb=>by
    obtain ⟨_,g1,g2,g3,g4,g5⟩:=f3 b hb
    refine ⟨hn b hb,by rw [hloc,hsz]; exact Nat.ne_of_lt (Nat.lt_succ_of_lt (fsz b hb)),?_,?_,?_,fun p hp=>?_⟩
    · rw [<- hX']
      intro z
      rcases List.mem_cons.mp (I3.stkSub b z) with e | z
      · exact g1 e
      · exact g2 z
    · left
      rw [<- hX']
      exact hb
    · intro x c e
      rw [henv] at e
      rcases c1' x c e with z | z
      · exact g4 x c (c1 x c z)
      · exact fun q=>absurd (Nat.lt_of_lt_of_le (fsz b hb) (Nat.le_trans (Nat.le_trans (Nat.le_succ _) (hsz ▸ Nat.le_succ _)) (q ▸ z))) (Nat.lt_irrefl _)
    · rw [<- hX'] at hp
      cases hp
  have inX : ∀ {pp : List (Addr × Obj)} {σ' : St} {H' : Hp} {s' : Shared},Inv X' pp σ' H' s' -> Inv X pins σ H' s':=fun {pp σ' H' s'} J=>by
    have hok:=J.hok
    rw [hprog,hww] at hok
    have u1 : Un (frs X.stack) fp (upd H2 s2.heap.objs.size (.lst [])) H' s3.heap s'.heap:=by
      have:=J.base
      rw [<- hX'] at this
      exact this
    have hos : s'.os = s3.os:=by have:=J.os; rw [<- hX'] at this; exact this
    refine I3.call' (s':=s') hos u1 hok J.bare fun b hb=>?_
    obtain ⟨_,g1,g2,g3,g4,g5⟩:=f3 b hb
    exact ⟨g3,g1,g4,g5⟩
  have hfrm : X.env.frame = some X.env.locals:=by
    rcases I.ok.stk with z | z
    · rw [hst] at z
      exact absurd (congrArg List.length z) (by simp)
    · exact z.2
  have fin' : ∀ {σ' : St} {H' : Hp} {s' : Shared},Inv X' [] σ' H' s' -> Q (.ref s2.heap.objs.size) H' -> compPost (model X.prog X.w) X.A X.xe use QQ (.ref s2.heap.objs.size) s3.heap.objs.size (.ok .next) s':=fun {σ' H' s'} J q=>by
    obtain ⟨mm,hmm,_⟩:=J.loc
    rw [hloc] at hmm
    have hfree : H' s3.heap.objs.size = none:=by have:=J.free; rw [hloc] at this; exact this
    have hok:=J.hok
    rw [hprog,hww] at hok
    have u1 : Un (frs X.stack) fp (upd H2 s2.heap.objs.size (.lst [])) H' s3.heap s'.heap:=by
      have:=J.base
      rw [<- hX'] at this
      exact this
    have hos : s'.os = s3.os:=by have:=J.os; rw [<- hX'] at this; exact this
    refine fin _ _ H' s' mm (I3.call' (s':=s') hos u1 hok J.bare fun b hb=>?_) hmm (I3.fpOk (Nat.le_refl _) hfree) q
    obtain ⟨_,g1,g2,g3,g4,g5⟩:=f3 b hb
    exact ⟨g3,g1,g4,g5⟩
  have loop : codeAny (model X.prog X.w) X.A (.compLoop (.ListComp elt [⟨tg,iter,ifs,0⟩] sc pos) 0 (.ref it) (.ref s2.heap.objs.size) X'.env)
      (compPost (model X.prog X.w) X.A X.xe use QQ (.ref s2.heap.objs.size) s3.heap.objs.size) { s3 with heap:=h₁ }:=by
    refine compLoop_anyX (fun n s'=>∃ i ys σ' H',Inv X' [] σ' H' s' /\ tn i s'.heap /\ (∀ b ∈ fp,H' b = none) /\ W i n ys σ' H') ?_ m0 ⟨0,[],_,_,I4,st4,fun b hb=>(f3 b hb).1,w0⟩
    rintro n s5 ⟨i,ys,σ5,H5,I5,st5,fr5,w5⟩
    obtain ⟨hacc,q⟩:=turn i n ys σ5 H5 w5
    rcases q with ⟨stop,q⟩ | ⟨go,hlen,step⟩
    · refine thn (hAA ▸ T.done X' hprog hww hKK hcc i [] s5 σ5 H5 _ I5 (stat fr5) st5 stop) fun r s6 ⟨hr,I6⟩=>?_
      subst hr
      exact fin' I6 q
    · refine thn (hAA ▸ T.item X' hprog hww hKK hcc i [] s5 σ5 H5 _ I5 (stat fr5) st5 go) fun r s6 ⟨u,hr,h6⟩=>?_
      subst hr
      refine thn h6 fun _ s7 ⟨x,H7,I7,r7,y7,st7,fr7⟩=>?_
      have I7':=I7.pinned (stat fr7) (T.obj _ _ st7)
      have g7:=hg' _ s7 σ5 H7 x u _ I7' r7 (step x H7 y7)
      rw [hprog,hww,hAA,hxe] at g7
      refine thn g7 fun _ s8 ⟨σ8,H8,I8,q8⟩=>?_
      have t8:=htt' _ s8 σ8 H8 _ I8 q8
      rw [hprog,hww,hAA,hxe] at t8
      refine thn t8 fun okb s8t ⟨H8t,I8t,q8t⟩=>?_
      cases okb with
      | false=>
        rw [if_neg Bool.false_ne_true] at q8t ⊢
        obtain ⟨m',hm',w9⟩:=q8t
        refine ⟨m',hm',i + 1,_,σ8,_,I8t.unpinned,T.keep _ _ _ st7 fun b hb o eo=>(I8t.pin (b,o) (List.mem_append_right _ (List.mem_append_right _ (mem_pinsAt hb eo)))).1,fun b hb=>?_,w9⟩
        obtain ⟨o,eo,d⟩:=T.obj _ _ st7 b hb
        exact (I8t.pin (b,o) (List.mem_append_right _ (List.mem_append_right _ (mem_pinsAt hb eo)))).2.1
      | true=>
      rw [if_pos rfl] at q8t ⊢
      have g8:=he' _ s8t σ8 H8t _ (toX2 I8t) q8t
      have g8' : wpAny (model X.prog X.w) X.A (eval elt X'.env) (EP X2 ([] ++ pinsAt fp s7.heap) σ8 fun yv H9=>H9 s2.heap.objs.size = some (.lst ys) /\ ∃ m',m' < n /\ W (i + 1) m' (ys ++ [yv]) σ8 (upd H9 s2.heap.objs.size (.lst (ys ++ [yv])))) X2.xe s8t:=by
        rw [<- hX2,henv] at *
        exact g8
      refine wpAny_mono g8' (fun y s9 ⟨yv,H9,I9',r9,a9,m',hm',w9⟩=>?_) fun x sx hxx=>?_
      case refine_2=>
        rw [<- hX2] at hxx
        obtain ⟨pp,σx,Hx,s1x,Jx,cx⟩:=hxx
        rw [hX'] at Jx
        have IX:=inX Jx
        obtain ⟨mm,hmm,_⟩:=Jx.loc
        rw [hloc] at hmm
        have hfree : Hx s3.heap.objs.size = none:=by have:=Jx.free; rw [hloc] at this; exact this
        have fp1 : FpOk X pins Hx s3.heap.objs.size:=I3.fpOk (Nat.le_refl _) hfree
        refine blk_error hx hst hfrm (by rw [henv]; rfl) IX hmm fp1 (fun z=>?_) cx
        rcases List.mem_cons.mp (I3.stkSub _ z) with z | z
        · exact fp1.2.1 z
        · exact fp1.2.2.1 z
      have I9:=ofX2 I9'
      obtain ⟨z,its,nn,rr,hl,e⟩:=I9.lstM a9
      refine call_meets F.slot_list_append ⟨_,e,rfl⟩ F.entry_list_append (F.args_list_append_2 _ _) (PySem.list_append _ its.toArray nn y (by rw [List.size_toArray]; omega)) ⟨e,?_⟩
      have I10 : Inv X' ([] ++ pinsAt fp s7.heap) σ8 (upd H9 s2.heap.objs.size (.lst (ys ++ [yv]))) { s9 with heap:=s9.heap.update s2.heap.objs.size (Obj.mapSeq fun a=>a.push y) }:=
        I9.lset (t':=s9.toks) (its':=its ++ [y]) a9 e (by simp) (rr.append (.cons r9 .nil)) (by rw [List.length_append,List.length_singleton]; omega)
      refine ⟨m',hm',i + 1,_,σ8,_,I10.unpinned,T.keep _ _ _ st7 fun b hb o eo=>(I10.pin (b,o) (List.mem_append_right _ (List.mem_append_right _ (mem_pinsAt hb eo)))).1,fun b hb=>?_,w9⟩
      obtain ⟨o,eo,d⟩:=T.obj _ _ st7 b hb
      exact (I10.pin (b,o) (List.mem_append_right _ (List.mem_append_right _ (mem_pinsAt hb eo)))).2.1
  rw [henv] at loop
  have goal:=codeAny_compStart_list (rest:=[]) (ifs:=ifs) loop (T.self X.A 0 _ _ _ st4 loop)
  subst hs3
  rw [<- hcl',<- hh₁] at goal
  exact goal
theorem pe_compX {elt tg iter : Expr} {ifs : List Expr} {tt : TT} {pos : Pos} {N N' : List Str} {sc scE : Scope} {cap : List (Option Nat)} {wi : TI} {g : TG} {te : TE} (hcalm : X.calm = true) (hi : PI X tg iter wi)
    (hg : ∀ cl C s0 H0 ex,PG (blkC X N' sc cl C s0 H0 ex) tg g) (he : ∀ cl C s0 H0 ex,PE (blkX X E N' sc cl C s0 H0 ex) elt te) (hx : Passes (CXM X.prog X.w) X E) (hst : X.stack = X.env :: X.outer) (htt : ∀ cl C s0 H0 ex,PTs (blkC X N' sc cl C s0 H0 ex) ifs tt)
    (hN : X.N = N:=by rfl) (hE : X.env.scope = scE:=by rfl) (hc : compOkC N N' sc scE cap = true:=by decide +kernel) (hs : ∀ x,foldedSetIterable iter X.env x = pure x:=by intro _; rfl) :
    PE X (.ListComp elt [⟨tg,iter,ifs,0⟩] sc pos) (tCompT cap wi g tt te):=by
  intro pins s σ H Q I h
  rw [eval_ListComp]
  refine comp_coreX (use:=none) hcalm hi hg he hx hst htt hN hE hc hs I h fun acc C H' s' m I' hm hf q=>⟨m,hm,fun h' hs'=>?_⟩
  obtain ⟨f0,f1,f2,f3,f4,f5⟩:=hf
  exact ⟨.ref acc,H',I'.turned (t':=s'.toks) (fun b o hb e=>(hs'.2 b hb).trans e) f0 f1 f3 f4 f5,rfl,q⟩
end
end L2
namespace Sm
open PySem PySem.Spec L2
inductive PV where
  | non | bl (b : Bool) | int (i : Int) | str (x : Str) | tup (xs : List PV) | lst (xs : List PV) | fro (xs : List PV) | ref (i : Nat) | dic
inductive Cell where
  | lst (xs : List PV) | dic (kvs : List (Key × PV)) | dtp (kvs : List (HK × PV)) | frd (kvs : List (Key × PV))
  | obj (C : Addr) (fs : List (Str × PV))
abbrev Store:=List Cell
structure Exc where
  cls : Str
  fs : Option (Str × PV):=none
inductive Res (α : Type) where
  | ok (a : α) (st : Store) | exc (x : Exc) (st : Store) | stuck
abbrev Gam:=List (Option PV)
abbrev ME:=Gam -> Store -> Res PV
structure Tk where
  tr : List Addr
  hid : List Addr
instance : Membership Addr Tk:=⟨fun t a=>a ∈ t.tr \/ a ∈ t.hid⟩
def Tk.nil : Tk:=⟨[],[]⟩
theorem Tk.not_nil (a : Addr) : a ∉ Tk.nil:=fun z=>by rcases z with z | z <;> cases z
def Tk.add (t : Tk) (p : Addr) : Tk:=⟨t.tr ++ [p],t.hid⟩
def Tk.hide (t : Tk) (p : Addr) : Tk:=⟨t.tr,p :: t.hid⟩
mutual
def Rep (H : Hp) (ρ : Tk) : PV -> V -> Prop
  | .non,v=>v = .non
  | .bl b,v=>v = .bl b
  | .int i,v=>v = .int i
  | .str x,v=>v = .str x
  | .tup ps,v=>∃ a vs,v = .ref a /\ H a = some (.tup vs) /\ a ∉ ρ /\ RepL H ρ ps vs
  | .lst ps,v=>∃ a vs,v = .ref a /\ H a = some (.lst vs) /\ a ∉ ρ /\ RepL H ρ ps vs
  | .fro ps,v=>∃ a vs,v = .ref a /\ Rd H a (.lst vs) /\ a ∉ ρ /\ RepL H ρ ps vs
  | .ref i,v=>∃ a,ρ.tr[i]? = some a /\ v = .ref a
  | .dic,v=>∃ a,v = .ref a /\ H a = some (.dK []) /\ a ∉ ρ
def RepL (H : Hp) (ρ : Tk) : List PV -> List V -> Prop
  | [],vs=>vs = []
  | p :: ps,vs=>∃ v r,vs = v :: r /\ Rep H ρ p v /\ RepL H ρ ps r
end
structure Ext (H : Hp) (ρ : Tk) (H' : Hp) (ρ' : Tk) : Prop where
  pre : ρ.tr <+: ρ'.tr
  hidM : ∀ a,a ∈ ρ.hid -> a ∈ ρ'.hid
  hidN : ∀ a,a ∈ ρ'.hid -> a ∈ ρ.hid \/ H a = none
  keep : ∀ a o,H a = some o -> a ∉ ρ.tr -> H' a = some o
  new : ∀ a,a ∈ ρ'.tr -> a ∈ ρ.tr \/ H a = none
  old : ∀ a o,H a = some o -> ∃ o',H' a = some o'
  frz : ∀ a o u,H a = some (.frz o u) -> H' a = some (.frz o u)
theorem Ext.refl (H : Hp) (ρ : Tk) : Ext H ρ H ρ:=⟨List.prefix_refl _,fun _ h=>h,fun _ h=>.inl h,fun _ _ h _=>h,fun _ h=>.inl h,fun _ o h=>⟨o,h⟩,fun _ _ _ h=>h⟩
theorem Ext.trans {H H1 H2 : Hp} {ρ ρ1 ρ2 : Tk} (a : Ext H ρ H1 ρ1) (b : Ext H1 ρ1 H2 ρ2) : Ext H ρ H2 ρ2 where
  pre:=a.pre.trans b.pre
  hidM:=fun x h=>b.hidM x (a.hidM x h)
  hidN:=fun x h=>by
    rcases b.hidN x h with z | z
    · exact a.hidN x z
    · right
      cases q : H x with
      | none=>rfl
      | some o=>
        obtain ⟨o',e⟩:=a.old x o q
        rw [e] at z; cases z
  keep:=fun x o h n=>b.keep x o (a.keep x o h n) fun z=>by
    rcases a.new x z with z | z
    · exact n z
    · rw [h] at z; cases z
  new:=fun x h=>by
    rcases b.new x h with z | z
    · exact a.new x z
    · right
      cases q : H x with
      | none=>rfl
      | some o=>
        obtain ⟨o',e⟩:=a.old x o q
        rw [e] at z; cases z
  old:=fun x o h=>by
    obtain ⟨o',e⟩:=a.old x o h
    exact b.old x o' e
  frz:=fun x o u h=>b.frz x o u (a.frz x o u h)
theorem Ext.add {H : Hp} {ρ : Tk} {p : Addr} {o : HO} (h : H p = none) : Ext H ρ (upd H p o) ρ where
  pre:=List.prefix_refl _
  hidM:=fun _ h=>h
  hidN:=fun _ h=>.inl h
  keep:=fun a u e _=>by rw [upd_ne (ne_of_none e h)]; exact e
  new:=fun a e=>.inl e
  old:=fun a u e=>⟨u,by rw [upd_ne (ne_of_none e h)]; exact e⟩
  frz:=fun a o u e=>by rw [upd_ne (ne_of_none e h)]; exact e
theorem Ext.same {H H' : Hp} {ρ : Tk} (h : Same H H') : Ext H ρ H' ρ:=⟨List.prefix_refl _,fun _ h=>h,fun _ h=>.inl h,fun a o e _=>h a o e,fun _ e=>.inl e,fun a o e=>⟨o,h a o e⟩,fun a o u e=>h a _ e⟩
section
variable {H H' : Hp} {ρ ρ' : Tk}
theorem fresh_not {a : Addr} {o : HO} (x : Ext H ρ H' ρ') (h : H a = some o) (n : a ∉ ρ) : a ∉ ρ':=fun z=>by
  rcases z with z | z
  · rcases x.new a z with z | z
    · exact n (.inl z)
    · rw [h] at z; cases z
  · rcases x.hidN a z with z | z
    · exact n (.inr z)
    · rw [h] at z; cases z
theorem Ext.kp {a : Addr} {o : HO} (x : Ext H ρ H' ρ') (h : H a = some o) (n : a ∉ ρ) : H' a = some o:=x.keep a o h fun z=>n (.inl z)
mutual
theorem Rep.ext (x : Ext H ρ H' ρ') : ∀ {p : PV} {v : V},Rep H ρ p v -> Rep H' ρ' p v
  | .non,_,h=>h
  | .bl _,_,h=>h
  | .int _,_,h=>h
  | .str _,_,h=>h
  | .tup ps,v,h=>by
    obtain ⟨a,vs,e,s,n,r⟩:=h
    exact ⟨a,vs,e,x.kp s n,fresh_not x s n,RepL.ext x r⟩
  | .lst ps,v,h=>by
    obtain ⟨a,vs,e,s,n,r⟩:=h
    exact ⟨a,vs,e,x.kp s n,fresh_not x s n,RepL.ext x r⟩
  | .fro ps,v,h=>by
    obtain ⟨a,vs,e,s,n,r⟩:=h
    rcases s with s | ⟨o,s⟩
    · exact ⟨a,vs,e,.inl (x.kp s n),fresh_not x s n,RepL.ext x r⟩
    · exact ⟨a,vs,e,.inr ⟨o,x.kp s n⟩,fresh_not x s n,RepL.ext x r⟩
  | .ref i,v,h=>by
    obtain ⟨a,e,rfl⟩:=h
    obtain ⟨t,et⟩:=x.pre
    refine ⟨a,?_,rfl⟩
    rw [<- et,List.getElem?_append_left (List.getElem?_eq_some_iff.mp e).1]
    exact e
  | .dic,v,h=>by
    obtain ⟨a,e,s,n⟩:=h
    exact ⟨a,e,x.kp s n,fresh_not x s n⟩
theorem RepL.ext (x : Ext H ρ H' ρ') : ∀ {ps : List PV} {vs : List V},RepL H ρ ps vs -> RepL H' ρ' ps vs
  | [],_,h=>h
  | p :: ps,vs,h=>by
    obtain ⟨v,r,e,h1,h2⟩:=h
    exact ⟨v,r,e,Rep.ext x h1,RepL.ext x h2⟩
end
mutual
theorem Rep.hide {a : Addr} {o : HO} (h : H a = none) : ∀ {p : PV} {v : V},Rep H ρ p v -> Rep (upd H a o) (ρ.hide a) p v
  | .non,_,r=>r
  | .bl _,_,r=>r
  | .int _,_,r=>r
  | .str _,_,r=>r
  | .tup ps,v,⟨b,vs,e,s,n,r⟩=>⟨b,vs,e,by rw [upd_ne (ne_of_none s h)]; exact s,fun z=>by
      rcases z with z | z
      · exact n (.inl z)
      · rcases List.mem_cons.mp z with z | z
        · exact ne_of_none s h z
        · exact n (.inr z),RepL.hide h r⟩
  | .lst ps,v,⟨b,vs,e,s,n,r⟩=>⟨b,vs,e,by rw [upd_ne (ne_of_none s h)]; exact s,fun z=>by
      rcases z with z | z
      · exact n (.inl z)
      · rcases List.mem_cons.mp z with z | z
        · exact ne_of_none s h z
        · exact n (.inr z),RepL.hide h r⟩
  | .fro ps,v,⟨b,vs,e,s,n,r⟩=>by
      have ne : b ≠ a:=by
        rcases s with s | ⟨_,s⟩
        · exact ne_of_none s h
        · exact ne_of_none s h
      refine ⟨b,vs,e,?_,fun z=>?_,RepL.hide h r⟩
      · rcases s with s | ⟨u,s⟩
        · exact .inl (by rw [upd_ne ne]; exact s)
        · exact .inr ⟨u,by rw [upd_ne ne]; exact s⟩
      · rcases z with z | z
        · exact n (.inl z)
        · rcases List.mem_cons.mp z with z | z
          · exact ne z
          · exact n (.inr z)
  | .ref i,v,r=>r
  | .dic,v,⟨b,e,s,n⟩=>⟨b,e,by rw [upd_ne (ne_of_none s h)]; exact s,fun z=>by
      rcases z with z | z
      · exact n (.inl z)
      · rcases List.mem_cons.mp z with z | z
        · exact ne_of_none s h z
        · exact n (.inr z)⟩
theorem RepL.hide {a : Addr} {o : HO} (h : H a = none) : ∀ {ps : List PV} {vs : List V},RepL H ρ ps vs -> RepL (upd H a o) (ρ.hide a) ps vs
  | [],_,r=>r
  | p :: ps,_,⟨v,t,e,r1,r2⟩=>⟨v,t,e,Rep.hide h r1,RepL.hide h r2⟩
end
mutual
theorem Rep.rehide {a : Addr} {o : HO} (h : a ∈ ρ.hid) : ∀ {p : PV} {v : V},Rep H ρ p v -> Rep (upd H a o) ρ p v
  | .non,_,r=>r
  | .bl _,_,r=>r
  | .int _,_,r=>r
  | .str _,_,r=>r
  | .tup ps,v,⟨b,vs,e,s,n,r⟩=>⟨b,vs,e,by rw [upd_ne (show b ≠ a from fun z=>n (.inr (by rw [z]; exact h)))]; exact s,n,RepL.rehide h r⟩
  | .lst ps,v,⟨b,vs,e,s,n,r⟩=>⟨b,vs,e,by rw [upd_ne (show b ≠ a from fun z=>n (.inr (by rw [z]; exact h)))]; exact s,n,RepL.rehide h r⟩
  | .fro ps,v,⟨b,vs,e,s,n,r⟩=>by
      have ne : b ≠ a:=fun z=>n (.inr (by rw [z]; exact h))
      refine ⟨b,vs,e,?_,n,RepL.rehide h r⟩
      rcases s with s | ⟨u,s⟩
      · exact .inl (by rw [upd_ne ne]; exact s)
      · exact .inr ⟨u,by rw [upd_ne ne]; exact s⟩
  | .ref i,v,r=>r
  | .dic,v,⟨b,e,s,n⟩=>⟨b,e,by rw [upd_ne (show b ≠ a from fun z=>n (.inr (by rw [z]; exact h)))]; exact s,n⟩
theorem RepL.rehide {a : Addr} {o : HO} (h : a ∈ ρ.hid) : ∀ {ps : List PV} {vs : List V},RepL H ρ ps vs -> RepL (upd H a o) ρ ps vs
  | [],_,r=>r
  | p :: ps,_,⟨v,t,e,r1,r2⟩=>⟨v,t,e,Rep.rehide h r1,RepL.rehide h r2⟩
end
mutual
theorem Rep.retr {a : Addr} {o : HO} (h : a ∈ ρ.tr) : ∀ {p : PV} {v : V},Rep H ρ p v -> Rep (upd H a o) ρ p v
  | .non,_,r=>r
  | .bl _,_,r=>r
  | .int _,_,r=>r
  | .str _,_,r=>r
  | .tup ps,v,⟨b,vs,e,s,n,r⟩=>⟨b,vs,e,by rw [upd_ne (show b ≠ a from fun z=>n (.inl (by rw [z]; exact h)))]; exact s,n,RepL.retr h r⟩
  | .lst ps,v,⟨b,vs,e,s,n,r⟩=>⟨b,vs,e,by rw [upd_ne (show b ≠ a from fun z=>n (.inl (by rw [z]; exact h)))]; exact s,n,RepL.retr h r⟩
  | .fro ps,v,⟨b,vs,e,s,n,r⟩=>by
      have ne : b ≠ a:=fun z=>n (.inl (by rw [z]; exact h))
      refine ⟨b,vs,e,?_,n,RepL.retr h r⟩
      rcases s with s | ⟨u,s⟩
      · exact .inl (by rw [upd_ne ne]; exact s)
      · exact .inr ⟨u,by rw [upd_ne ne]; exact s⟩
  | .ref i,v,r=>r
  | .dic,v,⟨b,e,s,n⟩=>⟨b,e,by rw [upd_ne (show b ≠ a from fun z=>n (.inl (by rw [z]; exact h)))]; exact s,n⟩
theorem RepL.retr {a : Addr} {o : HO} (h : a ∈ ρ.tr) : ∀ {ps : List PV} {vs : List V},RepL H ρ ps vs -> RepL (upd H a o) ρ ps vs
  | [],_,r=>r
  | p :: ps,_,⟨v,t,e,r1,r2⟩=>⟨v,t,e,Rep.retr h r1,RepL.retr h r2⟩
end
mutual
theorem Rep.unhide {hs : List Addr} (hh : ∀ a,a ∈ hs -> a ∈ ρ.hid) : ∀ {p : PV} {v : V},Rep H ρ p v -> Rep H ⟨ρ.tr,hs⟩ p v
  | .non,_,r=>r
  | .bl _,_,r=>r
  | .int _,_,r=>r
  | .str _,_,r=>r
  | .tup ps,v,⟨b,vs,e,s,n,r⟩=>⟨b,vs,e,s,fun z=>n (z.imp id (hh _)),RepL.unhide hh r⟩
  | .lst ps,v,⟨b,vs,e,s,n,r⟩=>⟨b,vs,e,s,fun z=>n (z.imp id (hh _)),RepL.unhide hh r⟩
  | .fro ps,v,⟨b,vs,e,s,n,r⟩=>⟨b,vs,e,s,fun z=>n (z.imp id (hh _)),RepL.unhide hh r⟩
  | .ref i,v,r=>r
  | .dic,v,⟨b,e,s,n⟩=>⟨b,e,s,fun z=>n (z.imp id (hh _))⟩
theorem RepL.unhide {hs : List Addr} (hh : ∀ a,a ∈ hs -> a ∈ ρ.hid) : ∀ {ps : List PV} {vs : List V},RepL H ρ ps vs -> RepL H ⟨ρ.tr,hs⟩ ps vs
  | [],_,r=>r
  | p :: ps,_,⟨v,t,e,r1,r2⟩=>⟨v,t,e,Rep.unhide hh r1,RepL.unhide hh r2⟩
end
theorem RepL.length : ∀ {ps : List PV} {vs : List V},RepL H ρ ps vs -> ps.length = vs.length
  | [],_,h=>by cases h; rfl
  | p :: ps,_,⟨v,r,rfl,_,h2⟩=>by rw [List.length_cons,List.length_cons,RepL.length h2]
theorem RepL.get : ∀ {ps : List PV} {vs : List V} {i : Nat} {p : PV},RepL H ρ ps vs -> ps[i]? = some p -> ∃ v,vs[i]? = some v /\ Rep H ρ p v
  | [],_,_,_,_,e=>by simp at e
  | p :: ps,_,0,q,⟨v,r,rfl,h1,h2⟩,e=>by simp at e; subst e; exact ⟨v,rfl,h1⟩
  | p :: ps,_,i + 1,q,⟨v,r,rfl,h1,h2⟩,e=>by
    obtain ⟨u,e1,e2⟩:=RepL.get (i:=i) h2 (by simpa using e)
    exact ⟨u,by simpa using e1,e2⟩
theorem RepL.cons {p : PV} {v : V} {ps : List PV} {vs : List V} (h : Rep H ρ p v) (r : RepL H ρ ps vs) : RepL H ρ (p :: ps) (v :: vs):=⟨v,vs,rfl,h,r⟩
theorem RepL.nil : RepL H ρ [] []:=rfl
theorem RepL.append : ∀ {ps qs : List PV} {vs us : List V},RepL H ρ ps vs -> RepL H ρ qs us -> RepL H ρ (ps ++ qs) (vs ++ us)
  | [],_,_,_,h,g=>by cases h; exact g
  | p :: ps,_,_,_,⟨v,r,rfl,h1,h2⟩,g=>⟨v,_,rfl,h1,RepL.append h2 g⟩
theorem RepL.take : ∀ {ps : List PV} {vs : List V} (n : Nat),RepL H ρ ps vs -> RepL H ρ (ps.take n) (vs.take n)
  | _,_,0,_=>rfl
  | [],_,n + 1,h=>by cases h; rfl
  | p :: ps,_,n + 1,⟨v,r,rfl,h1,h2⟩=>⟨v,_,rfl,h1,RepL.take n h2⟩
theorem RepL.drop : ∀ {ps : List PV} {vs : List V} (n : Nat),RepL H ρ ps vs -> RepL H ρ (ps.drop n) (vs.drop n)
  | _,_,0,h=>h
  | [],_,n + 1,h=>by cases h; rfl
  | p :: ps,_,n + 1,⟨v,r,rfl,h1,h2⟩=>RepL.drop n h2
theorem RepL.set {p : PV} {v : V} (h : Rep H ρ p v) : ∀ {ps : List PV} {vs : List V} (i : Nat),RepL H ρ ps vs -> RepL H ρ (ps.set i p) (vs.set i v)
  | [],_,_,g=>by cases g; rfl
  | q :: ps,_,0,⟨u,r,rfl,h1,h2⟩=>⟨v,r,rfl,h,h2⟩
  | q :: ps,_,i + 1,⟨u,r,rfl,h1,h2⟩=>⟨u,_,rfl,h1,RepL.set h i h2⟩
theorem RepL.rep {ps : List PV} {vs : List V} (h : RepL H ρ ps vs) : ∀ n,RepL H ρ (List.replicate n ps).flatten (List.replicate n vs).flatten
  | 0=>rfl
  | n + 1=>by rw [List.replicate_succ,List.replicate_succ,List.flatten_cons,List.flatten_cons]; exact h.append (RepL.rep h n)
theorem RepL.toInts : ∀ {ns : List Int} {vs : List V},RepL H ρ (ns.map .int) vs -> vs = ns.map V.int
  | [],_,h=>h
  | n :: ns,_,⟨v,r,rfl,h1,h2⟩=>by
    have e : v = V.int n:=h1
    rw [RepL.toInts h2,e]; rfl
theorem RepL.toBls : ∀ {ns : List Bool} {vs : List V},RepL H ρ (ns.map .bl) vs -> vs = ns.map V.bl
  | [],_,h=>h
  | n :: ns,_,⟨v,r,rfl,h1,h2⟩=>by
    have e : v = V.bl n:=h1
    rw [RepL.toBls h2,e]; rfl
end
def RepD {κ : Type} (H : Hp) (ρ : Tk) (kvs : List (κ × PV)) (vs : List (κ × V)) : Prop:=vs.map Prod.fst = kvs.map Prod.fst /\ RepL H ρ (kvs.map Prod.snd) (vs.map Prod.snd)
theorem RepD.ext {κ : Type} {H H' : Hp} {ρ ρ' : Tk} {kvs : List (κ × PV)} {vs : List (κ × V)} (x : Ext H ρ H' ρ') (r : RepD H ρ kvs vs) : RepD H' ρ' kvs vs:=⟨r.1,r.2.ext x⟩
def CellR (H : Hp) (ρ : Tk) (a : Addr) : Cell -> Prop
  | .lst ps=>∃ vs,H a = some (.lst vs) /\ RepL H ρ ps vs
  | .dic kvs=>∃ vs,H a = some (.dK vs) /\ RepD H ρ kvs vs
  | .dtp kvs=>∃ vs,H a = some (.dT vs) /\ RepD H ρ kvs vs
  | .frd kvs=>∃ vs,(∃ o,H a = some (.frz o (.dK vs))) /\ RepD H ρ kvs vs
  | .obj C fs=>∃ vs,(∃ dx,H a = some (.ins C dx vs)) /\ RepD H ρ fs vs
theorem CellR.dom {H : Hp} {ρ : Tk} {a : Addr} : ∀ {c : Cell},CellR H ρ a c -> ∃ o,H a = some o
  | .lst _,⟨_,e,_⟩=>⟨_,e⟩
  | .dic _,⟨_,e,_⟩=>⟨_,e⟩
  | .dtp _,⟨_,e,_⟩=>⟨_,e⟩
  | .frd _,⟨_,⟨_,e⟩,_⟩=>⟨_,e⟩
  | .obj _ _,⟨_,⟨_,e⟩,_⟩=>⟨_,e⟩
theorem CellR.ext {H H' : Hp} {ρ ρ' : Tk} {a : Addr} (x : Ext H ρ H' ρ') (k : ∀ o,H a = some o -> H' a = some o) : ∀ {c : Cell},CellR H ρ a c -> CellR H' ρ' a c
  | .lst _,⟨vs,e,r⟩=>⟨vs,k _ e,r.ext x⟩
  | .dic _,⟨vs,e,r⟩=>⟨vs,k _ e,r.ext x⟩
  | .dtp _,⟨vs,e,r⟩=>⟨vs,k _ e,r.ext x⟩
  | .frd _,⟨vs,⟨o,e⟩,r⟩=>⟨vs,⟨o,k _ e⟩,r.ext x⟩
  | .obj _ _,⟨vs,⟨o,e⟩,r⟩=>⟨vs,⟨o,k _ e⟩,r.ext x⟩
structure Rel (H : Hp) (ρ : Tk) (st : Store) : Prop where
  len : ρ.tr.length = st.length
  nd : ρ.tr.Nodup
  hd : ∀ a ∈ ρ.hid,∃ o,H a = some o /\ ∀ xs,o ≠ .tup xs
  ap : ∀ a ∈ ρ.hid,a ∉ ρ.tr
  cell : ∀ (i : Nat) (a : Addr) (c : Cell),ρ.tr[i]? = some a -> st[i]? = some c -> CellR H ρ a c
section
variable {H H' : Hp} {ρ ρ' : Tk} {st st' : Store}
theorem Rel.lst (R : Rel H ρ st) {i : Nat} {ps : List PV} (h : st[i]? = some (.lst ps)) : ∃ a vs,ρ.tr[i]? = some a /\ H a = some (.lst vs) /\ RepL H ρ ps vs:=by
  have hi : i < ρ.tr.length:=by rw [R.len]; exact (List.getElem?_eq_some_iff.mp h).1
  have e : ρ.tr[i]? = some ρ.tr[i]:=List.getElem?_eq_getElem hi
  obtain ⟨vs,e1,e2⟩:=R.cell i _ _ e h
  exact ⟨_,vs,e,e1,e2⟩
theorem Rel.dom (R : Rel H ρ st) {a : Addr} (h : a ∈ ρ.tr) : ∃ o,H a = some o:=by
  obtain ⟨i,hi,e⟩:=List.getElem_of_mem h
  have hs : i < st.length:=by rw [<- R.len]; exact hi
  have q:=R.cell i a st[i] (by rw [List.getElem?_eq_getElem hi,e]) (List.getElem?_eq_getElem hs)
  exact q.dom
theorem Rel.fresh (R : Rel H ρ st) {p : Addr} (h : H p = none) : p ∉ ρ:=fun z=>by
  rcases z with z | z
  · obtain ⟨vs,q⟩:=R.dom z
    rw [h] at q; cases q
  · obtain ⟨o,q,_⟩:=R.hd p z
    rw [h] at q; cases q
theorem Rel.later (R : Rel H ρ st) (x : Ext H ρ H' ρ) (k : ∀ a o,a ∈ ρ.tr -> H a = some o -> H' a = some o) : Rel H' ρ st where
  len:=R.len
  nd:=R.nd
  hd:=fun a ha=>let ⟨o,e,n⟩:=R.hd a ha; ⟨o,x.keep a o e (R.ap a ha),n⟩
  ap:=R.ap
  cell:=fun i a c h1 h2=>by
    exact (R.cell i a c h1 h2).ext x fun o e=>k a o (List.mem_of_getElem? h1) e
end
theorem Rel.add {H : Hp} {ρ : Tk} {st : Store} (R : Rel H ρ st) {p : Addr} {o : HO} (h : H p = none) : Rel (upd H p o) ρ st:=
  R.later (Ext.add h) fun a u hm e=>by rw [upd_ne (ne_of_none e h)]; exact e
theorem Rel.same {H H' : Hp} {ρ : Tk} {st : Store} (R : Rel H ρ st) (h : Same H H') : Rel H' ρ st:=R.later (Ext.same h) fun a u _ e=>h a u e
theorem nodup_inj {α : Type} {l : List α} (h : l.Nodup) {i j : Nat} (hi : i < l.length) (hj : j < l.length) (e : l[i] = l[j]) : i = j:=by
  rcases Nat.lt_trichotomy i j with z | z | z
  · exact absurd e ((List.pairwise_iff_getElem.mp h) i j hi hj z)
  · exact z
  · exact absurd e.symm ((List.pairwise_iff_getElem.mp h) j i hj hi z)
theorem Ext.put {H : Hp} {ρ : Tk} {a : Addr} {o o' : HO} (h : a ∈ ρ.tr) (e : H a = some o) (nf : ∀ q u,o ≠ .frz q u:=by intro _ _ z; cases z) : Ext H ρ (upd H a o') ρ where
  pre:=List.prefix_refl _
  hidM:=fun _ h=>h
  hidN:=fun _ h=>.inl h
  keep:=fun b u q n=>by rw [upd_ne (show b ≠ a from fun z=>n (by rw [z]; exact h))]; exact q
  new:=fun b q=>.inl q
  old:=fun b u q=>by
    by_cases z : b = a
    · exact ⟨o',by rw [z]; exact upd_same⟩
    · exact ⟨u,by rw [upd_ne z]; exact q⟩
  frz:=fun b q u k=>by
    by_cases z : b = a
    · rw [z,e] at k; cases k; exact absurd rfl (nf _ _)
    · rw [upd_ne z]; exact k
theorem Rel.putC {H : Hp} {ρ : Tk} {st : Store} (R : Rel H ρ st) {i : Nat} {a : Addr} {cl : Cell} {o o' : HO} (hi : ρ.tr[i]? = some a) (e : H a = some o) (r : CellR (upd H a o') ρ a cl) : Rel (upd H a o') ρ (st.set i cl) where
  len:=by rw [List.length_set]; exact R.len
  nd:=R.nd
  hd:=fun b hb=>let ⟨u,q,n⟩:=R.hd b hb; ⟨u,by rw [upd_ne (show b ≠ a from fun z=>R.ap b hb (by rw [z]; exact List.mem_of_getElem? hi))]; exact q,n⟩
  ap:=R.ap
  cell:=fun j b c h1 h2=>by
    by_cases hj : i = j
    · subst hj
      rw [hi] at h1; cases h1
      rw [List.getElem?_set_self (by rw [<- R.len]; exact (List.getElem?_eq_some_iff.mp hi).1)] at h2
      cases h2
      exact r
    · rw [List.getElem?_set_ne hj] at h2
      have q:=R.cell j b c h1 h2
      have hb : b ≠ a:=fun z=>by
        subst z
        have l1:=(List.getElem?_eq_some_iff.mp hi)
        have l2:=(List.getElem?_eq_some_iff.mp h1)
        exact hj (nodup_inj R.nd l1.1 l2.1 (l1.2.trans l2.2.symm))
      have hm:=List.mem_of_getElem? hi
      cases c with
      | lst ps=>
        obtain ⟨vs,e1,e2⟩:=q
        exact ⟨vs,by rw [upd_ne hb]; exact e1,e2.retr hm⟩
      | dic ps=>
        obtain ⟨vs,e1,e2⟩:=q
        exact ⟨vs,by rw [upd_ne hb]; exact e1,e2.1,e2.2.retr hm⟩
      | dtp ps=>
        obtain ⟨vs,e1,e2⟩:=q
        exact ⟨vs,by rw [upd_ne hb]; exact e1,e2.1,e2.2.retr hm⟩
      | frd ps=>
        obtain ⟨vs,⟨oo,e1⟩,e2⟩:=q
        exact ⟨vs,⟨oo,by rw [upd_ne hb]; exact e1⟩,e2.1,e2.2.retr hm⟩
      | obj C ps=>
        obtain ⟨vs,⟨oo,e1⟩,e2⟩:=q
        exact ⟨vs,⟨oo,by rw [upd_ne hb]; exact e1⟩,e2.1,e2.2.retr hm⟩
theorem Rel.put {H : Hp} {ρ : Tk} {st : Store} (R : Rel H ρ st) {i : Nat} {a : Addr} {ps : List PV} {vs : List V} {o : HO} (hi : ρ.tr[i]? = some a) (e : H a = some o) (r : RepL H ρ ps vs) : Rel (upd H a (.lst vs)) ρ (st.set i (.lst ps)):=
  R.putC hi e ⟨vs,upd_same,r.retr (List.mem_of_getElem? hi)⟩
theorem Rel.hide {H : Hp} {ρ : Tk} {st : Store} (R : Rel H ρ st) {p : Addr} {o : HO} (h : H p = none) (nt : ∀ xs,o ≠ .tup xs:=by intro _ z; cases z) : Rel (upd H p o) (ρ.hide p) st:=by
  have x : Ext H ρ (upd H p o) ρ:=Ext.add h
  have R':=R.add (p:=p) (o:=o) h
  refine ⟨R'.len,R'.nd,fun a ha=>?_,fun a ha z=>?_,fun i a c h1 h2=>?_⟩
  · rcases List.mem_cons.mp ha with rfl | ha
    · exact ⟨o,upd_same,nt⟩
    · exact R'.hd a ha
  · rcases List.mem_cons.mp ha with rfl | ha
    · exact R.fresh h (.inl z)
    · exact R.ap a ha z
  · have q:=R.cell i a c h1 h2
    cases c with
    | lst ps=>
      obtain ⟨vs,e1,e2⟩:=q
      exact ⟨vs,by rw [upd_ne (ne_of_none e1 h)]; exact e1,e2.hide h⟩
    | dic ps=>
      obtain ⟨vs,e1,e2⟩:=q
      exact ⟨vs,by rw [upd_ne (ne_of_none e1 h)]; exact e1,e2.1,e2.2.hide h⟩
    | dtp ps=>
      obtain ⟨vs,e1,e2⟩:=q
      exact ⟨vs,by rw [upd_ne (ne_of_none e1 h)]; exact e1,e2.1,e2.2.hide h⟩
    | frd ps=>
      obtain ⟨vs,⟨oo,e1⟩,e2⟩:=q
      exact ⟨vs,⟨oo,by rw [upd_ne (ne_of_none e1 h)]; exact e1⟩,e2.1,e2.2.hide h⟩
    | obj C ps=>
      obtain ⟨vs,⟨oo,e1⟩,e2⟩:=q
      exact ⟨vs,⟨oo,by rw [upd_ne (ne_of_none e1 h)]; exact e1⟩,e2.1,e2.2.hide h⟩
theorem Rel.rehide {H : Hp} {ρ : Tk} {st : Store} (R : Rel H ρ st) {p : Addr} {o : HO} (h : p ∈ ρ.hid) (nt : ∀ xs,o ≠ .tup xs:=by intro _ z; cases z) : Rel (upd H p o) ρ st:=by
  refine ⟨R.len,R.nd,fun a ha=>?_,R.ap,fun i a c h1 h2=>?_⟩
  · by_cases e : a = p
    · exact ⟨o,by rw [e]; exact upd_same,nt⟩
    · obtain ⟨u,q,n⟩:=R.hd a ha
      exact ⟨u,by rw [upd_ne e]; exact q,n⟩
  · have q:=R.cell i a c h1 h2
    have ne : a ≠ p:=fun z=>R.ap p h (by rw [<- z]; exact List.mem_of_getElem? h1)
    cases c with
    | lst ps=>
      obtain ⟨vs,e1,e2⟩:=q
      exact ⟨vs,by rw [upd_ne ne]; exact e1,e2.rehide h⟩
    | dic ps=>
      obtain ⟨vs,e1,e2⟩:=q
      exact ⟨vs,by rw [upd_ne ne]; exact e1,e2.1,e2.2.rehide h⟩
    | dtp ps=>
      obtain ⟨vs,e1,e2⟩:=q
      exact ⟨vs,by rw [upd_ne ne]; exact e1,e2.1,e2.2.rehide h⟩
    | frd ps=>
      obtain ⟨vs,⟨oo,e1⟩,e2⟩:=q
      exact ⟨vs,⟨oo,by rw [upd_ne ne]; exact e1⟩,e2.1,e2.2.rehide h⟩
    | obj C ps=>
      obtain ⟨vs,⟨oo,e1⟩,e2⟩:=q
      exact ⟨vs,⟨oo,by rw [upd_ne ne]; exact e1⟩,e2.1,e2.2.rehide h⟩
theorem Rel.unhide {H : Hp} {ρ : Tk} {st : Store} {hs : List Addr} (hh : ∀ a,a ∈ hs -> a ∈ ρ.hid) (R : Rel H ρ st) : Rel H ⟨ρ.tr,hs⟩ st:=by
  refine ⟨R.len,R.nd,fun a ha=>R.hd a (hh a ha),fun a ha=>R.ap a (hh a ha),fun i a c h1 h2=>?_⟩
  have q:=R.cell i a c h1 h2
  cases c with
  | lst ps=>
    obtain ⟨vs,e1,e2⟩:=q
    exact ⟨vs,e1,RepL.unhide hh e2⟩
  | dic ps=>
    obtain ⟨vs,e1,e2⟩:=q
    exact ⟨vs,e1,e2.1,RepL.unhide hh e2.2⟩
  | dtp ps=>
    obtain ⟨vs,e1,e2⟩:=q
    exact ⟨vs,e1,e2.1,RepL.unhide hh e2.2⟩
  | frd ps=>
    obtain ⟨vs,e1,e2⟩:=q
    exact ⟨vs,e1,e2.1,RepL.unhide hh e2.2⟩
  | obj C ps=>
    obtain ⟨vs,e1,e2⟩:=q
    exact ⟨vs,e1,e2.1,RepL.unhide hh e2.2⟩
theorem Ext.hide {H : Hp} {ρ : Tk} {p : Addr} {o : HO} (h : H p = none) : Ext H ρ (upd H p o) (ρ.hide p) where
  pre:=List.prefix_refl _
  hidM:=fun _ h=>List.mem_cons_of_mem _ h
  hidN:=fun a ha=>by
    rcases List.mem_cons.mp ha with rfl | ha
    · exact .inr h
    · exact .inl ha
  keep:=fun a u e _=>by rw [upd_ne (ne_of_none e h)]; exact e
  new:=fun a e=>.inl e
  old:=fun a u e=>⟨u,by rw [upd_ne (ne_of_none e h)]; exact e⟩
  frz:=fun a o u e=>by rw [upd_ne (ne_of_none e h)]; exact e
theorem Ext.put0 {H H1 : Hp} {ρ ρ1 : Tk} {p : Addr} {o : HO} (x : Ext H ρ H1 ρ1) (h : H p = none) : Ext H ρ (upd H1 p o) ρ1 where
  pre:=x.pre
  hidM:=x.hidM
  hidN:=x.hidN
  keep:=fun a u e n=>by rw [upd_ne (ne_of_none e h)]; exact x.keep a u e n
  new:=x.new
  old:=fun a u e=>by rw [upd_ne (ne_of_none e h)]; exact x.old a u e
  frz:=fun a o u e=>by rw [upd_ne (ne_of_none e h)]; exact x.frz a o u e
theorem Ext.unhide {H H1 : Hp} {ρ ρ1 : Tk} (x : Ext H ρ H1 ρ1) : Ext H ρ H1 ⟨ρ1.tr,ρ.hid⟩ where
  pre:=x.pre
  hidM:=fun _ h=>h
  hidN:=fun _ h=>.inl h
  keep:=x.keep
  new:=x.new
  old:=x.old
  frz:=x.frz
def EnvR (H : Hp) (ρ : Tk) (Γ : Gam) (σ : St) : Prop:=Γ.length = σ.length /\ ∀ (i : Nat) (p : PV),Γ[i]? = some (some p) -> ∃ v,σ[i]? = some (some v) /\ Rep H ρ p v
theorem EnvR.ext {H H' : Hp} {ρ ρ' : Tk} {Γ : Gam} {σ : St} (x : Ext H ρ H' ρ') (h : EnvR H ρ Γ σ) : EnvR H' ρ' Γ σ:=
  ⟨h.1,fun i p e=>let ⟨v,a,b⟩:=h.2 i p e; ⟨v,a,b.ext x⟩⟩
theorem EnvR.hide {H : Hp} {ρ : Tk} {Γ : Gam} {σ : St} {a : Addr} {o : HO} (n : H a = none) (h : EnvR H ρ Γ σ) : EnvR (upd H a o) (ρ.hide a) Γ σ:=⟨h.1,fun i p e=>let ⟨v,a,b⟩:=h.2 i p e; ⟨v,a,b.hide n⟩⟩
theorem EnvR.rehide {H : Hp} {ρ : Tk} {Γ : Gam} {σ : St} {a : Addr} {o : HO} (n : a ∈ ρ.hid) (h : EnvR H ρ Γ σ) : EnvR (upd H a o) ρ Γ σ:=⟨h.1,fun i p e=>let ⟨v,a,b⟩:=h.2 i p e; ⟨v,a,b.rehide n⟩⟩
theorem EnvR.set {H : Hp} {ρ : Tk} {Γ : Gam} {σ : St} {p : PV} {v : V} (h : EnvR H ρ Γ σ) (r : Rep H ρ p v) (i : Nat) : EnvR H ρ (Γ.set i (some p)) (σ.set i (some v)):=by
  refine ⟨by rw [List.length_set,List.length_set]; exact h.1,fun j q e=>?_⟩
  rw [List.getElem?_set] at e
  rw [List.getElem?_set]
  by_cases hj : i = j
  · subst hj
    simp only [if_true] at e ⊢
    by_cases hl : i < Γ.length
    · rw [if_pos hl] at e; cases e
      rw [if_pos (by rw [<- h.1]; exact hl)]
      exact ⟨v,rfl,r⟩
    · rw [if_neg hl] at e; cases e
  · rw [if_neg hj] at e ⊢
    exact h.2 j q e
end Sm
namespace Sm
open PySem PySem.Spec L2
def Res.bind {α β : Type} (r : Res α) (f : α -> Store -> Res β) : Res β:=match r with
  | .ok a st=>f a st
  | .exc x st=>.exc x st
  | .stuck=>.stuck
def okO {α : Type} (st : Store) : Option α -> Res α
  | some a=>.ok a st
  | none=>.stuck
section
variable (X : Cx)
def WE (e : Expr) : TE:=fun σ H Q=>∀ (pins : List (Addr × Obj)) (s : Shared),Inv X pins σ H s -> wpAny (model X.prog X.w) X.A (eval e X.env) (EP X pins σ Q) X.xe s
def WT (e : Expr) : TT:=fun σ H Q=>∀ (pins : List (Addr × Obj)) (s : Shared),Inv X pins σ H s -> wpAny (model X.prog X.w) X.A (isTrue e X.env (eval e X.env)) (TP X pins σ Q) X.xe s
def WW (e : Expr) : TT:=fun σ H Q=>∀ (wh : Sem Value) (pins : List (Addr × Obj)) (s : Shared),Inv X pins σ H s -> wpAny (model X.prog X.w) X.A (isTrue e X.env wh) (TP X pins σ Q) X.xe s
def WA (es : List Expr) : TA:=fun σ H Q=>∀ (pos : Pos) (pins : List (Addr × Obj)) (s : Shared),Inv X pins σ H s -> wpAny (model X.prog X.w) X.A (spliced (backTo pos (starEach es X.env))) (AP X pins σ Q) X.xe s
def WS (st : Stmt) : TS:=fun D σ H=>∀ (pins : List (Addr × Obj)) (s : Shared),Inv X pins σ H s -> wpAny (model X.prog X.w) X.A (exec st X.env) (SP X pins D) X.xe s
def WB (st : List Stmt) : TS:=fun D σ H=>∀ (pins : List (Addr × Obj)) (s : Shared),Inv X pins σ H s -> wpAny (model X.prog X.w) X.A (execs st X.env) (SP X pins D) X.xe s
def WI (tg iter : Expr) : TI := fun σ H R => ∀ (pins : List (Addr × Obj)) (s : Shared), Inv X pins σ H s ->
    wpAny (model X.prog X.w) X.A (eval iter X.env) (fun v s1=>wpAny (model X.prog X.w) X.A (pyIter v) (PIE X pins σ tg R) X.xe s1) X.xe s
def WO (f : Value -> Value -> Sem Value) : R2:=fun x y H Q=>∀ (pins : List (Addr × Obj)) (s : Shared) (σ : St) (v u : Value),Inv X pins σ H s -> RelV x v -> RelV y u -> wpAny (model X.prog X.w) X.A (f v u) (EP X pins σ Q) X.xe s
def WC (f : Value) : List V -> Hp -> VK -> Prop:=fun xs H Q=>∀ (pins : List (Addr × Obj)) (s : Shared) (σ : St) (us : List Value),Inv X pins σ H s -> Vals xs us -> wpAny (model X.prog X.w) X.A (call f us) (EP X pins σ Q) X.xe s
end
section
variable {X : Cx}
theorem pe_w {e : Expr} : PE X e (WE X e):=fun pins s _ _ _ I h=>h pins s I
theorem pt_w {e : Expr} : PT X e (WT X e):=fun pins s _ _ _ I h=>h pins s I
theorem pw_w {e : Expr} : PW X e (WW X e):=fun wh pins s _ _ _ I h=>h wh pins s I
theorem pa_w {es : List Expr} : PA X es (WA X es):=fun pos pins s _ _ _ I h=>h pos pins s I
theorem ps_w {st : Stmt} : PS X st (WS X st):=fun pins s _ _ _ I h=>h pins s I
theorem pss_w {st : List Stmt} : PSs X st (WB X st):=fun pins s _ _ _ I h=>h pins s I
theorem pi_w {tg iter : Expr} : PI X tg iter (WI X tg iter):=fun pins s _ _ _ I h=>h pins s I
theorem op_w {f : Value -> Value -> Sem Value} : OpR X f (WO X f):=fun pins s σ _ _ _ v u _ I r1 r2 h=>h pins s σ v u I r1 r2
theorem call_w {f : Value} : CallR X f (WC X f):=fun pins s σ _ _ us _ I r h=>h pins s σ us I r
theorem WE.of {e : Expr} {t : TE} {σ : St} {H : Hp} {Q : VK} (h : PE X e t) (q : t σ H Q) : WE X e σ H Q:=fun pins s I=>h pins s σ H Q I q
theorem WT.of {e : Expr} {t : TT} {σ : St} {H : Hp} {Q : Bool -> Hp -> Prop} (h : PT X e t) (q : t σ H Q) : WT X e σ H Q:=fun pins s I=>h pins s σ H Q I q
theorem WW.of {e : Expr} {t : TT} {σ : St} {H : Hp} {Q : Bool -> Hp -> Prop} (h : PW X e t) (q : t σ H Q) : WW X e σ H Q:=fun wh pins s I=>h wh pins s σ H Q I q
theorem WA.of {es : List Expr} {t : TA} {σ : St} {H : Hp} {Q : List V -> Hp -> Prop} (h : PA X es t) (q : t σ H Q) : WA X es σ H Q:=fun pos pins s I=>h pos pins s σ H Q I q
theorem WS.of {st : Stmt} {t : TS} {σ : St} {H : Hp} {D : Ends} (h : PS X st t) (q : t D σ H) : WS X st D σ H:=fun pins s I=>h pins s σ H D I q
theorem WB.of {st : List Stmt} {t : TS} {σ : St} {H : Hp} {D : Ends} (h : PSs X st t) (q : t D σ H) : WB X st D σ H:=fun pins s I=>h pins s σ H D I q
theorem WI.of {tg iter : Expr} {t : TI} {σ : St} {H : Hp} {R : It -> Hp -> Prop} (h : PI X tg iter t) (q : t σ H R) : WI X tg iter σ H R:=fun pins s I=>h pins s σ H R I q
theorem WO.of {f : Value -> Value -> Sem Value} {r : R2} {x y : V} {H : Hp} {Q : VK} (h : OpR X f r) (q : r x y H Q) : WO X f x y H Q:=fun pins s σ v u I r1 r2=>h pins s σ H x y v u Q I r1 r2 q
theorem WC.of {f : Value} {r : List V -> Hp -> VK -> Prop} {xs : List V} {H : Hp} {Q : VK} (h : CallR X f r) (q : r xs H Q) : WC X f xs H Q:=fun pins s σ us I r1=>h pins s σ H xs us Q I r1 q
end
def XFs (H : Hp) (ρ : Tk) : Option (Str × PV) -> Option Addr -> Prop
  | none,dv=>dv = none
  | some (n,p),dv=>∃ dx v,dv = some dx /\ H dx = some (.xd [(n,v)]) /\ dx ∉ ρ /\ Rep H ρ p v
def Acc {α : Type} (mg : Str -> Option Value) (E : XK) (H : Hp) (ρ : Tk) (P : α -> Store -> Hp -> Tk -> Prop) : Res α -> Prop
  | .ok a st=>∀ H' ρ',Ext H ρ H' ρ' -> Rel H' ρ' st -> P a st H' ρ'
  | .exc x st=>∀ C dv H' ρ',mg x.cls = some (.ref C) -> Ext H ρ H' ρ' -> Rel H' ρ' st -> XFs H' ρ' x.fs dv -> E (.ref C) dv H'
  | .stuck=>False
section
variable {α β : Type} {mg : Str -> Option Value} {E : XK} {H H1 : Hp} {ρ ρ1 : Tk}
theorem Acc.mono {P P' : α -> Store -> Hp -> Tk -> Prop} {r : Res α} (h : Acc mg E H ρ P r) (x : Ext H ρ H1 ρ1) (k : ∀ a st H' ρ',P a st H' ρ' -> P' a st H' ρ') : Acc mg E H1 ρ1 P' r:=by
  cases r with
  | ok a st=>exact fun H' ρ' x' R'=>k _ _ _ _ (h H' ρ' (x.trans x') R')
  | exc e st=>exact fun C dv H' ρ' m x' R' f=>h C dv H' ρ' m (x.trans x') R' f
  | stuck=>exact h
theorem Acc.later {P : α -> Store -> Hp -> Tk -> Prop} {r : Res α} (h : Acc mg E H ρ P r) (x : Ext H ρ H1 ρ1) : Acc mg E H1 ρ1 P r:=h.mono x fun _ _ _ _ p=>p
theorem Acc.bind {P : β -> Store -> Hp -> Tk -> Prop} {r : Res α} {f : α -> Store -> Res β} (h : Acc mg E H ρ P (r.bind f)) : Acc mg E H ρ (fun a st1 H1 ρ1=>Acc mg E H1 ρ1 P (f a st1)) r:=by
  cases r with
  | ok a st=>exact fun H' ρ' x' R'=>Acc.later (show Acc mg E H ρ P (f a st) from h) x'
  | exc e st=>exact h
  | stuck=>exact h
end
abbrev QV (Q : VK) : PV -> Store -> Hp -> Tk -> Prop:=fun p _ H' ρ'=>∀ v,Rep H' ρ' p v -> Q v H'
abbrev QL (Q : List V -> Hp -> Prop) : List PV -> Store -> Hp -> Tk -> Prop:=fun ps _ H' ρ'=>∀ vs,RepL H' ρ' ps vs -> Q vs H'
abbrev QB (Q : Bool -> Hp -> Prop) : Bool -> Store -> Hp -> Tk -> Prop:=fun b _ H' _=>Q b H'
structure SimE (X : Cx) (E : XK) (e : Expr) (m : ME) : Prop where
  run : ∀ (Γ : Gam) (σ : St) (H : Hp) (ρ : Tk) (st : Store) (Q : VK),Rel H ρ st -> EnvR H ρ Γ σ -> Acc X.mg E H ρ (QV Q) (m Γ st) -> WE X e σ H Q
structure SimT (X : Cx) (E : XK) (e : Expr) (m : Gam -> Store -> Res Bool) : Prop where
  run : ∀ (Γ : Gam) (σ : St) (H : Hp) (ρ : Tk) (st : Store) (Q : Bool -> Hp -> Prop),Rel H ρ st -> EnvR H ρ Γ σ -> Acc X.mg E H ρ (QB Q) (m Γ st) -> WT X e σ H Q
structure SimW (X : Cx) (E : XK) (e : Expr) (m : Gam -> Store -> Res Bool) : Prop where
  run : ∀ (Γ : Gam) (σ : St) (H : Hp) (ρ : Tk) (st : Store) (Q : Bool -> Hp -> Prop),Rel H ρ st -> EnvR H ρ Γ σ -> Acc X.mg E H ρ (QB Q) (m Γ st) -> WW X e σ H Q
structure SimA (X : Cx) (E : XK) (es : List Expr) (m : Gam -> Store -> Res (List PV)) : Prop where
  run : ∀ (Γ : Gam) (σ : St) (H : Hp) (ρ : Tk) (st : Store) (Q : List V -> Hp -> Prop),Rel H ρ st -> EnvR H ρ Γ σ -> Acc X.mg E H ρ (QL Q) (m Γ st) -> WA X es σ H Q
abbrev OP:=Store -> PV -> PV -> Res PV
structure OpS (X : Cx) (E : XK) (f : Value -> Value -> Sem Value) (o : OP) : Prop where
  run : ∀ (H : Hp) (ρ : Tk) (st : Store) (p q : PV) (x y : V) (Q : VK),Rel H ρ st -> Rep H ρ p x -> Rep H ρ q y -> Acc X.mg E H ρ (QV Q) (o st p q) -> WO X f x y H Q
abbrev CF:=Store -> List PV -> Res PV
structure CallS (X : Cx) (E : XK) (f : Value) (o : CF) : Prop where
  run : ∀ (H : Hp) (ρ : Tk) (st : Store) (ps : List PV) (xs : List V) (Q : VK),Rel H ρ st -> RepL H ρ ps xs -> Acc X.mg E H ρ (QV Q) (o st ps) -> WC X f xs H Q
section
variable {X : Cx} {E : XK} {Γ : Gam} {σ : St} {H : Hp} {ρ : Tk} {st : Store}
theorem SimE.use {e : Expr} {m : ME} (s : SimE X E e m) {P : PV -> Store -> Hp -> Tk -> Prop} {Q : VK} (R : Rel H ρ st) (G : EnvR H ρ Γ σ) (h : Acc X.mg E H ρ P (m Γ st))
    (k : ∀ p st1 H1 ρ1 v,Ext H ρ H1 ρ1 -> Rel H1 ρ1 st1 -> EnvR H1 ρ1 Γ σ -> Rep H1 ρ1 p v -> P p st1 H1 ρ1 -> Q v H1) : WE X e σ H Q:=by
  refine s.run Γ σ H ρ st Q R G ?_
  cases r : m Γ st with
  | ok p st1=>rw [r] at h; exact fun H' ρ' x' R' v rv=>k p st1 H' ρ' v x' R' (G.ext x') rv (h H' ρ' x' R')
  | exc e st=>rw [r] at h; exact h
  | stuck=>rw [r] at h; exact h
theorem SimE.use' {e : Expr} {m : ME} (s : SimE X E e m) {P : PV -> Store -> Hp -> Tk -> Prop} {Q : VK} (R : Rel H ρ st) (G : EnvR H ρ Γ σ) (h : Acc X.mg E H ρ P (m Γ st))
    (k : ∀ p st1 H1 ρ1 v,m Γ st = .ok p st1 -> Ext H ρ H1 ρ1 -> Rel H1 ρ1 st1 -> EnvR H1 ρ1 Γ σ -> Rep H1 ρ1 p v -> P p st1 H1 ρ1 -> Q v H1) : WE X e σ H Q:=by
  refine s.run Γ σ H ρ st Q R G ?_
  cases r : m Γ st with
  | ok p st1=>rw [r] at h; exact fun H' ρ' x' R' v rv=>k p st1 H' ρ' v r x' R' (G.ext x') rv (h H' ρ' x' R')
  | exc e st=>rw [r] at h; exact h
  | stuck=>rw [r] at h; exact h
theorem SimA.use' {es : List Expr} {m : Gam -> Store -> Res (List PV)} (s : SimA X E es m) {P : List PV -> Store -> Hp -> Tk -> Prop} {Q : List V -> Hp -> Prop} (R : Rel H ρ st) (G : EnvR H ρ Γ σ) (h : Acc X.mg E H ρ P (m Γ st))
    (k : ∀ ps st1 H1 ρ1 vs,m Γ st = .ok ps st1 -> Ext H ρ H1 ρ1 -> Rel H1 ρ1 st1 -> EnvR H1 ρ1 Γ σ -> RepL H1 ρ1 ps vs -> P ps st1 H1 ρ1 -> Q vs H1) : WA X es σ H Q:=by
  refine s.run Γ σ H ρ st Q R G ?_
  cases r : m Γ st with
  | ok p st1=>rw [r] at h; exact fun H' ρ' x' R' v rv=>k p st1 H' ρ' v r x' R' (G.ext x') rv (h H' ρ' x' R')
  | exc e st=>rw [r] at h; exact h
  | stuck=>rw [r] at h; exact h
theorem SimT.use {e : Expr} {m : Gam -> Store -> Res Bool} (s : SimT X E e m) {P : Bool -> Store -> Hp -> Tk -> Prop} {Q : Bool -> Hp -> Prop} (R : Rel H ρ st) (G : EnvR H ρ Γ σ) (h : Acc X.mg E H ρ P (m Γ st))
    (k : ∀ p st1 H1 ρ1,Ext H ρ H1 ρ1 -> Rel H1 ρ1 st1 -> EnvR H1 ρ1 Γ σ -> P p st1 H1 ρ1 -> Q p H1) : WT X e σ H Q:=by
  refine s.run Γ σ H ρ st Q R G ?_
  cases r : m Γ st with
  | ok p st1=>rw [r] at h; exact fun H' ρ' x' R'=>k p st1 H' ρ' x' R' (G.ext x') (h H' ρ' x' R')
  | exc e st=>rw [r] at h; exact h
  | stuck=>rw [r] at h; exact h
theorem SimW.use {e : Expr} {m : Gam -> Store -> Res Bool} (s : SimW X E e m) {P : Bool -> Store -> Hp -> Tk -> Prop} {Q : Bool -> Hp -> Prop} (R : Rel H ρ st) (G : EnvR H ρ Γ σ) (h : Acc X.mg E H ρ P (m Γ st))
    (k : ∀ p st1 H1 ρ1,Ext H ρ H1 ρ1 -> Rel H1 ρ1 st1 -> EnvR H1 ρ1 Γ σ -> P p st1 H1 ρ1 -> Q p H1) : WW X e σ H Q:=by
  refine s.run Γ σ H ρ st Q R G ?_
  cases r : m Γ st with
  | ok p st1=>rw [r] at h; exact fun H' ρ' x' R'=>k p st1 H' ρ' x' R' (G.ext x') (h H' ρ' x' R')
  | exc e st=>rw [r] at h; exact h
  | stuck=>rw [r] at h; exact h
theorem SimA.use {es : List Expr} {m : Gam -> Store -> Res (List PV)} (s : SimA X E es m) {P : List PV -> Store -> Hp -> Tk -> Prop} {Q : List V -> Hp -> Prop} (R : Rel H ρ st) (G : EnvR H ρ Γ σ) (h : Acc X.mg E H ρ P (m Γ st))
    (k : ∀ ps st1 H1 ρ1 vs,Ext H ρ H1 ρ1 -> Rel H1 ρ1 st1 -> EnvR H1 ρ1 Γ σ -> RepL H1 ρ1 ps vs -> P ps st1 H1 ρ1 -> Q vs H1) : WA X es σ H Q:=by
  refine s.run Γ σ H ρ st Q R G ?_
  cases r : m Γ st with
  | ok p st1=>rw [r] at h; exact fun H' ρ' x' R' v rv=>k p st1 H' ρ' v x' R' (G.ext x') rv (h H' ρ' x' R')
  | exc e st=>rw [r] at h; exact h
  | stuck=>rw [r] at h; exact h
theorem OpS.use {f : Value -> Value -> Sem Value} {o : OP} (s : OpS X E f o) {P : PV -> Store -> Hp -> Tk -> Prop} {Q : VK} {p q : PV} {x y : V} (R : Rel H ρ st) (rp : Rep H ρ p x) (rq : Rep H ρ q y) (h : Acc X.mg E H ρ P (o st p q))
    (k : ∀ p st1 H1 ρ1 v,Ext H ρ H1 ρ1 -> Rel H1 ρ1 st1 -> Rep H1 ρ1 p v -> P p st1 H1 ρ1 -> Q v H1) : WO X f x y H Q:=by
  refine s.run H ρ st p q x y Q R rp rq ?_
  cases r : o st p q with
  | ok p st1=>rw [r] at h; exact fun H' ρ' x' R' v rv=>k p st1 H' ρ' v x' R' rv (h H' ρ' x' R')
  | exc e st=>rw [r] at h; exact h
  | stuck=>rw [r] at h; exact h
end
end Sm
namespace Sm
open PySem PySem.Spec L2 SeqAt
mutual
def peq : PV -> PV -> Bool
  | .non,.non=>true
  | .bl a,.bl b=>a == b
  | .bl a,.int b=>(if a then 1 else 0) == b
  | .int a,.bl b=>a == (if b then 1 else 0)
  | .int a,.int b=>a == b
  | .str a,.str b=>a == b
  | .tup xs,.tup ys=>peqL xs ys
  | .lst xs,.lst ys=>peqL xs ys
  | .lst xs,.fro ys=>peqL xs ys
  | .fro xs,.lst ys=>peqL xs ys
  | .fro xs,.fro ys=>peqL xs ys
  | _,_=>false
def peqL : List PV -> List PV -> Bool
  | [],[]=>true
  | x :: xs,y :: ys=>peq x y && peqL xs ys
  | _,_=>false
end
def good : Nat -> PV -> Bool
  | _,.ref _=>false
  | _,.dic=>false
  | 0,.tup _=>false
  | 0,.lst _=>false
  | 0,.fro _=>false
  | n + 1,.tup xs=>xs.all (good n)
  | n + 1,.lst xs=>xs.all (good n)
  | n + 1,.fro xs=>xs.all (good n)
  | _,_=>true
theorem peqL_len : ∀ {xs ys : List PV},xs.length ≠ ys.length -> peqL xs ys = false
  | [],[],h=>absurd rfl h
  | [],_ :: _,_=>by simp [peqL]
  | _ :: _,[],_=>by simp [peqL]
  | x :: xs,y :: ys,h=>by
    rw [peqL,peqL_len (xs:=xs) (ys:=ys) fun e=>h (by simp [e]),Bool.and_false]
theorem peqL_all : ∀ {xs ys : List PV},xs.length = ys.length -> peqL xs ys = (List.range xs.length).all fun j=>peq (xs.getD j .non) (ys.getD j .non)
  | [],[],_=>by simp [peqL]
  | [],_ :: _,h=>by simp at h
  | _ :: _,[],h=>by simp at h
  | x :: xs,y :: ys,h=>by
    rw [peqL,peqL_all (xs:=xs) (ys:=ys) (by simpa using h),List.length_cons,List.range_succ_eq_map,List.all_cons,List.all_map]
    rfl
section
variable {X : Cx} {pins : List (Addr × Obj)} {σ : St} {H : Hp} {s : Shared} {ρ : Tk}
mutual
theorem rep_same : ∀ {p q : PV} {x : V} {n : Nat},good n p = true -> good n q = true -> Rep H ρ p x -> Rep H ρ q x -> peq p q = true
  | .non,q,x,n,_,gq,h1,h2=>by
    cases h1
    cases q <;> first | rfl | (cases n <;> cases gq; done) | (cases h2; done) | (obtain ⟨_,_,e,_⟩:=h2; cases e) | (obtain ⟨_,_,e⟩:=h2; cases e)
  | .bl b,q,x,n,_,gq,h1,h2=>by
    cases h1
    cases q <;> first | (cases n <;> cases gq; done) | (cases h2; simp [peq]; done) | (obtain ⟨_,_,e,_⟩:=h2; done) | (obtain ⟨_,_,e,_⟩:=h2; cases e; done) | (obtain ⟨_,_,e⟩:=h2; cases e)
  | .int b,q,x,n,_,gq,h1,h2=>by
    cases h1
    cases q <;> first | (cases n <;> cases gq; done) | (cases h2; simp [peq]; done) | (obtain ⟨_,_,e,_⟩:=h2; done) | (obtain ⟨_,_,e,_⟩:=h2; cases e; done) | (obtain ⟨_,_,e⟩:=h2; cases e)
  | .str b,q,x,n,_,gq,h1,h2=>by
    cases h1
    cases q <;> first | (cases n <;> cases gq; done) | (cases h2; simp [peq]; done) | (obtain ⟨_,_,e,_⟩:=h2; done) | (obtain ⟨_,_,e,_⟩:=h2; cases e; done) | (obtain ⟨_,_,e⟩:=h2; cases e)
  | .tup ps,q,x,0,gp,_,_,_=>by cases gp
  | .tup ps,q,x,n + 1,gp,gq,⟨a,vs,e,ha,_,r⟩,h2=>by
    subst e
    cases q with
    | tup qs=>
      obtain ⟨b,us,e,hb,_,r2⟩:=h2
      cases e
      rw [ha] at hb; cases hb
      rw [peq]
      exact repL_same gp gq r r2
    | lst qs=>obtain ⟨b,us,e,hb,_⟩:=h2; cases e; rw [ha] at hb; cases hb
    | fro qs=>obtain ⟨b,us,e,hb,_⟩:=h2; cases e; rcases hb with hb | ⟨o,hb⟩ <;> (rw [ha] at hb; cases hb)
    | ref i=>cases gq
    | dic=>cases gq
    | _=>cases h2
  | .lst ps,q,x,0,gp,_,_,_=>by cases gp
  | .lst ps,q,x,n + 1,gp,gq,⟨a,vs,e,ha,_,r⟩,h2=>by
    subst e
    cases q with
    | lst qs=>
      obtain ⟨b,us,e,hb,_,r2⟩:=h2
      cases e
      rw [ha] at hb; cases hb
      rw [peq]
      exact repL_same gp gq r r2
    | tup qs=>obtain ⟨b,us,e,hb,_⟩:=h2; cases e; rw [ha] at hb; cases hb
    | fro qs=>
      obtain ⟨b,us,e,hb,_,r2⟩:=h2
      cases e
      rcases hb with hb | ⟨o,hb⟩
      · rw [ha] at hb; cases hb
        rw [peq]
        exact repL_same gp gq r r2
      · rw [ha] at hb; cases hb
    | ref i=>cases gq
    | dic=>cases gq
    | _=>cases h2
  | .fro ps,q,x,0,gp,_,_,_=>by cases gp
  | .fro ps,q,x,n + 1,gp,gq,⟨a,vs,e,ha,_,r⟩,h2=>by
    subst e
    cases q with
    | lst qs=>
      obtain ⟨b,us,e,hb,_,r2⟩:=h2
      cases e
      rcases ha with ha | ⟨o,ha⟩
      · rw [ha] at hb; cases hb
        rw [peq]
        exact repL_same gp gq r r2
      · rw [ha] at hb; cases hb
    | tup qs=>obtain ⟨b,us,e,hb,_⟩:=h2; cases e; rcases ha with ha | ⟨o,ha⟩ <;> (rw [ha] at hb; cases hb)
    | fro qs=>
      obtain ⟨b,us,e,hb,_,r2⟩:=h2
      cases e
      have : vs = us:=by
        rcases ha with ha | ⟨o,ha⟩ <;> rcases hb with hb | ⟨o',hb⟩ <;> (rw [ha] at hb; cases hb) <;> rfl
      subst this
      rw [peq]
      exact repL_same gp gq r r2
    | ref i=>cases gq
    | dic=>cases gq
    | _=>cases h2
  | .ref i,_,_,n,gp,_,_,_=>by cases n <;> cases gp
  | .dic,_,_,n,gp,_,_,_=>by cases n <;> cases gp
theorem repL_same : ∀ {ps qs : List PV} {vs : List V} {n : Nat},ps.all (good n) = true -> qs.all (good n) = true -> RepL H ρ ps vs -> RepL H ρ qs vs -> peqL ps qs = true
  | [],qs,vs,n,_,_,h1,h2=>by
    cases h1
    cases qs with
    | nil=>rfl
    | cons q qs=>obtain ⟨_,_,e,_⟩:=h2; cases e
  | p :: ps,qs,vs,n,g1,g2,⟨v,r,e,h1,h1'⟩,h2=>by
    subst e
    cases qs with
    | nil=>cases h2
    | cons q qs=>
      obtain ⟨_,_,e,h2,h2'⟩:=h2
      cases e
      rw [List.all_cons,Bool.and_eq_true] at g1 g2
      rw [peqL,rep_same g1.1 g2.1 h1 h2,repL_same g1.2 g2.2 h1' h2']; rfl
end
inductive Kd (H : Hp) (ρ : Tk) (s : Shared) : PV -> Value -> Prop where
  | non : Kd H ρ s .non .none
  | bl (b) : Kd H ρ s (.bl b) (.bool b)
  | int (i t) : Kd H ρ s (.int i) (.int i t)
  | str (x t) : Kd H ρ s (.str x) (.str x t)
  | tup (ps a) (vs : List V) (its : List Value) : H a = some (.tup vs) -> RepL H ρ ps vs -> Vals vs its -> s.heap.IsTuple a its.toArray -> Kd H ρ s (.tup ps) (.ref a)
  | lst (p ps a) (vs : List V) (its : List Value) : (p = .lst ps \/ p = .fro ps) -> RepL H ρ ps vs -> Vals vs its -> s.heap.IsList a its.toArray -> Kd H ρ s p (.ref a)
theorem kd_of {p : PV} {x : V} {u : Value} {n : Nat} (I : Inv X pins σ H s) (g : good n p = true) (r : Rep H ρ p x) (ru : RelV x u) : Kd H ρ s p u:=by
  cases p with
  | non=>cases r; cases ru; exact .non
  | bl b=>cases r; cases ru; exact .bl b
  | int i=>cases r; obtain ⟨t,rfl⟩:=ru; exact .int i t
  | str i=>cases r; obtain ⟨t,rfl⟩:=ru; exact .str i t
  | tup ps=>
    obtain ⟨a,vs,rfl,ha,_,rr⟩:=r
    cases ru
    obtain ⟨its,v1,p1,_⟩:=I.tuple (SqT.of (K:=X.K) ha)
    exact .tup ps a vs its ha rr v1 p1
  | lst ps=>
    obtain ⟨a,vs,rfl,ha,_,rr⟩:=r
    cases ru
    obtain ⟨its,v1,p1,_⟩:=I.list (SqL.of (K:=X.K) ha)
    exact .lst _ ps a vs its (.inl rfl) rr v1 p1.isList
  | fro ps=>
    obtain ⟨a,vs,rfl,ha,_,rr⟩:=r
    cases ru
    obtain ⟨its,v1,p1,_⟩:=I.list (show SqL X.K H a vs from .inl ha)
    exact .lst _ ps a vs its (.inr rfl) rr v1 p1.isList
  | ref i=>cases n <;> cases g
  | dic=>cases n <;> cases g
theorem getD_of {ps : List PV} {vs : List V} {its : List Value} (r : RepL H ρ ps vs) (v : Vals vs its) {j : Nat} (h : j < its.length) : ∃ x,Rep H ρ (ps.getD j .non) x /\ RelV x its[j]:=by
  have l1:=r.length
  have l2:=v.length
  have hj : j < ps.length:=by omega
  obtain ⟨x,e1,e2⟩:=r.get (List.getElem?_eq_getElem hj)
  obtain ⟨u,e3,e4⟩:=v.get e1
  rw [List.getElem?_eq_getElem h] at e3; cases e3
  refine ⟨x,?_,e4⟩
  rw [List.getD,List.getElem?_eq_getElem hj]
  exact e2
theorem good_getD {ps : List PV} {n : Nat} (g : ps.all (good n) = true) (j : Nat) (hj : j < ps.length) : good n (ps.getD j .non) = true:=by
  rw [List.getD,List.getElem?_eq_getElem hj]
  exact (List.all_eq_true.mp g) _ (List.getElem_mem hj)
theorem peqL_range {ps qs : List PV} : ((List.range (min ps.length qs.length)).all (fun j=>peq (ps.getD j .non) (qs.getD j .non)) && ps.length == qs.length) = peqL ps qs:=by
  by_cases e : ps.length = qs.length
  · rw [peqL_all e,<- e,Nat.min_self,beq_self_eq_true,Bool.and_true]
  · rw [peqL_len e,beq_eq_false_iff_ne.mpr e,Bool.and_false]
theorem eqAts : ∀ (n : Nat) {A : Around} {p q : PV} {x y : V} {u v : Value},Inv X pins σ H s -> good n p = true -> good n q = true -> A.units + n < cLine -> Rep H ρ p x -> RelV x u -> Rep H ρ q y -> RelV y v ->
    EqAt A s u v (peq p q) /\ RcAt A s u v (peq p q) /\ RcNeAt A s u v (!peq p q):=by
  intro n
  induction n with
  | zero=>
    intro A p q x y u v I gp gq hu rp ru rq rv
    have k1:=kd_of I gp rp ru
    have k2:=kd_of I gq rq rv
    have hu : A.units < cLine:=by omega
    cases k1 with
    | tup=>cases gp
    | lst p ps a vs its h=>rcases h with rfl | rfl <;> cases gp
    | non=>cases k2 with
      | tup=>cases gq
      | lst p ps a vs its h=>rcases h with rfl | rfl <;> cases gq
      | non=>exact ⟨EqAt.same _,RcAt.none_none,RcNeAt.none_none⟩
      | bl b=>exact ⟨EqAt.none_bool _,RcAt.none_bool _,RcNeAt.none_bool _⟩
      | int i t=>exact ⟨EqAt.none_int _ _,RcAt.none_int _ _,RcNeAt.none_int _ _⟩
      | str i t=>exact ⟨EqAt.none_str _ _,RcAt.none_str _ _,RcNeAt.none_str _ _⟩
    | bl a=>cases k2 with
      | tup=>cases gq
      | lst p ps a vs its h=>rcases h with rfl | rfl <;> cases gq
      | non=>exact ⟨EqAt.bool_none _,RcAt.bool_none _,RcNeAt.bool_none _⟩
      | bl b=>exact ⟨EqAt.bool_bool _ _,RcAt.bool_bool _ _,RcNeAt.bool_bool _ _⟩
      | int i t=>exact ⟨EqAt.bool_int _ _ _,RcAt.bool_int _ _ _,RcNeAt.bool_int _ _ _⟩
      | str i t=>exact ⟨EqAt.bool_str _ _ _,RcAt.bool_str _ _ _,RcNeAt.bool_str _ _ _⟩
    | int a at'=>cases k2 with
      | tup=>cases gq
      | lst p ps a vs its h=>rcases h with rfl | rfl <;> cases gq
      | non=>exact ⟨EqAt.int_none _ _,RcAt.int_none _ _,RcNeAt.int_none _ _⟩
      | bl b=>exact ⟨EqAt.int_bool _ _ _,RcAt.int_bool _ _ _,RcNeAt.int_bool _ _ _⟩
      | int i t=>exact ⟨EqAt.int_int _ _ _ _,RcAt.int_int _ _ _ _,RcNeAt.int_int _ _ _ _⟩
      | str i t=>exact ⟨EqAt.int_str _ _ _ _,RcAt.int_str _ _ _ _,RcNeAt.int_str _ _ _ _⟩
    | str a at'=>cases k2 with
      | tup=>cases gq
      | lst p ps a vs its h=>rcases h with rfl | rfl <;> cases gq
      | non=>exact ⟨EqAt.str_none _ _,RcAt.str_none _ _,RcNeAt.str_none _ _⟩
      | bl b=>exact ⟨EqAt.str_bool _ _ _,RcAt.str_bool _ _ _,RcNeAt.str_bool _ _ _⟩
      | int i t=>exact ⟨EqAt.str_int _ _ _ _,RcAt.str_int _ _ _ _,RcNeAt.str_int _ _ _ _⟩
      | str i t=>exact ⟨EqAt.str_str _ _ _ _,RcAt.str_str _ _ _ _,RcNeAt.str_str _ _ _ _⟩
  | succ n ih=>
    intro A p q x y u v I gp gq hu rp ru rq rv
    have k1:=kd_of I gp rp ru
    have k2:=kd_of I gq rq rv
    have hu0 : A.units < cLine:=by omega
    have hin : A.in1.units + n < cLine:=by show A.units + 1 + n < cLine; omega
    cases k1 with
    | non=>cases k2 with
      | non=>exact ⟨EqAt.same _,RcAt.none_none,RcNeAt.none_none⟩
      | bl b=>exact ⟨EqAt.none_bool _,RcAt.none_bool _,RcNeAt.none_bool _⟩
      | int i t=>exact ⟨EqAt.none_int _ _,RcAt.none_int _ _,RcNeAt.none_int _ _⟩
      | str i t=>exact ⟨EqAt.none_str _ _,RcAt.none_str _ _,RcNeAt.none_str _ _⟩
      | tup ps a vs its ha r v1 p1=>exact ⟨EqAt.none_tuple p1 hu0,RcAt.none_tuple p1 hu0,RcNeAt.none_tuple p1 hu0⟩
      | lst p ps a vs its h r v1 p1=>rcases h with rfl | rfl <;> exact ⟨EqAt.none_list p1 hu0,RcAt.none_list p1 hu0,RcNeAt.none_list p1 hu0⟩
    | bl a=>cases k2 with
      | non=>exact ⟨EqAt.bool_none _,RcAt.bool_none _,RcNeAt.bool_none _⟩
      | bl b=>exact ⟨EqAt.bool_bool _ _,RcAt.bool_bool _ _,RcNeAt.bool_bool _ _⟩
      | int i t=>exact ⟨EqAt.bool_int _ _ _,RcAt.bool_int _ _ _,RcNeAt.bool_int _ _ _⟩
      | str i t=>exact ⟨EqAt.bool_str _ _ _,RcAt.bool_str _ _ _,RcNeAt.bool_str _ _ _⟩
      | tup ps a vs its ha r v1 p1=>exact ⟨EqAt.bool_tuple _ p1 hu0,RcAt.bool_tuple _ p1 hu0,RcNeAt.bool_tuple _ p1 hu0⟩
      | lst p ps a vs its h r v1 p1=>rcases h with rfl | rfl <;> exact ⟨EqAt.bool_list _ p1 hu0,RcAt.bool_list _ p1 hu0,RcNeAt.bool_list _ p1 hu0⟩
    | int a at'=>cases k2 with
      | non=>exact ⟨EqAt.int_none _ _,RcAt.int_none _ _,RcNeAt.int_none _ _⟩
      | bl b=>exact ⟨EqAt.int_bool _ _ _,RcAt.int_bool _ _ _,RcNeAt.int_bool _ _ _⟩
      | int i t=>exact ⟨EqAt.int_int _ _ _ _,RcAt.int_int _ _ _ _,RcNeAt.int_int _ _ _ _⟩
      | str i t=>exact ⟨EqAt.int_str _ _ _ _,RcAt.int_str _ _ _ _,RcNeAt.int_str _ _ _ _⟩
      | tup ps a vs its ha r v1 p1=>exact ⟨EqAt.int_tuple _ _ p1 hu0,RcAt.int_tuple _ _ p1 hu0,RcNeAt.int_tuple _ _ p1 hu0⟩
      | lst p ps a vs its h r v1 p1=>rcases h with rfl | rfl <;> exact ⟨EqAt.int_list _ _ p1 hu0,RcAt.int_list _ _ p1 hu0,RcNeAt.int_list _ _ p1 hu0⟩
    | str a at'=>cases k2 with
      | non=>exact ⟨EqAt.str_none _ _,RcAt.str_none _ _,RcNeAt.str_none _ _⟩
      | bl b=>exact ⟨EqAt.str_bool _ _ _,RcAt.str_bool _ _ _,RcNeAt.str_bool _ _ _⟩
      | int i t=>exact ⟨EqAt.str_int _ _ _ _,RcAt.str_int _ _ _ _,RcNeAt.str_int _ _ _ _⟩
      | str i t=>exact ⟨EqAt.str_str _ _ _ _,RcAt.str_str _ _ _ _,RcNeAt.str_str _ _ _ _⟩
      | tup ps a vs its ha r v1 p1=>exact ⟨EqAt.str_tuple _ _ p1 hu0,RcAt.str_tuple _ _ p1 hu0,RcNeAt.str_tuple _ _ p1 hu0⟩
      | lst p ps a vs its h r v1 p1=>rcases h with rfl | rfl <;> exact ⟨EqAt.str_list _ _ p1 hu0,RcAt.str_list _ _ p1 hu0,RcNeAt.str_list _ _ p1 hu0⟩
    | tup ps a vs its ha r v1 p1=>cases k2 with
      | non=>exact ⟨EqAt.tuple_none p1 hu0,RcAt.tuple_none p1 hu0,RcNeAt.tuple_none p1 hu0⟩
      | bl b=>exact ⟨EqAt.tuple_bool _ p1 hu0,RcAt.tuple_bool _ p1 hu0,RcNeAt.tuple_bool _ p1 hu0⟩
      | int i t=>exact ⟨EqAt.tuple_int _ _ p1 hu0,RcAt.tuple_int _ _ p1 hu0,RcNeAt.tuple_int _ _ p1 hu0⟩
      | str i t=>exact ⟨EqAt.tuple_str _ _ p1 hu0,RcAt.tuple_str _ _ p1 hu0,RcNeAt.tuple_str _ _ p1 hu0⟩
      | tup qs b us its2 hb r2 v2 p2=>
        have l1 : its.toArray.size = ps.length:=by rw [List.size_toArray,<- v1.length,r.length]
        have l2 : its2.toArray.size = qs.length:=by rw [List.size_toArray,<- v2.length,r2.length]
        have he : ∀ j (h1 : j < its.toArray.size) (h2 : j < its2.toArray.size),EqAt A.in1 s its.toArray[j] its2.toArray[j] (peq (ps.getD j .non) (qs.getD j .non)):=fun j h1 h2=>by
          obtain ⟨x1,a1,b1⟩:=getD_of r v1 (j:=j) (by simpa using h1)
          obtain ⟨x2,a2,b2⟩:=getD_of r2 v2 (j:=j) (by simpa using h2)
          exact (ih I (good_getD gp j (by omega)) (good_getD gq j (by omega)) hin a1 b1 a2 b2).1
        have rc:=RcAt.tuples p1 p2 hu0 he
        have rn:=RcNeAt.tuples p1 p2 hu0 he
        rw [l1,l2,peqL_range] at rc rn
        refine ⟨?_,rc,rn⟩
        by_cases e : a = b
        · subst e
          have : peqL ps qs = true:=by
            rw [ha] at hb; cases hb
            exact repL_same gp gq r r2
          show EqAt A s _ _ (peqL ps qs)
          rw [this]
          exact EqAt.same _
        · exact EqAt.of_refs e rc
      | lst q qs b us its2 h r2 v2 p2=>rcases h with rfl | rfl <;> exact ⟨EqAt.tuple_list p1 p2 hu0,RcAt.tuple_list p1 p2 hu0,RcNeAt.tuple_list p1 p2 hu0⟩
    | lst p ps a vs its h r v1 p1=>cases k2 with
      | non=>rcases h with rfl | rfl <;> exact ⟨EqAt.list_none p1 hu0,RcAt.list_none p1 hu0,RcNeAt.list_none p1 hu0⟩
      | bl b=>rcases h with rfl | rfl <;> exact ⟨EqAt.list_bool _ p1 hu0,RcAt.list_bool _ p1 hu0,RcNeAt.list_bool _ p1 hu0⟩
      | int i t=>rcases h with rfl | rfl <;> exact ⟨EqAt.list_int _ _ p1 hu0,RcAt.list_int _ _ p1 hu0,RcNeAt.list_int _ _ p1 hu0⟩
      | str i t=>rcases h with rfl | rfl <;> exact ⟨EqAt.list_str _ _ p1 hu0,RcAt.list_str _ _ p1 hu0,RcNeAt.list_str _ _ p1 hu0⟩
      | tup qs b us its2 hb r2 v2 p2=>rcases h with rfl | rfl <;> exact ⟨EqAt.list_tuple p1 p2 hu0,RcAt.list_tuple p1 p2 hu0,RcNeAt.list_tuple p1 p2 hu0⟩
      | lst q qs b us its2 h2 r2 v2 p2=>
        have l1 : its.toArray.size = ps.length:=by rw [List.size_toArray,<- v1.length,r.length]
        have l2 : its2.toArray.size = qs.length:=by rw [List.size_toArray,<- v2.length,r2.length]
        have gp' : ps.all (good n) = true:=by rcases h with rfl | rfl <;> exact gp
        have gq' : qs.all (good n) = true:=by rcases h2 with rfl | rfl <;> exact gq
        have ep : peq p q = peqL ps qs:=by rcases h with rfl | rfl <;> rcases h2 with rfl | rfl <;> rfl
        have he : ∀ j (h1 : j < its.toArray.size) (h2 : j < its2.toArray.size),EqAt A.in1 s its.toArray[j] its2.toArray[j] (peq (ps.getD j .non) (qs.getD j .non)):=fun j h1 h2=>by
          obtain ⟨x1,a1,b1⟩:=getD_of r v1 (j:=j) (by simpa using h1)
          obtain ⟨x2,a2,b2⟩:=getD_of r2 v2 (j:=j) (by simpa using h2)
          exact (ih I (good_getD gp' j (by omega)) (good_getD gq' j (by omega)) hin a1 b1 a2 b2).1
        rw [ep]
        have rcn : RcAt A s (.ref a) (.ref b) (peqL ps qs) /\ RcNeAt A s (.ref a) (.ref b) (!peqL ps qs):=by
          by_cases e : ps.length = qs.length
          · have rc:=RcAt.lists p1 p2 (by rw [l1,l2,e]) hu0 he
            have rn:=RcNeAt.lists p1 p2 (by rw [l1,l2,e]) hu0 he
            rw [l1,<- peqL_all e] at rc rn
            exact ⟨rc,rn⟩
          · have e' : (its.toArray.size != its2.toArray.size) = true:=by rw [l1,l2]; simpa using e
            rw [peqL_len e]
            exact ⟨RcAt.lists_lengths p1 p2 e' hu0,RcNeAt.lists_lengths p1 p2 e' hu0⟩
        refine ⟨?_,rcn.1,rcn.2⟩
        by_cases e : a = b
        · subst e
          have eq1 : peq p q = true:=by
            have rp':=rp
            have rq':=rq
            have xa : x = .ref a:=by
              rcases h with rfl | rfl <;> (obtain ⟨b',_,rfl,_⟩:=rp; cases ru; rfl)
            have ya : y = .ref a:=by
              rcases h2 with rfl | rfl <;> (obtain ⟨b',_,rfl,_⟩:=rq; cases rv; rfl)
            subst xa; subst ya
            exact rep_same gp gq rp rq
          rw [<- ep,eq1]
          exact EqAt.same _
        · exact EqAt.of_refs e rcn.1
end
end Sm
namespace Sm
open PySem PySem.Spec L2
def lim : Nat:=1000000
theorem lim_le : lim <= sizeLine:=by decide
theorem le_lim {n : Nat} (h : n <= lim) : n <= sizeLine:=Nat.le_trans h lim_le
def lstOf (st : Store) : PV -> Option (List PV)
  | .lst xs=>some xs
  | .ref i=>match st[i]? with
    | some (.lst xs)=>some xs
    | _=>none
  | _=>none
def listOf (st : Store) : PV -> Option (List PV)
  | .fro xs=>some xs
  | p=>lstOf st p
def seqOf (st : Store) : PV -> Option (List PV)
  | .tup xs=>some xs
  | p=>listOf st p
def der (st : Store) : PV -> PV
  | .ref i=>match st[i]? with
    | some (.lst xs)=>.lst xs
    | _=>.ref i
  | p=>p
section
variable {H : Hp} {ρ : Tk} {st : Store} {p : PV} {v : V} {xs : List PV}
theorem lst_at (R : Rel H ρ st) (r : Rep H ρ p v) (e : lstOf st p = some xs) : ∃ a vs,v = .ref a /\ H a = some (.lst vs) /\ RepL H ρ xs vs:=by
  cases p with
  | lst ys=>
    obtain ⟨a,vs,e1,e2,_,e3⟩:=r
    cases e
    exact ⟨a,vs,e1,e2,e3⟩
  | ref i=>
    obtain ⟨a,e1,e2⟩:=r
    simp only [lstOf] at e
    split at e
    · rename_i ys hs
      cases e
      obtain ⟨b,vs,f1,f2,f3⟩:=R.lst hs
      rw [e1] at f1; cases f1
      exact ⟨a,vs,e2,f2,f3⟩
    · cases e
  | _=>cases e
theorem list_at (R : Rel H ρ st) (r : Rep H ρ p v) (e : listOf st p = some xs) : ∃ a vs,v = .ref a /\ Rd H a (.lst vs) /\ RepL H ρ xs vs:=by
  cases p with
  | fro ys=>
    obtain ⟨a,vs,e1,e2,_,e3⟩:=r
    cases e
    exact ⟨a,vs,e1,e2,e3⟩
  | _=>
    obtain ⟨a,vs,e1,e2,e3⟩:=lst_at R r e
    exact ⟨a,vs,e1,.inl e2,e3⟩
theorem seq_at {K : PySem.W.Frag} (R : Rel H ρ st) (r : Rep H ρ p v) (e : seqOf st p = some xs) : ∃ (t : Bool) (a : Addr) (vs : List V),v = .ref a /\ SqK K t H a vs /\ RepL H ρ xs vs:=by
  cases p with
  | tup ys=>
    obtain ⟨a,vs,e1,e2,_,e3⟩:=r
    cases e
    exact ⟨true,a,vs,e1,show SqT K H a vs from SqT.of e2,e3⟩
  | _=>
    obtain ⟨a,vs,e1,e2,e3⟩:=list_at R r e
    exact ⟨false,a,vs,e1,show SqL K H a vs from .inl e2,e3⟩
theorem sqK_or {K : PySem.W.Frag} {t : Bool} {a : Addr} {vs : List V} (h : SqK K t H a vs) : SqL K H a vs \/ SqT K H a vs:=by
  cases t with
  | true=>exact .inr h
  | false=>exact .inl h
mutual
theorem rep_nil : ∀ {n : Nat} {q : PV} {u : V},good n q = true -> Rep H ρ q u -> Rep H Tk.nil q u
  | _,.non,_,_,r=>r
  | _,.bl _,_,_,r=>r
  | _,.int _,_,_,r=>r
  | _,.str _,_,_,r=>r
  | 0,.tup _,_,g,_=>by cases g
  | 0,.lst _,_,g,_=>by cases g
  | 0,.fro _,_,g,_=>by cases g
  | n + 1,.tup _,_,g,⟨a,vs,e,h,_,r⟩=>⟨a,vs,e,h,Tk.not_nil _,repL_nil g r⟩
  | n + 1,.lst _,_,g,⟨a,vs,e,h,_,r⟩=>⟨a,vs,e,h,Tk.not_nil _,repL_nil g r⟩
  | n + 1,.fro _,_,g,⟨a,vs,e,h,_,r⟩=>⟨a,vs,e,h,Tk.not_nil _,repL_nil g r⟩
  | 0,.ref _,_,g,_=>by cases g
  | _ + 1,.ref _,_,g,_=>by cases g
  | 0,.dic,_,g,_=>by cases g
  | _ + 1,.dic,_,g,_=>by cases g
theorem repL_nil : ∀ {n : Nat} {qs : List PV} {us : List V},qs.all (good n) = true -> RepL H ρ qs us -> RepL H Tk.nil qs us
  | _,[],_,_,r=>r
  | n,q :: qs,_,g,⟨v,r,e,h1,h2⟩=>by
    rw [List.all_cons,Bool.and_eq_true] at g
    exact ⟨v,r,e,rep_nil g.1 h1,repL_nil g.2 h2⟩
end
theorem der_rep (R : Rel H ρ st) {n : Nat} (g : good n (der st p) = true) (r : Rep H ρ p v) : Rep H Tk.nil (der st p) v:=by
  cases p with
  | ref i=>
    obtain ⟨a,e1,e2⟩:=r
    simp only [der] at g ⊢
    split at g
    · rename_i ys hs
      obtain ⟨b,vs,f1,f2,f3⟩:=R.lst hs
      rw [e1] at f1; cases f1
      cases n with
      | zero=>cases g
      | succ n=>exact ⟨a,vs,e2,f2,Tk.not_nil _,repL_nil g f3⟩
    · cases n <;> cases g
  | _=>exact rep_nil g r
theorem new_tup {mg : Str -> Option Value} {E : XK} {Q : VK} {ps : List PV} {vs : List V} (R : Rel H ρ st) (h : Acc mg E H ρ (QV Q) (.ok (.tup ps) st)) (r : RepL H ρ ps vs) : ∀ p,H p = none -> Q (.ref p) (upd H p (.tup vs)):=
  fun p hp=>h _ ρ (Ext.add hp) (R.add hp) _ ⟨p,vs,rfl,upd_same,R.fresh hp,r.ext (Ext.add hp)⟩
theorem new_lst {mg : Str -> Option Value} {E : XK} {Q : VK} {ps : List PV} {vs : List V} (R : Rel H ρ st) (h : Acc mg E H ρ (QV Q) (.ok (.lst ps) st)) (r : RepL H ρ ps vs) : ∀ p,H p = none -> Q (.ref p) (upd H p (.lst vs)):=
  fun p hp=>h _ ρ (Ext.add hp) (R.add hp) _ ⟨p,vs,rfl,upd_same,R.fresh hp,r.ext (Ext.add hp)⟩
theorem now {mg : Str -> Option Value} {E : XK} {Q : VK} {p : PV} (R : Rel H ρ st) (h : Acc mg E H ρ (QV Q) (.ok p st)) (r : Rep H ρ p v) : Q v H:=h H ρ (Ext.refl _ _) R v r
end
section
variable {X : Cx} {E : XK} {pos : Pos}
def mVar (i : Nat) : ME:=fun Γ st=>match Γ[i]? with
  | some (some p)=>.ok p st
  | _=>.stuck
def mC (p : PV) : ME:=fun _ st=>.ok p st
theorem se_var (i : Nat) {x : Str} (hN : X.N[i]? = some x:=by rfl) (hv : Vis X.env.scope x:=by first | exact Or.inl rfl | exact Or.inr (Or.inl rfl) | exact Or.inr (Or.inr rfl)) (hd : (x == ("__debug__" : Str)) = false:=by decide)
    (hcd : (x == ("__classdict__" : Str)) = false:=by decide) : SimE X E (.Name x pos) (mVar i):=⟨fun Γ σ H ρ st Q R G h=>WE.of (pe_var hN hv hd hcd) (by
  unfold mVar at h
  split at h
  · rename_i p e
    obtain ⟨v,e1,r⟩:=G.2 i p e
    exact ⟨v,e1,now R h r⟩
  · exact h.elim)⟩
theorem se_int {i : Int} {j : Nat} : SimE X E (.Constant (.int i) j pos) (mC (.int i)):=⟨fun Γ σ H ρ st Q R G h=>WE.of pe_int (now R h rfl)⟩
theorem se_bl {b : Bool} {j : Nat} : SimE X E (.Constant (.bool b) j pos) (mC (.bl b)):=⟨fun Γ σ H ρ st Q R G h=>WE.of pe_bl (now R h rfl)⟩
theorem se_non {j : Nat} : SimE X E (.Constant .none j pos) (mC .non):=⟨fun Γ σ H ρ st Q R G h=>WE.of pe_non (now R h rfl)⟩
theorem se_str {x : Str} {j : Nat} : SimE X E (.Constant (.str x) j pos) (mC (.str x)):=⟨fun Γ σ H ρ st Q R G h=>WE.of pe_str (now R h rfl)⟩
theorem se_gint {x : Str} {i : Int} {t : Tok} (hg : Gl X x) (hm : X.mg x = some (.int i t)) (hd : (x == ("__debug__" : Str)) = false:=by decide) : SimE X E (.Name x pos) (mC (.int i)):=
  ⟨fun Γ σ H ρ st Q R G h=>WE.of (pe_glob hg hm (v:=.int i) ⟨t,rfl⟩ hd) (now R h rfl)⟩
variable {a b c : Expr} {ma mb mc : ME}
def mOp (o : OP) (ma mb : ME) : ME:=fun Γ st=>(ma Γ st).bind fun x st1=>(mb Γ st1).bind fun y st2=>o st2 x y
theorem bin_run {f : Value -> Value -> Sem Value} {o : OP} {Γ : Gam} {σ : St} {H : Hp} {ρ : Tk} {st : Store} {P : PV -> Store -> Hp -> Tk -> Prop} {Q : VK} (ho : OpS X E f o) (ha : SimE X E a ma) (hb : SimE X E b mb) (R : Rel H ρ st) (G : EnvR H ρ Γ σ) (h : Acc X.mg E H ρ P (mOp o ma mb Γ st))
    (k : ∀ p st1 H1 ρ1 v,Ext H ρ H1 ρ1 -> Rel H1 ρ1 st1 -> Rep H1 ρ1 p v -> P p st1 H1 ρ1 -> Q v H1) : tOp (WO X f) (WE X a) (WE X b) σ H Q:=by
  refine ha.use R G h.bind fun p st1 H1 ρ1 v x1 R1 G1 r1 h1=>?_
  refine hb.use R1 G1 h1.bind fun q st2 H2 ρ2 u x2 R2 G2 r2 h2=>?_
  exact ho.use R2 (r1.ext x2) r2 h2 fun w st3 H3 ρ3 z x3 R3 r3 p3=>k w st3 H3 ρ3 z (x1.trans (x2.trans x3)) R3 r3 p3
theorem se_op {op : Operator} {o : OP} (ho : OpS X E (binaryOp op) o) (ha : SimE X E a ma) (hb : SimE X E b mb) : SimE X E (.BinOp a op b pos) (mOp o ma mb):=
  ⟨fun Γ σ H ρ st Q R G h=>WE.of (pe_op op_w pe_w pe_w) (bin_run ho ha hb R G h fun _ _ _ _ v _ _ r q=>q v r)⟩
theorem se_cmp {op : CmpOp} {o : OP} (ho : OpS X E (compareOp op) o) (ha : SimE X E a ma) (hb : SimE X E b mb) (hm : behindInMarks op b = false:=by first | exact nomark _ | rfl) : SimE X E (.Compare a [op] [b] pos) (mOp o ma mb):=
  ⟨fun Γ σ H ρ st Q R G h=>WE.of (pe_cmpR op_w pe_w pe_w hm) (bin_run ho ha hb R G h fun _ _ _ _ v _ _ r q=>q v r)⟩
def asB (p : PV) (st : Store) : Res Bool:=match p with
  | .bl k=>.ok k st
  | _=>.stuck
def toB (m : ME) : Gam -> Store -> Res Bool:=fun Γ st=>(m Γ st).bind asB
theorem acc_b {mg : Str -> Option Value} {H : Hp} {ρ : Tk} {st : Store} {p : PV} {v : V} {P : Bool -> Store -> Hp -> Tk -> Prop} (R : Rel H ρ st) (r : Rep H ρ p v) (h : Acc mg E H ρ P (asB p st)) : ∃ k,v = .bl k /\ P k st H ρ:=by
  cases p with
  | bl k=>exact ⟨k,r,h H ρ (Ext.refl _ _) R⟩
  | _=>exact h.elim
theorem st_cmp {op : CmpOp} {o : OP} (ho : OpS X E (compareOp op) o) (ha : SimE X E a ma) (hb : SimE X E b mb) (hm : behindInMarks op b = false:=by first | exact nomark _ | rfl) : SimT X E (.Compare a [op] [b] pos) (toB (mOp o ma mb)):=
  ⟨fun Γ σ H ρ st Q R G h=>WT.of (pt_cmpR op_w pe_w pe_w hm) (bin_run ho ha hb R G h.bind fun _ st1 _ _ v _ R1 r q=>by
    obtain ⟨k,e,z⟩:=acc_b R1 r q
    exact ⟨k,e,z⟩)⟩
theorem st_val {e : Expr} {m : ME} (h : SimE X E e m) (he : ∀ whole,isTrue e X.env whole = (do let v <- whole; standAt e.pos; holding [v] (truthy v)):=by intro _; rfl) : SimT X E e (toB m):=
  ⟨fun Γ σ H ρ st Q R G hq=>WT.of (pt_val pe_w he) (h.use R G hq.bind fun p st1 H1 ρ1 v x1 R1 G1 r1 h1=>by
    obtain ⟨k,e,z⟩:=acc_b R1 r1 h1
    exact ⟨k,e,z⟩)⟩
def mChain (o o' : OP) (ma mb mc : ME) : ME:=fun Γ st=>(ma Γ st).bind fun x st1=>(mb Γ st1).bind fun y st2=>(o st2 x y).bind fun k st3=>match k with
  | .bl true=>(mc Γ st3).bind fun z st4=>o' st4 y z
  | .bl false=>.ok (.bl false) st3
  | _=>.stuck
theorem chain_run {op op' : CmpOp} {o o' : OP} {Γ : Gam} {σ : St} {H : Hp} {ρ : Tk} {st : Store} {P : PV -> Store -> Hp -> Tk -> Prop} {Q : VK} (ho : OpS X E (compareOp op) o) (ho' : OpS X E (compareOp op') o') (ha : SimE X E a ma) (hb : SimE X E b mb) (hc : SimE X E c mc) (R : Rel H ρ st) (G : EnvR H ρ Γ σ) (h : Acc X.mg E H ρ P (mChain o o' ma mb mc Γ st))
    (k : ∀ p st1 H1 ρ1 v,Ext H ρ H1 ρ1 -> Rel H1 ρ1 st1 -> Rep H1 ρ1 p v -> P p st1 H1 ρ1 -> Q v H1) : tChain (WO X (compareOp op)) (WO X (compareOp op')) (WE X a) (WE X b) (WE X c) σ H Q:=by
  refine ha.use R G h.bind fun p st1 H1 ρ1 v x1 R1 G1 r1 h1=>?_
  refine hb.use R1 G1 h1.bind fun q st2 H2 ρ2 u x2 R2 G2 r2 h2=>?_
  refine ho.use R2 (r1.ext x2) r2 h2.bind fun w st3 H3 ρ3 z x3 R3 r3 h3=>?_
  cases w with
  | bl b=>
    refine ⟨b,r3,?_⟩
    cases b with
    | true=>
      rw [if_pos rfl]
      refine hc.use R3 (G2.ext x3) h3.bind fun y st4 H4 ρ4 yv x4 R4 G4 r4 h4=>?_
      exact ho'.use R4 (r2.ext (x3.trans x4)) r4 h4 fun w st5 H5 ρ5 z x5 R5 r5 p5=>k w st5 H5 ρ5 z (x1.trans (x2.trans (x3.trans (x4.trans x5)))) R5 r5 p5
    | false=>
      rw [if_neg Bool.false_ne_true]
      exact k (.bl false) _ H3 ρ3 _ (x1.trans (x2.trans x3)) R3 rfl (h3 H3 ρ3 (Ext.refl _ _) R3)
  | _=>exact h3.elim
theorem se_chain {op op' : CmpOp} {o o' : OP} (ho : OpS X E (compareOp op) o) (ho' : OpS X E (compareOp op') o') (ha : SimE X E a ma) (hb : SimE X E b mb) (hc : SimE X E c mc) (hm : lastMarks [op,op'] [b,c] = false:=by with_unfolding_all rfl) : SimE X E (.Compare a [op,op'] [b,c] pos) (mChain o o' ma mb mc):=
  ⟨fun Γ σ H ρ st Q R G h=>WE.of (pe_chain op_w op_w pe_w pe_w pe_w hm) (chain_run ho ho' ha hb hc R G h fun _ _ _ _ v _ _ r q=>q v r)⟩
theorem st_chain {op op' : CmpOp} {o o' : OP} (ho : OpS X E (compareOp op) o) (ho' : OpS X E (compareOp op') o') (ha : SimE X E a ma) (hb : SimE X E b mb) (hc : SimE X E c mc) (hm : lastMarks [op,op'] [b,c] = false:=by with_unfolding_all rfl) : SimT X E (.Compare a [op,op'] [b,c] pos) (toB (mChain o o' ma mb mc)):=
  ⟨fun Γ σ H ρ st Q R G h=>WT.of (pt_chain op_w op_w pe_w pe_w pe_w hm) (chain_run ho ho' ha hb hc R G h.bind fun _ st1 _ _ v _ R1 r q=>by
    obtain ⟨k,e,z⟩:=acc_b R1 r q
    exact ⟨k,e,z⟩)⟩
variable {rest : List Expr}
def mAnd (ma mb : ME) : ME:=fun Γ st=>(ma Γ st).bind fun x st1=>match x with
  | .bl true=>mb Γ st1
  | .bl false=>.ok (.bl false) st1
  | _=>.stuck
def mOr (ma mb : ME) : ME:=fun Γ st=>(ma Γ st).bind fun x st1=>match x with
  | .bl true=>.ok (.bl true) st1
  | .bl false=>mb Γ st1
  | _=>.stuck
def mNot (ma : ME) : ME:=fun Γ st=>(ma Γ st).bind fun x st1=>match x with
  | .bl k=>.ok (.bl (!k)) st1
  | _=>.stuck
theorem se_one {op : BoolOp} (ha : SimE X E a ma) : SimE X E (.BoolOp op [a] pos) ma:=⟨fun Γ σ H ρ st Q R G h=>WE.of (pe_one pe_w) (ha.use R G h fun _ _ _ _ v _ _ _ r q=>q v r)⟩
theorem se_and (ha : SimE X E a ma) (hb : SimE X E (.BoolOp .And (b :: rest) pos) mb) : SimE X E (.BoolOp .And (a :: b :: rest) pos) (mAnd ma mb):=
  ⟨fun Γ σ H ρ st Q R G h=>WE.of (pe_and pe_w pe_w) (ha.use R G h.bind fun p st1 H1 ρ1 v x1 R1 G1 r1 h1=>by
    cases p with
    | bl k=>
      refine ⟨k,r1,?_⟩
      cases k with
      | true=>rw [if_pos rfl]; exact hb.use R1 G1 h1 fun _ _ _ _ v _ _ _ r q=>q v r
      | false=>rw [if_neg Bool.false_ne_true]; exact now R1 h1 rfl
    | _=>exact h1.elim)⟩
theorem se_or (ha : SimE X E a ma) (hb : SimE X E (.BoolOp .Or (b :: rest) pos) mb) : SimE X E (.BoolOp .Or (a :: b :: rest) pos) (mOr ma mb):=
  ⟨fun Γ σ H ρ st Q R G h=>WE.of (pe_or pe_w pe_w) (ha.use R G h.bind fun p st1 H1 ρ1 v x1 R1 G1 r1 h1=>by
    cases p with
    | bl k=>
      refine ⟨k,r1,?_⟩
      cases k with
      | true=>rw [if_pos rfl]; exact now R1 h1 rfl
      | false=>rw [if_neg Bool.false_ne_true]; exact hb.use R1 G1 h1 fun _ _ _ _ v _ _ _ r q=>q v r
    | _=>exact h1.elim)⟩
theorem se_not (ha : SimE X E a ma) : SimE X E (.UnaryOp .Not a pos) (mNot ma):=
  ⟨fun Γ σ H ρ st Q R G h=>WE.of (pe_not pe_w) (ha.use R G h.bind fun p st1 H1 ρ1 v x1 R1 G1 r1 h1=>by
    cases p with
    | bl k=>exact ⟨k,r1,now R1 h1 rfl⟩
    | _=>exact h1.elim)⟩
abbrev MT:=Gam -> Store -> Res Bool
variable {ta tb : MT}
def tAndM (ta tb : MT) : MT:=fun Γ st=>(ta Γ st).bind fun k st1=>if k = true then tb Γ st1 else .ok false st1
def tOrM (ta tb : MT) : MT:=fun Γ st=>(ta Γ st).bind fun k st1=>if k = true then .ok true st1 else tb Γ st1
def tNotM (ta : MT) : MT:=fun Γ st=>(ta Γ st).bind fun k st1=>.ok (!k) st1
theorem SimW.t {e : Expr} (h : SimW X E e ta) : SimT X E e ta:=⟨fun Γ σ H ρ st Q R G q pins s I=>h.run Γ σ H ρ st Q R G q _ pins s I⟩
theorem sw_and1 (ha : SimT X E a ta) : SimW X E (.BoolOp .And [a] pos) ta:=⟨fun Γ σ H ρ st Q R G h=>WW.of (pw_and1 pt_w) (ha.use R G h fun _ _ _ _ _ _ _ q=>q)⟩
theorem sw_or1 (ha : SimT X E a ta) : SimW X E (.BoolOp .Or [a] pos) ta:=⟨fun Γ σ H ρ st Q R G h=>WW.of (pw_or1 pt_w) (ha.use R G h fun _ _ _ _ _ _ _ q=>q)⟩
theorem sw_and (ha : SimT X E a ta) (hb : SimW X E (.BoolOp .And (b :: rest) pos) tb) : SimW X E (.BoolOp .And (a :: b :: rest) pos) (tAndM ta tb):=
  ⟨fun Γ σ H ρ st Q R G h=>WW.of (pw_and pt_w pw_w) (ha.use R G h.bind fun k st1 H1 ρ1 x1 R1 G1 h1=>by
    cases k with
    | true=>rw [if_pos rfl] at h1 ⊢; exact hb.use R1 G1 h1 fun _ _ _ _ _ _ _ q=>q
    | false=>rw [if_neg Bool.false_ne_true] at h1 ⊢; exact h1 H1 ρ1 (Ext.refl _ _) R1)⟩
theorem sw_or (ha : SimT X E a ta) (hb : SimW X E (.BoolOp .Or (b :: rest) pos) tb) : SimW X E (.BoolOp .Or (a :: b :: rest) pos) (tOrM ta tb):=
  ⟨fun Γ σ H ρ st Q R G h=>WW.of (pw_or pt_w pw_w) (ha.use R G h.bind fun k st1 H1 ρ1 x1 R1 G1 h1=>by
    cases k with
    | true=>rw [if_pos rfl] at h1 ⊢; exact h1 H1 ρ1 (Ext.refl _ _) R1
    | false=>rw [if_neg Bool.false_ne_true] at h1 ⊢; exact hb.use R1 G1 h1 fun _ _ _ _ _ _ _ q=>q)⟩
theorem st_not (ha : SimT X E a ta) : SimT X E (.UnaryOp .Not a pos) (tNotM ta):=
  ⟨fun Γ σ H ρ st Q R G h=>WT.of (pt_not pt_w) (ha.use R G h.bind fun k st1 H1 ρ1 x1 R1 G1 h1=>h1 H1 ρ1 (Ext.refl _ _) R1)⟩
variable {e : Expr} {es : List Expr} {m : ME} {mr : Gam -> Store -> Res (List PV)}
def mNil : Gam -> Store -> Res (List PV):=fun _ st=>.ok [] st
def mCons (m : ME) (mr : Gam -> Store -> Res (List PV)) : Gam -> Store -> Res (List PV):=fun Γ st=>(m Γ st).bind fun p st1=>(mr Γ st1).bind fun ps st2=>.ok (p :: ps) st2
theorem sa_nil : SimA X E [] mNil:=⟨fun Γ σ H ρ st Q R G h=>WA.of pa_nil (h H ρ (Ext.refl _ _) R [] rfl)⟩
theorem sa_cons (ha : SimE X E e m) (hr : SimA X E es mr) (hs : starEach (e :: es) X.env = (false,eval e X.env) :: starEach es X.env:=by rfl) : SimA X E (e :: es) (mCons m mr):=
  ⟨fun Γ σ H ρ st Q R G h=>WA.of (pa_cons pe_w pa_w hs) (ha.use R G h.bind fun p st1 H1 ρ1 v x1 R1 G1 r1 h1=>hr.use R1 G1 h1.bind fun ps st2 H2 ρ2 vs x2 R2 G2 r2 h2=>
    h2 H2 ρ2 (Ext.refl _ _) R2 (v :: vs) ⟨v,vs,rfl,r1.ext x2,r2⟩)⟩
def mTup (mr : Gam -> Store -> Res (List PV)) : ME:=fun Γ st=>(mr Γ st).bind fun ps st1=>if ps.length <= lim then .ok (.tup ps) st1 else .stuck
def mLst (mr : Gam -> Store -> Res (List PV)) : ME:=fun Γ st=>(mr Γ st).bind fun ps st1=>if ps.length <= lim then .ok (.lst ps) st1 else .stuck
theorem se_tup {k : Nat} (h : SimA X E es mr) : SimE X E (.Tuple es k pos) (mTup mr):=
  ⟨fun Γ σ H ρ st Q R G hq=>WE.of (pe_tup pa_w) (h.use R G hq.bind fun ps st1 H1 ρ1 vs x1 R1 G1 r1 h1=>by
    by_cases hl : ps.length <= lim
    · rw [if_pos hl] at h1
      exact ⟨by rw [<- r1.length]; exact le_lim hl,new_tup R1 h1 r1⟩
    · rw [if_neg hl] at h1; exact h1.elim)⟩
theorem se_lst (h : SimA X E es mr) : SimE X E (.List es pos) (mLst mr):=
  ⟨fun Γ σ H ρ st Q R G hq=>WE.of (pe_lst pa_w) (h.use R G hq.bind fun ps st1 H1 ρ1 vs x1 R1 G1 r1 h1=>by
    by_cases hl : ps.length <= lim
    · rw [if_pos hl] at h1
      exact ⟨by rw [<- r1.length]; exact le_lim hl,new_lst R1 h1 r1⟩
    · rw [if_neg hl] at h1; exact h1.elim)⟩
end
end Sm
namespace HT
open PySem PySem.Spec PyProof.Rows
section
variable {prog : Program} {w : World} {A : Around} {E : Value -> Shared -> Prop} {s : Shared}
theorem getItem_tuple_whole {t sl : Addr} {items : Array Value} {vl vu : Value} {lo hi : Option Int} {Q : Value -> Shared -> Prop} (ht : IsTup s.heap t items) (hs : s.heap.IsSliceOf sl vl vu .none) (pl : IsPart vl lo) (pu : IsPart vu hi)
    (hw : sIx items.size 0 lo = 0 /\ sIx items.size items.size hi = items.size)
    (h : Q (.ref t) s) : wpAny (model prog w) A (getItem (.ref t) (.ref sl)) Q E s:=by
  obtain ⟨os,hos,hcs,hds⟩:=id hs
  have hTs : s.TypeIs (.ref sl) "slice" := ⟨os,hos,hcs⟩
  unfold getItem
  try with_reducible refine wpAny_holding ?_
  first | refine wpAny_bind (wpAny_pure ?_) | skip
  refine wpAny_bind (wpAny_sequenceKey ht.typeIs (by decide) ?_)
  refine wpAny_bind (wpAny_callSpecial?_slot (name:=Str.ofString "__getitem__") ht.typeIs PyProof.Rows.slot_tuple_getitem
    (wpAny_call_entry PyProof.Rows.slot_tuple_getitem ht.typeIs entry_tuple_getitem ?_ (args_tuple_getitem _ _)))
  show wpAny _ _ (Builtin.Tuple.tupleItemsOf (.ref t) >>= _) _ _ s
  refine wpAny_bind (tupleItemsOf_ ht ?_)
  refine wpAny_bind (wpAny_typeOf hTs ?_)
  rw [if_pos (by decide)]
  refine wpAny_bind (sliceApplied_gen hs pl pu ?_)
  have hyes : (((sIx items.size 0 lo : Nat) : Int) == 0 && (1 : Int) == 1 && (sIx items.size items.size hi - sIx items.size 0 lo) == items.size) = true:=by
    rw [hw.1,hw.2]; simp
  show wpAny _ _ (if (((sIx items.size 0 lo : Nat) : Int) == 0 && (1 : Int) == 1 && (sIx items.size items.size hi - sIx items.size 0 lo) == items.size) = true then _ else _) _ _ s
  rw [if_pos hyes]
  refine wpAny_bind (wpAny_bind (wpAny_typeOf ht.typeIs (wpAny_pure ?_)))
  rw [if_pos (by rfl)]
  exact wpAny_bind (wpAny_rule (wpAny_pure ⟨_,rfl,wpAny_pure h⟩))
end
end HT
namespace L2
open PySem PySem.Spec PyProof.Rows
def rSlW (K : PySem.W.Frag) : V -> Option Int -> Option Int -> Hp -> VK -> Prop:=fun x lo hi H Q=>∃ a xs,x = .ref a /\ SqT K H a xs /\
  (HT.sIx xs.length 0 lo = 0 /\ HT.sIx xs.length xs.length hi = xs.length) /\ Q (.ref a) H
theorem sl_whole {X : Cx} : SlR X (rSlW X.K):=by
  intro pins s σ H x v vl vu lo hi sl Q I rx hs pl pu h
  obtain ⟨a,xs,rfl,hx,hw,q⟩:=h
  cases rx
  obtain ⟨its,r,ht,hz⟩:=I.tuple hx
  have hlen : its.toArray.size = xs.length:=by rw [List.size_toArray]; exact r.length.symm
  refine ⟨"tuple",_,PyProof.Rows.slot_tuple_getitem.lookup,ht.typeIs,?_⟩
  exact HT.getItem_tuple_whole ht hs pl pu (by rw [hlen]; exact hw) ⟨.ref a,H,I,rfl,q⟩
end L2
namespace Sm
open PySem PySem.Spec L2
section
variable {X : Cx} {E : XK} {pos : Pos}
def oI (g : Int -> Int -> PV) : OP:=fun st p q=>match p,q with
  | .int a,.int b=>.ok (g a b) st
  | _,_=>.stuck
def oAdd : OP:=fun st p q=>match p,q with
  | .int a,.int b=>.ok (.int (a + b)) st
  | .str a,.str b=>if a.length + b.length <= lim then .ok (.str (a ++ b)) st else .stuck
  | .tup xs,.tup ys=>if xs.length + ys.length <= lim then .ok (.tup (xs ++ ys)) st else .stuck
  | p,q=>match lstOf st p,lstOf st q with
    | some xs,some ys=>if xs.length + ys.length <= lim then .ok (.lst (xs ++ ys)) st else .stuck
    | _,_=>.stuck
theorem os_add : OpS X E (binaryOp .Add) oAdd:=⟨fun H ρ st p q x y Q R rp rq h=>by
  unfold oAdd at h
  split at h
  · cases rp; cases rq
    exact WO.of op_add ⟨_,_,rfl,rfl,now R h rfl⟩
  · cases rp; cases rq
    split at h
    · rename_i hl
      exact WO.of op_add_str ⟨_,_,rfl,rfl,le_lim hl,now R h rfl⟩
    · exact h.elim
  · split at h
    · rename_i xs ys hl
      obtain ⟨a,vs,rfl,ha,na,ra⟩:=rp
      obtain ⟨b,us,rfl,hb,nb,rb⟩:=rq
      refine WO.of op_cat2 ?_
      by_cases e : xs = []
      · subst e
        cases ra
        exact .inr ⟨a,b,us,rfl,rfl,SqT.of ha,SqT.of hb,now R h ⟨b,us,rfl,hb,nb,rb⟩⟩
      · refine .inl ⟨a,b,vs,us,rfl,rfl,SqT.of ha,SqT.of hb,fun z=>e ?_,by rw [<- ra.length,<- rb.length]; exact le_lim hl,fun z=>?_,fun z=>new_tup R h (ra.append rb)⟩
        · subst z
          cases xs with
          | nil=>rfl
          | cons _ _=>have:=ra.length; simp at this
        · subst z
          have : ys = []:=by
            cases ys with
            | nil=>rfl
            | cons _ _=>have:=rb.length; simp at this
          subst this
          rw [List.append_nil] at h
          exact now R h ⟨a,vs,rfl,ha,na,ra⟩
    · exact h.elim
  · split at h
    · rename_i xs ys e1 e2
      split at h
      · rename_i hl
        obtain ⟨a,vs,rfl,ha,ra⟩:=lst_at R rp e1
        obtain ⟨b,us,rfl,hb,rb⟩:=lst_at R rq e2
        exact WO.of op_cat ⟨a,b,vs,us,rfl,rfl,ha,hb,by rw [<- ra.length,<- rb.length]; exact le_lim hl,new_lst R h (ra.append rb)⟩
      · exact h.elim
    · exact h.elim⟩
theorem os_sub : OpS X E (binaryOp .Sub) (oI fun a b=>.int (a - b)):=⟨fun H ρ st p q x y Q R rp rq h=>by
  unfold oI at h
  split at h
  · cases rp; cases rq
    exact WO.of op_sub ⟨_,_,rfl,rfl,now R h rfl⟩
  · exact h.elim⟩
def oMul : OP:=fun st p q=>match p,q with
  | .int a,.int b=>if (-(2 ^ 64) < a /\ a < 2 ^ 64) \/ (-(2 ^ 64) < b /\ b < 2 ^ 64) then .ok (.int (a * b)) st else .stuck
  | .tup xs,.int b=>if xs ≠ [] /\ 1 <= b /\ xs.length * b.toNat <= 4096 then .ok (.tup (List.replicate b.toNat xs).flatten) st else .stuck
  | p,.int b=>match lstOf st p with
    | some xs=>if -(2 ^ 63) <= b /\ b < 2 ^ 63 /\ xs.length * b.toNat <= lim then .ok (.lst (List.replicate b.toNat xs).flatten) st else .stuck
    | none=>.stuck
  | _,_=>.stuck
theorem os_mul : OpS X E (binaryOp .Mult) oMul:=⟨fun H ρ st p q x y Q R rp rq h=>by
  unfold oMul at h
  split at h
  · cases rp; cases rq
    split at h
    · rename_i hc
      exact WO.of op_mul ⟨_,_,rfl,rfl,hc,now R h rfl⟩
    · exact h.elim
  · cases rq
    split at h
    · rename_i xs b hc
      obtain ⟨a,vs,rfl,ha,na,ra⟩:=rp
      refine WO.of op_repT ⟨a,b,vs,rfl,rfl,SqT.of ha,fun z=>hc.1 ?_,hc.2.1,by rw [<- ra.length]; exact hc.2.2,fun z=>?_,fun z=>new_tup R h (ra.rep _)⟩
      · subst z
        cases xs with
        | nil=>rfl
        | cons _ _=>have:=ra.length; simp at this
      · subst z
        have e1 : (List.replicate (Int.toNat 1) xs).flatten = xs:=by simp
        rw [e1] at h
        exact now R h ⟨a,vs,rfl,ha,na,ra⟩
    · exact h.elim
  · cases rq
    split at h
    · rename_i xs e1
      split at h
      · rename_i hc
        obtain ⟨a,vs,rfl,ha,ra⟩:=lst_at R rp e1
        exact WO.of op_rep ⟨a,_,vs,rfl,rfl,ha,hc.1,hc.2.1,by rw [<- ra.length]; exact le_lim hc.2.2,new_lst R h (ra.rep _)⟩
      · exact h.elim
    · exact h.elim
  · exact h.elim⟩
def oMod : OP:=fun st p q=>match p,q with
  | .int a,.int b=>if 0 < b then .ok (.int (a % b)) st else .stuck
  | _,_=>.stuck
theorem os_mod : OpS X E (binaryOp .Mod) oMod:=⟨fun H ρ st p q x y Q R rp rq h=>by
  unfold oMod at h
  split at h
  · cases rp; cases rq
    split at h
    · rename_i hc
      exact WO.of op_mod ⟨_,_,rfl,rfl,hc,now R h rfl⟩
    · exact h.elim
  · exact h.elim⟩
def oDiv : OP:=fun st p q=>match p,q with
  | .int a,.int b=>if 0 < b /\ b < 1073741824 then .ok (.int (a / b)) st else .stuck
  | _,_=>.stuck
theorem os_div : OpS X E (binaryOp .FloorDiv) oDiv:=⟨fun H ρ st p q x y Q R rp rq h=>by
  unfold oDiv at h
  split at h
  · cases rp; cases rq
    split at h
    · rename_i hc
      exact WO.of op_fdiv ⟨_,_,rfl,rfl,hc,now R h rfl⟩
    · exact h.elim
  · exact h.elim⟩
def oPow : OP:=fun st p q=>match p,q with
  | .int a,.int b=>if 0 <= b /\ b <= 1000000 /\ a.natAbs < 2 ^ 64 then .ok (.int (a ^ b.toNat)) st else .stuck
  | _,_=>.stuck
theorem os_pow : OpS X E (binaryOp .Pow) oPow:=⟨fun H ρ st p q x y Q R rp rq h=>by
  unfold oPow at h
  split at h
  · cases rp; cases rq
    split at h
    · rename_i hc
      exact WO.of op_pow ⟨_,_,rfl,rfl,hc,now R h rfl⟩
    · exact h.elim
  · exact h.elim⟩
theorem oI_cmp {op : CmpOp} {g : Int -> Int -> Bool} (ho : OpR X (compareOp op) (rI0 fun i j=>.bl (g i j))) : OpS X E (compareOp op) (oI fun a b=>.bl (g a b)):=⟨fun H ρ st p q x y Q R rp rq h=>by
  unfold oI at h
  split at h
  · cases rp; cases rq
    exact WO.of ho ⟨_,_,rfl,rfl,now R h rfl⟩
  · exact h.elim⟩
theorem os_le : OpS X E (compareOp .LtE) (oI fun a b=>.bl (decide (a <= b))):=oI_cmp op_le
theorem os_gt : OpS X E (compareOp .Gt) (oI fun a b=>.bl (decide (b < a))):=oI_cmp op_gt
theorem os_ge : OpS X E (compareOp .GtE) (oI fun a b=>.bl (decide (b <= a))):=oI_cmp op_ge
def intsOf : List PV -> Option (List Int)
  | []=>some []
  | .int i :: ps=>(intsOf ps).map (i :: ·)
  | _ :: _=>none
def blsOf : List PV -> Option (List Bool)
  | []=>some []
  | .bl i :: ps=>(blsOf ps).map (i :: ·)
  | _ :: _=>none
theorem ints_map (ns : List Int) : intsOf (ns.map .int) = some ns:=by
  induction ns with
  | nil=>rfl
  | cons n ns ih=>rw [List.map_cons,intsOf,ih]; rfl
theorem bls_map (ns : List Bool) : blsOf (ns.map .bl) = some ns:=by
  induction ns with
  | nil=>rfl
  | cons n ns ih=>rw [List.map_cons,blsOf,ih]; rfl
theorem ints_eq : ∀ {ps : List PV} {ns : List Int},intsOf ps = some ns -> ps = ns.map .int
  | [],ns,h=>by cases h; rfl
  | .int i :: ps,ns,h=>by
    rw [intsOf] at h
    cases e : intsOf ps with
    | none=>rw [e] at h; cases h
    | some ms=>rw [e] at h; cases h; rw [ints_eq e]; rfl
  | .non :: _,_,h | .bl _ :: _,_,h | .str _ :: _,_,h | .tup _ :: _,_,h | .lst _ :: _,_,h | .fro _ :: _,_,h | .ref _ :: _,_,h | .dic :: _,_,h=>by cases h
theorem bls_eq : ∀ {ps : List PV} {ns : List Bool},blsOf ps = some ns -> ps = ns.map .bl
  | [],ns,h=>by cases h; rfl
  | .bl i :: ps,ns,h=>by
    rw [blsOf] at h
    cases e : blsOf ps with
    | none=>rw [e] at h; cases h
    | some ms=>rw [e] at h; cases h; rw [bls_eq e]; rfl
  | .non :: _,_,h | .int _ :: _,_,h | .str _ :: _,_,h | .tup _ :: _,_,h | .lst _ :: _,_,h | .fro _ :: _,_,h | .ref _ :: _,_,h | .dic :: _,_,h=>by cases h
def oLt : OP:=fun st p q=>match p,q with
  | .int a,.int b=>.ok (.bl (decide (a < b))) st
  | .tup xs,.tup ys=>match intsOf xs,intsOf ys with
    | some ns,some ms=>.ok (.bl (HT.lexLt ns ms)) st
    | _,_=>.stuck
  | _,_=>.stuck
theorem os_lt (hu : X.A.units + 64 < cLine) : OpS X E (compareOp .Lt) oLt:=⟨fun H ρ st p q x y Q R rp rq h=>by
  unfold oLt at h
  split at h
  · cases rp; cases rq
    exact WO.of op_lt ⟨_,_,rfl,rfl,now R h rfl⟩
  · split at h
    · rename_i ns ms e1 e2
      obtain ⟨a,vs,rfl,ha,na,ra⟩:=rp
      obtain ⟨b,us,rfl,hb,nb,rb⟩:=rq
      rw [ints_eq e1] at ra
      rw [ints_eq e2] at rb
      rw [ra.toInts] at ha
      rw [rb.toInts] at hb
      exact WO.of (op_ltT (by omega)) ⟨a,b,ns,ms,rfl,rfl,SqT.of ha,SqT.of hb,now R h rfl⟩
    · exact h.elim
  · exact h.elim⟩
def dep : Nat:=12
def oEq : OP:=fun st p q=>if good dep (der st p) = true /\ good dep (der st q) = true then .ok (.bl (peq (der st p) (der st q))) st else .stuck
def oNe : OP:=fun st p q=>if good dep (der st p) = true /\ good dep (der st q) = true then .ok (.bl (!peq (der st p) (der st q))) st else .stuck
theorem os_eq (hu : X.A.units + 64 < cLine) : OpS X E (compareOp .Eq) oEq:=⟨fun H ρ st p q x y Q R rp rq h=>by
  unfold oEq at h
  split at h
  · rename_i g
    intro pins s σ v u I rv ru
    exact (eqAts dep I g.1 g.2 (by unfold dep; omega) (der_rep R g.1 rp) rv (der_rep R g.2 rq) ru).2.1 _ _ _ _ ⟨.bl _,H,I,rfl,now R h rfl⟩
  · exact h.elim⟩
theorem os_ne (hu : X.A.units + 64 < cLine) : OpS X E (compareOp .NotEq) oNe:=⟨fun H ρ st p q x y Q R rp rq h=>by
  unfold oNe at h
  split at h
  · rename_i g
    intro pins s σ v u I rv ru
    exact (eqAts dep I g.1 g.2 (by unfold dep; omega) (der_rep R g.1 rp) rv (der_rep R g.2 rq) ru).2.2 _ _ _ _ ⟨.bl _,H,I,rfl,now R h rfl⟩
  · exact h.elim⟩
def isNon : PV -> Bool
  | .non=>true
  | _=>false
theorem isNon_rep {H : Hp} {ρ : Tk} {p : PV} {x : V} (r : Rep H ρ p x) : decide (x = .non) = isNon p:=by
  cases p with
  | non=>cases r; rfl
  | bl _=>cases r; rfl
  | int _=>cases r; rfl
  | str _=>cases r; rfl
  | tup _=>obtain ⟨_,_,rfl,_⟩:=r; rfl
  | lst _=>obtain ⟨_,_,rfl,_⟩:=r; rfl
  | fro _=>obtain ⟨_,_,rfl,_⟩:=r; rfl
  | ref _=>obtain ⟨_,_,rfl⟩:=r; rfl
  | dic=>obtain ⟨_,rfl,_⟩:=r; rfl
def oIs : OP:=fun st p q=>match q with
  | .non=>.ok (.bl (isNon p)) st
  | .bl c=>match p with
    | .bl b=>.ok (.bl (b == c)) st
    | _=>.stuck
  | _=>.stuck
theorem os_is : OpS X E (compareOp .Is) oIs:=⟨fun H ρ st p q x y Q R rp rq h=>by
  unfold oIs at h
  split at h
  · cases rq
    refine WO.of op_isN ⟨rfl,?_⟩
    rw [isNon_rep rp]
    exact now R h rfl
  · split at h
    · cases rp; cases rq
      exact WO.of op_is_bl ⟨_,_,rfl,rfl,now R h rfl⟩
    · exact h.elim
  · exact h.elim⟩
def oIn (neg : Bool) : OP:=fun st p q=>match seqOf st q with
  | some xs=>if good dep (der st p) = true /\ xs.all (good dep) = true then .ok (.bl ((xs.any fun y=>peq y (der st p)) != neg)) st else .stuck
  | none=>.stuck
open Classical in
theorem in_items {pins : List (Addr × Obj)} {σ : St} {H : Hp} {ρ : Tk} {s : Shared} {A : Around} {st : Store} {p : PV} {xs : List PV} {x : V} {v : Value} {vs : List V} {its : List Value} (I : Inv X pins σ H s) (hu : A.units + dep < cLine) (R : Rel H ρ st)
    (gp : good dep (der st p) = true) (gx : xs.all (good dep) = true) (rp : Rep H ρ p x) (rv : RelV x v) (ra : RepL H ρ xs vs) (vi : Vals vs its) : ∃ e : Value -> Bool,(∀ u,u ∈ its.toArray -> SeqAt.EqAt A s u v (e u)) /\ its.toArray.any e = xs.any fun y=>peq y (der st p):=by
  have key : ∀ u ∈ its,∃ q ∈ xs,∃ y,Rep H Tk.nil q y /\ RelV y u:=fun u hu=>by
    obtain ⟨j,hj,rfl⟩:=List.getElem_of_mem hu
    have l1:=vi.length
    have l2:=ra.length
    obtain ⟨y,e1,e2⟩:=(repL_nil gx ra).get (List.getElem?_eq_getElem (show j < xs.length by omega))
    obtain ⟨w,e3,e4⟩:=vi.get e1
    rw [List.getElem?_eq_getElem hj] at e3; cases e3
    exact ⟨_,List.getElem_mem _,y,e2,e4⟩
  refine ⟨fun u=>decide (∃ q ∈ xs,∃ y,Rep H Tk.nil q y /\ RelV y u /\ peq q (der st p) = true),fun u hm=>?_,?_⟩
  · have hm' : u ∈ its:=by simpa using hm
    by_cases z : ∃ q ∈ xs,∃ y,Rep H Tk.nil q y /\ RelV y u /\ peq q (der st p) = true
    · show SeqAt.EqAt A s u v (decide _)
      rw [decide_eq_true z]
      obtain ⟨q,hq,y,r1,r2,e⟩:=z
      have:=(eqAts dep I ((List.all_eq_true.mp gx) q hq) gp hu r1 r2 (der_rep R gp rp) rv).1
      rw [e] at this
      exact this
    · show SeqAt.EqAt A s u v (decide _)
      rw [decide_eq_false z]
      obtain ⟨q,hq,y,r1,r2⟩:=key u hm'
      have:=(eqAts dep I ((List.all_eq_true.mp gx) q hq) gp hu r1 r2 (der_rep R gp rp) rv).1
      cases e : peq q (der st p) with
      | true=>exact absurd ⟨q,hq,y,r1,r2,e⟩ z
      | false=>rw [e] at this; exact this
  · rw [Bool.eq_iff_iff,Array.any_eq_true,List.any_eq_true]
    constructor
    · rintro ⟨j,hj,e⟩
      obtain ⟨q,hq,y,r1,r2,e⟩:=of_decide_eq_true e
      exact ⟨q,hq,e⟩
    · rintro ⟨q,hq,e⟩
      obtain ⟨j,hj,rfl⟩:=List.getElem_of_mem hq
      have l1:=vi.length
      have l2:=ra.length
      have hj' : j < its.length:=by omega
      obtain ⟨y,e1,e2⟩:=(repL_nil gx ra).get (List.getElem?_eq_getElem hj)
      obtain ⟨w,e3,e4⟩:=vi.get e1
      refine ⟨j,by simpa using hj',decide_eq_true ⟨_,hq,y,e2,?_,e⟩⟩
      rw [List.getElem?_eq_getElem hj'] at e3; cases e3
      simpa using e4
theorem os_in (hu : X.A.units + 64 < cLine) : OpS X E (compareOp .In) (oIn false):=⟨fun H ρ st p q x y Q R rp rq h=>by
  unfold oIn at h
  split at h
  · rename_i xs es
    split at h
    · rename_i g
      obtain ⟨t,a,vs,rfl,hq,ra⟩:=seq_at (K:=X.K) R rq es
      intro pins s σ v u I rv ru
      cases ru
      rw [Bool.bne_false] at h
      cases t with
      | true=>
        obtain ⟨its,r,pl,hz⟩:=I.tuple hq
        obtain ⟨e,he,ea⟩:=in_items (A:=X.A.in1) I (by show X.A.units + 1 + dep < cLine; unfold dep; omega) R g.1 g.2 rp rv ra r
        refine SeqAt.in_tupleAt e pl he ⟨.bl _,H,I,rfl,?_⟩
        rw [ea]
        exact now R h rfl
      | false=>
        obtain ⟨its,r,pl,hz⟩:=I.list hq
        obtain ⟨e,he,ea⟩:=in_items (A:=X.A.in1) I (by show X.A.units + 1 + dep < cLine; unfold dep; omega) R g.1 g.2 rp rv ra r
        refine SeqAt.in_listAt e pl.isList he ⟨.bl _,H,I,rfl,?_⟩
        rw [ea]
        exact now R h rfl
    · exact h.elim
  · exact h.elim⟩
theorem os_notin (hu : X.A.units + 64 < cLine) : OpS X E (compareOp .NotIn) (oIn true):=⟨fun H ρ st p q x y Q R rp rq h=>by
  unfold oIn at h
  split at h
  · rename_i xs es
    split at h
    · rename_i g
      obtain ⟨t,a,vs,rfl,hq,ra⟩:=seq_at (K:=X.K) R rq es
      intro pins s σ v u I rv ru
      cases ru
      rw [Bool.bne_true] at h
      cases t with
      | true=>
        obtain ⟨its,r,pl,hz⟩:=I.tuple hq
        obtain ⟨e,he,ea⟩:=in_items (A:=X.A.in1) I (by show X.A.units + 1 + dep < cLine; unfold dep; omega) R g.1 g.2 rp rv ra r
        refine SeqAt.notIn_tupleAt e pl he ⟨.bl _,H,I,rfl,?_⟩
        rw [ea]
        exact now R h rfl
      | false=>
        obtain ⟨its,r,pl,hz⟩:=I.list hq
        obtain ⟨e,he,ea⟩:=in_items (A:=X.A.in1) I (by show X.A.units + 1 + dep < cLine; unfold dep; omega) R g.1 g.2 rp rv ra r
        refine SeqAt.notIn_listAt e pl.isList he ⟨.bl _,H,I,rfl,?_⟩
        rw [ea]
        exact now R h rfl
    · exact h.elim
  · exact h.elim⟩
end
end Sm
namespace Sm
open PySem PySem.Spec L2
section
variable {H : Hp} {ρ : Tk}
theorem RepL.atI {ps : List PV} {vs : List V} {i : Int} {p : PV} (r : RepL H ρ ps vs) (e : atI ps i = some p) : ∃ v,L2.atI vs i = some v /\ Rep H ρ p v:=by
  unfold L2.atI at e ⊢
  rw [<- r.length]
  cases q : ixN ps.length i with
  | none=>rw [q] at e; cases e
  | some j=>
    rw [q] at e
    exact r.get e
def cut {α : Type} (xs : List α) (lo hi : Option Int) : List α:=(xs.drop (HT.sIx xs.length 0 lo)).take (HT.sIx xs.length xs.length hi - HT.sIx xs.length 0 lo)
theorem RepL.cut {ps : List PV} {vs : List V} (r : RepL H ρ ps vs) (lo hi : Option Int) : RepL H ρ (Sm.cut ps lo hi) (cutV vs lo hi):=by
  unfold Sm.cut cutV
  rw [<- r.length]
  exact (r.drop _).take _
end
section
variable {X : Cx} {E : XK} {pos : Pos} {a b : Expr} {ma mb : ME}
def oIx : OP:=fun st p q=>match seqOf st p,q with
  | some xs,.int i=>okO st (atI xs i)
  | _,_=>.stuck
theorem se_ix (ha : SimE X E a ma) (hb : SimE X E b mb) (hs : PlainIx b:=by exact fun _ _=>rfl) : SimE X E (.Subscript a b pos) (mOp oIx ma mb):=
  ⟨fun Γ σ H ρ st Q R G h=>WE.of (pe_ix ix_seq pe_w pe_w hs) (ha.use R G h.bind fun p st1 H1 ρ1 v x1 R1 G1 r1 h1=>hb.use R1 G1 h1.bind fun q st2 H2 ρ2 u x2 R2 G2 r2 h2=>by
    unfold oIx at h2
    split at h2
    · rename_i xs i e
      cases r2
      cases ea : atI xs i with
      | none=>rw [ea] at h2; exact h2.elim
      | some w=>
        rw [ea] at h2
        obtain ⟨t,b,vs,rfl,hq,ra⟩:=seq_at (K:=X.K) R2 (r1.ext x2) e
        obtain ⟨z,ez,rz⟩:=ra.atI ea
        cases t with
        | true=>exact .inr (.inl ⟨b,vs,i,z,rfl,rfl,hq,ez,now R2 h2 rz⟩)
        | false=>exact .inl ⟨b,vs,i,z,rfl,rfl,hq,ez,now R2 h2 rz⟩
    · exact h2.elim)⟩
structure SimO (X : Cx) (E : XK) (o : Option Expr) (m : Gam -> Store -> Res (Option Int)) : Prop where
  run : ∀ (Γ : Gam) (σ : St) (H : Hp) (ρ : Tk) (st : Store) (P : Option Int -> Store -> Hp -> Tk -> Prop) (Q : Option Int -> Hp -> Prop),Rel H ρ st -> EnvR H ρ Γ σ -> Acc X.mg E H ρ P (m Γ st) ->
    (∀ i st1 H1 ρ1,Ext H ρ H1 ρ1 -> Rel H1 ρ1 st1 -> EnvR H1 ρ1 Γ σ -> P i st1 H1 ρ1 -> Q i H1) -> ∃ t,PO X o t /\ t σ H Q
def mNoPart : Gam -> Store -> Res (Option Int):=fun _ st=>.ok none st
def mPart (m : ME) : Gam -> Store -> Res (Option Int):=fun Γ st=>(m Γ st).bind fun p st1=>match p with
  | .int i=>.ok (some i) st1
  | _=>.stuck
theorem so_none : SimO X E none mNoPart:=⟨fun Γ σ H ρ st P Q R G h k=>⟨_,po_none,k none st H ρ (Ext.refl _ _) R G (h H ρ (Ext.refl _ _) R)⟩⟩
theorem so_some (ha : SimE X E a ma) : SimO X E (some a) (mPart ma):=⟨fun Γ σ H ρ st P Q R G h k=>⟨_,po_some pe_w,ha.use R G h.bind fun p st1 H1 ρ1 v x1 R1 G1 r1 h1=>by
  cases p with
  | int i=>exact ⟨i,r1,k (some i) st1 H1 ρ1 x1 R1 G1 (h1 H1 ρ1 (Ext.refl _ _) R1)⟩
  | _=>exact h1.elim⟩⟩
def oSl (st : Store) (p : PV) (lo hi : Option Int) : Res PV:=match p with
  | .tup xs=>.ok (.tup (cut xs lo hi)) st
  | p=>match listOf st p with
    | some xs=>.ok (.lst (cut xs lo hi)) st
    | none=>.stuck
def mSl (ma : ME) (ml mh : Gam -> Store -> Res (Option Int)) : ME:=fun Γ st=>(ma Γ st).bind fun p st1=>(ml Γ st1).bind fun lo st2=>(mh Γ st2).bind fun hi st3=>oSl st3 p lo hi
def TO.w (X : Cx) (o : Option Expr) : TO:=fun σ H Q=>∃ t,PO X o t /\ t σ H Q
theorem po_w {o : Option Expr} : PO X o (TO.w X o):=fun pins s σ H Q I ⟨t,h,q⟩=>h pins s σ H Q I q
theorem se_slice {lo hi : Option Expr} {ml mh : Gam -> Store -> Res (Option Int)} {p2 : Pos} (ha : SimE X E a ma) (hl : SimO X E lo ml) (hh : SimO X E hi mh) : SimE X E (.Subscript a (.Slice lo hi none p2) pos) (mSl ma ml mh):=
  ⟨fun Γ σ H ρ st Q R G h=>WE.of (pe_slice (sl_tup.or (sl_whole.or sl_list)) pe_w po_w po_w) (ha.use R G h.bind fun p st1 H1 ρ1 v x1 R1 G1 r1 h1=>by
    refine hl.run Γ σ H1 ρ1 st1 _ _ R1 G1 h1.bind fun l st2 H2 ρ2 x2 R2 G2 h2=>?_
    refine hh.run Γ σ H2 ρ2 st2 _ _ R2 G2 h2.bind fun u st3 H3 ρ3 x3 R3 G3 h3=>?_
    have r3:=r1.ext (x2.trans x3)
    unfold oSl at h3
    split at h3
    · rename_i xs
      obtain ⟨a,vs,rfl,ha,na,ra⟩:=r3
      by_cases hw : HT.sIx vs.length 0 l = 0 /\ HT.sIx vs.length vs.length u = vs.length
      · refine .inr (.inl ⟨a,vs,rfl,SqT.of ha,hw,?_⟩)
        have e : cut xs l u = xs:=by
          unfold cut
          rw [ra.length,hw.1,hw.2,List.drop_zero,Nat.sub_zero,<- ra.length,List.take_length]
        rw [e] at h3
        exact now R3 h3 ⟨a,vs,rfl,ha,na,ra⟩
      · exact .inl ⟨a,vs,rfl,SqT.of ha,hw,new_tup R3 h3 (ra.cut l u)⟩
    · split at h3
      · rename_i xs e
        obtain ⟨a,vs,rfl,ha,ra⟩:=list_at R3 r3 e
        exact .inr (.inr ⟨a,vs,rfl,.inl ha,new_lst R3 h3 (ra.cut l u)⟩)
      · exact h3.elim)⟩
variable {es : List Expr} {e : Expr} {mr : Gam -> Store -> Res (List PV)}
def mCall (o : CF) (mr : Gam -> Store -> Res (List PV)) : ME:=fun Γ st=>(mr Γ st).bind fun ps st1=>o st1 ps
theorem CallS.use {f : Value} {o : CF} (s : CallS X E f o) {P : PV -> Store -> Hp -> Tk -> Prop} {Q : VK} {H : Hp} {ρ : Tk} {st : Store} {ps : List PV} {xs : List V} (R : Rel H ρ st) (rp : RepL H ρ ps xs) (h : Acc X.mg E H ρ P (o st ps))
    (k : ∀ p st1 H1 ρ1 v,Ext H ρ H1 ρ1 -> Rel H1 ρ1 st1 -> Rep H1 ρ1 p v -> P p st1 H1 ρ1 -> Q v H1) : WC X f xs H Q:=by
  refine s.run H ρ st ps xs Q R rp ?_
  cases r : o st ps with
  | ok p st1=>rw [r] at h; exact fun H' ρ' x' R' v rv=>k p st1 H' ρ' v x' R' rv (h H' ρ' x' R')
  | exc e st=>rw [r] at h; exact h
  | stuck=>rw [r] at h; exact h
theorem se_callB {id : String} {x : Str} {p : Pos} {o : CF} (hc : CallS X E (.builtin id) o) (hg : Gl X x) (hm : X.mg x = none) (hv : bootBuiltins x = some (.builtin id)) (ha : SimA X E (e :: es) mr) (hn : x ≠ "__name__" := by decide) (hdb : (x == ("__debug__" : Str)) = false:=by decide)
    (he : starEach (e :: es) X.env = (false,eval e X.env) :: starEach es X.env:=by rfl) (hpl : (backTo pos (starEach es X.env)).any (·.1) = false:=by rfl) : SimE X E (.Call (.Name x p) (e :: es) [] pos) (mCall o mr):=
  ⟨fun Γ σ H ρ st Q R G h=>WE.of (pe_callB call_w hg hm hv pa_w hn hdb he hpl) (ha.use R G h.bind fun ps st1 H1 ρ1 vs x1 R1 G1 r1 h1=>hc.use R1 r1 h1 fun _ _ _ _ v _ _ r q=>q v r)⟩
theorem se_callT {T : String} {x : Str} {p : Pos} {o : CF} (hc : CallS X E (.type T) o) (hg : Gl X x) (hm : X.mg x = none) (hv : bootBuiltins x = some (.type T)) (ha : SimA X E (e :: es) mr) (hn : x ≠ "__name__" := by decide) (hdb : (x == ("__debug__" : Str)) = false:=by decide)
    (he : starEach (e :: es) X.env = (false,eval e X.env) :: starEach es X.env:=by rfl) (hpl : (backTo pos (starEach es X.env)).any (·.1) = false:=by rfl) : SimE X E (.Call (.Name x p) (e :: es) [] pos) (mCall o mr):=
  ⟨fun Γ σ H ρ st Q R G h=>WE.of (pe_callTy call_w hg hm hv pa_w hn hdb he hpl) (ha.use R G h.bind fun ps st1 H1 ρ1 vs x1 R1 G1 r1 h1=>hc.use R1 r1 h1 fun _ _ _ _ v _ _ r q=>q v r)⟩
theorem repL_one {H : Hp} {ρ : Tk} {p : PV} {xs : List V} (r : RepL H ρ [p] xs) : ∃ v,xs = [v] /\ Rep H ρ p v:=by
  obtain ⟨v,t,rfl,h1,h2⟩:=r
  cases h2
  exact ⟨v,rfl,h1⟩
theorem repL_two {H : Hp} {ρ : Tk} {p q : PV} {xs : List V} (r : RepL H ρ [p,q] xs) : ∃ v u,xs = [v,u] /\ Rep H ρ p v /\ Rep H ρ q u:=by
  obtain ⟨v,t,rfl,h1,h2⟩:=r
  obtain ⟨u,rfl,h3⟩:=repL_one h2
  exact ⟨v,u,rfl,h1,h3⟩
def cLen : CF:=fun st ps=>match ps with
  | [p]=>match seqOf st p with
    | some xs=>.ok (.int xs.length) st
    | none=>match p with
      | .str x=>if x.length <= lim then .ok (.int x.length) st else .stuck
      | _=>.stuck
  | _=>.stuck
theorem cs_len : CallS X E (.builtin "len") cLen:=⟨fun H ρ st ps xs Q R rp h=>by
  unfold cLen at h
  split at h
  · rename_i p
    obtain ⟨v,rfl,r⟩:=repL_one rp
    split at h
    · rename_i ys e
      obtain ⟨t,a,vs,rfl,hq,ra⟩:=seq_at (K:=X.K) R r e
      rw [ra.length] at h
      exact WC.of call_len_seq ⟨a,vs,rfl,sqK_or hq,now R h rfl⟩
    · split at h
      · cases r
        split at h
        · rename_i hl
          exact WC.of call_len_str ⟨_,rfl,le_lim hl,now R h rfl⟩
        · exact h.elim
      · exact h.elim
  · exact h.elim⟩
def cInts (g : List Int -> Option PV) : CF:=fun st ps=>match ps with
  | [p]=>match (seqOf st p).bind intsOf with
    | some ns=>okO st (g ns)
    | none=>.stuck
  | _=>.stuck
def cBls (g : List Bool -> PV) : CF:=fun st ps=>match ps with
  | [p]=>match (seqOf st p).bind blsOf with
    | some ns=>.ok (g ns) st
    | none=>.stuck
  | _=>.stuck
theorem ints_at' {K : PySem.W.Frag} {H : Hp} {ρ : Tk} {st : Store} {p : PV} {v : V} {ns : List Int} (R : Rel H ρ st) (r : Rep H ρ p v) (e : (seqOf st p).bind intsOf = some ns) : ∃ (t : Bool) (a : Addr),v = .ref a /\ SqK K t H a (ns.map V.int):=by
  cases q : seqOf st p with
  | none=>rw [q] at e; cases e
  | some xs=>
    rw [q] at e
    obtain ⟨t,a,vs,rfl,hq,ra⟩:=seq_at (K:=K) R r q
    rw [ints_eq e] at ra
    rw [ra.toInts] at hq
    exact ⟨t,a,rfl,hq⟩
theorem bls_at' {K : PySem.W.Frag} {H : Hp} {ρ : Tk} {st : Store} {p : PV} {v : V} {ns : List Bool} (R : Rel H ρ st) (r : Rep H ρ p v) (e : (seqOf st p).bind blsOf = some ns) : ∃ (t : Bool) (a : Addr),v = .ref a /\ SqK K t H a (ns.map V.bl):=by
  cases q : seqOf st p with
  | none=>rw [q] at e; cases e
  | some xs=>
    rw [q] at e
    obtain ⟨t,a,vs,rfl,hq,ra⟩:=seq_at (K:=K) R r q
    rw [bls_eq e] at ra
    rw [ra.toBls] at hq
    exact ⟨t,a,rfl,hq⟩
theorem cs_sum (hc : X.calm = true) : CallS X E (.builtin "sum") (cInts fun ns=>some (.int ns.sum)):=⟨fun H ρ st ps xs Q R rp h=>by
  unfold cInts at h
  split at h
  · obtain ⟨v,rfl,r⟩:=repL_one rp
    split at h
    · rename_i ns e
      obtain ⟨t,a,rfl,hq⟩:=ints_at' (K:=X.K) R r e
      exact WC.of (call_sum t hc) ⟨a,ns,rfl,hq,now R h rfl⟩
    · exact h.elim
  · exact h.elim⟩
theorem cs_all (hc : X.calm = true) : CallS X E (.builtin "all") (cBls fun ns=>.bl (ns.all id)):=⟨fun H ρ st ps xs Q R rp h=>by
  unfold cBls at h
  split at h
  · obtain ⟨v,rfl,r⟩:=repL_one rp
    split at h
    · rename_i ns e
      obtain ⟨t,a,rfl,hq⟩:=bls_at' (K:=X.K) R r e
      exact WC.of (call_all t hc) ⟨a,ns,rfl,hq,now R h rfl⟩
    · exact h.elim
  · exact h.elim⟩
def maxI : List Int -> Option Int
  | []=>none
  | n :: ns=>some (ns.foldl (fun a b=>if b > a then b else a) n)
def minI : List Int -> Option Int
  | []=>none
  | n :: ns=>some (ns.foldl (fun a b=>if b < a then b else a) n)
theorem foldl_max : ∀ (ns : List Int) (n : Int),(ns.foldl (fun a b=>if b > a then b else a) n = n \/ ns.foldl (fun a b=>if b > a then b else a) n ∈ ns) /\ n <= ns.foldl (fun a b=>if b > a then b else a) n /\ ∀ k ∈ ns,k <= ns.foldl (fun a b=>if b > a then b else a) n
  | [],n=>⟨.inl rfl,Int.le_refl _,fun k h=>by cases h⟩
  | m :: ns,n=>by
    obtain ⟨h1,h2,h3⟩:=foldl_max ns (if m > n then m else n)
    rw [List.foldl_cons]
    refine ⟨?_,?_,fun k hk=>?_⟩
    · rcases h1 with e | e
      · by_cases hm : m > n
        · rw [if_pos hm] at e ⊢; exact .inr (by rw [e]; exact List.mem_cons_self)
        · rw [if_neg hm] at e ⊢; exact .inl e
      · exact .inr (List.mem_cons_of_mem _ e)
    · by_cases hm : m > n
      · rw [if_pos hm] at h2 ⊢; omega
      · rw [if_neg hm] at h2 ⊢; exact h2
    · rcases List.mem_cons.mp hk with rfl | hk
      · by_cases hm : k > n
        · rw [if_pos hm] at h2 ⊢; exact h2
        · rw [if_neg hm] at h2 ⊢; omega
      · exact h3 k hk
theorem foldl_min : ∀ (ns : List Int) (n : Int),(ns.foldl (fun a b=>if b < a then b else a) n = n \/ ns.foldl (fun a b=>if b < a then b else a) n ∈ ns) /\ ns.foldl (fun a b=>if b < a then b else a) n <= n /\ ∀ k ∈ ns,ns.foldl (fun a b=>if b < a then b else a) n <= k
  | [],n=>⟨.inl rfl,Int.le_refl _,fun k h=>by cases h⟩
  | m :: ns,n=>by
    obtain ⟨h1,h2,h3⟩:=foldl_min ns (if m < n then m else n)
    rw [List.foldl_cons]
    refine ⟨?_,?_,fun k hk=>?_⟩
    · rcases h1 with e | e
      · by_cases hm : m < n
        · rw [if_pos hm] at e ⊢; exact .inr (by rw [e]; exact List.mem_cons_self)
        · rw [if_neg hm] at e ⊢; exact .inl e
      · exact .inr (List.mem_cons_of_mem _ e)
    · by_cases hm : m < n
      · rw [if_pos hm] at h2 ⊢; omega
      · rw [if_neg hm] at h2 ⊢; exact h2
    · rcases List.mem_cons.mp hk with rfl | hk
      · by_cases hm : k < n
        · rw [if_pos hm] at h2 ⊢; exact h2
        · rw [if_neg hm] at h2 ⊢; omega
      · exact h3 k hk
def cMax : CF:=fun st ps=>match ps with
  | [.int a,.int b]=>.ok (.int (if b > a then b else a)) st
  | ps=>cInts (fun ns=>(maxI ns).map .int) st ps
def cMin : CF:=fun st ps=>match ps with
  | [.int a,.int b]=>.ok (.int (if b < a then b else a)) st
  | ps=>cInts (fun ns=>(minI ns).map .int) st ps
theorem cs_max (hc : X.calm = true) : CallS X E (.builtin "max") cMax:=⟨fun H ρ st ps xs Q R rp h=>by
  unfold cMax at h
  split at h
  · obtain ⟨v,u,rfl,r1,r2⟩:=repL_two rp
    cases r1; cases r2
    exact WC.of (call_max2 hc) ⟨_,_,rfl,now R h rfl⟩
  · unfold cInts at h
    split at h
    · obtain ⟨v,rfl,r⟩:=repL_one rp
      split at h
      · rename_i ns e
        cases ns with
        | nil=>exact h.elim
        | cons n ns=>
          obtain ⟨t,a,rfl,hq⟩:=ints_at' (K:=X.K) R r e
          refine WC.of (call_maxL t hc) ⟨a,_,rfl,hq,by simp,fun m hm hk=>?_⟩
          have em : m = ns.foldl (fun a b=>if b > a then b else a) n:=by
            obtain ⟨h1,h2,h3⟩:=foldl_max ns n
            have g1 : ns.foldl (fun a b=>if b > a then b else a) n <= m:=by
              rcases h1 with e | e
              · rw [e]; exact hk _ List.mem_cons_self
              · exact hk _ (List.mem_cons_of_mem _ e)
            have g2 : m <= ns.foldl (fun a b=>if b > a then b else a) n:=by
              rcases List.mem_cons.mp hm with rfl | hm
              · exact h2
              · exact h3 m hm
            omega
          subst em
          exact now R h rfl
      · exact h.elim
    · exact h.elim⟩
theorem cs_min (hc : X.calm = true) : CallS X E (.builtin "min") cMin:=⟨fun H ρ st ps xs Q R rp h=>by
  unfold cMin at h
  split at h
  · obtain ⟨v,u,rfl,r1,r2⟩:=repL_two rp
    cases r1; cases r2
    exact WC.of (call_min2 hc) ⟨_,_,rfl,now R h rfl⟩
  · unfold cInts at h
    split at h
    · obtain ⟨v,rfl,r⟩:=repL_one rp
      split at h
      · rename_i ns e
        cases ns with
        | nil=>exact h.elim
        | cons n ns=>
          obtain ⟨t,a,rfl,hq⟩:=ints_at' (K:=X.K) R r e
          refine WC.of (call_minL t hc) ⟨a,_,rfl,hq,by simp,fun m hm hk=>?_⟩
          have em : m = ns.foldl (fun a b=>if b < a then b else a) n:=by
            obtain ⟨h1,h2,h3⟩:=foldl_min ns n
            have g1 : m <= ns.foldl (fun a b=>if b < a then b else a) n:=by
              rcases h1 with e | e
              · rw [e]; exact hk _ List.mem_cons_self
              · exact hk _ (List.mem_cons_of_mem _ e)
            have g2 : ns.foldl (fun a b=>if b < a then b else a) n <= m:=by
              rcases List.mem_cons.mp hm with rfl | hm
              · exact h2
              · exact h3 m hm
            omega
          subst em
          exact now R h rfl
      · exact h.elim
    · exact h.elim⟩
def cTuple : CF:=fun st ps=>match ps with
  | [p]=>match seqOf st p with
    | some xs=>.ok (.tup xs) st
    | none=>.stuck
  | _=>.stuck
theorem cs_tuple : CallS X E (.type "tuple") cTuple:=⟨fun H ρ st ps xs Q R rp h=>by
  unfold cTuple at h
  split at h
  · rename_i p
    obtain ⟨v,rfl,r⟩:=repL_one rp
    split at h
    · rename_i ys e
      cases p with
      | tup zs=>
        cases e
        obtain ⟨a,vs,rfl,ha,na,ra⟩:=r
        exact WC.of call_tuple_of ⟨a,vs,rfl,.inr ⟨SqT.of ha,now R h ⟨a,vs,rfl,ha,na,ra⟩⟩⟩
      | _=>
        obtain ⟨a,vs,rfl,ha,ra⟩:=list_at R r e
        exact WC.of call_tuple_of ⟨a,vs,rfl,.inl ⟨.inl ha,new_tup R h ra⟩⟩
    · exact h.elim
  · exact h.elim⟩
def tyN : PV -> String
  | .non => "NoneType"
  | .bl _ => "bool"
  | .int _ => "int"
  | .str _ => "str"
  | .tup _ => "tuple"
  | .lst _ => "list"
  | .fro _ => "list"
  | .ref _ => "list"
  | .dic => "dict"
def dpv (st : Store) : PV -> PV
  | .ref i=>match st[i]? with
    | some (.dic _)=>.dic
    | some (.dtp _)=>.dic
    | _=>.ref i
  | p=>p
def isI (T : String) (p : PV) : Bool:=tyN p == T || (T == "int" && tyN p == "bool")
def frzd (st : Store) : PV -> Bool
  | .ref i=>match st[i]? with
    | some (.frd _)=>true
    | some (.obj _ _)=>true
    | _=>false
  | _=>false
theorem ty_of {K : PySem.W.Frag} {H : Hp} {ρ : Tk} {st : Store} {p : PV} {v : V} (nf : frzd st p = false) (R : Rel H ρ st) (r : Rep H ρ p v) : TyOf K H v (.type (tyN (dpv st p))):=by
  cases p with
  | non=>cases r; exact .non
  | bl b=>cases r; exact .bl b
  | int i=>cases r; exact .int i
  | str x=>cases r; exact .str x
  | tup ps=>obtain ⟨a,vs,rfl,h,_⟩:=r; exact .tup h
  | lst ps=>obtain ⟨a,vs,rfl,h,_⟩:=r; exact .lst h
  | fro ps=>
    obtain ⟨a,vs,rfl,h,_⟩:=r
    rcases h with h | ⟨o,h⟩
    · exact .lst h
    · exact .frz h
  | ref i=>
    obtain ⟨a,e,rfl⟩:=r
    have hl : i < st.length:=by rw [<- R.len]; exact (List.getElem?_eq_some_iff.mp e).1
    have hs:=List.getElem?_eq_getElem hl
    have q:=R.cell i a st[i] e hs
    cases hc : st[i] with
    | lst xs=>rw [hc] at q hs; simp only [dpv,hs]; obtain ⟨vs,h,_⟩:=q; exact .lst h
    | dic xs=>rw [hc] at q hs; simp only [dpv,hs]; obtain ⟨vs,h,_⟩:=q; exact .dK h
    | dtp xs=>rw [hc] at q hs; simp only [dpv,hs]; obtain ⟨vs,h,_⟩:=q; exact .dT h
    | frd xs=>rw [hc] at hs; simp only [frzd,hs] at nf; cases nf
    | obj C xs=>rw [hc] at hs; simp only [frzd,hs] at nf; cases nf
  | dic=>obtain ⟨a,rfl,h,_⟩:=r; exact .dK h
def kitTypes : List String:=["int", "bool", "str", "tuple", "list", "dict"]
theorem kit_ok (K : PySem.W.Frag) {T : String} (hT : T ∈ kitTypes) (p : PV) : PySem.W.kitOne K (.type (tyN p)) (.type T) = some (isI T p):=by
  have hT : T = "int" \/ T = "bool" \/ T = "str" \/ T = "tuple" \/ T = "list" \/ T = "dict" := by simpa [kitTypes] using hT
  rcases hT with rfl | rfl | rfl | rfl | rfl | rfl <;> cases p <;> first | rfl | kernel_rfl
def mIsI (T : String) (m : ME) : ME:=fun Γ st=>(m Γ st).bind fun p st1=>if frzd st1 p = true then .stuck else .ok (.bl (isI T (dpv st1 p))) st1
theorem se_isi {T : String} {tx : Str} {a : Expr} {ma : ME} {p tp : Pos} (hT : T ∈ kitTypes) (ha : SimE X E a ma) (hg : Gl X "isinstance") (hm : X.mg "isinstance" = none) (hgT : Gl X tx) (hmT : X.mg tx = none) (hvT : bootBuiltins tx = some (.type T))
    (hn : tx ≠ "__name__" := by decide) (hd : (tx == ("__debug__" : Str)) = false:=by decide)
    (he : starEach [a,.Name tx tp] X.env = (false,eval a X.env) :: starEach [.Name tx tp] X.env:=by rfl) (he2 : starEach [.Name tx tp] X.env = (false,eval (.Name tx tp) X.env) :: starEach [] X.env:=by rfl) (hpl : (backTo pos (starEach [.Name tx tp] X.env)).any (·.1) = false:=by rfl) :
    SimE X E (.Call (.Name "isinstance" p) [a,.Name tx tp] [] pos) (mIsI T ma):=
  ⟨fun Γ σ H ρ st Q R G h=>WE.of (pe_callB call_isinst hg hm boot_isinstance (pa_cons pe_w (pa_cons (pe_bltn hgT hmT hvT (v:=.ty T) rfl hn hd) pa_nil he2) he) (by decide) (by decide) he hpl)
    (ha.use R G h.bind fun q st1 H1 ρ1 v x1 R1 G1 r1 h1=>by
      by_cases nf : frzd st1 q = true
      · rw [if_pos nf] at h1; exact h1.elim
      · rw [if_neg nf] at h1
        exact ⟨v,.ty T,.type T,_,_,rfl,rfl,ty_of (by simpa using nf) R1 r1,kit_ok X.K hT (dpv st1 q),now R1 h1 rfl⟩)⟩
end
end Sm
namespace Sm
open PySem PySem.Spec L2
abbrev GA:=PV -> Gam -> Option Gam
abbrev GAs:=List PV -> Gam -> Option Gam
structure SimG (X : Cx) (tg : Expr) (ga : GA) : Prop where
  run : ∀ (Γ Γ' : Gam) (σ : St) (H : Hp) (ρ : Tk) (p : PV) (v : V) (Q : St -> Hp -> Prop),EnvR H ρ Γ σ -> Rep H ρ p v -> ga p Γ = some Γ' -> (∀ σ',EnvR H ρ Γ' σ' -> Q σ' H) -> ∃ t,PG X tg t /\ t v σ H Q
def gaName (i : Nat) : GA:=fun p Γ=>some (Γ.set i (some p))
def gaNil : GAs:=fun ps Γ=>match ps with
  | []=>some Γ
  | _=>none
section
variable {X : Cx} {pos : Pos}
theorem sg_name {i : Nat} {x : Str} (hN : X.N.Nodup) (hi : X.N[i]? = some x:=by rfl) (hx : Loc X.env.scope x:=by first | exact Or.inl rfl | exact Or.inr rfl) (hf : X.fn x = true \/ X.env.scope.names.lookup x = some .local:=by first | exact .inl rfl | exact .inr rfl) : SimG X (.Name x pos) (gaName i):=
  ⟨fun Γ Γ' σ H ρ p v Q G r e k=>⟨_,pg_name hN hi hx hf,by cases e; exact k _ (G.set r i)⟩⟩
def WGx (X : Cx) (tg : Expr) : TG:=fun v σ H Q=>∃ t,PG X tg t /\ t v σ H Q
theorem pg_x {tg : Expr} : PG X tg (WGx X tg):=fun pins s σ H v u Q I r ⟨t,h,q⟩=>h pins s σ H v u Q I r q
end
abbrev Wt:=List (Nat × Cell)
def wOk (w : Wt) (st : Store) : Prop:=∀ x ∈ w,st[x.1]? = some x.2
theorem wOk_nil (st : Store) : wOk [] st:=fun x h=>by cases h
structure Src (J : It) (items : List PV) (w : Wt) (H : Hp) (ρ : Tk) : Prop where
  stop : ∀ H2 ρ2 st2,Ext H ρ H2 ρ2 -> Rel H2 ρ2 st2 -> wOk w st2 -> J.stop items.length H2
  go : ∀ H2 ρ2 st2,Ext H ρ H2 ρ2 -> Rel H2 ρ2 st2 -> wOk w st2 -> ∀ i,i < items.length -> J.go i H2
  yld : ∀ H2 ρ2 st2,Ext H ρ H2 ρ2 -> Rel H2 ρ2 st2 -> wOk w st2 -> ∀ i p,items[i]? = some p -> ∀ x H3,J.yld i H2 x H3 -> Same H2 H3 /\ Rep H3 ρ2 p x
abbrev MI:=Gam -> Store -> Res (List PV × Wt)
structure SimI (X : Cx) (E : XK) (tg iter : Expr) (mi : MI) : Prop where
  run : ∀ (Γ : Gam) (σ : St) (H : Hp) (ρ : Tk) (st : Store) (P : List PV × Wt -> Store -> Hp -> Tk -> Prop) (R' : It -> Hp -> Prop),Rel H ρ st -> EnvR H ρ Γ σ -> Acc X.mg E H ρ P (mi Γ st) ->
    (∀ iw st1 H1 ρ1 J,mi Γ st = .ok iw st1 -> Ext H ρ H1 ρ1 -> Rel H1 ρ1 st1 -> EnvR H1 ρ1 Γ σ -> wOk iw.2 st1 -> iw.1.length <= sizeLine -> Src J iw.1 iw.2 H1 ρ1 -> P iw st1 H1 ρ1 -> R' J H1) -> WI X tg iter σ H R'
def srcOf (st : Store) : PV -> Option (List PV × Wt)
  | .tup xs=>some (xs,[])
  | .lst xs=>some (xs,[])
  | .fro xs=>some (xs,[])
  | .ref i=>match st[i]? with
    | some (.lst xs)=>some (xs,[(i,.lst xs)])
    | _=>none
  | _=>none
theorem src_at {K : PySem.W.Frag} {H : Hp} {ρ : Tk} {st : Store} {p : PV} {v : V} {xs : List PV} {w : Wt} (R : Rel H ρ st) (r : Rep H ρ p v) (e : srcOf st p = some (xs,w)) :
    wOk w st /\ ∃ (t : Bool) (a : Addr),v = .ref a /\ (t = true -> ∃ ys,p = .tup ys) /\ (t = false -> ∀ ys,p ≠ .tup ys) /\ ∀ H2 ρ2 st2,Ext H ρ H2 ρ2 -> Rel H2 ρ2 st2 -> wOk w st2 -> ∃ vs,SqK K t H2 a vs /\ RepL H2 ρ2 xs vs:=by
  cases p with
  | tup ys=>
    obtain ⟨a,vs,rfl,ha,na,ra⟩:=r
    cases e
    exact ⟨wOk_nil _,true,a,rfl,fun _=>⟨_,rfl⟩,(fun z=>by cases z),fun H2 ρ2 st2 x R2 _=>⟨vs,show SqT K H2 a vs from SqT.of (x.kp ha na),ra.ext x⟩⟩
  | lst ys=>
    obtain ⟨a,vs,rfl,ha,na,ra⟩:=r
    cases e
    exact ⟨wOk_nil _,false,a,rfl,(fun z=>by cases z),(fun _ _ z=>by cases z),fun H2 ρ2 st2 x R2 _=>⟨vs,show SqL K H2 a vs from SqL.of (x.kp ha na),ra.ext x⟩⟩
  | fro ys=>
    obtain ⟨a,vs,rfl,ha,na,ra⟩:=r
    cases e
    refine ⟨wOk_nil _,false,a,rfl,(fun z=>by cases z),(fun _ _ z=>by cases z),fun H2 ρ2 st2 x R2 _=>⟨vs,show SqL K H2 a vs from ?_,ra.ext x⟩⟩
    rcases ha with ha | ⟨o,ha⟩
    · exact .inl (.inl (x.kp ha na))
    · exact .inl (.inr ⟨o,x.kp ha na⟩)
  | ref i=>
    obtain ⟨a,ea,rfl⟩:=r
    simp only [srcOf] at e
    split at e
    · rename_i ys hs
      cases e
      refine ⟨fun x hx=>?_,false,a,rfl,(fun z=>by cases z),(fun _ _ z=>by cases z),fun H2 ρ2 st2 x R2 ok=>?_⟩
      · have : x = (i,.lst xs):=by simpa using hx
        subst this; exact hs
      · have hs2:=ok (i,.lst xs) (by simp)
        obtain ⟨b,vs,f1,f2,f3⟩:=R2.lst hs2
        obtain ⟨t,et⟩:=x.pre
        rw [<- et,List.getElem?_append_left (List.getElem?_eq_some_iff.mp ea).1,ea] at f1
        cases f1
        exact ⟨vs,show SqL K H2 a vs from SqL.of f2,f3⟩
    · cases e
  | _=>cases e
section
variable {X : Cx} {E : XK} {pos : Pos} {tg : Expr} {e : Expr} {m : ME}
def mSeq (m : ME) : MI:=fun Γ st=>(m Γ st).bind fun p st1=>match srcOf st1 p with
  | some (xs,w)=>if xs.length <= lim then .ok (xs,w) st1 else .stuck
  | none=>.stuck
theorem RepL.i {H : Hp} {ρ : Tk} {ps : List PV} {vs : List V} {i : Nat} {p : PV} {x : V} (r : RepL H ρ ps vs) (h : ps[i]? = some p) (h' : vs[i]? = some x) : Rep H ρ p x:=by
  obtain ⟨v,e,q⟩:=r.get h
  rw [h'] at e; cases e
  exact q
theorem src_seq {K : PySem.W.Frag} {H : Hp} {ρ : Tk} {t : Bool} {a : Addr} {xs : List PV} {w : Wt} (h : ∀ H2 ρ2 st2,Ext H ρ H2 ρ2 -> Rel H2 ρ2 st2 -> wOk w st2 -> ∃ vs,SqK K t H2 a vs /\ RepL H2 ρ2 xs vs) : Src (if t = true then Itt K a else Itl K a) xs w H ρ:=by
  cases t with
  | true=>
    rw [if_pos rfl]
    refine ⟨fun H2 ρ2 st2 x R ok=>?_,fun H2 ρ2 st2 x R ok i hi=>?_,fun H2 ρ2 st2 x R ok i p hp y H3 hy=>?_⟩
    · obtain ⟨vs,s,r⟩:=h H2 ρ2 st2 x R ok
      exact ⟨vs,s,by rw [r.length]; exact Nat.le_refl _⟩
    · obtain ⟨vs,s,r⟩:=h H2 ρ2 st2 x R ok
      have hi' : i < vs.length:=by rw [<- r.length]; exact hi
      exact ⟨vs,vs[i],s,List.getElem?_eq_getElem hi'⟩
    · obtain ⟨vs,s,r⟩:=h H2 ρ2 st2 x R ok
      obtain ⟨rfl,hv⟩:=hy
      exact ⟨Same.refl _,r.i hp (hv vs s)⟩
  | false=>
    rw [if_neg Bool.false_ne_true]
    refine ⟨fun H2 ρ2 st2 x R ok=>?_,fun H2 ρ2 st2 x R ok i hi=>?_,fun H2 ρ2 st2 x R ok i p hp y H3 hy=>?_⟩
    · obtain ⟨vs,s,r⟩:=h H2 ρ2 st2 x R ok
      exact ⟨vs,s,by rw [r.length]; exact Nat.le_refl _⟩
    · obtain ⟨vs,s,r⟩:=h H2 ρ2 st2 x R ok
      have hi' : i < vs.length:=by rw [<- r.length]; exact hi
      exact ⟨vs,vs[i],s,List.getElem?_eq_getElem hi'⟩
    · obtain ⟨vs,s,r⟩:=h H2 ρ2 st2 x R ok
      obtain ⟨rfl,hv⟩:=hy
      exact ⟨Same.refl _,r.i hp (hv vs s)⟩
theorem mSeq_in {mg : Str -> Option Value} {H : Hp} {ρ : Tk} {st : Store} {p : PV} {P : List PV × Wt -> Store -> Hp -> Tk -> Prop} (R : Rel H ρ st) (h : Acc mg E H ρ P (match srcOf st p with | some (xs,w)=>if xs.length <= lim then .ok (xs,w) st else .stuck | none=>.stuck)) :
    ∃ xs w,srcOf st p = some (xs,w) /\ xs.length <= lim /\ P (xs,w) st H ρ:=by
  split at h
  · rename_i xs w e
    split at h
    · rename_i hl
      exact ⟨xs,w,e,hl,h H ρ (Ext.refl _ _) R⟩
    · exact h.elim
  · exact h.elim
theorem si_seq (ha : SimE X E e m) : SimI X E tg e (mSeq m):=⟨fun Γ σ H ρ st P R' R G h k=>by
  have hb : Acc X.mg E H ρ _ (m Γ st):=Acc.bind h
  by_cases ht : ∃ ys st1,m Γ st = .ok (.tup ys) st1
  · obtain ⟨ys,st0,e0⟩:=ht
    refine WI.of (pi_tup pe_w) (ha.use' R G hb fun p st1 H1 ρ1 v eq x1 R1 G1 r1 h1=>?_)
    obtain ⟨xs,w,e,hl,hP⟩:=mSeq_in R1 h1
    obtain ⟨ok,t,a,rfl,t1,t2,sq⟩:=src_at (K:=X.K) R1 r1 e
    have ep : p = .tup ys:=by rw [eq] at e0; injection e0
    cases t with
    | false=>exact absurd ep (t2 rfl ys)
    | true=>
      obtain ⟨vs,s,_⟩:=sq H1 ρ1 st1 (Ext.refl _ _) R1 ok
      exact ⟨a,rfl,⟨vs,s⟩,k (xs,w) st1 H1 ρ1 _ (by simp only [mSeq,eq,Res.bind,e,if_pos hl]) x1 R1 G1 ok (le_lim hl) (src_seq sq) hP⟩
  · refine WI.of (pi_list pe_w) (ha.use' R G hb fun p st1 H1 ρ1 v eq x1 R1 G1 r1 h1=>?_)
    obtain ⟨xs,w,e,hl,hP⟩:=mSeq_in R1 h1
    obtain ⟨ok,t,a,rfl,t1,t2,sq⟩:=src_at (K:=X.K) R1 r1 e
    cases t with
    | true=>
      obtain ⟨ys,rfl⟩:=t1 rfl
      exact absurd ⟨ys,st1,eq⟩ ht
    | false=>
      obtain ⟨vs,s,_⟩:=sq H1 ρ1 st1 (Ext.refl _ _) R1 ok
      exact ⟨a,rfl,⟨vs,s⟩,k (xs,w) st1 H1 ρ1 _ (by simp only [mSeq,eq,Res.bind,e,if_pos hl]) x1 R1 G1 ok (le_lim hl) (src_seq sq) hP⟩⟩
def rangeI (lo : Int) (n : Nat) : List PV:=(List.range n).map fun (k : Nat)=>PV.int (lo + (k : Int))
theorem src_range {H : Hp} {ρ : Tk} {lo : Int} {n : Nat} : Src (Itr lo n) (rangeI lo n) [] H ρ:=by
  have hl : (rangeI lo n).length = n:=by unfold rangeI; rw [List.length_map,List.length_range]
  refine ⟨fun H2 ρ2 st2 x R ok=>?_,fun H2 ρ2 st2 x R ok i hi=>?_,fun H2 ρ2 st2 x R ok i p hp y H3 hy=>?_⟩
  · show n <= (rangeI lo n).length
    omega
  · show i < n
    omega
  · obtain ⟨rfl,rfl⟩:=hy
    have hi : i < n:=by rw [<- hl]; exact (List.getElem?_eq_some_iff.mp hp).1
    unfold rangeI at hp
    rw [List.getElem?_map,List.getElem?_range hi] at hp
    cases hp
    exact ⟨Same.refl _,rfl⟩
def mRange1 (mr : Gam -> Store -> Res (List PV)) : MI:=fun Γ st=>(mr Γ st).bind fun ps st1=>match ps with
  | [.int j]=>if -(lim : Int) <= j /\ j <= lim then .ok (rangeI 0 j.toNat,[]) st1 else .stuck
  | _=>.stuck
def mRange2 (mr : Gam -> Store -> Res (List PV)) : MI:=fun Γ st=>(mr Γ st).bind fun ps st1=>match ps with
  | [.int i,.int j]=>if -(lim : Int) <= i /\ i <= lim /\ -(lim : Int) <= j /\ j <= lim then .ok (rangeI i (j - i).toNat,[]) st1 else .stuck
  | _=>.stuck
variable {a b : Expr} {mr : Gam -> Store -> Res (List PV)} {p : Pos}
theorem rangeI_len (lo : Int) (n : Nat) : (rangeI lo n).length = n:=by unfold rangeI; rw [List.length_map,List.length_range]
theorem si_range1 (hg : Gl X "range") (hm : X.mg "range" = none) (ha : SimA X E [a] mr) (hs : starEach [a] X.env = [(false,eval a X.env)]:=by rfl) : SimI X E tg (.Call (.Name "range" p) [a] [] pos) (mRange1 mr):=⟨fun Γ σ H ρ st P R' R G h k=>by
  refine WI.of (pi_range1 hg hm pa_w hs) (ha.use' R G h.bind fun ps st1 H1 ρ1 vs eq x1 R1 G1 r1 h1=>?_)
  split at h1
  · rename_i j
    split at h1
    · rename_i hj
      obtain ⟨v,rfl,rv⟩:=repL_one r1
      cases rv
      have hl : (lim : Int) = 1000000:=rfl
      refine ⟨j,rfl,by omega,by omega,k (rangeI 0 j.toNat,[]) st1 H1 ρ1 _ (by simp only [mRange1,eq,Res.bind,if_pos hj]) x1 R1 G1 (wOk_nil _) ?_ src_range (h1 H1 ρ1 (Ext.refl _ _) R1)⟩
      show (rangeI 0 j.toNat).length <= sizeLine
      rw [rangeI_len]
      exact le_lim (by omega)
    · exact h1.elim
  · exact h1.elim⟩
theorem si_range2 (hg : Gl X "range") (hm : X.mg "range" = none) (ha : SimA X E [a,b] mr) (hs : starEach [a,b] X.env = [(false,eval a X.env),(false,eval b X.env)]:=by rfl) (hs2 : starEach [b] X.env = [(false,eval b X.env)]:=by rfl) : SimI X E tg (.Call (.Name "range" p) [a,b] [] pos) (mRange2 mr):=⟨fun Γ σ H ρ st P R' R G h k=>by
  refine WI.of (pi_range2 hg hm pa_w hs hs2) (ha.use' R G h.bind fun ps st1 H1 ρ1 vs eq x1 R1 G1 r1 h1=>?_)
  split at h1
  · rename_i i j
    split at h1
    · rename_i hj
      obtain ⟨v,u,rfl,rv,ru⟩:=repL_two r1
      cases rv; cases ru
      have hl : (lim : Int) = 1000000:=rfl
      refine ⟨i,j,rfl,⟨by omega,by omega,by omega,by omega⟩,k (rangeI i (j - i).toNat,[]) st1 H1 ρ1 _ (by simp only [mRange2,eq,Res.bind,if_pos hj]) x1 R1 G1 (wOk_nil _) ?_ src_range (h1 H1 ρ1 (Ext.refl _ _) R1)⟩
      show (rangeI i (j - i).toNat).length <= sizeLine
      rw [rangeI_len]
      exact Nat.le_trans (show (j - i).toNat <= 2000000 by omega) (by decide)
    · exact h1.elim
  · exact h1.elim⟩
end
end Sm
namespace Sm
open PySem PySem.Spec L2
abbrev ML:=Gam -> Store -> Res (List PV)
structure SimN (X : Cx) (E : XK) (e : Expr) (m : ML) : Prop where
  run : ∀ (Γ : Gam) (σ : St) (H : Hp) (ρ : Tk) (st : Store) (P : List PV -> Store -> Hp -> Tk -> Prop) (Q : VK),Rel H ρ st -> EnvR H ρ Γ σ -> Acc X.mg E H ρ P (m Γ st) ->
    (∀ ps st1 H1 ρ1 a vs,m Γ st = .ok ps st1 -> Ext H ρ H1 ρ1 -> Rel H1 ρ1 st1 -> a ∈ ρ1.hid -> H a = none -> H1 a = some (.lst vs) -> RepL H1 ρ1 ps vs -> Q (.ref a) H1) -> WE X e σ H Q
def mVal (m : ML) : ME:=fun Γ st=>(m Γ st).bind fun ps st1=>.ok (.lst ps) st1
def mTrk (m : ML) : ME:=fun Γ st=>(m Γ st).bind fun ps st1=>.ok (.ref st1.length) (st1 ++ [.lst ps])
section
variable {H0 H : Hp} {ρ0 ρ : Tk} {st : Store} {a : Addr} {ps : List PV} {vs : List V}
theorem out_val (R0 : Rel H0 ρ0 st) (x : Ext H0 ρ0 H ρ) {st1 : Store} (R : Rel H ρ st1) (hm : a ∈ ρ.hid) (hn : H0 a = none) (ha : H a = some (.lst vs)) (r : RepL H ρ ps vs) :
    Ext H0 ρ0 H ⟨ρ.tr,ρ0.hid⟩ /\ Rel H ⟨ρ.tr,ρ0.hid⟩ st1 /\ Rep H ⟨ρ.tr,ρ0.hid⟩ (.lst ps) (.ref a):=
  ⟨x.unhide,R.unhide x.hidM,a,vs,rfl,ha,(fun z=>by
    rcases z with z | z
    · exact R.ap a hm z
    · obtain ⟨o,e,_⟩:=R0.hd a z
      rw [hn] at e; cases e),r.unhide x.hidM⟩
mutual
theorem Rep.trk {b : Addr} {hs : List Addr} (hb : b ∈ ρ.hid) (hh : ∀ c,c ∈ hs -> c ∈ ρ.hid) : ∀ {p : PV} {v : V},Rep H ρ p v -> Rep H ⟨ρ.tr ++ [b],hs⟩ p v
  | .non,_,r=>r
  | .bl _,_,r=>r
  | .int _,_,r=>r
  | .str _,_,r=>r
  | .tup ps,v,⟨c,vs,e,s,n,r⟩=>⟨c,vs,e,s,fun z=>by
      rcases z with z | z
      · rcases List.mem_append.mp z with z | z
        · exact n (.inl z)
        · have : c = b:=by simpa using z
          subst this; exact n (.inr hb)
      · exact n (.inr (hh _ z)),RepL.trk hb hh r⟩
  | .lst ps,v,⟨c,vs,e,s,n,r⟩=>⟨c,vs,e,s,fun z=>by
      rcases z with z | z
      · rcases List.mem_append.mp z with z | z
        · exact n (.inl z)
        · have : c = b:=by simpa using z
          subst this; exact n (.inr hb)
      · exact n (.inr (hh _ z)),RepL.trk hb hh r⟩
  | .fro ps,v,⟨c,vs,e,s,n,r⟩=>⟨c,vs,e,s,fun z=>by
      rcases z with z | z
      · rcases List.mem_append.mp z with z | z
        · exact n (.inl z)
        · have : c = b:=by simpa using z
          subst this; exact n (.inr hb)
      · exact n (.inr (hh _ z)),RepL.trk hb hh r⟩
  | .ref i,v,⟨c,e,e2⟩=>⟨c,by show (ρ.tr ++ [b])[i]? = some c; rw [List.getElem?_append_left (List.getElem?_eq_some_iff.mp e).1]; exact e,e2⟩
  | .dic,v,⟨c,e,s,n⟩=>⟨c,e,s,fun z=>by
      rcases z with z | z
      · rcases List.mem_append.mp z with z | z
        · exact n (.inl z)
        · have : c = b:=by simpa using z
          subst this; exact n (.inr hb)
      · exact n (.inr (hh _ z))⟩
theorem RepL.trk {b : Addr} {hs : List Addr} (hb : b ∈ ρ.hid) (hh : ∀ c,c ∈ hs -> c ∈ ρ.hid) : ∀ {ps : List PV} {vs : List V},RepL H ρ ps vs -> RepL H ⟨ρ.tr ++ [b],hs⟩ ps vs
  | [],_,r=>r
  | p :: ps,_,⟨v,t,e,r1,r2⟩=>⟨v,t,e,Rep.trk hb hh r1,RepL.trk hb hh r2⟩
end
theorem out_trk (R0 : Rel H0 ρ0 st) (x : Ext H0 ρ0 H ρ) {st1 : Store} (R : Rel H ρ st1) (hm : a ∈ ρ.hid) (hn : H0 a = none) (ha : H a = some (.lst vs)) (r : RepL H ρ ps vs) :
    Ext H0 ρ0 H ⟨ρ.tr ++ [a],ρ0.hid⟩ /\ Rel H ⟨ρ.tr ++ [a],ρ0.hid⟩ (st1 ++ [.lst ps]) /\ Rep H ⟨ρ.tr ++ [a],ρ0.hid⟩ (.ref st1.length) (.ref a):=by
  have na0 : a ∉ ρ0.hid:=fun z=>by
    obtain ⟨o,e,_⟩:=R0.hd a z
    rw [hn] at e; cases e
  refine ⟨⟨x.pre.trans (List.prefix_append _ _),fun _ h=>h,fun _ h=>.inl h,x.keep,fun b hb=>?_,x.old,x.frz⟩,⟨?_,?_,fun b hb=>R.hd b (x.hidM b hb),fun b hb z=>?_,fun i b c h1 h2=>?_⟩,a,?_,rfl⟩
  · rcases List.mem_append.mp hb with z | z
    · exact x.new b z
    · have : b = a:=by simpa using z
      subst this; exact .inr hn
  · show (ρ.tr ++ [a]).length = _
    rw [List.length_append,List.length_append,R.len]; rfl
  · show (ρ.tr ++ [a]).Nodup
    refine List.nodup_append.mpr ⟨R.nd,by simp,fun b hb c hc e=>?_⟩
    have : c = a:=by simpa using hc
    subst this; subst e
    exact R.ap b hm hb
  · rcases List.mem_append.mp z with z | z
    · exact R.ap b (x.hidM b hb) z
    · have : b = a:=by simpa using z
      subst this; exact na0 hb
  · have h1 : (ρ.tr ++ [a])[i]? = some b:=h1
    by_cases hi : i < st1.length
    · rw [List.getElem?_append_left (by rw [R.len]; exact hi)] at h1
      rw [List.getElem?_append_left hi] at h2
      have q:=R.cell i b c h1 h2
      cases c with
      | lst qs=>
        obtain ⟨us,e1,e2⟩:=q
        exact ⟨us,e1,e2.trk hm x.hidM⟩
      | dic qs=>
        obtain ⟨us,e1,e2⟩:=q
        exact ⟨us,e1,e2.1,e2.2.trk hm x.hidM⟩
      | dtp qs=>
        obtain ⟨us,e1,e2⟩:=q
        exact ⟨us,e1,e2.1,e2.2.trk hm x.hidM⟩
      | frd qs=>
        obtain ⟨us,e1,e2⟩:=q
        exact ⟨us,e1,e2.1,e2.2.trk hm x.hidM⟩
      | obj C qs=>
        obtain ⟨us,e1,e2⟩:=q
        exact ⟨us,e1,e2.1,e2.2.trk hm x.hidM⟩
    · rw [List.getElem?_append_right (by rw [R.len]; omega)] at h1
      rw [List.getElem?_append_right (by omega)] at h2
      have e0 : i - st1.length = 0:=by
        rcases Nat.eq_zero_or_pos (i - st1.length) with z | z
        · exact z
        · rw [List.getElem?_eq_none (by simp; omega)] at h2; cases h2
      rw [R.len,e0] at h1
      rw [e0] at h2
      simp at h1 h2
      subst h1; subst h2
      exact ⟨vs,ha,r.trk hm x.hidM⟩
  · show (ρ.tr ++ [a])[st1.length]? = some a
    rw [<- R.len,List.getElem?_append_right (Nat.le_refl _),Nat.sub_self]; rfl
end
section
variable {X : Cx} {E : XK} {pos : Pos} {e : Expr} {m : ML}
theorem se_val (h : SimN X E e m) : SimE X E e (mVal m):=⟨fun Γ σ H ρ st Q R G hq=>h.run Γ σ H ρ st _ Q R G hq.bind fun ps st1 H1 ρ1 a vs eq x R1 hm hn ha r=>by
  obtain ⟨x2,R2,r2⟩:=out_val R x R1 hm hn ha r
  unfold mVal at hq
  rw [eq] at hq
  exact hq _ _ x2 R2 _ r2⟩
theorem se_trk (h : SimN X E e m) : SimE X E e (mTrk m):=⟨fun Γ σ H ρ st Q R G hq=>h.run Γ σ H ρ st _ Q R G hq.bind fun ps st1 H1 ρ1 a vs eq x R1 hm hn ha r=>by
  obtain ⟨x2,R2,r2⟩:=out_trk R x R1 hm hn ha r
  unfold mTrk at hq
  rw [eq] at hq
  exact hq _ _ x2 R2 _ r2⟩
variable {es : List Expr} {mr : Gam -> Store -> Res (List PV)} {a b : Expr} {ma mb : ME}
theorem new_at {H1 : Hp} {ρ1 : Tk} {st1 : Store} {H : Hp} {ρ : Tk} {Q : VK} {ps : List PV} {vs : List V} (x : Ext H ρ H1 ρ1) (R1 : Rel H1 ρ1 st1) (r : RepL H1 ρ1 ps vs)
    (k : ∀ H1 ρ1 a vs,Ext H ρ H1 ρ1 -> Rel H1 ρ1 st1 -> a ∈ ρ1.hid -> H a = none -> H1 a = some (.lst vs) -> RepL H1 ρ1 ps vs -> Q (.ref a) H1) : ∀ p,H1 p = none -> Q (.ref p) (upd H1 p (.lst vs)):=fun p hp=>by
  refine k _ (ρ1.hide p) p vs (x.trans (Ext.hide hp)) (R1.hide hp) List.mem_cons_self ?_ upd_same (r.hide hp)
  cases e : H p with
  | none=>rfl
  | some o=>
    obtain ⟨o',e'⟩:=x.old p o e
    rw [hp] at e'; cases e'
def mLstN (mr : Gam -> Store -> Res (List PV)) : ML:=fun Γ st=>(mr Γ st).bind fun ps st1=>if ps.length <= lim then .ok ps st1 else .stuck
theorem sn_lst (h : SimA X E es mr) : SimN X E (.List es pos) (mLstN mr):=
  ⟨fun Γ σ H ρ st P Q R G hq k=>WE.of (pe_lst pa_w) (h.use' R G hq.bind fun ps st1 H1 ρ1 vs eq x1 R1 G1 r1 h1=>by
    by_cases hl : ps.length <= lim
    · refine ⟨by rw [<- r1.length]; exact le_lim hl,new_at x1 R1 r1 fun H2 ρ2 a us=>k ps st1 H2 ρ2 a us ?_⟩
      unfold mLstN
      rw [eq]
      exact if_pos hl
    · rw [if_neg hl] at h1; exact h1.elim)⟩
end
end Sm
namespace Sm
open PySem PySem.Spec L2
def capG (cap : List (Option Nat)) (Γ : Gam) : Gam:=cap.map fun c=>c.bind fun j=>(Γ[j]?).join
theorem EnvR.cap {H : Hp} {ρ : Tk} {Γ : Gam} {σ : St} (h : EnvR H ρ Γ σ) (cap : List (Option Nat)) : EnvR H ρ (capG cap Γ) (capOf cap σ):=by
  refine ⟨by unfold capG capOf; rw [List.length_map,List.length_map],fun i p e=>?_⟩
  unfold capG at e
  unfold capOf
  rw [List.getElem?_map] at e ⊢
  cases q : cap[i]? with
  | none=>rw [q] at e; cases e
  | some c=>
    rw [q] at e
    cases c with
    | none=>cases e
    | some j=>
      have e' : (Γ[j]?).join = some p:=Option.some.inj e
      cases r : Γ[j]? with
      | none=>rw [r] at e'; cases e'
      | some o=>
        rw [r] at e'
        have : o = some p:=e'
        subst this
        obtain ⟨v,e1,e2⟩:=h.2 j p r
        exact ⟨v,by show some ((σ[j]?).join) = some (some v); rw [e1]; rfl,e2⟩
def FreeT (cap : List (Option Nat)) (ga : GA) : Prop:=∀ Γ p Γ1,ga p (capG cap Γ) = some Γ1 -> Γ1.length = (capG cap Γ).length /\ ∀ (i : Nat) (q : PV),(capG cap Γ)[i]? = some (some q) -> Γ1[i]? = some (some q)
theorem capG_none {cap : List (Option Nat)} {i : Nat} (h : cap[i]? = some none) (Γ : Gam) : (capG cap Γ)[i]? = some none:=by
  unfold capG
  rw [List.getElem?_map,h]; rfl
theorem free_name {cap : List (Option Nat)} {i : Nat} (h : cap[i]? = some none:=by rfl) : FreeT cap (gaName i):=fun Γ p Γ1 e=>by
  cases e
  refine ⟨List.length_set ..,fun j q hj=>?_⟩
  rw [List.getElem?_set_ne fun z=>?_]
  · exact hj
  · subst z; rw [capG_none h] at hj; cases hj
open Classical in
def compG (ga : GA) (mt : MT) (me : ME) (w : Wt) (Γ0 : Gam) : List PV -> Store -> Res (List PV)
  | [],st=>if wOk w st then .ok [] st else .stuck
  | x :: xs,st=>if wOk w st then (match ga x Γ0 with
    | none=>.stuck
    | some Γ1=>(mt Γ1 st).bind fun b st1=>if b = true then (me Γ1 st1).bind fun y st2=>(compG ga mt me w Γ0 xs st2).bind fun ys st3=>.ok (y :: ys) st3 else compG ga mt me w Γ0 xs st1) else .stuck
def noX {α : Type} : Res α -> Res α
  | .exc _ _=>.stuck
  | r=>r
def mCompN (cap : List (Option Nat)) (ga : GA) (mi : MI) (mt : MT) (me : ME) : ML:=fun Γ st=>(mi Γ st).bind fun iw st1=>noX (compG ga mt me iw.2 (capG cap Γ) iw.1 st1)
structure SimTs (X : Cx) (ifs : List Expr) (m : MT) : Prop where
  run : ∀ (Γ : Gam) (σ : St) (H : Hp) (ρ : Tk) (st : Store) (P : Bool -> Store -> Hp -> Tk -> Prop) (Q : Bool -> Hp -> Prop),Rel H ρ st -> EnvR H ρ Γ σ -> Acc X.mg E0 H ρ P (m Γ st) ->
    (∀ b st1 H1 ρ1,m Γ st = .ok b st1 -> Ext H ρ H1 ρ1 -> Rel H1 ρ1 st1 -> EnvR H1 ρ1 Γ σ -> Q b H1) -> ∃ t,PTs X ifs t /\ t σ H Q
def mTrue : MT:=fun _ st=>.ok true st
theorem sts_nil {X : Cx} : SimTs X [] mTrue:=⟨fun Γ σ H ρ st P Q R G h k=>⟨_,pts_nil,k true st H ρ rfl (Ext.refl _ _) R G⟩⟩
theorem acc_noX {α : Type} {mg : Str -> Option Value} {E E' : XK} {H : Hp} {ρ : Tk} {P : α -> Store -> Hp -> Tk -> Prop} {r : Res α} (h : Acc mg E H ρ P (noX r)) : Acc mg E' H ρ P r:=by
  cases r with
  | ok a st=>exact h
  | exc x st=>exact h.elim
  | stuck=>exact h
theorem Res.assoc {α β γ : Type} (r : Res α) (f : α -> Store -> Res β) (g : β -> Store -> Res γ) : (r.bind f).bind g = r.bind fun a st=>(f a st).bind g:=by cases r <;> rfl
theorem Acc.assoc {α β γ : Type} {mg : Str -> Option Value} {E : XK} {H : Hp} {ρ : Tk} {P : γ -> Store -> Hp -> Tk -> Prop} {r : Res α} {f : α -> Store -> Res β} {g : β -> Store -> Res γ} (h : Acc mg E H ρ P ((r.bind f).bind g)) : Acc mg E H ρ P (r.bind fun a st=>(f a st).bind g):=by
  rw [<- Res.assoc]; exact h
theorem EnvR.le {H : Hp} {ρ : Tk} {Γ Γ' : Gam} {σ : St} (h : EnvR H ρ Γ' σ) (hl : Γ.length = σ.length) (k : ∀ (i : Nat) (q : PV),Γ[i]? = some (some q) -> Γ'[i]? = some (some q)) : EnvR H ρ Γ σ:=⟨hl,fun i p e=>h.2 i p (k i p e)⟩
section
variable {X : Cx} {E : XK} {pos : Pos} {tg iter elt : Expr} {ifs : List Expr} {N N' : List Str} {sc scE : Scope} {cap : List (Option Nat)} {ga : GA} {mi : MI} {mt : MT} {me : ME}
def aE (X : Cx) (N' : List Str) (sc : Scope) (e : Expr) : TE:=fun σ H Q=>∀ cl C s0 H0 ex,WE (blkC X N' sc cl C s0 H0 ex) e σ H Q
def aG (X : Cx) (N' : List Str) (sc : Scope) (tg : Expr) : TG:=fun v σ H Q=>∀ cl C s0 H0 ex,WGx (blkC X N' sc cl C s0 H0 ex) tg v σ H Q
def aT (X : Cx) (N' : List Str) (sc : Scope) (ifs : List Expr) : TT:=fun σ H Q=>∀ cl C s0 H0 ex,∃ t,PTs (blkC X N' sc cl C s0 H0 ex) ifs t /\ t σ H Q
theorem comp_body {Γ : Gam} {σ : St} {H1 : Hp} {ρ1 : Tk} {st1 : Store} {J : It} {items : List PV} {w : Wt} {Q : VK} {P : List PV -> Store -> Hp -> Tk -> Prop} (hg : ∀ cl C s0 H0 ex,SimG (blkC X N' sc cl C s0 H0 ex) tg ga) (he : ∀ cl C s0 H0 ex,SimE (blkC X N' sc cl C s0 H0 ex) E0 elt me) (ht : ∀ cl C s0 H0 ex,SimTs (blkC X N' sc cl C s0 H0 ex) ifs mt)
    (hf : FreeT cap ga) (R1 : Rel H1 ρ1 st1) (G1 : EnvR H1 ρ1 Γ σ) (src : Src J items w H1 ρ1) (hlen : items.length <= sizeLine) (h : Acc X.mg E0 H1 ρ1 P (compG ga mt me w (capG cap Γ) items st1))
    (k : ∀ ys st2 H2 ρ2 acc vs,compG ga mt me w (capG cap Γ) items st1 = .ok ys st2 -> Ext H1 ρ1 H2 ρ2 -> Rel H2 ρ2 st2 -> acc ∈ ρ2.hid -> H1 acc = none -> H2 acc = some (.lst vs) -> RepL H2 ρ2 ys vs -> Q (.ref acc) H2) : compBodyT J cap (aG X N' sc tg) (aT X N' sc ifs) (aE X N' sc elt) σ H1 Q:=by
  intro acc hacc
  let W : Nat -> Nat -> List V -> St -> Hp -> Prop:=fun i m vs σ' H'=>m = items.length - i /\ i <= items.length /\ vs.length <= i /\ ∃ ρ' st' ys,Ext H1 ρ1 H' ρ' /\ acc ∈ ρ'.hid /\ Rel H' ρ' st' /\ EnvR H' ρ' (capG cap Γ) σ' /\ H' acc = some (.lst vs) /\ RepL H' ρ' ys vs /\
    compG ga mt me w (capG cap Γ) items st1 = (compG ga mt me w (capG cap Γ) (items.drop i) st').bind fun zs st3=>.ok (ys ++ zs) st3
  refine ⟨W,⟨_,rfl,Nat.zero_le _,Nat.le_refl _,ρ1.hide acc,st1,[],Ext.hide hacc,List.mem_cons_self,R1.hide hacc,(G1.cap cap).hide hacc,upd_same,rfl,?_⟩,?_⟩
  · rw [List.drop_zero]
    cases r : compG ga mt me w (capG cap Γ) items st1 with
    | ok zs st3=>rfl
    | exc x st3=>rfl
    | stuck=>rfl
  rintro i m vs σ' H' ⟨hm,hi,hvl,ρ',st',ys,x,hmem,R',G',ha,ry,hq⟩
  have hA : Acc X.mg E0 H1 ρ1 P ((compG ga mt me w (capG cap Γ) (items.drop i) st').bind fun zs st3=>.ok (ys ++ zs) st3):=by rw [<- hq]; exact h
  refine ⟨ha,?_⟩
  by_cases hlt : i < items.length
  · right
    have hd : items.drop i = items[i] :: items.drop (i + 1):=List.drop_eq_getElem_cons hlt
    rw [hd,compG] at hA hq
    by_cases hw : wOk w st'
    · rw [if_pos hw] at hA hq
      refine ⟨src.go H' _ st' x R' hw i hlt,by omega,fun y H2 hy=>?_⟩
      obtain ⟨sm,ry2⟩:=src.yld H' _ st' x R' hw i _ (List.getElem?_eq_getElem hlt) y H2 hy
      cases eg : ga items[i] (capG cap Γ) with
      | none=>rw [eg] at hA; exact hA.elim
      | some Γ1=>
        rw [eg] at hA hq
        have x2 : Ext H' ρ' H2 ρ':=Ext.same sm
        have R2:=R'.same sm
        intro cl C s0 H0 ex
        refine (hg cl C s0 H0 ex).run (capG cap Γ) Γ1 σ' H2 ρ' _ y _ (G'.ext x2) ry2 eg fun σ3 G3=>?_
        intro cl C s0 H0 ex
        have hA2:=Acc.later hA (x.trans x2)
        refine (ht cl C s0 H0 ex).run Γ1 σ3 H2 ρ' st' _ _ R2 G3 (Acc.bind (Acc.assoc hA2)) fun b st4 H4 ρ4 e4 x4 R4 G4=>?_
        simp only [e4,Res.bind] at hA hq
        have G0 : ∀ {H'' : Hp} {ρ'' : Tk},EnvR H'' ρ'' Γ1 σ3 -> EnvR H'' ρ'' (capG cap Γ) σ3:=fun {H'' ρ''} g=>g.le (by
          rw [<- G3.1]
          exact (hf Γ _ Γ1 eg).1.symm) (hf Γ _ Γ1 eg).2
        have x14 : Ext H1 ρ1 H4 ρ4:=x.trans (x2.trans x4)
        have hm4 : acc ∈ ρ4.hid:=x4.hidM acc hmem
        have na : acc ∉ ρ'.tr:=R'.ap acc hmem
        have ha4 : H4 acc = some (.lst vs):=x4.keep acc _ (sm acc _ ha) na
        have ry4 : RepL H4 ρ4 ys vs:=ry.ext (x2.trans x4)
        cases b with
        | false=>
          rw [if_neg Bool.false_ne_true] at hA hq ⊢
          exact ⟨_,show items.length - (i + 1) < m by omega,rfl,hlt,by omega,ρ4,st4,ys,x14,hm4,R4,G0 G4,ha4,ry4,hq⟩
        | true=>
          rw [if_pos rfl] at hA hq ⊢
          intro cl C s0 H0 ex
          have hA4:=Acc.later hA x14
          refine (he cl C s0 H0 ex).use' R4 G4 (Acc.bind (Acc.assoc hA4)) fun z st5 H5 ρ5 zv e5 x5 R5 G5 r5 h5=>?_
          simp only [e5,Res.bind] at hA hq
          have hm5 : acc ∈ ρ5.hid:=x5.hidM acc hm4
          have ha5 : H5 acc = some (.lst vs):=x5.keep acc _ ha4 (R4.ap acc hm4)
          have x15 : Ext H1 ρ1 H5 ρ5:=x14.trans x5
          refine ⟨ha5,_,show items.length - (i + 1) < m by omega,rfl,hlt,by rw [List.length_append]; simp; omega,ρ5,st5,ys ++ [z],x15.put0 hacc,hm5,R5.rehide hm5,(G0 G5).rehide hm5,upd_same,((ry4.ext x5).append (RepL.cons r5 RepL.nil)).rehide hm5,?_⟩
          refine hq.trans ?_
          cases rr : compG ga mt me w (capG cap Γ) (items.drop (i + 1)) st5 with
          | ok zs st6=>
            show Res.ok (ys ++ z :: zs) st6 = Res.ok ((ys ++ [z]) ++ zs) st6
            rw [List.append_assoc]; rfl
          | exc x6 st6=>rfl
          | stuck=>rfl
    · rw [if_neg hw] at hA; exact hA.elim
  · left
    have ei : i = items.length:=by omega
    subst ei
    rw [List.drop_length,compG] at hA hq
    by_cases hw : wOk w st'
    · rw [if_pos hw] at hA hq
      refine ⟨src.stop H' _ st' x R' hw,?_⟩
      have hq : compG ga mt me w (capG cap Γ) items st1 = .ok (ys ++ []) st':=hq
      rw [List.append_nil] at hq
      exact k ys st' H' ρ' acc vs hq x R' hmem hacc ha ry
    · rw [if_neg hw] at hA; exact hA.elim
theorem comp_run {Γ : Gam} {σ : St} {H : Hp} {ρ : Tk} {st : Store} {Q : VK} {P : List PV -> Store -> Hp -> Tk -> Prop} (hi : SimI X E tg iter mi) (hg : ∀ cl C s0 H0 ex,SimG (blkC X N' sc cl C s0 H0 ex) tg ga) (he : ∀ cl C s0 H0 ex,SimE (blkC X N' sc cl C s0 H0 ex) E0 elt me) (ht : ∀ cl C s0 H0 ex,SimTs (blkC X N' sc cl C s0 H0 ex) ifs mt)
    (hf : FreeT cap ga) (R : Rel H ρ st) (G : EnvR H ρ Γ σ) (h : Acc X.mg E H ρ P (mCompN cap ga mi mt me Γ st)) (k : ∀ ps st2 H2 ρ2 a vs,mCompN cap ga mi mt me Γ st = .ok ps st2 -> Ext H ρ H2 ρ2 -> Rel H2 ρ2 st2 -> a ∈ ρ2.hid -> H a = none -> H2 a = some (.lst vs) -> RepL H2 ρ2 ps vs -> Q (.ref a) H2) : tCompT cap (WI X tg iter) (aG X N' sc tg) (aT X N' sc ifs) (aE X N' sc elt) σ H Q:=by
  refine hi.run Γ σ H ρ st _ _ R G h.bind fun iw st1 H1 ρ1 J eq x1 R1 G1 ok hl src h1=>?_
  refine comp_body hg he ht hf R1 G1 src hl (acc_noX (E':=E0) h1) fun ys st2 H2 ρ2 acc vs eq2 x2 R2 hm hn ha ry=>?_
  refine k ys st2 H2 ρ2 acc vs ?_ (x1.trans x2) R2 hm ?_ ha ry
  · unfold mCompN
    rw [eq]
    show noX _ = _
    rw [eq2]; rfl
  cases e : H acc with
  | none=>rfl
  | some o=>
    obtain ⟨o',e'⟩:=x1.old acc o e
    rw [hn] at e'; cases e'
theorem pg_a {N' : List Str} {sc : Scope} {tg : Expr} : ∀ cl C s0 H0 ex,PG (blkC X N' sc cl C s0 H0 ex) tg (aG X N' sc tg):=fun cl C s0 H0 ex pins s σ H v u Q I r h=>pg_x pins s σ H v u Q I r (h cl C s0 H0 ex)
theorem pe_a {N' : List Str} {sc : Scope} {e : Expr} : ∀ cl C s0 H0 ex,PE (blkC X N' sc cl C s0 H0 ex) e (aE X N' sc e):=fun cl C s0 H0 ex pins s σ H Q I h=>h cl C s0 H0 ex pins s I
theorem pts_a {N' : List Str} {sc : Scope} {ifs : List Expr} : ∀ cl C s0 H0 ex,PTs (blkC X N' sc cl C s0 H0 ex) ifs (aT X N' sc ifs):=fun cl C s0 H0 ex pins s σ H Q I h=>by
  obtain ⟨t,a,b⟩:=h cl C s0 H0 ex
  exact a pins s σ H Q I b
theorem sn_comp (cap : List (Option Nat)) (N' : List Str) (hcalm : X.calm = true) (hi : SimI X E tg iter mi) (hg : ∀ cl C s0 H0 ex,SimG (blkC X N' sc cl C s0 H0 ex) tg ga) (he : ∀ cl C s0 H0 ex,SimE (blkC X N' sc cl C s0 H0 ex) E0 elt me) (ht : ∀ cl C s0 H0 ex,SimTs (blkC X N' sc cl C s0 H0 ex) ifs mt)
    (hf : FreeT cap ga) (hN : X.N = N:=by rfl) (hE : X.env.scope = scE:=by rfl) (hc : compOkC N N' sc scE cap = true:=by kernel_rfl) (hs : ∀ x,foldedSetIterable iter X.env x = pure x:=by intro _; rfl) :
    SimN X E (.ListComp elt [⟨tg,iter,ifs,0⟩] sc pos) (mCompN cap ga mi mt me):=
  ⟨fun Γ σ H ρ st P Q R G h k=>WE.of (pe_compT hcalm pi_w pg_a pe_a pts_a hN hE hc hs) (comp_run hi hg he ht hf R G h k)⟩
end
end Sm
namespace Sm
open PySem PySem.Spec L2
inductive SR where
  | nx (Γ : Gam) (st : Store) | rt (v : PV) (st : Store) | bk (Γ : Gam) (st : Store) | ct (Γ : Gam) (st : Store) | exc (x : Exc) (st : Store) | stuck
abbrev MS:=Gam -> Store -> SR
def Res.sbind {α : Type} (r : Res α) (f : α -> Store -> SR) : SR:=match r with
  | .ok a st=>f a st
  | .exc x st=>.exc x st
  | .stuck=>.stuck
def AccS (mg : Str -> Option Value) (E : XK) (D : Ends) (H : Hp) (ρ : Tk) : SR -> Prop
  | .nx Γ st=>∀ σ' H' ρ',Ext H ρ H' ρ' -> Rel H' ρ' st -> EnvR H' ρ' Γ σ' -> D.nx σ' H'
  | .bk Γ st=>∀ σ' H' ρ',Ext H ρ H' ρ' -> Rel H' ρ' st -> EnvR H' ρ' Γ σ' -> D.bk σ' H'
  | .ct Γ st=>∀ σ' H' ρ',Ext H ρ H' ρ' -> Rel H' ρ' st -> EnvR H' ρ' Γ σ' -> D.ct σ' H'
  | .rt p st=>∀ v H' ρ',Ext H ρ H' ρ' -> Rel H' ρ' st -> Rep H' ρ' p v -> D.rt v H'
  | .exc x st=>∀ C dv H' ρ',mg x.cls = some (.ref C) -> Ext H ρ H' ρ' -> Rel H' ρ' st -> XFs H' ρ' x.fs dv -> E (.ref C) dv H'
  | .stuck=>False
section
variable {α : Type} {mg : Str -> Option Value} {E : XK} {D : Ends} {H H1 : Hp} {ρ ρ1 : Tk}
theorem AccS.later {r : SR} (h : AccS mg E D H ρ r) (x : Ext H ρ H1 ρ1) : AccS mg E D H1 ρ1 r:=by
  cases r with
  | nx Γ st=>exact fun σ' H' ρ' x'=>h σ' H' ρ' (x.trans x')
  | bk Γ st=>exact fun σ' H' ρ' x'=>h σ' H' ρ' (x.trans x')
  | ct Γ st=>exact fun σ' H' ρ' x'=>h σ' H' ρ' (x.trans x')
  | rt p st=>exact fun v H' ρ' x'=>h v H' ρ' (x.trans x')
  | exc y st=>exact fun C dv H' ρ' m x'=>h C dv H' ρ' m (x.trans x')
  | stuck=>exact h
theorem AccS.bind {r : Res α} {f : α -> Store -> SR} (h : AccS mg E D H ρ (r.sbind f)) : Acc mg E H ρ (fun a st1 H1 ρ1=>AccS mg E D H1 ρ1 (f a st1)) r:=by
  cases r with
  | ok a st=>exact fun H' ρ' x' R'=>AccS.later (show AccS mg E D H ρ (f a st) from h) x'
  | exc e st=>exact h
  | stuck=>exact h
end
theorem Res.sassoc {α β : Type} (r : Res α) (f : α -> Store -> Res β) (g : β -> Store -> SR) : (r.bind f).sbind g = r.sbind fun a st=>(f a st).sbind g:=by cases r <;> rfl
theorem AccS.assoc {α β : Type} {mg : Str -> Option Value} {E : XK} {D : Ends} {H : Hp} {ρ : Tk} {r : Res α} {f : α -> Store -> Res β} {g : β -> Store -> SR} (h : AccS mg E D H ρ ((r.bind f).sbind g)) : AccS mg E D H ρ (r.sbind fun a st=>(f a st).sbind g):=by
  rw [<- Res.sassoc]; exact h
structure SimS (X : Cx) (E : XK) (s : Stmt) (m : MS) : Prop where
  run : ∀ (Γ : Gam) (σ : St) (H : Hp) (ρ : Tk) (st : Store) (D : Ends),Rel H ρ st -> EnvR H ρ Γ σ -> AccS X.mg E D H ρ (m Γ st) -> WS X s D σ H
structure SimB (X : Cx) (E : XK) (ss : List Stmt) (m : MS) : Prop where
  run : ∀ (Γ : Gam) (σ : St) (H : Hp) (ρ : Tk) (st : Store) (D : Ends),Rel H ρ st -> EnvR H ρ Γ σ -> AccS X.mg E D H ρ (m Γ st) -> WB X ss D σ H
section
variable {X : Cx} {E : XK} {pos : Pos} {e : Expr} {m : ME}
def mNext : MS:=fun Γ st=>.nx Γ st
def mSeqS (m1 m2 : MS) : MS:=fun Γ st=>match m1 Γ st with
  | .nx Γ1 st1=>m2 Γ1 st1
  | r=>r
theorem sb_nil : SimB X E [] mNext:=⟨fun Γ σ H ρ st D R G h=>WB.of pss_nil (h σ H ρ (Ext.refl _ _) R G)⟩
theorem sb_cons {s : Stmt} {rest : List Stmt} {m1 m2 : MS} (h1 : SimS X E s m1) (h2 : SimB X E rest m2) : SimB X E (s :: rest) (mSeqS m1 m2):=
  ⟨fun Γ σ H ρ st D R G h=>WB.of (pss_cons ps_w pss_w) (h1.run Γ σ H ρ st _ R G (by
    unfold mSeqS at h
    cases r : m1 Γ st with
    | nx Γ1 st1=>rw [r] at h; exact fun σ' H' ρ' x' R' G'=>h2.run Γ1 σ' H' ρ' st1 D R' G' (AccS.later h x')
    | bk Γ1 st1=>rw [r] at h; exact h
    | ct Γ1 st1=>rw [r] at h; exact h
    | rt p st1=>rw [r] at h; exact h
    | exc x st1=>rw [r] at h; exact h
    | stuck=>rw [r] at h; exact h))⟩
theorem sb_one {s : Stmt} {m1 : MS} (h1 : SimS X E s m1) : SimB X E [s] m1:=⟨fun Γ σ H ρ st D R G h=>WB.of (pss_one ps_w) (h1.run Γ σ H ρ st D R G h)⟩
def mExpr (m : ME) : MS:=fun Γ st=>(m Γ st).sbind fun _ st1=>.nx Γ st1
theorem ss_expr (he : SimE X E e m) (hs : swapsWith e none pos.line X.env = pure false:=by rfl) : SimS X E (.Expr e pos) (mExpr m):=
  ⟨fun Γ σ H ρ st D R G h=>WS.of (ps_expr pe_w hs) (he.use R G h.bind fun p st1 H1 ρ1 v x1 R1 G1 r1 h1=>h1 σ H1 ρ1 (Ext.refl _ _) R1 G1)⟩
def mRet (m : ME) : MS:=fun Γ st=>(m Γ st).sbind fun p st1=>.rt p st1
theorem ss_ret (he : SimE X E e m) : SimS X E (.Return (some e) pos) (mRet m):=
  ⟨fun Γ σ H ρ st D R G h=>WS.of (ps_ret pe_w) (he.use R G h.bind fun p st1 H1 ρ1 v x1 R1 G1 r1 h1=>h1 v H1 ρ1 (Ext.refl _ _) R1 r1)⟩
def mSet (i : Nat) (m : ME) : MS:=fun Γ st=>(m Γ st).sbind fun p st1=>.nx (Γ.set i (some p)) st1
theorem ss_set (i : Nat) {x : Str} {pos' : Pos} (hN : X.N.Nodup) (he : SimE X E e m) (hi : X.N[i]? = some x:=by rfl) (hx : Loc X.env.scope x:=by first | exact Or.inl rfl | exact Or.inr rfl) (hs : swapsWith e (some (.Name x pos')) pos.line X.env = pure false:=by rfl) (hf : X.fn x = true \/ X.env.scope.names.lookup x = some .local:=by first | exact .inl rfl | exact .inr rfl) :
    SimS X E (.Assign [.Name x pos'] e pos) (mSet i m):=
  ⟨fun Γ σ H ρ st D R G h=>WS.of (ps_set hN hi hx pe_w hs hf) (he.use R G h.bind fun p st1 H1 ρ1 v x1 R1 G1 r1 h1=>h1 _ H1 ρ1 (Ext.refl _ _) R1 (G1.set r1 i))⟩
section
variable {tg iter elt : Expr} {ifs : List Expr} {N N' : List Str} {sc scE : Scope} {ga : GA} {mi : MI} {mt : MT} {me : ME}
theorem ss_compV (cap : List (Option Nat)) (N' : List Str) (i : Nat) {x : Str} {px cpos : Pos} (hnd : X.N.Nodup) (hcalm : X.calm = true) (hi : SimI X E tg iter mi) (hg : ∀ cl C s0 H0 ex,SimG (blkC X N' sc cl C s0 H0 ex) tg ga) (he : ∀ cl C s0 H0 ex,SimE (blkC X N' sc cl C s0 H0 ex) E0 elt me) (ht : ∀ cl C s0 H0 ex,SimTs (blkC X N' sc cl C s0 H0 ex) ifs mt)
    (hf : FreeT cap ga) (hix : X.N[i]? = some x:=by rfl) (hx : Loc X.env.scope x:=by first | exact Or.inl rfl | exact Or.inr rfl) (hsw : swapsWith (.ListComp elt [⟨tg,iter,ifs,0⟩] sc cpos) (some (.Name x px)) pos.line X.env = pure true:=by rfl)
    (hN : X.N = N:=by rfl) (hE : X.env.scope = scE:=by rfl) (hc : compOkC N N' sc scE cap = true:=by kernel_rfl) (hs : ∀ x,foldedSetIterable iter X.env x = pure x:=by intro _; rfl) (hfn : X.fn x = true \/ X.env.scope.names.lookup x = some .local:=by first | exact .inl rfl | exact .inr rfl) :
    SimS X E (.Assign [.Name x px] (.ListComp elt [⟨tg,iter,ifs,0⟩] sc cpos) pos) (mSet i (mVal (mCompN cap ga mi mt me))):=
  ⟨fun Γ σ H ρ st D R G h=>WS.of (ps_compT hnd hix hx hcalm pi_w pg_a pe_a pts_a hsw hN hE hc hs hfn) (comp_run hi hg he ht hf R G (AccS.bind (by unfold mSet mVal at h; exact AccS.assoc h)) fun ps st1 H1 ρ1 a vs eq x R1 hm hn ha r=>by
    obtain ⟨x2,R2,r2⟩:=out_val R x R1 hm hn ha r
    simp only [mSet,mVal,eq,Res.bind,Res.sbind] at h
    exact h _ _ _ x2 R2 ((G.ext x2).set r2 i))⟩
end
def setIx (st : Store) (o i p : PV) : Option Store:=match o,i with
  | .ref k,.int j=>match st[k]? with
    | some (.lst xs)=>(ixN xs.length j).map fun n=>st.set k (.lst (xs.set n p))
    | _=>none
  | _,_=>none
def mSetIx (mo mi m : ME) : MS:=fun Γ st=>(m Γ st).sbind fun p st1=>(mo Γ st1).sbind fun o st2=>(mi Γ st2).sbind fun i st3=>match setIx st3 o i p with
  | some st4=>.nx Γ st4
  | none=>.stuck
theorem set_run {H : Hp} {ρ : Tk} {st st' : Store} {o i p : PV} {x y z : V} (R : Rel H ρ st) (ro : Rep H ρ o x) (ri : Rep H ρ i y) (rp : Rep H ρ p z) (e : setIx st o i p = some st') :
    ∃ a vs k j,x = .ref a /\ y = .int k /\ H a = some (.lst vs) /\ ixN vs.length k = some j /\ Ext H ρ (upd H a (.lst (vs.set j z))) ρ /\ Rel (upd H a (.lst (vs.set j z))) ρ st':=by
  unfold setIx at e
  split at e
  · rename_i k j
    split at e
    · rename_i xs hs
      cases ej : ixN xs.length j with
      | none=>rw [ej] at e; cases e
      | some n=>
        rw [ej] at e
        have e : st.set k (.lst (xs.set n p)) = st':=Option.some.inj e
        subst e
        obtain ⟨a,ea,rfl⟩:=ro
        cases ri
        obtain ⟨b,vs,f1,f2,f3⟩:=R.lst hs
        rw [ea] at f1; cases f1
        exact ⟨a,vs,j,n,rfl,rfl,f2,by rw [<- f3.length]; exact ej,Ext.put (List.mem_of_getElem? ea) f2,R.put ea f2 (f3.set rp n)⟩
    · cases e
  · cases e
theorem ss_sub {o i : Expr} {mo mi : ME} {tpos : Pos} (he : SimE X E e m) (ho : SimE X E o mo) (hi : SimE X E i mi)
    (ha : ∀ v,assign (.Subscript o i tpos) X.env v = (do
      let ov <- holding [v] (eval o X.env)
      let iv <- holding [v,ov] (eval i X.env)
      standAt tpos
      holding [v,ov,iv] (setItem ov iv v)
      release [v,ov,iv] []):=by intro _; rfl)
    (hs : swapsWithSole [.Subscript o i tpos] e pos.line X.env = pure false:=by rfl) (hw : swappedStores [.Subscript o i tpos] e X.env = pure none:=by rfl) (h1 : (assignEach [.Subscript o i tpos] X.env).map (·.2) = [assign (.Subscript o i tpos) X.env]:=by rfl) :
    SimS X E (.Assign [.Subscript o i tpos] e pos) (mSetIx mo mi m):=
  ⟨fun Γ σ H ρ st D R G h=>WS.of (ps_asg pe_w (pg_sub pe_w pe_w set_list ha) hs hw h1) (he.use R G h.bind fun p st1 H1 ρ1 z x1 R1 G1 r1 h1=>ho.use R1 G1 h1.bind fun ov st2 H2 ρ2 x x2 R2 G2 r2 h2=>hi.use R2 G2 h2.bind fun iv st3 H3 ρ3 y x3 R3 G3 r3 h3=>by
    cases es : setIx st3 ov iv p with
    | none=>rw [es] at h3; exact h3.elim
    | some st4=>
      rw [es] at h3
      obtain ⟨a,vs,k,j,rfl,rfl,f1,f2,x4,R4⟩:=set_run R3 (r2.ext x3) r3 (r1.ext (x2.trans x3)) es
      exact ⟨a,vs,k,j,rfl,rfl,f1,f2,h3 σ _ ρ3 x4 R4 (G3.ext x4)⟩)⟩
def mIfS (mt : MT) (ma mb : MS) : MS:=fun Γ st=>(mt Γ st).sbind fun b st1=>if b = true then ma Γ st1 else mb Γ st1
theorem ss_if {c : Expr} {a b : List Stmt} {mt : MT} {ma mb : MS} (hc : SimT X E c mt) (ha : SimB X E a ma) (hb : SimB X E b mb) : SimS X E (.If c a b pos) (mIfS mt ma mb):=
  ⟨fun Γ σ H ρ st D R G h=>WS.of (ps_if pt_w pss_w pss_w) (hc.use R G h.bind fun k st1 H1 ρ1 x1 R1 G1 h1=>by
    cases k with
    | true=>rw [if_pos rfl] at h1 ⊢; exact ha.run Γ σ H1 ρ1 st1 D R1 G1 h1
    | false=>rw [if_neg Bool.false_ne_true] at h1 ⊢; exact hb.run Γ σ H1 ρ1 st1 D R1 G1 h1)⟩
open Classical in
def forG (ga : GA) (body : MS) (w : Wt) : List PV -> Gam -> Store -> SR
  | [],Γ,st=>if wOk w st then .nx Γ st else .stuck
  | x :: xs,Γ,st=>if wOk w st then (match ga x Γ with
    | none=>.stuck
    | some Γ1=>match body Γ1 st with
      | .nx Γ2 st2=>forG ga body w xs Γ2 st2
      | .ct Γ2 st2=>forG ga body w xs Γ2 st2
      | .bk Γ2 st2=>.nx Γ2 st2
      | .rt v st2=>.rt v st2
      | .exc x st2=>.exc x st2
      | .stuck=>.stuck) else .stuck
def mFor (ga : GA) (mi : MI) (body : MS) : MS:=fun Γ st=>(mi Γ st).sbind fun iw st1=>forG ga body iw.2 iw.1 Γ st1
theorem ss_for {tg iter : Expr} {bd : List Stmt} {ga : GA} {mi : MI} {body : MS} (hp : PassesOwn (model X.prog X.w) X.A X.env X.xe) (hc : X.calm = true) (hi : SimI X E tg iter mi) (hg : SimG X tg ga) (hb : SimB X E bd body)
    (hs : ∀ x,foldedSetIterable iter X.env x = pure x:=by intro _; rfl) : SimS X E (.For tg iter bd [] pos) (mFor ga mi body):=
  ⟨fun Γ σ H ρ st D R G h=>WS.of (ps_for hp hc pi_w pg_x pss_w hs) (hi.run Γ σ H ρ st _ _ R G h.bind fun iw st1 H1 ρ1 J eq x1 R1 G1 ok hl src h1=>by
    let W : Nat -> Nat -> St -> Hp -> Prop:=fun i m σ' H'=>m = iw.1.length - i /\ i <= iw.1.length /\ ∃ Γ' ρ' st',Ext H1 ρ1 H' ρ' /\ Rel H' ρ' st' /\ EnvR H' ρ' Γ' σ' /\ AccS X.mg E D H' ρ' (forG ga body iw.2 (iw.1.drop i) Γ' st')
    refine ⟨W,⟨_,rfl,Nat.zero_le _,Γ,ρ1,st1,Ext.refl _ _,R1,G1,by rw [List.drop_zero]; exact h1⟩,?_⟩
    rintro i m σ' H' ⟨hm,hi',Γ',ρ',st',x,R',G',hA⟩
    by_cases hlt : i < iw.1.length
    · right
      have hd : iw.1.drop i = iw.1[i] :: iw.1.drop (i + 1):=List.drop_eq_getElem_cons hlt
      rw [hd,forG] at hA
      by_cases hw : wOk iw.2 st'
      · rw [if_pos hw] at hA
        refine ⟨src.go H' ρ' st' x R' hw i hlt,fun σ2 H2=>W (i + 1) (iw.1.length - (i + 1)) σ2 H2,fun σ2 H2 z=>⟨_,by omega,z⟩,fun y H2 hy=>?_⟩
        obtain ⟨sm,ry⟩:=src.yld H' ρ' st' x R' hw i _ (List.getElem?_eq_getElem hlt) y H2 hy
        have x2 : Ext H' ρ' H2 ρ':=Ext.same sm
        cases eg : ga iw.1[i] Γ' with
        | none=>rw [eg] at hA; exact hA.elim
        | some Γ1=>
          rw [eg] at hA
          refine hg.run Γ' Γ1 σ' H2 ρ' _ y _ (G'.ext x2) ry eg fun σ3 G3=>?_
          have hA2:=AccS.later hA x2
          simp only at hA2
          refine hb.run Γ1 σ3 H2 ρ' st' _ (R'.same sm) G3 ?_
          have again : ∀ {Γ2 : Gam} {st2 : Store},AccS X.mg E D H2 ρ' (forG ga body iw.2 (iw.1.drop (i + 1)) Γ2 st2) -> ∀ σ' H'' ρ'',Ext H2 ρ' H'' ρ'' -> Rel H'' ρ'' st2 -> EnvR H'' ρ'' Γ2 σ' -> W (i + 1) (iw.1.length - (i + 1)) σ' H'':=fun {Γ2 st2} a σ4 H4 ρ4 x4 R4 G4=>
            ⟨rfl,hlt,Γ2,ρ4,st2,x.trans (x2.trans x4),R4,G4,AccS.later a x4⟩
          cases rb : body Γ1 st' with
          | nx Γ2 st2=>rw [rb] at hA2; exact again hA2
          | ct Γ2 st2=>rw [rb] at hA2; exact again hA2
          | bk Γ2 st2=>rw [rb] at hA2; exact hA2
          | rt v st2=>rw [rb] at hA2; exact hA2
          | exc y st2=>rw [rb] at hA2; exact hA2
          | stuck=>rw [rb] at hA2; exact hA2.elim
      · rw [if_neg hw] at hA; exact hA.elim
    · left
      have ei : i = iw.1.length:=by omega
      subst ei
      rw [List.drop_length,forG] at hA
      by_cases hw : wOk iw.2 st'
      · rw [if_pos hw] at hA
        exact ⟨src.stop H' ρ' st' x R' hw,hA σ' H' ρ' (Ext.refl _ _) R' G'⟩
      · rw [if_neg hw] at hA; exact hA.elim)⟩
def whileG (mt : MT) (body : MS) : Nat -> Gam -> Store -> SR
  | 0,_,_=>.stuck
  | n + 1, Γ, st => (mt Γ st).sbind fun b st1 => if b = true then (match body Γ st1 with
      | .nx Γ2 st2=>whileG mt body n Γ2 st2
      | .ct Γ2 st2=>whileG mt body n Γ2 st2
      | .bk Γ2 st2=>.nx Γ2 st2
      | .rt v st2=>.rt v st2
      | .exc x st2=>.exc x st2
      | .stuck=>.stuck) else .nx Γ st1
theorem ss_while (n : Nat) {c : Expr} {bd : List Stmt} {mt : MT} {body : MS} (hp : PassesOwn (model X.prog X.w) X.A X.env X.xe) (hc : SimT X E c mt) (hb : SimB X E bd body) : SimS X E (.While c bd [] pos) (whileG mt body n):=
  ⟨fun Γ σ H ρ st D R G h=>WS.of (ps_while hp pt_w pss_w) (by
    let W : Nat -> St -> Hp -> Prop:=fun m σ' H'=>∃ Γ' ρ' st',Rel H' ρ' st' /\ EnvR H' ρ' Γ' σ' /\ AccS X.mg E D H' ρ' (whileG mt body m Γ' st')
    refine ⟨W,⟨n,Γ,ρ,st,R,G,h⟩,?_⟩
    rintro m σ' H' ⟨Γ',ρ',st',R',G',hA⟩
    cases m with
    | zero=>exact hA.elim
    | succ m=>
      rw [whileG] at hA
      refine hc.use R' G' hA.bind fun b st1 H1 ρ1 x1 R1 G1 h1=>?_
      cases b with
      | false=>rw [if_neg Bool.false_ne_true] at h1 ⊢; exact h1 σ' H1 ρ1 (Ext.refl _ _) R1 G1
      | true=>
        rw [if_pos rfl] at h1 ⊢
        refine ⟨fun σ2 H2=>W m σ2 H2,fun σ2 H2 z=>⟨m,Nat.lt_succ_self _,z⟩,hb.run Γ' σ' H1 ρ1 st1 _ R1 G1 ?_⟩
        have again : ∀ {Γ2 : Gam} {st2 : Store},AccS X.mg E D H1 ρ1 (whileG mt body m Γ2 st2) -> ∀ σ' H'' ρ'',Ext H1 ρ1 H'' ρ'' -> Rel H'' ρ'' st2 -> EnvR H'' ρ'' Γ2 σ' -> W m σ' H'':=fun {Γ2 st2} a σ4 H4 ρ4 x4 R4 G4=>⟨Γ2,ρ4,st2,R4,G4,AccS.later a x4⟩
        cases rb : body Γ' st1 with
        | nx Γ2 st2=>rw [rb] at h1; exact again h1
        | ct Γ2 st2=>rw [rb] at h1; exact again h1
        | bk Γ2 st2=>rw [rb] at h1; exact h1
        | rt v st2=>rw [rb] at h1; exact h1
        | exc y st2=>rw [rb] at h1; exact h1
        | stuck=>rw [rb] at h1; exact h1.elim)⟩
def mRaise (x : Str) (m : ME) : MS:=fun Γ st=>(m Γ st).sbind fun _ st1=>.exc ⟨x,none⟩ st1
theorem ss_raise {x : Str} {C : Addr} {np cpos : Pos} (hcalm : X.calm = true) (RO : RaiseD X E) (hg : Gl X x) (hm : X.mg x = some (.ref C)) (q : PySem.W.excIn X.K C bmVE "ValueError.__new__" = true) (he : SimE X E e m)
    (hdb : (x == ("__debug__" : Str)) = false:=by decide) (hst : starEach [e] X.env = [(false,eval e X.env)]:=by rfl) : SimS X E (.Raise (some (.Call (.Name x np) [e] [] cpos)) none pos) (mRaise x m):=
  ⟨fun Γ σ H ρ st D R G h=>WS.of (ps_raiseD hcalm RO hg hm q (pa_cons pe_w pa_nil (by rw [hst]; rfl)) hdb hst) (he.use R G h.bind fun p st1 H1 ρ1 v x1 R1 G1 r1 h1=>⟨Nat.le_trans (show 1 <= lim by decide) lim_le,h1 C none H1 ρ1 hm (Ext.refl _ _) R1 rfl⟩)⟩
end
end Sm
namespace Sm
open PySem PySem.Spec L2
def WM (X : Cx) (id : String) : V -> List V -> Hp -> VK -> Prop:=fun x xs H Q=>∀ (pins : List (Addr × Obj)) (s : Shared) (σ : St) (v : Value) (us : List Value),Inv X pins σ H s -> RelV x v -> Vals xs us -> wpAny (model X.prog X.w) X.A (call (.builtin id) (v :: us)) (EP X pins σ Q) X.xe s
theorem mt_w {X : Cx} {id : String} : MtR X id (WM X id):=fun pins s σ _ _ _ v us _ I r rs h=>h pins s σ v us I r rs
theorem WM.of {X : Cx} {id : String} {r : V -> List V -> Hp -> VK -> Prop} {x : V} {xs : List V} {H : Hp} {Q : VK} (h : MtR X id r) (q : r x xs H Q) : WM X id x xs H Q:=fun pins s σ v us I r1 r2=>h pins s σ H x xs v us Q I r1 r2 q
abbrev MF:=Store -> PV -> List PV -> Res PV
structure MtS (X : Cx) (E : XK) (id : String) (o : MF) : Prop where
  run : ∀ (H : Hp) (ρ : Tk) (st : Store) (p : PV) (ps : List PV) (x : V) (xs : List V) (Q : VK),Rel H ρ st -> Rep H ρ p x -> RepL H ρ ps xs -> Acc X.mg E H ρ (QV Q) (o st p ps) -> WM X id x xs H Q
section
variable {X : Cx} {E : XK} {o e : Expr} {es : List Expr} {mo : ME} {mr : Gam -> Store -> Res (List PV)} {name : Str} {apos cpos : Pos} {T id : String} {f : MF}
def mBM (f : MF) (mo : ME) (mr : Gam -> Store -> Res (List PV)) : ME:=fun Γ st=>(mo Γ st).bind fun p st1=>match listOf st1 p with
  | some _=>(mr Γ st1).bind fun ps st2=>f st2 p ps
  | none=>.stuck
theorem se_bm (pa : PlainAttrs "list") (slot : Slot "list" name id) (hty : typeOf (.builtin id) = pure (.type "method_descriptor")) (hm : MtS X E id f) (ho : SimE X E o mo) (ha : SimA X E (e :: es) mr)
    (hbase : attributeBase o name X.env (eval o X.env) = eval o X.env:=by rfl)
    (hfew : ((backTo cpos (starEach (e :: es) X.env)).all (fun x=>!x.1) && (backToKw cpos (keywordEach [] X.env)).all (fun x=>x.1.isSome)
      && decide ((e :: es).length + ([] : List Keyword).length + (if ([] : List Keyword).isEmpty then 0 else 1) < 30)) = true:=by rfl)
    (hline : (apos.endLine == cpos.line) = true:=by rfl) (hs : starEach (e :: es) X.env = (false,eval e X.env) :: starEach es X.env:=by rfl) (hplain : (backTo cpos (starEach es X.env)).any (·.1) = false:=by rfl) :
    SimE X E (.Call (.Attribute o name apos) (e :: es) [] cpos) (mBM f mo mr):=
  ⟨fun Γ σ H ρ st Q R G h=>WE.of (pe_bm pa slot hty mt_w pe_w pa_w hbase hfew hline hs hplain) (ho.use R G h.bind fun p st1 H1 ρ1 v x1 R1 G1 r1 h1=>by
    split at h1
    · rename_i ys el
      obtain ⟨a,vs,rfl,hr,_⟩:=list_at R1 r1 el
      exact ⟨.inl ⟨rfl,vs,.inl hr⟩,ha.use R1 G1 h1.bind fun ps st2 H2 ρ2 us x2 R2 G2 r2 h2=>hm.run H2 ρ2 st2 p ps _ us Q R2 (r1.ext x2) r2 h2⟩
    · exact h1.elim)⟩
def chg (st : Store) (p : PV) (g : List PV -> Option (PV × List PV)) : Res PV:=match p with
  | .ref i=>match st[i]? with
    | some (.lst xs)=>match g xs with
      | some (r,ys)=>.ok r (st.set i (.lst ys))
      | none=>.stuck
    | _=>.stuck
  | _=>.stuck
theorem chg_run {mg : Str -> Option Value} {H : Hp} {ρ : Tk} {st : Store} {p : PV} {x : V} {g : List PV -> Option (PV × List PV)} {Q : VK} (R : Rel H ρ st) (rp : Rep H ρ p x) (h : Acc mg E H ρ (QV Q) (chg st p g)) :
    ∃ a xs vs r ys,x = .ref a /\ H a = some (.lst vs) /\ RepL H ρ xs vs /\ g xs = some (r,ys) /\ ∀ us v,RepL H ρ ys us -> Rep H ρ r v -> Q v (upd H a (.lst us)):=by
  unfold chg at h
  split at h
  · rename_i i
    split at h
    · rename_i xs hs
      split at h
      · rename_i r ys hg
        obtain ⟨a,ea,rfl⟩:=rp
        obtain ⟨b,vs,f1,f2,f3⟩:=R.lst hs
        rw [ea] at f1; cases f1
        refine ⟨a,xs,vs,r,ys,rfl,f2,f3,hg,fun us v ru rv=>?_⟩
        have x:=Ext.put (o':=.lst us) (List.mem_of_getElem? ea) f2
        exact h _ ρ x (R.put ea f2 ru) v (rv.ext x)
      · exact h.elim
    · exact h.elim
  · exact h.elim
def mtAppend : MF:=fun st p ps=>match ps with
  | [y]=>chg st p fun xs=>if xs.length < lim then some (.non,xs ++ [y]) else none
  | _=>.stuck
theorem ms_append : MtS X E "list.append" mtAppend:=⟨fun H ρ st p ps x xs Q R rp rs h=>by
  unfold mtAppend at h
  split at h
  · obtain ⟨v,rfl,r⟩:=repL_one rs
    obtain ⟨a,ys,vs,r0,zs,rfl,f1,f2,f3,k⟩:=chg_run R rp h
    split at f3
    · rename_i hl
      cases f3
      exact WM.of mt_append ⟨a,vs,v,rfl,rfl,f1,by rw [<- f2.length]; exact Nat.lt_of_lt_of_le hl lim_le,k _ _ (f2.append (RepL.cons r RepL.nil)) rfl⟩
    · cases f3
  · exact h.elim⟩
theorem se_append (ho : SimE X E o mo) (ha : SimA X E [e] mr) (hbase : attributeBase o "append" X.env (eval o X.env) = eval o X.env:=by rfl)
    (hfew : ((backTo cpos (starEach [e] X.env)).all (fun x=>!x.1) && (backToKw cpos (keywordEach [] X.env)).all (fun x=>x.1.isSome) && decide ([e].length + ([] : List Keyword).length + (if ([] : List Keyword).isEmpty then 0 else 1) < 30)) = true:=by rfl)
    (hline : (apos.endLine == cpos.line) = true:=by rfl) (hs : starEach [e] X.env = (false,eval e X.env) :: starEach [] X.env:=by rfl) : SimE X E (.Call (.Attribute o "append" apos) [e] [] cpos) (mBM mtAppend mo mr):=
  se_bm PySem.F.plainAttrs_list PySem.F.slot_list_append PySem.F.type_list_append ms_append ho ha hbase hfew hline hs
end
end Sm
namespace Sm
open PySem PySem.Spec L2
mutual
def fz (n : Nat) (st : Store) : Nat -> PV -> Option PV
  | 0,_=>none
  | _ + 1,.non=>some .non
  | _ + 1,.bl b=>some (.bl b)
  | _ + 1,.int i=>some (.int i)
  | _ + 1,.str x=>some (.str x)
  | k + 1,.tup xs=>(fzL n st k xs).map .tup
  | k + 1,.lst xs=>(fzL n st k xs).map .lst
  | k + 1,.fro xs=>(fzL n st k xs).map .fro
  | _ + 1,.dic=>some .dic
  | k + 1,.ref i=>if i < n then some (.ref i) else match st[i]? with
    | some (.lst xs)=>(fzL n st k xs).map .lst
    | _=>none
def fzL (n : Nat) (st : Store) : Nat -> List PV -> Option (List PV)
  | _,[]=>some []
  | k,x :: xs=>(fz n st k x).bind fun y=>(fzL n st k xs).map (y :: ·)
end
theorem fz_good {n : Nat} {st : Store} : ∀ {m k : Nat} {p : PV},good m p = true -> m < k -> fz n st k p = some p:=by
  intro m
  induction m with
  | zero=>
    intro k p g hk
    obtain ⟨k,rfl⟩ : ∃ j,k = j + 1:=⟨k - 1,by omega⟩
    cases p with
    | tup _=>cases g
    | lst _=>cases g
    | fro _=>cases g
    | ref _=>cases g
    | dic=>cases g
    | _=>rw [fz]
  | succ m ih=>
    intro k p g hk
    obtain ⟨k,rfl⟩ : ∃ j,k = j + 1:=⟨k - 1,by omega⟩
    have hL : ∀ xs : List PV,xs.all (good m) = true -> fzL n st k xs = some xs:=by
      intro xs
      induction xs with
      | nil=>intro _; rw [fzL]
      | cons x xs ihx=>
        intro g
        rw [List.all_cons,Bool.and_eq_true] at g
        rw [fzL,ih g.1 (by omega),ihx g.2]; rfl
    cases p with
    | tup xs=>rw [fz,hL xs g]; rfl
    | lst xs=>rw [fz,hL xs g]; rfl
    | fro xs=>rw [fz,hL xs g]; rfl
    | ref _=>cases g
    | dic=>cases g
    | _=>rw [fz]
section
variable {H : Hp} {ρ : Tk} {st : Store} {tr0 rest hs : List Addr}
theorem fz_rep (R : Rel H ρ st) (ht : ρ.tr = tr0 ++ rest) (hh : ∀ a,a ∈ hs -> a ∈ ρ.hid) : ∀ (k : Nat) {p p' : PV} {v : V},Rep H ρ p v -> fz tr0.length st k p = some p' -> Rep H ⟨tr0,hs⟩ p' v:=by
  have out : ∀ a,a ∉ ρ -> a ∉ (⟨tr0,hs⟩ : Tk):=fun a n z=>by
    rcases z with z | z
    · exact n (.inl (by rw [ht]; exact List.mem_append_left _ z))
    · exact n (.inr (hh a z))
  intro k
  induction k with
  | zero=>intro p p' v r e; rw [fz] at e; cases e
  | succ k ih=>
    have hL : ∀ {ps ps' : List PV} {vs : List V},RepL H ρ ps vs -> fzL tr0.length st k ps = some ps' -> RepL H ⟨tr0,hs⟩ ps' vs:=by
      intro ps
      induction ps with
      | nil=>intro ps' vs r e; rw [fzL] at e; cases e; exact r
      | cons x xs ihx=>
        intro ps' vs r e
        obtain ⟨v,t,rfl,r1,r2⟩:=r
        rw [fzL] at e
        cases e1 : fz tr0.length st k x with
        | none=>rw [e1] at e; cases e
        | some y=>
          rw [e1] at e
          have e : (fzL tr0.length st k xs).map (y :: ·) = some ps':=e
          cases e2 : fzL tr0.length st k xs with
          | none=>rw [e2] at e; cases e
          | some ys=>
            rw [e2] at e
            cases e
            exact ⟨v,t,rfl,ih r1 e1,ihx r2 e2⟩
    intro p p' v r e
    cases p with
    | non=>rw [fz] at e; cases e; exact r
    | bl b=>rw [fz] at e; cases e; exact r
    | int i=>rw [fz] at e; cases e; exact r
    | str x=>rw [fz] at e; cases e; exact r
    | tup xs=>
      rw [fz] at e
      obtain ⟨a,vs,e1,ha,na,ra⟩:=r
      cases e2 : fzL tr0.length st k xs with
      | none=>rw [e2] at e; cases e
      | some ys=>rw [e2] at e; cases e; exact ⟨a,vs,e1,ha,out a na,hL ra e2⟩
    | lst xs=>
      rw [fz] at e
      obtain ⟨a,vs,e1,ha,na,ra⟩:=r
      cases e2 : fzL tr0.length st k xs with
      | none=>rw [e2] at e; cases e
      | some ys=>rw [e2] at e; cases e; exact ⟨a,vs,e1,ha,out a na,hL ra e2⟩
    | fro xs=>
      rw [fz] at e
      obtain ⟨a,vs,e1,ha,na,ra⟩:=r
      cases e2 : fzL tr0.length st k xs with
      | none=>rw [e2] at e; cases e
      | some ys=>rw [e2] at e; cases e; exact ⟨a,vs,e1,ha,out a na,hL ra e2⟩
    | dic=>
      rw [fz] at e
      cases e
      obtain ⟨a,e1,ha,na⟩:=r
      exact ⟨a,e1,ha,out a na⟩
    | ref i=>
      rw [fz] at e
      obtain ⟨a,ea,rfl⟩:=r
      by_cases hi : i < tr0.length
      · rw [if_pos hi] at e
        cases e
        rw [ht,List.getElem?_append_left hi] at ea
        exact ⟨a,ea,rfl⟩
      · rw [if_neg hi] at e
        split at e
        · rename_i xs hs'
          obtain ⟨b,vs,f1,f2,f3⟩:=R.lst hs'
          rw [ea] at f1; cases f1
          cases e2 : fzL tr0.length st k xs with
          | none=>rw [e2] at e; cases e
          | some ys=>
            rw [e2] at e; cases e
            refine ⟨a,vs,rfl,f2,fun z=>?_,hL f3 e2⟩
            rcases z with z | z
            · have z : a ∈ tr0:=z
              obtain ⟨j,hj,ej⟩:=List.getElem_of_mem z
              have g1 : ρ.tr[j]? = some a:=by rw [ht,List.getElem?_append_left hj,List.getElem?_eq_getElem hj,ej]
              have l1:=List.getElem?_eq_some_iff.mp g1
              have l2:=List.getElem?_eq_some_iff.mp ea
              have:=nodup_inj R.nd l1.1 l2.1 (l1.2.trans l2.2.symm)
              omega
            · exact R.ap a (hh a z) (List.mem_of_getElem? ea)
        · cases e
mutual
def bel (n : Nat) : PV -> Prop
  | .tup xs=>belL n xs
  | .lst xs=>belL n xs
  | .fro xs=>belL n xs
  | .ref i=>i < n
  | _=>True
def belL (n : Nat) : List PV -> Prop
  | []=>True
  | x :: xs=>bel n x /\ belL n xs
end
mutual
theorem Rep.bel : ∀ {p : PV} {v : V},Rep H ρ p v -> bel ρ.tr.length p
  | .non,_,_=>by simp [Sm.bel]
  | .bl _,_,_=>by simp [Sm.bel]
  | .int _,_,_=>by simp [Sm.bel]
  | .str _,_,_=>by simp [Sm.bel]
  | .tup ps,_,⟨_,_,_,_,_,r⟩=>by rw [Sm.bel]; exact RepL.bel r
  | .lst ps,_,⟨_,_,_,_,_,r⟩=>by rw [Sm.bel]; exact RepL.bel r
  | .fro ps,_,⟨_,_,_,_,_,r⟩=>by rw [Sm.bel]; exact RepL.bel r
  | .ref i,_,⟨_,e,_⟩=>by rw [Sm.bel]; exact (List.getElem?_eq_some_iff.mp e).1
  | .dic,_,_=>by simp [Sm.bel]
theorem RepL.bel : ∀ {ps : List PV} {vs : List V},RepL H ρ ps vs -> belL ρ.tr.length ps
  | [],_,_=>by simp [belL]
  | p :: ps,_,⟨_,_,_,r1,r2⟩=>by rw [belL]; exact ⟨Rep.bel r1,RepL.bel r2⟩
end
mutual
theorem Rep.less (ht : ρ.tr = tr0 ++ rest) (hh : ∀ a,a ∈ hs -> a ∈ ρ.hid) : ∀ {p : PV} {v : V},Sm.bel tr0.length p -> Rep H ρ p v -> Rep H ⟨tr0,hs⟩ p v
  | .non,_,_,r=>r
  | .bl _,_,_,r=>r
  | .int _,_,_,r=>r
  | .str _,_,_,r=>r
  | .tup ps,_,b,⟨a,vs,e,ha,na,r⟩=>⟨a,vs,e,ha,fun z=>na (z.imp (fun z=>by rw [ht]; exact List.mem_append_left _ z) (hh a)),RepL.less ht hh (by rw [Sm.bel] at b; exact b) r⟩
  | .lst ps,_,b,⟨a,vs,e,ha,na,r⟩=>⟨a,vs,e,ha,fun z=>na (z.imp (fun z=>by rw [ht]; exact List.mem_append_left _ z) (hh a)),RepL.less ht hh (by rw [Sm.bel] at b; exact b) r⟩
  | .fro ps,_,b,⟨a,vs,e,ha,na,r⟩=>⟨a,vs,e,ha,fun z=>na (z.imp (fun z=>by rw [ht]; exact List.mem_append_left _ z) (hh a)),RepL.less ht hh (by rw [Sm.bel] at b; exact b) r⟩
  | .ref i,_,b,⟨a,e,e2⟩=>⟨a,by rw [Sm.bel] at b; rw [ht,List.getElem?_append_left b] at e; exact e,e2⟩
  | .dic,_,_,⟨a,e,ha,na⟩=>⟨a,e,ha,fun z=>na (z.imp (fun z=>by rw [ht]; exact List.mem_append_left _ z) (hh a))⟩
theorem RepL.less (ht : ρ.tr = tr0 ++ rest) (hh : ∀ a,a ∈ hs -> a ∈ ρ.hid) : ∀ {ps : List PV} {vs : List V},belL tr0.length ps -> RepL H ρ ps vs -> RepL H ⟨tr0,hs⟩ ps vs
  | [],_,_,r=>r
  | p :: ps,_,b,⟨v,t,e,r1,r2⟩=>by
    rw [belL] at b
    exact ⟨v,t,e,Rep.less ht hh b.1 r1,RepL.less ht hh b.2 r2⟩
end
end
theorem rel_back {H H' : Hp} {ρ ρ' : Tk} {st st' : Store} (R : Rel H ρ st) (x : Ext H ρ H' ρ') (R' : Rel H' ρ' st') (hp : st <+: st') : Ext H ρ H' ρ /\ Rel H' ρ st:=by
  obtain ⟨rest,ht⟩:=x.pre
  obtain ⟨more,hm⟩:=hp
  refine ⟨⟨List.prefix_refl _,fun _ h=>h,fun _ h=>.inl h,x.keep,fun _ h=>.inl h,x.old,x.frz⟩,R.len,R.nd,fun a ha=>let ⟨o,e,n⟩:=R.hd a ha; ⟨o,x.keep a o e (R.ap a ha),n⟩,R.ap,fun i a c h1 h2=>?_⟩
  have hi : i < st.length:=(List.getElem?_eq_some_iff.mp h2).1
  have q:=R'.cell i a c (by rw [<- ht,List.getElem?_append_left (List.getElem?_eq_some_iff.mp h1).1]; exact h1) (by rw [<- hm,List.getElem?_append_left hi]; exact h2)
  have q0:=R.cell i a c h1 h2
  cases c with
  | lst ps=>
    obtain ⟨vs,e1,e2⟩:=q
    obtain ⟨us,_,f2⟩:=q0
    exact ⟨vs,e1,RepL.less (ρ:=ρ') (tr0:=ρ.tr) (hs:=ρ.hid) ht.symm x.hidM f2.bel e2⟩
  | dic ps=>
    obtain ⟨vs,e1,e2⟩:=q
    obtain ⟨us,_,f2⟩:=q0
    exact ⟨vs,e1,e2.1,RepL.less (ρ:=ρ') (tr0:=ρ.tr) (hs:=ρ.hid) ht.symm x.hidM f2.2.bel e2.2⟩
  | dtp ps=>
    obtain ⟨vs,e1,e2⟩:=q
    obtain ⟨us,_,f2⟩:=q0
    exact ⟨vs,e1,e2.1,RepL.less (ρ:=ρ') (tr0:=ρ.tr) (hs:=ρ.hid) ht.symm x.hidM f2.2.bel e2.2⟩
  | frd ps=>
    obtain ⟨vs,e1,e2⟩:=q
    obtain ⟨us,_,f2⟩:=q0
    exact ⟨vs,e1,e2.1,RepL.less (ρ:=ρ') (tr0:=ρ.tr) (hs:=ρ.hid) ht.symm x.hidM f2.2.bel e2.2⟩
  | obj C ps=>
    obtain ⟨vs,e1,e2⟩:=q
    obtain ⟨us,_,f2⟩:=q0
    exact ⟨vs,e1,e2.1,RepL.less (ρ:=ρ') (tr0:=ρ.tr) (hs:=ρ.hid) ht.symm x.hidM f2.2.bel e2.2⟩
abbrev FN:=List PV -> Store -> Res PV
open Classical in
def fin (st : Store) (v : PV) (st' : Store) : Res PV:=if st <+: st' then okO st (fz st.length st' 16 v) else .ok v st'
open Classical in
def finX (st : Store) (x : Exc) (st' : Store) : Res PV:=if st <+: st' then (match x.fs with
  | none=>.exc x st
  | some (n,p)=>match fz st.length st' 16 p with
    | some q=>.exc ⟨x.cls,some (n,q)⟩ st
    | none=>.stuck) else .exc x st'
def callF (body : MS) (nl : Nat) : FN:=fun ps st=>match body (ps.map some ++ List.replicate (nl - ps.length) none) st with
  | .rt v st'=>fin st v st'
  | .nx _ st'=>fin st .non st'
  | .exc x st'=>finX st x st'
  | _=>.stuck
theorem fin_acc {mg : Str -> Option Value} {E : XK} {H : Hp} {ρ : Tk} {st st' : Store} {Q : VK} {p : PV} (R : Rel H ρ st) (h : Acc mg E H ρ (QV Q) (fin st p st')) : ∀ v H' ρ',Ext H ρ H' ρ' -> Rel H' ρ' st' -> Rep H' ρ' p v -> Q v H':=fun v H' ρ' x R' r=>by
  unfold fin at h
  by_cases hp : st <+: st'
  · rw [if_pos hp] at h
    cases e : fz st.length st' 16 p with
    | none=>rw [e] at h; exact h.elim
    | some q=>
      rw [e] at h
      obtain ⟨x2,R2⟩:=rel_back R x R' hp
      obtain ⟨rest,ht⟩:=x.pre
      rw [<- R.len] at e
      exact h H' ρ x2 R2 v (fz_rep (tr0:=ρ.tr) (hs:=ρ.hid) R' ht.symm x.hidM 16 r e)
  · rw [if_neg hp] at h
    exact h H' ρ' x R' v r
def spF (mg : Str -> Option Value) (n : Nat) (F : FN) : Sp:=fun vs H Q E=>vs.length = n /\ ∃ ρ st ps,Rel H ρ st /\ RepL H ρ ps vs /\ Acc mg E H ρ (QV Q) (F ps st)
theorem start_env {H : Hp} {ρ : Tk} {N : List Str} {ps : List PV} {vs : List V} (r : RepL H ρ ps vs) : EnvR H ρ (ps.map some ++ List.replicate (N.length - ps.length) none) (L2.start N vs):=by
  have hl:=r.length
  unfold L2.start
  refine ⟨by simp [hl],fun i p e=>?_⟩
  by_cases hi : i < ps.length
  · rw [List.getElem?_append_left (by simpa using hi),List.getElem?_map] at e
    rw [List.getElem?_append_left (by simp; omega),List.getElem?_map]
    cases q : ps[i]? with
    | none=>rw [q] at e; cases e
    | some p'=>
      rw [q] at e
      cases e
      obtain ⟨v,e1,e2⟩:=r.get q
      exact ⟨v,by rw [e1]; rfl,e2⟩
  · rw [List.getElem?_append_right (by simpa using hi),List.getElem?_replicate] at e
    split at e <;> cases e
section
variable {P : Program} {w : World} {K : PySem.W.Frag} {mg : Str -> Option Value} {base : Heap}
theorem fun_ok {x qual : Str} {st : Stmt} {f : Addr} {fd : FuncData} {N ps : List Str} {k : Nat} {m : MS} (F : Fun K x qual st f fd) (S : FnScope N ps (defScope st))
    (hb : ∀ (cdv : Value) (A : Around) (outer : List PySem.Env) (s : Shared) (H : Hp) (E : XK),Room k (A.deeper (PyProof.Rows.envOfC qual (defScope st) s.heap.objs.size f cdv)) -> SimB (cxD P w K mg base N qual (defScope st) f cdv A outer s H E) E (defBody st) m) :
    FnOk P w K mg base (CXD P w) (k + 1) f fd ps (spF mg ps.length (callF m N.length)):=by
  refine Fun.okD F S (fun vs H Q E h=>h.1) fun cdv A outer s H vs Q E hr hsp=>⟨_,pss_w,?_⟩
  obtain ⟨hl,ρ,st0,pvs,R,rl,hA⟩:=hsp
  refine (hb cdv A outer s H E hr).run _ (L2.start N vs) H ρ st0 _ R (start_env rl) ?_
  unfold callF at hA
  cases rr : m (pvs.map some ++ List.replicate (N.length - pvs.length) none) st0 with
  | rt v st1=>rw [rr] at hA; exact fin_acc R hA
  | nx Γ st1=>rw [rr] at hA; exact fun σ' H' ρ' x' R' G'=>fin_acc R hA .non H' ρ' x' R' rfl
  | bk Γ st1=>rw [rr] at hA; exact hA.elim
  | ct Γ st1=>rw [rr] at hA; exact hA.elim
  | stuck=>rw [rr] at hA; exact hA.elim
  | exc y st1=>
    rw [rr] at hA
    have hA : Acc mg E H ρ (QV Q) (finX st0 y st1):=hA
    intro C dv H' ρ' hm x' R' hf
    unfold finX at hA
    by_cases hp : st0 <+: st1
    · rw [if_pos hp] at hA
      obtain ⟨x2,R2⟩:=rel_back R x' R' hp
      obtain ⟨cls,fs⟩:=y
      cases fs with
      | none=>exact hA C dv H' ρ hm x2 R2 hf
      | some np=>
        obtain ⟨nm,p⟩:=np
        simp only at hA
        cases e : fz st0.length st1 16 p with
        | none=>rw [e] at hA; exact hA.elim
        | some q=>
          rw [e] at hA
          obtain ⟨rest,ht⟩:=x'.pre
          rw [<- R.len] at e
          obtain ⟨dx,v,e1,e2,e3,e4⟩:=hf
          refine hA C dv H' ρ hm x2 R2 ⟨dx,v,e1,e2,fun z=>e3 (z.imp (fun z=>by rw [<- ht]; exact List.mem_append_left _ z) (x'.hidM dx)),fz_rep (tr0:=ρ.tr) (hs:=ρ.hid) R' ht.symm x'.hidM 16 e4 e⟩
    · rw [if_neg hp] at hA
      exact hA C dv H' ρ' hm x' R' hf
end
theorem fun_ok2 {P : Program} {w : World} {K : PySem.W.Frag} {mg : Str -> Option Value} {base : Heap} {x qual : Str} {st : Stmt} {f : Addr} {fd : FuncData} {N ps : List Str} {k n nl : Nat} {m : MS} {FF : FN} (F : Fun K x qual st f fd) (S : FnScope N ps (defScope st)) (hn : ps.length = n) (hnl : N.length = nl) (hF : FF = callF m nl)
    (hb : ∀ (cdv : Value) (A : Around) (outer : List PySem.Env) (s : Shared) (H : Hp) (E : XK),Room k (A.deeper (PyProof.Rows.envOfC qual (defScope st) s.heap.objs.size f cdv)) -> SimB (cxD P w K mg base N qual (defScope st) f cdv A outer s H E) E (defBody st) m) :
    FnOk P w K mg base (CXD P w) (k + 1) f fd ps (spF mg n FF):=by
  subst hn; subst hnl; subst hF
  exact fun_ok F S hb
structure DefS (P : Program) (w : World) (K : PySem.W.Frag) (mg : Str -> Option Value) (base : Heap) (k : Nat) (x : Str) (n : Nat) (F : FN) : Prop where
  ex : ∃ (f : Addr) (fd : FuncData) (ps : List Str),FnOk P w K mg base (CXD P w) k f fd ps (spF mg n F) /\ mg x = some (.ref f) /\ PySem.W.keepIn K (.ref f) = true /\ Binds K fd ps [] /\ ps.length = n
def mCallF (n : Nat) (F : FN) (mr : Gam -> Store -> Res (List PV)) : ME:=fun Γ st=>(mr Γ st).bind fun ps st1=>if ps.length = n then F ps st1 else .stuck
section
variable {X : Cx} {E : XK} {k n : Nat} {x : Str} {F : FN} {p pos : Pos} {e : Expr} {es : List Expr} {mr : Gam -> Store -> Res (List PV)}
theorem se_call (D : DefS X.prog X.w X.K X.mg X.base k x n F) (hr : Room k X.A) (hx : Passes (CXD X.prog X.w) X E) (hg : Gl X x) (ha : SimA X E (e :: es) mr) (hdb : (x == ("__debug__" : Str)) = false:=by decide)
    (he : starEach (e :: es) X.env = (false,eval e X.env) :: starEach es X.env:=by rfl) (hpl : (backTo pos (starEach es X.env)).any (·.1) = false:=by rfl) : SimE X E (.Call (.Name x p) (e :: es) [] pos) (mCallF n F mr):=by
  obtain ⟨f,fd,ps,hF,hm,hk,hb,hl⟩:=D.ex
  exact ⟨fun Γ σ H ρ st Q R G h=>WE.of (pe_call hF hr hg hm hk hb .nil hx pa_w hdb he hpl) (ha.use R G h.bind fun qs st1 H1 ρ1 vs x1 R1 G1 r1 h1=>by
    by_cases hq : qs.length = n
    · rw [if_pos hq] at h1
      show spF X.mg n F (vs ++ []) H1 Q E
      rw [List.append_nil]
      exact ⟨by rw [<- r1.length]; exact hq,ρ1,st1,qs,R1,r1,h1⟩
    · rw [if_neg hq] at h1; exact h1.elim)⟩
end
end Sm
namespace Sm
open PySem PySem.Spec L2
@[simp] theorem bind_ok {α β : Type} (a : α) (st : Store) (f : α -> Store -> Res β) : (Res.ok a st).bind f = f a st:=rfl
@[simp] theorem bind_stuck {α β : Type} (f : α -> Store -> Res β) : (Res.stuck : Res α).bind f = .stuck:=rfl
@[simp] theorem bind_exc {α β : Type} (x : Exc) (st : Store) (f : α -> Store -> Res β) : (Res.exc x st : Res α).bind f = .exc x st:=rfl
@[simp] theorem sbind_ok {α : Type} (a : α) (st : Store) (f : α -> Store -> SR) : (Res.ok a st).sbind f = f a st:=rfl
@[simp] theorem sbind_stuck {α : Type} (f : α -> Store -> SR) : (Res.stuck : Res α).sbind f = .stuck:=rfl
@[simp] theorem sbind_exc {α : Type} (x : Exc) (st : Store) (f : α -> Store -> SR) : (Res.exc x st : Res α).sbind f = .exc x st:=rfl
@[simp] theorem mVar_eq (i : Nat) (Γ : Gam) (st : Store) : mVar i Γ st = (match Γ[i]? with | some (some p)=>.ok p st | _=>.stuck):=rfl
@[simp] theorem mC_eq (p : PV) (Γ : Gam) (st : Store) : mC p Γ st = .ok p st:=rfl
@[simp] theorem mOp_eq (o : OP) (a b : ME) (Γ : Gam) (st : Store) : mOp o a b Γ st = (a Γ st).bind fun x st1=>(b Γ st1).bind fun y st2=>o st2 x y:=rfl
@[simp] theorem asB_bl (b : Bool) (st : Store) : asB (.bl b) st = .ok b st:=rfl
@[simp] theorem toB_eq (m : ME) (Γ : Gam) (st : Store) : toB m Γ st = (m Γ st).bind asB:=rfl
def selB {α : Type} (x : PV) (A B : Res α) : Res α:=match x with
  | .bl true=>A
  | .bl false=>B
  | _=>.stuck
@[simp] theorem selB_bl {α : Type} (b : Bool) (A B : Res α) : selB (.bl b) A B = if b = true then A else B:=by cases b <;> rfl
@[simp] theorem mChain_eq (o o' : OP) (a b c : ME) (Γ : Gam) (st : Store) : mChain o o' a b c Γ st = (a Γ st).bind fun x st1=>(b Γ st1).bind fun y st2=>(o st2 x y).bind fun k st3=>selB k ((c Γ st3).bind fun z st4=>o' st4 y z) (.ok (.bl false) st3):=by
  unfold mChain
  refine congrArg _ (funext fun x=>funext fun st1=>congrArg _ (funext fun y=>funext fun st2=>congrArg _ (funext fun k=>funext fun st3=>?_)))
  cases k with
  | bl b=>cases b <;> rfl
  | _=>rfl
@[simp] theorem mAnd_eq (a b : ME) (Γ : Gam) (st : Store) : mAnd a b Γ st = (a Γ st).bind fun x st1=>selB x (b Γ st1) (.ok (.bl false) st1):=by
  unfold mAnd
  refine congrArg _ (funext fun x=>funext fun st1=>?_)
  cases x with
  | bl b=>cases b <;> rfl
  | _=>rfl
@[simp] theorem mOr_eq (a b : ME) (Γ : Gam) (st : Store) : mOr a b Γ st = (a Γ st).bind fun x st1=>selB x (.ok (.bl true) st1) (b Γ st1):=by
  unfold mOr
  refine congrArg _ (funext fun x=>funext fun st1=>?_)
  cases x with
  | bl b=>cases b <;> rfl
  | _=>rfl
@[simp] theorem mNot_eq (a : ME) (Γ : Gam) (st : Store) : mNot a Γ st = (a Γ st).bind fun x st1=>(match x with | .bl k=>.ok (.bl (!k)) st1 | _=>.stuck):=rfl
@[simp] theorem tAndM_eq (a b : MT) (Γ : Gam) (st : Store) : tAndM a b Γ st = (a Γ st).bind fun k st1=>if k = true then b Γ st1 else .ok false st1:=rfl
@[simp] theorem tOrM_eq (a b : MT) (Γ : Gam) (st : Store) : tOrM a b Γ st = (a Γ st).bind fun k st1=>if k = true then .ok true st1 else b Γ st1:=rfl
@[simp] theorem tNotM_eq (a : MT) (Γ : Gam) (st : Store) : tNotM a Γ st = (a Γ st).bind fun k st1=>.ok (!k) st1:=rfl
@[simp] theorem mNil_eq (Γ : Gam) (st : Store) : mNil Γ st = .ok [] st:=rfl
@[simp] theorem mCons_eq (m : ME) (mr : ML) (Γ : Gam) (st : Store) : mCons m mr Γ st = (m Γ st).bind fun p st1=>(mr Γ st1).bind fun ps st2=>.ok (p :: ps) st2:=rfl
@[simp] theorem mTup_eq (mr : ML) (Γ : Gam) (st : Store) : mTup mr Γ st = (mr Γ st).bind fun ps st1=>if ps.length <= lim then .ok (.tup ps) st1 else .stuck:=rfl
@[simp] theorem mLst_eq (mr : ML) (Γ : Gam) (st : Store) : mLst mr Γ st = (mr Γ st).bind fun ps st1=>if ps.length <= lim then .ok (.lst ps) st1 else .stuck:=rfl
@[simp] theorem mLstN_eq (mr : ML) (Γ : Gam) (st : Store) : mLstN mr Γ st = (mr Γ st).bind fun ps st1=>if ps.length <= lim then .ok ps st1 else .stuck:=rfl
@[simp] theorem mSl_eq (m : ME) (l h : Gam -> Store -> Res (Option Int)) (Γ : Gam) (st : Store) : mSl m l h Γ st = (m Γ st).bind fun p st1=>(l Γ st1).bind fun lo st2=>(h Γ st2).bind fun hi st3=>oSl st3 p lo hi:=rfl
@[simp] theorem mNoPart_eq (Γ : Gam) (st : Store) : mNoPart Γ st = .ok none st:=rfl
@[simp] theorem mPart_eq (m : ME) (Γ : Gam) (st : Store) : mPart m Γ st = (m Γ st).bind fun p st1=>(match p with | .int i=>.ok (some i) st1 | _=>.stuck):=rfl
@[simp] theorem mCall_eq (o : CF) (mr : ML) (Γ : Gam) (st : Store) : mCall o mr Γ st = (mr Γ st).bind fun ps st1=>o st1 ps:=rfl
@[simp] theorem mIsI_eq (T : String) (m : ME) (Γ : Gam) (st : Store) : mIsI T m Γ st = (m Γ st).bind fun p st1=>if frzd st1 p = true then .stuck else .ok (.bl (isI T (dpv st1 p))) st1:=rfl
@[simp] theorem frzd_non (st : Store) : frzd st .non = false:=rfl
@[simp] theorem frzd_bl (st : Store) (b : Bool) : frzd st (.bl b) = false:=rfl
@[simp] theorem frzd_int (st : Store) (b : Int) : frzd st (.int b) = false:=rfl
@[simp] theorem frzd_str (st : Store) (b : Str) : frzd st (.str b) = false:=rfl
@[simp] theorem frzd_tup (st : Store) (b : List PV) : frzd st (.tup b) = false:=rfl
@[simp] theorem frzd_lst (st : Store) (b : List PV) : frzd st (.lst b) = false:=rfl
@[simp] theorem frzd_fro (st : Store) (b : List PV) : frzd st (.fro b) = false:=rfl
@[simp] theorem frzd_dic (st : Store) : frzd st .dic = false:=rfl
@[simp] theorem frzd_ref (st : Store) (i : Nat) : frzd st (.ref i) = (match st[i]? with | some (.frd _)=>true | some (.obj _ _)=>true | _=>false):=rfl
@[simp] theorem dpv_non (st : Store) : dpv st .non = .non:=rfl
@[simp] theorem dpv_bl (st : Store) (b : Bool) : dpv st (.bl b) = (.bl b):=rfl
@[simp] theorem dpv_int (st : Store) (b : Int) : dpv st (.int b) = (.int b):=rfl
@[simp] theorem dpv_str (st : Store) (b : Str) : dpv st (.str b) = (.str b):=rfl
@[simp] theorem dpv_tup (st : Store) (b : List PV) : dpv st (.tup b) = (.tup b):=rfl
@[simp] theorem dpv_lst (st : Store) (b : List PV) : dpv st (.lst b) = (.lst b):=rfl
@[simp] theorem dpv_fro (st : Store) (b : List PV) : dpv st (.fro b) = (.fro b):=rfl
@[simp] theorem dpv_dc (st : Store) : dpv st .dic = .dic:=rfl
@[simp] theorem dpv_r (st : Store) (i : Nat) : dpv st (.ref i) = (match st[i]? with | some (.dic _)=>.dic | some (.dtp _)=>.dic | _=>.ref i):=rfl
@[simp] theorem mVal_eq (m : ML) (Γ : Gam) (st : Store) : mVal m Γ st = (m Γ st).bind fun ps st1=>.ok (.lst ps) st1:=rfl
@[simp] theorem mTrk_eq (m : ML) (Γ : Gam) (st : Store) : mTrk m Γ st = (m Γ st).bind fun ps st1=>.ok (.ref st1.length) (st1 ++ [.lst ps]):=rfl
@[simp] theorem mCompN_eq (cap : List (Option Nat)) (ga : GA) (mi : MI) (mt : MT) (me : ME) (Γ : Gam) (st : Store) : mCompN cap ga mi mt me Γ st = (mi Γ st).bind fun iw st1=>noX (compG ga mt me iw.2 (capG cap Γ) iw.1 st1):=rfl
@[simp] theorem mTrue_eq (Γ : Gam) (st : Store) : mTrue Γ st = .ok true st:=rfl
@[simp] theorem mCallF_eq (n : Nat) (F : FN) (mr : ML) (Γ : Gam) (st : Store) : mCallF n F mr Γ st = (mr Γ st).bind fun ps st1=>if ps.length = n then F ps st1 else .stuck:=rfl
@[simp] theorem mNext_eq (Γ : Gam) (st : Store) : mNext Γ st = .nx Γ st:=rfl
@[simp] theorem mSeqS_eq (a b : MS) (Γ : Gam) (st : Store) : mSeqS a b Γ st = (match a Γ st with | .nx Γ1 st1=>b Γ1 st1 | r=>r):=rfl
@[simp] theorem mExpr_eq (m : ME) (Γ : Gam) (st : Store) : mExpr m Γ st = (m Γ st).sbind fun _ st1=>.nx Γ st1:=rfl
@[simp] theorem mRet_eq (m : ME) (Γ : Gam) (st : Store) : mRet m Γ st = (m Γ st).sbind fun p st1=>.rt p st1:=rfl
@[simp] theorem mSet_eq (i : Nat) (m : ME) (Γ : Gam) (st : Store) : mSet i m Γ st = (m Γ st).sbind fun p st1=>.nx (Γ.set i (some p)) st1:=rfl
@[simp] theorem mIfS_eq (c : MT) (a b : MS) (Γ : Gam) (st : Store) : mIfS c a b Γ st = (c Γ st).sbind fun k st1=>if k = true then a Γ st1 else b Γ st1:=rfl
@[simp] theorem mFor_eq (ga : GA) (mi : MI) (b : MS) (Γ : Gam) (st : Store) : mFor ga mi b Γ st = (mi Γ st).sbind fun iw st1=>forG ga b iw.2 iw.1 Γ st1:=rfl
@[simp] theorem mSeq_eq (m : ME) (Γ : Gam) (st : Store) : mSeq m Γ st = (m Γ st).bind fun p st1=>(match srcOf st1 p with | some (xs,w)=>if xs.length <= lim then .ok (xs,w) st1 else .stuck | none=>.stuck):=rfl
@[simp] theorem mRange1_eq (mr : ML) (Γ : Gam) (st : Store) : mRange1 mr Γ st = (mr Γ st).bind fun ps st1=>(match ps with | [.int j]=>if -(lim : Int) <= j /\ j <= lim then .ok (rangeI 0 j.toNat,[]) st1 else .stuck | _=>.stuck):=rfl
@[simp] theorem mRange2_eq (mr : ML) (Γ : Gam) (st : Store) : mRange2 mr Γ st = (mr Γ st).bind fun ps st1=>(match ps with | [.int i,.int j]=>if -(lim : Int) <= i /\ i <= lim /\ -(lim : Int) <= j /\ j <= lim then .ok (rangeI i (j - i).toNat,[]) st1 else .stuck | _=>.stuck):=rfl
@[simp] theorem mBM_eq (f : MF) (mo : ME) (mr : ML) (Γ : Gam) (st : Store) : mBM f mo mr Γ st = (mo Γ st).bind fun p st1=>(match listOf st1 p with | some _=>(mr Γ st1).bind fun ps st2=>f st2 p ps | none=>.stuck):=rfl
@[simp] theorem mSetIx_eq (mo mi m : ME) (Γ : Gam) (st : Store) : mSetIx mo mi m Γ st = (m Γ st).sbind fun p st1=>(mo Γ st1).sbind fun o st2=>(mi Γ st2).sbind fun i st3=>(match setIx st3 o i p with | some st4=>.nx Γ st4 | none=>.stuck):=rfl
@[simp] theorem mRaise_eq (x : Str) (m : ME) (Γ : Gam) (st : Store) : mRaise x m Γ st = (m Γ st).sbind fun _ st1=>.exc ⟨x,none⟩ st1:=rfl
@[simp] theorem gaName_eq (i : Nat) (p : PV) (Γ : Gam) : gaName i p Γ = some (Γ.set i (some p)):=rfl
@[simp] theorem gaNil_eq (Γ : Gam) : gaNil [] Γ = some Γ:=rfl
@[simp] theorem noX_ok {α : Type} (a : α) (st : Store) : noX (Res.ok a st) = .ok a st:=rfl
@[simp] theorem noX_stuck {α : Type} : noX (Res.stuck : Res α) = .stuck:=rfl
@[simp] theorem okO_some {α : Type} (st : Store) (a : α) : okO st (some a) = .ok a st:=rfl
@[simp] theorem okO_none {α : Type} (st : Store) : okO st (none : Option α) = .stuck:=rfl
@[simp] theorem oI_eq (g : Int -> Int -> PV) (st : Store) (a b : Int) : oI g st (.int a) (.int b) = .ok (g a b) st:=rfl
@[simp] theorem oAdd_int (st : Store) (a b : Int) : oAdd st (.int a) (.int b) = .ok (.int (a + b)) st:=rfl
@[simp] theorem oAdd_tup (st : Store) (a b : List PV) : oAdd st (.tup a) (.tup b) = if a.length + b.length <= lim then .ok (.tup (a ++ b)) st else .stuck:=rfl
@[simp] theorem oMul_int (st : Store) (a b : Int) : oMul st (.int a) (.int b) = if (-(2 ^ 64) < a /\ a < 2 ^ 64) \/ (-(2 ^ 64) < b /\ b < 2 ^ 64) then .ok (.int (a * b)) st else .stuck:=rfl
@[simp] theorem oMul_tup (st : Store) (xs : List PV) (b : Int) : oMul st (.tup xs) (.int b) = if xs ≠ [] /\ 1 <= b /\ xs.length * b.toNat <= 4096 then .ok (.tup (List.replicate b.toNat xs).flatten) st else .stuck:=rfl
@[simp] theorem oMod_int (st : Store) (a b : Int) : oMod st (.int a) (.int b) = if 0 < b then .ok (.int (a % b)) st else .stuck:=rfl
@[simp] theorem oDiv_int (st : Store) (a b : Int) : oDiv st (.int a) (.int b) = if 0 < b /\ b < 1073741824 then .ok (.int (a / b)) st else .stuck:=rfl
@[simp] theorem oPow_int (st : Store) (a b : Int) : oPow st (.int a) (.int b) = if 0 <= b /\ b <= 1000000 /\ a.natAbs < 2 ^ 64 then .ok (.int (a ^ b.toNat)) st else .stuck:=rfl
@[simp] theorem oLt_int (st : Store) (a b : Int) : oLt st (.int a) (.int b) = .ok (.bl (decide (a < b))) st:=rfl
@[simp] theorem oEq_int (st : Store) (a b : Int) : oEq st (.int a) (.int b) = .ok (.bl (a == b)) st:=rfl
@[simp] theorem oNe_int (st : Store) (a b : Int) : oNe st (.int a) (.int b) = .ok (.bl (!(a == b))) st:=rfl
@[simp] theorem oEq_bl (st : Store) (a b : Bool) : oEq st (.bl a) (.bl b) = .ok (.bl (a == b)) st:=rfl
@[simp] theorem oNe_bl (st : Store) (a b : Bool) : oNe st (.bl a) (.bl b) = .ok (.bl (!(a == b))) st:=rfl
@[simp] theorem oEq_str (st : Store) (a b : Str) : oEq st (.str a) (.str b) = .ok (.bl (a == b)) st:=rfl
@[simp] theorem oNe_str (st : Store) (a b : Str) : oNe st (.str a) (.str b) = .ok (.bl (!(a == b))) st:=rfl
@[simp] theorem oIs_non (st : Store) (p : PV) : oIs st p .non = .ok (.bl (isNon p)) st:=rfl
@[simp] theorem oIs_bl (st : Store) (a b : Bool) : oIs st (.bl a) (.bl b) = .ok (.bl (a == b)) st:=rfl
@[simp] theorem lstOf_lst (st : Store) (xs : List PV) : lstOf st (.lst xs) = some xs:=rfl
@[simp] theorem listOf_lst (st : Store) (xs : List PV) : listOf st (.lst xs) = some xs:=rfl
@[simp] theorem listOf_fro (st : Store) (xs : List PV) : listOf st (.fro xs) = some xs:=rfl
@[simp] theorem seqOf_lst (st : Store) (xs : List PV) : seqOf st (.lst xs) = some xs:=rfl
@[simp] theorem seqOf_fro (st : Store) (xs : List PV) : seqOf st (.fro xs) = some xs:=rfl
@[simp] theorem seqOf_tup (st : Store) (xs : List PV) : seqOf st (.tup xs) = some xs:=rfl
@[simp] theorem srcOf_lst (st : Store) (xs : List PV) : srcOf st (.lst xs) = some (xs,[]):=rfl
@[simp] theorem srcOf_fro (st : Store) (xs : List PV) : srcOf st (.fro xs) = some (xs,[]):=rfl
@[simp] theorem srcOf_tup (st : Store) (xs : List PV) : srcOf st (.tup xs) = some (xs,[]):=rfl
theorem srcOf_ref {st : Store} {i : Nat} {xs : List PV} (h : st[i]? = some (.lst xs)) : srcOf st (.ref i) = some (xs,[(i,.lst xs)]):=by simp only [srcOf,h]
@[simp] theorem oIx_tup (st : Store) (xs : List PV) (i : Int) : oIx st (.tup xs) (.int i) = okO st (atI xs i):=rfl
@[simp] theorem oIx_lst (st : Store) (xs : List PV) (i : Int) : oIx st (.lst xs) (.int i) = okO st (atI xs i):=rfl
@[simp] theorem oIx_fro (st : Store) (xs : List PV) (i : Int) : oIx st (.fro xs) (.int i) = okO st (atI xs i):=rfl
@[simp] theorem oSl_tup (st : Store) (xs : List PV) (l h : Option Int) : oSl st (.tup xs) l h = .ok (.tup (cut xs l h)) st:=rfl
@[simp] theorem oSl_lst (st : Store) (xs : List PV) (l h : Option Int) : oSl st (.lst xs) l h = .ok (.lst (cut xs l h)) st:=rfl
@[simp] theorem oSl_fro (st : Store) (xs : List PV) (l h : Option Int) : oSl st (.fro xs) l h = .ok (.lst (cut xs l h)) st:=rfl
@[simp] theorem cLen_tup (st : Store) (xs : List PV) : cLen st [.tup xs] = .ok (.int xs.length) st:=rfl
@[simp] theorem cLen_lst (st : Store) (xs : List PV) : cLen st [.lst xs] = .ok (.int xs.length) st:=rfl
@[simp] theorem cLen_fro (st : Store) (xs : List PV) : cLen st [.fro xs] = .ok (.int xs.length) st:=rfl
@[simp] theorem cTuple_tup (st : Store) (xs : List PV) : cTuple st [.tup xs] = .ok (.tup xs) st:=rfl
@[simp] theorem cTuple_lst (st : Store) (xs : List PV) : cTuple st [.lst xs] = .ok (.tup xs) st:=rfl
@[simp] theorem cBls_lst (g : List Bool -> PV) (st : Store) (bs : List Bool) : cBls g st [.lst (bs.map .bl)] = .ok (g bs) st:=by
  simp only [cBls,seqOf_lst,Option.bind_some,bls_map]
@[simp] theorem cInts_lst (g : List Int -> Option PV) (st : Store) (ns : List Int) : cInts g st [.lst (ns.map .int)] = okO st (g ns):=by
  simp only [cInts,seqOf_lst,Option.bind_some,ints_map]
@[simp] theorem cInts_tup (g : List Int -> Option PV) (st : Store) (ns : List Int) : cInts g st [.tup (ns.map .int)] = okO st (g ns):=by
  simp only [cInts,seqOf_tup,Option.bind_some,ints_map]
@[simp] theorem cMax_int (st : Store) (a b : Int) : cMax st [.int a,.int b] = .ok (.int (if b > a then b else a)) st:=rfl
@[simp] theorem cMin_int (st : Store) (a b : Int) : cMin st [.int a,.int b] = .ok (.int (if b < a then b else a)) st:=rfl
@[simp] theorem wOk_nil' (st : Store) : wOk [] st = True:=by simp [wOk]
@[simp] theorem fin_bl (st : Store) (b : Bool) : fin st (.bl b) st = .ok (.bl b) st:=by simp [fin,fz]
@[simp] theorem fin_int (st : Store) (b : Int) : fin st (.int b) st = .ok (.int b) st:=by simp [fin,fz]
@[simp] theorem fin_non (st : Store) : fin st .non st = .ok .non st:=by simp [fin,fz]
@[simp] theorem fin_str (st : Store) (b : Str) : fin st (.str b) st = .ok (.str b) st:=by simp [fin,fz]
theorem fin_good {st : Store} {v : PV} (g : good 12 v = true) : fin st v st = .ok v st:=by
  simp only [fin,List.prefix_rfl,if_true,fz_good g (by decide : 12 < 16),okO_some]
theorem fin_goodA {st more : Store} {v : PV} (g : good 12 v = true) : fin st v (st ++ more) = .ok v st:=by
  simp only [fin,List.prefix_append,if_true,fz_good g (by decide : 12 < 16),okO_some]
theorem lim_eq : lim = 1000000:=rfl
theorem compG_on {α : Type} (g f : α -> PV) {ga : GA} {me : ME} {w : Wt} {Γ0 : Gam} {st : Store} (hw : wOk w st) {ys : List α} (h : ∀ y ∈ ys,∃ Γ1,ga (g y) Γ0 = some Γ1 /\ me Γ1 st = .ok (f y) st) : compG ga mTrue me w Γ0 (ys.map g) st = .ok (ys.map f) st:=by
  induction ys with
  | nil=>simp [compG,hw]
  | cons y ys ih=>
    obtain ⟨Γ1,h1,h2⟩:=h y List.mem_cons_self
    have ih:=ih fun z hz=>h z (List.mem_cons_of_mem _ hz)
    rw [List.map_cons,compG,if_pos hw,h1]
    simp [h2,ih]
@[simp] theorem cBls_map {α : Type} (g : List Bool -> PV) (st : Store) (ys : List α) (b : α -> Bool) : cBls g st [.lst (ys.map fun y=>.bl (b y))] = .ok (g (ys.map b)) st:=by
  rw [show (ys.map fun y=>PV.bl (b y)) = (ys.map b).map .bl by rw [List.map_map]; rfl,cBls_lst]
@[simp] theorem cInts_map {α : Type} (g : List Int -> Option PV) (st : Store) (ys : List α) (b : α -> Int) : cInts g st [.lst (ys.map fun y=>.int (b y))] = okO st (g (ys.map b)):=by
  rw [show (ys.map fun y=>PV.int (b y)) = (ys.map b).map .int by rw [List.map_map]; rfl,cInts_lst]
theorem forG_inv {α : Type} (g : α -> PV) {xs : List α} (I : Nat -> Gam -> Store -> Prop) {ga : GA} {body : MS} {w : Wt} (hw : ∀ i Γ st,I i Γ st -> wOk w st)
    (h : ∀ (i : Nat) x Γ st,xs[i]? = some x -> I i Γ st -> ∃ Γ1,ga (g x) Γ = some Γ1 /\ ∃ Γ2 st2,body Γ1 st = .nx Γ2 st2 /\ I (i + 1) Γ2 st2) {Γ : Gam} {st : Store} (h0 : I 0 Γ st) : ∃ Γ' st',forG ga body w (xs.map g) Γ st = .nx Γ' st' /\ I xs.length Γ' st':=by
  induction xs generalizing I Γ st with
  | nil=>exact ⟨Γ,st,by simp [forG,hw 0 Γ st h0],h0⟩
  | cons x xs ih=>
    obtain ⟨Γ1,h1,Γ2,st2,e2,i2⟩:=h 0 x Γ st rfl h0
    obtain ⟨Γ',st',e3,i3⟩:=ih (fun i=>I (i + 1)) (fun i Γ st z=>hw (i + 1) Γ st z) (fun i y Γ st hy z=>h (i + 1) y Γ st (by simpa using hy) z) i2
    refine ⟨Γ',st',?_,i3⟩
    rw [List.map_cons,forG,if_pos (hw 0 Γ st h0),h1]
    simp only [e2]
    exact e3
theorem forG_invL {α : Type} (g : α -> PV) {xs : List α} (I : List α -> Gam -> Store -> Prop) {ga : GA} {body : MS} {w : Wt} (hw : ∀ pre Γ st,I pre Γ st -> wOk w st)
    (h : ∀ pre x post Γ st,xs = pre ++ x :: post -> I pre Γ st -> ∃ Γ1,ga (g x) Γ = some Γ1 /\ ∃ Γ2 st2,body Γ1 st = .nx Γ2 st2 /\ I (pre ++ [x]) Γ2 st2) {Γ : Gam} {st : Store} (h0 : I [] Γ st) : ∃ Γ' st',forG ga body w (xs.map g) Γ st = .nx Γ' st' /\ I xs Γ' st':=by
  have key : ∀ (post pre : List α) (Γ : Gam) (st : Store),xs = pre ++ post -> I pre Γ st -> ∃ Γ' st',forG ga body w (post.map g) Γ st = .nx Γ' st' /\ I xs Γ' st':=by
    intro post
    induction post with
    | nil=>intro pre Γ st e i; exact ⟨Γ,st,by simp [forG,hw pre Γ st i],by rw [e,List.append_nil]; exact i⟩
    | cons x post ih=>
      intro pre Γ st e i
      obtain ⟨Γ1,h1,Γ2,st2,e2,i2⟩:=h pre x post Γ st e i
      obtain ⟨Γ',st',e3,i3⟩:=ih (pre ++ [x]) Γ2 st2 (by rw [e]; simp) i2
      refine ⟨Γ',st',?_,i3⟩
      rw [List.map_cons,forG,if_pos (hw pre Γ st i),h1]
      simp only [e2]
      exact e3
  exact key xs [] Γ st rfl h0
theorem atI_map {α : Type} (f : α -> PV) (xs : List α) (i : Int) : atI (xs.map f) i = (atI xs i).map f:=by
  unfold atI
  rw [List.length_map]
  cases ixN xs.length i with
  | none=>rfl
  | some j=>simp [List.getElem?_map]
theorem atI_get {α : Type} {xs : List α} {i : Nat} {x : α} (h : xs[i]? = some x) : atI xs (i : Int) = some x:=by
  have hl:=(List.getElem?_eq_some_iff.mp h).1
  unfold atI ixN
  rw [if_pos (by omega),if_pos (by omega)]
  simpa using h
theorem cut_map {α : Type} (f : α -> PV) (xs : List α) (l h : Option Int) : cut (xs.map f) l h = (cut xs l h).map f:=by
  unfold cut
  rw [List.length_map,<- List.map_drop,<- List.map_take]
theorem rangeI0 (n : Nat) : rangeI 0 n = (List.range n).map fun (k : Nat)=>PV.int (k : Int):=by
  unfold rangeI
  refine List.map_congr_left fun k _=>?_
  rw [Int.zero_add]
@[simp] theorem tr_get {α : Type} (st l : List α) (c : α) : (st ++ c :: l)[st.length]? = some c:=by
  rw [List.getElem?_append_right (Nat.le_refl _),Nat.sub_self]; rfl
@[simp] theorem tr_get1 {α : Type} (st l : List α) (c d : α) : (st ++ c :: d :: l)[st.length + 1]? = some d:=by
  rw [List.getElem?_append_right (by omega)]
  rw [show st.length + 1 - st.length = 1 by omega]; rfl
@[simp] theorem tr_set {α : Type} (st l : List α) (c d : α) : (st ++ c :: l).set st.length d = st ++ d :: l:=by
  rw [List.set_append_right _ _ (Nat.le_refl _),Nat.sub_self]; rfl
@[simp] theorem tr_set1 {α : Type} (st l : List α) (c c' d : α) : (st ++ c :: c' :: l).set (st.length + 1) d = st ++ c :: d :: l:=by
  rw [List.set_append_right _ _ (by omega),show st.length + 1 - st.length = 1 by omega]; rfl
@[simp] theorem chg_ref (st : Store) (i : Nat) (g : List PV -> Option (PV × List PV)) : chg st (.ref i) g = (match st[i]? with | some (.lst xs)=>(match g xs with | some (r,ys)=>.ok r (st.set i (.lst ys)) | none=>.stuck) | _=>.stuck):=rfl
@[simp] theorem lstOf_r (st : Store) (i : Nat) : lstOf st (.ref i) = (match st[i]? with | some (.lst xs)=>some xs | _=>none):=rfl
@[simp] theorem listOf_r (st : Store) (i : Nat) : listOf st (.ref i) = (match st[i]? with | some (.lst xs)=>some xs | _=>none):=rfl
@[simp] theorem seqOf_r (st : Store) (i : Nat) : seqOf st (.ref i) = (match st[i]? with | some (.lst xs)=>some xs | _=>none):=rfl
@[simp] theorem srcOf_r (st : Store) (i : Nat) : srcOf st (.ref i) = (match st[i]? with | some (.lst xs)=>some (xs,[(i,.lst xs)]) | _=>none):=rfl
@[simp] theorem mtAppend_eq (st : Store) (p y : PV) : mtAppend st p [y] = chg st p fun xs=>if xs.length < lim then some (.non,xs ++ [y]) else none:=rfl
@[simp] theorem cTuple_r (st : Store) (i : Nat) : cTuple st [.ref i] = (match st[i]? with | some (.lst xs)=>.ok (.tup xs) st | _=>.stuck):=by
  unfold cTuple; simp only [seqOf_r]
  cases st[i]? with
  | none=>rfl
  | some c=>cases c <;> rfl
@[simp] theorem cLen_r (st : Store) (i : Nat) : cLen st [.ref i] = (match st[i]? with | some (.lst xs)=>.ok (.int xs.length) st | _=>.stuck):=by
  unfold cLen; simp only [seqOf_r]
  cases st[i]? with
  | none=>rfl
  | some c=>cases c <;> rfl
@[simp] theorem oIx_r (st : Store) (i : Nat) (j : Int) : oIx st (.ref i) (.int j) = (match st[i]? with | some (.lst xs)=>okO st (atI xs j) | _=>.stuck):=by
  unfold oIx; simp only [seqOf_r]
  cases st[i]? with
  | none=>rfl
  | some c=>cases c <;> rfl
@[simp] theorem setIx_r (st : Store) (k : Nat) (j : Int) (p : PV) : setIx st (.ref k) (.int j) p = (match st[k]? with | some (.lst xs)=>(ixN xs.length j).map fun n=>st.set k (.lst (xs.set n p)) | _=>none):=rfl
theorem cut_front {α : Type} (xs : List α) (k : Nat) : cut xs none (some (k : Int)) = xs.take k:=by
  unfold cut
  rw [HT.sIx_none,HT.sIx_nat,List.drop_zero,Nat.sub_zero]
  rcases Nat.le_total k xs.length with h | h
  · rw [Nat.min_eq_left h]
  · rw [Nat.min_eq_right h,List.take_length,List.take_of_length_le h]
theorem cut_back {α : Type} (xs : List α) (k : Nat) : cut xs (some (k : Int)) none = xs.drop k:=by
  unfold cut
  rw [HT.sIx_none,HT.sIx_nat]
  rcases Nat.le_total k xs.length with h | h
  · rw [Nat.min_eq_left h,List.take_of_length_le (by rw [List.length_drop]; omega)]
  · rw [Nat.min_eq_right h,List.drop_length,List.drop_of_length_le h]; simp
end Sm
namespace Sm
open PySem PySem.Spec L2
theorem getD_some {α : Type} {l : List α} {j : Nat} (h : j < l.length) (d : α) : l[j]? = some (l.getD j d):=by
  rw [List.getD,List.getElem?_eq_getElem h]; rfl
def ListAt (st : Store) (V : PV) (xs : List PV) : Prop:=V = .lst xs \/ V = .fro xs \/ ∃ i,V = .ref i /\ st[i]? = some (.lst xs)
theorem ListAt.ix {st : Store} {V : PV} {xs : List PV} (h : ListAt st V xs) (j : Int) : oIx st V (.int j) = okO st (atI xs j):=by
  rcases h with rfl | rfl | ⟨i,rfl,e⟩
  · rfl
  · rfl
  · rw [oIx_r,e]
theorem compG_inv {α : Type} (g : α -> PV) {xs : List α} (I : Nat -> List PV -> Store -> Prop) {ga : GA} {me : ME} {w : Wt} {Γ0 : Gam} (hw : ∀ i out st,I i out st -> wOk w st)
    (h : ∀ (i : Nat) x out st,xs[i]? = some x -> I i out st -> ∃ Γ1,ga (g x) Γ0 = some Γ1 /\ ∃ v st2,me Γ1 st = .ok v st2 /\ I (i + 1) (out ++ [v]) st2) {st : Store} (h0 : I 0 [] st) : ∃ out st',compG ga mTrue me w Γ0 (xs.map g) st = .ok out st' /\ I xs.length out st':=by
  have key : ∀ (ys : List α) (k : Nat) (pre : List PV) (st : Store),(∀ i,ys[i]? = xs[k + i]?) -> k + ys.length = xs.length -> I k pre st -> ∃ out st',compG ga mTrue me w Γ0 (ys.map g) st = .ok out st' /\ I xs.length (pre ++ out) st':=by
    intro ys
    induction ys with
    | nil=>
      intro k pre st e e2 i
      refine ⟨[],st,by simp [compG,hw k pre st i],?_⟩
      rw [List.append_nil,<- e2]; exact i
    | cons y ys ih=>
      intro k pre st e e2 i
      have e0 : xs[k]? = some y:=by have:=e 0; simpa using this.symm
      obtain ⟨Γ1,h1,v,st2,h2,i2⟩:=h k y pre st e0 i
      obtain ⟨out,st',h3,i3⟩:=ih (k + 1) (pre ++ [v]) st2 (fun i=>by
        have:=e (i + 1)
        rw [List.getElem?_cons_succ] at this
        rw [this]; congr 1; omega) (by rw [<- e2,List.length_cons]; omega) i2
      refine ⟨v :: out,st',?_,by simpa using i3⟩
      rw [List.map_cons,compG,if_pos (hw k pre st i),h1]
      simp [mTrue,h2,h3]
  obtain ⟨out,st',h1,h2⟩:=key xs 0 [] st (fun i=>by simp) (by simp) h0
  exact ⟨out,st',h1,by simpa using h2⟩
theorem peqL_self : ∀ {xs : List PV},(∀ x ∈ xs,peq x x = true) -> peqL xs xs = true
  | [],_=>rfl
  | x :: xs,h=>by
    rw [peqL,h x List.mem_cons_self,peqL_self fun y hy=>h y (List.mem_cons_of_mem _ hy)]; rfl
theorem peq_self : ∀ {n : Nat} {p : PV},good n p = true -> peq p p = true
  | n,.non,_=>rfl
  | n,.bl b,_=>by simp [peq]
  | n,.int b,_=>by simp [peq]
  | n,.str b,_=>by simp [peq]
  | n,.ref _,g=>by cases n <;> simp [good] at g
  | n,.dic,g=>by cases n <;> simp [good] at g
  | 0,.tup _,g=>by simp [good] at g
  | 0,.lst _,g=>by simp [good] at g
  | 0,.fro _,g=>by simp [good] at g
  | n + 1,.tup xs,g=>by
    rw [peq]; refine peqL_self fun x hx=>peq_self (n:=n) ?_
    simp [good] at g; exact g x hx
  | n + 1,.lst xs,g=>by
    rw [peq]; refine peqL_self fun x hx=>peq_self (n:=n) ?_
    simp [good] at g; exact g x hx
  | n + 1,.fro xs,g=>by
    rw [peq]; refine peqL_self fun x hx=>peq_self (n:=n) ?_
    simp [good] at g; exact g x hx
end Sm
namespace Sm
open PySem PySem.Spec L2
def callK (body : MS) (nl : Nat) : FN:=fun ps st=>match body (ps.map some ++ List.replicate (nl - ps.length) none) st with
  | .rt v st'=>.ok v st'
  | .nx _ st'=>.ok .non st'
  | .exc x st'=>.exc x st'
  | _=>.stuck
section
variable {P : Program} {w : World} {K : PySem.W.Frag} {mg : Str -> Option Value} {base : Heap}
theorem fun_okK {x qual : Str} {st : Stmt} {f : Addr} {fd : FuncData} {N ps : List Str} {k : Nat} {m : MS} (F : Fun K x qual st f fd) (S : FnScope N ps (defScope st))
    (hb : ∀ (cdv : Value) (A : Around) (outer : List PySem.Env) (s : Shared) (H : Hp) (E : XK),Room k (A.deeper (PyProof.Rows.envOfC qual (defScope st) s.heap.objs.size f cdv)) -> SimB (cxD P w K mg base N qual (defScope st) f cdv A outer s H E) E (defBody st) m) :
    FnOk P w K mg base (CXD P w) (k + 1) f fd ps (spF mg ps.length (callK m N.length)):=by
  refine Fun.okD F S (fun vs H Q E h=>h.1) fun cdv A outer s H vs Q E hr hsp=>⟨_,pss_w,?_⟩
  obtain ⟨hl,ρ,st0,pvs,R,rl,hA⟩:=hsp
  refine (hb cdv A outer s H E hr).run _ (L2.start N vs) H ρ st0 _ R (start_env rl) ?_
  unfold callK at hA
  cases rr : m (pvs.map some ++ List.replicate (N.length - pvs.length) none) st0 with
  | rt v st1=>rw [rr] at hA; exact fun v H' ρ' x R' r=>hA H' ρ' x R' v r
  | nx Γ st1=>rw [rr] at hA; exact fun σ' H' ρ' x' R' G'=>hA H' ρ' x' R' .non rfl
  | bk Γ st1=>rw [rr] at hA; exact hA.elim
  | ct Γ st1=>rw [rr] at hA; exact hA.elim
  | stuck=>rw [rr] at hA; exact hA.elim
  | exc y st1=>rw [rr] at hA; exact hA
end
theorem fun_ok2K {P : Program} {w : World} {K : PySem.W.Frag} {mg : Str -> Option Value} {base : Heap} {x qual : Str} {st : Stmt} {f : Addr} {fd : FuncData} {N ps : List Str} {k n nl : Nat} {m : MS} {FF : FN} (F : Fun K x qual st f fd) (S : FnScope N ps (defScope st)) (hn : ps.length = n) (hnl : N.length = nl) (hF : FF = callK m nl)
    (hb : ∀ (cdv : Value) (A : Around) (outer : List PySem.Env) (s : Shared) (H : Hp) (E : XK),Room k (A.deeper (PyProof.Rows.envOfC qual (defScope st) s.heap.objs.size f cdv)) -> SimB (cxD P w K mg base N qual (defScope st) f cdv A outer s H E) E (defBody st) m) :
    FnOk P w K mg base (CXD P w) (k + 1) f fd ps (spF mg n FF):=by
  subst hn; subst hnl; subst hF
  exact fun_okK F S hb
end Sm
namespace Sm
open PySem PySem.Spec PyProof.Rows L2
section
variable {X : Cx} {E : XK}
theorem op_fdivB : OpR X (binaryOp .FloorDiv) (rI (fun _ j=>0 < j /\ j < 1267650600228229401496703205376) fun i j=>.int (i / j)):=opI fun i j _ _ _ _ _ hc q=>by
  have h1 : (0 : Int) < j:=hc.1
  have h2 : j < 1267650600228229401496703205376:=hc.2
  refine floordiv_int (by omega) (by rw [Int.fdiv_eq_ediv_of_nonneg i (by omega)]; exact q) (.inl (PyProof.noPylong_of_log2 ?_))
  have : j.natAbs.log2 < 100:=(Nat.log2_lt (by omega)).mpr (by
    rw [show (2 : Nat) ^ 100 = 1267650600228229401496703205376 by decide]
    omega)
  omega
def oDivB : OP:=fun st p q=>match p,q with
  | .int a,.int b=>if 0 < b /\ b < 1267650600228229401496703205376 then .ok (.int (a / b)) st else .stuck
  | _,_=>.stuck
theorem os_divB : OpS X E (binaryOp .FloorDiv) oDivB:=⟨fun H ρ st p q x y Q R rp rq h=>by
  unfold oDivB at h
  split at h
  · cases rp; cases rq
    split at h
    · rename_i hc
      exact WO.of op_fdivB ⟨_,_,rfl,rfl,hc,now R h rfl⟩
    · exact h.elim
  · exact h.elim⟩
@[simp] theorem oDivB_int (st : Store) (a b : Int) : oDivB st (.int a) (.int b) = if 0 < b /\ b < 1267650600228229401496703205376 then .ok (.int (a / b)) st else .stuck:=rfl
end
end Sm
namespace Sm
open PySem PySem.Spec L2
theorem same_add {H0 H : Hp} (h : Same H0 H) {p : Addr} {o : HO} (hp : H p = none) : Same H0 (upd H p o):=fun b u e=>by
  have:=h b u e
  rw [upd_ne fun z=>by rw [z,hp] at this; cases this]; exact this
structure Nms (mg : Str -> Option Value) (c : Nat -> Addr) : Prop where
  m0 : mg "WharfError" = some (.ref (c 0))
  m1 : mg "NoTable" = some (.ref (c 1))
  m2 : mg "NoHouse" = some (.ref (c 2))
  m3 : mg "NoDeed" = some (.ref (c 3))
  m4 : mg "NoLetter" = some (.ref (c 4))
  m5 : mg "NoStand" = some (.ref (c 5))
  m6 : mg "NoRoad" = some (.ref (c 6))
  m7 : mg "NoPlan" = some (.ref (c 7))
  m8 : mg "NoBook" = some (.ref (c 8))
  m9 : mg "NoManner" = some (.ref (c 9))
  m10 : mg "TooMany" = some (.ref (c 10))
  m11 : mg "NoText" = some (.ref (c 11))
  m12 : mg "NoRow" = some (.ref (c 12))
  m13 : mg "NoName" = some (.ref (c 13))
  m14 : mg "Short" = some (.ref (c 14))
  ve : mg "ValueError" = none
  isi : mg "isinstance" = none
structure TgtS (K : PySem.W.Frag) (c : Nat -> Addr) (t : Nat) : Prop where
  xc : XCls K (c t)
  ve : PySem.W.kitOne K (.ref (c t)) (.type "ValueError") = some true
  ex : PySem.W.exmOne K (.ref (c t)) (.ref (c 0)) = some true
  k : ∀ i,1 <= i -> i <= 14 -> PySem.W.kitOne K (.ref (c t)) (.ref (c i)) = some (decide (i = t))
theorem boot_ValueError : bootBuiltins "ValueError" = some (.type "ValueError"):=by decide +kernel
theorem keepE {H : Hp} {e p : Addr} {v o : HO} (h : H e = some v) (hp : H p = none) : upd H p o e = some v:=by
  rw [upd_ne fun z=>by rw [z,hp] at h; cases h]; exact h
theorem noB (bs : List Bool) (j : Nat) (h : (bs.take j).all (fun b=>!b) = true) (hl : j <= bs.length) : ∀ m,m < j -> bs[m]? = some false:=fun m hm=>by
  have hb : m < bs.length:=by omega
  have:=List.all_eq_true.mp h (bs[m]) (List.mem_take_iff_getElem.mpr ⟨m,by omega,rfl⟩)
  rw [List.getElem?_eq_getElem hb]
  cases q : bs[m] with
  | false=>rfl
  | true=>rw [q] at this; cases this
section
variable {X : Cx}
def tStrs (ss : List Str) : TA:=fun σ H Q=>Q (ss.map V.str) H
theorem pa_strs : ∀ (l : List (Str × Nat × Pos)),PA X (l.map fun p=>Expr.Constant (.str p.1) p.2.1 p.2.2) (tStrs (l.map (·.1)))
  | []=>fun pos pins s σ H Q I h=>pa_nil pos pins s σ H Q I h
  | (x,j,p) :: l=>fun pos pins s σ H Q I h=>pa_cons (e:=.Constant (.str x) j p) pe_str (pa_strs l) rfl pos pins s σ H Q I h
theorem pa_strsE (ss : List Str) (l : List (Nat × Pos)) {es : List Expr} (h : es = (ss.zip l).map (fun p=>Expr.Constant (.str p.1) p.2.1 p.2.2)) (hl : ss.length = l.length:=by rfl) : PA X es (tStrs ss):=by
  have e : ((ss.zip l).map fun p=>((p.1,p.2.1,p.2.2) : Str × Nat × Pos)).map (fun p=>Expr.Constant (.str p.1) p.2.1 p.2.2) = es:=by rw [h,List.map_map]; rfl
  have e2 : ((ss.zip l).map fun p=>((p.1,p.2.1,p.2.2) : Str × Nat × Pos)).map (·.1) = ss:=by
    rw [List.map_map]
    show (ss.zip l).map Prod.fst = ss
    exact List.map_fst_zip (by omega)
  have:=pa_strs (X:=X) ((ss.zip l).map fun p=>(p.1,p.2.1,p.2.2))
  rw [e,e2] at this
  exact this
end
end Sm
namespace Sm
open PySem PySem.Spec L2
abbrev tryCx (X : Cx) (pins : List (Addr × Obj)) (E : XK) : Cx:={ X with pn:=X.pn ++ pins,xe:=fun v s'=>∃ σ1 H1 s1,Inv X pins σ1 H1 s1 /\ CXD X.prog X.w X.stack H1 s1 E v s' }
section
variable {X : Cx} {pins pins' : List (Addr × Obj)} {E : XK} {σ : St} {H : Hp} {s : Shared}
theorem tryIn (I : Inv X pins σ H s) : Inv (tryCx X pins E) [] σ H s:=
  ⟨⟨I.ok.mod,I.ok.kind,I.ok.glob,I.ok.blt,I.ok.above,I.ok.inj,I.ok.has,I.ok.cab,I.ok.hd,I.ok.frames,I.ok.stk,I.ok.exf,I.ok.bs,I.ok.bsz,I.ok.noex,I.ok.exfs,I.ok.funs,I.ok.frf⟩,I.os,I.bare,I.base,I.loc,I.cell,I.free,I.freeC,fun p hp=>I.pin p (by simpa using hp),I.hok,I.len⟩
theorem tryOut (I : Inv (tryCx X pins E) pins' σ H s) : Inv X pins σ H s:=
  ⟨⟨I.ok.mod,I.ok.kind,I.ok.glob,I.ok.blt,I.ok.above,I.ok.inj,I.ok.has,I.ok.cab,I.ok.hd,I.ok.frames,I.ok.stk,I.ok.exf,I.ok.bs,I.ok.bsz,I.ok.noex,I.ok.exfs,I.ok.funs,I.ok.frf⟩,I.os,I.bare,I.base,I.loc,I.cell,I.free,I.freeC,fun p hp=>I.pin p (List.mem_append_left _ hp),I.hok,I.len⟩
theorem pass_try : Passes (CXD X.prog X.w) (tryCx X pins E) E:=fun _ σ H s _ _ I h=>⟨σ,H,s,tryOut I,h⟩
end
def tryE (X : Cx) (CC : Addr) (i L : Nat) (ts : Addr -> TS) (D : Ends) : XK:=fun cls dv H'=>∃ C,cls = .ref C /\ PySem.W.exmOne X.K cls (.ref CC) = some true /\ ∀ a,H' a = none -> ∀ σ1 : St,σ1.length = L -> ts a { nx:=fun σ3 H3=>D.nx (σ3.set i none) H3,rt:=D.rt } (σ1.set i (some (.ref a))) (upd H' a (.ext (IsXD a C dv)))
section
variable {X : Cx} {body : List Stmt} {mb : MS} {cn n : Str} {i : Nat} {CC : Addr} {np hpos pos : Pos} {b₀ : Stmt} {suite : List Stmt} {ts : Addr -> TS} {Γ : Gam} {σ : St} {H : Hp} {ρ : Tk} {st : Store} {D : Ends}
theorem try_run (hb : ∀ pins E,SimB (tryCx X pins E) E body mb) (hN : X.N.Nodup) (hi : X.N[i]? = some n) (hk : X.env.scope.names.lookup n = some .local) (hsuite : ∀ a,PSs (suiteCx X a) (b₀ :: suite) (ts a)) (hcm : X.mg cn = some (.ref CC)) (hgc : Gl X cn) (hex : ∀ b,b ∉ X.ex) (hst : X.stack = X.env :: X.outer) (hfr : X.env.frame = some X.env.locals) (hdbc : (cn == ("__debug__" : Str)) = false)
    (R : Rel H ρ st) (G : EnvR H ρ Γ σ) (h : AccS X.mg (tryE X CC i σ.length ts D) D H ρ (mb Γ st)) : WS X (.Try body [.ExceptHandler (some (.Name cn np)) (some n) (b₀ :: suite) hpos] [] [] pos) D σ H:=fun pins s I=>by
  refine wpAny_Try_except (wpAny_mono ((hb pins _).run Γ σ H ρ st D R G h [] s (tryIn I)) (fun f s' hf=>?_) fun v s' hv=>?_)
  · cases f with
    | next=>
      obtain ⟨σ',H',I',q⟩:=hf
      exact wpAny_execs_nil ⟨σ',H',tryOut I',q⟩
    | brk=>
      obtain ⟨σ',H',I',q⟩:=hf
      exact ⟨σ',H',tryOut I',q⟩
    | cont=>
      obtain ⟨σ',H',I',q⟩:=hf
      exact ⟨σ',H',tryOut I',q⟩
    | ret u=>
      obtain ⟨v,σ',H',I',r,q⟩:=hf
      exact ⟨v,σ',H',tryOut I',r,q⟩
  · obtain ⟨σ1,H1,s1,I1,a,cls,a0,dv,H',B,rfl,Fl,dd,C,rfl,hok,q⟩:=hv
    exact handleR hN hi hk hex hst hfr hgc hcm hok I1 Fl dd (hsuite a) (q a Fl.new.2 σ1 (I1.len.trans I.len.symm)) hdbc
end
end Sm
namespace Sm
open PySem PySem.Spec PyProof.Rows L2
section
variable {X : Cx} {E : XK}
theorem op_fdivC : OpR X (binaryOp .FloorDiv) (rI (fun _ j=>0 < j /\ j.natAbs.log2 < 8000) fun i j=>.int (i / j)):=opI fun i j _ _ _ _ _ hc q=>by
  have h1 : (0 : Int) < j:=hc.1
  have h2:=hc.2
  refine floordiv_int (by omega) (by rw [Int.fdiv_eq_ediv_of_nonneg i (by omega)]; exact q) (.inl (PyProof.noPylong_of_log2 ?_))
  omega
def oDivC : OP:=fun st p q=>match p,q with
  | .int a,.int b=>if 0 < b /\ b.natAbs.log2 < 8000 then .ok (.int (a / b)) st else .stuck
  | _,_=>.stuck
theorem os_divC : OpS X E (binaryOp .FloorDiv) oDivC:=⟨fun H ρ st p q x y Q R rp rq h=>by
  unfold oDivC at h
  split at h
  · cases rp; cases rq
    split at h
    · rename_i hc
      exact WO.of op_fdivC ⟨_,_,rfl,rfl,hc,now R h rfl⟩
    · exact h.elim
  · exact h.elim⟩
theorem oDivC_int (st : Store) (a : Int) (m : Nat) (h1 : 0 < m) (h2 : m < 2 ^ 8000) : oDivC st (.int a) (.int m) = .ok (.int (a / m)) st:=by
  show (if 0 < (m : Int) /\ (m : Int).natAbs.log2 < 8000 then _ else _) = _
  rw [if_pos ⟨by omega,by
    rw [Int.natAbs_natCast]
    exact (Nat.log2_lt (by omega)).mpr h2⟩]
end
end Sm
namespace Sm
open PySem PySem.Spec L2
section
variable {X : Cx} {E : XK} {pos : Pos} {tg : Expr} {e a b : Expr} {m ma mb : ME}
def oLe2 : OP:=fun st p q=>match p,q with
  | .int a,.int b=>.ok (.bl (decide (a <= b))) st
  | .str a,.str b=>.ok (.bl (!decide (b.cps.toList < a.cps.toList))) st
  | _,_=>.stuck
theorem os_le2 : OpS X E (compareOp .LtE) oLe2:=⟨fun H ρ st p q x y Q R rp rq h=>by
  unfold oLe2 at h
  split at h
  · cases rp; cases rq
    exact WO.of op_le ⟨_,_,rfl,rfl,now R h rfl⟩
  · cases rp; cases rq
    exact WO.of op_le_str ⟨_,_,rfl,rfl,now R h rfl⟩
  · exact h.elim⟩
def oIxS : OP:=fun st p q=>match p,q with
  | .str z,.int i=>match atI z.cps.toList i with
    | some c=>if z.length <= lim then .ok (.str ⟨#[c]⟩) st else .stuck
    | none=>.stuck
  | _,_=>.stuck
theorem se_ixS (ha : SimE X E a ma) (hb : SimE X E b mb) (hs : PlainIx b:=by exact fun _ _=>rfl) : SimE X E (.Subscript a b pos) (mOp oIxS ma mb):=
  ⟨fun Γ σ H ρ st Q R G h=>WE.of (pe_ix ix_seq pe_w pe_w hs) (ha.use R G h.bind fun p st1 H1 ρ1 v x1 R1 G1 r1 h1=>hb.use R1 G1 h1.bind fun q st2 H2 ρ2 u x2 R2 G2 r2 h2=>by
    unfold oIxS at h2
    split at h2
    · rename_i z i
      cases r1; cases r2
      split at h2
      · rename_i c ec
        split at h2
        · rename_i hl
          exact .inr (.inr ⟨z,i,c,rfl,rfl,le_lim hl,ec,now R2 h2 rfl⟩)
        · exact h2.elim
      · exact h2.elim
    · exact h2.elim)⟩
def signsP (x : Str) : List PV:=x.cps.toList.map fun c=>.str ⟨#[c]⟩
def mStrI (m : ME) : MI:=fun Γ st=>(m Γ st).bind fun p st1=>match p with
  | .str x=>if x.length <= lim then .ok (signsP x,[]) st1 else .stuck
  | _=>.stuck
theorem src_str {H : Hp} {ρ : Tk} (x : Str) : Src (Itst x) (signsP x) [] H ρ:=by
  have hl : (signsP x).length = x.cps.size:=by unfold signsP; rw [List.length_map,Array.length_toList]
  refine ⟨fun H2 ρ2 st2 _ _ _=>?_,fun H2 ρ2 st2 _ _ _ i hi=>?_,fun H2 ρ2 st2 _ _ _ i p hp y H3 hy=>?_⟩
  · show x.cps.size <= _; omega
  · show i < x.cps.size; omega
  · obtain ⟨rfl,c,hc,rfl⟩:=hy
    refine ⟨Same.refl _,?_⟩
    unfold signsP at hp
    rw [List.getElem?_map,Array.getElem?_toList,hc] at hp
    cases hp
    exact rfl
theorem si_str (ha : SimE X E e m) : SimI X E tg e (mStrI m):=⟨fun Γ σ H ρ st P R' R G h k=>by
  have hb : Acc X.mg E H ρ _ (m Γ st):=Acc.bind h
  refine WI.of (pi_str pe_w) (ha.use' R G hb fun p st1 H1 ρ1 v eq x1 R1 G1 r1 h1=>?_)
  split at h1
  · rename_i x
    split at h1
    · rename_i hl
      cases r1
      have hl2 : (signsP x).length <= lim:=by unfold signsP; rw [List.length_map,Array.length_toList]; exact hl
      exact ⟨x,rfl,k (signsP x,[]) st1 H1 ρ1 _ (by simp only [mStrI,eq,Res.bind,if_pos hl]) x1 R1 G1 (wOk_nil _) (le_lim hl2) (src_str x) (h1 H1 ρ1 (Ext.refl _ _) R1)⟩
    · exact h1.elim
  · exact h1.elim⟩
def strsP : List PV -> Option (List Str)
  | []=>some []
  | .str x :: r=>(strsP r).map (x :: ·)
  | _ :: _=>none
theorem strsP_rep {H : Hp} {ρ : Tk} : ∀ {ps : List PV} {ss : List Str} {vs : List V},strsP ps = some ss -> RepL H ρ ps vs -> vs = ss.map V.str
  | [],_,_,e,r=>by cases e; exact r
  | .str x :: ps,_,_,e,⟨v,t,e1,r1,r2⟩=>by
    have e : (strsP ps).map (x :: ·) = some _:=e
    cases z : strsP ps with
    | none=>rw [z] at e; cases e
    | some l=>
      rw [z] at e
      cases e
      rw [e1,strsP_rep z r2,show v = V.str x from r1]
      rfl
def mtJoin (sep : Str) (st : Store) (ps : List PV) : Res PV:=match ps with
  | [p]=>match (listOf st p).bind strsP with
    | some ss=>if JoinOk sep ss = true then .ok (.str (Txt.join sep ss)) st else .stuck
    | none=>.stuck
  | _=>.stuck
def mJoin (mo : ME) (mr : Gam -> Store -> Res (List PV)) : ME:=fun Γ st=>(mo Γ st).bind fun p st1=>match p with
  | .str sep=>(mr Γ st1).bind fun ps st2=>mtJoin sep st2 ps
  | _=>.stuck
variable {o : Expr} {es : List Expr} {mo : ME} {mr : Gam -> Store -> Res (List PV)} {apos cpos : Pos}
theorem se_join (ho : SimE X E o mo) (ha : SimA X E (e :: es) mr)
    (hbase : attributeBase o "join" X.env (eval o X.env) = eval o X.env:=by rfl)
    (hfew : ((backTo cpos (starEach (e :: es) X.env)).all (fun x=>!x.1) && (backToKw cpos (keywordEach [] X.env)).all (fun x=>x.1.isSome)
      && decide ((e :: es).length + ([] : List Keyword).length + (if ([] : List Keyword).isEmpty then 0 else 1) < 30)) = true:=by rfl)
    (hline : (apos.endLine == cpos.line) = true:=by rfl) (hs : starEach (e :: es) X.env = (false,eval e X.env) :: starEach es X.env:=by rfl) (hplain : (backTo cpos (starEach es X.env)).any (·.1) = false:=by rfl) :
    SimE X E (.Call (.Attribute o "join" apos) (e :: es) [] cpos) (mJoin mo mr):=
  ⟨fun Γ σ H ρ st Q R G h=>WE.of (pe_bm PySem.F.plainAttrs_str PySem.F.slot_str_join PySem.F.type_str_join mt_join pe_w pa_w hbase hfew hline hs hplain) (ho.use R G h.bind fun p st1 H1 ρ1 v x1 R1 G1 r1 h1=>by
    split at h1
    · rename_i sep
      cases r1
      refine ⟨rfl,ha.use R1 G1 h1.bind fun ps st2 H2 ρ2 us x2 R2 G2 r2 h2=>?_⟩
      unfold mtJoin at h2
      split at h2
      · rename_i q
        obtain ⟨y,rfl,ry⟩:=repL_one r2
        split at h2
        · rename_i ss es
          split at h2
          · rename_i hz
            cases f1 : listOf st2 q with
            | none=>rw [f1] at es; cases es
            | some xs=>
              rw [f1] at es
              obtain ⟨c,vs,rfl,hc,rc⟩:=list_at R2 ry f1
              rw [strsP_rep es rc] at hc
              exact ⟨sep,c,ss,rfl,rfl,.inl hc,hz,now R2 h2 rfl⟩
          · exact h2.elim
        · exact h2.elim
      · exact h2.elim
    · exact h1.elim)⟩
end
end Sm
namespace L2
open PySem PySem.Spec PyProof.Rows PySem.W
def SzS (h : Heap) (a : Addr) (n : Nat) : Prop:=∃ o es ep t,h.get? a = some o /\ o.ExactSet /\ o.data = .set es ep t /\ t.fits es.size = true /\ es.size = n
def hset (a : Addr) (n : Nat) : HO:=.ext fun h=>SzS h a n
end L2
namespace Sm
open PySem PySem.Spec L2
section
variable {X : Cx} {E : XK} {pos : Pos} {tg : Expr} {e a b o : Expr} {es : List Expr} {m ma mb mo : ME} {mr : Gam -> Store -> Res (List PV)} {apos cpos : Pos}
theorem repL_strs {H : Hp} {ρ : Tk} : ∀ (ss : List Str),RepL H ρ (ss.map PV.str) (ss.map V.str)
  | []=>RepL.nil
  | x :: ss=>RepL.cons rfl (repL_strs ss)
def mtSplit (x : Str) (st : Store) (ps : List PV) : Res PV:=match ps with
  | [.str sep]=>if (sep.length == 0) = false /\ x.length <= 1000000 then .ok (.lst ((Txt.split x sep).map .str)) st else .stuck
  | _=>.stuck
def mSplit (mo : ME) (mr : Gam -> Store -> Res (List PV)) : ME:=fun Γ st=>(mo Γ st).bind fun p st1=>match p with
  | .str x=>(mr Γ st1).bind fun ps st2=>mtSplit x st2 ps
  | _=>.stuck
theorem se_split (ho : SimE X E o mo) (ha : SimA X E (e :: es) mr)
    (hbase : attributeBase o "split" X.env (eval o X.env) = eval o X.env:=by rfl)
    (hfew : ((backTo cpos (starEach (e :: es) X.env)).all (fun x=>!x.1) && (backToKw cpos (keywordEach [] X.env)).all (fun x=>x.1.isSome)
      && decide ((e :: es).length + ([] : List Keyword).length + (if ([] : List Keyword).isEmpty then 0 else 1) < 30)) = true:=by rfl)
    (hline : (apos.endLine == cpos.line) = true:=by rfl) (hs : starEach (e :: es) X.env = (false,eval e X.env) :: starEach es X.env:=by rfl) (hplain : (backTo cpos (starEach es X.env)).any (·.1) = false:=by rfl) :
    SimE X E (.Call (.Attribute o "split" apos) (e :: es) [] cpos) (mSplit mo mr):=
  ⟨fun Γ σ H ρ st Q R G h=>WE.of (pe_bm PySem.F.plainAttrs_str PySem.F.slot_str_split PySem.F.type_str_split mt_split pe_w pa_w hbase hfew hline hs hplain) (ho.use R G h.bind fun p st1 H1 ρ1 v x1 R1 G1 r1 h1=>by
    split at h1
    · rename_i x
      cases r1
      refine ⟨rfl,ha.use R1 G1 h1.bind fun ps st2 H2 ρ2 us x2 R2 G2 r2 h2=>?_⟩
      unfold mtSplit at h2
      split at h2
      · rename_i sep
        obtain ⟨y,rfl,ry⟩:=repL_one r2
        cases ry
        split at h2
        · rename_i hz
          exact ⟨x,sep,rfl,rfl,hz.1,hz.2,new_lst R2 h2 (repL_strs _)⟩
        · exact h2.elim
      · exact h2.elim
    · exact h1.elim)⟩
def mtZfill (x : Str) (st : Store) (ps : List PV) : Res PV:=match ps with
  | [.int k]=>if PadOk k = true then .ok (.str (Txt.zfill x k)) st else .stuck
  | _=>.stuck
def mZfill (mo : ME) (mr : Gam -> Store -> Res (List PV)) : ME:=fun Γ st=>(mo Γ st).bind fun p st1=>match p with
  | .str x=>(mr Γ st1).bind fun ps st2=>mtZfill x st2 ps
  | _=>.stuck
theorem se_zfill (ho : SimE X E o mo) (ha : SimA X E (e :: es) mr)
    (hbase : attributeBase o "zfill" X.env (eval o X.env) = eval o X.env:=by rfl)
    (hfew : ((backTo cpos (starEach (e :: es) X.env)).all (fun x=>!x.1) && (backToKw cpos (keywordEach [] X.env)).all (fun x=>x.1.isSome)
      && decide ((e :: es).length + ([] : List Keyword).length + (if ([] : List Keyword).isEmpty then 0 else 1) < 30)) = true:=by rfl)
    (hline : (apos.endLine == cpos.line) = true:=by rfl) (hs : starEach (e :: es) X.env = (false,eval e X.env) :: starEach es X.env:=by rfl) (hplain : (backTo cpos (starEach es X.env)).any (·.1) = false:=by rfl) :
    SimE X E (.Call (.Attribute o "zfill" apos) (e :: es) [] cpos) (mZfill mo mr):=
  ⟨fun Γ σ H ρ st Q R G h=>WE.of (pe_bm PySem.F.plainAttrs_str PySem.F.slot_str_zfill PySem.F.type_str_zfill mt_zfill pe_w pa_w hbase hfew hline hs hplain) (ho.use R G h.bind fun p st1 H1 ρ1 v x1 R1 G1 r1 h1=>by
    split at h1
    · rename_i x
      cases r1
      refine ⟨rfl,ha.use R1 G1 h1.bind fun ps st2 H2 ρ2 us x2 R2 G2 r2 h2=>?_⟩
      unfold mtZfill at h2
      split at h2
      · rename_i k
        obtain ⟨y,rfl,ry⟩:=repL_one r2
        cases ry
        split at h2
        · rename_i hz
          exact ⟨x,k,rfl,rfl,hz,now R2 h2 rfl⟩
        · exact h2.elim
      · exact h2.elim
    · exact h1.elim)⟩
def mJoinR (mo ma : ME) : ME:=fun Γ st=>(mo Γ st).bind fun p st1=>match p with
  | .str sep=>(ma Γ st1).bind fun q st2=>match (lstOf st2 q).bind strsP with
    | some ss=>if ss.length <= 1000000 /\ JoinOk sep ss.reverse = true then .ok (.str (Txt.join sep ss.reverse)) st2 else .stuck
    | none=>.stuck
  | _=>.stuck
theorem se_joinR {p' pos' : Pos} (ho : SimE X E o mo) (ha : SimE X E a ma) (hc : X.calm = true) (hg' : Gl X "reversed") (hm' : X.mg "reversed" = none) (hb' : bootBuiltins "reversed" = some (.type "reversed"):=by rfl)
    (hbase : attributeBase o "join" X.env (eval o X.env) = eval o X.env:=by rfl)
    (hfew : ((backTo cpos (starEach [.Call (.Name "reversed" p') [a] [] pos'] X.env)).all (fun x=>!x.1) && (backToKw cpos (keywordEach [] X.env)).all (fun x=>x.1.isSome)
      && decide (([.Call (.Name "reversed" p') [a] [] pos'] : List Expr).length + ([] : List Keyword).length + (if ([] : List Keyword).isEmpty then 0 else 1) < 30)) = true:=by rfl)
    (hline : (apos.endLine == cpos.line) = true:=by rfl) (he : starEach [a] X.env = (false,eval a X.env) :: starEach [] X.env:=by rfl) (hs : starEach [a] X.env = [(false,eval a X.env)]:=by rfl)
    (hs2 : starEach [.Call (.Name "reversed" p') [a] [] pos'] X.env = [(false,eval (.Call (.Name "reversed" p') [a] [] pos') X.env)]:=by rfl) :
    SimE X E (.Call (.Attribute o "join" apos) [.Call (.Name "reversed" p') [a] [] pos'] [] cpos) (mJoinR mo ma):=
  ⟨fun Γ σ H ρ st Q R G h=>WE.of (pe_joinRev hc hg' hm' hb' pe_w (pa_cons pe_w pa_nil he) hbase hfew hline hs hs2) (ho.use R G h.bind fun p st1 H1 ρ1 v x1 R1 G1 r1 h1=>by
    split at h1
    · rename_i sep
      cases r1
      refine ⟨sep,rfl,ha.use R1 G1 h1.bind fun q st2 H2 ρ2 u x2 R2 G2 r2 h2=>?_⟩
      split at h2
      · rename_i ss es
        split at h2
        · rename_i hz
          cases f1 : lstOf st2 q with
          | none=>rw [f1] at es; cases es
          | some xs=>
            rw [f1] at es
            obtain ⟨c,vs,rfl,hc,rc⟩:=lst_at R2 r2 f1
            rw [strsP_rep es rc] at hc
            exact ⟨c,ss,rfl,hc,hz.1,hz.2,now R2 h2 rfl⟩
        · exact h2.elim
      · exact h2.elim
    · exact h1.elim)⟩
def cOrd : CF:=fun st ps=>match ps with
  | [.str x]=>if x.length = 1 then .ok (.int (x.cps.getD 0 0 : Nat)) st else .stuck
  | _=>.stuck
theorem cs_ord : CallS X E (.builtin "ord") cOrd:=⟨fun H ρ st ps xs Q R rp h=>by
  unfold cOrd at h
  split at h
  · rename_i x
    obtain ⟨v,rfl,r⟩:=repL_one rp
    cases r
    split at h
    · rename_i hl
      exact WC.of call_ord ⟨x,rfl,hl,now R h rfl⟩
    · exact h.elim
  · exact h.elim⟩
def cStrB : CF:=fun st ps=>match ps with
  | [.int k]=>if k.natAbs < 10 ^ 40 then .ok (.str (toString k : String)) st else .stuck
  | _=>.stuck
theorem cs_strB : CallS X E (.type "str") cStrB:=⟨fun H ρ st ps xs Q R rp h=>by
  unfold cStrB at h
  split at h
  · rename_i k
    obtain ⟨v,rfl,r⟩:=repL_one rp
    cases r
    split at h
    · rename_i hl
      exact WC.of call_strB ⟨k,rfl,hl,now R h rfl⟩
    · exact h.elim
  · exact h.elim⟩
def figB (c : Nat) : Bool:=decide (48 <= c) && decide (c <= 57)
def figsB (x : Str) : Bool:=match x.cps.toList with
  | []=>false
  | c :: cs=>figB c && cs.all figB && (decide (c ≠ 48) || cs.isEmpty) && decide (cs.length < 640)
def cIntS : CF:=fun st ps=>match ps with
  | [.str x]=>if figsB x = true then .ok (.int (figN x.cps.toList : Nat)) st else .stuck
  | _=>.stuck
theorem cs_intS : CallS X E (.type "int") cIntS:=⟨fun H ρ st ps xs Q R rp h=>by
  unfold cIntS at h
  split at h
  · rename_i x
    obtain ⟨v,rfl,r⟩:=repL_one rp
    cases r
    split at h
    · rename_i hf
      unfold figsB at hf
      cases hx : x.cps.toList with
      | nil=>rw [hx] at hf; cases hf
      | cons c cs=>
        rw [hx] at hf h
        simp only [figB,Bool.and_eq_true,Bool.or_eq_true,decide_eq_true_eq,List.all_eq_true,List.isEmpty_iff] at hf
        obtain ⟨⟨⟨⟨a1,a2⟩,a3⟩,a4⟩,a5⟩:=hf
        exact WC.of call_intS ⟨x,c,cs,rfl,hx,⟨a1,a2⟩,a3,fun z=>a4.resolve_left fun w=>w z,a5,now R h rfl⟩
    · exact h.elim
  · exact h.elim⟩
def oInS (neg : Bool) : OP:=fun st p q=>match p,q with
  | .str i,.str j=>.ok (.bl ((!(Builtin.Str.occurrences j i 0 j.length 1).isEmpty) != neg)) st
  | _,_=>.stuck
theorem os_inS : OpS X E (compareOp .In) (oInS false):=⟨fun H ρ st p q x y Q R rp rq h=>by
  unfold oInS at h
  split at h
  · cases rp; cases rq
    rw [Bool.bne_false] at h
    exact WO.of op_in_str ⟨_,_,rfl,rfl,now R h rfl⟩
  · exact h.elim⟩
def mSlS (ma : ME) (ml mh : Gam -> Store -> Res (Option Int)) : ME:=fun Γ st=>(ma Γ st).bind fun p st1=>(ml Γ st1).bind fun lo st2=>(mh Γ st2).bind fun hi st3=>match p with
  | .str x=>if x.length <= 1000000 then .ok (.str (Txt.slice x lo hi)) st3 else .stuck
  | _=>.stuck
theorem se_sliceS {lo hi : Option Expr} {ml mh : Gam -> Store -> Res (Option Int)} {p2 : Pos} (ha : SimE X E a ma) (hl : SimO X E lo ml) (hh : SimO X E hi mh) : SimE X E (.Subscript a (.Slice lo hi none p2) pos) (mSlS ma ml mh):=
  ⟨fun Γ σ H ρ st Q R G h=>WE.of (pe_slice sl_str pe_w po_w po_w) (ha.use R G h.bind fun p st1 H1 ρ1 v x1 R1 G1 r1 h1=>by
    refine hl.run Γ σ H1 ρ1 st1 _ _ R1 G1 h1.bind fun l st2 H2 ρ2 x2 R2 G2 h2=>?_
    refine hh.run Γ σ H2 ρ2 st2 _ _ R2 G2 h2.bind fun u st3 H3 ρ3 x3 R3 G3 h3=>?_
    have r3:=r1.ext (x2.trans x3)
    split at h3
    · rename_i z
      split at h3
      · rename_i hz
        cases r3
        exact ⟨z,rfl,hz,now R3 h3 rfl⟩
      · exact h3.elim
    · exact h3.elim)⟩
end
end Sm
namespace Sm
open PySem PySem.Spec L2
theorem boot_ord : bootBuiltins "ord" = some (.builtin "ord"):=by decide +kernel
structure DefH (P : Program) (w : World) (K : PySem.W.Frag) (mg : Str -> Option Value) (base : Heap) (k : Nat) (x : Str) (ps : List Str) (sp : Sp) : Prop where
  ex : ∃ (f : Addr) (fd : FuncData),FnOkH P w K mg base k f fd ps sp /\ mg x = some (.ref f) /\ PySem.W.keepIn K (.ref f) = true /\ Binds K fd ps []
end Sm
namespace Sm
open PySem PySem.Spec L2
def mCompX (cap : List (Option Nat)) (ga : GA) (mi : MI) (me : ME) : ML:=fun Γ st=>(mi Γ st).bind fun iw st1=>compG ga mTrue me iw.2 (capG cap Γ) iw.1 st1
section
variable {X : Cx} {E : XK} {pos : Pos} {tg iter elt : Expr} {ifs : List Expr} {N N' : List Str} {sc scE : Scope} {cap : List (Option Nat)} {ga : GA} {mi : MI} {mt : MT} {me : ME}
def aEx (X : Cx) (E : XK) (N' : List Str) (sc : Scope) (e : Expr) : TE:=fun σ H Q=>∀ cl C s0 H0 ex,WE (blkX X E N' sc cl C s0 H0 ex) e σ H Q
theorem pe_ax {N' : List Str} {sc : Scope} {e : Expr} : ∀ cl C s0 H0 ex,PE (blkX X E N' sc cl C s0 H0 ex) e (aEx X E N' sc e):=fun cl C s0 H0 ex pins s σ H Q I h=>h cl C s0 H0 ex pins s I
theorem comp_bodyX {Γ : Gam} {σ : St} {H1 : Hp} {ρ1 : Tk} {st1 : Store} {J : It} {items : List PV} {w : Wt} {Q : VK} {P : List PV -> Store -> Hp -> Tk -> Prop} (hg : ∀ cl C s0 H0 ex,SimG (blkC X N' sc cl C s0 H0 ex) tg ga) (he : ∀ cl C s0 H0 ex,SimE (blkX X E N' sc cl C s0 H0 ex) E elt me)
    (hf : FreeT cap ga) (R1 : Rel H1 ρ1 st1) (G1 : EnvR H1 ρ1 Γ σ) (src : Src J items w H1 ρ1) (hlen : items.length <= sizeLine) (h : Acc X.mg E H1 ρ1 P (compG ga mTrue me w (capG cap Γ) items st1))
    (k : ∀ ys st2 H2 ρ2 acc vs,compG ga mTrue me w (capG cap Γ) items st1 = .ok ys st2 -> Ext H1 ρ1 H2 ρ2 -> Rel H2 ρ2 st2 -> acc ∈ ρ2.hid -> H1 acc = none -> H2 acc = some (.lst vs) -> RepL H2 ρ2 ys vs -> Q (.ref acc) H2) : compBodyT J cap (aG X N' sc tg) (aT X N' sc []) (aEx X E N' sc elt) σ H1 Q:=by
  intro acc hacc
  let W : Nat -> Nat -> List V -> St -> Hp -> Prop:=fun i m vs σ' H'=>m = items.length - i /\ i <= items.length /\ vs.length <= i /\ ∃ ρ' st' ys,Ext H1 ρ1 H' ρ' /\ acc ∈ ρ'.hid /\ Rel H' ρ' st' /\ EnvR H' ρ' (capG cap Γ) σ' /\ H' acc = some (.lst vs) /\ RepL H' ρ' ys vs /\
    compG ga mTrue me w (capG cap Γ) items st1 = (compG ga mTrue me w (capG cap Γ) (items.drop i) st').bind fun zs st3=>.ok (ys ++ zs) st3
  refine ⟨W,⟨_,rfl,Nat.zero_le _,Nat.le_refl _,ρ1.hide acc,st1,[],Ext.hide hacc,List.mem_cons_self,R1.hide hacc,(G1.cap cap).hide hacc,upd_same,rfl,?_⟩,?_⟩
  · rw [List.drop_zero]
    cases r : compG ga mTrue me w (capG cap Γ) items st1 with
    | ok zs st3=>rfl
    | exc x st3=>rfl
    | stuck=>rfl
  rintro i m vs σ' H' ⟨hm,hi,hvl,ρ',st',ys,x,hmem,R',G',ha,ry,hq⟩
  have hA : Acc X.mg E H1 ρ1 P ((compG ga mTrue me w (capG cap Γ) (items.drop i) st').bind fun zs st3=>.ok (ys ++ zs) st3):=by rw [<- hq]; exact h
  refine ⟨ha,?_⟩
  by_cases hlt : i < items.length
  · right
    have hd : items.drop i = items[i] :: items.drop (i + 1):=List.drop_eq_getElem_cons hlt
    rw [hd,compG] at hA hq
    by_cases hw : wOk w st'
    · rw [if_pos hw] at hA hq
      refine ⟨src.go H' _ st' x R' hw i hlt,by omega,fun y H2 hy=>?_⟩
      obtain ⟨sm,ry2⟩:=src.yld H' _ st' x R' hw i _ (List.getElem?_eq_getElem hlt) y H2 hy
      cases eg : ga items[i] (capG cap Γ) with
      | none=>rw [eg] at hA; exact hA.elim
      | some Γ1=>
        rw [eg] at hA hq
        have x2 : Ext H' ρ' H2 ρ':=Ext.same sm
        have R2:=R'.same sm
        intro cl C s0 H0 ex
        refine (hg cl C s0 H0 ex).run (capG cap Γ) Γ1 σ' H2 ρ' _ y _ (G'.ext x2) ry2 eg fun σ3 G3=>?_
        intro cl C s0 H0 ex
        refine sts_nil.run Γ1 σ3 H2 ρ' st' (fun _ _ _ _=>True) _ R2 G3 (fun _ _ _ _=>trivial) fun b st4 H4 ρ4 e4 x4 R4 G4=>?_
        simp only [e4,Res.bind] at hA hq
        have G0 : ∀ {H'' : Hp} {ρ'' : Tk},EnvR H'' ρ'' Γ1 σ3 -> EnvR H'' ρ'' (capG cap Γ) σ3:=fun {H'' ρ''} g=>g.le (by
          rw [<- G3.1]
          exact (hf Γ _ Γ1 eg).1.symm) (hf Γ _ Γ1 eg).2
        have x14 : Ext H1 ρ1 H4 ρ4:=x.trans (x2.trans x4)
        have hm4 : acc ∈ ρ4.hid:=x4.hidM acc hmem
        have na : acc ∉ ρ'.tr:=R'.ap acc hmem
        have ha4 : H4 acc = some (.lst vs):=x4.keep acc _ (sm acc _ ha) na
        have ry4 : RepL H4 ρ4 ys vs:=ry.ext (x2.trans x4)
        cases b with
        | false=>
          rw [if_neg Bool.false_ne_true] at hA hq ⊢
          exact ⟨_,show items.length - (i + 1) < m by omega,rfl,hlt,by omega,ρ4,st4,ys,x14,hm4,R4,G0 G4,ha4,ry4,hq⟩
        | true=>
          rw [if_pos rfl] at hA hq ⊢
          intro cl C s0 H0 ex
          have hA4:=Acc.later hA x14
          refine (he cl C s0 H0 ex).use' R4 G4 (Acc.bind (Acc.assoc hA4)) fun z st5 H5 ρ5 zv e5 x5 R5 G5 r5 h5=>?_
          simp only [e5,Res.bind] at hA hq
          have hm5 : acc ∈ ρ5.hid:=x5.hidM acc hm4
          have ha5 : H5 acc = some (.lst vs):=x5.keep acc _ ha4 (R4.ap acc hm4)
          have x15 : Ext H1 ρ1 H5 ρ5:=x14.trans x5
          refine ⟨ha5,_,show items.length - (i + 1) < m by omega,rfl,hlt,by rw [List.length_append]; simp; omega,ρ5,st5,ys ++ [z],x15.put0 hacc,hm5,R5.rehide hm5,(G0 G5).rehide hm5,upd_same,((ry4.ext x5).append (RepL.cons r5 RepL.nil)).rehide hm5,?_⟩
          refine hq.trans ?_
          cases rr : compG ga mTrue me w (capG cap Γ) (items.drop (i + 1)) st5 with
          | ok zs st6=>
            show Res.ok (ys ++ z :: zs) st6 = Res.ok ((ys ++ [z]) ++ zs) st6
            rw [List.append_assoc]; rfl
          | exc x6 st6=>rfl
          | stuck=>rfl
    · rw [if_neg hw] at hA; exact hA.elim
  · left
    have ei : i = items.length:=by omega
    subst ei
    rw [List.drop_length,compG] at hA hq
    by_cases hw : wOk w st'
    · rw [if_pos hw] at hA hq
      refine ⟨src.stop H' _ st' x R' hw,?_⟩
      have hq : compG ga mTrue me w (capG cap Γ) items st1 = .ok (ys ++ []) st':=hq
      rw [List.append_nil] at hq
      exact k ys st' H' ρ' acc vs hq x R' hmem hacc ha ry
    · rw [if_neg hw] at hA; exact hA.elim
theorem comp_runX {Γ : Gam} {σ : St} {H : Hp} {ρ : Tk} {st : Store} {Q : VK} {P : List PV -> Store -> Hp -> Tk -> Prop} (hi : SimI X E tg iter mi) (hg : ∀ cl C s0 H0 ex,SimG (blkC X N' sc cl C s0 H0 ex) tg ga) (he : ∀ cl C s0 H0 ex,SimE (blkX X E N' sc cl C s0 H0 ex) E elt me)
    (hf : FreeT cap ga) (R : Rel H ρ st) (G : EnvR H ρ Γ σ) (h : Acc X.mg E H ρ P (mCompX cap ga mi me Γ st)) (k : ∀ ps st2 H2 ρ2 a vs,mCompX cap ga mi me Γ st = .ok ps st2 -> Ext H ρ H2 ρ2 -> Rel H2 ρ2 st2 -> a ∈ ρ2.hid -> H a = none -> H2 a = some (.lst vs) -> RepL H2 ρ2 ps vs -> Q (.ref a) H2) : tCompT cap (WI X tg iter) (aG X N' sc tg) (aT X N' sc []) (aEx X E N' sc elt) σ H Q:=by
  refine hi.run Γ σ H ρ st _ _ R G h.bind fun iw st1 H1 ρ1 J eq x1 R1 G1 ok hl src h1=>?_
  refine comp_bodyX hg he hf R1 G1 src hl h1 fun ys st2 H2 ρ2 acc vs eq2 x2 R2 hm hn ha ry=>?_
  refine k ys st2 H2 ρ2 acc vs ?_ (x1.trans x2) R2 hm ?_ ha ry
  · unfold mCompX
    rw [eq]
    exact eq2
  cases e : H acc with
  | none=>rfl
  | some o=>
    obtain ⟨o',e'⟩:=x1.old acc o e
    rw [hn] at e'; cases e'
theorem sn_compX (cap : List (Option Nat)) (N' : List Str) (hcalm : X.calm = true) (hi : SimI X E tg iter mi) (hg : ∀ cl C s0 H0 ex,SimG (blkC X N' sc cl C s0 H0 ex) tg ga) (he : ∀ cl C s0 H0 ex,SimE (blkX X E N' sc cl C s0 H0 ex) E elt me) (hx : Passes (CXM X.prog X.w) X E) (hst : X.stack = X.env :: X.outer)
    (hf : FreeT cap ga) (hN : X.N = N:=by rfl) (hE : X.env.scope = scE:=by rfl) (hc : compOkC N N' sc scE cap = true:=by kernel_rfl) (hs : ∀ x,foldedSetIterable iter X.env x = pure x:=by intro _; rfl) :
    SimN X E (.ListComp elt [⟨tg,iter,[],0⟩] sc pos) (mCompX cap ga mi me):=
  ⟨fun Γ σ H ρ st P Q R G h k=>WE.of (pe_compX hcalm pi_w pg_a pe_ax hx hst pts_a hN hE hc hs) (comp_runX hi hg he hf R G h k)⟩
end
end Sm
namespace Sm
open PySem PySem.Spec L2
structure AtS (K : PySem.W.Frag) (mg : Str -> Option Value) (name : Str) (st : Stmt) (ps : List Str) (f : Addr) (fd : FuncData) : Prop where
  F : Fun K name name st f fd
  m : mg name = some (.ref f)
  b : Binds K fd ps []
theorem atS_mk {K : PySem.W.Frag} {mg : Str -> Option Value} {h : Heap} {name : Str} {st : Stmt} {ps : List Str} {f : Addr} {oc : Value} {od an : Option Addr} {osl : Array (Option Value)} {kV doc pm cdv ct : Value} (X : K.In h) (G : h.Ns mainGlobals mg)
    (a : PySem.W.nsIn K mainGlobals name = some (some (.ref f))) (l : K.lookup f = some ⟨oc,od,.func (PySem.W.fnOf name name (defArgs st) (defBody st) (defScope st) .none kV doc pm an cdv ct),osl⟩) (c : PySem.W.codeIn K cdv name = true) (k : PySem.W.keepIn K (.ref f) = true)
    (b : ∀ (kV doc pm : Value) (an : Option Addr) (cdv ct : Value) (us : List Value),us.length = ps.length -> bindArgs (PySem.W.fnOf name name (defArgs st) (defBody st) (defScope st) .none kV doc pm an cdv ct) ⟨us,[]⟩ = pure (ps.zip us)) :
    AtS K mg name st ps f (PySem.W.fnOf name name (defArgs st) (defBody st) (defScope st) .none kV doc pm an cdv ct):=
  have F:=fun_mk (st:=st) l c k
  ⟨F,PySem.W.mg_of X G a,F.binds b⟩
theorem AtS.def {P : Program} {w : World} {K : PySem.W.Frag} {mg : Str -> Option Value} {base : Heap} {name : Str} {st : Stmt} {ps : List Str} {f : Addr} {fd : FuncData} {k n : Nat} {F : FN} (a : AtS K mg name st ps f fd) (hn : ps.length = n) (G : FnOk P w K mg base (CXD P w) k f fd ps (spF mg n F)) : DefS P w K mg base k name n F:=
  ⟨f,fd,ps,G,a.m,a.F.kp,a.b,hn⟩
def FL (K : PySem.W.Frag) (x ql : Str) (s : Stmt) (f : Addr) : Prop:=∃ (oc : Value) (od : Option Addr) (kV dc pm : Value) (an : Option Addr) (cd ct : Value) (sl : Array (Option Value)),K.lookup f = some ⟨oc,od,.func (PySem.W.fnOf x ql (defArgs s) (defBody s) (defScope s) .none kV dc pm an cd ct),sl⟩ /\ PySem.W.codeIn K cd ql = true /\ PySem.W.keepIn K (.ref f) = true
theorem FL.fn {K : PySem.W.Frag} {x ql : Str} {s : Stmt} {f : Addr} (h : FL K x ql s f) : ∃ fd,Fun K x ql s f fd:=let ⟨_,_,_,_,_,_,_,_,_,l,c,k⟩:=h; ⟨_,fun_mk l c k⟩
def FA (K : PySem.W.Frag) (x : Str) (s : Stmt) (f : Addr) : Prop:=PySem.W.nsIn K mainGlobals x = some (some (.ref f)) /\ FL K x x s f
theorem FA.mk {K : PySem.W.Frag} {x : Str} {s : Stmt} {f : Addr} {oc : Value} {od an : Option Addr} {sl : Array (Option Value)} {kV dc pm cd ct : Value} (a : PySem.W.nsIn K mainGlobals x = some (some (.ref f))) (l : K.lookup f = some ⟨oc,od,.func (PySem.W.fnOf x x (defArgs s) (defBody s) (defScope s) .none kV dc pm an cd ct),sl⟩) (c : PySem.W.codeIn K cd x = true) (k : PySem.W.keepIn K (.ref f) = true) : FA K x s f:=⟨a,_,_,_,_,_,_,_,_,_,l,c,k⟩
theorem ln1 {α : Type} {l : List α} (h : l.length = 1) : ∃ a,l = [a]:=match l,h with | [_],_=>⟨_,rfl⟩
theorem ln2 {α : Type} {l : List α} (h : l.length = 2) : ∃ a b,l = [a,b]:=match l,h with | [_,_],_=>⟨_,_,rfl⟩
theorem ln3 {α : Type} {l : List α} (h : l.length = 3) : ∃ a b c,l = [a,b,c]:=match l,h with | [_,_,_],_=>⟨_,_,_,rfl⟩
theorem ln4 {α : Type} {l : List α} (h : l.length = 4) : ∃ a b c d,l = [a,b,c,d]:=match l,h with | [_,_,_,_],_=>⟨_,_,_,_,rfl⟩
theorem ln5 {α : Type} {l : List α} (h : l.length = 5) : ∃ a b c d e,l = [a,b,c,d,e]:=match l,h with | [_,_,_,_,_],_=>⟨_,_,_,_,_,rfl⟩
theorem ln6 {α : Type} {l : List α} (h : l.length = 6) : ∃ a b c d e f,l = [a,b,c,d,e,f]:=match l,h with | [_,_,_,_,_,_],_=>⟨_,_,_,_,_,_,rfl⟩
theorem ln7 {α : Type} {l : List α} (h : l.length = 7) : ∃ a b c d e f g,l = [a,b,c,d,e,f,g]:=match l,h with | [_,_,_,_,_,_,_],_=>⟨_,_,_,_,_,_,_,rfl⟩
theorem FL.bd {K : PySem.W.Frag} {x ql : Str} {s : Stmt} {f : Addr} {ps : List Str} (h : FL K x ql s f)
    (b : ∀ (kV doc pm : Value) (an : Option Addr) (cdv ct : Value) (us : List Value),us.length = ps.length -> bindArgs (PySem.W.fnOf x ql (defArgs s) (defBody s) (defScope s) .none kV doc pm an cdv ct) ⟨us,[]⟩ = pure (ps.zip us)) : ∃ fd,Fun K x ql s f fd /\ Binds K fd ps []:=
  let ⟨_,F⟩:=h.fn
  ⟨_,F,F.binds b⟩
theorem atS2 {K : PySem.W.Frag} {mg : Str -> Option Value} {h : Heap} {name : Str} {st : Stmt} {f : Addr} (ps : List Str) (X : K.In h) (G : h.Ns mainGlobals mg) (a : FA K name st f)
    (b : ∀ (kV doc pm : Value) (an : Option Addr) (cdv ct : Value) (us : List Value),us.length = ps.length -> bindArgs (PySem.W.fnOf name name (defArgs st) (defBody st) (defScope st) .none kV doc pm an cdv ct) ⟨us,[]⟩ = pure (ps.zip us):=by
      intro _ _ _ _ _ _ us hl
      first | (obtain ⟨_,rfl⟩:=ln1 hl; rfl) | (obtain ⟨_,_,rfl⟩:=ln2 hl; rfl) | (obtain ⟨_,_,_,rfl⟩:=ln3 hl; rfl) | (obtain ⟨_,_,_,_,rfl⟩:=ln4 hl; rfl) | (obtain ⟨_,_,_,_,_,rfl⟩:=ln5 hl; rfl) | (obtain ⟨_,_,_,_,_,_,rfl⟩:=ln6 hl; rfl) | (obtain ⟨_,_,_,_,_,_,_,rfl⟩:=ln7 hl; rfl)) : ∃ fd,AtS K mg name st ps f fd:=
  let ⟨a,l⟩:=a
  let ⟨_,F,B⟩:=l.bd b
  ⟨_,F,PySem.W.mg_of X G a,B⟩
theorem AtS.d {K : PySem.W.Frag} {mg : Str -> Option Value} {name : Str} {st : Stmt} {ps : List Str} {f : Addr} {fd : FuncData} {k n : Nat} {F : FN} (a : AtS K mg name st ps f fd) (P : Program) (w : World) (base : Heap) (hn : ps.length = n) (G : FnOk P w K mg base (CXD P w) k f fd ps (spF mg n F)) : DefS P w K mg base k name n F:=a.def hn G
def noL (K : PySem.W.Frag) : Bool:=K.all fun p=>match p.2.data with
  | .seq _ _=>(match p.2.cls with
    | .type n=>!(n == ("list" : Str))
    | _=>true)
  | _=>true
theorem lookup_mem {K : PySem.W.Frag} {a : Addr} {o : Obj} (h : K.lookup a = some o) : (a,o) ∈ K:=by
  induction K with
  | nil=>cases h
  | cons p K ih=>
    obtain ⟨b,u⟩:=p
    rw [List.lookup_cons] at h
    cases e : a == b with
    | true=>
      rw [e] at h
      have : a = b:=by simpa using e
      subst this
      cases h
      exact List.mem_cons_self
    | false=>
      rw [e] at h
      exact List.mem_cons_of_mem _ (ih h)
theorem noL_no {K : PySem.W.Frag} {a : Addr} {o : Obj} {its : Array Value} {n : Nat} (hL : noL K = true) (h : K.lookup a = some o) (hc : o.cls = .type "list") (hd : o.data = .seq its n) : False:=by
  have:=List.all_eq_true.mp hL _ (lookup_mem h)
  simp [hc,hd] at this
theorem repL_ints {H : Hp} {ρ : Tk} : ∀ ns : List Int,RepL H ρ (ns.map .int) (ns.map V.int)
  | []=>rfl
  | n :: ns=>⟨_,_,rfl,rfl,repL_ints ns⟩
theorem rel_nil (H : Hp) : Rel H Tk.nil []:=⟨rfl,List.nodup_nil,fun a h=>(by cases h),fun a h=>(by cases h),fun i a c h=>(by simp [Tk.nil] at h)⟩
def spLawS (K : PySem.W.Frag) : Sp:=fun vs H Q _=>∃ (a : Addr) (ns : List Int),vs = [.ref a] /\ SqL K H a (ns.map V.int) /\ ns.length <= 63 /\ ∀ H',Q (.bl true) H'
theorem law_imp {P : Program} {w : World} {K : PySem.W.Frag} {mg : Str -> Option Value} {base : Heap} {CX : CXT} {k : Nat} {f : Addr} {fd : FuncData} {ps : List Str} {FL : FN} (hL : noL K = true) (F : FnOk P w K mg base CX k f fd ps (spF mg 1 FL)) (hlaw : ∀ ns : List Int,ns.length <= 63 -> ∃ st',FL [.fro (ns.map .int)] [] = .ok (.bl true) st') : FnOk P w K mg base CX k f fd ps (spLawS K):=F.imp fun vs H Q E ⟨a,ns,e,hS,hl,hQ⟩=>by
  subst e
  obtain ⟨st',hF⟩:=hlaw ns hl
  have hR : Rd H a (.lst (ns.map V.int)):=by
    rcases hS with h | ⟨o,its,n,h1,h2,h3,h4,_⟩
    · exact h
    · exact (noL_no hL h1 h2 h4).elim
  refine ⟨rfl,Tk.nil,[],[.fro (ns.map .int)],rel_nil H,⟨_,_,rfl,⟨a,_,rfl,hR,Tk.not_nil a,repL_ints ns⟩,rfl⟩,?_⟩
  rw [hF]
  intro H' ρ' x R v r
  have e : v = .bl true:=r
  subst e
  exact hQ H'
theorem cxd_none {P : Program} {w : World} {H : Hp} {s : Shared} {e : Value} {s' : Shared} (h : CXD P w [] H s (fun _ _ _=>False) e s') : False:=by
  obtain ⟨_,_,_,_,_,_,_,_,_,z⟩:=h
  exact z
theorem walkS {l : PySem.W.OpenLaw} {k : Nat} {q : Program} {loose : List Str} {XP : (Str -> Option Value) -> Heap -> Prop} {YP : World -> Heap -> Prop} {d : DefRec} {K : Params -> PySem.W.Frag} (hn : l.most = some 63) (hr : Room k callerA) (hdf : d.params.defaults = [])
    (hY : ∀ (w : World) (h : Heap),YP w h -> (K w.params).In h)
    (F : ∀ (w : World) (mg : Str -> Option Value) (fa : Addr) (h : Heap),(K w.params).In h -> h.Ns mainGlobals mg -> mg d.name = some (.ref fa) ->
      ∃ fd : FuncData,(∀ (s : Shared) (u : Value),BindsTo s fd ⟨[u],[]⟩ [("script",u)]) /\ ∀ base : Heap,(K w.params).In base -> base.Ns mainGlobals mg -> FnOk l.prog w (K w.params) mg base (CXD l.prog w) k fa fd ["script"] (spLawS (K w.params))) :
    PySem.W.WalkO q loose XP YP l.row.toRowW d [] (fun f vs=>PySem.call f vs):=
  L2.walk_of (n:=63) (k:=k) (x := "script") (CX:=fun w=>CXD l.prog w) (sp:=fun w=>spLawS (K w.params)) hn (by decide) hdf hr hY F (fun _ _ a ns hl _ hS=>⟨a,ns,rfl,hS,hl,fun _=>rfl⟩) fun _ _ _ _ _ z=>cxd_none z
end Sm
namespace Lw
open PySem PySem.Spec L2 Sm
def top (i : Nat) : Stmt:=PySem.Challenge.pw_lendwharf_k68_table_texts.main.body.getD i (.Pass ⟨0,0,0,0⟩)
abbrev s_is_whole : Stmt:=top 17
abbrev s_is_row : Stmt:=top 20
abbrev s_is_table : Stmt:=top 21
abbrev s_is_figures : Stmt:=top 23
abbrev s_number_of : Stmt:=top 24
abbrev s_figures_of : Stmt:=top 25
abbrev s_show_row : Stmt:=top 26
abbrev s_show_table : Stmt:=top 27
abbrev s_read_row : Stmt:=top 28
abbrev s_read_table : Stmt:=top 29
abbrev s__law_acell : Stmt:=top 31
abbrev s__law_atape : Stmt:=top 32
abbrev s__law_adigit : Stmt:=top 33
abbrev s__law_arights : Stmt:=top 34
abbrev s__law_abare : Stmt:=top 35
abbrev s__law_araised : Stmt:=top 36
abbrev s__law_amuch : Stmt:=top 37
abbrev s__law_atable : Stmt:=top 38
abbrev s__law_akind : Stmt:=top 39
abbrev s__law_atext : Stmt:=top 40
abbrev s__law_areading : Stmt:=top 41
abbrev s__law_aread : Stmt:=top 42
abbrev s__law_aright : Stmt:=top 43
abbrev s__law_aany : Stmt:=top 44
abbrev s__law_abent : Stmt:=top 45
abbrev s_law : Stmt:=top 46
structure Txt (mg : Str -> Option Value) : Prop where
  b_all : mg "all" = none
  b_bool : mg "bool" = none
  b_int : mg "int" = none
  b_isinstance : mg "isinstance" = none
  b_len : mg "len" = none
  b_max : mg "max" = none
  b_min : mg "min" = none
  b_ord : mg "ord" = none
  b_range : mg "range" = none
  b_reversed : mg "reversed" = none
  b_str : mg "str" = none
  b_sum : mg "sum" = none
  b_tuple : mg "tuple" = none
  c_MOST_HOUSES : ∃ t,mg "MOST_HOUSES" = some (.int 8 t)
section
variable {P : Program} {w : World} {K : PySem.W.Frag} {mg : Str -> Option Value} {base : Heap}
def m_is_whole : MS:=(mRet (mAnd (mIsI "int" (mVar 0)) (mNot (mIsI "bool" (mVar 0)))))
def F_is_whole : FN:=callF m_is_whole 1
theorem sc_is_whole : FnScope ["thing"] ["thing"] (defScope s_is_whole):=⟨rfl,rfl,rfl,by decide +kernel,rfl,by decide +kernel,by decide +kernel⟩
theorem ok_is_whole {f : Addr} {fd : FuncData} (F : Fun K "is_whole" "is_whole" s_is_whole f fd) (T : Txt mg)   : FnOk P w K mg base (CXD P w) 1 f fd ["thing"] (spF mg 1 F_is_whole):=by
  refine fun_ok2 (k:=0) (m:=m_is_whole) F sc_is_whole rfl rfl rfl fun cdv A outer s H E hr=>?_
  exact (sb_one (ss_ret (se_and (se_isi (T := "int") (by decide) (se_var 0) rfl T.b_isinstance rfl T.b_int boot_int) (se_one (se_not (se_isi (T := "bool") (by decide) (se_var 0) rfl T.b_isinstance rfl T.b_bool boot_bool))))))
def e_is_row_1 : ME:=(mAnd (mCallF 1 F_is_whole (mCons (mVar 0) mNil)) (mOp (oI fun a b=>.bl (decide (b <= a))) (mVar 0) (mC (.int 0))))
def m_is_row : MS := (mSeqS (mIfS (tOrM (tNotM (toB (mIsI "tuple" (mVar 0)))) (toB (mOp oNe (mCall cLen (mCons (mVar 0) mNil)) (mOp oAdd (mVar 1) (mC (.int 1)))))) (mRet (mC (.bl false))) mNext)
    (mRet (mCall (cBls fun ns=>.bl (ns.all id)) (mCons (mVal (mCompN [none] (gaName 0) (mSeq (mVar 0)) mTrue e_is_row_1)) mNil))))
def F_is_row : FN:=callF m_is_row 2
theorem sc_is_row : FnScope ["thing", "n"] ["thing", "n"] (defScope s_is_row):=⟨rfl,rfl,rfl,by decide +kernel,rfl,by decide +kernel,by decide +kernel⟩
theorem ok_is_row {f : Addr} {fd : FuncData} (F : Fun K "is_row" "is_row" s_is_row f fd) (T : Txt mg)  (D_is_whole : DefS P w K mg base 1 "is_whole" 1 F_is_whole) : FnOk P w K mg base (CXD P w) 2 f fd ["thing", "n"] (spF mg 2 F_is_row):=by
  refine fun_ok2 (k:=1) (m:=m_is_row) F sc_is_row rfl rfl rfl fun cdv A outer s H E hr=>?_
  exact (sb_cons (ss_if (SimW.t (sw_or (st_not (st_val (se_isi (T := "tuple") (by decide) (se_var 0) rfl T.b_isinstance rfl T.b_tuple boot_tuple))) (sw_or1 (st_cmp (os_ne hr.units) (se_callB cs_len rfl T.b_len PySem.boot_len (sa_cons (se_var 0) sa_nil)) (se_op os_add (se_var 1) se_int))))) (sb_one (ss_ret se_bl)) sb_nil)
    (sb_one (ss_ret (se_callB (cs_all rfl) rfl T.b_all boot_all (sa_cons (se_val (sn_comp [none] ["part"] rfl (si_seq (se_var 0)) (fun _ _ _ _ _=>(sg_name (i:=0) (show (["part"] : List Str).Nodup by decide +kernel))) (fun _ _ _ _ _=>(se_and (se_call D_is_whole (hr.mono (by decide)) pass00D rfl (sa_cons (se_var 0) sa_nil)) (se_one (se_cmp os_ge (se_var 0) se_int)))) (fun _ _ _ _ _=>sts_nil) free_name)) sa_nil)))))
def e_is_table_1 : ME:=(mCallF 2 F_is_row (mCons (mVar 0) (mCons (mCall cLen (mCons (mVar 1) mNil)) mNil)))
def m_is_table : MS := (mSeqS (mIfS (tOrM (tNotM (toB (mIsI "tuple" (mVar 0)))) (tNotM (toB (mChain (oI fun a b => .bl (decide (a <= b))) (oI fun a b => .bl (decide (a <= b))) (mC (.int 1)) (mCall cLen (mCons (mVar 0) mNil)) (mC (.int 8)))))) (mRet (mC (.bl false))) mNext)
    (mRet (mCall (cBls fun ns=>.bl (ns.all id)) (mCons (mVal (mCompN [none,some 0] (gaName 0) (mSeq (mVar 0)) mTrue e_is_table_1)) mNil))))
def F_is_table : FN:=callF m_is_table 1
theorem sc_is_table : FnScope ["thing"] ["thing"] (defScope s_is_table):=⟨rfl,rfl,rfl,by decide +kernel,rfl,by decide +kernel,by decide +kernel⟩
theorem ok_is_table {f : Addr} {fd : FuncData} (F : Fun K "is_table" "is_table" s_is_table f fd) (T : Txt mg)  (D_is_row : DefS P w K mg base 2 "is_row" 2 F_is_row) : FnOk P w K mg base (CXD P w) 3 f fd ["thing"] (spF mg 1 F_is_table):=by
  refine fun_ok2 (k:=2) (m:=m_is_table) F sc_is_table rfl rfl rfl fun cdv A outer s H E hr=>?_
  exact (sb_cons (ss_if (SimW.t (sw_or (st_not (st_val (se_isi (T := "tuple") (by decide) (se_var 0) rfl T.b_isinstance rfl T.b_tuple boot_tuple))) (sw_or1 (st_not (st_chain os_le os_le se_int (se_callB cs_len rfl T.b_len PySem.boot_len (sa_cons (se_var 0) sa_nil)) (se_gint rfl T.c_MOST_HOUSES.choose_spec)))))) (sb_one (ss_ret se_bl)) sb_nil)
    (sb_one (ss_ret (se_callB (cs_all rfl) rfl T.b_all boot_all (sa_cons (se_val (sn_comp [none,some 0] ["row", "thing"] rfl (si_seq (se_var 0)) (fun _ _ _ _ _=>(sg_name (i:=0) (show (["row", "thing"] : List Str).Nodup by decide +kernel))) (fun _ _ _ _ _=>(se_call D_is_row (hr.mono (by decide)) pass00D rfl (sa_cons (se_var 0) (sa_cons (se_callB cs_len rfl T.b_len PySem.boot_len (sa_cons (se_var 1) sa_nil)) sa_nil)))) (fun _ _ _ _ _=>sts_nil) free_name)) sa_nil)))))
def e_is_figures_1 : ME:=(mChain oLe2 oLe2 (mC (.str "0")) (mVar 0) (mC (.str "9")))
def m_is_figures : MS := (mSeqS (mIfS (tOrM (toB (mOp oEq (mCall cLen (mCons (mVar 0) mNil)) (mC (.int 0)))) (tNotM (toB (mCall (cBls fun ns => .bl (ns.all id)) (mCons (mVal (mCompN [none] (gaName 0) (mStrI (mVar 0)) mTrue e_is_figures_1)) mNil))))) (mRet (mC (.bl false))) mNext)
    (mRet (mOr (mOp oEq (mVar 0) (mC (.str "0"))) (mOp oNe (mOp oIxS (mVar 0) (mC (.int 0))) (mC (.str "0"))))))
def F_is_figures : FN:=callF m_is_figures 1
theorem sc_is_figures : FnScope ["word"] ["word"] (defScope s_is_figures):=⟨rfl,rfl,rfl,by decide +kernel,rfl,by decide +kernel,by decide +kernel⟩
theorem ok_is_figures {f : Addr} {fd : FuncData} (F : Fun K "is_figures" "is_figures" s_is_figures f fd) (T : Txt mg)   : FnOk P w K mg base (CXD P w) 1 f fd ["word"] (spF mg 1 F_is_figures):=by
  refine fun_ok2 (k:=0) (m:=m_is_figures) F sc_is_figures rfl rfl rfl fun cdv A outer s H E hr=>?_
  exact (sb_cons (ss_if (SimW.t (sw_or (st_cmp (os_eq hr.units) (se_callB cs_len rfl T.b_len PySem.boot_len (sa_cons (se_var 0) sa_nil)) se_int) (sw_or1 (st_not (st_val (se_callB (cs_all rfl) rfl T.b_all boot_all (sa_cons (se_val (sn_comp [none] ["sign"] rfl (si_str (se_var 0)) (fun _ _ _ _ _=>(sg_name (i:=0) (show (["sign"] : List Str).Nodup by decide +kernel))) (fun _ _ _ _ _=>(se_chain os_le2 os_le2 se_str (se_var 0) se_str)) (fun _ _ _ _ _=>sts_nil) free_name)) sa_nil))))))) (sb_one (ss_ret se_bl)) sb_nil)
    (sb_one (ss_ret (se_or (se_cmp (os_eq hr.units) (se_var 0) se_str) (se_one (se_cmp (os_ne hr.units) (se_ixS (se_var 0) se_int) se_str))))))
def b_number_of_1 : MS:=(mSet 1 (mOp (oI fun a b=>.int (a - b)) (mOp oAdd (mOp oMul (mVar 1) (mC (.int 10))) (mCall cOrd (mCons (mVar 2) mNil))) (mCall cOrd (mCons (mC (.str "0")) mNil))))
def m_number_of : MS := (mSeqS (mSet 1 (mC (.int 0)))
    (mSeqS (mFor (gaName 2) (mStrI (mVar 0)) b_number_of_1)
    (mRet (mVar 1))))
def F_number_of : FN:=callF m_number_of 3
theorem sc_number_of : FnScope ["figures", "number", "figure"] ["figures"] (defScope s_number_of):=⟨rfl,rfl,rfl,by decide +kernel,rfl,by decide +kernel,by decide +kernel⟩
theorem ok_number_of {f : Addr} {fd : FuncData} (F : Fun K "number_of" "number_of" s_number_of f fd) (T : Txt mg)   : FnOk P w K mg base (CXD P w) 1 f fd ["figures"] (spF mg 1 F_number_of):=by
  refine fun_ok2 (k:=0) (m:=m_number_of) F sc_number_of rfl rfl rfl fun cdv A outer s H E hr=>?_
  exact (sb_cons (ss_set 1 sc_number_of.nd se_int)
    (sb_cons (ss_for PassesOwn.leaving rfl (si_str (se_var 0)) (sg_name (i:=2) sc_number_of.nd) (sb_one (ss_set 1 sc_number_of.nd (se_op os_sub (se_op os_add (se_op os_mul (se_var 1) se_int) (se_callB cs_ord rfl T.b_ord boot_ord (sa_cons (se_var 2) sa_nil))) (se_callB cs_ord rfl T.b_ord boot_ord (sa_cons se_str sa_nil))))))
    (sb_one (ss_ret (se_var 1)))))
def b_figures_of_1 : MS := (mSeqS (mExpr (mBM mtAppend (mVar 1) (mCons (mZfill (mCall cStrB (mCons (mOp oMod (mVar 2) (mOp oPow (mC (.int 10)) (mC (.int 18)))) mNil)) (mCons (mC (.int 18)) mNil)) mNil)))
    (mSet 2 (mOp oDivB (mVar 2) (mOp oPow (mC (.int 10)) (mC (.int 18))))))
def w_figures_of_1 : MT:=(toB (mOp (oI fun a b=>.bl (decide (b <= a))) (mVar 2) (mOp oPow (mC (.int 10)) (mC (.int 18)))))
def m_figures_of : MS := (mSeqS (mSet 1 (mTrk (mLstN mNil)))
    (mSeqS (mSet 2 (mVar 0))
    (mSeqS (whileG w_figures_of_1 b_figures_of_1 100000)
    (mSeqS (mExpr (mBM mtAppend (mVar 1) (mCons (mCall cStrB (mCons (mVar 2) mNil)) mNil)))
    (mRet (mJoinR (mC (.str "")) (mVar 1)))))))
def F_figures_of : FN:=callF m_figures_of 3
theorem sc_figures_of : FnScope ["number", "pieces", "rest"] ["number"] (defScope s_figures_of):=⟨rfl,rfl,rfl,by decide +kernel,rfl,by decide +kernel,by decide +kernel⟩
theorem ok_figures_of {f : Addr} {fd : FuncData} (F : Fun K "figures_of" "figures_of" s_figures_of f fd) (T : Txt mg)   : FnOk P w K mg base (CXD P w) 1 f fd ["number"] (spF mg 1 F_figures_of):=by
  refine fun_ok2 (k:=0) (m:=m_figures_of) F sc_figures_of rfl rfl rfl fun cdv A outer s H E hr=>?_
  exact (sb_cons (ss_set 1 sc_figures_of.nd (se_trk (sn_lst sa_nil)))
    (sb_cons (ss_set 2 sc_figures_of.nd (se_var 0))
    (sb_cons (ss_while 100000 PassesOwn.leaving (st_cmp os_ge (se_var 2) (se_op os_pow se_int se_int)) (sb_cons (ss_expr (se_append (se_var 1) (sa_cons (se_zfill (se_callT cs_strB rfl T.b_str boot_str (sa_cons (se_op os_mod (se_var 2) (se_op os_pow se_int se_int)) sa_nil)) (sa_cons se_int sa_nil)) sa_nil)))
    (sb_one (ss_set 2 sc_figures_of.nd (se_op os_divB (se_var 2) (se_op os_pow se_int se_int))))))
    (sb_cons (ss_expr (se_append (se_var 1) (sa_cons (se_callT cs_strB rfl T.b_str boot_str (sa_cons (se_var 2) sa_nil)) sa_nil)))
    (sb_one (ss_ret (se_joinR se_str (se_var 1) rfl rfl T.b_reversed)))))))
def e_show_row_1 : ME:=(mCallF 1 F_figures_of (mCons (mVar 0) mNil))
def m_show_row : MS:=(mRet (mJoin (mC (.str " ")) (mCons (mVal (mCompN [none] (gaName 0) (mSeq (mVar 0)) mTrue e_show_row_1)) mNil)))
def F_show_row : FN:=callF m_show_row 1
theorem sc_show_row : FnScope ["row"] ["row"] (defScope s_show_row):=⟨rfl,rfl,rfl,by decide +kernel,rfl,by decide +kernel,by decide +kernel⟩
theorem ok_show_row {f : Addr} {fd : FuncData} (F : Fun K "show_row" "show_row" s_show_row f fd) (T : Txt mg)  (D_figures_of : DefS P w K mg base 1 "figures_of" 1 F_figures_of) : FnOk P w K mg base (CXD P w) 2 f fd ["row"] (spF mg 1 F_show_row):=by
  refine fun_ok2 (k:=1) (m:=m_show_row) F sc_show_row rfl rfl rfl fun cdv A outer s H E hr=>?_
  exact (sb_one (ss_ret (se_join se_str (sa_cons (se_val (sn_comp [none] ["number"] rfl (si_seq (se_var 0)) (fun _ _ _ _ _=>(sg_name (i:=0) (show (["number"] : List Str).Nodup by decide +kernel))) (fun _ _ _ _ _=>(se_call D_figures_of (hr.mono (by decide)) pass00D rfl (sa_cons (se_var 0) sa_nil))) (fun _ _ _ _ _=>sts_nil) free_name)) sa_nil))))
def e_show_table_1 : ME:=(mCallF 1 F_show_row (mCons (mVar 0) mNil))
def m_show_table : MS:=(mRet (mJoin (mC (.str " / ")) (mCons (mVal (mCompN [none] (gaName 0) (mSeq (mVar 0)) mTrue e_show_table_1)) mNil)))
def F_show_table : FN:=callF m_show_table 1
theorem sc_show_table : FnScope ["table"] ["table"] (defScope s_show_table):=⟨rfl,rfl,rfl,by decide +kernel,rfl,by decide +kernel,by decide +kernel⟩
theorem ok_show_table {f : Addr} {fd : FuncData} (F : Fun K "show_table" "show_table" s_show_table f fd) (T : Txt mg)  (D_show_row : DefS P w K mg base 2 "show_row" 1 F_show_row) : FnOk P w K mg base (CXD P w) 3 f fd ["table"] (spF mg 1 F_show_table):=by
  refine fun_ok2 (k:=2) (m:=m_show_table) F sc_show_table rfl rfl rfl fun cdv A outer s H E hr=>?_
  exact (sb_one (ss_ret (se_join se_str (sa_cons (se_val (sn_comp [none] ["row"] rfl (si_seq (se_var 0)) (fun _ _ _ _ _=>(sg_name (i:=0) (show (["row"] : List Str).Nodup by decide +kernel))) (fun _ _ _ _ _=>(se_call D_show_row (hr.mono (by decide)) pass00D rfl (sa_cons (se_var 0) sa_nil))) (fun _ _ _ _ _=>sts_nil) free_name)) sa_nil))))
def e_read_row_1 : ME:=(mCallF 1 F_is_figures (mCons (mVar 0) mNil))
def e_read_row_2 : ME:=(mCallF 1 F_number_of (mCons (mVar 0) mNil))
def m_read_row : MS := (mSeqS (mSet 1 (mSplit (mVar 0) (mCons (mC (.str " ")) mNil)))
    (mSeqS (mIfS (tNotM (toB (mCall (cBls fun ns=>.bl (ns.all id)) (mCons (mVal (mCompN [none] (gaName 0) (mSeq (mVar 1)) mTrue e_read_row_1)) mNil)))) (mRaise "NoText" (mC (.str "a row holds numbers alone, with a blank between"))) mNext)
    (mRet (mCall cTuple (mCons (mVal (mCompN [none] (gaName 0) (mSeq (mVar 1)) mTrue e_read_row_2)) mNil)))))
def F_read_row : FN:=callF m_read_row 2
theorem sc_read_row : FnScope ["text", "words"] ["text"] (defScope s_read_row):=⟨rfl,rfl,rfl,by decide +kernel,rfl,by decide +kernel,by decide +kernel⟩
theorem ok_read_row {f : Addr} {fd : FuncData} (F : Fun K "read_row" "read_row" s_read_row f fd) (T : Txt mg) (C_NoText : ∃ C,mg "NoText" = some (.ref C) /\ PySem.W.excIn K C bmVE "ValueError.__new__" = true) (D_is_figures : DefS P w K mg base 1 "is_figures" 1 F_is_figures) (D_number_of : DefS P w K mg base 1 "number_of" 1 F_number_of) : FnOk P w K mg base (CXD P w) 2 f fd ["text"] (spF mg 1 F_read_row):=by
  refine fun_ok2 (k:=1) (m:=m_read_row) F sc_read_row rfl rfl rfl fun cdv A outer s H E hr=>?_
  exact (sb_cons (ss_set 1 sc_read_row.nd (se_split (se_var 0) (sa_cons se_str sa_nil)))
    (sb_cons (ss_if (st_not (st_val (se_callB (cs_all rfl) rfl T.b_all boot_all (sa_cons (se_val (sn_comp [none] ["word"] rfl (si_seq (se_var 1)) (fun _ _ _ _ _=>(sg_name (i:=0) (show (["word"] : List Str).Nodup by decide +kernel))) (fun _ _ _ _ _=>(se_call D_is_figures (hr.mono (by decide)) pass00D rfl (sa_cons (se_var 0) sa_nil))) (fun _ _ _ _ _=>sts_nil) free_name)) sa_nil)))) (sb_one (ss_raise rfl raiseDok rfl C_NoText.choose_spec.1 C_NoText.choose_spec.2 se_str)) sb_nil)
    (sb_one (ss_ret (se_callT cs_tuple rfl T.b_tuple boot_tuple (sa_cons (se_val (sn_comp [none] ["word"] rfl (si_seq (se_var 1)) (fun _ _ _ _ _=>(sg_name (i:=0) (show (["word"] : List Str).Nodup by decide +kernel))) (fun _ _ _ _ _=>(se_call D_number_of (hr.mono (by decide)) pass00D rfl (sa_cons (se_var 0) sa_nil))) (fun _ _ _ _ _=>sts_nil) free_name)) sa_nil))))))
def e_read_table_1 : ME:=(mCallF 1 F_read_row (mCons (mVar 0) mNil))
def m_read_table : MS := (mSeqS (mSet 1 (mCall cTuple (mCons (mVal (mCompX [none] (gaName 0) (mSeq (mSplit (mVar 0) (mCons (mC (.str " / ")) mNil))) e_read_table_1)) mNil)))
    (mSeqS (mIfS (tNotM (toB (mCallF 1 F_is_table (mCons (mVar 1) mNil)))) (mRaise "NoText" (mC (.str "these rows are no table"))) mNext)
    (mRet (mVar 1))))
def F_read_table : FN:=callF m_read_table 2
theorem sc_read_table : FnScope ["text", "table"] ["text"] (defScope s_read_table):=⟨rfl,rfl,rfl,by decide +kernel,rfl,by decide +kernel,by decide +kernel⟩
theorem ok_read_table {f : Addr} {fd : FuncData} (F : Fun K "read_table" "read_table" s_read_table f fd) (T : Txt mg) (C_NoText : ∃ C,mg "NoText" = some (.ref C) /\ PySem.W.excIn K C bmVE "ValueError.__new__" = true) (D_read_row : DefS P w K mg base 2 "read_row" 1 F_read_row) (D_is_table : DefS P w K mg base 3 "is_table" 1 F_is_table) : FnOk P w K mg base (CXD P w) 4 f fd ["text"] (spF mg 1 F_read_table):=by
  refine fun_ok2 (k:=3) (m:=m_read_table) F sc_read_table rfl rfl rfl fun cdv A outer s H E hr=>?_
  exact (sb_cons (ss_set 1 sc_read_table.nd (se_callT cs_tuple rfl T.b_tuple boot_tuple (sa_cons (se_val (sn_compX [none] ["row"] rfl (si_seq (se_split (se_var 0) (sa_cons se_str sa_nil))) (fun _ _ _ _ _=>(sg_name (i:=0) (show (["row"] : List Str).Nodup by decide +kernel))) (fun _ _ _ _ _=>(se_call D_read_row (hr.mono (by decide)) pass_blk rfl (sa_cons (se_var 0) sa_nil))) pass_onM rfl free_name)) sa_nil)))
    (sb_cons (ss_if (st_not (st_val (se_call D_is_table (hr.mono (by decide)) pass_onD rfl (sa_cons (se_var 1) sa_nil)))) (sb_one (ss_raise rfl raiseDok rfl C_NoText.choose_spec.1 C_NoText.choose_spec.2 se_str)) sb_nil)
    (sb_one (ss_ret (se_var 1)))))
def m__law_acell : MS := (mSeqS (mIfS (toB (mOp oLt (mVar 1) (mCall cLen (mCons (mVar 0) mNil)))) (mRet (mOp oIx (mVar 0) (mVar 1))) mNext)
    (mRet (mC (.int 0))))
def F__law_acell : FN:=callF m__law_acell 2
theorem sc__law_acell : FnScope ["script", "k"] ["script", "k"] (defScope s__law_acell):=⟨rfl,rfl,rfl,by decide +kernel,rfl,by decide +kernel,by decide +kernel⟩
theorem ok__law_acell {f : Addr} {fd : FuncData} (F : Fun K "_law_acell" "_law_acell" s__law_acell f fd) (T : Txt mg)   : FnOk P w K mg base (CXD P w) 1 f fd ["script", "k"] (spF mg 2 F__law_acell):=by
  refine fun_ok2 (k:=0) (m:=m__law_acell) F sc__law_acell rfl rfl rfl fun cdv A outer s H E hr=>?_
  exact (sb_cons (ss_if (st_cmp (os_lt hr.units) (se_var 1) (se_callB cs_len rfl T.b_len PySem.boot_len (sa_cons (se_var 0) sa_nil))) (sb_one (ss_ret (se_ix (se_var 0) (se_var 1)))) sb_nil)
    (sb_one (ss_ret se_int)))
def b__law_atape_1 : MS := (mSeqS (mSet 4 (mOp oAdd (mOp oMul (mVar 4) (mVar 3)) (mVar 5)))
    (mSet 5 (mOp oMod (mOp oAdd (mOp oAdd (mOp oMul (mVar 5) (mVar 5)) (mOp oMul (mC (.int 40692)) (mVar 1))) (mVar 6)) (mVar 3))))
def m__law_atape : MS := (mSeqS (mSet 2 (mCallF 2 F__law_acell (mCons (mVar 0) (mCons (mVar 1) mNil))))
    (mSeqS (mIfS (toB (mOp oEq (mOp oMod (mVar 2) (mC (.int 2))) (mC (.int 0)))) (mRet (mTrk (mLstN (mCons (mOp oDiv (mVar 2) (mC (.int 2))) mNil)))) mNext)
    (mSeqS (mSet 3 (mC (.int 2305843009213693951)))
    (mSeqS (mSet 4 (mC (.int 0)))
    (mSeqS (mSet 5 (mOp oMod (mOp oAdd (mOp oAdd (mOp oMul (mOp oMod (mVar 2) (mVar 3)) (mC (.int 48271))) (mOp oMul (mC (.int 69621)) (mVar 1))) (mC (.int 11))) (mVar 3)))
    (mSeqS (mFor (gaName 6) (mRange1 (mCons (mC (.int 5)) mNil)) b__law_atape_1)
    (mRet (mTrk (mLstN (mCons (mVar 4) mNil))))))))))
def F__law_atape : FN:=callK m__law_atape 7
theorem sc__law_atape : FnScope ["script", "k", "cell", "p", "number", "last", "turn"] ["script", "k"] (defScope s__law_atape):=⟨rfl,rfl,rfl,by decide +kernel,rfl,by decide +kernel,by decide +kernel⟩
theorem ok__law_atape {f : Addr} {fd : FuncData} (F : Fun K "_law_atape" "_law_atape" s__law_atape f fd) (T : Txt mg)  (D__law_acell : DefS P w K mg base 1 "_law_acell" 2 F__law_acell) : FnOk P w K mg base (CXD P w) 2 f fd ["script", "k"] (spF mg 2 F__law_atape):=by
  refine fun_ok2K (k:=1) (m:=m__law_atape) F sc__law_atape rfl rfl rfl fun cdv A outer s H E hr=>?_
  exact (sb_cons (ss_set 2 sc__law_atape.nd (se_call D__law_acell (hr.mono (by decide)) pass_onD rfl (sa_cons (se_var 0) (sa_cons (se_var 1) sa_nil))))
    (sb_cons (ss_if (st_cmp (os_eq hr.units) (se_op os_mod (se_var 2) se_int) se_int) (sb_one (ss_ret (se_trk (sn_lst (sa_cons (se_op os_div (se_var 2) se_int) sa_nil))))) sb_nil)
    (sb_cons (ss_set 3 sc__law_atape.nd se_int)
    (sb_cons (ss_set 4 sc__law_atape.nd se_int)
    (sb_cons (ss_set 5 sc__law_atape.nd (se_op os_mod (se_op os_add (se_op os_add (se_op os_mul (se_op os_mod (se_var 2) (se_var 3)) se_int) (se_op os_mul se_int (se_var 1))) se_int) (se_var 3)))
    (sb_cons (ss_for PassesOwn.leaving rfl (si_range1 rfl T.b_range (sa_cons se_int sa_nil)) (sg_name (i:=6) sc__law_atape.nd) (sb_cons (ss_set 4 sc__law_atape.nd (se_op os_add (se_op os_mul (se_var 4) (se_var 3)) (se_var 5)))
    (sb_one (ss_set 5 sc__law_atape.nd (se_op os_mod (se_op os_add (se_op os_add (se_op os_mul (se_var 5) (se_var 5)) (se_op os_mul se_int (se_var 1))) (se_var 6)) (se_var 3))))))
    (sb_one (ss_ret (se_trk (sn_lst (sa_cons (se_var 4) sa_nil)))))))))))
def m__law_adigit : MS := (mSeqS (mSet 2 (mOp oMod (mOp oIx (mVar 0) (mC (.int 0))) (mVar 1)))
    (mSeqS (mSetIx (mVar 0) (mC (.int 0)) (mOp oDivC (mOp oIx (mVar 0) (mC (.int 0))) (mVar 1)))
    (mRet (mVar 2))))
def F__law_adigit : FN:=callF m__law_adigit 3
theorem sc__law_adigit : FnScope ["tape", "many", "found"] ["tape", "many"] (defScope s__law_adigit):=⟨rfl,rfl,rfl,by decide +kernel,rfl,by decide +kernel,by decide +kernel⟩
theorem ok__law_adigit {f : Addr} {fd : FuncData} (F : Fun K "_law_adigit" "_law_adigit" s__law_adigit f fd) (T : Txt mg)   : FnOk P w K mg base (CXD P w) 1 f fd ["tape", "many"] (spF mg 2 F__law_adigit):=by
  refine fun_ok2 (k:=0) (m:=m__law_adigit) F sc__law_adigit rfl rfl rfl fun cdv A outer s H E hr=>?_
  exact (sb_cons (ss_set 2 sc__law_adigit.nd (se_op os_mod (se_ix (se_var 0) se_int) (se_var 1)))
    (sb_cons (ss_sub (se_op os_divC (se_ix (se_var 0) se_int) (se_var 1)) (se_var 0) se_int)
    (sb_one (ss_ret (se_var 2)))))
def e__law_arights_1 : ME:=(mOp oIx (mOp oIx (mVar 2) (mVar 0)) (mVar 1))
def e__law_arights_2 : ME:=(mVar 0)
def m__law_arights : MS := (mSeqS (mSet 2 (mCall (cInts fun ns => some (.int ns.sum)) (mCons (mVal (mCompN [none, some 1, some 0] (gaName 0) (mRange1 (mCons (mCall cLen (mCons (mVar 0) mNil)) mNil)) mTrue e__law_arights_1)) mNil)))
    (mRet (mOp oAdd (mOp (oI fun a b=>.int (a - b)) (mVar 2) (mCall (cInts fun ns=>some (.int ns.sum)) (mCons (mVal (mCompN [none] (gaName 0) (mSeq (mOp oIx (mVar 0) (mVar 1))) mTrue e__law_arights_2)) mNil))) (mOp oIx (mOp oIx (mVar 0) (mVar 1)) (mVar 1)))))
def F__law_arights : FN:=callF m__law_arights 3
theorem sc__law_arights : FnScope ["table", "i", "lent"] ["table", "i"] (defScope s__law_arights):=⟨rfl,rfl,rfl,by decide +kernel,rfl,by decide +kernel,by decide +kernel⟩
theorem ok__law_arights {f : Addr} {fd : FuncData} (F : Fun K "_law_arights" "_law_arights" s__law_arights f fd) (T : Txt mg)   : FnOk P w K mg base (CXD P w) 1 f fd ["table", "i"] (spF mg 2 F__law_arights):=by
  refine fun_ok2 (k:=0) (m:=m__law_arights) F sc__law_arights rfl rfl rfl fun cdv A outer s H E hr=>?_
  exact (sb_cons (ss_set 2 sc__law_arights.nd (se_callB (cs_sum rfl) rfl T.b_sum boot_sum (sa_cons (se_val (sn_comp [none,some 1,some 0] ["j", "i", "table"] rfl (si_range1 rfl T.b_range (sa_cons (se_callB cs_len rfl T.b_len PySem.boot_len (sa_cons (se_var 0) sa_nil)) sa_nil)) (fun _ _ _ _ _=>(sg_name (i:=0) (show (["j", "i", "table"] : List Str).Nodup by decide +kernel))) (fun _ _ _ _ _=>(se_ix (se_ix (se_var 2) (se_var 0)) (se_var 1))) (fun _ _ _ _ _=>sts_nil) free_name)) sa_nil)))
    (sb_one (ss_ret (se_op os_add (se_op os_sub (se_var 2) (se_callB (cs_sum rfl) rfl T.b_sum boot_sum (sa_cons (se_val (sn_comp [none] ["number"] rfl (si_seq (se_ix (se_var 0) (se_var 1))) (fun _ _ _ _ _=>(sg_name (i:=0) (show (["number"] : List Str).Nodup by decide +kernel))) (fun _ _ _ _ _=>(se_var 0)) (fun _ _ _ _ _=>sts_nil) free_name)) sa_nil))) (se_ix (se_ix (se_var 0) (se_var 1)) (se_var 1))))))
def e__law_abare_1 : ME:=(mCall cTuple (mCons (mOp oMul (mLst (mCons (mC (.int 0)) mNil)) (mOp oAdd (mVar 1) (mC (.int 1)))) mNil))
def m__law_abare : MS:=(mRet (mCall cTuple (mCons (mVal (mCompN [none,some 0] (gaName 0) (mRange1 (mCons (mVar 0) mNil)) mTrue e__law_abare_1)) mNil)))
def F__law_abare : FN:=callF m__law_abare 1
theorem sc__law_abare : FnScope ["size"] ["size"] (defScope s__law_abare):=⟨rfl,rfl,rfl,by decide +kernel,rfl,by decide +kernel,by decide +kernel⟩
theorem ok__law_abare {f : Addr} {fd : FuncData} (F : Fun K "_law_abare" "_law_abare" s__law_abare f fd) (T : Txt mg)   : FnOk P w K mg base (CXD P w) 1 f fd ["size"] (spF mg 1 F__law_abare):=by
  refine fun_ok2 (k:=0) (m:=m__law_abare) F sc__law_abare rfl rfl rfl fun cdv A outer s H E hr=>?_
  exact (sb_one (ss_ret (se_callT cs_tuple rfl T.b_tuple boot_tuple (sa_cons (se_val (sn_comp [none,some 0] ["i", "size"] rfl (si_range1 rfl T.b_range (sa_cons (se_var 0) sa_nil)) (fun _ _ _ _ _=>(sg_name (i:=0) (show (["i", "size"] : List Str).Nodup by decide +kernel))) (fun _ _ _ _ _=>(se_callT cs_tuple rfl T.b_tuple boot_tuple (sa_cons (se_op os_mul (se_lst (sa_cons se_int sa_nil)) (se_op os_add (se_var 1) se_int)) sa_nil))) (fun _ _ _ _ _=>sts_nil) free_name)) sa_nil))))
def m__law_araised : MS := (mSeqS (mSet 4 (mOp oAdd (mOp oAdd (mSl (mOp oIx (mVar 0) (mVar 1)) mNoPart (mPart (mVar 2))) (mTup (mCons (mOp oAdd (mOp oIx (mOp oIx (mVar 0) (mVar 1)) (mVar 2)) (mVar 3)) mNil))) (mSl (mOp oIx (mVar 0) (mVar 1)) (mPart (mOp oAdd (mVar 2) (mC (.int 1)))) mNoPart)))
    (mRet (mOp oAdd (mOp oAdd (mSl (mVar 0) mNoPart (mPart (mVar 1))) (mTup (mCons (mVar 4) mNil))) (mSl (mVar 0) (mPart (mOp oAdd (mVar 1) (mC (.int 1)))) mNoPart))))
def F__law_araised : FN:=callF m__law_araised 5
theorem sc__law_araised : FnScope ["table", "i", "at", "k", "row"] ["table", "i", "at", "k"] (defScope s__law_araised):=⟨rfl,rfl,rfl,by decide +kernel,rfl,by decide +kernel,by decide +kernel⟩
theorem ok__law_araised {f : Addr} {fd : FuncData} (F : Fun K "_law_araised" "_law_araised" s__law_araised f fd) (T : Txt mg)   : FnOk P w K mg base (CXD P w) 1 f fd ["table", "i", "at", "k"] (spF mg 4 F__law_araised):=by
  refine fun_ok2 (k:=0) (m:=m__law_araised) F sc__law_araised rfl rfl rfl fun cdv A outer s H E hr=>?_
  exact (sb_cons (ss_set 4 sc__law_araised.nd (se_op os_add (se_op os_add (se_slice (se_ix (se_var 0) (se_var 1)) so_none (so_some (se_var 2))) (se_tup (sa_cons (se_op os_add (se_ix (se_ix (se_var 0) (se_var 1)) (se_var 2)) (se_var 3)) sa_nil))) (se_slice (se_ix (se_var 0) (se_var 1)) (so_some (se_op os_add (se_var 2) se_int)) so_none)))
    (sb_one (ss_ret (se_op os_add (se_op os_add (se_slice (se_var 0) so_none (so_some (se_var 1))) (se_tup (sa_cons (se_var 4) sa_nil))) (se_slice (se_var 0) (so_some (se_op os_add (se_var 1) se_int)) so_none)))))
def m__law_amuch : MS := (mSeqS (mSet 1 (mCallF 2 F__law_adigit (mCons (mVar 0) (mCons (mC (.int 12)) mNil))))
    (mSeqS (mIfS (toB (mOp oEq (mVar 1) (mC (.int 11)))) (mRet (mOp (oI fun a b=>.int (a - b)) (mOp oPow (mC (.int 10)) (mC (.int 20))) (mCallF 2 F__law_adigit (mCons (mVar 0) (mCons (mC (.int 3)) mNil))))) mNext)
    (mRet (mOp oAdd (mC (.int 1)) (mOp oMod (mVar 1) (mC (.int 7)))))))
def F__law_amuch : FN:=callF m__law_amuch 2
theorem sc__law_amuch : FnScope ["tape", "way"] ["tape"] (defScope s__law_amuch):=⟨rfl,rfl,rfl,by decide +kernel,rfl,by decide +kernel,by decide +kernel⟩
theorem ok__law_amuch {f : Addr} {fd : FuncData} (F : Fun K "_law_amuch" "_law_amuch" s__law_amuch f fd) (T : Txt mg)  (D__law_adigit : DefS P w K mg base 1 "_law_adigit" 2 F__law_adigit) : FnOk P w K mg base (CXD P w) 2 f fd ["tape"] (spF mg 1 F__law_amuch):=by
  refine fun_ok2 (k:=1) (m:=m__law_amuch) F sc__law_amuch rfl rfl rfl fun cdv A outer s H E hr=>?_
  exact (sb_cons (ss_set 1 sc__law_amuch.nd (se_call D__law_adigit (hr.mono (by decide)) pass_onD rfl (sa_cons (se_var 0) (sa_cons se_int sa_nil))))
    (sb_cons (ss_if (st_cmp (os_eq hr.units) (se_var 1) se_int) (sb_one (ss_ret (se_op os_sub (se_op os_pow se_int se_int) (se_call D__law_adigit (hr.mono (by decide)) pass_onD rfl (sa_cons (se_var 0) (sa_cons se_int sa_nil)))))) sb_nil)
    (sb_one (ss_ret (se_op os_add se_int (se_op os_mod (se_var 1) se_int))))))
def b__law_atable_1 : MS := (mSeqS (mSet 5 (mCallF 2 F__law_adigit (mCons (mVar 0) (mCons (mVar 1) mNil))))
    (mSeqS (mSet 6 (mCallF 2 F__law_adigit (mCons (mVar 0) (mCons (mC (.int 4)) mNil))))
    (mSeqS (mSet 7 (mCallF 2 F__law_arights (mCons (mVar 3) (mCons (mVar 5) mNil))))
    (mIfS (tOrM (toB (mOp oLt (mVar 6) (mC (.int 2)))) (toB (mOp oEq (mVar 7) (mC (.int 0))))) (mSet 3 (mCallF 4 F__law_araised (mCons (mVar 3) (mCons (mVar 5) (mCons (mVar 5) (mCons (mCallF 1 F__law_amuch (mCons (mVar 0) mNil)) mNil)))))) (mIfS (tAndM (toB (mOp oEq (mVar 6) (mC (.int 2)))) (toB (mOp (oI fun a b=>.bl (decide (b < a))) (mVar 1) (mC (.int 1))))) (mSeqS (mSet 8 (mOp oMod (mOp oAdd (mOp oAdd (mVar 5) (mC (.int 1))) (mCallF 2 F__law_adigit (mCons (mVar 0) (mCons (mOp (oI fun a b=>.int (a - b)) (mVar 1) (mC (.int 1))) mNil)))) (mVar 1)))
    (mSet 3 (mCallF 4 F__law_araised (mCons (mVar 3) (mCons (mVar 5) (mCons (mVar 8) (mCons (mOp oAdd (mC (.int 1)) (mCallF 2 F__law_adigit (mCons (mVar 0) (mCons (mVar 7) mNil)))) mNil))))))) (mSet 3 (mCallF 4 F__law_araised (mCons (mVar 3) (mCons (mVar 5) (mCons (mVar 1) (mCons (mOp oAdd (mC (.int 1)) (mCallF 2 F__law_adigit (mCons (mVar 0) (mCons (mVar 7) mNil)))) mNil)))))))))))
def m__law_atable : MS := (mSeqS (mSet 3 (mCallF 1 F__law_abare (mCons (mVar 1) mNil)))
    (mSeqS (mFor (gaName 4) (mRange1 (mCons (mVar 2) mNil)) b__law_atable_1)
    (mRet (mVar 3))))
def F__law_atable : FN:=callF m__law_atable 9
theorem sc__law_atable : FnScope ["tape", "size", "many", "table", "turn", "i", "way", "have", "j"] ["tape", "size", "many"] (defScope s__law_atable):=⟨rfl,rfl,rfl,by decide +kernel,rfl,by decide +kernel,by decide +kernel⟩
theorem ok__law_atable {f : Addr} {fd : FuncData} (F : Fun K "_law_atable" "_law_atable" s__law_atable f fd) (T : Txt mg)  (D__law_abare : DefS P w K mg base 1 "_law_abare" 1 F__law_abare) (D__law_adigit : DefS P w K mg base 1 "_law_adigit" 2 F__law_adigit) (D__law_arights : DefS P w K mg base 1 "_law_arights" 2 F__law_arights) (D__law_araised : DefS P w K mg base 1 "_law_araised" 4 F__law_araised) (D__law_amuch : DefS P w K mg base 2 "_law_amuch" 1 F__law_amuch) : FnOk P w K mg base (CXD P w) 3 f fd ["tape", "size", "many"] (spF mg 3 F__law_atable):=by
  refine fun_ok2 (k:=2) (m:=m__law_atable) F sc__law_atable rfl rfl rfl fun cdv A outer s H E hr=>?_
  exact (sb_cons (ss_set 3 sc__law_atable.nd (se_call D__law_abare (hr.mono (by decide)) pass_onD rfl (sa_cons (se_var 1) sa_nil)))
    (sb_cons (ss_for PassesOwn.leaving rfl (si_range1 rfl T.b_range (sa_cons (se_var 2) sa_nil)) (sg_name (i:=4) sc__law_atable.nd) (sb_cons (ss_set 5 sc__law_atable.nd (se_call D__law_adigit (hr.mono (by decide)) pass_onD rfl (sa_cons (se_var 0) (sa_cons (se_var 1) sa_nil))))
    (sb_cons (ss_set 6 sc__law_atable.nd (se_call D__law_adigit (hr.mono (by decide)) pass_onD rfl (sa_cons (se_var 0) (sa_cons se_int sa_nil))))
    (sb_cons (ss_set 7 sc__law_atable.nd (se_call D__law_arights (hr.mono (by decide)) pass_onD rfl (sa_cons (se_var 3) (sa_cons (se_var 5) sa_nil))))
    (sb_one (ss_if (SimW.t (sw_or (st_cmp (os_lt hr.units) (se_var 6) se_int) (sw_or1 (st_cmp (os_eq hr.units) (se_var 7) se_int)))) (sb_one (ss_set 3 sc__law_atable.nd (se_call D__law_araised (hr.mono (by decide)) pass_onD rfl (sa_cons (se_var 3) (sa_cons (se_var 5) (sa_cons (se_var 5) (sa_cons (se_call D__law_amuch (hr.mono (by decide)) pass_onD rfl (sa_cons (se_var 0) sa_nil)) sa_nil))))))) (sb_one (ss_if (SimW.t (sw_and (st_cmp (os_eq hr.units) (se_var 6) se_int) (sw_and1 (st_cmp os_gt (se_var 1) se_int)))) (sb_cons (ss_set 8 sc__law_atable.nd (se_op os_mod (se_op os_add (se_op os_add (se_var 5) se_int) (se_call D__law_adigit (hr.mono (by decide)) pass_onD rfl (sa_cons (se_var 0) (sa_cons (se_op os_sub (se_var 1) se_int) sa_nil)))) (se_var 1)))
    (sb_one (ss_set 3 sc__law_atable.nd (se_call D__law_araised (hr.mono (by decide)) pass_onD rfl (sa_cons (se_var 3) (sa_cons (se_var 5) (sa_cons (se_var 8) (sa_cons (se_op os_add se_int (se_call D__law_adigit (hr.mono (by decide)) pass_onD rfl (sa_cons (se_var 0) (sa_cons (se_var 7) sa_nil)))) sa_nil)))))))) (sb_one (ss_set 3 sc__law_atable.nd (se_call D__law_araised (hr.mono (by decide)) pass_onD rfl (sa_cons (se_var 3) (sa_cons (se_var 5) (sa_cons (se_var 1) (sa_cons (se_op os_add se_int (se_call D__law_adigit (hr.mono (by decide)) pass_onD rfl (sa_cons (se_var 0) (sa_cons (se_var 7) sa_nil)))) sa_nil)))))))))))))))
    (sb_one (ss_ret (se_var 3)))))
abbrev kdL : List (Nat × Str):=[(11, "text")]
def spKd (c : Nat -> Addr) : Sp:=fun vs H Q E=>∃ e dv t wd,vs = [V.ref e] /\ (t,wd) ∈ kdL /\ H e = some (.ext (IsXD e (c t) dv)) /\ ∀ H2,Same H H2 -> Q (.str wd) H2
theorem sc__law_akind : FnScope ["caught", "names", "some"] ["caught"] (defScope s__law_akind):=⟨rfl,rfl,rfl,by decide +kernel,rfl,by decide +kernel,by decide +kernel⟩
theorem ok__law_akind {f : Addr} {fd : FuncData} {c : Nat -> Addr} (F : Fun K "_law_akind" "_law_akind" s__law_akind f fd) (T : Txt mg) (Nm : Nms mg c) (TT : ∀ t wd,(t,wd) ∈ kdL -> TgtS K c t /\ PySem.W.kitOne K (.ref (c t)) (.ref (c 0)) = some true) : FnOkH P w K mg base 1 f fd ["caught"] (spKd c):=by
  refine Fun.okH (k:=0) F sc__law_akind (fun vs H Q E h=>by obtain ⟨e,dv,_,_,rfl,_⟩:=h; rfl) fun cdv A outer s H vs Q E hr hsp=>?_
  obtain ⟨e,dv,t,wd,rfl,hm,hE0,hQ⟩:=hsp
  obtain ⟨T0,W0⟩:=TT t wd hm
  refine jok ?_
  refine ⟨_,jss_cons (js_set (i:=1) sc__law_akind.nd rfl (Or.inl rfl) (je_lst ⟨pa_strsE ["book", "deed", "house", "letter", "manner", "name", "plan", "road", "row", "stand", "table"] [(_,_),(_,_),(_,_),(_,_),(_,_),(_,_),(_,_),(_,_),(_,_),(_,_),(_,_)] rfl⟩))
      (jss_cons (js_set (i:=1) sc__law_akind.nd rfl (Or.inl rfl) (je_op op_cat ⟨pv 1⟩ (je_lst ⟨pa_strsE ["text", "short", "many"] [(_,_),(_,_),(_,_)] rfl⟩)))
      (jss_cons (js_set (i:=2) sc__law_akind.nd rfl (Or.inl rfl) (je_lst (ja_cons ⟨pe_callB (call_isxD K) (by rfl) Nm.isi boot_isinstance (pa_cons (pv 0) (pa_cons (pe_glob (v:=.ref (c 8)) (by rfl) Nm.m8 rfl) pa_nil))⟩ (ja_cons ⟨pe_callB (call_isxD K) (by rfl) Nm.isi boot_isinstance (pa_cons (pv 0) (pa_cons (pe_glob (v:=.ref (c 3)) (by rfl) Nm.m3 rfl) pa_nil))⟩ (ja_cons ⟨pe_callB (call_isxD K) (by rfl) Nm.isi boot_isinstance (pa_cons (pv 0) (pa_cons (pe_glob (v:=.ref (c 2)) (by rfl) Nm.m2 rfl) pa_nil))⟩ ja_nil)))))
      (jss_cons (js_set (i:=2) sc__law_akind.nd rfl (Or.inl rfl) (je_op op_cat ⟨pv 2⟩ (je_lst (ja_cons ⟨pe_callB (call_isxD K) (by rfl) Nm.isi boot_isinstance (pa_cons (pv 0) (pa_cons (pe_glob (v:=.ref (c 4)) (by rfl) Nm.m4 rfl) pa_nil))⟩ (ja_cons ⟨pe_callB (call_isxD K) (by rfl) Nm.isi boot_isinstance (pa_cons (pv 0) (pa_cons (pe_glob (v:=.ref (c 9)) (by rfl) Nm.m9 rfl) pa_nil))⟩ (ja_cons ⟨pe_callB (call_isxD K) (by rfl) Nm.isi boot_isinstance (pa_cons (pv 0) (pa_cons (pe_glob (v:=.ref (c 13)) (by rfl) Nm.m13 rfl) pa_nil))⟩ ja_nil))))))
      (jss_cons (js_set (i:=2) sc__law_akind.nd rfl (Or.inl rfl) (je_op op_cat ⟨pv 2⟩ (je_lst (ja_cons ⟨pe_callB (call_isxD K) (by rfl) Nm.isi boot_isinstance (pa_cons (pv 0) (pa_cons (pe_glob (v:=.ref (c 7)) (by rfl) Nm.m7 rfl) pa_nil))⟩ (ja_cons ⟨pe_callB (call_isxD K) (by rfl) Nm.isi boot_isinstance (pa_cons (pv 0) (pa_cons (pe_glob (v:=.ref (c 6)) (by rfl) Nm.m6 rfl) pa_nil))⟩ (ja_cons ⟨pe_callB (call_isxD K) (by rfl) Nm.isi boot_isinstance (pa_cons (pv 0) (pa_cons (pe_glob (v:=.ref (c 12)) (by rfl) Nm.m12 rfl) pa_nil))⟩ ja_nil))))))
      (jss_cons (js_set (i:=2) sc__law_akind.nd rfl (Or.inl rfl) (je_op op_cat ⟨pv 2⟩ (je_lst (ja_cons ⟨pe_callB (call_isxD K) (by rfl) Nm.isi boot_isinstance (pa_cons (pv 0) (pa_cons (pe_glob (v:=.ref (c 5)) (by rfl) Nm.m5 rfl) pa_nil))⟩ (ja_cons ⟨pe_callB (call_isxD K) (by rfl) Nm.isi boot_isinstance (pa_cons (pv 0) (pa_cons (pe_glob (v:=.ref (c 1)) (by rfl) Nm.m1 rfl) pa_nil))⟩ (ja_cons ⟨pe_callB (call_isxD K) (by rfl) Nm.isi boot_isinstance (pa_cons (pv 0) (pa_cons (pe_glob (v:=.ref (c 11)) (by rfl) Nm.m11 rfl) pa_nil))⟩ ja_nil))))))
      (jss_cons (js_set (i:=2) sc__law_akind.nd rfl (Or.inl rfl) (je_op op_cat ⟨pv 2⟩ (je_lst (ja_cons ⟨pe_callB (call_isxD K) (by rfl) Nm.isi boot_isinstance (pa_cons (pv 0) (pa_cons (pe_glob (v:=.ref (c 14)) (by rfl) Nm.m14 rfl) pa_nil))⟩ (ja_cons ⟨pe_callB (call_isxD K) (by rfl) Nm.isi boot_isinstance (pa_cons (pv 0) (pa_cons (pe_glob (v:=.ref (c 10)) (by rfl) Nm.m10 rfl) pa_nil))⟩ ja_nil)))))
      (jss_cons (js_if (PW.pt (pw_or (pt_cmpR op_ne (pe_bm PySem.F.plainAttrs_list PySem.F.slot_list_count PySem.F.type_list_count mt_countB (pv 2) (pa_cons pe_bl pa_nil)) pe_int (nomark _)) (pw_or (pt_not (pt_val (pe_callB (call_isxD K) (by rfl) Nm.isi boot_isinstance (pa_cons (pv 0) (pa_cons (pe_glob (v:=.ref (c 0)) (by rfl) Nm.m0 rfl) pa_nil))))) (pw_or1 (pt_not (pt_val (pe_callB (call_isxD K) (by rfl) Nm.isi boot_isinstance (pa_cons (pv 0) (pa_cons (pe_bltn (v:=.ty "ValueError") (by rfl) Nm.ve boot_ValueError rfl) pa_nil))))))))) (jss_one (js_ret je_str)) jss_nil)
      (jss_one (js_ret (je_ix ix_list (⟨pv 1⟩) ⟨pe_bm PySem.F.plainAttrs_list PySem.F.slot_list_index PySem.F.type_list_index mt_indexB (pv 2) (pa_cons pe_bl pa_nil)⟩ (fun _ _=>rfl))))))))))),?_⟩
  refine ⟨by first | decide | exact small1000 (by simp),fun p1 hp1=>?_⟩
  obtain ⟨H1,e1⟩ : ∃ H1,upd H p1 (.lst (List.map V.str ["book", "deed", "house", "letter", "manner", "name", "plan", "road", "row", "stand", "table"])) = H1:=⟨_,rfl⟩
  have hE1 : H1 e = some (.ext (IsXD e (c t) dv)):=e1 ▸ keepE hE0 hp1
  have sm1 : Same H H1:=e1 ▸ same_add (fun _ _ z=>z) hp1
  have k_p1_1 : H1 p1 = some (.lst (List.map V.str ["book", "deed", "house", "letter", "manner", "name", "plan", "road", "row", "stand", "table"])):=e1 ▸ upd_same
  rw [show upd H p1 (.lst (List.map V.str ["book", "deed", "house", "letter", "manner", "name", "plan", "road", "row", "stand", "table"])) = H1 from e1]
  refine ⟨_,rfl,?_⟩
  refine ⟨by first | decide | exact small1000 (by simp),fun p2 hp2=>?_⟩
  obtain ⟨H2,e2⟩ : ∃ H2,upd H1 p2 (.lst (List.map V.str ["text", "short", "many"])) = H2:=⟨_,rfl⟩
  have hE2 : H2 e = some (.ext (IsXD e (c t) dv)):=e2 ▸ keepE hE1 hp2
  have sm2 : Same H H2:=e2 ▸ same_add sm1 hp2
  have k_p2_2 : H2 p2 = some (.lst (List.map V.str ["text", "short", "many"])):=e2 ▸ upd_same
  have k_p1_2 : H2 p1 = some (.lst (List.map V.str ["book", "deed", "house", "letter", "manner", "name", "plan", "road", "row", "stand", "table"])):=e2 ▸ keepE k_p1_1 hp2
  rw [show upd H1 p2 (.lst (List.map V.str ["text", "short", "many"])) = H2 from e2]
  refine ⟨_,_,_,_,rfl,rfl,k_p1_2,k_p2_2,(by first | decide | exact small1000 (by simp)),fun p3 hp3=>?_⟩
  obtain ⟨H3,e3⟩ : ∃ H3,upd H2 p3 (.lst (List.map V.str ["book", "deed", "house", "letter", "manner", "name", "plan", "road", "row", "stand", "table"] ++ List.map V.str ["text", "short", "many"])) = H3:=⟨_,rfl⟩
  have hE3 : H3 e = some (.ext (IsXD e (c t) dv)):=e3 ▸ keepE hE2 hp3
  have sm3 : Same H H3:=e3 ▸ same_add sm2 hp3
  have k_p3_3 : H3 p3 = some (.lst (List.map V.str ["book", "deed", "house", "letter", "manner", "name", "plan", "road", "row", "stand", "table"] ++ List.map V.str ["text", "short", "many"])):=e3 ▸ upd_same
  have k_p1_3 : H3 p1 = some (.lst (List.map V.str ["book", "deed", "house", "letter", "manner", "name", "plan", "road", "row", "stand", "table"])):=e3 ▸ keepE k_p1_2 hp3
  rw [show upd H2 p3 (.lst (List.map V.str ["book", "deed", "house", "letter", "manner", "name", "plan", "road", "row", "stand", "table"] ++ List.map V.str ["text", "short", "many"])) = H3 from e3]
  refine ⟨_,rfl,e,_,_,_,_,decide (8 = t),rfl,rfl,hE3,T0.xc,T0.k 8 (by decide) (by decide),?_⟩
  refine ⟨_,rfl,e,_,_,_,_,decide (3 = t),rfl,rfl,hE3,T0.xc,T0.k 3 (by decide) (by decide),?_⟩
  refine ⟨_,rfl,e,_,_,_,_,decide (2 = t),rfl,rfl,hE3,T0.xc,T0.k 2 (by decide) (by decide),?_⟩
  refine ⟨by first | decide | exact small1000 (by simp),fun p4 hp4=>?_⟩
  obtain ⟨H4,e4⟩ : ∃ H4,upd H3 p4 (.lst [.bl (decide (8 = t)),.bl (decide (3 = t)),.bl (decide (2 = t))]) = H4:=⟨_,rfl⟩
  have hE4 : H4 e = some (.ext (IsXD e (c t) dv)):=e4 ▸ keepE hE3 hp4
  have sm4 : Same H H4:=e4 ▸ same_add sm3 hp4
  have k_p4_4 : H4 p4 = some (.lst [.bl (decide (8 = t)),.bl (decide (3 = t)),.bl (decide (2 = t))]):=e4 ▸ upd_same
  have k_p3_4 : H4 p3 = some (.lst (List.map V.str ["book", "deed", "house", "letter", "manner", "name", "plan", "road", "row", "stand", "table"] ++ List.map V.str ["text", "short", "many"])):=e4 ▸ keepE k_p3_3 hp4
  rw [show upd H3 p4 (.lst (_)) = H4 from e4]
  refine ⟨_,rfl,?_⟩
  refine ⟨_,rfl,e,_,_,_,_,decide (4 = t),rfl,rfl,hE4,T0.xc,T0.k 4 (by decide) (by decide),?_⟩
  refine ⟨_,rfl,e,_,_,_,_,decide (9 = t),rfl,rfl,hE4,T0.xc,T0.k 9 (by decide) (by decide),?_⟩
  refine ⟨_,rfl,e,_,_,_,_,decide (13 = t),rfl,rfl,hE4,T0.xc,T0.k 13 (by decide) (by decide),?_⟩
  refine ⟨by first | decide | exact small1000 (by simp),fun p5 hp5=>?_⟩
  obtain ⟨H5,e5⟩ : ∃ H5,upd H4 p5 (.lst [.bl (decide (4 = t)),.bl (decide (9 = t)),.bl (decide (13 = t))]) = H5:=⟨_,rfl⟩
  have hE5 : H5 e = some (.ext (IsXD e (c t) dv)):=e5 ▸ keepE hE4 hp5
  have sm5 : Same H H5:=e5 ▸ same_add sm4 hp5
  have k_p5_5 : H5 p5 = some (.lst [.bl (decide (4 = t)),.bl (decide (9 = t)),.bl (decide (13 = t))]):=e5 ▸ upd_same
  have k_p3_5 : H5 p3 = some (.lst (List.map V.str ["book", "deed", "house", "letter", "manner", "name", "plan", "road", "row", "stand", "table"] ++ List.map V.str ["text", "short", "many"])):=e5 ▸ keepE k_p3_4 hp5
  have k_p4_5 : H5 p4 = some (.lst [.bl (decide (8 = t)),.bl (decide (3 = t)),.bl (decide (2 = t))]):=e5 ▸ keepE k_p4_4 hp5
  rw [show upd H4 p5 (.lst (_)) = H5 from e5]
  refine ⟨_,_,_,_,rfl,rfl,k_p4_5,k_p5_5,(by first | decide | exact small1000 (by simp)),fun p6 hp6=>?_⟩
  obtain ⟨H6,e6⟩ : ∃ H6,upd H5 p6 (.lst [.bl (decide (8 = t)),.bl (decide (3 = t)),.bl (decide (2 = t)),.bl (decide (4 = t)),.bl (decide (9 = t)),.bl (decide (13 = t))]) = H6:=⟨_,rfl⟩
  have hE6 : H6 e = some (.ext (IsXD e (c t) dv)):=e6 ▸ keepE hE5 hp6
  have sm6 : Same H H6:=e6 ▸ same_add sm5 hp6
  have k_p6_6 : H6 p6 = some (.lst [.bl (decide (8 = t)),.bl (decide (3 = t)),.bl (decide (2 = t)),.bl (decide (4 = t)),.bl (decide (9 = t)),.bl (decide (13 = t))]):=e6 ▸ upd_same
  have k_p3_6 : H6 p3 = some (.lst (List.map V.str ["book", "deed", "house", "letter", "manner", "name", "plan", "road", "row", "stand", "table"] ++ List.map V.str ["text", "short", "many"])):=e6 ▸ keepE k_p3_5 hp6
  have k_p4_6 : H6 p4 = some (.lst [.bl (decide (8 = t)),.bl (decide (3 = t)),.bl (decide (2 = t))]):=e6 ▸ keepE k_p4_5 hp6
  rw [show upd H5 p6 (.lst ([.bl (decide (8 = t)),.bl (decide (3 = t)),.bl (decide (2 = t))] ++ [.bl (decide (4 = t)),.bl (decide (9 = t)),.bl (decide (13 = t))])) = H6 from e6]
  refine ⟨_,rfl,?_⟩
  refine ⟨_,rfl,e,_,_,_,_,decide (7 = t),rfl,rfl,hE6,T0.xc,T0.k 7 (by decide) (by decide),?_⟩
  refine ⟨_,rfl,e,_,_,_,_,decide (6 = t),rfl,rfl,hE6,T0.xc,T0.k 6 (by decide) (by decide),?_⟩
  refine ⟨_,rfl,e,_,_,_,_,decide (12 = t),rfl,rfl,hE6,T0.xc,T0.k 12 (by decide) (by decide),?_⟩
  refine ⟨by first | decide | exact small1000 (by simp),fun p7 hp7=>?_⟩
  obtain ⟨H7,e7⟩ : ∃ H7,upd H6 p7 (.lst [.bl (decide (7 = t)),.bl (decide (6 = t)),.bl (decide (12 = t))]) = H7:=⟨_,rfl⟩
  have hE7 : H7 e = some (.ext (IsXD e (c t) dv)):=e7 ▸ keepE hE6 hp7
  have sm7 : Same H H7:=e7 ▸ same_add sm6 hp7
  have k_p7_7 : H7 p7 = some (.lst [.bl (decide (7 = t)),.bl (decide (6 = t)),.bl (decide (12 = t))]):=e7 ▸ upd_same
  have k_p3_7 : H7 p3 = some (.lst (List.map V.str ["book", "deed", "house", "letter", "manner", "name", "plan", "road", "row", "stand", "table"] ++ List.map V.str ["text", "short", "many"])):=e7 ▸ keepE k_p3_6 hp7
  have k_p6_7 : H7 p6 = some (.lst [.bl (decide (8 = t)),.bl (decide (3 = t)),.bl (decide (2 = t)),.bl (decide (4 = t)),.bl (decide (9 = t)),.bl (decide (13 = t))]):=e7 ▸ keepE k_p6_6 hp7
  rw [show upd H6 p7 (.lst (_)) = H7 from e7]
  refine ⟨_,_,_,_,rfl,rfl,k_p6_7,k_p7_7,(by first | decide | exact small1000 (by simp)),fun p8 hp8=>?_⟩
  obtain ⟨H8,e8⟩ : ∃ H8,upd H7 p8 (.lst [.bl (decide (8 = t)),.bl (decide (3 = t)),.bl (decide (2 = t)),.bl (decide (4 = t)),.bl (decide (9 = t)),.bl (decide (13 = t)),.bl (decide (7 = t)),.bl (decide (6 = t)),.bl (decide (12 = t))]) = H8:=⟨_,rfl⟩
  have hE8 : H8 e = some (.ext (IsXD e (c t) dv)):=e8 ▸ keepE hE7 hp8
  have sm8 : Same H H8:=e8 ▸ same_add sm7 hp8
  have k_p8_8 : H8 p8 = some (.lst [.bl (decide (8 = t)),.bl (decide (3 = t)),.bl (decide (2 = t)),.bl (decide (4 = t)),.bl (decide (9 = t)),.bl (decide (13 = t)),.bl (decide (7 = t)),.bl (decide (6 = t)),.bl (decide (12 = t))]):=e8 ▸ upd_same
  have k_p3_8 : H8 p3 = some (.lst (List.map V.str ["book", "deed", "house", "letter", "manner", "name", "plan", "road", "row", "stand", "table"] ++ List.map V.str ["text", "short", "many"])):=e8 ▸ keepE k_p3_7 hp8
  have k_p6_8 : H8 p6 = some (.lst [.bl (decide (8 = t)),.bl (decide (3 = t)),.bl (decide (2 = t)),.bl (decide (4 = t)),.bl (decide (9 = t)),.bl (decide (13 = t))]):=e8 ▸ keepE k_p6_7 hp8
  rw [show upd H7 p8 (.lst ([.bl (decide (8 = t)),.bl (decide (3 = t)),.bl (decide (2 = t)),.bl (decide (4 = t)),.bl (decide (9 = t)),.bl (decide (13 = t))] ++ [.bl (decide (7 = t)),.bl (decide (6 = t)),.bl (decide (12 = t))])) = H8 from e8]
  refine ⟨_,rfl,?_⟩
  refine ⟨_,rfl,e,_,_,_,_,decide (5 = t),rfl,rfl,hE8,T0.xc,T0.k 5 (by decide) (by decide),?_⟩
  refine ⟨_,rfl,e,_,_,_,_,decide (1 = t),rfl,rfl,hE8,T0.xc,T0.k 1 (by decide) (by decide),?_⟩
  refine ⟨_,rfl,e,_,_,_,_,decide (11 = t),rfl,rfl,hE8,T0.xc,T0.k 11 (by decide) (by decide),?_⟩
  refine ⟨by first | decide | exact small1000 (by simp),fun p9 hp9=>?_⟩
  obtain ⟨H9,e9⟩ : ∃ H9,upd H8 p9 (.lst [.bl (decide (5 = t)),.bl (decide (1 = t)),.bl (decide (11 = t))]) = H9:=⟨_,rfl⟩
  have hE9 : H9 e = some (.ext (IsXD e (c t) dv)):=e9 ▸ keepE hE8 hp9
  have sm9 : Same H H9:=e9 ▸ same_add sm8 hp9
  have k_p9_9 : H9 p9 = some (.lst [.bl (decide (5 = t)),.bl (decide (1 = t)),.bl (decide (11 = t))]):=e9 ▸ upd_same
  have k_p3_9 : H9 p3 = some (.lst (List.map V.str ["book", "deed", "house", "letter", "manner", "name", "plan", "road", "row", "stand", "table"] ++ List.map V.str ["text", "short", "many"])):=e9 ▸ keepE k_p3_8 hp9
  have k_p8_9 : H9 p8 = some (.lst [.bl (decide (8 = t)),.bl (decide (3 = t)),.bl (decide (2 = t)),.bl (decide (4 = t)),.bl (decide (9 = t)),.bl (decide (13 = t)),.bl (decide (7 = t)),.bl (decide (6 = t)),.bl (decide (12 = t))]):=e9 ▸ keepE k_p8_8 hp9
  rw [show upd H8 p9 (.lst (_)) = H9 from e9]
  refine ⟨_,_,_,_,rfl,rfl,k_p8_9,k_p9_9,(by first | decide | exact small1000 (by simp)),fun p10 hp10=>?_⟩
  obtain ⟨H10,e10⟩ : ∃ H10,upd H9 p10 (.lst [.bl (decide (8 = t)),.bl (decide (3 = t)),.bl (decide (2 = t)),.bl (decide (4 = t)),.bl (decide (9 = t)),.bl (decide (13 = t)),.bl (decide (7 = t)),.bl (decide (6 = t)),.bl (decide (12 = t)),.bl (decide (5 = t)),.bl (decide (1 = t)),.bl (decide (11 = t))]) = H10:=⟨_,rfl⟩
  have hE10 : H10 e = some (.ext (IsXD e (c t) dv)):=e10 ▸ keepE hE9 hp10
  have sm10 : Same H H10:=e10 ▸ same_add sm9 hp10
  have k_p10_10 : H10 p10 = some (.lst [.bl (decide (8 = t)),.bl (decide (3 = t)),.bl (decide (2 = t)),.bl (decide (4 = t)),.bl (decide (9 = t)),.bl (decide (13 = t)),.bl (decide (7 = t)),.bl (decide (6 = t)),.bl (decide (12 = t)),.bl (decide (5 = t)),.bl (decide (1 = t)),.bl (decide (11 = t))]):=e10 ▸ upd_same
  have k_p3_10 : H10 p3 = some (.lst (List.map V.str ["book", "deed", "house", "letter", "manner", "name", "plan", "road", "row", "stand", "table"] ++ List.map V.str ["text", "short", "many"])):=e10 ▸ keepE k_p3_9 hp10
  have k_p8_10 : H10 p8 = some (.lst [.bl (decide (8 = t)),.bl (decide (3 = t)),.bl (decide (2 = t)),.bl (decide (4 = t)),.bl (decide (9 = t)),.bl (decide (13 = t)),.bl (decide (7 = t)),.bl (decide (6 = t)),.bl (decide (12 = t))]):=e10 ▸ keepE k_p8_9 hp10
  rw [show upd H9 p10 (.lst ([.bl (decide (8 = t)),.bl (decide (3 = t)),.bl (decide (2 = t)),.bl (decide (4 = t)),.bl (decide (9 = t)),.bl (decide (13 = t)),.bl (decide (7 = t)),.bl (decide (6 = t)),.bl (decide (12 = t))] ++ [.bl (decide (5 = t)),.bl (decide (1 = t)),.bl (decide (11 = t))])) = H10 from e10]
  refine ⟨_,rfl,?_⟩
  refine ⟨_,rfl,e,_,_,_,_,decide (14 = t),rfl,rfl,hE10,T0.xc,T0.k 14 (by decide) (by decide),?_⟩
  refine ⟨_,rfl,e,_,_,_,_,decide (10 = t),rfl,rfl,hE10,T0.xc,T0.k 10 (by decide) (by decide),?_⟩
  refine ⟨by first | decide | exact small1000 (by simp),fun p11 hp11=>?_⟩
  obtain ⟨H11,e11⟩ : ∃ H11,upd H10 p11 (.lst [.bl (decide (14 = t)),.bl (decide (10 = t))]) = H11:=⟨_,rfl⟩
  have hE11 : H11 e = some (.ext (IsXD e (c t) dv)):=e11 ▸ keepE hE10 hp11
  have sm11 : Same H H11:=e11 ▸ same_add sm10 hp11
  have k_p11_11 : H11 p11 = some (.lst [.bl (decide (14 = t)),.bl (decide (10 = t))]):=e11 ▸ upd_same
  have k_p3_11 : H11 p3 = some (.lst (List.map V.str ["book", "deed", "house", "letter", "manner", "name", "plan", "road", "row", "stand", "table"] ++ List.map V.str ["text", "short", "many"])):=e11 ▸ keepE k_p3_10 hp11
  have k_p10_11 : H11 p10 = some (.lst [.bl (decide (8 = t)),.bl (decide (3 = t)),.bl (decide (2 = t)),.bl (decide (4 = t)),.bl (decide (9 = t)),.bl (decide (13 = t)),.bl (decide (7 = t)),.bl (decide (6 = t)),.bl (decide (12 = t)),.bl (decide (5 = t)),.bl (decide (1 = t)),.bl (decide (11 = t))]):=e11 ▸ keepE k_p10_10 hp11
  rw [show upd H10 p11 (.lst (_)) = H11 from e11]
  refine ⟨_,_,_,_,rfl,rfl,k_p10_11,k_p11_11,(by first | decide | exact small1000 (by simp)),fun p12 hp12=>?_⟩
  obtain ⟨H12,e12⟩ : ∃ H12,upd H11 p12 (.lst [.bl (decide (8 = t)),.bl (decide (3 = t)),.bl (decide (2 = t)),.bl (decide (4 = t)),.bl (decide (9 = t)),.bl (decide (13 = t)),.bl (decide (7 = t)),.bl (decide (6 = t)),.bl (decide (12 = t)),.bl (decide (5 = t)),.bl (decide (1 = t)),.bl (decide (11 = t)),.bl (decide (14 = t)),.bl (decide (10 = t))]) = H12:=⟨_,rfl⟩
  have hE12 : H12 e = some (.ext (IsXD e (c t) dv)):=e12 ▸ keepE hE11 hp12
  have sm12 : Same H H12:=e12 ▸ same_add sm11 hp12
  have k_p12_12 : H12 p12 = some (.lst [.bl (decide (8 = t)),.bl (decide (3 = t)),.bl (decide (2 = t)),.bl (decide (4 = t)),.bl (decide (9 = t)),.bl (decide (13 = t)),.bl (decide (7 = t)),.bl (decide (6 = t)),.bl (decide (12 = t)),.bl (decide (5 = t)),.bl (decide (1 = t)),.bl (decide (11 = t)),.bl (decide (14 = t)),.bl (decide (10 = t))]):=e12 ▸ upd_same
  have k_p3_12 : H12 p3 = some (.lst (List.map V.str ["book", "deed", "house", "letter", "manner", "name", "plan", "road", "row", "stand", "table"] ++ List.map V.str ["text", "short", "many"])):=e12 ▸ keepE k_p3_11 hp12
  have k_p10_12 : H12 p10 = some (.lst [.bl (decide (8 = t)),.bl (decide (3 = t)),.bl (decide (2 = t)),.bl (decide (4 = t)),.bl (decide (9 = t)),.bl (decide (13 = t)),.bl (decide (7 = t)),.bl (decide (6 = t)),.bl (decide (12 = t)),.bl (decide (5 = t)),.bl (decide (1 = t)),.bl (decide (11 = t))]):=e12 ▸ keepE k_p10_11 hp12
  rw [show upd H11 p12 (.lst ([.bl (decide (8 = t)),.bl (decide (3 = t)),.bl (decide (2 = t)),.bl (decide (4 = t)),.bl (decide (9 = t)),.bl (decide (13 = t)),.bl (decide (7 = t)),.bl (decide (6 = t)),.bl (decide (12 = t)),.bl (decide (5 = t)),.bl (decide (1 = t)),.bl (decide (11 = t))] ++ [.bl (decide (14 = t)),.bl (decide (10 = t))])) = H12 from e12]
  simp only [kdL,List.mem_cons,Prod.mk.injEq,List.not_mem_nil,or_false] at hm
  rcases hm with ⟨rfl,rfl⟩
  · refine ⟨_,rfl,.inl ⟨rfl,_,.inl (.inl k_p12_12)⟩,_,[false,false,false,false,false,false,false,false,false,false,false,true,false,false],rfl,rfl,k_p12_12,rfl,_,rfl,iteF ?_⟩
    refine ⟨_,rfl,e,_,_,_,_,true,rfl,rfl,hE12,T0.xc,W0,_,rfl,iteF ?_⟩
    refine ⟨_,rfl,e,_,_,_,_,true,rfl,rfl,hE12,T0.xc,T0.ve,_,rfl,iteF ?_⟩
    refine ⟨_,rfl,?_⟩
    refine ⟨_,rfl,.inl ⟨rfl,_,.inl (.inl k_p12_12)⟩,_,[false,false,false,false,false,false,false,false,false,false,false,true,false,false],11,rfl,rfl,k_p12_12,by decide,rfl,noB _ _ (by decide) (by decide),?_⟩
    refine ⟨_,_,_,_,rfl,rfl,.inl (.inl k_p3_12),rfl,?_⟩
    exact hQ _ sm12
def e__law_atext_1 : ME:=(mCall cStrB (mCons (mVar 0) mNil))
def b__law_atext_1 : MS:=(mExpr (mBM mtAppend (mVar 1) (mCons (mJoin (mC (.str " ")) (mCons (mVal (mCompN [none] (gaName 0) (mSeq (mVar 2)) mTrue e__law_atext_1)) mNil)) mNil)))
def m__law_atext : MS := (mSeqS (mSet 1 (mTrk (mLstN mNil)))
    (mSeqS (mFor (gaName 2) (mSeq (mVar 0)) b__law_atext_1)
    (mRet (mJoin (mC (.str " / ")) (mCons (mVar 1) mNil)))))
def F__law_atext : FN:=callF m__law_atext 3
theorem sc__law_atext : FnScope ["table", "rows", "row"] ["table"] (defScope s__law_atext):=⟨rfl,rfl,rfl,by decide +kernel,rfl,by decide +kernel,by decide +kernel⟩
theorem ok__law_atext {f : Addr} {fd : FuncData} (F : Fun K "_law_atext" "_law_atext" s__law_atext f fd) (T : Txt mg)   : FnOk P w K mg base (CXD P w) 1 f fd ["table"] (spF mg 1 F__law_atext):=by
  refine fun_ok2 (k:=0) (m:=m__law_atext) F sc__law_atext rfl rfl rfl fun cdv A outer s H E hr=>?_
  exact (sb_cons (ss_set 1 sc__law_atext.nd (se_trk (sn_lst sa_nil)))
    (sb_cons (ss_for PassesOwn.leaving rfl (si_seq (se_var 0)) (sg_name (i:=2) sc__law_atext.nd) (sb_one (ss_expr (se_append (se_var 1) (sa_cons (se_join se_str (sa_cons (se_val (sn_comp [none] ["number"] rfl (si_seq (se_var 2)) (fun _ _ _ _ _=>(sg_name (i:=0) (show (["number"] : List Str).Nodup by decide +kernel))) (fun _ _ _ _ _=>(se_callT cs_strB rfl T.b_str boot_str (sa_cons (se_var 0) sa_nil))) (fun _ _ _ _ _=>sts_nil) free_name)) sa_nil)) sa_nil)))))
    (sb_one (ss_ret (se_join se_str (sa_cons (se_var 1) sa_nil))))))
def e__law_areading_1 : ME:=(mOp (oInS false) (mVar 0) (mC (.str "0123456789")))
def b__law_areading_2 : MS := (mSeqS (mSet 5 (mAnd (mOp oNe (mVar 4) (mC (.str ""))) (mOp (oIn true) (mC (.bl false)) (mVal (mCompN [none] (gaName 0) (mStrI (mVar 4)) mTrue e__law_areading_1)))))
    (mSeqS (mIfS (tOrM (tNotM (toB (mVar 5))) (tAndM (toB (mOp oEq (mOp oIxS (mVar 4) (mC (.int 0))) (mC (.str "0")))) (toB (mOp oNe (mVar 4) (mC (.str "0")))))) (mRet (mC .non)) mNext)
    (mExpr (mBM mtAppend (mVar 3) (mCons (mCall cIntS (mCons (mVar 4) mNil)) mNil)))))
def b__law_areading_1 : MS := (mSeqS (mSet 3 (mTrk (mLstN mNil)))
    (mSeqS (mFor (gaName 4) (mSeq (mSplit (mVar 2) (mCons (mC (.str " ")) mNil))) b__law_areading_2)
    (mExpr (mBM mtAppend (mVar 1) (mCons (mCall cTuple (mCons (mVar 3) mNil)) mNil)))))
def e__law_areading_2 : ME:=(mOp oEq (mCall cLen (mCons (mVar 0) mNil)) (mOp oAdd (mCall cLen (mCons (mVar 1) mNil)) (mC (.int 1))))
def m__law_areading : MS := (mSeqS (mSet 1 (mTrk (mLstN mNil)))
    (mSeqS (mFor (gaName 2) (mSeq (mSplit (mVar 0) (mCons (mC (.str " / ")) mNil))) b__law_areading_1)
    (mSeqS (mIfS (tOrM (toB (mOp (oI fun a b=>.bl (decide (b < a))) (mCall cLen (mCons (mVar 1) mNil)) (mC (.int 8)))) (toB (mOp (oIn false) (mC (.bl false)) (mVal (mCompN [none,some 1] (gaName 0) (mSeq (mVar 1)) mTrue e__law_areading_2))))) (mRet (mC .non)) mNext)
    (mRet (mCall cTuple (mCons (mVar 1) mNil))))))
def F__law_areading : FN:=callF m__law_areading 6
theorem sc__law_areading : FnScope ["text", "rows", "told", "row", "word", "good"] ["text"] (defScope s__law_areading):=⟨rfl,rfl,rfl,by decide +kernel,rfl,by decide +kernel,by decide +kernel⟩
theorem ok__law_areading {f : Addr} {fd : FuncData} (F : Fun K "_law_areading" "_law_areading" s__law_areading f fd) (T : Txt mg)   : FnOk P w K mg base (CXD P w) 1 f fd ["text"] (spF mg 1 F__law_areading):=by
  refine fun_ok2 (k:=0) (m:=m__law_areading) F sc__law_areading rfl rfl rfl fun cdv A outer s H E hr=>?_
  exact (sb_cons (ss_set 1 sc__law_areading.nd (se_trk (sn_lst sa_nil)))
    (sb_cons (ss_for PassesOwn.leaving rfl (si_seq (se_split (se_var 0) (sa_cons se_str sa_nil))) (sg_name (i:=2) sc__law_areading.nd) (sb_cons (ss_set 3 sc__law_areading.nd (se_trk (sn_lst sa_nil)))
    (sb_cons (ss_for PassesOwn.leaving rfl (si_seq (se_split (se_var 2) (sa_cons se_str sa_nil))) (sg_name (i:=4) sc__law_areading.nd) (sb_cons (ss_set 5 sc__law_areading.nd (se_and (se_cmp (os_ne hr.units) (se_var 4) se_str) (se_one (se_cmp (os_notin hr.units) se_bl (se_val (sn_comp [none] ["sign"] rfl (si_str (se_var 4)) (fun _ _ _ _ _=>(sg_name (i:=0) (show (["sign"] : List Str).Nodup by decide +kernel))) (fun _ _ _ _ _=>(se_cmp os_inS (se_var 0) se_str)) (fun _ _ _ _ _=>sts_nil) free_name))))))
    (sb_cons (ss_if (SimW.t (sw_or (st_not (st_val (se_var 5))) (sw_or1 (SimW.t (sw_and (st_cmp (os_eq hr.units) (se_ixS (se_var 4) se_int) se_str) (sw_and1 (st_cmp (os_ne hr.units) (se_var 4) se_str))))))) (sb_one (ss_ret se_non)) sb_nil)
    (sb_one (ss_expr (se_append (se_var 3) (sa_cons (se_callT cs_intS rfl T.b_int boot_int (sa_cons (se_var 4) sa_nil)) sa_nil)))))))
    (sb_one (ss_expr (se_append (se_var 1) (sa_cons (se_callT cs_tuple rfl T.b_tuple boot_tuple (sa_cons (se_var 3) sa_nil)) sa_nil)))))))
    (sb_cons (ss_if (SimW.t (sw_or (st_cmp os_gt (se_callB cs_len rfl T.b_len PySem.boot_len (sa_cons (se_var 1) sa_nil)) se_int) (sw_or1 (st_cmp (os_in hr.units) se_bl (se_val (sn_comp [none,some 1] ["row", "rows"] rfl (si_seq (se_var 1)) (fun _ _ _ _ _=>(sg_name (i:=0) (show (["row", "rows"] : List Str).Nodup by decide +kernel))) (fun _ _ _ _ _=>(se_cmp (os_eq hr.units) (se_callB cs_len rfl T.b_len PySem.boot_len (sa_cons (se_var 0) sa_nil)) (se_op os_add (se_callB cs_len rfl T.b_len PySem.boot_len (sa_cons (se_var 1) sa_nil)) se_int))) (fun _ _ _ _ _=>sts_nil) free_name)))))) (sb_one (ss_ret se_non)) sb_nil)
    (sb_one (ss_ret (se_callT cs_tuple rfl T.b_tuple boot_tuple (sa_cons (se_var 1) sa_nil)))))))
def tb__law_aread : MS:=mSet 1 (mTup (mCons (mC (.str "table")) (mCons (mCallF 1 F_read_table (mCons (mVar 0) mNil)) mNil)))
def F__law_aread : FN:=fun ps st=>match tb__law_aread (ps.map some ++ [some .non,none]) st with
  | .nx Γ st1=>(match (Γ : Gam)[1]? with | some (some v)=>.ok v st1 | _=>.stuck)
  | .exc x st1=>if x.cls = "NoText" then .ok (.tup [.str "text",.non]) st1 else .stuck
  | _=>.stuck
theorem sc__law_aread : FnScope ["text", "found", "e"] ["text"] (defScope s__law_aread):=⟨rfl,rfl,rfl,by decide +kernel,rfl,by decide +kernel,by decide +kernel⟩
theorem ok__law_aread {f : Addr} {fd : FuncData} {c : Nat -> Addr} (F : Fun K "_law_aread" "_law_aread" s__law_aread f fd) (T : Txt mg) (Nm : Nms mg c) (TT : ∀ t wd,(t,wd) ∈ kdL -> TgtS K c t /\ PySem.W.kitOne K (.ref (c t)) (.ref (c 0)) = some true) (D_read_table : DefS P w K mg base 4 "read_table" 1 F_read_table) (D__law_akind : DefH P w K mg base 1 "_law_akind" ["caught"] (spKd c)) : FnOk P w K mg base (CXD P w) 5 f fd ["text"] (spF mg 1 F__law_aread):=by
  obtain ⟨fX,fdX,FX,mX,kX,bX⟩:=D__law_akind.ex
  refine Fun.okD (k:=4) F sc__law_aread (fun vs H Q E h=>h.1) fun cdv A outer s H vs Q E hr hsp=>?_
  obtain ⟨hl,ρ,st0,pvs,R,rl,hA⟩:=hsp
  refine ⟨_,pss_cons (ps_set (i:=1) sc__law_aread.nd rfl (Or.inl rfl) pe_non) (pss_cons ps_w (pss_one (ps_ret (pv 1)))),?_⟩
  match vs,hl with
  | [v0],hl=>
  have lp:=rl.length
  match pvs,lp with
  | [q0],_=>
  obtain ⟨_,_,e,r0,_⟩:=rl
  cases e
  have Ge : EnvR H ρ [some q0,some .non,none] [some v0,some .non,none]:=⟨rfl,fun i p e=>match i,e with
    | 0,e=>by cases e; exact ⟨_,rfl,r0⟩
    | 1,e=>by cases e; exact ⟨_,rfl,rfl⟩
    | 2,e=>by cases e
    | _ + 3,e=>by cases e⟩
  refine try_run (mb:=tb__law_aread) (Γ:=[some q0,some .non,none]) (i:=2) (cn := "WharfError") (fun _ _=>sb_one (ss_set 1 sc__law_aread.nd (se_tup (sa_cons se_str (sa_cons (se_call D_read_table (hr.mono (by decide)) pass_try rfl (sa_cons (se_var 0) sa_nil)) sa_nil))))) sc__law_aread.nd rfl rfl
    (fun e=>pss_one (ps_set (i:=1) sc__law_aread.nd rfl (Or.inl rfl) (pe_tup (pa_cons (pe_callH (E:=E) FX ((Room.h hr).mono (by decide)) (by rfl) mX kX bX (pa_cons (pv 2) pa_nil)) (pa_cons pe_non pa_nil))))) Nm.m0 rfl (by intro b z; exact absurd (show b ∈ ([] : List Addr) from z) (by simp)) rfl rfl (by decide) R Ge ?_
  have hA : Acc mg E H ρ (QV Q) (match tb__law_aread [some q0,some .non,none] st0 with
    | .nx Γ st1=>(match (Γ : Gam)[1]? with | some (some v)=>.ok v st1 | _=>.stuck)
    | .exc x st1=>if x.cls = "NoText" then .ok (.tup [.str "text",.non]) st1 else .stuck
    | _=>.stuck):=hA
  cases hr : tb__law_aread [some q0,some .non,none] st0 with
  | nx Γ1 st1=>
    rw [hr] at hA
    dsimp only at hA
    split at hA
    · rename_i v eΓ
      intro σ' H' ρ' x' R' G'
      obtain ⟨u,e3,rv⟩:=G'.2 1 _ eΓ
      exact ⟨u,e3,hA H' ρ' x' R' _ rv⟩
    · exact hA.elim
  | exc x st1=>
    rw [hr] at hA
    dsimp only at hA
    by_cases hx : x.cls = "NoText"
    · rw [if_pos hx] at hA
      intro C dv H1 ρ1 hm x1 R1 fs
      have hm : mg x.cls = some (.ref C):=hm
      rw [hx,Nm.m11] at hm
      cases hm
      obtain ⟨T0,W0⟩:=TT 11 "text" (by simp [kdL])
      refine ⟨_,rfl,T0.ex,fun a he σ1 hl1=>?_⟩
      have x2 : Ext H1 ρ1 (upd H1 a (.ext (IsXD a (c 11) dv))) ρ1:=Ext.add he
      have R2:=R1.add (o:=.ext (IsXD a (c 11) dv)) he
      match σ1,hl1 with
      | [y0,y1,y2],_=>
      refine ⟨_,rfl,a,dv,11, "text",rfl,by simp [kdL],upd_same,fun H2 sm=>⟨(show (2 : Nat) <= sizeLine by decide),fun p hp=>?_⟩⟩
      have x3:=(x1.trans x2).trans (Ext.same sm)
      have R3:=R2.same sm
      exact ⟨.ref p,rfl,hA _ ρ1 (x3.trans (Ext.add hp)) (R3.add hp) _ ⟨p,_,rfl,upd_same,R3.fresh hp,⟨_,_,rfl,rfl,⟨_,_,rfl,rfl,rfl⟩⟩⟩⟩
    · rw [if_neg hx] at hA; exact hA.elim
  | _=>rw [hr] at hA; exact hA.elim
def e__law_aright_1 : ME:=(mIsI "tuple" (mVar 0))
def m__law_aright : MS := (mSeqS (mSet 1 (mCallF 1 F__law_areading (mCons (mVar 0) mNil)))
    (mSeqS (mSet 2 (mCallF 1 F__law_aread (mCons (mVar 0) mNil)))
    (mSeqS (mIfS (toB (mOp oIs (mVar 1) (mC .non))) (mRet (mOp oEq (mVar 2) (mTup (mCons (mC (.str "text")) (mCons (mC .non) mNil))))) mNext)
    (mSeqS (mIfS (tOrM (toB (mOp oNe (mOp oIx (mVar 2) (mC (.int 0))) (mC (.str "table")))) (tOrM (tNotM (toB (mIsI "tuple" (mOp oIx (mVar 2) (mC (.int 1)))))) (toB (mOp oNe (mOp oIx (mVar 2) (mC (.int 1))) (mVar 1))))) (mRet (mC (.bl false))) mNext)
    (mRet (mOp (oIn true) (mC (.bl false)) (mVal (mCompN [none] (gaName 0) (mSeq (mOp oIx (mVar 2) (mC (.int 1)))) mTrue e__law_aright_1))))))))
def F__law_aright : FN:=callF m__law_aright 3
theorem sc__law_aright : FnScope ["text", "due", "found"] ["text"] (defScope s__law_aright):=⟨rfl,rfl,rfl,by decide +kernel,rfl,by decide +kernel,by decide +kernel⟩
theorem ok__law_aright {f : Addr} {fd : FuncData} (F : Fun K "_law_aright" "_law_aright" s__law_aright f fd) (T : Txt mg)  (D__law_areading : DefS P w K mg base 1 "_law_areading" 1 F__law_areading) (D__law_aread : DefS P w K mg base 5 "_law_aread" 1 F__law_aread) : FnOk P w K mg base (CXD P w) 6 f fd ["text"] (spF mg 1 F__law_aright):=by
  refine fun_ok2 (k:=5) (m:=m__law_aright) F sc__law_aright rfl rfl rfl fun cdv A outer s H E hr=>?_
  exact (sb_cons (ss_set 1 sc__law_aright.nd (se_call D__law_areading (hr.mono (by decide)) pass_onD rfl (sa_cons (se_var 0) sa_nil)))
    (sb_cons (ss_set 2 sc__law_aright.nd (se_call D__law_aread (hr.mono (by decide)) pass_onD rfl (sa_cons (se_var 0) sa_nil)))
    (sb_cons (ss_if (st_cmp os_is (se_var 1) se_non) (sb_one (ss_ret (se_cmp (os_eq hr.units) (se_var 2) (se_tup (sa_cons se_str (sa_cons se_non sa_nil)))))) sb_nil)
    (sb_cons (ss_if (SimW.t (sw_or (st_cmp (os_ne hr.units) (se_ix (se_var 2) se_int) se_str) (sw_or (st_not (st_val (se_isi (T := "tuple") (by decide) (se_ix (se_var 2) se_int) rfl T.b_isinstance rfl T.b_tuple boot_tuple))) (sw_or1 (st_cmp (os_ne hr.units) (se_ix (se_var 2) se_int) (se_var 1)))))) (sb_one (ss_ret se_bl)) sb_nil)
    (sb_one (ss_ret (se_cmp (os_notin hr.units) se_bl (se_val (sn_comp [none] ["row"] rfl (si_seq (se_ix (se_var 2) se_int)) (fun _ _ _ _ _=>(sg_name (i:=0) (show (["row"] : List Str).Nodup by decide +kernel))) (fun _ _ _ _ _=>(se_isi (T := "tuple") (by decide) (se_var 0) rfl T.b_isinstance rfl T.b_tuple boot_tuple)) (fun _ _ _ _ _=>sts_nil) free_name)))))))))
def e__law_aany_1 : ME:=(mOp oIx (mLst (mCons (mC (.int 0)) (mCons (mC (.int 7)) (mCons (mC (.int 10)) (mCons (mOp oAdd (mOp oPow (mC (.int 10)) (mC (.int 29))) (mC (.int 3))) (mCons (mC (.int 100)) (mCons (mC (.int 1)) mNil))))))) (mCallF 2 F__law_adigit (mCons (mVar 1) (mCons (mC (.int 6)) mNil))))
def b__law_aany_1 : MS := (mSeqS (mSet 4 (mVal (mCompN [none, some 0] (gaName 0) (mRange1 (mCons (mOp oAdd (mVar 1) (mC (.int 1))) mNil)) mTrue e__law_aany_1)))
    (mExpr (mBM mtAppend (mVar 2) (mCons (mCall cTuple (mCons (mVar 4) mNil)) mNil))))
def m__law_aany : MS := (mSeqS (mSet 1 (mOp oAdd (mC (.int 1)) (mCallF 2 F__law_adigit (mCons (mVar 0) (mCons (mC (.int 8)) mNil)))))
    (mSeqS (mSet 2 (mTrk (mLstN mNil)))
    (mSeqS (mFor (gaName 3) (mRange1 (mCons (mVar 1) mNil)) b__law_aany_1)
    (mRet (mCall cTuple (mCons (mVar 2) mNil))))))
def F__law_aany : FN:=callF m__law_aany 5
theorem sc__law_aany : FnScope ["tape", "size", "rows", "i", "row"] ["tape"] (defScope s__law_aany):=⟨rfl,rfl,rfl,by decide +kernel,rfl,by decide +kernel,by decide +kernel⟩
theorem ok__law_aany {f : Addr} {fd : FuncData} (F : Fun K "_law_aany" "_law_aany" s__law_aany f fd) (T : Txt mg)  (D__law_adigit : DefS P w K mg base 1 "_law_adigit" 2 F__law_adigit) : FnOk P w K mg base (CXD P w) 2 f fd ["tape"] (spF mg 1 F__law_aany):=by
  refine fun_ok2 (k:=1) (m:=m__law_aany) F sc__law_aany rfl rfl rfl fun cdv A outer s H E hr=>?_
  exact (sb_cons (ss_set 1 sc__law_aany.nd (se_op os_add se_int (se_call D__law_adigit (hr.mono (by decide)) pass_onD rfl (sa_cons (se_var 0) (sa_cons se_int sa_nil)))))
    (sb_cons (ss_set 2 sc__law_aany.nd (se_trk (sn_lst sa_nil)))
    (sb_cons (ss_for PassesOwn.leaving rfl (si_range1 rfl T.b_range (sa_cons (se_var 1) sa_nil)) (sg_name (i:=3) sc__law_aany.nd) (sb_cons (by first | exact ss_compV [none,some 0] ["j", "tape"] 4 sc__law_aany.nd rfl (si_range1 rfl T.b_range (sa_cons (se_op os_add (se_var 1) se_int) sa_nil)) (fun _ _ _ _ _=>(sg_name (i:=0) (show (["j", "tape"] : List Str).Nodup by decide +kernel))) (fun _ _ _ _ _=>(se_ix (se_lst (sa_cons se_int (sa_cons se_int (sa_cons se_int (sa_cons (se_op os_add (se_op os_pow se_int se_int) se_int) (sa_cons se_int (sa_cons se_int sa_nil))))))) (se_call D__law_adigit (hr.mono (by decide)) pass00D rfl (sa_cons (se_var 1) (sa_cons se_int sa_nil))))) (fun _ _ _ _ _=>sts_nil) free_name | exact ss_set 4 sc__law_aany.nd (se_val (sn_comp [none,some 0] ["j", "tape"] rfl (si_range1 rfl T.b_range (sa_cons (se_op os_add (se_var 1) se_int) sa_nil)) (fun _ _ _ _ _=>(sg_name (i:=0) (show (["j", "tape"] : List Str).Nodup by decide +kernel))) (fun _ _ _ _ _=>(se_ix (se_lst (sa_cons se_int (sa_cons se_int (sa_cons se_int (sa_cons (se_op os_add (se_op os_pow se_int se_int) se_int) (sa_cons se_int (sa_cons se_int sa_nil))))))) (se_call D__law_adigit (hr.mono (by decide)) pass00D rfl (sa_cons (se_var 1) (sa_cons se_int sa_nil))))) (fun _ _ _ _ _=>sts_nil) free_name)))
    (sb_one (ss_expr (se_append (se_var 2) (sa_cons (se_callT cs_tuple rfl T.b_tuple boot_tuple (sa_cons (se_var 4) sa_nil)) sa_nil))))))
    (sb_one (ss_ret (se_callT cs_tuple rfl T.b_tuple boot_tuple (sa_cons (se_var 2) sa_nil)))))))
def m__law_abent : MS := (mSeqS (mSet 2 (mCallF 2 F__law_adigit (mCons (mVar 0) (mCons (mOp oAdd (mCall cLen (mCons (mVar 1) mNil)) (mC (.int 1))) mNil))))
    (mSeqS (mSet 3 (mOp oIxS (mC (.str "019 /-+.a\n_")) (mCallF 2 F__law_adigit (mCons (mVar 0) (mCons (mC (.int 11)) mNil)))))
    (mSeqS (mSet 4 (mCallF 2 F__law_adigit (mCons (mVar 0) (mCons (mC (.int 8)) mNil))))
    (mSeqS (mSet 5 (mLst (mCons (mOp oAdd (mOp oAdd (mSlS (mVar 1) mNoPart (mPart (mVar 2))) (mVar 3)) (mSlS (mVar 1) (mPart (mOp oAdd (mVar 2) (mC (.int 1)))) mNoPart)) (mCons (mOp oAdd (mOp oAdd (mSlS (mVar 1) mNoPart (mPart (mVar 2))) (mVar 3)) (mSlS (mVar 1) (mPart (mVar 2)) mNoPart)) (mCons (mOp oAdd (mSlS (mVar 1) mNoPart (mPart (mVar 2))) (mSlS (mVar 1) (mPart (mOp oAdd (mVar 2) (mC (.int 1)))) mNoPart)) (mCons (mOp oAdd (mSlS (mVar 1) mNoPart (mPart (mVar 2))) (mVar 1)) mNil))))))
    (mSeqS (mSet 5 (mOp oAdd (mVar 5) (mLst (mCons (mSlS (mVar 1) mNoPart (mPart (mVar 2))) (mCons (mOp oAdd (mVar 1) (mOp oIx (mLst (mCons (mC (.str " ")) (mCons (mC (.str " /")) (mCons (mC (.str " / ")) (mCons (mC (.str "\n")) (mCons (mC (.str " / 0 0")) mNil)))))) (mCallF 2 F__law_adigit (mCons (mVar 0) (mCons (mC (.int 5)) mNil))))) (mCons (mOp oAdd (mC (.str " ")) (mVar 1)) (mCons (mOp oAdd (mC (.str "0")) (mVar 1)) mNil)))))))
    (mRet (mSlS (mOp oIx (mVar 5) (mVar 4)) mNoPart (mPart (mC (.int 3000))))))))))
def F__law_abent : FN:=callF m__law_abent 6
theorem sc__law_abent : FnScope ["tape", "text", "at", "sign", "way", "some"] ["tape", "text"] (defScope s__law_abent):=⟨rfl,rfl,rfl,by decide +kernel,rfl,by decide +kernel,by decide +kernel⟩
theorem ok__law_abent {f : Addr} {fd : FuncData} (F : Fun K "_law_abent" "_law_abent" s__law_abent f fd) (T : Txt mg)  (D__law_adigit : DefS P w K mg base 1 "_law_adigit" 2 F__law_adigit) : FnOk P w K mg base (CXD P w) 2 f fd ["tape", "text"] (spF mg 2 F__law_abent):=by
  refine fun_ok2 (k:=1) (m:=m__law_abent) F sc__law_abent rfl rfl rfl fun cdv A outer s H E hr=>?_
  exact (sb_cons (ss_set 2 sc__law_abent.nd (se_call D__law_adigit (hr.mono (by decide)) pass_onD rfl (sa_cons (se_var 0) (sa_cons (se_op os_add (se_callB cs_len rfl T.b_len PySem.boot_len (sa_cons (se_var 1) sa_nil)) se_int) sa_nil))))
    (sb_cons (ss_set 3 sc__law_abent.nd (se_ixS se_str (se_call D__law_adigit (hr.mono (by decide)) pass_onD rfl (sa_cons (se_var 0) (sa_cons se_int sa_nil)))))
    (sb_cons (ss_set 4 sc__law_abent.nd (se_call D__law_adigit (hr.mono (by decide)) pass_onD rfl (sa_cons (se_var 0) (sa_cons se_int sa_nil))))
    (sb_cons (ss_set 5 sc__law_abent.nd (se_lst (sa_cons (se_op os_add (se_op os_add (se_sliceS (se_var 1) so_none (so_some (se_var 2))) (se_var 3)) (se_sliceS (se_var 1) (so_some (se_op os_add (se_var 2) se_int)) so_none)) (sa_cons (se_op os_add (se_op os_add (se_sliceS (se_var 1) so_none (so_some (se_var 2))) (se_var 3)) (se_sliceS (se_var 1) (so_some (se_var 2)) so_none)) (sa_cons (se_op os_add (se_sliceS (se_var 1) so_none (so_some (se_var 2))) (se_sliceS (se_var 1) (so_some (se_op os_add (se_var 2) se_int)) so_none)) (sa_cons (se_op os_add (se_sliceS (se_var 1) so_none (so_some (se_var 2))) (se_var 1)) sa_nil))))))
    (sb_cons (ss_set 5 sc__law_abent.nd (se_op os_add (se_var 5) (se_lst (sa_cons (se_sliceS (se_var 1) so_none (so_some (se_var 2))) (sa_cons (se_op os_add (se_var 1) (se_ix (se_lst (sa_cons se_str (sa_cons se_str (sa_cons se_str (sa_cons se_str (sa_cons se_str sa_nil)))))) (se_call D__law_adigit (hr.mono (by decide)) pass_onD rfl (sa_cons (se_var 0) (sa_cons se_int sa_nil))))) (sa_cons (se_op os_add se_str (se_var 1)) (sa_cons (se_op os_add se_str (se_var 1)) sa_nil)))))))
    (sb_one (ss_ret (se_sliceS (se_ix (se_var 5) (se_var 4)) so_none (so_some se_int)))))))))
def b_law_3 : MS:=(mIfS (tNotM (toB (mCallF 1 F__law_aright (mCons (mCallF 2 F__law_abent (mCons (mCallF 2 F__law_atape (mCons (mVar 0) (mCons (mOp oAdd (mVar 1) (mVar 6)) mNil))) (mCons (mVar 5) mNil))) mNil)))) (mRet (mC (.bl false))) mNext)
def b_law_2 : MS := (mSeqS (mSet 5 (mCallF 1 F__law_atext (mCons (mVar 4) mNil)))
    (mSeqS (mIfS (tOrM (toB (mOp oNe (mCallF 1 F_show_table (mCons (mVar 4) mNil)) (mVar 5))) (tOrM (tNotM (toB (mCallF 1 F__law_aright (mCons (mVar 5) mNil)))) (toB (mOp oNe (mCallF 1 F__law_areading (mCons (mVar 5) mNil)) (mVar 4))))) (mRet (mC (.bl false))) mNext)
    (mFor (gaName 6) (mRange1 (mCons (mC (.int 5)) mNil)) b_law_3)))
def b_law_4 : MS:=(mSet 7 (mOp oAdd (mVar 7) (mOp oIxS (mC (.str "0123 / 00 12 / ")) (mCallF 2 F__law_adigit (mCons (mVar 2) (mCons (mC (.int 15)) mNil))))))
def b_law_1 : MS := (mSeqS (mSet 2 (mCallF 2 F__law_atape (mCons (mVar 0) (mCons (mVar 1) mNil))))
    (mSeqS (mSet 3 (mOp oAdd (mC (.int 1)) (mCallF 2 F__law_adigit (mCons (mVar 2) (mCons (mC (.int 8)) mNil)))))
    (mSeqS (mFor (gaName 4) (mSeq (mLst (mCons (mCallF 3 F__law_atable (mCons (mVar 2) (mCons (mVar 3) (mCons (mC (.int 6)) mNil)))) (mCons (mCallF 1 F__law_aany (mCons (mVar 2) mNil)) mNil)))) b_law_2)
    (mSeqS (mSet 7 (mC (.str "")))
    (mSeqS (mFor (gaName 6) (mRange1 (mCons (mCallF 2 F__law_adigit (mCons (mVar 2) (mCons (mC (.int 30)) mNil))) mNil)) b_law_4)
    (mIfS (tNotM (toB (mCallF 1 F__law_aright (mCons (mVar 7) mNil)))) (mRet (mC (.bl false))) mNext))))))
def e_law_1 : ME:=(mC (.str "0 0 0 0 0 0 0 0 0 1"))
def m_law : MS := (mSeqS (mFor (gaName 1) (mRange2 (mCons (mC (.int 0)) (mCons (mCall cMax (mCons (mC (.int 1)) (mCons (mCall cMin (mCons (mC (.int 5)) (mCons (mCall cLen (mCons (mVar 0) mNil)) mNil))) mNil))) mNil))) b_law_1)
    (mSeqS (mSet 8 (mJoin (mC (.str " / ")) (mCons (mVal (mCompN [none] (gaName 0) (mRange1 (mCons (mC (.int 9)) mNil)) mTrue e_law_1)) mNil)))
    (mSeqS (mIfS (tNotM (toB (mCallF 1 F__law_aright (mCons (mVar 8) mNil)))) (mRet (mC (.bl false))) mNext)
    (mRet (mAnd (mCallF 1 F__law_aright (mCons (mC (.str "")) mNil)) (mAnd (mCallF 1 F__law_aright (mCons (mC (.str "0 0")) mNil)) (mAnd (mCallF 1 F__law_aright (mCons (mC (.str "0 0 / 0")) mNil)) (mCallF 1 F__law_aright (mCons (mC (.str "0")) mNil)))))))))
def F_law : FN:=callF m_law 9
theorem sc_law : FnScope ["script", "start", "tape", "size", "table", "text", "turn", "drawn", "nine"] ["script"] (defScope s_law):=⟨rfl,rfl,rfl,by decide +kernel,rfl,by decide +kernel,by decide +kernel⟩
theorem ok_law {f : Addr} {fd : FuncData} (F : Fun K "law" "law" s_law f fd) (T : Txt mg)  (D__law_atape : DefS P w K mg base 2 "_law_atape" 2 F__law_atape) (D__law_adigit : DefS P w K mg base 1 "_law_adigit" 2 F__law_adigit) (D__law_atable : DefS P w K mg base 3 "_law_atable" 3 F__law_atable) (D__law_aany : DefS P w K mg base 2 "_law_aany" 1 F__law_aany) (D__law_atext : DefS P w K mg base 1 "_law_atext" 1 F__law_atext) (D_show_table : DefS P w K mg base 3 "show_table" 1 F_show_table) (D__law_aright : DefS P w K mg base 6 "_law_aright" 1 F__law_aright) (D__law_areading : DefS P w K mg base 1 "_law_areading" 1 F__law_areading) (D__law_abent : DefS P w K mg base 2 "_law_abent" 2 F__law_abent) : FnOk P w K mg base (CXD P w) 7 f fd ["script"] (spF mg 1 F_law):=by
  refine fun_ok2 (k:=6) (m:=m_law) F sc_law rfl rfl rfl fun cdv A outer s H E hr=>?_
  exact (sb_cons (ss_for PassesOwn.leaving rfl (si_range2 rfl T.b_range (sa_cons se_int (sa_cons (se_callB (cs_max rfl) rfl T.b_max boot_max (sa_cons se_int (sa_cons (se_callB (cs_min rfl) rfl T.b_min boot_min (sa_cons se_int (sa_cons (se_callB cs_len rfl T.b_len PySem.boot_len (sa_cons (se_var 0) sa_nil)) sa_nil))) sa_nil))) sa_nil))) (sg_name (i:=1) sc_law.nd) (sb_cons (ss_set 2 sc_law.nd (se_call D__law_atape (hr.mono (by decide)) pass_onD rfl (sa_cons (se_var 0) (sa_cons (se_var 1) sa_nil))))
    (sb_cons (ss_set 3 sc_law.nd (se_op os_add se_int (se_call D__law_adigit (hr.mono (by decide)) pass_onD rfl (sa_cons (se_var 2) (sa_cons se_int sa_nil)))))
    (sb_cons (ss_for PassesOwn.leaving rfl (si_seq (se_lst (sa_cons (se_call D__law_atable (hr.mono (by decide)) pass_onD rfl (sa_cons (se_var 2) (sa_cons (se_var 3) (sa_cons se_int sa_nil)))) (sa_cons (se_call D__law_aany (hr.mono (by decide)) pass_onD rfl (sa_cons (se_var 2) sa_nil)) sa_nil)))) (sg_name (i:=4) sc_law.nd) (sb_cons (ss_set 5 sc_law.nd (se_call D__law_atext (hr.mono (by decide)) pass_onD rfl (sa_cons (se_var 4) sa_nil)))
    (sb_cons (ss_if (SimW.t (sw_or (st_cmp (os_ne hr.units) (se_call D_show_table (hr.mono (by decide)) pass_onD rfl (sa_cons (se_var 4) sa_nil)) (se_var 5)) (sw_or (st_not (st_val (se_call D__law_aright (hr.mono (by decide)) pass_onD rfl (sa_cons (se_var 5) sa_nil)))) (sw_or1 (st_cmp (os_ne hr.units) (se_call D__law_areading (hr.mono (by decide)) pass_onD rfl (sa_cons (se_var 5) sa_nil)) (se_var 4)))))) (sb_one (ss_ret se_bl)) sb_nil)
    (sb_one (ss_for PassesOwn.leaving rfl (si_range1 rfl T.b_range (sa_cons se_int sa_nil)) (sg_name (i:=6) sc_law.nd) (sb_one (ss_if (st_not (st_val (se_call D__law_aright (hr.mono (by decide)) pass_onD rfl (sa_cons (se_call D__law_abent (hr.mono (by decide)) pass_onD rfl (sa_cons (se_call D__law_atape (hr.mono (by decide)) pass_onD rfl (sa_cons (se_var 0) (sa_cons (se_op os_add (se_var 1) (se_var 6)) sa_nil))) (sa_cons (se_var 5) sa_nil))) sa_nil)))) (sb_one (ss_ret se_bl)) sb_nil)))))))
    (sb_cons (ss_set 7 sc_law.nd se_str)
    (sb_cons (ss_for PassesOwn.leaving rfl (si_range1 rfl T.b_range (sa_cons (se_call D__law_adigit (hr.mono (by decide)) pass_onD rfl (sa_cons (se_var 2) (sa_cons se_int sa_nil))) sa_nil)) (sg_name (i:=6) sc_law.nd) (sb_one (ss_set 7 sc_law.nd (se_op os_add (se_var 7) (se_ixS se_str (se_call D__law_adigit (hr.mono (by decide)) pass_onD rfl (sa_cons (se_var 2) (sa_cons se_int sa_nil))))))))
    (sb_one (ss_if (st_not (st_val (se_call D__law_aright (hr.mono (by decide)) pass_onD rfl (sa_cons (se_var 7) sa_nil)))) (sb_one (ss_ret se_bl)) sb_nil))))))))
    (sb_cons (ss_set 8 sc_law.nd (se_join se_str (sa_cons (se_val (sn_comp [none] ["row"] rfl (si_range1 rfl T.b_range (sa_cons se_int sa_nil)) (fun _ _ _ _ _=>(sg_name (i:=0) (show (["row"] : List Str).Nodup by decide +kernel))) (fun _ _ _ _ _=>se_str) (fun _ _ _ _ _=>sts_nil) free_name)) sa_nil)))
    (sb_cons (ss_if (st_not (st_val (se_call D__law_aright (hr.mono (by decide)) pass_onD rfl (sa_cons (se_var 8) sa_nil)))) (sb_one (ss_ret se_bl)) sb_nil)
    (sb_one (ss_ret (se_and (se_call D__law_aright (hr.mono (by decide)) pass_onD rfl (sa_cons se_str sa_nil)) (se_and (se_call D__law_aright (hr.mono (by decide)) pass_onD rfl (sa_cons se_str sa_nil)) (se_and (se_call D__law_aright (hr.mono (by decide)) pass_onD rfl (sa_cons se_str sa_nil)) (se_one (se_call D__law_aright (hr.mono (by decide)) pass_onD rfl (sa_cons se_str sa_nil)))))))))))
end
end Lw
namespace Lw
open PySem PySem.Spec L2 Sm
theorem emod_lt (a : Int) {b : Int} (h : 0 < b) : 0 <= a % b /\ a % b < b:=⟨Int.emod_nonneg a (by omega),Int.emod_lt_of_pos a h⟩
def rowV (r : List Int) : PV:=.tup (r.map .int)
def tabV (tb : List (List Int)) : PV:=.tup (tb.map rowV)
structure Wt' (n : Nat) (tb : List (List Int)) : Prop where
  len : tb.length = n
  row : ∀ r ∈ tb,r.length = n + 1
  nn : ∀ r ∈ tb,∀ x ∈ r,(0 : Int) <= x
  n1 : 1 <= n
  n8 : n <= 8
theorem modN (x : Int) {n : Nat} (h : 1 <= n) : ∃ k : Nat,k < n /\ x % (n : Int) = (k : Int):=by
  have:=emod_lt x (b:=(n : Int)) (by omega)
  exact ⟨(x % (n : Int)).toNat,by omega,by omega⟩
def upto (n : Nat) (f : Nat -> Int) : Int:=((List.range n).map f).sum
theorem upto_succ (n : Nat) (f : Nat -> Int) : upto (n + 1) f = upto n f + f n:=by
  unfold upto
  rw [List.range_succ,List.map_append,List.sum_append]
  simp
theorem upto_congr {n : Nat} {f g : Nat -> Int} (h : ∀ i,i < n -> f i = g i) : upto n f = upto n g:=by
  induction n with
  | zero=>rfl
  | succ n ih=>rw [upto_succ,upto_succ,ih fun i hi=>h i (by omega),h n (by omega)]
theorem upto_add (n : Nat) (f g : Nat -> Int) : upto n (fun i=>f i + g i) = upto n f + upto n g:=by
  induction n with
  | zero=>rfl
  | succ n ih=>rw [upto_succ,upto_succ,upto_succ,ih]; omega
theorem map_getD {α β : Type} (l : List α) (d : α) (f : α -> β) : l.map f = (List.range l.length).map fun i=>f (l.getD i d):=by
  refine List.ext_getElem? fun i=>?_
  rw [List.getElem?_map,List.getElem?_map]
  by_cases hi : i < l.length
  · rw [List.getElem?_range hi,getD_some hi d]; rfl
  · rw [List.getElem?_eq_none (by omega),List.getElem?_eq_none (by rw [List.length_range]; omega)]; rfl
theorem sum_upto (r : List Int) : r.sum = upto r.length fun j=>r.getD j 0:=by
  have:=map_getD r 0 id
  rw [List.map_id] at this
  rw [upto]
  conv=>lhs; rw [this]
  rfl
def ent (tb : List (List Int)) (i j : Nat) : Int:=(tb.getD i []).getD j 0
def Sz (n : Nat) (tb : List (List Int)) : Prop:=tb.length = n /\ ∀ r ∈ tb,r.length = n + 1
theorem Wt'.sz {n : Nat} {tb : List (List Int)} (w : Wt' n tb) : Sz n tb:=⟨w.len,w.row⟩
theorem Sz.row {n i : Nat} {tb : List (List Int)} (z : Sz n tb) (hi : i < n) : tb[i]? = some (tb.getD i []) /\ (tb.getD i []).length = n + 1:=by
  have e:=getD_some (show i < tb.length by rw [z.1]; exact hi) []
  exact ⟨e,z.2 _ (List.mem_of_getElem? e)⟩
theorem Sz.cell {n i j : Nat} {tb : List (List Int)} (z : Sz n tb) (hi : i < n) (hj : j <= n) : (tb.getD i [])[j]? = some (ent tb i j):=getD_some (by rw [(z.row hi).2]; omega) 0
theorem Wt'.ent_nn {n i j : Nat} {tb : List (List Int)} (w : Wt' n tb) (hi : i < n) (hj : j <= n) : 0 <= ent tb i j:=w.nn _ (List.mem_of_getElem? (w.sz.row hi).1) _ (List.mem_of_getElem? (w.sz.cell hi hj))
theorem seq_nx {a b : MS} {Γ Γ1 : Gam} {S S1 : Store} {r : SR} (h1 : a Γ S = .nx Γ1 S1) (h2 : b Γ1 S1 = r) : mSeqS a b Γ S = r:=by rw [mSeqS_eq,h1]; exact h2
theorem set_ok {i : Nat} {m : ME} {Γ : Gam} {S S1 : Store} {v : PV} (h : m Γ S = .ok v S1) : mSet i m Γ S = .nx (Γ.set i (some v)) S1:=by rw [mSet_eq,h]; rfl
theorem call_ok {n : Nat} {F : FN} {mr : ML} {Γ : Gam} {S S1 S2 : Store} {ps : List PV} {v : PV} (h1 : mr Γ S = .ok ps S1) (h2 : ps.length = n) (h3 : F ps S1 = .ok v S2) : mCallF n F mr Γ S = .ok v S2:=by rw [mCallF_eq,h1,bind_ok,if_pos h2,h3]
theorem op_ok {o : OP} {a b : ME} {Γ : Gam} {S S1 S2 S3 : Store} {x y v : PV} (h1 : a Γ S = .ok x S1) (h2 : b Γ S1 = .ok y S2) (h3 : o S2 x y = .ok v S3) : mOp o a b Γ S = .ok v S3:=by rw [mOp_eq,h1,bind_ok,h2,bind_ok,h3]
theorem cons_ok {m : ME} {mr : ML} {Γ : Gam} {S S1 S2 : Store} {p : PV} {ps : List PV} (h1 : m Γ S = .ok p S1) (h2 : mr Γ S1 = .ok ps S2) : mCons m mr Γ S = .ok (p :: ps) S2:=by rw [mCons_eq,h1,bind_ok,h2,bind_ok]
theorem bi_ok {o : CF} {mr : ML} {Γ : Gam} {S S1 S2 : Store} {ps : List PV} {v : PV} (h1 : mr Γ S = .ok ps S1) (h2 : o S1 ps = .ok v S2) : mCall o mr Γ S = .ok v S2:=by rw [mCall_eq,h1,bind_ok,h2]
theorem for_ok {ga : GA} {mi : MI} {b : MS} {Γ : Gam} {S S1 : Store} {xs : List PV} {w : Wt} {r : SR} (h1 : mi Γ S = .ok (xs,w) S1) (h2 : forG ga b w xs Γ S1 = r) : mFor ga mi b Γ S = r:=by rw [mFor_eq,h1]; exact h2
theorem if_t {c : MT} {a b : MS} {Γ : Gam} {S S1 : Store} {r : SR} (h1 : c Γ S = .ok true S1) (h2 : a Γ S1 = r) : mIfS c a b Γ S = r:=by rw [mIfS_eq,h1]; exact h2
theorem if_f {c : MT} {a b : MS} {Γ : Gam} {S S1 : Store} {r : SR} (h1 : c Γ S = .ok false S1) (h2 : b Γ S1 = r) : mIfS c a b Γ S = r:=by rw [mIfS_eq,h1]; exact h2
theorem sq_ok {m : ME} {Γ : Gam} {S S1 : Store} {p : PV} {xs : List PV} {w : Wt} (h1 : m Γ S = .ok p S1) (h2 : srcOf S1 p = some (xs,w)) (h3 : xs.length <= 1000000) : mSeq m Γ S = .ok (xs,w) S1:=by rw [mSeq_eq,h1,bind_ok,h2]; exact if_pos h3
theorem val_ok {m : ML} {Γ : Gam} {S S1 : Store} {ps : List PV} (h : m Γ S = .ok ps S1) : mVal m Γ S = .ok (.lst ps) S1:=by rw [mVal_eq,h,bind_ok]
theorem comp_ok {cap : List (Option Nat)} {ga : GA} {mi : MI} {mt : MT} {me : ME} {Γ : Gam} {S S1 S2 : Store} {xs ys : List PV} {w : Wt} (h1 : mi Γ S = .ok (xs,w) S1) (h2 : compG ga mt me w (capG cap Γ) xs S1 = .ok ys S2) : mCompN cap ga mi mt me Γ S = .ok ys S2:=by rw [mCompN_eq,h1,bind_ok,h2]; rfl
theorem trk_ok {m : ML} {Γ : Gam} {S S1 : Store} {ps : List PV} (h : m Γ S = .ok ps S1) : mTrk m Γ S = .ok (.ref S1.length) (S1 ++ [.lst ps]):=by rw [mTrk_eq,h,bind_ok]
theorem not_ok {t : MT} {Γ : Gam} {S S1 : Store} {b : Bool} (h : t Γ S = .ok b S1) : tNotM t Γ S = .ok (!b) S1:=by rw [tNotM_eq,h,bind_ok]
theorem tb_ok {m : ME} {Γ : Gam} {S S1 : Store} {b : Bool} (h : m Γ S = .ok (.bl b) S1) : toB m Γ S = .ok b S1:=by rw [toB_eq,h]; rfl
theorem six_ok {mo mi m : ME} {Γ : Gam} {S S1 S2 S3 S4 : Store} {p o i : PV} (h1 : m Γ S = .ok p S1) (h2 : mo Γ S1 = .ok o S2) (h3 : mi Γ S2 = .ok i S3) (h4 : setIx S3 o i p = some S4) : mSetIx mo mi m Γ S = .nx Γ S4:=by
  rw [mSetIx_eq,h1,sbind_ok,h2,sbind_ok,h3,sbind_ok,h4]
theorem app_ok {f : MF} {mo : ME} {mr : ML} {Γ : Gam} {S S1 S2 S3 : Store} {p v : PV} {xs ps : List PV} (h1 : mo Γ S = .ok p S1) (h2 : listOf S1 p = some xs) (h3 : mr Γ S1 = .ok ps S2) (h4 : f S2 p ps = .ok v S3) : mExpr (mBM f mo mr) Γ S = .nx Γ S3:=by
  rw [mExpr_eq,mBM_eq,h1,bind_ok]
  simp only [h2]
  rw [h3,bind_ok,h4,sbind_ok]
theorem or_t {a b : MT} {Γ : Gam} {S S1 : Store} (h : a Γ S = .ok true S1) : tOrM a b Γ S = .ok true S1:=by rw [tOrM_eq,h]; rfl
theorem or_f {a b : MT} {Γ : Gam} {S S1 : Store} {r : Res Bool} (h : a Γ S = .ok false S1) (h2 : b Γ S1 = r) : tOrM a b Γ S = r:=by rw [tOrM_eq,h]; exact h2
theorem seq_rt {a b : MS} {Γ : Gam} {S S1 : Store} {v : PV} (h : a Γ S = .rt v S1) : mSeqS a b Γ S = .rt v S1:=by rw [mSeqS_eq,h]
theorem tup_ok {mr : ML} {Γ : Gam} {S S1 : Store} {ps : List PV} (h1 : mr Γ S = .ok ps S1) (h2 : ps.length <= 1000000) : mTup mr Γ S = .ok (.tup ps) S1:=by rw [mTup_eq,h1,bind_ok]; exact if_pos h2
theorem callx {n : Nat} {F : FN} {mr : ML} {Γ : Gam} {S S1 S2 : Store} {ps : List PV} {x : Exc} (h1 : mr Γ S = .ok ps S1) (h2 : ps.length = n) (h3 : F ps S1 = .exc x S2) : mCallF n F mr Γ S = .exc x S2:=by rw [mCallF_eq,h1,bind_ok,if_pos h2,h3]
theorem callF_rt {m : MS} {nl : Nat} {ps : List PV} {S S' : Store} {v : PV} (h : m (ps.map some ++ List.replicate (nl - ps.length) none) S = .rt v S') : callF m nl ps S = fin S v S':=by unfold callF; rw [h]
theorem app_lst {S : Store} {L : Nat} {xs : List PV} (h : S[L]? = some (.lst xs)) (hl : xs.length < 1000000) (y : PV) : mtAppend S (.ref L) [y] = .ok .non (S.set L (.lst (xs ++ [y]))):=by
  simp only [mtAppend,chg,h]
  rw [if_pos (show xs.length < lim from hl)]
theorem and_t {a b : MT} {Γ : Gam} {S S1 : Store} {r : Res Bool} (h : a Γ S = .ok true S1) (h2 : b Γ S1 = r) : tAndM a b Γ S = r:=by rw [tAndM_eq,h]; exact h2
theorem and_f {a b : MT} {Γ : Gam} {S S1 : Store} (h : a Γ S = .ok false S1) : tAndM a b Γ S = .ok false S1:=by rw [tAndM_eq,h]; rfl
theorem ret_ok {m : ME} {Γ : Gam} {S S1 : Store} {v : PV} (h : m Γ S = .ok v S1) : mRet m Γ S = .rt v S1:=by rw [mRet_eq,h]; rfl
theorem eqi_t (S : Store) {a b : Int} (h : a = b) : oEq S (.int a) (.int b) = .ok (.bl true) S:=by simp [h]
theorem eqi_f (S : Store) {a b : Int} (h : ¬ a = b) : oEq S (.int a) (.int b) = .ok (.bl false) S:=by simp [h]
theorem lti_t (S : Store) {a b : Int} (h : a < b) : oLt S (.int a) (.int b) = .ok (.bl true) S:=by simp [h]
theorem lti_f (S : Store) {a b : Int} (h : ¬ a < b) : oLt S (.int a) (.int b) = .ok (.bl false) S:=by
  have : oLt S (.int a) (.int b) = .ok (.bl (decide (a < b))) S:=by simp
  rw [this,decide_eq_false h]
theorem gti_t (S : Store) {a b : Int} (h : b < a) : (oI fun a b=>.bl (decide (b < a))) S (.int a) (.int b) = .ok (.bl true) S:=by
  show Res.ok (PV.bl (decide (b < a))) S = _; rw [decide_eq_true h]
theorem gti_f (S : Store) {a b : Int} (h : ¬ b < a) : (oI fun a b=>.bl (decide (b < a))) S (.int a) (.int b) = .ok (.bl false) S:=by
  show Res.ok (PV.bl (decide (b < a))) S = _; rw [decide_eq_false h]
theorem modi (S : Store) {a b : Int} (h : 0 < b) : oMod S (.int a) (.int b) = .ok (.int (a % b)) S:=by
  show (if 0 < b then _ else _) = _; rw [if_pos h]
theorem addi (S : Store) (a b : Int) : oAdd S (.int a) (.int b) = .ok (.int (a + b)) S:=by simp
theorem subi (S : Store) (a b : Int) : (oI fun a b=>.int (a - b)) S (.int a) (.int b) = .ok (.int (a - b)) S:=rfl
theorem bi_lst {mr : ML} {Γ : Gam} {S S1 : Store} {ps : List PV} (h : mr Γ S = .ok ps S1) (hl : ps.length <= 1000000:=by decide) : mLst mr Γ S = .ok (.lst ps) S1:=by
  unfold mLst
  rw [h,bind_ok]
  exact if_pos hl
theorem nei_t (S : Store) {a b : Nat} (h : a ≠ b) : oNe S (.int a) (.int b) = .ok (.bl true) S:=by
  have : ¬ ((a : Int) = (b : Int)):=by omega
  simp [this]
theorem nei_f (S : Store) (a : Int) : oNe S (.int a) (.int a) = .ok (.bl false) S:=by simp
theorem rg_ok {n : Nat} (hn : n <= 1000) {m : ME} {Γ : Gam} {S : Store} (h : m Γ S = .ok (.int n) S) : mRange1 (mCons m mNil) Γ S = .ok (rangeI 0 n,[]) S:=by
  rw [mRange1_eq,cons_ok h (show mNil Γ S = .ok [] S from rfl),bind_ok]
  show (if -(lim : Int) <= (n : Int) /\ (n : Int) <= lim then _ else _) = _
  rw [if_pos (by rw [lim_eq]; omega),Int.toNat_natCast]
theorem ne_good {S : Store} {v : PV} (g : good dep v = true) (hd : der S v = v) : oNe S v v = .ok (.bl false) S:=by
  have hp : peq v v = true:=peq_self g
  unfold oNe
  rw [hd]
  simp [g,hp]
theorem seq_x {a b : MS} {Γ : Gam} {S S1 : Store} {x : Exc} (h : a Γ S = .exc x S1) : mSeqS a b Γ S = .exc x S1:=by rw [mSeqS_eq,h]
theorem finX_none (S : Store) (cn : Str) : finX S ⟨cn,none⟩ S = .exc ⟨cn,none⟩ S:=by unfold finX; rw [if_pos List.prefix_rfl]
theorem callF_x {m : MS} {nl : Nat} {ps : List PV} {S : Store} {cn : Str} (h : m (ps.map some ++ List.replicate (nl - ps.length) none) S = .exc ⟨cn,none⟩ S) : callF m nl ps S = .exc ⟨cn,none⟩ S:=by unfold callF; rw [h]; exact finX_none S cn
def dg (n : Nat) : List Nat:=(Nat.toDigits 10 n).map Char.toNat
theorem str_dg (n : Nat) : (Str.ofString (toString (n : Int))).cps.toList = dg n:=by
  rw [Str.ofString_eq_toList]
  show (String.ofList (Nat.toDigits 10 n)).toList.map Char.toNat = _
  rw [String.toList_ofList]
  rfl
theorem dg_char {d : Nat} (h : d < 10) : (Nat.digitChar d).toNat = 48 + d:=by
  have : d = 0 \/ d = 1 \/ d = 2 \/ d = 3 \/ d = 4 \/ d = 5 \/ d = 6 \/ d = 7 \/ d = 8 \/ d = 9:=by omega
  rcases this with rfl | rfl | rfl | rfl | rfl | rfl | rfl | rfl | rfl | rfl <;> rfl
theorem dg_lt {n : Nat} (h : n < 10) : dg n = [48 + n]:=by
  unfold dg
  rw [Nat.toDigits_of_lt_base h,List.map_cons,dg_char h]
  rfl
theorem dg_le {n : Nat} (h : 10 <= n) : dg n = dg (n / 10) ++ [48 + n % 10]:=by
  unfold dg
  rw [Nat.toDigits_of_base_le (by decide) h,List.map_append,List.map_cons,dg_char (Nat.mod_lt _ (by decide))]
  rfl
theorem dg_push {q d : Nat} (hq : 0 < q) (hd : d < 10) : dg (q * 10 + d) = dg q ++ [48 + d]:=by
  rw [dg_le (by omega),show (q * 10 + d) / 10 = q by omega,show (q * 10 + d) % 10 = d by omega]
theorem dg_fig (n : Nat) : ∀ c ∈ dg n,Fig c:=by
  induction n using Nat.strongRecOn with
  | ind n ih=>
    by_cases h : n < 10
    · rw [dg_lt h]
      intro c hc
      have : c = 48 + n:=by simpa using hc
      rw [this]; unfold Fig; omega
    · rw [dg_le (by omega)]
      intro c hc
      rcases List.mem_append.mp hc with hc | hc
      · exact ih (n / 10) (by omega) c hc
      · have : c = 48 + n % 10:=by simpa using hc
        rw [this]; unfold Fig; omega
theorem figN_snoc (cs : List Nat) (c : Nat) : figN (cs ++ [c]) = figN cs * 10 + (c - 48):=by unfold figN; rw [List.foldl_append]; rfl
theorem figN_dg (n : Nat) : figN (dg n) = n:=by
  induction n using Nat.strongRecOn with
  | ind n ih=>
    by_cases h : n < 10
    · rw [dg_lt h]
      show 0 * 10 + (48 + n - 48) = n
      omega
    · rw [dg_le (by omega),figN_snoc,ih (n / 10) (by omega)]
      omega
theorem dg_len_pos (n : Nat) : 1 <= (dg n).length:=by
  by_cases h : n < 10
  · rw [dg_lt h]; simp
  · rw [dg_le (by omega),List.length_append]; simp
theorem dg_len {k n : Nat} (hk : 1 <= k) (h : n < 10 ^ k) : (dg n).length <= k:=by
  induction k generalizing n with
  | zero=>omega
  | succ k ih=>
    by_cases h10 : n < 10
    · rw [dg_lt h10]; simp
    · by_cases hk0 : k = 0
      · subst hk0; omega
      · rw [dg_le (by omega),List.length_append]
        have:=ih (n:=n / 10) (by omega) (by rw [Nat.pow_succ] at h; omega)
        simp; omega
theorem dg_head (n : Nat) : ∃ c cs,dg n = c :: cs /\ (c = 48 -> cs = []):=by
  induction n using Nat.strongRecOn with
  | ind n ih=>
    by_cases h : n < 10
    · exact ⟨_,[],dg_lt h,fun _=>rfl⟩
    · obtain ⟨c,cs,e,hc⟩:=ih (n / 10) (by omega)
      refine ⟨c,cs ++ [48 + n % 10],by rw [dg_le (by omega),e]; rfl,fun z=>?_⟩
      have h0:=hc z
      have h1:=figN_dg (n / 10)
      rw [e,h0,z] at h1
      have : figN [48] = 0:=rfl
      omega
theorem dg_block {q : Nat} (hq : 0 < q) : ∀ (k r : Nat),1 <= k -> r < 10 ^ k -> dg (q * 10 ^ k + r) = dg q ++ (List.replicate (k - (dg r).length) 48 ++ dg r)
  | 1,r,_,h=>by
    rw [Nat.pow_one] at h ⊢
    rw [dg_push hq h,dg_lt h]
    rfl
  | k + 2,r,_,h=>by
    have hr : r / 10 < 10 ^ (k + 1):=by rw [Nat.pow_succ] at h; omega
    have e : q * 10 ^ (k + 2) + r = (q * 10 ^ (k + 1) + r / 10) * 10 + r % 10:=by
      rw [Nat.pow_succ,<- Nat.mul_assoc]; omega
    have hp : 0 < q * 10 ^ (k + 1):=Nat.mul_pos hq (Nat.pow_pos (by decide))
    rw [e,dg_push (by omega) (Nat.mod_lt _ (by decide)),dg_block hq (k + 1) (r / 10) (by omega) hr]
    by_cases h10 : r < 10
    · have e0 : r / 10 = 0:=by omega
      have e1 : r % 10 = r:=by omega
      rw [e0,e1,dg_lt (show 0 < 10 by decide),dg_lt h10]
      simp only [List.length_cons,List.length_nil]
      rw [show k + 2 - (0 + 1) = k + 1 by omega,show k + 1 - (0 + 1) = k by omega,List.replicate_succ' (n:=k)]
      simp
    · rw [dg_le (show 10 <= r by omega),List.length_append]
      have:=dg_len_pos (r / 10)
      simp only [List.length_cons,List.length_nil]
      rw [show k + 2 - ((dg (r / 10)).length + (0 + 1)) = k + 1 - (dg (r / 10)).length by omega]
      simp
theorem ret_i {body : MS} {nl : Nat} {ps : List PV} {st : Store} {b : Int} (h : body (ps.map some ++ List.replicate (nl - ps.length) none) st = .rt (.int b) st) : callF body nl ps st = .ok (.int b) st:=by
  unfold callF; rw [h]; exact fin_int st b
theorem ret_b {body : MS} {nl : Nat} {ps : List PV} {st : Store} {b : Bool} (h : body (ps.map some ++ List.replicate (nl - ps.length) none) st = .rt (.bl b) st) : callF body nl ps st = .ok (.bl b) st:=by
  unfold callF; rw [h]; exact fin_bl st b
theorem strI_ok {m : ME} {Γ : Gam} {S S1 : Store} {x : Str} (h : m Γ S = .ok (.str x) S1) (hl : x.length <= 1000000) : mStrI m Γ S = .ok (x.cps.toList.map (fun c=>PV.str ⟨#[c]⟩),[]) S1:=by
  unfold mStrI; rw [h,bind_ok]
  show (if x.length <= lim then Res.ok (signsP x,[]) S1 else .stuck) = _
  rw [if_pos (show x.length <= lim from hl)]; rfl
theorem ord_ok (c : Nat) (S : Store) : cOrd S [.str ⟨#[c]⟩] = .ok (.int (c : Nat)) S:=by
  unfold cOrd
  exact if_pos rfl
theorem mul_ten (a : Int) (S : Store) : oMul S (.int a) (.int 10) = .ok (.int (a * 10)) S:=by
  rw [oMul_int,if_pos (.inr ⟨by decide,by decide⟩)]
theorem number_ok {x : Str} (hl : x.length <= 1000000) (hf : ∀ c ∈ x.cps.toList,Fig c) (S : Store) : F_number_of [.str x] S = .ok (.int (figN x.cps.toList : Nat)) S:=by
  obtain ⟨Γ',S',e,b2,rfl,rfl⟩:=forG_invL (g:=fun c : Nat=>PV.str ⟨#[c]⟩) (xs:=x.cps.toList) (ga:=gaName 2) (body:=b_number_of_1) (w:=[]) (Γ:=[some (.str x),some (.int 0),none]) (st:=S)
    (I:=fun pre Γ st=>∃ b,Γ = [some (.str x),some (.int (figN pre : Nat)),b] /\ st = S) (fun _ _ st _=>wOk_nil st) (fun pre c post Γ st hx h=>by
      obtain ⟨b,rfl,rfl⟩:=h
      have hc : Fig c:=hf c (by rw [hx]; simp)
      refine ⟨[some (.str x),some (.int (figN pre : Nat)),some (.str ⟨#[c]⟩)],rfl,_,_,set_ok (v:=.int ((figN pre : Nat) * 10 + (c : Nat) - (48 : Nat))) (S1:=st) (op_ok (x:=.int ((figN pre : Nat) * 10 + (c : Nat))) (y:=.int (48 : Nat)) (S1:=st) (S2:=st) (op_ok (x:=.int ((figN pre : Nat) * 10)) (y:=.int (c : Nat)) (S1:=st) (S2:=st) (op_ok (S1:=st) (S2:=st) rfl rfl (mul_ten _ st)) (bi_ok (ps:=[.str ⟨#[c]⟩]) (S1:=st) rfl (ord_ok c st)) rfl) (bi_ok (ps:=[.str ⟨#[48]⟩]) (S1:=st) rfl (ord_ok 48 st)) rfl),some (.str ⟨#[c]⟩),?_,rfl⟩
      rw [figN_snoc]
      have : ((figN pre : Nat) : Int) * 10 + (c : Int) - (48 : Nat) = ((figN pre * 10 + (c - 48) : Nat) : Int):=by unfold Fig at hc; omega
      rw [<- this]
      rfl) ⟨_,rfl,rfl⟩
  refine ret_i ?_
  exact seq_nx rfl (seq_nx (for_ok (strI_ok rfl hl) e) rfl)
def figT (x : Str) : Bool:=match x.cps.toList with
  | []=>false
  | c :: cs=>figB c && cs.all figB && (decide (c ≠ 48) || cs.isEmpty)
theorem le_one (a b : Nat) (S : Store) : oLe2 S (.str ⟨#[a]⟩) (.str ⟨#[b]⟩) = .ok (.bl (decide (a <= b))) S:=by
  show Res.ok (PV.bl (!decide ([b] < [a]))) S = _
  have : ([b] < [a]) <-> b < a:=by rw [List.cons_lt_cons_iff]; simp
  congr 2
  by_cases q : a <= b
  · rw [decide_eq_true q,decide_eq_false (by rw [this]; omega)]; rfl
  · rw [decide_eq_false q,decide_eq_true (by rw [this]; omega)]; rfl
theorem sign_ok (c : Nat) (S : Store) : e_is_figures_1 [some (.str ⟨#[c]⟩)] S = .ok (.bl (figB c)) S:=by
  unfold e_is_figures_1
  rw [mChain_eq]
  show ((Res.ok (PV.str ⟨#[48]⟩) S).bind fun x st1=>(Res.ok (PV.str ⟨#[c]⟩) st1).bind fun y st2=>(oLe2 st2 x y).bind fun k st3=>selB k ((Res.ok (PV.str ⟨#[57]⟩) st3).bind fun z st4=>oLe2 st4 y z) (.ok (.bl false) st3)) = _
  rw [bind_ok,bind_ok,le_one,bind_ok,bind_ok,le_one]
  unfold figB
  by_cases q : 48 <= c
  · rw [decide_eq_true q]; rfl
  · rw [decide_eq_false q]; rfl
theorem signs_ok {x : Str} (hl : x.length <= 1000000) (S : Store) : mVal (mCompN [none] (gaName 0) (mStrI (mVar 0)) mTrue e_is_figures_1) [some (.str x)] S = .ok (.lst (x.cps.toList.map fun c=>.bl (figB c))) S:=
  val_ok (comp_ok (strI_ok rfl hl) (compG_on (g:=fun c : Nat=>PV.str ⟨#[c]⟩) (f:=fun c=>.bl (figB c)) (wOk_nil S) fun c _=>⟨_,rfl,sign_ok c S⟩))
theorem bls_map {α : Type} (f : α -> Bool) (l : List α) : blsOf (l.map fun c=>PV.bl (f c)) = some (l.map f):=by
  induction l with
  | nil=>rfl
  | cons a l ih=>
    show (blsOf (l.map fun c=>PV.bl (f c))).map (f a :: ·) = _
    rw [ih]; rfl
theorem all_ok {x : Str} (hl : x.length <= 1000000) (S : Store) : mCall (cBls fun ns=>.bl (ns.all id)) (mCons (mVal (mCompN [none] (gaName 0) (mStrI (mVar 0)) mTrue e_is_figures_1)) mNil) [some (.str x)] S = .ok (.bl (x.cps.toList.all figB)) S:=by
  refine bi_ok (cons_ok (signs_ok hl S) rfl) ?_
  show (match (some (x.cps.toList.map fun c=>PV.bl (figB c))).bind blsOf with | some ns=>Res.ok (PV.bl (ns.all id)) S | none=>.stuck) = _
  rw [Option.bind_some,bls_map]
  show Res.ok (PV.bl ((x.cps.toList.map figB).all id)) S = _
  rw [List.all_map]
  rfl
theorem str_one (x : Str) (c : Nat) : x = ⟨#[c]⟩ <-> x.cps.toList = [c]:=by
  constructor
  · rintro rfl; rfl
  · intro h
    cases x with
    | mk a=>congr 1; exact Array.ext' h
theorem orE {a b : ME} {Γ : Gam} {S : Store} {x y : Bool} (h : a Γ S = .ok (.bl x) S) (h2 : b Γ S = .ok (.bl y) S) : mOr a b Γ S = .ok (.bl (x || y)) S:=by
  unfold mOr
  rw [h,bind_ok]
  cases x
  · exact h2
  · rfl
theorem eqS (S : Store) (a b : Str) : oEq S (.str a) (.str b) = .ok (.bl (decide (a = b))) S:=by
  by_cases h : a = b
  · subst h; simp
  · simp [h]
theorem neS (S : Store) (a b : Str) : oNe S (.str a) (.str b) = .ok (.bl (!decide (a = b))) S:=by
  by_cases h : a = b
  · subst h; simp
  · simp [h]
theorem figures_is {x : Str} (hl : x.length <= 1000000) (S : Store) : F_is_figures [.str x] S = .ok (.bl (figT x)) S:=by
  refine ret_b ?_
  show m_is_figures [some (.str x)] S = _
  have hall:=all_ok hl S
  have hlen : mOp oEq (mCall cLen (mCons (mVar 0) mNil)) (mC (.int 0)) [some (.str x)] S = .ok (.bl (decide ((x.length : Int) = 0))) S:=by
    refine op_ok (S1:=S) (S2:=S) (x:=.int x.length) (bi_ok rfl ?_) rfl rfl
    show (if x.length <= lim then Res.ok (PV.int x.length) S else .stuck) = _
    rw [if_pos (show x.length <= lim from hl)]
  have lx : x.length = x.cps.toList.length:=by rw [Array.length_toList]; rfl
  unfold m_is_figures figT
  cases hx : x.cps.toList with
  | nil=>
    rw [lx,hx] at hlen
    exact seq_rt (if_t (or_t (tb_ok hlen)) rfl)
  | cons c cs=>
    rw [lx,hx] at hlen
    rw [hx] at hall
    have hlen2 : decide ((((c :: cs).length : Nat) : Int) = 0) = false:=decide_eq_false (by simp; omega)
    rw [hlen2] at hlen
    rw [List.all_cons] at hall
    show _ = SR.rt (.bl (figB c && cs.all figB && (decide (c ≠ 48) || cs.isEmpty))) S
    by_cases q : (figB c && cs.all figB) = true
    · rw [q] at hall ⊢
      refine seq_nx (if_f (or_f (tb_ok hlen) (not_ok (tb_ok hall))) rfl) (ret_ok ?_)
      have h0 : (Str.ofString "0") = ⟨#[48]⟩:=rfl
      rw [h0]
      have e1 : oIxS S (.str x) (.int 0) = .ok (.str ⟨#[c]⟩) S:=by
        show (match atI x.cps.toList 0 with | some c=>if x.length <= lim then Res.ok (PV.str ⟨#[c]⟩) S else .stuck | none=>.stuck) = _
        rw [hx,show atI (c :: cs) 0 = some c by
          have : (0 : Int) < ((c :: cs).length : Nat):=by simp
          unfold atI ixN; rw [if_pos (Int.le_refl 0),if_pos this]; rfl]
        show (if x.length <= lim then Res.ok (PV.str ⟨#[c]⟩) S else .stuck) = _
        rw [if_pos (show x.length <= lim from hl)]
      refine (orE (op_ok rfl rfl (eqS S x ⟨#[48]⟩)) (op_ok (op_ok rfl rfl e1) rfl (neS S ⟨#[c]⟩ ⟨#[48]⟩))).trans ?_
      congr 2
      have k1 : decide (x = (⟨#[48]⟩ : Str)) = (decide (c = 48) && cs.isEmpty):=by
        rw [Bool.eq_iff_iff,decide_eq_true_iff,str_one,hx,Bool.and_eq_true,decide_eq_true_iff,List.isEmpty_iff]
        simp
      have k2 : decide ((⟨#[c]⟩ : Str) = ⟨#[48]⟩) = decide (c = 48):=by
        rw [Bool.eq_iff_iff,decide_eq_true_iff,decide_eq_true_iff,str_one]
        simp
      rw [k1,k2]
      by_cases z : c = 48 <;> cases cs.isEmpty <;> simp [z]
    · rw [Bool.eq_false_iff.mpr q] at hall ⊢
      exact seq_rt (if_t (or_f (tb_ok hlen) (not_ok (tb_ok hall))) rfl)
def tx (cs : List Nat) : Str:=⟨cs.toArray⟩
theorem tx_cps (cs : List Nat) : (tx cs).cps.toList = cs:=by simp [tx]
theorem tx_len (cs : List Nat) : (tx cs).length = cs.length:=by show cs.toArray.size = _; simp
theorem tx_of (x : Str) : tx x.cps.toList = x:=by cases x; simp [tx]
theorem str_tx (n : Nat) : Str.ofString (toString (n : Int)) = tx (dg n):=by rw [<- str_dg n,tx_of]
theorem zfill_tx {r : Nat} (hr : r < 10 ^ 18) : Txt.zfill (tx (dg r)) 18 = tx (List.replicate (18 - (dg r).length) 48 ++ dg r):=by
  have l:=dg_len (k:=18) (by decide) hr
  unfold Txt.zfill
  rw [tx_len]
  by_cases q : (18 : Int) <= (dg r).length
  · rw [if_pos q,show 18 - (dg r).length = 0 by omega]; rfl
  · rw [if_neg q]
    obtain ⟨c,cs,e,_⟩:=dg_head r
    have hc:=dg_fig r c (by rw [e]; simp)
    have h0 : (tx (dg r)).cps[0]? = some c:=by unfold tx; rw [e]; simp
    unfold zfilled
    rw [h0]
    unfold Fig at hc
    split
    · rename_i z; cases z; omega
    · rename_i z; cases z; omega
    · show (⟨Array.replicate (18 - (dg r).length) 48 ++ (dg r).toArray ++ Array.replicate 0 48⟩ : Str) = _
      unfold tx
      congr 1
      apply Array.ext'
      simp
theorem whileG_nx {mt : MT} {body : MS} {n : Nat} {Γ Γ2 : Gam} {S S1 S2 : Store} {r : SR} (h1 : mt Γ S = .ok true S1) (h2 : body Γ S1 = .nx Γ2 S2) (h3 : whileG mt body n Γ2 S2 = r) : whileG mt body (n + 1) Γ S = r:=by
  unfold whileG
  rw [h1]
  show (match body Γ S1 with | .nx Γ2 st2=>whileG mt body n Γ2 st2 | .ct Γ2 st2=>whileG mt body n Γ2 st2 | .bk Γ2 st2=>.nx Γ2 st2 | .rt v st2=>.rt v st2 | .exc x st2=>.exc x st2 | .stuck=>.stuck) = _
  rw [h2]
  exact h3
theorem whileG_end {mt : MT} {body : MS} {n : Nat} {Γ : Gam} {S S1 : Store} (h1 : mt Γ S = .ok false S1) : whileG mt body (n + 1) Γ S = .nx Γ S1:=by
  unfold whileG
  rw [h1]
  rfl
theorem p18 (Γ : Gam) (S : Store) : mOp oPow (mC (.int 10)) (mC (.int 18)) Γ S = .ok (.int 1000000000000000000) S:=by
  refine op_ok rfl rfl ?_
  rw [oPow_int,if_pos (by decide)]; rfl
theorem w18 (a p : Option PV) (r : Nat) (S : Store) : w_figures_of_1 [a,p,some (.int (r : Nat))] S = .ok (decide ((1000000000000000000 : Int) <= (r : Nat))) S:=tb_ok (op_ok rfl (p18 _ S) rfl)
theorem strB_ok {k : Nat} (h : k < 10 ^ 40) (S : Store) : cStrB S [.int (k : Nat)] = .ok (.str (tx (dg k))) S:=by
  unfold cStrB
  rw [<- str_tx]
  exact if_pos (by rw [Int.natAbs_natCast]; exact h)
theorem lof {S : Store} {L : Nat} {xs : List PV} (h : S[L]? = some (.lst xs)) : listOf S (.ref L) = some xs:=by
  show (match S[L]? with | some (.lst xs)=>some xs | _=>none) = _
  rw [h]
def blk (r : Nat) : List Nat:=List.replicate (18 - (dg (r % 10 ^ 18)).length) 48 ++ dg (r % 10 ^ 18)
theorem turn18 (a : Option PV) {L : Nat} (r : Nat) {S : Store} {xs : List PV} (hL : S[L]? = some (.lst xs)) (hl : xs.length < 1000000) :
    b_figures_of_1 [a,some (.ref L),some (.int (r : Nat))] S = .nx [a,some (.ref L),some (.int ((r / 10 ^ 18 : Nat) : Int))] (S.set L (.lst (xs ++ [.str (tx (blk r))]))):=by
  have hm : (r : Int) % 1000000000000000000 = ((r % 10 ^ 18 : Nat) : Int):=by omega
  have hd : (r : Int) / 1000000000000000000 = ((r / 10 ^ 18 : Nat) : Int):=by omega
  have hlt : r % 10 ^ 18 < 10 ^ 18:=Nat.mod_lt _ (by decide)
  have e1 : mOp oMod (mVar 2) (mOp oPow (mC (.int 10)) (mC (.int 18))) [a,some (.ref L),some (.int (r : Nat))] S = .ok (.int ((r % 10 ^ 18 : Nat) : Int)) S:=by
    refine op_ok rfl (p18 _ S) ?_
    rw [<- hm]
    show (if (0 : Int) < 1000000000000000000 then Res.ok (PV.int ((r : Int) % 1000000000000000000)) S else .stuck) = _
    rw [if_pos (by decide)]
  have e2 : mZfill (mCall cStrB (mCons (mOp oMod (mVar 2) (mOp oPow (mC (.int 10)) (mC (.int 18)))) mNil)) (mCons (mC (.int 18)) mNil) [a,some (.ref L),some (.int (r : Nat))] S = .ok (.str (tx (blk r))) S:=by
    unfold mZfill
    rw [bi_ok (cons_ok e1 rfl) (strB_ok (Nat.lt_of_lt_of_le hlt (by decide)) S),bind_ok]
    show (Res.ok [PV.int 18] S).bind _ = _
    rw [bind_ok]
    show (if PadOk 18 = true then Res.ok (PV.str (Txt.zfill (tx (dg (r % 10 ^ 18))) 18)) S else .stuck) = _
    rw [if_pos (by decide),zfill_tx hlt]
    rfl
  refine seq_nx (app_ok rfl (lof hL) (cons_ok e2 rfl) (app_lst hL hl _)) (set_ok (op_ok rfl (p18 _ _) ?_))
  rw [<- hd]
  show (if (0 : Int) < 1000000000000000000 /\ (1000000000000000000 : Int) < 1267650600228229401496703205376 then Res.ok (PV.int ((r : Int) / 1000000000000000000)) _ else .stuck) = _
  rw [if_pos (by decide)]
theorem joinR_ok {Γ : Gam} {S : Store} {L : Nat} {xs : List PV} {ss : List Str} {v : Str} (hv : mVar 1 Γ S = .ok (.ref L) S) (hL : S[L]? = some (.lst xs)) (hs : strsP xs = some ss) (h1 : ss.length <= 1000000) (hj : JoinOk (Str.ofString "") ss.reverse = true) (e : Txt.join (Str.ofString "") ss.reverse = v) :
    mJoinR (mC (.str "")) (mVar 1) Γ S = .ok (.str v) S:=by
  unfold mJoinR
  show (Res.ok (PV.str (Str.ofString "")) S).bind _ = _
  rw [bind_ok]
  show (mVar 1 Γ S).bind _ = _
  rw [hv,bind_ok]
  have hl : (lstOf S (.ref L)).bind strsP = some ss:=by
    show (match S[L]? with | some (.lst xs)=>some xs | _=>none).bind strsP = _
    rw [hL]; exact hs
  show (match (lstOf S (.ref L)).bind strsP with | some ss=>if ss.length <= 1000000 /\ JoinOk (Str.ofString "") ss.reverse = true then Res.ok (PV.str (Txt.join (Str.ofString "") ss.reverse)) S else .stuck | none=>.stuck) = _
  rw [hl]
  show (if ss.length <= 1000000 /\ JoinOk (Str.ofString "") ss.reverse = true then Res.ok (PV.str (Txt.join (Str.ofString "") ss.reverse)) S else .stuck) = _
  rw [if_pos ⟨h1,hj⟩,e]
theorem small_join {l : List Str} (h : (l.map (·.length)).sum <= 1000) : JoinOk (Str.ofString "") l = true:=by
  unfold JoinOk
  have : ∀ (l : List Str) (n : Nat),l.foldl (fun a (b : Str)=>a + b.length + (Str.ofString "").length) n = n + (l.map (·.length)).sum:=by
    intro l
    induction l with
    | nil=>intro n; simp
    | cons x l ih=>
      intro n
      rw [List.foldl_cons,ih]
      have : (Str.ofString "").length = 0:=rfl
      simp [this]; omega
  rw [List.foldl_toArray,this]
  simp only [Nat.zero_add]
  have z : ∀ k,k <= 1000 -> Builtin.Str.tooLong k = false:=by
    intro k hk
    unfold Builtin.Str.tooLong
    exact decide_eq_false (Nat.not_lt.mpr (Nat.le_trans hk (by decide)))
  rw [z _ h]; rfl
theorem blk_len (r : Nat) : (blk r).length = 18:=by
  have:=dg_len (k:=18) (by decide) (Nat.mod_lt r (show 0 < 10 ^ 18 by decide))
  unfold blk
  rw [List.length_append,List.length_replicate]; omega
theorem figures_ok {n : Nat} (h : n < 10 ^ 36) (S : Store) : F_figures_of [.int (n : Nat)] S = .ok (.str (tx (dg n))) S:=by
  have c0 : (S ++ [Cell.lst []])[S.length]? = some (.lst []):=by simp
  have hlen:=dg_len (k:=36) (by decide) h
  by_cases q : n < 10 ^ 18
  · have hw : w_figures_of_1 [some (.int (n : Nat)),some (.ref S.length),some (.int (n : Nat))] (S ++ [.lst []]) = .ok false (S ++ [.lst []]):=by
      rw [w18,decide_eq_false (by omega)]
    have c1 : ((S ++ [Cell.lst []]).set S.length (.lst ([] ++ [PV.str (tx (dg n))])))[S.length]? = some (.lst ([] ++ [PV.str (tx (dg n))])):=List.getElem?_set_self (by simp)
    have e : m_figures_of [some (.int (n : Nat)),none,none] S = .rt (.str (tx (dg n))) ((S ++ [Cell.lst []]).set S.length (.lst ([] ++ [PV.str (tx (dg n))]))):=
      seq_nx (set_ok (trk_ok rfl)) (seq_nx rfl (seq_nx (whileG_end hw) (seq_nx (app_ok rfl (lof c0) (cons_ok (bi_ok rfl (strB_ok (by omega) _)) rfl) (app_lst c0 (by decide) _))
        (ret_ok (joinR_ok (ss:=[tx (dg n)]) rfl c1 rfl (show 1 <= 1000000 by decide) (small_join (by simp [tx_len]; omega)) rfl)))))
    have:=callF_rt (nl:=3) (ps:=[.int (n : Nat)]) e
    show callF m_figures_of 3 _ _ = _
    rw [this,List.set_append_right _ _ (Nat.le_refl _)]
    exact fin_goodA rfl
  · have hq : n / 10 ^ 18 < 10 ^ 18:=by omega
    have hb : dg (n / 10 ^ 18) ++ blk n = dg n:=by
      have:=dg_block (q:=n / 10 ^ 18) (by omega) 18 (n % 10 ^ 18) (by decide) (Nat.mod_lt _ (by decide))
      rw [show n / 10 ^ 18 * 10 ^ 18 + n % 10 ^ 18 = n by omega] at this
      exact this.symm
    have hl2:=dg_len (k:=18) (by decide) hq
    have hw : w_figures_of_1 [some (.int (n : Nat)),some (.ref S.length),some (.int (n : Nat))] (S ++ [.lst []]) = .ok true (S ++ [.lst []]):=by
      rw [w18,decide_eq_true (by omega)]
    obtain ⟨S1,e1⟩ : ∃ S1,(S ++ [Cell.lst []]).set S.length (.lst ([] ++ [PV.str (tx (blk n))])) = S1:=⟨_,rfl⟩
    have c1 : S1[S.length]? = some (.lst ([] ++ [PV.str (tx (blk n))])):=by rw [<- e1]; exact List.getElem?_set_self (by simp)
    have hw2 : w_figures_of_1 [some (.int (n : Nat)),some (.ref S.length),some (.int ((n / 10 ^ 18 : Nat) : Int))] S1 = .ok false S1:=by
      rw [w18,decide_eq_false (by omega)]
    have c2 : (S1.set S.length (.lst ([] ++ [PV.str (tx (blk n))] ++ [PV.str (tx (dg (n / 10 ^ 18)))])))[S.length]? = some (.lst ([] ++ [PV.str (tx (blk n))] ++ [PV.str (tx (dg (n / 10 ^ 18)))])):=List.getElem?_set_self (by rw [<- e1]; simp)
    have t1:=turn18 (some (.int (n : Nat))) n c0 (by decide)
    rw [e1] at t1
    have hj : Txt.join (Str.ofString "") [tx (dg (n / 10 ^ 18)),tx (blk n)] = tx (dg n):=by
      show (⟨(dg (n / 10 ^ 18)).toArray ++ #[] ++ (blk n).toArray⟩ : Str) = _
      rw [<- hb]
      simp [tx]
    have e : m_figures_of [some (.int (n : Nat)),none,none] S = .rt (.str (tx (dg n))) (S1.set S.length (.lst ([] ++ [PV.str (tx (blk n))] ++ [PV.str (tx (dg (n / 10 ^ 18)))]))):=
      seq_nx (set_ok (trk_ok rfl)) (seq_nx rfl (seq_nx (whileG_nx (n:=99999) hw t1 (whileG_end (n:=99998) hw2)) (seq_nx (app_ok rfl (lof c1) (cons_ok (bi_ok rfl (strB_ok (by omega) _)) rfl) (app_lst c1 (show 1 < 1000000 by decide) _))
        (ret_ok (joinR_ok (ss:=[tx (blk n),tx (dg (n / 10 ^ 18))]) rfl c2 rfl (show 2 <= 1000000 by decide) (small_join (by simp only [List.reverse_cons,List.reverse_nil,List.nil_append,List.cons_append,List.map_cons,List.map_nil,List.sum_cons,List.sum_nil,tx_len,blk_len]; omega)) hj)))))
    have:=callF_rt (nl:=3) (ps:=[.int (n : Nat)]) e
    show callF m_figures_of 3 _ _ = _
    rw [this,<- e1,List.set_append_right _ _ (Nat.le_refl _),List.set_append_right _ _ (Nat.le_refl _)]
    exact fin_goodA rfl
theorem fits_join {sep : Str} {l : List Str} (h : (l.map (·.length)).sum + l.length * sep.length <= 1000000) : JoinOk sep l = true:=by
  unfold JoinOk
  have : ∀ (l : List Str) (n : Nat),l.foldl (fun a (b : Str)=>a + b.length + sep.length) n = n + (l.map (·.length)).sum + l.length * sep.length:=by
    intro l
    induction l with
    | nil=>intro n; simp
    | cons x l ih=>
      intro n
      rw [List.foldl_cons,ih]
      simp [Nat.add_mul]; omega
  rw [List.foldl_toArray,this]
  have z : ∀ k,k <= 1000000 -> Builtin.Str.tooLong k = false:=by
    intro k hk
    unfold Builtin.Str.tooLong
    exact decide_eq_false (Nat.not_lt.mpr (Nat.le_trans hk (by decide)))
  rw [z _ (by omega)]; rfl
theorem strsP_map (ss : List Str) : strsP (ss.map PV.str) = some ss:=by
  induction ss with
  | nil=>rfl
  | cons x ss ih=>
    show (strsP (ss.map PV.str)).map (x :: ·) = _
    rw [ih]; rfl
theorem join_of {sep : Str} {mr : Gam -> Store -> Res (List PV)} {Γ : Gam} {S S1 : Store} {p : PV} {ss : List Str} (h : mr Γ S = .ok [p] S1) (hp : listOf S1 p = some (ss.map PV.str)) (hj : JoinOk sep ss = true) :
    mJoin (mC (.str sep)) mr Γ S = .ok (.str (Txt.join sep ss)) S1:=by
  unfold mJoin
  show (Res.ok (PV.str sep) S).bind _ = _
  rw [bind_ok]
  show (mr Γ S).bind _ = _
  rw [h,bind_ok]
  show (match (listOf S1 p).bind strsP with | some ss=>if JoinOk sep ss = true then Res.ok (PV.str (Txt.join sep ss)) S1 else .stuck | none=>.stuck) = _
  rw [hp,Option.bind_some,strsP_map]
  exact if_pos hj
def rwT (r : List Nat) : Str:=Txt.join (Str.ofString " ") (r.map fun n=>tx (dg n))
def tbT (t : List (List Nat)) : Str:=Txt.join (Str.ofString " / ") (t.map rwT)
def rwP (r : List Nat) : PV:=.tup (r.map fun n=>PV.int (n : Nat))
def tbP (t : List (List Nat)) : PV:=.tup (t.map rwP)
theorem sum_at {α : Type} (f : α -> Nat) (k : Nat) : ∀ (l : List α),(∀ x ∈ l,f x <= k) -> (l.map f).sum <= l.length * k
  | [],_=>by simp
  | a :: l,h=>by
    have h1:=h a (by simp)
    have h2:=sum_at f k l fun x hx=>h x (List.mem_cons_of_mem _ hx)
    simp [Nat.add_mul]; omega
def Rw (r : List Nat) : Prop:=r.length <= 9 /\ ∀ n ∈ r,n < 10 ^ 36
theorem join_len (sep : Str) (l : List Str) : (Txt.join sep l).length <= (l.map (·.length)).sum + l.length * sep.length:=by
  show (Builtin.Str.glued sep l).length <= _
  rw [size_glued]
  have : (l.length - 1) * sep.length <= l.length * sep.length:=Nat.mul_le_mul_right _ (by omega)
  omega
theorem rw_sum {r : List Nat} (h : Rw r) : ((r.map fun n=>tx (dg n)).map (·.length)).sum <= 324:=by
  rw [List.map_map]
  have:=sum_at ((fun x : Str=>x.length) ∘ fun n=>tx (dg n)) 36 r fun n hn=>by
    show (tx (dg n)).length <= 36
    rw [tx_len]; exact dg_len (by decide) (h.2 n hn)
  have:=h.1
  omega
theorem rw_len {r : List Nat} (h : Rw r) : (rwT r).length <= 333:=by
  have h1:=join_len (Str.ofString " ") (r.map fun n=>tx (dg n))
  have h2:=rw_sum h
  have h3 : (Str.ofString " ").length = 1:=rfl
  rw [h3,List.length_map] at h1
  have:=h.1
  unfold rwT
  omega
theorem rw_fits {r : List Nat} (h : Rw r) : JoinOk (Str.ofString " ") (r.map fun n=>tx (dg n)) = true:=fits_join (by
  have h2:=rw_sum h
  have h3 : (Str.ofString " ").length = 1:=rfl
  have:=h.1
  rw [h3,List.length_map]; omega)
theorem tb_sum {t : List (List Nat)} (h : ∀ r ∈ t,Rw r) : ((t.map rwT).map (·.length)).sum <= t.length * 333:=by
  rw [List.map_map]
  exact sum_at ((fun x : Str=>x.length) ∘ rwT) 333 t fun r hr=>rw_len (h r hr)
theorem tb_fits {t : List (List Nat)} (h : ∀ r ∈ t,Rw r) (h8 : t.length <= 8) : JoinOk (Str.ofString " / ") (t.map rwT) = true:=fits_join (by
  have h2:=tb_sum h
  have h3 : (Str.ofString " / ").length = 3:=rfl
  rw [h3,List.length_map]; omega)
theorem ret_s {body : MS} {nl : Nat} {ps : List PV} {st : Store} {b : Str} (h : body (ps.map some ++ List.replicate (nl - ps.length) none) st = .rt (.str b) st) : callF body nl ps st = .ok (.str b) st:=by
  unfold callF; rw [h]; exact fin_str st b
theorem show_row_ok {r : List Nat} (h : Rw r) (S : Store) : F_show_row [rwP r] S = .ok (.str (rwT r)) S:=by
  refine ret_s ?_
  have hc:=compG_on (ga:=gaName 0) (me:=e_show_row_1) (Γ0:=capG [none] [some (rwP r)]) (g:=fun n : Nat=>PV.int (n : Nat)) (f:=fun n=>PV.str (tx (dg n))) (ys:=r) (wOk_nil S) fun n hn=>⟨[some (.int (n : Nat))],rfl,call_ok (n:=1) (cons_ok rfl rfl) rfl (figures_ok (h.2 n hn) S)⟩
  refine ret_ok (join_of (S1:=S) (p:=.lst (r.map fun n=>PV.str (tx (dg n)))) (cons_ok (val_ok (comp_ok (sq_ok rfl rfl (by rw [List.length_map]; exact Nat.le_trans h.1 (by decide))) hc)) rfl) ?_ (rw_fits h))
  rw [List.map_map]; rfl
theorem show_table_ok {t : List (List Nat)} (h : ∀ r ∈ t,Rw r) (h8 : t.length <= 8) (S : Store) : F_show_table [tbP t] S = .ok (.str (tbT t)) S:=by
  refine ret_s ?_
  have hc:=compG_on (ga:=gaName 0) (me:=e_show_table_1) (Γ0:=capG [none] [some (tbP t)]) (g:=rwP) (f:=fun r=>PV.str (rwT r)) (ys:=t) (wOk_nil S) fun r hr=>⟨[some (rwP r)],rfl,call_ok (n:=1) (cons_ok rfl rfl) rfl (show_row_ok (h r hr) S)⟩
  refine ret_ok (join_of (S1:=S) (p:=.lst (t.map fun r=>PV.str (rwT r))) (cons_ok (val_ok (comp_ok (sq_ok rfl rfl (by rw [List.length_map]; omega)) hc)) rfl) ?_ (tb_fits h h8))
  rw [List.map_map]; rfl
theorem atext_row {r : List Nat} (h : Rw r) (a b : Option PV) (S : Store) : mJoin (mC (.str " ")) (mCons (mVal (mCompN [none] (gaName 0) (mSeq (mVar 2)) mTrue e__law_atext_1)) mNil) [a,b,some (rwP r)] S = .ok (.str (rwT r)) S:=by
  have hc:=compG_on (ga:=gaName 0) (me:=e__law_atext_1) (Γ0:=capG [none] [a,b,some (rwP r)]) (g:=fun n : Nat=>PV.int (n : Nat)) (f:=fun n=>PV.str (tx (dg n))) (ys:=r) (wOk_nil S) fun n hn=>⟨[some (.int (n : Nat))],rfl,bi_ok (cons_ok rfl rfl) (strB_ok (Nat.lt_trans (h.2 n hn) (by decide)) S)⟩
  refine join_of (S1:=S) (p:=.lst (r.map fun n=>PV.str (tx (dg n)))) (cons_ok (val_ok (comp_ok (sq_ok rfl rfl (by rw [List.length_map]; exact Nat.le_trans h.1 (by decide))) hc)) rfl) ?_ (rw_fits h)
  rw [List.map_map]; rfl
theorem atext_ok {t : List (List Nat)} (h : ∀ r ∈ t,Rw r) (h8 : t.length <= 8) (S : Store) : F__law_atext [tbP t] S = .ok (.str (tbT t)) S:=by
  obtain ⟨Γ',S',e,b2,rfl,rfl⟩:=forG_invL (g:=rwP) (xs:=t) (ga:=gaName 2) (body:=b__law_atext_1) (w:=[]) (Γ:=[some (tbP t),some (.ref S.length),none]) (st:=S ++ [.lst []])
    (I:=fun pre Γ st=>∃ b,Γ = [some (tbP t),some (.ref S.length),b] /\ st = S ++ [.lst (pre.map fun r=>PV.str (rwT r))]) (fun _ _ st _=>wOk_nil st) (fun pre r post Γ st hx hI=>by
      obtain ⟨b,rfl,rfl⟩:=hI
      have hr : Rw r:=h r (by rw [hx]; simp)
      have hp : pre.length < 1000000:=by have:=congrArg List.length hx; simp at this; omega
      have c0 : (S ++ [Cell.lst (pre.map fun r=>PV.str (rwT r))])[S.length]? = some (.lst (pre.map fun r=>PV.str (rwT r))):=by simp
      refine ⟨[some (tbP t),some (.ref S.length),some (rwP r)],rfl,_,_,app_ok rfl (lof c0) (cons_ok (atext_row hr _ _ _) rfl) (app_lst c0 (by rw [List.length_map]; exact hp) _),some (rwP r),rfl,?_⟩
      rw [List.set_append_right _ _ (Nat.le_refl _),List.map_append]
      simp) ⟨_,rfl,rfl⟩
  have c1 : (S ++ [Cell.lst (t.map fun r=>PV.str (rwT r))])[S.length]? = some (.lst (t.map fun r=>PV.str (rwT r))):=by simp
  have e2 : m__law_atext [some (tbP t),none,none] S = .rt (.str (tbT t)) (S ++ [Cell.lst (t.map fun r=>PV.str (rwT r))]):=
    seq_nx (set_ok (trk_ok rfl)) (seq_nx (for_ok (sq_ok rfl rfl (by rw [List.length_map]; omega)) e) (ret_ok (join_of (p:=.ref S.length) rfl ((lof c1).trans (by rw [List.map_map]; rfl)) (tb_fits h h8))))
  have:=callF_rt (nl:=3) (ps:=[tbP t]) e2
  show callF m__law_atext 3 _ _ = _
  rw [this]
  exact fin_goodA rfl
theorem split_size (x y : Str) : x.length = ((Txt.split x y).map (·.length)).sum + ((Txt.split x y).length - 1) * y.length:=by
  have h:=congrArg Str.length (StrLaws.join_split x y)
  rw [<- StrLaws.glued_eq_join,size_glued] at h
  exact h.symm
theorem mem_sum {α : Type} (f : α -> Nat) {a : α} : ∀ {l : List α},a ∈ l -> f a <= (l.map f).sum
  | b :: l,h=>by
    rcases List.mem_cons.mp h with rfl | h
    · simp
    · have:=mem_sum f h; simp; omega
theorem split_mem {x y w : Str} (h : w ∈ Txt.split x y) : w.length <= x.length:=by
  have h1:=split_size x y
  have h2:=mem_sum (fun x : Str=>x.length) h
  have h2 : w.length <= ((Txt.split x y).map (·.length)).sum:=h2
  omega
theorem split_many {x y : Str} (hy : 1 <= y.length) : (Txt.split x y).length <= x.length + 1:=by
  have h1:=split_size x y
  have : (Txt.split x y).length - 1 <= ((Txt.split x y).length - 1) * y.length:=Nat.le_mul_of_pos_right _ hy
  omega
theorem split_ok {m : ME} {Γ : Gam} {S : Store} {x sep : Str} (h : m Γ S = .ok (.str x) S) (hs : (sep.length == 0) = false) (hl : x.length <= 1000000) : mSplit m (mCons (mC (.str sep)) mNil) Γ S = .ok (.lst ((Txt.split x sep).map .str)) S:=by
  unfold mSplit
  rw [h,bind_ok]
  show (Res.ok [PV.str sep] S).bind _ = _
  rw [bind_ok]
  exact if_pos ⟨hs,hl⟩
def wdsT (x : Str) : List Str:=Txt.split x (Str.ofString " ")
def numT (w : Str) : Nat:=figN w.cps.toList
theorem figT_all {w : Str} (h : figT w = true) : ∀ c ∈ w.cps.toList,Fig c:=by
  unfold figT at h
  cases e : w.cps.toList with
  | nil=>intro c hc; cases hc
  | cons c cs=>
    rw [e] at h
    have h : (figB c && cs.all figB && (decide (c ≠ 48) || cs.isEmpty)) = true:=h
    simp only [Bool.and_eq_true,List.all_eq_true] at h
    intro d hd
    have : figB d = true:=by
      rcases List.mem_cons.mp hd with rfl | hd
      · exact h.1.1
      · exact h.1.2 d hd
    unfold figB at this
    simp only [Bool.and_eq_true,decide_eq_true_eq] at this
    exact this
theorem read_row_ok {x : Str} (hl : x.length <= 999999) (S : Store) : F_read_row [.str x] S = if (wdsT x).all figT = true then .ok (rwP ((wdsT x).map numT)) S else .exc ⟨"NoText",none⟩ S:=by
  have hx : x.length <= 1000000:=by omega
  have hm : (wdsT x).length <= 1000000:=Nat.le_trans (split_many (show 1 <= (Str.ofString " ").length by decide)) (by omega)
  have hw : ∀ w ∈ wdsT x,w.length <= 1000000:=fun w h=>Nat.le_trans (split_mem h) hx
  have e1:=split_ok (m:=mVar 0) (Γ:=[some (.str x),none]) (S:=S) (x:=x) (sep:=Str.ofString " ") rfl (by decide) hx
  have c1:=compG_on (ga:=gaName 0) (me:=e_read_row_1) (Γ0:=capG [none] [some (.str x),some (.lst ((wdsT x).map .str))]) (g:=PV.str) (f:=fun w=>PV.bl (figT w)) (ys:=wdsT x) (wOk_nil S) fun w hm=>⟨[some (.str w)],rfl,call_ok (n:=1) (cons_ok rfl rfl) rfl (figures_is (hw w hm) S)⟩
  have b1 : cBls (fun ns=>.bl (ns.all id)) S [.lst ((wdsT x).map fun w=>PV.bl (figT w))] = .ok (.bl ((wdsT x).all figT)) S:=by
    show (match (some ((wdsT x).map fun w=>PV.bl (figT w))).bind blsOf with | some ns=>Res.ok (PV.bl (ns.all id)) S | none=>.stuck) = _
    rw [Option.bind_some,bls_map]
    show Res.ok (PV.bl (((wdsT x).map figT).all id)) S = _
    rw [List.all_map]
    rfl
  by_cases q : (wdsT x).all figT = true
  · rw [if_pos q]
    rw [q] at b1
    have c2:=compG_on (ga:=gaName 0) (me:=e_read_row_2) (Γ0:=capG [none] [some (.str x),some (.lst ((wdsT x).map .str))]) (g:=PV.str) (f:=fun w=>PV.int (numT w : Nat)) (ys:=wdsT x) (wOk_nil S) fun w hm=>⟨[some (.str w)],rfl,call_ok (n:=1) (cons_ok rfl rfl) rfl (number_ok (hw w hm) (figT_all (List.all_eq_true.mp q w hm)) S)⟩
    have e2 : m_read_row [some (.str x),none] S = .rt (rwP ((wdsT x).map numT)) S:=by
      refine seq_nx (set_ok e1) (seq_nx (if_f (not_ok (b:=true) (tb_ok (bi_ok (cons_ok (val_ok (comp_ok (sq_ok rfl rfl (by rw [List.length_map]; exact hm)) c1)) rfl) b1))) rfl) (ret_ok (bi_ok (cons_ok (val_ok (comp_ok (sq_ok rfl rfl (by rw [List.length_map]; exact hm)) c2)) rfl) ?_)))
      show Res.ok (PV.tup ((wdsT x).map fun w=>PV.int (numT w : Nat))) S = _
      unfold rwP
      rw [List.map_map]; rfl
    have:=callF_rt (nl:=2) (ps:=[.str x]) e2
    show callF m_read_row 2 _ _ = _
    rw [this]
    exact fin_good (by simp [good,rwP])
  · rw [if_neg q]
    rw [Bool.eq_false_iff.mpr q] at b1
    have e2 : m_read_row [some (.str x),none] S = .exc ⟨"NoText",none⟩ S:=by
      exact seq_nx (set_ok e1) (seq_x (if_t (not_ok (b:=false) (tb_ok (bi_ok (cons_ok (val_ok (comp_ok (sq_ok rfl rfl (by rw [List.length_map]; exact hm)) c1)) rfl) b1))) rfl))
    exact callF_x (nl:=2) (ps:=[.str x]) e2
def rowsT (x : Str) : List Str:=Txt.split x (Str.ofString " / ")
def tabT (x : Str) : List (List Nat):=(rowsT x).map fun r=>(wdsT r).map numT
def goodT (x : Str) : Bool:=(rowsT x).all fun r=>(wdsT r).all figT
theorem compG_x {α : Type} (g f : α -> PV) {ga : GA} {me : ME} {w : Wt} {Γ0 : Gam} {st : Store} {ex : Exc} (p : α -> Bool) (hw : wOk w st) {ys : List α} (h : ∀ y ∈ ys,∃ Γ1,ga (g y) Γ0 = some Γ1 /\ me Γ1 st = if p y = true then .ok (f y) st else .exc ex st) :
    compG ga mTrue me w Γ0 (ys.map g) st = if ys.all p = true then .ok (ys.map f) st else .exc ex st:=by
  induction ys with
  | nil=>simp [compG,hw]
  | cons y ys ih=>
    obtain ⟨Γ1,h1,h2⟩:=h y List.mem_cons_self
    have ih:=ih fun z hz=>h z (List.mem_cons_of_mem _ hz)
    rw [List.map_cons,compG,if_pos hw,h1,List.all_cons]
    by_cases q : p y = true
    · rw [if_pos q] at h2
      by_cases q2 : ys.all p = true
      · rw [if_pos q2] at ih
        simp [mTrue,h2,ih,q,q2,Res.bind]
      · rw [if_neg q2] at ih
        simp [mTrue,h2,ih,q,q2,Res.bind]
    · rw [if_neg q] at h2
      simp [mTrue,h2,q,Res.bind]
theorem figsB_of {w : Str} (h : figT w = true) (hl : w.length <= 640) : figsB w = true:=by
  have lx : w.length = w.cps.toList.length:=by rw [Array.length_toList]; rfl
  unfold figT at h
  unfold figsB
  cases e : w.cps.toList with
  | nil=>rw [e] at h; cases h
  | cons c cs=>
    rw [e] at h lx
    have h : (figB c && cs.all figB && (decide (c ≠ 48) || cs.isEmpty)) = true:=h
    show (figB c && cs.all figB && (decide (c ≠ 48) || cs.isEmpty) && decide (cs.length < 640)) = true
    rw [h,Bool.true_and,decide_eq_true_iff]
    simp at lx
    omega
theorem int_ok {w : Str} (h : figT w = true) (hl : w.length <= 640) (S : Store) : cIntS S [.str w] = .ok (.int (numT w : Nat)) S:=by
  unfold cIntS
  exact if_pos (figsB_of h hl)
theorem ten_cps : (Str.ofString "0123456789").cps.toList = [48,49,50,51,52,53,54,55,56,57]:=by decide +kernel
theorem in_ok (c : Nat) (S : Store) : oInS false S (.str ⟨#[c]⟩) (.str "0123456789") = .ok (.bl (figB c)) S:=by
  show Res.ok (PV.bl ((!(Builtin.Str.occurrences (Str.ofString "0123456789") ⟨#[c]⟩ 0 (Str.ofString "0123456789").length 1).isEmpty) != false)) S = _
  rw [StrLaws.found_one,ten_cps,Bool.bne_false]
  congr 2
  unfold figB
  rw [Bool.eq_iff_iff,decide_eq_true_iff,Bool.and_eq_true,decide_eq_true_iff,decide_eq_true_iff]
  simp only [List.mem_cons,List.not_mem_nil,or_false]
  omega
theorem signs_in {x : Str} (hl : x.length <= 1000000) {Γ : Gam} {m : ME} {cap : List (Option Nat)} {S : Store} (hm : m Γ S = .ok (.str x) S) (hcap : capG cap Γ = [none]) :
    mVal (mCompN cap (gaName 0) (mStrI m) mTrue (mOp (oInS false) (mVar 0) (mC (.str "0123456789")))) Γ S = .ok (.lst (x.cps.toList.map fun c=>.bl (figB c))) S:=
  val_ok (comp_ok (strI_ok hm hl) (by rw [hcap]; exact compG_on (g:=fun c : Nat=>PV.str ⟨#[c]⟩) (f:=fun c=>.bl (figB c)) (wOk_nil S) fun c _=>⟨_,rfl,op_ok rfl rfl (in_ok c S)⟩))
theorem nof {α : Type} (f : α -> Bool) (l : List α) (S : Store) : oIn true S (.bl false) (.lst (l.map fun c=>.bl (f c))) = .ok (.bl (l.all f)) S:=by
  show (if good dep (.bl false) = true /\ (l.map fun c=>PV.bl (f c)).all (good dep) = true then Res.ok (PV.bl (((l.map fun c=>PV.bl (f c)).any fun y=>peq y (.bl false)) != true)) S else .stuck) = _
  rw [if_pos ⟨rfl,by rw [List.all_map]; exact List.all_eq_true.mpr fun _ _=>rfl⟩]
  congr 2
  induction l with
  | nil=>rfl
  | cons c l ih=>
    rw [List.map_cons,List.any_cons,List.all_cons,<- ih]
    cases f c
    · rfl
    · rw [show peq (.bl true) (.bl false) = false from rfl,Bool.false_or,Bool.true_and]
theorem andE {a b : ME} {Γ : Gam} {S : Store} {x y : Bool} (h : a Γ S = .ok (.bl x) S) (h2 : x = true -> b Γ S = .ok (.bl y) S) : mAnd a b Γ S = .ok (.bl (x && y)) S:=by
  unfold mAnd
  rw [h,bind_ok]
  cases x
  · rfl
  · exact h2 rfl
theorem ix0 {w : Str} {d : Nat} {ds : List Nat} (e : w.cps.toList = d :: ds) (hl : w.length <= 1000000) (S : Store) : oIxS S (.str w) (.int 0) = .ok (.str ⟨#[d]⟩) S:=by
  show (match atI w.cps.toList 0 with | some c=>if w.length <= lim then Res.ok (PV.str ⟨#[c]⟩) S else .stuck | none=>.stuck) = _
  rw [e,show atI (d :: ds) 0 = some d by
    have : (0 : Int) < ((d :: ds).length : Nat):=by simp
    unfold atI ixN; rw [if_pos (Int.le_refl 0),if_pos this]; rfl]
  show (if w.length <= lim then Res.ok (PV.str ⟨#[d]⟩) S else .stuck) = _
  rw [if_pos (show w.length <= lim from hl)]
theorem one_eq (d e : Nat) : ((⟨#[d]⟩ : Str) = ⟨#[e]⟩) <-> d = e:=by rw [str_one]; simp
theorem aword_t {a b c : Option PV} {g : Option PV} {L : Nat} {w : Str} (h : figT w = true) (hl : w.length <= 640) {S : Store} {xs : List PV} (hL : S[L]? = some (.lst xs)) (hx : xs.length < 1000000) :
    b__law_areading_2 [a,b,c,some (.ref L),some (.str w),g] S = .nx [a,b,c,some (.ref L),some (.str w),some (.bl true)] (S.set L (.lst (xs ++ [.int (numT w : Nat)]))):=by
  have h':=h
  unfold figT at h'
  have hlw : w.length <= 1000000:=by omega
  cases e : w.cps.toList with
  | nil=>rw [e] at h'; cases h'
  | cons d ds=>
    rw [e] at h'
    have h' : (figB d && ds.all figB && (decide (d ≠ 48) || ds.isEmpty)) = true:=h'
    have hall : w.cps.toList.all figB = true:=by rw [e,List.all_cons]; exact (Bool.and_eq_true _ _ ▸ h').1
    have hne : ¬ w = Str.ofString "" := fun z=>by rw [z] at e; cases e
    have e1 : mAnd (mOp oNe (mVar 4) (mC (.str ""))) (mOp (oIn true) (mC (.bl false)) (mVal (mCompN [none] (gaName 0) (mStrI (mVar 4)) mTrue e__law_areading_1))) [a,b,c,some (.ref L),some (.str w),g] S = .ok (.bl true) S:=by
      refine (andE (x:=true) (y:=w.cps.toList.all figB) ((op_ok rfl rfl (neS S w (Str.ofString ""))).trans (by rw [decide_eq_false hne]; rfl)) fun _=>op_ok rfl (signs_in hlw rfl rfl) (nof figB _ S)).trans ?_
      rw [hall]; rfl
    have hz : (decide (d ≠ 48) || ds.isEmpty) = true:=(Bool.and_eq_true _ _ ▸ h').2
    refine seq_nx (set_ok e1) (seq_nx (if_f (or_f (not_ok (b:=true) rfl) ?_) rfl) (app_ok rfl (lof hL) (cons_ok (bi_ok rfl (int_ok h hl S)) rfl) (app_lst hL hx _)))
    have k1:=eqS S ⟨#[d]⟩ ⟨#[48]⟩
    by_cases z : d = 48
    · have hd : ds = []:=by
        rw [decide_eq_false (by omega),Bool.false_or,List.isEmpty_iff] at hz
        exact hz
      have hw : w = ⟨#[48]⟩:=(str_one w 48).mpr (by rw [e,z,hd])
      rw [decide_eq_true ((one_eq d 48).mpr z)] at k1
      have k2:=neS S w ⟨#[48]⟩
      rw [decide_eq_true hw] at k2
      exact and_t (tb_ok (op_ok (op_ok rfl rfl (ix0 e hlw S)) rfl k1)) (tb_ok (op_ok rfl rfl k2))
    · rw [decide_eq_false (fun q=>z ((one_eq d 48).mp q))] at k1
      exact and_f (tb_ok (op_ok (op_ok rfl rfl (ix0 e hlw S)) rfl k1))
theorem aword_f {a b c : Option PV} {g : Option PV} {L : Nat} {w : Str} (h : figT w = false) (hl : w.length <= 1000000) (S : Store) : b__law_areading_2 [a,b,c,some (.ref L),some (.str w),g] S = .rt .non S:=by
  have e1 : mAnd (mOp oNe (mVar 4) (mC (.str ""))) (mOp (oIn true) (mC (.bl false)) (mVal (mCompN [none] (gaName 0) (mStrI (mVar 4)) mTrue e__law_areading_1))) [a,b,c,some (.ref L),some (.str w),g] S = .ok (.bl (!decide (w = Str.ofString "") && w.cps.toList.all figB)) S:=
    andE (op_ok rfl rfl (neS S w (Str.ofString ""))) fun _=>op_ok rfl (signs_in hl rfl rfl) (nof figB _ S)
  by_cases q : (!decide (w = Str.ofString "") && w.cps.toList.all figB) = true
  · rw [q] at e1
    rw [Bool.and_eq_true] at q
    unfold figT at h
    cases e : w.cps.toList with
    | nil=>
      have : w = Str.ofString "" := by
        rw [<- tx_of w,e]; rfl
      rw [decide_eq_true this] at q
      cases q.1
    | cons d ds=>
      rw [e] at h
      have h : (figB d && ds.all figB && (decide (d ≠ 48) || ds.isEmpty)) = false:=h
      have q2:=q.2
      rw [e,List.all_cons] at q2
      rw [q2,Bool.true_and,Bool.or_eq_false_iff] at h
      have hd : d = 48:=by have:=of_decide_eq_false h.1; omega
      have hw : ¬ w = ⟨#[48]⟩:=fun z=>by
        rw [str_one,e] at z
        cases z
        cases h.2
      have k1:=eqS S ⟨#[d]⟩ ⟨#[48]⟩
      rw [decide_eq_true ((one_eq d 48).mpr hd)] at k1
      have k2:=neS S w ⟨#[48]⟩
      rw [decide_eq_false hw] at k2
      exact seq_nx (set_ok e1) (seq_rt (if_t (or_f (not_ok (b:=true) rfl) (and_t (tb_ok (op_ok (op_ok rfl rfl (ix0 e hl S)) rfl k1)) (tb_ok (op_ok rfl rfl k2)))) rfl))
  · rw [Bool.eq_false_iff.mpr q] at e1
    exact seq_nx (set_ok e1) (seq_rt (if_t (or_t (not_ok (b:=false) rfl)) rfl))
theorem is_whole_int (i : Int) (st : Store) : F_is_whole [.int i] st = .ok (.bl true) st:=by
  simp [F_is_whole,callF,m_is_whole,isI,tyN]
def jn (sep : List Nat) : List (List Nat) -> List Nat
  | []=>[]
  | [q]=>q
  | q :: r :: rs=>q ++ sep ++ jn sep (r :: rs)
theorem jn_cons {sep q : List Nat} {Q : List (List Nat)} (h : Q ≠ []) : jn sep (q :: Q) = q ++ sep ++ jn sep Q:=by
  cases Q with
  | nil=>exact absurd rfl h
  | cons _ _=>rfl
theorem join_jn (sep : Str) : ∀ Q : List (List Nat),(Txt.join sep (Q.map tx)).cps.toList = jn sep.cps.toList Q:=fun Q=>by
  show (Builtin.Str.glued sep (Q.map tx)).cps.toList = _
  rw [StrLaws.glued_eq_join]
  induction Q with
  | nil=>rfl
  | cons q Q ih=>
    cases Q with
    | nil=>exact tx_cps q
    | cons r rs=>
      show (tx q ++ sep ++ Str.join sep ((r :: rs).map tx)).cps.toList = _
      rw [jn_cons (by simp),<- ih]
      simp [Str.cps_append,tx]
theorem at_in {x y : Str} {u v : List Nat} {d k : Nat} (hy : y.cps.toList = u ++ d :: v) (h : StrLaws.At x y x.length k) : x.cps.toList[k + u.length]? = some d:=by
  have h2:=h.2
  rw [StrLaws.subAt_eq] at h2
  have h2:=eq_of_beq h2
  have hl : y.length = (u ++ d :: v).length:=by rw [<- hy,Array.length_toList]; rfl
  have : ((x.cps.toList.drop k).take y.length)[u.length]? = some d:=by rw [h2,hy]; simp
  rw [List.getElem?_take_of_lt (by rw [hl]; simp),List.getElem?_drop] at this
  exact this
theorem parts_of {x y : Str} {u v : List Nat} {d : Nat} (hy : y.cps.toList = u ++ d :: v) (hu : d ∉ u) : ∀ (Q : List (List Nat)) (a : Nat) (cuts : List Nat) (f : Nat),Q ≠ [] -> (∀ q ∈ Q,d ∉ q) -> x.cps.toList.drop a = jn y.cps.toList Q -> a <= x.length ->
    StrLaws.ChainG x y x.length a cuts f -> (∀ k,f <= k -> ¬ StrLaws.At x y x.length k) -> StrLaws.partsFrom x y.length a cuts = Q.map tx
  | [],_,_,_,h,_,_,_,_,_=>absurd rfl h
  | [q],a,cuts,f,_,hq,hx,ha,hc,hf=>by
    have no : ∀ k,a <= k -> ¬ StrLaws.At x y x.length k:=fun k hk hA=>by
      have h1:=at_in hy hA
      refine hq q (by simp) ?_
      have hx : x.cps.toList.drop a = q:=hx
      rw [<- hx]
      refine List.mem_of_getElem? (i:=k + u.length - a) ?_
      rw [List.getElem?_drop,show a + (k + u.length - a) = k + u.length by omega]
      exact h1
    cases cuts with
    | nil=>
      show [Builtin.Str.strSub x a x.length] = [tx q]
      congr 1
      apply Str.ext'
      apply Array.toList_inj.mp
      rw [StrLaws.strSub_toList,hx,tx_cps]
      refine List.take_of_length_le ?_
      have:=congrArg List.length hx
      rw [List.length_drop,Array.length_toList] at this
      show q.length <= _
      have hl : (jn y.cps.toList [q]).length = q.length:=rfl
      have : x.cps.size = x.length:=rfl
      omega
    | cons c r=>exact absurd hc.2.1 (no c hc.1)
  | q :: q2 :: Q,a,cuts,f,_,hq,hx,ha,hc,hf=>by
    rw [jn_cons (by simp)] at hx
    have hly : y.cps.toList.length = y.length:=by rw [Array.length_toList]; rfl
    have hlx : x.cps.toList.length = x.length:=by rw [Array.length_toList]; rfl
    have hlen:=congrArg List.length hx
    rw [List.length_drop,List.length_append,List.length_append,hlx,hly] at hlen
    have hd : x.cps.toList.drop (a + q.length) = y.cps.toList ++ jn y.cps.toList (q2 :: Q):=by
      rw [<- List.drop_drop,hx,List.append_assoc,List.drop_left]
    have hA : StrLaws.At x y x.length (a + q.length):=by
      refine ⟨by omega,?_⟩
      rw [StrLaws.subAt_eq,hd,<- hly,List.take_left]
      exact beq_self_eq_true _
    have no : ∀ k,a <= k -> k < a + q.length -> ¬ StrLaws.At x y x.length k:=fun k h1 h2 hA=>by
      have h3:=at_in hy hA
      have h4 : (q ++ y.cps.toList ++ jn y.cps.toList (q2 :: Q))[k + u.length - a]? = some d:=by
        rw [<- hx,List.getElem?_drop,show a + (k + u.length - a) = k + u.length by omega]
        exact h3
      rw [List.append_assoc] at h4
      by_cases z : k + u.length - a < q.length
      · rw [List.getElem?_append_left z] at h4
        exact hq q (by simp) (List.mem_of_getElem? h4)
      · rw [List.getElem?_append_right (by omega),hy,List.append_assoc,List.getElem?_append_left (by omega)] at h4
        exact hu (List.mem_of_getElem? h4)
    cases cuts with
    | nil=>
      have e : f = a:=hc
      exact absurd hA (hf _ (by omega))
    | cons c r=>
      obtain ⟨c1,c2,c3,c4⟩:=hc
      have ec : c = a + q.length:=by
        by_cases z : c < a + q.length
        · exact absurd c2 (no c c1 z)
        · by_cases z2 : a + q.length < c
          · exact absurd hA (c3 _ (by omega) z2)
          · omega
      subst ec
      have ih:=parts_of hy hu (q2 :: Q) (a + q.length + y.length) r f (by simp) (fun p hp=>hq p (List.mem_cons_of_mem _ hp)) (by
        rw [<- List.drop_drop,hd,<- hly,List.drop_left]) (by omega) c4 hf
      show Builtin.Str.strSub x a (a + q.length) :: StrLaws.partsFrom x y.length (a + q.length + y.length) r = tx q :: (q2 :: Q).map tx
      rw [ih]
      congr 1
      apply Str.ext'
      apply Array.toList_inj.mp
      rw [StrLaws.strSub_toList,hx,tx_cps,show a + q.length - a = q.length by omega,List.append_assoc,List.take_left]
theorem split_jn {y : Str} {u v : List Nat} {d : Nat} (hy : y.cps.toList = u ++ d :: v) (hu : d ∉ u) (hk : Builtin.Str.strKind y <= Builtin.Str.strKind ⟨#[d]⟩) {Q : List (List Nat)} (hQ : Q ≠ []) (hq : ∀ q ∈ Q,d ∉ q) : Txt.split (Txt.join y (Q.map tx)) y = Q.map tx:=by
  obtain ⟨x,ex⟩ : ∃ x,Txt.join y (Q.map tx) = x:=⟨_,rfl⟩
  have hx : x.cps.toList = jn y.cps.toList Q:=by rw [<- ex]; exact join_jn y Q
  have hly : y.length = u.length + (v.length + 1):=by
    have : y.cps.toList.length = y.length:=by rw [Array.length_toList]; rfl
    rw [<- this,hy]; simp
  obtain ⟨f,hG,hn⟩:=StrLaws.occ_tight x y (by omega)
  have key:=parts_of hy hu Q 0 _ f hQ hq (by rw [List.drop_zero]; exact hx) (Nat.zero_le _) hG hn
  rw [ex]
  have one : ∀ q,Q = [q] -> [x] = Q.map tx:=fun q e=>by
    rw [<- ex,e]; rfl
  unfold Txt.split
  split
  · rename_i hc
    cases Q with
    | nil=>exact absurd rfl hQ
    | cons q Q=>
      cases Q with
      | nil=>exact one q rfl
      | cons q2 Q=>
        exfalso
        rw [jn_cons (by simp)] at hx
        rw [Bool.or_eq_true,decide_eq_true_eq,decide_eq_true_eq] at hc
        rcases hc with h | h
        · have:=congrArg List.length hx
          rw [List.length_append,List.length_append] at this
          have e1 : x.cps.toList.length = x.length:=by rw [Array.length_toList]; rfl
          have e2 : y.cps.toList.length = y.length:=by rw [Array.length_toList]; rfl
          omega
        · refine StrLaws.kind_free x d (Nat.lt_of_lt_of_le h hk) ?_
          rw [hx,hy]; simp
  · split
    · rename_i hc
      rw [List.isEmpty_iff] at hc
      rw [hc] at key
      have key : [Builtin.Str.strSub x 0 x.length] = Q.map tx:=key
      rw [StrLaws.sub_whole] at key
      exact key
    · rw [StrLaws.partsBetween_eq]
      exact key
theorem split_ne (x y : Str) : Txt.split x y ≠ []:=by
  unfold Txt.split
  split
  · simp
  · split
    · simp
    · rw [StrLaws.partsBetween_eq]
      obtain ⟨p,r,e⟩:=StrLaws.partsFrom_ne x y.length 0 (Builtin.Str.occurrences x y 0 x.length (x.length + 1))
      rw [e]; simp
theorem fig_ne {c : Nat} (h : Fig c) : c ≠ 32 /\ c ≠ 47:=by unfold Fig at h; omega
theorem wds_rw {r : List Nat} (h : r ≠ []) : wdsT (rwT r) = r.map fun n=>tx (dg n):=by
  have e : (r.map fun n=>tx (dg n)) = (r.map dg).map tx:=by rw [List.map_map]; rfl
  unfold wdsT rwT
  rw [e]
  refine split_jn (u:=[]) (v:=[]) (d:=32) rfl (by simp) (by decide +kernel) (by simpa using h) fun q hq z=>?_
  obtain ⟨n,_,rfl⟩:=List.mem_map.mp hq
  exact (fig_ne (dg_fig n _ z)).1 rfl
theorem mem_jn {sep : List Nat} {c : Nat} : ∀ {Q : List (List Nat)},c ∈ jn sep Q -> c ∈ sep \/ ∃ q ∈ Q,c ∈ q
  | [],h=>by cases h
  | [q],h=>.inr ⟨q,by simp,h⟩
  | q :: r :: Q,h=>by
    rw [jn_cons (by simp),List.append_assoc,List.mem_append,List.mem_append] at h
    rcases h with h | h | h
    · exact .inr ⟨q,by simp,h⟩
    · exact .inl h
    · rcases mem_jn h with h | ⟨p,hp,hc⟩
      · exact .inl h
      · exact .inr ⟨p,List.mem_cons_of_mem _ hp,hc⟩
theorem rw_jn (r : List Nat) : (rwT r).cps.toList = jn [32] (r.map dg):=by
  have e : (r.map fun n=>tx (dg n)) = (r.map dg).map tx:=by rw [List.map_map]; rfl
  unfold rwT
  rw [e,join_jn]; rfl
theorem tb_jn (t : List (List Nat)) : (tbT t).cps.toList = jn [32,47,32] (t.map fun r=>jn [32] (r.map dg)):=by
  have e : t.map rwT = (t.map fun r=>jn [32] (r.map dg)).map tx:=by
    rw [List.map_map]
    exact List.map_congr_left fun r _=>by show rwT r = tx (jn [32] (r.map dg)); rw [<- rw_jn,tx_of]
  unfold tbT
  rw [e,join_jn]; rfl
theorem rows_tb {t : List (List Nat)} (h : t ≠ []) : rowsT (tbT t) = t.map rwT:=by
  have e : t.map rwT = (t.map fun r=>jn [32] (r.map dg)).map tx:=by
    rw [List.map_map]
    exact List.map_congr_left fun r _=>by show rwT r = tx (jn [32] (r.map dg)); rw [<- rw_jn,tx_of]
  unfold rowsT tbT
  rw [e]
  refine split_jn (u:=[32]) (v:=[32]) (d:=47) rfl (by simp) (by decide +kernel) (by simpa using h) fun q hq z=>?_
  obtain ⟨r,_,rfl⟩:=List.mem_map.mp hq
  rcases mem_jn z with z | ⟨p,hp,z⟩
  · simp at z
  · obtain ⟨n,_,rfl⟩:=List.mem_map.mp hp
    exact (fig_ne (dg_fig n _ z)).2 rfl
theorem fig_b {c : Nat} (h : Fig c) : figB c = true:=by
  unfold figB
  unfold Fig at h
  rw [decide_eq_true h.1,decide_eq_true h.2]; rfl
theorem figT_dg (n : Nat) : figT (tx (dg n)) = true:=by
  obtain ⟨c,cs,e,hc⟩:=dg_head n
  have hf:=dg_fig n
  unfold figT
  rw [tx_cps,e]
  rw [e] at hf
  show (figB c && cs.all figB && (decide (c ≠ 48) || cs.isEmpty)) = true
  rw [fig_b (hf c (by simp)),List.all_eq_true.mpr fun d hd=>fig_b (hf d (by simp [hd])),Bool.true_and,Bool.true_and]
  by_cases z : c = 48
  · rw [hc z]; simp
  · rw [decide_eq_true z]; rfl
theorem numT_dg (n : Nat) : numT (tx (dg n)) = n:=by unfold numT; rw [tx_cps,figN_dg]
theorem good_tb {t : List (List Nat)} (h : t ≠ []) (hr : ∀ r ∈ t,r ≠ []) : goodT (tbT t) = true:=by
  unfold goodT
  rw [rows_tb h,List.all_map,List.all_eq_true]
  intro r hm
  show (wdsT (rwT r)).all figT = true
  rw [wds_rw (hr r hm),List.all_map,List.all_eq_true]
  exact fun n _=>figT_dg n
theorem tab_tb {t : List (List Nat)} (h : t ≠ []) (hr : ∀ r ∈ t,r ≠ []) : tabT (tbT t) = t:=by
  unfold tabT
  rw [rows_tb h,List.map_map]
  refine (List.map_congr_left fun r hm=>?_).trans (List.map_id' t)
  show (wdsT (rwT r)).map numT = r
  rw [wds_rw (hr r hm),List.map_map]
  exact (List.map_congr_left fun n _=>numT_dg n).trans (List.map_id' r)
def Rn (k : Nat) (l : List Nat) : Prop:=∀ a m b,l = a ++ m ++ b -> 32 ∉ m -> m.length <= k
theorem Rn.up {k j : Nat} {l : List Nat} (h : Rn k l) (hj : k <= j) : Rn j l:=fun a m b e n=>Nat.le_trans (h a m b e n) hj
theorem Rn.len (l : List Nat) : Rn l.length l:=fun a m b e _=>by rw [e]; simp; omega
theorem Rn.fac {k : Nat} {a m b : List Nat} (h : Rn k (a ++ m ++ b)) : Rn k m:=fun a' m' b' e n=>h (a ++ a') m' (b' ++ b) (by rw [e]; simp) n
theorem Rn.take {k : Nat} {l : List Nat} (h : Rn k l) (n : Nat) : Rn k (l.take n):=Rn.fac (a:=[]) (b:=l.drop n) (by rw [List.nil_append,List.take_append_drop]; exact h)
theorem Rn.drop {k : Nat} {l : List Nat} (h : Rn k l) (n : Nat) : Rn k (l.drop n):=Rn.fac (a:=l.take n) (b:=[]) (by rw [List.append_nil,List.take_append_drop]; exact h)
theorem Rn.app {k j : Nat} {p q : List Nat} (h : Rn k p) (h2 : Rn j q) : Rn (k + j) (p ++ q):=fun a m b e n=>by
  rw [List.append_assoc] at e
  rcases List.append_eq_append_iff.mp e with ⟨c,e1,e2⟩ | ⟨c,e1,e2⟩
  · have:=h2 c m b (by rw [e2,List.append_assoc]) n
    omega
  · rcases List.append_eq_append_iff.mp e2 with ⟨c',e3,e4⟩ | ⟨c',e3,e4⟩
    · have:=h a m c' (by rw [e1,e3,List.append_assoc]) n
      omega
    · have h3:=h a c [] (by rw [e1]; simp) (fun z=>n (by rw [e3]; simp [z]))
      have h4:=h2 [] c' b (by rw [e4]; simp) (fun z=>n (by rw [e3]; simp [z]))
      rw [e3,List.length_append]; omega
theorem Rn.mid {k : Nat} {p q : List Nat} (h : Rn k p) (h2 : Rn k q) : Rn k (p ++ 32 :: q):=fun a m b e n=>by
  rw [List.append_assoc] at e
  rcases List.append_eq_append_iff.mp e with ⟨c,e1,e2⟩ | ⟨c,e1,e2⟩
  · cases c with
    | nil=>
      rw [List.nil_append] at e2
      cases m with
      | nil=>exact Nat.zero_le _
      | cons d m=>
        rw [List.cons_append,List.cons.injEq] at e2
        exact absurd (by rw [<- e2.1]; simp) n
    | cons d c=>
      rw [List.cons_append,List.cons.injEq] at e2
      exact h2 c m b (by rw [e2.2,List.append_assoc]) n
  · rcases List.append_eq_append_iff.mp e2 with ⟨c',e3,e4⟩ | ⟨c',e3,e4⟩
    · exact h a m c' (by rw [e1,e3,List.append_assoc]) n
    · cases c' with
      | nil=>exact h a m [] (by rw [e1,e3]; simp) n
      | cons d c'=>
        rw [List.cons_append,List.cons.injEq] at e4
        exact absurd (by rw [e3,<- e4.1]; simp) n
theorem Rn.jn1 {k : Nat} : ∀ {Q : List (List Nat)},(∀ q ∈ Q,Rn k q) -> Rn k (jn [32] Q)
  | [],_=>fun a m b e _=>by
    have:=congrArg List.length e
    rw [List.length_append,List.length_append] at this
    have z : (jn [32] []).length = 0:=rfl
    rw [z] at this
    omega
  | [q],h=>h q (by simp)
  | q :: r :: Q,h=>by
    rw [jn_cons (by simp),List.append_assoc]
    exact (h q (by simp)).mid (Rn.jn1 fun p hp=>h p (List.mem_cons_of_mem _ hp))
theorem Rn.jn3 {k : Nat} (hk : 1 <= k) : ∀ {Q : List (List Nat)},(∀ q ∈ Q,Rn k q) -> Rn k (jn [32,47,32] Q)
  | [],_=>fun a m b e _=>by
    have:=congrArg List.length e
    rw [List.length_append,List.length_append] at this
    have z : (jn [32,47,32] []).length = 0:=rfl
    rw [z] at this
    omega
  | [q],h=>h q (by simp)
  | q :: r :: Q,h=>by
    rw [jn_cons (by simp),List.append_assoc]
    exact (h q (by simp)).mid (((Rn.len [47]).up hk).mid (Rn.jn3 hk fun p hp=>h p (List.mem_cons_of_mem _ hp)))
theorem rn_tb {t : List (List Nat)} (h : ∀ r ∈ t,Rw r) : Rn 36 (tbT t).cps.toList:=by
  rw [tb_jn]
  refine Rn.jn3 (by decide) fun q hq=>?_
  obtain ⟨r,hr,rfl⟩:=List.mem_map.mp hq
  refine Rn.jn1 fun p hp=>?_
  obtain ⟨n,hn,rfl⟩:=List.mem_map.mp hp
  exact (Rn.len _).up (dg_len (by decide) ((h r hr).2 n hn))
theorem join_fac (y : Str) {w : Str} : ∀ {l : List Str},w ∈ l -> ∃ a b,(Str.join y l).cps.toList = a ++ w.cps.toList ++ b
  | [x],h=>⟨[],[],by rw [List.mem_singleton.mp h]; simp [Str.join]⟩
  | x :: z :: l,h=>by
    have e : (Str.join y (x :: z :: l)).cps.toList = x.cps.toList ++ y.cps.toList ++ (Str.join y (z :: l)).cps.toList:=by
      show (x ++ y ++ Str.join y (z :: l)).cps.toList = _
      simp [Str.cps_append]
    rw [e]
    rcases List.mem_cons.mp h with rfl | h
    · exact ⟨[],y.cps.toList ++ (Str.join y (z :: l)).cps.toList,by simp⟩
    · obtain ⟨a,b,q⟩:=join_fac y h
      exact ⟨x.cps.toList ++ y.cps.toList ++ a,b,by rw [q]; simp⟩
theorem split_fac {x y w : Str} (h : w ∈ Txt.split x y) : ∃ a b,x.cps.toList = a ++ w.cps.toList ++ b:=by
  have:=join_fac y h
  rwa [StrLaws.join_split] at this
theorem rn_word {x r w : Str} {k : Nat} (h : Rn k x.cps.toList) (hr : r ∈ rowsT x) (hw : w ∈ wdsT r) (hf : figT w = true) : w.length <= k:=by
  obtain ⟨a,b,e⟩:=split_fac hr
  rw [e] at h
  have h:=h.fac
  obtain ⟨a',b',e'⟩:=split_fac hw
  have:=h a' _ b' e' fun z=>(fig_ne (figT_all hf _ z)).1 rfl
  rwa [Array.length_toList] at this
theorem val_x {m : ML} {Γ : Gam} {S S1 : Store} {x : Exc} (h : m Γ S = .exc x S1) : mVal m Γ S = .exc x S1:=by rw [mVal_eq,h]; rfl
theorem cons_x {m : ME} {mr : ML} {Γ : Gam} {S S1 : Store} {x : Exc} (h : m Γ S = .exc x S1) : mCons m mr Γ S = .exc x S1:=by rw [mCons_eq,h]; rfl
theorem bi_x {o : CF} {mr : ML} {Γ : Gam} {S S1 : Store} {x : Exc} (h : mr Γ S = .exc x S1) : mCall o mr Γ S = .exc x S1:=by rw [mCall_eq,h]; rfl
theorem set_x {i : Nat} {m : ME} {Γ : Gam} {S S1 : Store} {x : Exc} (h : m Γ S = .exc x S1) : mSet i m Γ S = .exc x S1:=by rw [mSet_eq,h]; rfl
theorem compX_ok {cap : List (Option Nat)} {ga : GA} {mi : MI} {me : ME} {Γ : Gam} {S S1 : Store} {xs : List PV} {w : Wt} {r : Res (List PV)} (h1 : mi Γ S = .ok (xs,w) S1) (h2 : compG ga mTrue me w (capG cap Γ) xs S1 = r) : mCompX cap ga mi me Γ S = r:=by unfold mCompX; rw [h1,bind_ok]; exact h2
theorem allB {α : Type} (f : α -> Bool) (l : List α) (S : Store) : cBls (fun ns=>.bl (ns.all id)) S [.lst (l.map fun w=>PV.bl (f w))] = .ok (.bl (l.all f)) S:=by
  show (match (some (l.map fun w=>PV.bl (f w))).bind blsOf with | some ns=>Res.ok (PV.bl (ns.all id)) S | none=>.stuck) = _
  rw [Option.bind_some,bls_map]
  show Res.ok (PV.bl ((l.map f).all id)) S = _
  rw [List.all_map]
  rfl
theorem isrow_n {r : List Nat} (hl : r.length <= 1000000) (n : Nat) (S : Store) : F_is_row [rwP r,.int (n : Nat)] S = .ok (.bl (decide (r.length = n + 1))) S:=by
  refine ret_b ?_
  show m_is_row [some (rwP r),some (.int (n : Nat))] S = _
  have hlen : mCall cLen (mCons (mVar 0) mNil) [some (rwP r),some (.int (n : Nat))] S = .ok (.int r.length) S:=bi_ok (S1:=S) (ps:=[rwP r]) rfl ((cLen_tup S _).trans (by rw [List.length_map]))
  by_cases q : r.length = n + 1
  · rw [decide_eq_true q]
    have t : tOrM (tNotM (toB (mIsI "tuple" (mVar 0)))) (toB (mOp oNe (mCall cLen (mCons (mVar 0) mNil)) (mOp oAdd (mVar 1) (mC (.int 1))))) [some (rwP r),some (.int (n : Nat))] S = .ok false S:=by
      refine or_f (not_ok (b:=true) (S1:=S) rfl) (tb_ok (op_ok hlen (op_ok rfl rfl (addi S _ _)) ?_))
      rw [q,show ((n : Int) + 1) = ((n + 1 : Nat) : Int) by omega]
      exact nei_f S _
    have c1:=compG_on (ga:=gaName 0) (me:=e_is_row_1) (Γ0:=capG [none] [some (rwP r),some (.int (n : Nat))]) (g:=fun n : Nat=>PV.int (n : Nat)) (f:=fun _=>PV.bl true) (ys:=r) (wOk_nil S) fun m _=>⟨[some (.int (m : Nat))],rfl,by
      refine (andE (x:=true) (y:=true) (call_ok (n:=1) (cons_ok rfl rfl) rfl (is_whole_int _ S)) fun _=>op_ok rfl rfl ?_)
      show Res.ok (PV.bl (decide ((0 : Int) <= (m : Nat)))) S = _
      rw [decide_eq_true (by omega)]⟩
    refine seq_nx (if_f t rfl) (ret_ok (bi_ok (cons_ok (val_ok (comp_ok (sq_ok rfl rfl (by rw [List.length_map]; exact hl)) c1)) rfl) ((allB (fun _=>true) r S).trans ?_)))
    rw [List.all_eq_true.mpr fun _ _=>rfl]
  · rw [decide_eq_false q]
    have t : tOrM (tNotM (toB (mIsI "tuple" (mVar 0)))) (toB (mOp oNe (mCall cLen (mCons (mVar 0) mNil)) (mOp oAdd (mVar 1) (mC (.int 1))))) [some (rwP r),some (.int (n : Nat))] S = .ok true S:=by
      refine or_f (not_ok (b:=true) (S1:=S) rfl) (tb_ok (op_ok hlen (op_ok rfl rfl (addi S _ _)) ?_))
      rw [show ((n : Int) + 1) = ((n + 1 : Nat) : Int) by omega]
      exact nei_t S q
    exact seq_rt (if_t t rfl)
def tabB (t : List (List Nat)) : Bool:=decide (t.length <= 8) && t.all fun r=>decide (r.length = t.length + 1)
theorem istab_n {t : List (List Nat)} (h1 : t ≠ []) (hl : t.length <= 1000000) (hr : ∀ r ∈ t,r.length <= 1000000) (S : Store) : F_is_table [tbP t] S = .ok (.bl (tabB t)) S:=by
  refine ret_b ?_
  show m_is_table [some (tbP t)] S = _
  have hlen : mCall cLen (mCons (mVar 0) mNil) [some (tbP t)] S = .ok (.int t.length) S:=bi_ok (S1:=S) (ps:=[tbP t]) rfl ((cLen_tup S _).trans (by rw [List.length_map]))
  have h1' : 1 <= t.length:=by cases t with | nil=>exact absurd rfl h1 | cons _ _=>simp
  have ch : mChain (oI fun a b=>.bl (decide (a <= b))) (oI fun a b=>.bl (decide (a <= b))) (mC (.int 1)) (mCall cLen (mCons (mVar 0) mNil)) (mC (.int 8)) [some (tbP t)] S = .ok (.bl (decide (t.length <= 8))) S:=by
    rw [mChain_eq]
    show ((Res.ok (PV.int 1) S).bind fun x st1=>(mCall cLen (mCons (mVar 0) mNil) [some (tbP t)] st1).bind fun y st2=>((oI fun a b=>.bl (decide (a <= b))) st2 x y).bind fun k st3=>selB k ((Res.ok (PV.int 8) st3).bind fun z st4=>(oI fun a b=>.bl (decide (a <= b))) st4 y z) (.ok (.bl false) st3)) = _
    rw [bind_ok,hlen,bind_ok]
    show (Res.ok (PV.bl (decide ((1 : Int) <= t.length))) S).bind _ = _
    rw [decide_eq_true (by omega),bind_ok]
    show Res.ok (PV.bl (decide ((t.length : Int) <= 8))) S = _
    congr 2
    exact decide_eq_decide.mpr (by omega)
  unfold tabB
  by_cases q : t.length <= 8
  · rw [decide_eq_true q,Bool.true_and]
    rw [decide_eq_true q] at ch
    have c1:=compG_on (ga:=gaName 0) (me:=e_is_table_1) (Γ0:=capG [none,some 0] [some (tbP t)]) (g:=rwP) (f:=fun r=>PV.bl (decide (r.length = t.length + 1))) (ys:=t) (wOk_nil S) fun r hm=>⟨[some (rwP r),some (tbP t)],rfl,call_ok (n:=2) (cons_ok rfl (cons_ok (bi_ok (S1:=S) (ps:=[tbP t]) rfl ((cLen_tup S _).trans (by rw [List.length_map]))) rfl)) rfl (isrow_n (hr r hm) t.length S)⟩
    exact seq_nx (if_f (or_f (not_ok (b:=true) (S1:=S) rfl) (not_ok (b:=true) (tb_ok ch))) rfl) (ret_ok (bi_ok (cons_ok (val_ok (comp_ok (sq_ok rfl rfl (by rw [List.length_map]; exact hl)) c1)) rfl) (allB _ t S)))
  · rw [decide_eq_false q,Bool.false_and]
    rw [decide_eq_false q] at ch
    exact seq_rt (if_t (or_f (not_ok (b:=true) (S1:=S) rfl) (not_ok (b:=false) (tb_ok ch))) rfl)
theorem tabT_ne (x : Str) : tabT x ≠ []:=by
  unfold tabT
  have:=split_ne x (Str.ofString " / ")
  unfold rowsT
  simpa using this
theorem row_len {x r : Str} (h : r ∈ rowsT x) : r.length <= x.length:=split_mem h
theorem rows_len (x : Str) : (rowsT x).length <= x.length + 1:=split_many (show 1 <= (Str.ofString " / ").length by decide +kernel)
theorem wds_len (r : Str) : (wdsT r).length <= r.length + 1:=split_many (show 1 <= (Str.ofString " ").length by decide +kernel)
theorem good_tbP (t : List (List Nat)) : good 12 (tbP t) = true:=by simp [good,tbP,rwP]
theorem read_table_ok {x : Str} (hl : x.length <= 999999) (S : Store) : F_read_table [.str x] S = if (goodT x && tabB (tabT x)) = true then .ok (tbP (tabT x)) S else .exc ⟨"NoText",none⟩ S:=by
  have e1:=split_ok (m:=mVar 0) (Γ:=[some (.str x),none]) (S:=S) (x:=x) (sep:=Str.ofString " / ") rfl (by decide +kernel) (by omega)
  have c1:=compG_x (ga:=gaName 0) (me:=e_read_table_1) (w:=[]) (st:=S) (Γ0:=capG [none] [some (.str x),none]) (ex:=⟨"NoText",none⟩) PV.str (fun r=>rwP ((wdsT r).map numT)) (fun r=>(wdsT r).all figT) (wOk_nil S) (ys:=rowsT x) fun r hm=>⟨[some (.str r)],rfl,by
    have h:=read_row_ok (x:=r) (Nat.le_trans (row_len hm) hl) S
    by_cases q : (wdsT r).all figT = true
    · rw [if_pos q] at h ⊢
      exact call_ok (n:=1) (cons_ok rfl rfl) rfl h
    · rw [if_neg q] at h ⊢
      exact callx (n:=1) (cons_ok rfl rfl) rfl h⟩
  have hr : (rowsT x).length <= 1000000:=Nat.le_trans (rows_len x) (by omega)
  have c2:=compX_ok (cap:=[none]) (me:=e_read_table_1) (sq_ok e1 (xs:=(rowsT x).map PV.str) (w:=[]) rfl (by rw [List.length_map]; exact hr)) c1
  have ht : (rowsT x).map (fun r=>rwP ((wdsT r).map numT)) = (tabT x).map rwP:=by unfold tabT; rw [List.map_map]; rfl
  rw [ht] at c2
  show callF m_read_table 2 _ _ = _
  by_cases q : goodT x = true
  · have c2:=c2.trans (if_pos q)
    have hit:=istab_n (tabT_ne x) (by unfold tabT; rw [List.length_map]; exact hr) (fun r hm=>by
      unfold tabT at hm
      obtain ⟨z,hz,rfl⟩:=List.mem_map.mp hm
      rw [List.length_map]
      have:=wds_len z
      have:=row_len hz
      omega) S
    by_cases q2 : tabB (tabT x) = true
    · rw [if_pos (by rw [q,q2]; rfl)]
      rw [q2] at hit
      have e2 : m_read_table [some (.str x),none] S = .rt (tbP (tabT x)) S:=
        seq_nx (set_ok (bi_ok (cons_ok (val_ok c2) rfl) rfl)) (seq_nx (if_f (not_ok (b:=true) (tb_ok (call_ok (n:=1) (cons_ok rfl rfl) rfl hit))) rfl) rfl)
      exact (callF_rt (nl:=2) (ps:=[.str x]) e2).trans (fin_good (good_tbP _))
    · rw [if_neg (by rw [q,Bool.true_and]; exact q2)]
      rw [Bool.eq_false_iff.mpr q2] at hit
      have e2 : m_read_table [some (.str x),none] S = .exc ⟨"NoText",none⟩ S:=
        seq_nx (set_ok (bi_ok (cons_ok (val_ok c2) rfl) rfl)) (seq_x (if_t (not_ok (b:=false) (tb_ok (call_ok (n:=1) (cons_ok rfl rfl) rfl hit))) rfl))
      exact callF_x (nl:=2) (ps:=[.str x]) e2
  · have c2:=c2.trans (if_neg q)
    rw [if_neg (by rw [Bool.eq_false_iff.mpr q]; simp)]
    have e2 : m_read_table [some (.str x),none] S = .exc ⟨"NoText",none⟩ S:=seq_x (set_x (bi_x (cons_x (val_x c2))))
    exact callF_x (nl:=2) (ps:=[.str x]) e2
theorem set_same {S : Store} {L : Nat} {c : Cell} (h : S[L]? = some c) : S.set L c = S:=by
  refine List.ext_getElem? fun i=>?_
  rw [List.getElem?_set]
  obtain ⟨hl,e⟩:=List.getElem?_eq_some_iff.mp h
  split
  · rename_i q; subst q; exact h.symm
  · rfl
theorem forG_nx {ga : GA} {body : MS} {w : Wt} {x : PV} {xs : List PV} {Γ Γ1 Γ2 : Gam} {S S2 : Store} {r : SR} (hw : wOk w S) (h1 : ga x Γ = some Γ1) (h2 : body Γ1 S = .nx Γ2 S2) (h3 : forG ga body w xs Γ2 S2 = r) : forG ga body w (x :: xs) Γ S = r:=by
  rw [forG,if_pos hw,h1]
  show (match body Γ1 S with | .nx Γ2 st2=>forG ga body w xs Γ2 st2 | .ct Γ2 st2=>forG ga body w xs Γ2 st2 | .bk Γ2 st2=>.nx Γ2 st2 | .rt v st2=>.rt v st2 | .exc x st2=>.exc x st2 | .stuck=>.stuck) = _
  rw [h2]
  exact h3
theorem forG_rt {ga : GA} {body : MS} {w : Wt} {x : PV} {xs : List PV} {Γ Γ1 : Gam} {S S2 : Store} {v : PV} (hw : wOk w S) (h1 : ga x Γ = some Γ1) (h2 : body Γ1 S = .rt v S2) : forG ga body w (x :: xs) Γ S = .rt v S2:=by
  rw [forG,if_pos hw,h1]
  show (match body Γ1 S with | .nx Γ2 st2=>forG ga body w xs Γ2 st2 | .ct Γ2 st2=>forG ga body w xs Γ2 st2 | .bk Γ2 st2=>.nx Γ2 st2 | .rt v st2=>.rt v st2 | .exc x st2=>.exc x st2 | .stuck=>.stuck) = _
  rw [h2]
theorem forG_end {ga : GA} {body : MS} {w : Wt} {Γ : Gam} {S : Store} (hw : wOk w S) : forG ga body w [] Γ S = .nx Γ S:=by rw [forG,if_pos hw]
def nmP (w : Str) : PV:=.int (numT w : Nat)
theorem awords {a b c : Option PV} {L : Nat} : ∀ (ws : List Str) (d g : Option PV) (S : Store) (xs : List PV),S[L]? = some (.lst xs) -> xs.length + ws.length <= 1000000 -> (∀ w ∈ ws,w.length <= 1000000 /\ (figT w = true -> w.length <= 640)) ->
    (ws.all figT = true -> ∃ d' g',forG (gaName 4) b__law_areading_2 [] (ws.map .str) [a,b,c,some (.ref L),d,g] S = .nx [a,b,c,some (.ref L),d',g'] (S.set L (.lst (xs ++ ws.map nmP)))) /\
    (ws.all figT = false -> ∃ ys,forG (gaName 4) b__law_areading_2 [] (ws.map .str) [a,b,c,some (.ref L),d,g] S = .rt .non (S.set L (.lst ys)))
  | [],d,g,S,xs,hL,_,_=>⟨fun _=>⟨d,g,by rw [List.map_nil,List.map_nil,List.append_nil,set_same hL]; exact forG_end (wOk_nil S)⟩,fun h=>by cases h⟩
  | w :: ws,d,g,S,xs,hL,hl,hw=>by
    have hw0:=hw w (by simp)
    have hl' : xs.length < 1000000:=by simp at hl; omega
    rw [List.all_cons,List.map_cons]
    cases q : figT w with
    | false=>
      refine ⟨fun h=>(by cases h),fun _=>⟨xs,?_⟩⟩
      rw [set_same hL]
      exact forG_rt (wOk_nil S) rfl (aword_f q hw0.1 S)
    | true=>
      have s1:=aword_t (a:=a) (b:=b) (c:=c) (g:=g) q (hw0.2 q) hL hl'
      have hL2 : (S.set L (.lst (xs ++ [nmP w])))[L]? = some (.lst (xs ++ [nmP w])):=List.getElem?_set_self (List.getElem?_eq_some_iff.mp hL).1
      obtain ⟨h1,h2⟩:=awords (a:=a) (b:=b) (c:=c) ws (some (.str w)) (some (.bl true)) (S.set L (.lst (xs ++ [nmP w]))) (xs ++ [nmP w]) hL2 (by simp at hl ⊢; omega) fun v hv=>hw v (List.mem_cons_of_mem _ hv)
      rw [Bool.true_and]
      refine ⟨fun h=>?_,fun h=>?_⟩
      · obtain ⟨d',g',e⟩:=h1 h
        refine ⟨d',g',forG_nx (wOk_nil S) rfl s1 (e.trans ?_)⟩
        rw [List.set_set,List.append_assoc]; rfl
      · obtain ⟨ys,e⟩:=h2 h
        refine ⟨ys,forG_nx (wOk_nil S) rfl s1 (e.trans ?_)⟩
        rw [List.set_set]
def rdP (r : Str) : PV:=rwP ((wdsT r).map numT)
theorem arows {x : Option PV} {S : Store} : ∀ (rs : List Str) (c d e g : Option PV) (pre : List PV) (ex : Store),pre.length + rs.length <= 1000000 -> (∀ r ∈ rs,r.length <= 999999 /\ ∀ w ∈ wdsT r,figT w = true -> w.length <= 640) ->
    ((rs.all fun r=>(wdsT r).all figT) = true -> ∃ c' d' e' g' ex',forG (gaName 2) b__law_areading_1 [] (rs.map .str) [x,some (.ref S.length),c,d,e,g] (S ++ .lst pre :: ex) = .nx [x,some (.ref S.length),c',d',e',g'] (S ++ .lst (pre ++ rs.map rdP) :: ex')) /\
    ((rs.all fun r=>(wdsT r).all figT) = false -> ∃ ex',forG (gaName 2) b__law_areading_1 [] (rs.map .str) [x,some (.ref S.length),c,d,e,g] (S ++ .lst pre :: ex) = .rt .non (S ++ ex'))
  | [],c,d,e,g,pre,ex,_,_=>⟨fun _=>⟨c,d,e,g,ex,by rw [List.map_nil,List.map_nil,List.append_nil]; exact forG_end (wOk_nil _)⟩,fun h=>by cases h⟩
  | r :: rs,c,d,e,g,pre,ex,hl,hr=>by
    obtain ⟨hr0,hrw⟩:=hr r (by simp)
    obtain ⟨st,est⟩ : ∃ st : Store,S ++ .lst pre :: ex = st:=⟨_,rfl⟩
    have hL : (st ++ [Cell.lst []])[st.length]? = some (.lst []):=by simp
    have hws:=Nat.le_trans (wds_len r) (show r.length + 1 <= 1000000 by omega)
    obtain ⟨h1,h2⟩:=awords (a:=x) (b:=some (.ref S.length)) (c:=some (.str r)) (wdsT r) e g (st ++ [.lst []]) [] hL (by simpa using hws) fun w hw=>⟨Nat.le_trans (split_mem hw) (by omega),hrw w hw⟩
    have sp : mSeq (mSplit (mVar 2) (mCons (mC (.str " ")) mNil)) [x,some (.ref S.length),some (.str r),some (.ref st.length),e,g] (st ++ [.lst []]) = .ok ((wdsT r).map .str,[]) (st ++ [.lst []]):=
      sq_ok (split_ok (sep:=Str.ofString " ") rfl (by decide +kernel) (by omega)) rfl (by rw [List.length_map]; exact hws)
    rw [List.all_cons,List.map_cons]
    cases q : (wdsT r).all figT with
    | false=>
      obtain ⟨ys,e1⟩:=h2 q
      refine ⟨fun h=>(by cases h),fun _=>⟨.lst pre :: ex ++ [.lst ys],forG_rt (wOk_nil _) rfl ?_⟩⟩
      rw [est]
      refine (seq_nx (set_ok (trk_ok rfl)) (seq_rt (for_ok sp e1))).trans ?_
      rw [List.set_append_right _ _ (Nat.le_refl _),<- est]
      simp
    | true=>
      obtain ⟨d',g',e1⟩:=h1 q
      have hset : (st ++ [Cell.lst []]).set st.length (.lst ([] ++ (wdsT r).map nmP)) = S ++ .lst pre :: (ex ++ [.lst ((wdsT r).map nmP)]):=by
        rw [List.set_append_right _ _ (Nat.le_refl _),<- est]
        simp
      rw [hset] at e1
      have hA : (S ++ Cell.lst pre :: (ex ++ [.lst ((wdsT r).map nmP)]))[S.length]? = some (.lst pre):=by simp
      have hB : (S ++ Cell.lst pre :: (ex ++ [.lst ((wdsT r).map nmP)]))[st.length]? = some (.lst ((wdsT r).map nmP)):=by
        rw [<- hset]
        exact List.getElem?_set_self (by simp)
      have s1 : b__law_areading_1 [x,some (.ref S.length),some (.str r),d,e,g] (S ++ .lst pre :: ex) = .nx [x,some (.ref S.length),some (.str r),some (.ref st.length),d',g'] (S ++ .lst (pre ++ [rdP r]) :: (ex ++ [.lst ((wdsT r).map nmP)])):=by
        rw [est]
        refine (seq_nx (set_ok (trk_ok rfl)) (seq_nx (for_ok sp e1) (app_ok rfl (lof hA) (cons_ok (p:=rdP r) (bi_ok rfl ?_) rfl) (app_lst hA (by simp at hl; omega) _)))).trans ?_
        · rw [cTuple_r,hB]
          show Res.ok (PV.tup ((wdsT r).map nmP)) _ = _
          unfold rdP rwP
          rw [List.map_map]; rfl
        · rw [List.set_append_right _ _ (Nat.le_refl _)]
          simp
      obtain ⟨k1,k2⟩:=arows (x:=x) (S:=S) rs (some (.str r)) (some (.ref st.length)) d' g' (pre ++ [rdP r]) (ex ++ [.lst ((wdsT r).map nmP)]) (by simp at hl ⊢; omega) fun v hv=>hr v (List.mem_cons_of_mem _ hv)
      rw [Bool.true_and]
      refine ⟨fun h=>?_,fun h=>?_⟩
      · obtain ⟨c2,d2,e2,g2,ex2,z⟩:=k1 h
        refine ⟨c2,d2,e2,g2,ex2,forG_nx (wOk_nil _) rfl s1 (z.trans ?_)⟩
        rw [List.append_assoc]; rfl
      · obtain ⟨ex2,z⟩:=k2 h
        exact ⟨ex2,forG_nx (wOk_nil _) rfl s1 z⟩
theorem nof2 {α : Type} (f : α -> Bool) (l : List α) (S : Store) : oIn false S (.bl false) (.lst (l.map fun c=>.bl (f c))) = .ok (.bl (!(l.all f))) S:=by
  have h:=nof f l S
  have h : (if good dep (.bl false) = true /\ (l.map fun c=>PV.bl (f c)).all (good dep) = true then Res.ok (PV.bl (((l.map fun c=>PV.bl (f c)).any fun y=>peq y (.bl false)) != true)) S else .stuck) = _:=h
  show (if good dep (.bl false) = true /\ (l.map fun c=>PV.bl (f c)).all (good dep) = true then Res.ok (PV.bl (((l.map fun c=>PV.bl (f c)).any fun y=>peq y (.bl false)) != false)) S else .stuck) = _
  rw [if_pos ⟨rfl,by rw [List.all_map]; exact List.all_eq_true.mpr fun _ _=>rfl⟩] at h ⊢
  cases z : ((l.map fun c=>PV.bl (f c)).any fun y=>peq y (.bl false)) with
  | true=>
    rw [z] at h
    injection h with h
    injection h with h
    rw [<- h]; rfl
  | false=>
    rw [z] at h
    injection h with h
    injection h with h
    rw [<- h]; rfl
theorem areading_ok {x : Str} (hl : x.length <= 999998) (hR : Rn 640 x.cps.toList) (S : Store) : F__law_areading [.str x] S = .ok (if (goodT x && tabB (tabT x)) = true then tbP (tabT x) else .non) S:=by
  have hn:=Nat.le_trans (rows_len x) (show x.length + 1 <= 999999 by omega)
  obtain ⟨h1,h2⟩:=arows (x:=some (.str x)) (S:=S) (rowsT x) none none none none [] [] (by simp; omega) fun r hr=>⟨Nat.le_trans (row_len hr) (by omega),fun w hw hf=>rn_word hR hr hw hf⟩
  have sp : mSeq (mSplit (mVar 0) (mCons (mC (.str " / ")) mNil)) [some (.str x),some (.ref S.length),none,none,none,none] (S ++ [.lst []]) = .ok ((rowsT x).map .str,[]) (S ++ [.lst []]):=
    sq_ok (split_ok (sep:=Str.ofString " / ") rfl (by decide +kernel) (by omega)) rfl (by rw [List.length_map]; omega)
  show callF m__law_areading 6 _ _ = _
  cases q : goodT x with
  | false=>
    obtain ⟨ex,e1⟩:=h2 q
    have e2 : m__law_areading [some (.str x),none,none,none,none,none] S = .rt .non (S ++ ex):=seq_nx (set_ok (trk_ok rfl)) (seq_rt (for_ok sp e1))
    rw [if_neg (by simp)]
    exact (callF_rt (nl:=6) (ps:=[.str x]) e2).trans (fin_goodA rfl)
  | true=>
    obtain ⟨c,d,e,g,ex,e1⟩:=h1 q
    have ht : (rowsT x).map rdP = (tabT x).map rwP:=by unfold tabT; rw [List.map_map]; rfl
    rw [List.nil_append,ht] at e1
    obtain ⟨st,est⟩ : ∃ st : Store,S ++ .lst ((tabT x).map rwP) :: ex = st:=⟨_,rfl⟩
    have hL : st[S.length]? = some (.lst ((tabT x).map rwP)):=by rw [<- est]; simp
    rw [est] at e1
    have hlen : (tabT x).length = (rowsT x).length:=by unfold tabT; rw [List.length_map]
    have k1 : ∀ Γ : Gam,Γ[1]? = some (some (.ref S.length)) -> mCall cLen (mCons (mVar 1) mNil) Γ st = .ok (.int (tabT x).length) st:=fun Γ hΓ=>by
      refine bi_ok (S1:=st) (ps:=[.ref S.length]) (cons_ok (by unfold mVar; rw [hΓ]) rfl) ?_
      rw [cLen_r,hL]
      show Res.ok (PV.int ((tabT x).map rwP).length) st = _
      rw [List.length_map]
    have k2 : mCall cLen (mCons (mVar 1) mNil) [some (.str x),some (.ref S.length),c,d,e,g] st = .ok (.int (tabT x).length) st:=k1 _ rfl
    have c1:=compG_on (ga:=gaName 0) (me:=e__law_areading_2) (Γ0:=capG [none,some 1] [some (.str x),some (.ref S.length),c,d,e,g]) (w:=[(S.length,.lst ((tabT x).map rwP))]) (g:=rwP) (f:=fun r=>PV.bl (decide (r.length = (tabT x).length + 1))) (ys:=tabT x) (st:=st) (by
      intro y hy
      rw [List.mem_singleton.mp hy]; exact hL) fun r _=>⟨[some (rwP r),some (.ref S.length)],rfl,by
        refine (op_ok (S1:=st) (S2:=st) (x:=.int r.length) (y:=.int ((tabT x).length + 1 : Nat)) (bi_ok (S1:=st) (ps:=[rwP r]) rfl ((cLen_tup st _).trans (by rw [List.length_map]))) (op_ok (k1 _ rfl) rfl (addi st _ _)) ?_)
        by_cases z : r.length = (tabT x).length + 1
        · rw [decide_eq_true z,z]; exact eqi_t st rfl
        · rw [decide_eq_false z]; exact eqi_f st (by omega)⟩
    have k3 : mOp (oIn false) (mC (.bl false)) (mVal (mCompN [none,some 1] (gaName 0) (mSeq (mVar 1)) mTrue e__law_areading_2)) [some (.str x),some (.ref S.length),c,d,e,g] st = .ok (.bl (!((tabT x).all fun r=>decide (r.length = (tabT x).length + 1)))) st:=
      op_ok rfl (val_ok (comp_ok (sq_ok rfl (srcOf_ref hL) (by rw [List.length_map]; omega)) c1)) (nof2 _ _ st)
    have go : ∀ v,mSeqS (mIfS (tOrM (toB (mOp (oI fun a b=>.bl (decide (b < a))) (mCall cLen (mCons (mVar 1) mNil)) (mC (.int 8)))) (toB (mOp (oIn false) (mC (.bl false)) (mVal (mCompN [none,some 1] (gaName 0) (mSeq (mVar 1)) mTrue e__law_areading_2))))) (mRet (mC .non)) mNext) (mRet (mCall cTuple (mCons (mVar 1) mNil))) [some (.str x),some (.ref S.length),c,d,e,g] st = .rt v st -> good 12 v = true -> callF m__law_areading 6 [.str x] S = .ok v S:=fun v hv hg=>by
      have e2 : m__law_areading [some (.str x),none,none,none,none,none] S = .rt v st:=seq_nx (set_ok (trk_ok rfl)) (seq_nx (for_ok sp e1) hv)
      refine (callF_rt (nl:=6) (ps:=[.str x]) e2).trans ?_
      rw [<- est]
      exact fin_goodA hg
    rw [Bool.true_and]
    unfold tabB
    by_cases z : (tabT x).length <= 8
    · rw [decide_eq_true z,Bool.true_and]
      have t1:=tb_ok (op_ok (b:=mC (.int 8)) k2 rfl (gti_f st (a:=(tabT x).length) (b:=8) (by omega)))
      cases z2 : ((tabT x).all fun r=>decide (r.length = (tabT x).length + 1)) with
      | true=>
        rw [z2] at k3
        rw [if_pos rfl]
        exact go _ (seq_nx (if_f (or_f t1 (tb_ok k3)) rfl) (ret_ok (bi_ok (S1:=st) (ps:=[.ref S.length]) rfl (by rw [cTuple_r,hL]; rfl)))) (good_tbP _)
      | false=>
        rw [z2] at k3
        rw [if_neg (by simp)]
        exact go _ (seq_rt (if_t (or_f t1 (tb_ok k3)) rfl)) rfl
    · rw [decide_eq_false z,Bool.false_and,if_neg (by simp)]
      exact go _ (seq_rt (if_t (or_t (tb_ok (op_ok (b:=mC (.int 8)) k2 rfl (gti_t st (a:=(tabT x).length) (b:=8) (by omega))))) rfl)) rfl
theorem aread_ok {x : Str} (hl : x.length <= 999998) (S : Store) : F__law_aread [.str x] S = .ok (if (goodT x && tabB (tabT x)) = true then .tup [.str "table",tbP (tabT x)] else .tup [.str "text",.non]) S:=by
  have h:=read_table_ok (x:=x) (by omega) S
  unfold F__law_aread
  by_cases q : (goodT x && tabB (tabT x)) = true
  · rw [if_pos q] at h ⊢
    have e : tb__law_aread [some (.str x),some .non,none] S = .nx [some (.str x),some (.tup [.str "table",tbP (tabT x)]),none] S:=set_ok (tup_ok (cons_ok rfl (cons_ok (call_ok (n:=1) (cons_ok rfl rfl) rfl h) rfl)) (show 2 <= 1000000 by decide))
    show (match tb__law_aread [some (.str x),some .non,none] S with | .nx Γ st1=>(match (Γ : Gam)[1]? with | some (some v)=>Res.ok v st1 | _=>.stuck) | .exc x st1=>if x.cls = "NoText" then Res.ok (.tup [.str "text",.non]) st1 else .stuck | _=>.stuck) = _
    rw [e]; rfl
  · rw [if_neg q] at h ⊢
    have e : tb__law_aread [some (.str x),some .non,none] S = .exc ⟨"NoText",none⟩ S:=by
      refine set_x ?_
      rw [mTup_eq,mCons_eq]
      show ((Res.ok (PV.str "table") S).bind _).bind _ = _
      rw [bind_ok,cons_x (callx (n:=1) (cons_ok rfl rfl) rfl h)]
      rfl
    show (match tb__law_aread [some (.str x),some .non,none] S with | .nx Γ st1=>(match (Γ : Gam)[1]? with | some (some v)=>Res.ok v st1 | _=>.stuck) | .exc x st1=>if x.cls = "NoText" then Res.ok (.tup [.str "text",.non]) st1 else .stuck | _=>.stuck) = _
    rw [e]
    exact if_pos rfl
theorem good_dep_tb (t : List (List Nat)) : good dep (tbP t) = true:=by simp [good,tbP,rwP,dep]
theorem aright_ok {x : Str} (hl : x.length <= 999998) (hR : Rn 640 x.cps.toList) (S : Store) : F__law_aright [.str x] S = .ok (.bl true) S:=by
  have h1:=areading_ok hl hR S
  have h2:=aread_ok hl S
  refine ret_b ?_
  show m__law_aright [some (.str x),none,none] S = _
  by_cases q : (goodT x && tabB (tabT x)) = true
  · rw [if_pos q] at h1 h2
    have n1 : oNe S (.str "table") (.str "table") = .ok (.bl false) S:=by simp
    have n2 : oNe S (tbP (tabT x)) (tbP (tabT x)) = .ok (.bl false) S:=ne_good (good_dep_tb _) rfl
    have i0 : oIx S (.tup [.str "table",tbP (tabT x)]) (.int 0) = .ok (.str "table") S:=rfl
    have i1 : oIx S (.tup [.str "table",tbP (tabT x)]) (.int 1) = .ok (tbP (tabT x)) S:=rfl
    have c1:=compG_on (ga:=gaName 0) (me:=e__law_aright_1) (Γ0:=capG [none] [some (.str x),some (tbP (tabT x)),some (.tup [.str "table",tbP (tabT x)])]) (g:=rwP) (f:=fun _=>PV.bl true) (ys:=tabT x) (wOk_nil S) fun r _=>⟨[some (rwP r)],rfl,rfl⟩
    have hlen : ((tabT x).map rwP).length <= 1000000:=by
      unfold tabT
      rw [List.length_map,List.length_map]
      exact Nat.le_trans (rows_len x) (by omega)
    refine seq_nx (set_ok (call_ok (n:=1) (cons_ok rfl rfl) rfl h1)) (seq_nx (set_ok (call_ok (n:=1) (cons_ok rfl rfl) rfl h2)) (seq_nx (if_f (tb_ok (op_ok rfl rfl rfl)) rfl) (seq_nx (if_f (or_f (tb_ok (op_ok (op_ok rfl rfl i0) rfl n1)) (or_f (not_ok (b:=true) ?_) (tb_ok (op_ok (op_ok rfl rfl i1) rfl n2)))) rfl) (ret_ok (op_ok rfl (val_ok (comp_ok (sq_ok (op_ok rfl rfl i1) rfl hlen) c1)) ((nof (fun _=>true) _ S).trans ?_))))))
    · rfl
    · rw [List.all_eq_true.mpr fun _ _=>rfl]
  · rw [if_neg q] at h1 h2
    have e1 : oEq S (.tup [.str "text",.non]) (.tup [.str "text",.non]) = .ok (.bl true) S:=by
      show (if good dep (.tup [.str "text",.non]) = true /\ good dep (.tup [.str "text",.non]) = true then Res.ok (PV.bl (peq (.tup [.str "text",.non]) (.tup [.str "text",.non]))) S else .stuck) = _
      rw [if_pos ⟨rfl,rfl⟩,peq_self (n:=dep) rfl]
    exact seq_nx (set_ok (call_ok (n:=1) (cons_ok rfl rfl) rfl h1)) (seq_nx (set_ok (call_ok (n:=1) (cons_ok rfl rfl) rfl h2)) (seq_rt (if_t (tb_ok (op_ok rfl rfl rfl)) (ret_ok (op_ok rfl rfl e1)))))
abbrev Tab:=List (List Int)
theorem fin_tab (S : Store) (a : List (List Int)) : fin S (tabV a) S = .ok (tabV a) S:=fin_good (by simp [good,tabV,rowV])
def rightsF (tb : List (List Int)) (h : Nat) : Int:=upto tb.length (fun o=>ent tb o h) - ((tb.getD h []).sum - ent tb h h)
theorem rightsF_eq {n h : Nat} {tb : List (List Int)} (z : Sz n tb) (hh : h < n) : rightsF tb h = upto n (fun o=>ent tb o h) - (upto n (fun j=>ent tb h j) + ent tb h n - ent tb h h):=by
  unfold rightsF
  rw [z.1,sum_upto (tb.getD h []),(z.row hh).2,upto_succ]
  rfl
def putT (tb : List (List Int)) (i j : Nat) (x : Int) : List (List Int):=tb.set i ((tb.getD i []).set j x)
theorem ent_put {n i j : Nat} {tb : List (List Int)} (z : Sz n tb) (hi : i < n) (hj : j <= n) (x : Int) (a b : Nat) : ent (putT tb i j x) a b = if a = i /\ b = j then x else ent tb a b:=by
  unfold ent putT
  have hl:=(z.row hi).2
  by_cases ha : a = i
  · subst ha
    rw [show (tb.set a ((tb.getD a []).set j x)).getD a [] = (tb.getD a []).set j x by rw [List.getD,List.getElem?_set_self (by rw [z.1]; exact hi)]; rfl]
    by_cases hb : b = j
    · subst hb
      rw [if_pos ⟨rfl,rfl⟩,List.getD,List.getElem?_set_self (by omega)]; rfl
    · rw [if_neg (fun q=>hb q.2),List.getD,List.getElem?_set_ne (fun q=>hb q.symm)]; rfl
  · rw [if_neg (fun q=>ha q.1)]
    rw [show (tb.set i ((tb.getD i []).set j x)).getD a [] = tb.getD a [] by rw [List.getD,List.getElem?_set_ne (fun q=>ha q.symm)]; rfl]
theorem upto_delta (n i : Nat) (k : Int) : upto n (fun o=>if o = i then k else 0) = if i < n then k else 0:=by
  induction n with
  | zero=>rfl
  | succ n ih=>
    rw [upto_succ,ih]
    by_cases e : n = i
    · subst e; simp
    · rw [if_neg e]
      by_cases h : i < n
      · rw [if_pos h,if_pos (by omega)]; omega
      · rw [if_neg h,if_neg (by omega)]; omega
theorem putT_sz {n i j : Nat} {tb : List (List Int)} (z : Sz n tb) (hi : i < n) (x : Int) : Sz n (putT tb i j x):=by
  unfold putT
  refine ⟨by rw [List.length_set]; exact z.1,fun r hr=>?_⟩
  rcases List.mem_or_eq_of_mem_set hr with hr | rfl
  · exact z.2 r hr
  · rw [List.length_set]; exact (z.row hi).2
theorem rights_put {n i j : Nat} {tb : List (List Int)} (z : Sz n tb) (hi : i < n) (hj : j <= n) (k : Int) {h : Nat} (hh : h < n) :
    rightsF (putT tb i j (ent tb i j + k)) h = rightsF tb h + (if h = j then k else 0) - (if h = i then k else 0) + (if h = i /\ j = i then k else 0):=by
  have z':=putT_sz (j:=j) z hi (ent tb i j + k)
  have he : ∀ a b,ent (putT tb i j (ent tb i j + k)) a b = ent tb a b + if a = i /\ b = j then k else 0:=fun a b=>by
    rw [ent_put z hi hj]
    split
    · rename_i q; rw [q.1,q.2]
    · omega
  rw [rightsF_eq z' hh,rightsF_eq z hh]
  have c1 : upto n (fun o=>ent (putT tb i j (ent tb i j + k)) o h) = upto n (fun o=>ent tb o h) + if h = j then k else 0:=by
    rw [upto_congr (g:=fun o=>ent tb o h + if o = i then (if h = j then k else 0) else 0) fun o _=>by
      rw [he]
      by_cases q1 : o = i <;> by_cases q2 : h = j <;> simp [q1,q2],upto_add,upto_delta,if_pos hi]
  have c2 : upto n (fun b=>ent (putT tb i j (ent tb i j + k)) h b) + ent (putT tb i j (ent tb i j + k)) h n = upto n (fun b=>ent tb h b) + ent tb h n + if h = i then k else 0:=by
    rw [<- upto_succ,<- upto_succ,upto_congr (g:=fun b=>ent tb h b + if b = j then (if h = i then k else 0) else 0) fun b _=>by
      rw [he]
      by_cases q1 : h = i <;> by_cases q2 : b = j <;> simp [q1,q2],upto_add,upto_delta,if_pos (by omega)]
  rw [c1,c2,he]
  by_cases q1 : h = i <;> by_cases q2 : j = i <;> by_cases q3 : h = j <;> simp [q1,q2,q3] <;> omega
theorem cell_ix {n i j : Nat} {tb : List (List Int)} (z : Sz n tb) (hi : i < n) (hj : j <= n) (st : Store) : oIx st (tabV tb) (.int i) = .ok (rowV (tb.getD i [])) st /\ oIx st (rowV (tb.getD i [])) (.int j) = .ok (.int (ent tb i j)) st:=by
  constructor
  · unfold tabV; rw [oIx_tup,atI_map,atI_get (z.row hi).1]; rfl
  · unfold rowV; rw [oIx_tup,atI_map,atI_get (z.cell hi hj)]; rfl
def zRow (n : Nat) : List Int:=List.replicate (n + 1) 0
theorem zTab_wt {n : Nat} (h1 : 1 <= n) (h8 : n <= 8) : Wt' n (List.replicate n (zRow n)):=by
  refine ⟨by simp,fun r hr=>?_,fun r hr x hx=>?_,h1,h8⟩
  · rw [List.eq_of_mem_replicate hr]; simp [zRow]
  · rw [List.eq_of_mem_replicate hr] at hx
    rw [List.eq_of_mem_replicate hx]
    exact Int.le_refl _
theorem set_cut {α : Type} (xs : List α) (i : Nat) (x : α) (h : i < xs.length) : xs.take i ++ [x] ++ xs.drop (i + 1) = xs.set i x:=by
  rw [List.set_eq_take_append_cons_drop,if_pos h,List.append_assoc]; rfl
theorem Wt'.set0 {n i j : Nat} {tb : List (List Int)} (w : Wt' n tb) (hi : i < n) {x : Int} (hx : 0 <= x) : Wt' n (tb.set i ((tb.getD i []).set j x)):=by
  have hr:=(w.sz.row hi).1
  have hm:=List.mem_of_getElem? hr
  generalize tb.getD i [] = r at *
  refine ⟨by rw [List.length_set]; exact w.len,fun q hq=>?_,fun q hq y hy=>?_,w.n1,w.n8⟩
  · rcases List.mem_or_eq_of_mem_set hq with hq | rfl
    · exact w.row q hq
    · rw [List.length_set]; exact w.row r hm
  · rcases List.mem_or_eq_of_mem_set hq with hq | rfl
    · exact w.nn q hq y hy
    · rcases List.mem_or_eq_of_mem_set hy with hy | rfl
      · exact w.nn r hm y hy
      · exact hx
theorem fin_eq {st st' : Store} (h : st'.length = st.length) (d : Int) : fin st (.int d) st' = .ok (.int d) st':=by
  unfold fin
  by_cases q : st <+: st'
  · rw [if_pos q]
    have : st = st':=q.eq_of_length h.symm
    rw [<- this,fz]; rfl
  · rw [if_neg q]
structure Mv (L : Nat) (S S' : Store) : Prop where
  len : S'.length = S.length
  keep : ∀ t,t ≠ L -> S'[t]? = S[t]?
theorem Mv.refl (L : Nat) (S : Store) : Mv L S S:=⟨rfl,fun _ _=>rfl⟩
theorem Mv.trans {L : Nat} {S S1 S2 : Store} (a : Mv L S S1) (b : Mv L S1 S2) : Mv L S S2:=⟨b.len.trans a.len,fun t ht=>(b.keep t ht).trans (a.keep t ht)⟩
theorem fin_goodE {st st' : Store} (h : st'.length = st.length) {v : PV} (g : good 12 v = true) : fin st v st' = .ok v st':=by
  unfold fin
  by_cases q : st <+: st'
  · rw [if_pos q]
    have : st = st':=q.eq_of_length h.symm
    rw [<- this,fz_good g (by decide)]; rfl
  · rw [if_neg q]
theorem oAdd_lstL (st : Store) (a b : List PV) : oAdd st (.lst a) (.lst b) = if a.length + b.length <= lim then .ok (.lst (a ++ b)) st else .stuck:=rfl
def Tp (S : Store) (L : Nat) : Prop:=∃ c : Int,S[L]? = some (.lst [.int c])
theorem Tp.lt {S : Store} {L : Nat} (h : Tp S L) : L < S.length:=let ⟨_,e⟩:=h; (List.getElem?_eq_some_iff.mp e).1
theorem adigit_ok {S : Store} {L : Nat} (T : Tp S L) (m : Nat) (h1 : 1 <= m) (hm : m < 2 ^ 8000) : ∃ (d : Nat) (S' : Store),d < m /\ Tp S' L /\ Mv L S S' /\ F__law_adigit [.ref L,.int m] S = .ok (.int d) S':=by
  obtain ⟨c,hS⟩:=T
  have hL:=(List.getElem?_eq_some_iff.mp hS).1
  have hV : ListAt S (.ref L) [.int c]:=.inr (.inr ⟨L,rfl,hS⟩)
  have i0 : oIx S (.ref L) (.int 0) = .ok (.int c) S:=by rw [hV.ix]; rfl
  obtain ⟨d,hd,ed⟩:=modN c h1
  have t0 : setIx S (.ref L) (.int 0) (.int (c / (m : Int))) = some (S.set L (.lst [.int (c / (m : Int))])):=by
    unfold setIx
    simp only [hS]
    rfl
  obtain ⟨S1,hS1⟩ : ∃ S1,S.set L (.lst [.int (c / (m : Int))]) = S1:=⟨_,rfl⟩
  rw [hS1] at t0
  have M : Mv L S S1:=⟨by rw [<- hS1,List.length_set],fun t ht=>by rw [<- hS1,List.getElem?_set_ne (fun u=>ht u.symm)]⟩
  refine ⟨d,S1,hd,⟨_,by rw [<- hS1,List.getElem?_set_self hL]⟩,M,?_⟩
  have em : oMod S (.int c) (.int m) = .ok (.int d) S:=by
    show (if 0 < (m : Int) then _ else _) = _
    rw [if_pos (by omega),ed]
  have edv:=oDivC_int S c m h1 hm
  have step : m__law_adigit [some (.ref L),some (.int m),none] S = .rt (.int d) S1:=
    seq_nx (Γ1:=[some (.ref L),some (.int m),some (.int d)]) (set_ok (op_ok (op_ok rfl rfl i0) rfl em)) (seq_nx (six_ok (op_ok (op_ok rfl rfl i0) rfl edv) rfl rfl t0) rfl)
  exact (callF_rt step).trans (fin_eq M.len d)
theorem big_of {m : Nat} (h : m < 10 ^ 100) : m < 2 ^ 8000:=Nat.lt_of_lt_of_le h (Nat.le_trans (Nat.pow_le_pow_left (show 10 <= 2 ^ 4 by decide) 100) (by rw [<- Nat.pow_mul]; exact Nat.pow_le_pow_right (by decide) (by decide)))
theorem adigit_lit {S : Store} {L : Nat} (T : Tp S L) (m : Nat) (h1 : 1 <= m) (hm : m < 100) : ∃ (d : Nat) (S' : Store),d < m /\ Tp S' L /\ Mv L S S' /\ F__law_adigit [.ref L,.int m] S = .ok (.int d) S':=adigit_ok T m h1 (big_of (Nat.lt_of_lt_of_le hm (by decide)))
theorem atape_ok (ns : List Int) (k : Nat) (S : Store) : ∃ c : Int,F__law_atape [.fro (ns.map .int),.int k] S = .ok (.ref S.length) (S ++ [.lst [.int c]]):=by
  obtain ⟨c,hc⟩ : ∃ c : Int,F__law_acell [.fro (ns.map .int),.int k] S = .ok (.int c) S:=by
    by_cases q : k < ns.length
    · have e : atI (ns.map PV.int) (k : Int) = some (.int (ns.getD k 0)):=by rw [atI_map,Sm.atI_get (getD_some q 0)]; rfl
      have hl : (ns.map PV.int).length = ns.length:=List.length_map _
      refine ⟨ns.getD k 0,?_⟩
      generalize ns.getD k 0 = x at *
      generalize ns.length = nl at *
      generalize ns.map PV.int = nv at *
      simp -implicitDefEqProofs [F__law_acell,callF,m__law_acell,hl,q,e]
    · have hl : (ns.map PV.int).length = ns.length:=List.length_map _
      have q' : ¬ (k : Int) < (ns.length : Int):=by omega
      refine ⟨0,?_⟩
      generalize ns.length = nl at *
      generalize ns.map PV.int = nv at *
      simp -implicitDefEqProofs [F__law_acell,callF,m__law_acell,hl,q,q']
  by_cases q : c % 2 = 0
  · refine ⟨c / 2,?_⟩
    generalize ns.map PV.int = nv at *
    simp -implicitDefEqProofs [F__law_atape,callK,m__law_atape,hc,q,lim_eq]
  · obtain ⟨l0,hl0⟩ : ∃ l0 : Int,(c % 2305843009213693951 * 48271 + 69621 * k + 11) % 2305843009213693951 = l0:=⟨_,rfl⟩
    have b0:=emod_lt (c % 2305843009213693951 * 48271 + 69621 * k + 11) (b:=2305843009213693951) (by decide)
    rw [hl0] at b0
    obtain ⟨Γ',S1,e,x,y,z,rfl,rfl,_⟩:=forG_inv (g:=fun k : Nat=>PV.int (k : Int)) (xs:=List.range 5) (ga:=gaName 6) (body:=b__law_atape_1) (w:=[]) (Γ:=[some (.fro (ns.map .int)),some (.int k),some (.int c),some (.int 2305843009213693951),some (.int 0),some (.int l0),none]) (st:=S)
      (fun _ Γ st'=>∃ (x y : Int) (z : Option PV),Γ = [some (.fro (ns.map .int)),some (.int k),some (.int c),some (.int 2305843009213693951),some (.int x),some (.int y),z] /\ st' = S /\ 0 <= y /\ y < 2305843009213693951)
      (fun _ _ _ _=>by simp)
      (fun i t Γ st' hx ⟨x,y,z,e1,e2,y1,y2⟩=>by
        subst e1; subst e2
        obtain ⟨w,hw⟩ : ∃ w : Int,(y * y + 40692 * k + t) % 2305843009213693951 = w:=⟨_,rfl⟩
        have bw:=emod_lt (y * y + 40692 * k + t) (b:=2305843009213693951) (by decide)
        rw [hw] at bw
        have yb : -18446744073709551616 < y /\ y < 18446744073709551616:=by omega
        refine ⟨_,rfl,[some (.fro (ns.map .int)),some (.int k),some (.int c),some (.int 2305843009213693951),some (.int (x * 2305843009213693951 + y)),some (.int w),some (.int t)],st',?_,_,_,_,rfl,rfl,bw.1,bw.2⟩
        generalize ns.map PV.int = nv at *
        simp -implicitDefEqProofs [b__law_atape_1,yb,hw])
      ⟨_,_,_,rfl,rfl,b0.1,b0.2⟩
    rw [<- rangeI0] at e
    refine ⟨x,?_⟩
    generalize ns.map PV.int = nv at *
    simp -implicitDefEqProofs [F__law_atape,callK,m__law_atape,hc,q,lim_eq,hl0,e]
theorem arights_ok {n h : Nat} {tb : Tab} (z : Sz n tb) (hn : n <= 100) (hh : h < n) (st : Store) : F__law_arights [tabV tb,.int h] st = .ok (.int (rightsF tb h)) st:=by
  have hc1 : compG (gaName 0) mTrue e__law_arights_1 [] (capG [none,some 1,some 0] [some (tabV tb),some (.int h),none]) (rangeI 0 n) st = .ok ((List.range n).map fun j=>.int (ent tb j h)) st:=by
    rw [rangeI0]
    refine compG_on _ _ (by simp) fun j hj=>⟨_,rfl,?_⟩
    have hj:=List.mem_range.mp hj
    have c:=cell_ix z hj (Nat.le_of_lt hh) st
    exact op_ok (op_ok rfl rfl c.1) rfl c.2
  obtain ⟨c1,c2⟩:=cell_ix z hh (Nat.le_of_lt hh) st
  have hc2 : compG (gaName 0) mTrue e__law_arights_2 [] (capG [none] [some (tabV tb),some (.int h),some (.int (upto n fun j=>ent tb j h))]) ((tb.getD h []).map .int) st = .ok ((tb.getD h []).map .int) st:=compG_on _ _ (by simp) fun j hj=>⟨_,rfl,rfl⟩
  have hlen : cLen st [tabV tb] = .ok (.int n) st:=by simp [tabV,z.1]
  have hrg : mRange1 (mCons (mCall cLen (mCons (mVar 0) mNil)) mNil) [some (tabV tb),some (.int h),none] st = .ok (rangeI 0 n,[]) st:=by
    rw [mRange1_eq,cons_ok (bi_ok (cons_ok (m:=mVar 0) (p:=tabV tb) (S1:=st) rfl (show mNil _ st = .ok [] st from rfl)) hlen) (show mNil _ st = .ok [] st from rfl),bind_ok]
    show (if -(lim : Int) <= (n : Int) /\ (n : Int) <= lim then _ else _) = _
    rw [if_pos (by rw [lim_eq]; omega),Int.toNat_natCast]
  have s1 : cInts (fun ns=>some (.int ns.sum)) st [.lst ((List.range n).map fun j=>.int (ent tb j h))] = .ok (.int (upto n fun j=>ent tb j h)) st:=by
    rw [cInts_map]; rfl
  have s2 : cInts (fun ns=>some (.int ns.sum)) st [.lst ((tb.getD h []).map .int)] = .ok (.int (tb.getD h []).sum) st:=by simp
  have sr : srcOf st (rowV (tb.getD h [])) = some ((tb.getD h []).map .int,[]):=rfl
  have hl : ((tb.getD h []).map PV.int).length <= 1000000:=by rw [List.length_map,(z.row hh).2]; omega
  have step : m__law_arights [some (tabV tb),some (.int h),none] st = .rt (.int (rightsF tb h)) st:=by
    refine seq_nx (Γ1:=[some (tabV tb),some (.int h),some (.int (upto n fun j=>ent tb j h))]) (set_ok (bi_ok (cons_ok (val_ok (comp_ok hrg hc1)) rfl) s1)) ?_
    rw [mRet_eq,op_ok (op_ok rfl (bi_ok (cons_ok (val_ok (comp_ok (sq_ok (op_ok rfl rfl c1) sr hl) hc2)) rfl) s2) rfl) (op_ok (op_ok rfl rfl c1) rfl c2) rfl,sbind_ok]
    unfold rightsF
    rw [z.1]
    congr 2
    omega
  exact (callF_rt step).trans (fin_int st _)
theorem araised_ok {n i j : Nat} {tb : List (List Int)} (z : Sz n tb) (hn : n <= 100) (hi : i < n) (hj : j <= n) (k : Int) (st : Store) : F__law_araised [tabV tb,.int i,.int j,.int k] st = .ok (tabV (putT tb i j (ent tb i j + k))) st:=by
  have c0:=cell_ix z hi hj st
  have hrl:=(z.row hi).2
  have g1 : rowV ((tb.getD i []).set j (ent tb i j + k)) = .tup (((tb.getD i []).take j).map .int ++ [.int (ent tb i j + k)] ++ ((tb.getD i []).drop (j + 1)).map .int):=by
    unfold rowV
    rw [<- set_cut _ _ _ (by omega),List.map_append,List.map_append]; rfl
  have g2 : tabV (putT tb i j (ent tb i j + k)) = .tup ((tb.take i).map rowV ++ [rowV ((tb.getD i []).set j (ent tb i j + k))] ++ (tb.drop (i + 1)).map rowV):=by
    unfold tabV putT
    rw [<- set_cut _ _ _ (by rw [z.1]; exact hi),List.map_append,List.map_append]; rfl
  have c3 : cut ((tb.getD i []).map PV.int) none (some (j : Int)) = ((tb.getD i []).take j).map .int:=by rw [cut_map,cut_front]
  have c4 : cut ((tb.getD i []).map PV.int) (some ((j : Int) + 1)) none = ((tb.getD i []).drop (j + 1)).map .int:=by rw [cut_map]; exact congrArg _ (cut_back _ (j + 1))
  have c5 : cut (tb.map rowV) none (some (i : Int)) = (tb.take i).map rowV:=by rw [cut_map,cut_front]
  have c6 : cut (tb.map rowV) (some ((i : Int) + 1)) none = (tb.drop (i + 1)).map rowV:=by rw [cut_map]; exact congrArg _ (cut_back _ (i + 1))
  have l3 : (((tb.getD i []).take j).map PV.int).length = j:=by rw [List.length_map,List.length_take,hrl]; omega
  have l4 : (((tb.getD i []).drop (j + 1)).map PV.int).length = n - j:=by rw [List.length_map,List.length_drop,hrl]; omega
  have l5 : ((tb.take i).map rowV).length = i:=by rw [List.length_map,List.length_take,z.1]; omega
  have l6 : ((tb.drop (i + 1)).map rowV).length = n - (i + 1):=by rw [List.length_map,List.length_drop,z.1]
  have b1 : j + 1 <= 1000000:=by omega
  have b2 : j + 1 + (n - j) <= 1000000:=by omega
  have b3 : i + 1 <= 1000000:=by omega
  have b4 : i + 1 + (n - (i + 1)) <= 1000000:=by omega
  have hf : fin st (tabV (putT tb i j (ent tb i j + k))) st = .ok (tabV (putT tb i j (ent tb i j + k))) st:=fin_good (by simp [good,tabV,rowV])
  obtain ⟨c1,c2⟩:=c0
  have q1 : oSl st (rowV (tb.getD i [])) none (some (j : Int)) = .ok (.tup (((tb.getD i []).take j).map .int)) st:=by unfold rowV; rw [oSl_tup,c3]
  have q2 : oSl st (rowV (tb.getD i [])) (some ((j : Int) + 1)) none = .ok (.tup (((tb.getD i []).drop (j + 1)).map .int)) st:=by unfold rowV; rw [oSl_tup,c4]
  have q3 : oSl st (tabV tb) none (some (i : Int)) = .ok (.tup ((tb.take i).map rowV)) st:=by unfold tabV; rw [oSl_tup,c5]
  have q4 : oSl st (tabV tb) (some ((i : Int) + 1)) none = .ok (.tup ((tb.drop (i + 1)).map rowV)) st:=by unfold tabV; rw [oSl_tup,c6]
  rw [g2] at hf ⊢
  rw [g1] at hf ⊢
  generalize ent tb i j = x at *
  generalize ((tb.getD i []).take j).map PV.int = v3 at *
  generalize ((tb.getD i []).drop (j + 1)).map PV.int = v4 at *
  generalize (tb.take i).map rowV = v5 at *
  generalize (tb.drop (i + 1)).map rowV = v6 at *
  generalize rowV (tb.getD i []) = rv at *
  generalize tabV tb = T at *
  simp -implicitDefEqProofs at hf
  simp -implicitDefEqProofs [F__law_araised,callF,m__law_araised,c1,c2,q1,q2,q3,q4,lim_eq,l3,l4,l5,l6,b1,b2,b3,b4,hf]
theorem oMul_lst (st : Store) (xs : List PV) (b : Int) : oMul st (.lst xs) (.int b) = if -(2 ^ 63) <= b /\ b < 2 ^ 63 /\ xs.length * b.toNat <= lim then .ok (.lst (List.replicate b.toNat xs).flatten) st else .stuck:=rfl
theorem reps {α : Type} (x : α) : ∀ n,(List.replicate n [x]).flatten = List.replicate n x
  | 0=>rfl
  | n + 1=>by rw [List.replicate_succ,List.flatten_cons,reps x n]; rfl
theorem abare_ok {n : Nat} (hn : n <= 8) (S : Store) : F__law_abare [.int n] S = .ok (tabV (List.replicate n (zRow n))) S:=by
  have h5 : ((n : Int) + 1).toNat = n + 1:=by omega
  have ev : e__law_abare_1 [some (.int 0),some (.int n)] S = .ok (rowV (zRow n)) S:=by
    have : rowV (zRow n) = .tup (List.replicate (n + 1) (.int 0)):=by simp [rowV,zRow]
    rw [this]
    have em : oMul S (.lst [.int 0]) (.int ((n : Int) + 1)) = .ok (.lst (List.replicate (n + 1) (.int 0))) S:=by
      rw [oMul_lst,if_pos ⟨by omega,by omega,by rw [lim_eq,h5]; simp; omega⟩,h5,reps]
    exact bi_ok (cons_ok (op_ok (bi_lst rfl) (op_ok rfl rfl (addi S _ _)) em) rfl) rfl
  have hc : compG (gaName 0) mTrue e__law_abare_1 [] (capG [none,some 0] [some (.int n)]) (rangeI 0 n) S = .ok ((List.range n).map fun _=>rowV (zRow n)) S:=by
    rw [rangeI0]
    refine compG_on _ _ (by simp) fun j hj=>⟨_,rfl,?_⟩
    exact ev
  have hm : ((List.range n).map fun _=>rowV (zRow n)) = (List.replicate n (zRow n)).map rowV:=by
    rw [List.map_replicate]
    exact List.eq_replicate_iff.mpr ⟨by simp,fun b hb=>by obtain ⟨_,_,rfl⟩:=List.mem_map.mp hb; rfl⟩
  rw [hm] at hc
  have hrg : mRange1 (mCons (mVar 0) mNil) [some (.int n)] S = .ok (rangeI 0 n,[]) S:=by
    rw [mRange1_eq,cons_ok (m:=mVar 0) (p:=.int n) (S1:=S) rfl (show mNil _ S = .ok [] S from rfl),bind_ok]
    show (if -(lim : Int) <= (n : Int) /\ (n : Int) <= lim then _ else _) = _
    rw [if_pos (by rw [lim_eq]; omega),Int.toNat_natCast]
  have ct : cTuple S [.lst ((List.replicate n (zRow n)).map rowV)] = .ok (tabV (List.replicate n (zRow n))) S:=by
    have hl : ((List.replicate n (zRow n)).map rowV).length <= 1000000:=by simp; omega
    unfold tabV
    generalize (List.replicate n (zRow n)).map rowV = q at *
    simp [lim_eq,hl]
  have step : m__law_abare [some (.int n)] S = .rt (tabV (List.replicate n (zRow n))) S:=ret_ok (bi_ok (cons_ok (val_ok (comp_ok hrg hc)) rfl) ct)
  exact (callF_rt step).trans (fin_tab S _)
def bM (t : Nat) : Int:=10 ^ (21 + t)
theorem bM_succ (t : Nat) : bM (t + 1) = 10 * bM t:=by
  unfold bM
  rw [show 21 + (t + 1) = (21 + t) + 1 by omega,Int.pow_succ]
  omega
theorem bM_ge : ∀ t,1000000000000000000000 <= bM t
  | 0=>by decide
  | t + 1=>by have:=bM_ge t; rw [bM_succ]; omega
theorem bM_lt {t : Nat} (h : t <= 60) : 8 * bM t + 2 < 10 ^ 100:=by
  have h1 : bM t <= 10 ^ 90:=by
    unfold bM
    exact_mod_cast Nat.pow_le_pow_right (n:=10) (by decide) (show 21 + t <= 90 by omega)
  have h2 : (8 : Int) * 10 ^ 90 + 2 < 10 ^ 100:=by decide +kernel
  omega
structure Bd (n : Nat) (M : Int) (tb : Tab) : Prop where
  le : ∀ i j,i < n -> j <= n -> ent tb i j <= M
theorem upto_lM {n : Nat} {f : Nat -> Int} {M : Int} (h : ∀ o,o < n -> f o <= M) : upto n f <= n * M:=by
  induction n with
  | zero=>simp [upto]
  | succ n ih=>
    rw [upto_succ]
    have h1:=ih fun o ho=>h o (by omega)
    have h2:=h n (by omega)
    have : ((n + 1 : Nat) : Int) * M = n * M + M:=by push_cast; rw [Int.add_mul,Int.one_mul]
    omega
theorem upto_nn {n : Nat} {f : Nat -> Int} (h : ∀ o,o < n -> 0 <= f o) : 0 <= upto n f:=by
  induction n with
  | zero=>simp [upto]
  | succ n ih=>
    rw [upto_succ]
    have h1:=ih fun o ho=>h o (by omega)
    have h2:=h n (by omega)
    omega
theorem upto_one {n : Nat} {f : Nat -> Int} (h : ∀ o,o < n -> 0 <= f o) {k : Nat} (hk : k < n) : f k <= upto n f:=by
  induction n with
  | zero=>omega
  | succ n ih=>
    rw [upto_succ]
    have h2:=h n (by omega)
    have h3:=upto_nn (n:=n) fun o ho=>h o (by omega)
    by_cases q : k = n
    · subst q; omega
    · have h1:=ih (fun o ho=>h o (by omega)) (by omega)
      omega
theorem rights_le {n h : Nat} {tb : Tab} (w : Wt' n tb) {M : Int} (b : Bd n M tb) (hM : 0 <= M) (hh : h < n) : rightsF tb h <= 8 * M:=by
  rw [rightsF_eq w.sz hh]
  have h1:=upto_lM (n:=n) (f:=fun o=>ent tb o h) fun o ho=>b.le o h ho (Nat.le_of_lt hh)
  have h2:=upto_one (n:=n) (f:=fun j=>ent tb h j) (fun o ho=>w.ent_nn hh (Nat.le_of_lt ho)) hh
  have h3:=w.ent_nn hh (Nat.le_refl n)
  have h4 : (n : Int) * M <= 8 * M:=Int.mul_le_mul_of_nonneg_right (by have:=w.n8; omega) hM
  have h2 : ent tb h h <= upto n fun j=>ent tb h j:=h2
  omega
theorem amuch_ok {S : Store} {L : Nat} (T : Tp S L) : ∃ (k : Int) (S' : Store),(1 <= k /\ k <= 100000000000000000000) /\ Tp S' L /\ Mv L S S' /\ F__law_amuch [.ref L] S = .ok (.int k) S':=by
  obtain ⟨d,S1,hd,T1,M1,e1⟩:=adigit_lit T 12 (by decide) (by decide)
  have e1 : F__law_adigit [.ref L,.int 12] S = .ok (.int d) S1:=e1
  by_cases q : d = 11
  · obtain ⟨x,S2,hx,T2,M2,e2⟩:=adigit_lit T1 3 (by decide) (by decide)
    have e2 : F__law_adigit [.ref L,.int 3] S1 = .ok (.int x) S2:=e2
    have M:=M1.trans M2
    have hp : oPow S1 (.int 10) (.int 20) = .ok (.int 100000000000000000000) S1:=by
      rw [oPow_int,if_pos (by decide)]; rfl
    have step : m__law_amuch [some (.ref L),none] S = .rt (.int (100000000000000000000 - (x : Int))) S2:=
      seq_nx (Γ1:=[some (.ref L),some (.int d)]) (set_ok (call_ok (n:=2) (cons_ok rfl (cons_ok rfl rfl)) rfl e1)) (seq_rt (if_t (tb_ok (op_ok rfl rfl (eqi_t S1 (by omega)))) (ret_ok (op_ok (op_ok rfl rfl hp) (call_ok (n:=2) (cons_ok rfl (cons_ok rfl rfl)) rfl e2) (subi S2 _ _)))))
    exact ⟨_,S2,by omega,T2,M,(callF_rt step).trans (fin_eq M.len _)⟩
  · have b:=emod_lt (d : Int) (b:=7) (by decide)
    have step : m__law_amuch [some (.ref L),none] S = .rt (.int (1 + (d : Int) % 7)) S1:=
      seq_nx (Γ1:=[some (.ref L),some (.int d)]) (set_ok (call_ok (n:=2) (cons_ok rfl (cons_ok rfl rfl)) rfl e1)) (seq_nx (if_f (tb_ok (op_ok rfl rfl (eqi_f S1 (by omega)))) rfl) (ret_ok (op_ok rfl (op_ok rfl rfl (modi S1 (by decide))) (addi S1 _ _))))
    exact ⟨_,S1,by omega,T1,M1,(callF_rt step).trans (fin_eq M1.len _)⟩
theorem other_h {n i y : Nat} (hi : i < n) (hy : y < n - 1) : ∃ q : Nat,((i : Int) + 1 + (y : Int)) % (n : Int) = (q : Int) /\ q < n /\ q ≠ i:=by
  by_cases h : i + 1 + y < n
  · exact ⟨i + 1 + y,by rw [Int.emod_eq_of_lt (by omega) (by omega)]; omega,h,by omega⟩
  · refine ⟨i + 1 + y - n,?_,by omega,by omega⟩
    have e : ((i : Int) + 1 + (y : Int)) = ((i + 1 + y - n : Nat) : Int) + (n : Int):=by omega
    rw [e,Int.add_emod_right,Int.emod_eq_of_lt (by omega) (by omega)]
abbrev tbG (L n m : Nat) (tb : Tab) (c4 c5 c6 c7 c8 : Option PV) : Gam:=[some (.ref L),some (.int n),some (.int m),some (tabV tb),c4,c5,c6,c7,c8]
theorem ent_zero {n i j : Nat} (hi : i < n) (hj : j <= n) : ent (List.replicate n (zRow n)) i j = 0:=by
  unfold ent
  rw [List.getD_eq_getElem?_getD (l:=List.replicate n (zRow n)),List.getElem?_replicate,if_pos hi,Option.getD_some,zRow,List.getD_eq_getElem?_getD,List.getElem?_replicate,if_pos (by omega)]; rfl
structure TbN (n : Nat) (t : Nat) (tb : Tab) : Prop where
  w : Wt' n tb
  nn : ∀ i,i < n -> 0 <= rightsF tb i
  b : Bd n (bM t) tb
theorem TbN.put {n t i j : Nat} {tb : Tab} (I : TbN n t tb) {k : Int} (hi : i < n) (hj : j <= n) (hk : 1 <= k) (h : (j = i /\ k <= 100000000000000000000) \/ (j ≠ i /\ k <= rightsF tb i)) : TbN n (t + 1) (putT tb i j (ent tb i j + k)):=by
  have g:=bM_ge t
  have hr:=rights_le I.w I.b (by omega) hi
  refine ⟨Wt'.set0 I.w hi (by have:=I.w.ent_nn hi hj; omega),fun h' hh=>?_,⟨fun a c ha hc=>?_⟩⟩
  · rw [rights_put I.w.sz hi hj k hh]
    have h1:=I.nn h' hh
    rcases h with ⟨rfl,h2⟩ | ⟨hne,h2⟩
    · by_cases q : h' = j
      · rw [q] at h1 ⊢
        rw [if_pos rfl,if_pos ⟨rfl,rfl⟩]; omega
      · rw [if_neg q,if_neg (fun z=>q z.1)]; omega
    · by_cases q : h' = i
      · subst q
        rw [if_neg (fun z=>hne z.symm),if_pos rfl,if_neg (fun z=>hne z.2)]
        omega
      · rw [if_neg (c:=h' = i /\ j = i) (fun z=>q z.1),if_neg (c:=h' = i) q]
        split <;> omega
  · rw [ent_put I.w.sz hi hj,bM_succ]
    have h1:=I.b.le a c ha hc
    have h3:=I.b.le i j hi hj
    split <;> omega
theorem atable_turn {S : Store} {L n m t : Nat} {tb : Tab} (T : Tp S L) (I : TbN n t tb) (ht : t <= 20) (c4 c5 c6 c7 c8 : Option PV) : ∃ (tb' : Tab) (S' : Store) (d5 d6 d7 d8 : Option PV),TbN n (t + 1) tb' /\ Tp S' L /\ Mv L S S' /\ b__law_atable_1 (tbG L n m tb c4 c5 c6 c7 c8) S = .nx (tbG L n m tb' c4 d5 d6 d7 d8) S':=by
  have w:=I.w
  have h1:=w.n1
  have h8:=w.n8
  obtain ⟨i,S1,hi,T1,M1,e1⟩:=adigit_lit T n h1 (by omega)
  obtain ⟨y,S2,hy,T2,M2,e2⟩:=adigit_lit T1 4 (by decide) (by decide)
  have e2 : F__law_adigit [.ref L,.int 4] S1 = .ok (.int y) S2:=e2
  have e3:=arights_ok w.sz (by omega) hi S2
  obtain ⟨r,hr⟩ : ∃ r : Nat,rightsF tb i = (r : Int):=⟨(rightsF tb i).toNat,by have:=I.nn i hi; omega⟩
  rw [hr] at e3
  have M12:=M1.trans M2
  have k1 : mSet 5 (mCallF 2 F__law_adigit (mCons (mVar 0) (mCons (mVar 1) mNil))) (tbG L n m tb c4 c5 c6 c7 c8) S = .nx (tbG L n m tb c4 (some (.int i)) c6 c7 c8) S1:=set_ok (call_ok (n:=2) (cons_ok rfl (cons_ok rfl rfl)) rfl e1)
  have k2 : mSet 6 (mCallF 2 F__law_adigit (mCons (mVar 0) (mCons (mC (.int 4)) mNil))) (tbG L n m tb c4 (some (.int i)) c6 c7 c8) S1 = .nx (tbG L n m tb c4 (some (.int i)) (some (.int y)) c7 c8) S2:=set_ok (call_ok (n:=2) (cons_ok rfl (cons_ok rfl rfl)) rfl e2)
  have k3 : mSet 7 (mCallF 2 F__law_arights (mCons (mVar 3) (mCons (mVar 5) mNil))) (tbG L n m tb c4 (some (.int i)) (some (.int y)) c7 c8) S2 = .nx (tbG L n m tb c4 (some (.int i)) (some (.int y)) (some (.int r)) c8) S2:=set_ok (call_ok (n:=2) (cons_ok rfl (cons_ok rfl rfl)) rfl e3)
  have hrb:=rights_le w I.b (by have:=bM_ge t; omega) hi
  have hbl:=bM_lt (t:=t) (by omega)
  have hrN : r < 2 ^ 8000:=big_of (by
    have : (r : Int) < 10 ^ 100:=by omega
    exact_mod_cast this)
  by_cases q : y < 2 \/ r = 0
  · obtain ⟨k,S3,hk,T3,M3,e4⟩:=amuch_ok T2
    have e5:=araised_ok w.sz (by omega) hi (Nat.le_of_lt hi) k S3
    refine ⟨_,S3,_,_,_,_,I.put hi (Nat.le_of_lt hi) hk.1 (.inl ⟨rfl,hk.2⟩),T3,M12.trans M3,seq_nx k1 (seq_nx k2 (seq_nx k3 (if_t ?_ (set_ok (call_ok (n:=4) (cons_ok rfl (cons_ok rfl (cons_ok rfl (cons_ok (call_ok (n:=1) (cons_ok rfl rfl) rfl e4) rfl)))) rfl e5)))))⟩
    by_cases q1 : y < 2
    · exact or_t (tb_ok (op_ok rfl rfl (lti_t S2 (by omega))))
    · exact or_f (tb_ok (op_ok rfl rfl (lti_f S2 (by omega)))) (tb_ok (op_ok rfl rfl (eqi_t S2 (by omega))))
  · have hr1 : 1 <= r:=by omega
    have t1 : tOrM (toB (mOp oLt (mVar 6) (mC (.int 2)))) (toB (mOp oEq (mVar 7) (mC (.int 0)))) (tbG L n m tb c4 (some (.int i)) (some (.int y)) (some (.int r)) c8) S2 = .ok false S2:=or_f (tb_ok (op_ok rfl rfl (lti_f S2 (by omega)))) (tb_ok (op_ok rfl rfl (eqi_f S2 (by omega))))
    by_cases q2 : y = 2 /\ 1 < n
    · obtain ⟨z,S3,hz,T3,M3,e4⟩:=adigit_lit T2 (n - 1) (by omega) (by omega)
      have e4 : F__law_adigit [.ref L,.int ((n : Int) - 1)] S2 = .ok (.int z) S3:=by rw [show ((n : Int) - 1) = ((n - 1 : Nat) : Int) by omega]; exact e4
      obtain ⟨j,ej,hj,hne⟩:=other_h hi hz
      obtain ⟨x,S4,hx,T4,M4,e5⟩:=adigit_ok T3 r hr1 hrN
      have e6:=araised_ok w.sz (by omega) hi (Nat.le_of_lt hj) (1 + (x : Int)) S4
      refine ⟨_,S4,_,_,_,_,I.put hi (Nat.le_of_lt hj) (show (1 : Int) <= 1 + (x : Int) by omega) (.inr ⟨hne,?_⟩),T4,(M12.trans M3).trans M4,seq_nx k1 (seq_nx k2 (seq_nx k3 (if_f t1 (if_t (and_t (tb_ok (op_ok rfl rfl (eqi_t S2 (by omega)))) (tb_ok (op_ok rfl rfl (gti_t S2 (by omega))))) (seq_nx (Γ1:=tbG L n m tb c4 (some (.int i)) (some (.int y)) (some (.int r)) (some (.int j))) (S1:=S3) (set_ok (op_ok (op_ok (op_ok rfl rfl (addi S2 _ _)) (call_ok (n:=2) (cons_ok rfl (cons_ok (op_ok rfl rfl (subi S2 _ _)) rfl)) rfl e4) (addi S3 _ _)) rfl ?_)) (set_ok (call_ok (n:=4) (cons_ok rfl (cons_ok rfl (cons_ok rfl (cons_ok (op_ok rfl (call_ok (n:=2) (cons_ok rfl (cons_ok rfl rfl)) rfl e5) (addi S4 _ _)) rfl)))) rfl e6)))))))⟩
      · show 1 + (x : Int) <= rightsF tb i
        rw [hr]; omega
      · rw [modi S3 (by omega),ej]
    · obtain ⟨x,S4,hx,T4,M4,e5⟩:=adigit_ok T2 r hr1 hrN
      have e6:=araised_ok w.sz (by omega) hi (Nat.le_refl n) (1 + (x : Int)) S4
      have t2 : tAndM (toB (mOp oEq (mVar 6) (mC (.int 2)))) (toB (mOp (oI fun a b=>.bl (decide (b < a))) (mVar 1) (mC (.int 1)))) (tbG L n m tb c4 (some (.int i)) (some (.int y)) (some (.int r)) c8) S2 = .ok false S2:=by
        by_cases q3 : y = 2
        · exact and_t (tb_ok (op_ok rfl rfl (eqi_t S2 (by omega)))) (tb_ok (op_ok rfl rfl (gti_f S2 (by omega))))
        · exact and_f (tb_ok (op_ok rfl rfl (eqi_f S2 (by omega))))
      refine ⟨_,S4,_,_,_,_,I.put hi (Nat.le_refl n) (show (1 : Int) <= 1 + (x : Int) by omega) (.inr ⟨by omega,?_⟩),T4,M12.trans M4,seq_nx k1 (seq_nx k2 (seq_nx k3 (if_f t1 (if_f t2 (set_ok (call_ok (n:=4) (cons_ok rfl (cons_ok rfl (cons_ok rfl (cons_ok (op_ok rfl (call_ok (n:=2) (cons_ok rfl (cons_ok rfl rfl)) rfl e5) (addi S4 _ _)) rfl)))) rfl e6))))))⟩
      show 1 + (x : Int) <= rightsF tb i
      rw [hr]; omega
theorem atable_ok {S : Store} {L n m : Nat} (T : Tp S L) (h1 : 1 <= n) (h8 : n <= 8) (hm : m <= 9) : ∃ (tb : Tab) (S' : Store),TbN n m tb /\ Tp S' L /\ Mv L S S' /\ F__law_atable [.ref L,.int n,.int m] S = .ok (tabV tb) S':=by
  have w0:=zTab_wt h1 h8
  have I0 : TbN n 0 (List.replicate n (zRow n)):=by
    refine ⟨w0,fun i hi=>?_,⟨fun i j hi hj=>by rw [ent_zero hi hj]; have:=bM_ge 0; omega⟩⟩
    rw [rightsF_eq w0.sz hi,upto_congr (g:=fun _=>0) fun o ho=>ent_zero ho (Nat.le_of_lt hi),upto_congr (f:=fun j=>ent _ i j) (g:=fun _=>0) fun o ho=>ent_zero hi (Nat.le_of_lt ho),ent_zero hi (Nat.le_refl n),ent_zero hi (Nat.le_of_lt hi)]
    omega
  obtain ⟨Γ',S',e,tb,c4,c5,c6,c7,c8,rfl,I,T',M⟩:=forG_inv (g:=fun k : Nat=>PV.int (k : Int)) (xs:=List.range m) (ga:=gaName 4) (body:=b__law_atable_1) (w:=[]) (Γ:=tbG L n m (List.replicate n (zRow n)) none none none none none) (st:=S)
    (fun t Γ st=>∃ tb c4 c5 c6 c7 c8,Γ = tbG L n m tb c4 c5 c6 c7 c8 /\ TbN n t tb /\ Tp st L /\ Mv L S st) (fun _ _ _ _=>by simp)
    (fun t x Γ st hx ⟨tb,c4,c5,c6,c7,c8,hΓ,I,T,M⟩=>by
      subst hΓ
      have htm : t < m:=by simpa using (List.getElem?_eq_some_iff.mp hx).1
      obtain ⟨tb',S',d5,d6,d7,d8,I',T',M',e⟩:=atable_turn (m:=m) T I (by omega) (some (.int x)) c5 c6 c7 c8
      exact ⟨_,rfl,_,_,e,_,_,_,_,_,_,rfl,I',T',M.trans M'⟩)
    ⟨_,_,_,_,_,_,rfl,I0,T,Mv.refl L S⟩
  rw [List.length_range] at I
  rw [<- rangeI0] at e
  have hrg : mRange1 (mCons (mVar 2) mNil) (tbG L n m (List.replicate n (zRow n)) none none none none none) S = .ok (rangeI 0 m,[]) S:=by
    rw [mRange1_eq,cons_ok (m:=mVar 2) (p:=.int m) (S1:=S) rfl (show mNil _ S = .ok [] S from rfl),bind_ok]
    show (if -(lim : Int) <= (m : Int) /\ (m : Int) <= lim then _ else _) = _
    rw [if_pos (by rw [lim_eq]; omega),Int.toNat_natCast]
  have step : m__law_atable [some (.ref L),some (.int n),some (.int m),none,none,none,none,none,none] S = .rt (tabV tb) S':=
    seq_nx (Γ1:=tbG L n m (List.replicate n (zRow n)) none none none none none) (set_ok (call_ok (n:=1) (cons_ok rfl rfl) rfl (abare_ok h8 S))) (seq_nx (for_ok hrg e) rfl)
  exact ⟨tb,S',I,T',M,(callF_rt step).trans (fin_goodE M.len (by simp [good,tabV,rowV]))⟩
theorem idx_hi (l : Option Int) {j : Int} {len : Nat} (h : (len : Int) <= j) : Builtin.Str.strSliceIndices l (some j) 1 len = Builtin.Str.strSliceIndices l (some (len : Int)) 1 len:=by
  have a : ¬ ((len : Int) < 0):=by omega
  have b : ¬ (j < 0):=by omega
  have c : min j (len : Int) = len:=by omega
  simp [Builtin.Str.strSliceIndices,a,b,c]
theorem idx_lo (u : Option Int) {j : Int} {len : Nat} (h : (len : Int) <= j) : Builtin.Str.strSliceIndices (some j) u 1 len = Builtin.Str.strSliceIndices (some (len : Int)) u 1 len:=by
  have a : ¬ ((len : Int) < 0):=by omega
  have b : ¬ (j < 0):=by omega
  have c : min j (len : Int) = len:=by omega
  simp [Builtin.Str.strSliceIndices,a,b,c]
theorem slice_to (x : Str) (n : Nat) : Txt.slice x none (some (n : Int)) = tx (x.cps.toList.take n):=by
  have lx : x.cps.toList.length = x.length:=by rw [Array.length_toList]; rfl
  by_cases q : n <= x.length
  · have:=StrLaws.sliceText_to (x:=x) (j:=(n : Int)) ⟨by omega,by omega⟩
    refine this.trans ?_
    rw [List.drop_zero,show ((n : Int) - 0).toNat = n by omega]; rfl
  · have e : Txt.slice x none (some (n : Int)) = StrLaws.sliceText x none (some (x.length : Int)):=by
      unfold Txt.slice StrLaws.sliceText
      rw [idx_hi none (show (x.length : Int) <= (n : Int) by omega)]
    rw [e,StrLaws.sliceText_to ⟨by omega,by omega⟩,List.drop_zero,show ((x.length : Int) - 0).toNat = x.length by omega,List.take_of_length_le (by omega),List.take_of_length_le (by omega)]
    rfl
theorem slice_from (x : Str) (n : Nat) : Txt.slice x (some (n : Int)) none = tx (x.cps.toList.drop n):=by
  have lx : x.cps.toList.length = x.length:=by rw [Array.length_toList]; rfl
  by_cases q : n <= x.length
  · have:=StrLaws.sliceText_from (x:=x) (i:=(n : Int)) ⟨by omega,by omega⟩
    refine this.trans ?_
    rw [show ((n : Int)).toNat = n by omega,List.take_of_length_le (by rw [List.length_drop]; omega)]
    rfl
  · have e : Txt.slice x (some (n : Int)) none = StrLaws.sliceText x (some (x.length : Int)) none:=by
      unfold Txt.slice StrLaws.sliceText
      rw [idx_lo none (show (x.length : Int) <= (n : Int) by omega)]
    rw [e,StrLaws.sliceText_from ⟨by omega,by omega⟩,show ((x.length : Int)).toNat = x.length by omega,List.drop_of_length_le (by omega),List.drop_of_length_le (by omega),List.take_nil]
    rfl
theorem sl_to {m p : ME} {Γ : Gam} {S S1 : Store} {x : Str} {n : Nat} (h : m Γ S = .ok (.str x) S1) (hp : p Γ S1 = .ok (.int (n : Nat)) S1) (hl : x.length <= 1000000) : mSlS m mNoPart (mPart p) Γ S = .ok (.str (tx (x.cps.toList.take n))) S1:=by
  unfold mSlS
  rw [h,bind_ok]
  show (Res.ok (none : Option Int) S1).bind _ = _
  rw [bind_ok]
  show ((p Γ S1).bind _).bind _ = _
  rw [hp,bind_ok]
  show (if x.length <= 1000000 then Res.ok (PV.str (Txt.slice x none (some (n : Int)))) S1 else .stuck) = _
  rw [if_pos hl,slice_to]
theorem sl_from {m p : ME} {Γ : Gam} {S S1 : Store} {x : Str} {n : Nat} (h : m Γ S = .ok (.str x) S1) (hp : p Γ S1 = .ok (.int (n : Nat)) S1) (hl : x.length <= 1000000) : mSlS m (mPart p) mNoPart Γ S = .ok (.str (tx (x.cps.toList.drop n))) S1:=by
  unfold mSlS
  rw [h,bind_ok]
  show ((p Γ S1).bind _).bind _ = _
  rw [hp,bind_ok]
  show (Res.ok (some (n : Int)) S1).bind _ = _
  rw [bind_ok]
  show (Res.ok (none : Option Int) S1).bind _ = _
  rw [bind_ok]
  show (if x.length <= 1000000 then Res.ok (PV.str (Txt.slice x (some (n : Int)) none)) S1 else .stuck) = _
  rw [if_pos hl,slice_from]
theorem ixS_ok {z : Str} {d : Nat} (h : d < z.length) (hz : z.length <= 1000000) (S : Store) : ∃ c,c ∈ z.cps.toList /\ oIxS S (.str z) (.int (d : Nat)) = .ok (.str ⟨#[c]⟩) S:=by
  have lz : z.cps.toList.length = z.length:=by rw [Array.length_toList]; rfl
  obtain ⟨c,hc⟩ : ∃ c,z.cps.toList[d]? = some c:=⟨_,List.getElem?_eq_getElem (by omega)⟩
  refine ⟨c,List.mem_of_getElem? hc,?_⟩
  show (match atI z.cps.toList (d : Int) with | some c=>if z.length <= lim then Res.ok (PV.str ⟨#[c]⟩) S else .stuck | none=>.stuck) = _
  rw [Sm.atI_get hc]
  exact if_pos hz
theorem adds {S : Store} {a b : Str} (h : a.length + b.length <= 1000000) : oAdd S (.str a) (.str b) = .ok (.str (a ++ b)) S:=by
  show (if a.length + b.length <= lim then Res.ok (PV.str (a ++ b)) S else .stuck) = _
  exact if_pos h
def Sh (k n : Nat) (y : Str) : Prop:=y.length <= n /\ Rn k y.cps.toList
theorem Sh.app {k n k2 n2 : Nat} {y z : Str} (h : Sh k n y) (h2 : Sh k2 n2 z) : Sh (k + k2) (n + n2) (y ++ z):=by
  refine ⟨?_,?_⟩
  · have:=Str.length_append y z
    have:=h.1
    have:=h2.1
    omega
  · have : (y ++ z).cps.toList = y.cps.toList ++ z.cps.toList:=by rw [Str.cps_append]; simp
    rw [this]
    exact h.2.app h2.2
theorem Sh.up {k n k2 n2 : Nat} {y : Str} (h : Sh k n y) (hk : k <= k2) (hn : n <= n2) : Sh k2 n2 y:=⟨Nat.le_trans h.1 hn,h.2.up hk⟩
theorem Sh.lit (y : Str) : Sh y.length y.length y:=⟨Nat.le_refl _,by
  have:=Rn.len y.cps.toList
  rwa [Array.length_toList] at this⟩
theorem Sh.tk {k n : Nat} {y : Str} (h : Sh k n y) (m : Nat) : Sh k n (tx (y.cps.toList.take m)):=by
  have lx : y.cps.toList.length = y.length:=by rw [Array.length_toList]; rfl
  refine ⟨?_,by rw [tx_cps]; exact h.2.take m⟩
  have:=h.1
  rw [tx_len,List.length_take]; omega
theorem Sh.dr {k n : Nat} {y : Str} (h : Sh k n y) (m : Nat) : Sh k n (tx (y.cps.toList.drop m)):=by
  have lx : y.cps.toList.length = y.length:=by rw [Array.length_toList]; rfl
  refine ⟨?_,by rw [tx_cps]; exact h.2.drop m⟩
  have:=h.1
  rw [tx_len,List.length_drop]; omega
theorem abent_ok {S : Store} {L : Nat} {x : Str} (T : Tp S L) (hx : Sh 36 3000 x) : ∃ (y : Str) (S' : Store),Sh 80 100000 y /\ Mv L S S' /\ F__law_abent [.ref L,.str x] S = .ok (.str y) S':=by
  have hl:=hx.1
  have hl' : x.length <= 1000000:=by omega
  obtain ⟨a,S1,ha,T1,M1,e1⟩:=adigit_ok T (x.length + 1) (by omega) (big_of (Nat.lt_of_le_of_lt (show x.length + 1 <= 100000 by omega) (by decide)))
  have e1 : F__law_adigit [.ref L,.int ((x.length : Int) + 1)] S = .ok (.int a) S1:=e1
  obtain ⟨g,S2,hg,T2,M2,e2⟩:=adigit_lit T1 11 (by decide) (by decide)
  have e2 : F__law_adigit [.ref L,.int 11] S1 = .ok (.int g) S2:=e2
  obtain ⟨w,S3,hw,T3,M3,e3⟩:=adigit_lit T2 8 (by decide) (by decide)
  have e3 : F__law_adigit [.ref L,.int 8] S2 = .ok (.int w) S3:=e3
  obtain ⟨f,S4,hf,T4,M4,e4⟩:=adigit_lit T3 5 (by decide) (by decide)
  have e4 : F__law_adigit [.ref L,.int 5] S3 = .ok (.int f) S4:=e4
  obtain ⟨c,_,ec⟩:=ixS_ok (z:=Str.ofString "019 /-+.a\n_") (d:=g) (by rw [show (Str.ofString "019 /-+.a\n_").length = 11 by decide +kernel]; exact hg) (by decide +kernel) S2
  obtain ⟨s,es⟩ : ∃ s : Str,(⟨#[c]⟩ : Str) = s:=⟨_,rfl⟩
  have hs : Sh 1 1 s:=by rw [<- es]; exact Sh.lit _
  rw [es] at ec
  have M:=((M1.trans M2).trans M3).trans M4
  have hA:=hx.tk a
  have hB:=hx.dr (a + 1)
  have hC:=hx.dr a
  obtain ⟨u,hu,eu⟩ : ∃ u : Str,Sh 6 6 u /\ oIx S4 (.lst [.str " ",.str " /",.str " / ",.str "\n",.str " / 0 0"]) (.int (f : Nat)) = .ok (.str u) S4:=by
    have : f = 0 \/ f = 1 \/ f = 2 \/ f = 3 \/ f = 4:=by omega
    rcases this with rfl | rfl | rfl | rfl | rfl
    · exact ⟨_,(Sh.lit (Str.ofString " ")).up (by decide +kernel) (by decide +kernel),rfl⟩
    · exact ⟨_,(Sh.lit (Str.ofString " /")).up (by decide +kernel) (by decide +kernel),rfl⟩
    · exact ⟨_,(Sh.lit (Str.ofString " / ")).up (by decide +kernel) (by decide +kernel),rfl⟩
    · exact ⟨_,(Sh.lit (Str.ofString "\n")).up (by decide +kernel) (by decide +kernel),rfl⟩
    · exact ⟨_,(Sh.lit (Str.ofString " / 0 0")).up (by decide +kernel) (by decide +kernel),rfl⟩
  have h1 : Sh 1 1 (Str.ofString " "):=Sh.lit _
  have h0 : Sh 1 1 (Str.ofString "0"):=Sh.lit _
  obtain ⟨A,eA⟩ : ∃ A,tx (x.cps.toList.take a) = A:=⟨_,rfl⟩
  obtain ⟨B,eB⟩ : ∃ B,tx (x.cps.toList.drop (a + 1)) = B:=⟨_,rfl⟩
  obtain ⟨C,eC⟩ : ∃ C,tx (x.cps.toList.drop a) = C:=⟨_,rfl⟩
  rw [eA] at hA
  rw [eB] at hB
  rw [eC] at hC
  have sA : ∀ {Γ : Gam} {S : Store},Γ[1]? = some (some (.str x)) -> Γ[2]? = some (some (.int a)) -> mSlS (mVar 1) mNoPart (mPart (mVar 2)) Γ S = .ok (.str A) S:=fun {Γ S} p q=>by
    rw [<- eA]
    exact sl_to (by unfold mVar; rw [p]) (by unfold mVar; rw [q]) hl'
  have sB : ∀ {Γ : Gam} {S : Store},Γ[1]? = some (some (.str x)) -> Γ[2]? = some (some (.int a)) -> mSlS (mVar 1) (mPart (mOp oAdd (mVar 2) (mC (.int 1)))) mNoPart Γ S = .ok (.str B) S:=fun {Γ S} p q=>by
    rw [<- eB]
    exact sl_from (n:=a + 1) (by unfold mVar; rw [p]) (op_ok (x:=.int a) (S1:=S) (S2:=S) (by unfold mVar; rw [q]) rfl rfl) hl'
  have sC : ∀ {Γ : Gam} {S : Store},Γ[1]? = some (some (.str x)) -> Γ[2]? = some (some (.int a)) -> mSlS (mVar 1) (mPart (mVar 2)) mNoPart Γ S = .ok (.str C) S:=fun {Γ S} p q=>by
    rw [<- eC]
    exact sl_from (by unfold mVar; rw [p]) (by unfold mVar; rw [q]) hl'
  have nA:=hA.1
  have nB:=hB.1
  have nC:=hC.1
  have nS:=hs.1
  have nu:=hu.1
  have n1:=(hA.app hs).1
  have k1 : mLst (mCons (mOp oAdd (mOp oAdd (mSlS (mVar 1) mNoPart (mPart (mVar 2))) (mVar 3)) (mSlS (mVar 1) (mPart (mOp oAdd (mVar 2) (mC (.int 1)))) mNoPart)) (mCons (mOp oAdd (mOp oAdd (mSlS (mVar 1) mNoPart (mPart (mVar 2))) (mVar 3)) (mSlS (mVar 1) (mPart (mVar 2)) mNoPart)) (mCons (mOp oAdd (mSlS (mVar 1) mNoPart (mPart (mVar 2))) (mSlS (mVar 1) (mPart (mOp oAdd (mVar 2) (mC (.int 1)))) mNoPart)) (mCons (mOp oAdd (mSlS (mVar 1) mNoPart (mPart (mVar 2))) (mVar 1)) mNil)))) [some (.ref L),some (.str x),some (.int a),some (.str s),some (.int w),none] S3 = .ok (.lst [.str (A ++ s ++ B),.str (A ++ s ++ C),.str (A ++ B),.str (A ++ x)]) S3:=
    bi_lst (cons_ok (op_ok (op_ok (sA rfl rfl) rfl (adds (by omega))) (sB rfl rfl) (adds (by omega))) (cons_ok (op_ok (op_ok (sA rfl rfl) rfl (adds (by omega))) (sC rfl rfl) (adds (by omega))) (cons_ok (op_ok (sA rfl rfl) (sB rfl rfl) (adds (by omega))) (cons_ok (op_ok (sA rfl rfl) rfl (adds (by omega))) rfl)))) (show 4 <= 1000000 by decide)
  have k2 : mOp oAdd (mVar 5) (mLst (mCons (mSlS (mVar 1) mNoPart (mPart (mVar 2))) (mCons (mOp oAdd (mVar 1) (mOp oIx (mLst (mCons (mC (.str " ")) (mCons (mC (.str " /")) (mCons (mC (.str " / ")) (mCons (mC (.str "\n")) (mCons (mC (.str " / 0 0")) mNil)))))) (mCallF 2 F__law_adigit (mCons (mVar 0) (mCons (mC (.int 5)) mNil))))) (mCons (mOp oAdd (mC (.str " ")) (mVar 1)) (mCons (mOp oAdd (mC (.str "0")) (mVar 1)) mNil))))) [some (.ref L),some (.str x),some (.int a),some (.str s),some (.int w),some (.lst [.str (A ++ s ++ B),.str (A ++ s ++ C),.str (A ++ B),.str (A ++ x)])] S3
      = .ok (.lst [.str (A ++ s ++ B),.str (A ++ s ++ C),.str (A ++ B),.str (A ++ x),.str A,.str (x ++ u),.str (Str.ofString " " ++ x),.str (Str.ofString "0" ++ x)]) S4:=by
    refine op_ok (S1:=S3) (S2:=S4) rfl (bi_lst (cons_ok (sA rfl rfl) (cons_ok (op_ok rfl (op_ok (bi_lst rfl) (call_ok (n:=2) (cons_ok rfl (cons_ok rfl rfl)) rfl e4) eu) (adds (by omega))) (cons_ok (op_ok rfl rfl (adds (by have:=h1.1; omega))) (cons_ok (op_ok rfl rfl (adds (by have:=h0.1; omega))) rfl)))) (show 4 <= 1000000 by decide)) ?_
    rw [oAdd_lstL]
    exact if_pos (show 4 + 4 <= lim by decide)
  obtain ⟨v,hv,ev⟩ : ∃ v : Str,Sh 80 100000 v /\ oIx S4 (.lst [.str (A ++ s ++ B),.str (A ++ s ++ C),.str (A ++ B),.str (A ++ x),.str A,.str (x ++ u),.str (Str.ofString " " ++ x),.str (Str.ofString "0" ++ x)]) (.int (w : Nat)) = .ok (.str v) S4:=by
    have : w = 0 \/ w = 1 \/ w = 2 \/ w = 3 \/ w = 4 \/ w = 5 \/ w = 6 \/ w = 7:=by omega
    rcases this with rfl | rfl | rfl | rfl | rfl | rfl | rfl | rfl
    · exact ⟨_,((hA.app hs).app hB).up (by decide) (by decide),rfl⟩
    · exact ⟨_,((hA.app hs).app hC).up (by decide) (by decide),rfl⟩
    · exact ⟨_,(hA.app hB).up (by decide) (by decide),rfl⟩
    · exact ⟨_,(hA.app hx).up (by decide) (by decide),rfl⟩
    · exact ⟨_,hA.up (by decide) (by decide),rfl⟩
    · exact ⟨_,(hx.app hu).up (by decide) (by decide),rfl⟩
    · exact ⟨_,(h1.app hx).up (by decide) (by decide),rfl⟩
    · exact ⟨_,(h0.app hx).up (by decide) (by decide),rfl⟩
  have lx : mOp oAdd (mCall cLen (mCons (mVar 1) mNil)) (mC (.int 1)) [some (.ref L),some (.str x),none,none,none,none] S = .ok (.int ((x.length : Int) + 1)) S:=by
    refine op_ok (S1:=S) (S2:=S) (x:=.int x.length) (bi_ok (ps:=[.str x]) rfl ?_) rfl rfl
    show (if x.length <= lim then Res.ok (PV.int x.length) S else .stuck) = _
    exact if_pos hl'
  have step : m__law_abent [some (.ref L),some (.str x),none,none,none,none] S = .rt (.str (tx (v.cps.toList.take 3000))) S4:=
    seq_nx (set_ok (call_ok (n:=2) (cons_ok rfl (cons_ok lx rfl)) rfl e1)) (seq_nx (set_ok (op_ok rfl (call_ok (n:=2) (cons_ok rfl (cons_ok rfl rfl)) rfl e2) ec)) (seq_nx (set_ok (call_ok (n:=2) (cons_ok rfl (cons_ok rfl rfl)) rfl e3))
      (seq_nx (set_ok k1) (seq_nx (set_ok k2) (ret_ok (sl_to (n:=3000) (op_ok rfl rfl ev) rfl (by have:=hv.1; omega)))))))
  exact ⟨_,S4,hv.tk 3000,M,(callF_rt step).trans (fin_goodE M.len rfl)⟩
structure TbT (t : List (List Nat)) : Prop where
  n1 : 1 <= t.length
  n8 : t.length <= 8
  row : ∀ r ∈ t,r.length = t.length + 1
  lt : ∀ r ∈ t,∀ m ∈ r,m < 10 ^ 36
theorem TbT.rw {t : List (List Nat)} (h : TbT t) : ∀ r ∈ t,Rw r:=fun r hr=>⟨by have:=h.row r hr; have:=h.n8; omega,h.lt r hr⟩
theorem any_item {S : Store} {L : Nat} (T : Tp S L) (j : Option PV) : ∃ (m : Nat) (S' : Store),m < 10 ^ 36 /\ Tp S' L /\ Mv L S S' /\ e__law_aany_1 [j,some (.ref L)] S = .ok (.int (m : Nat)) S':=by
  obtain ⟨d,S1,hd,T1,M1,e1⟩:=adigit_lit T 6 (by decide) (by decide)
  have e1 : F__law_adigit [.ref L,.int 6] S = .ok (.int d) S1:=e1
  have hp : oPow S (.int 10) (.int 29) = .ok (.int 100000000000000000000000000000) S:=by rw [oPow_int,if_pos (by decide)]; rfl
  have hL : mLst (mCons (mC (.int 0)) (mCons (mC (.int 7)) (mCons (mC (.int 10)) (mCons (mOp oAdd (mOp oPow (mC (.int 10)) (mC (.int 29))) (mC (.int 3))) (mCons (mC (.int 100)) (mCons (mC (.int 1)) mNil)))))) [j,some (.ref L)] S = .ok (.lst [.int 0,.int 7,.int 10,.int 100000000000000000000000000003,.int 100,.int 1]) S:=
    bi_lst (cons_ok rfl (cons_ok rfl (cons_ok rfl (cons_ok (op_ok (op_ok rfl rfl hp) rfl (addi S _ _)) (cons_ok rfl (cons_ok rfl rfl)))))) (show 6 <= 1000000 by decide)
  have : d = 0 \/ d = 1 \/ d = 2 \/ d = 3 \/ d = 4 \/ d = 5:=by omega
  have go : ∀ m : Nat,m < 10 ^ 36 -> oIx S1 (.lst [.int 0,.int 7,.int 10,.int 100000000000000000000000000003,.int 100,.int 1]) (.int (d : Nat)) = .ok (.int (m : Nat)) S1 -> ∃ (m : Nat) (S' : Store),m < 10 ^ 36 /\ Tp S' L /\ Mv L S S' /\ e__law_aany_1 [j,some (.ref L)] S = .ok (.int (m : Nat)) S':=fun m hm h=>
    ⟨m,S1,hm,T1,M1,op_ok hL (call_ok (n:=2) (cons_ok rfl (cons_ok rfl rfl)) rfl e1) h⟩
  rcases this with rfl | rfl | rfl | rfl | rfl | rfl
  · exact go 0 (by decide) rfl
  · exact go 7 (by decide) rfl
  · exact go 10 (by decide) rfl
  · exact go 100000000000000000000000000003 (by decide) rfl
  · exact go 100 (by decide) rfl
  · exact go 1 (by decide) rfl
theorem aany_ok {S : Store} {L : Nat} (T : Tp S L) : ∃ (t : List (List Nat)) (S' : Store),TbT t /\ Tp S' L /\ F__law_aany [.ref L] S = .ok (tbP t) S':=by
  obtain ⟨d,S1,hd,T1,M1,e1⟩:=adigit_lit T 8 (by decide) (by decide)
  have e1 : F__law_adigit [.ref L,.int 8] S = .ok (.int d) S1:=e1
  obtain ⟨n,en⟩ : ∃ n : Nat,1 + d = n:=⟨_,rfl⟩
  have hLS : L < S.length:=T.lt
  have hL1 : L < S1.length:=T1.lt
  obtain ⟨Γ',S',e,rows,c3,c4,rfl,hlen,T',hR,hr1,hr2⟩:=forG_inv (g:=fun k : Nat=>PV.int (k : Int)) (xs:=List.range n) (ga:=gaName 3) (body:=b__law_aany_1) (w:=[]) (Γ:=[some (.ref L),some (.int n),some (.ref S1.length),none,none]) (st:=S1 ++ [.lst []])
    (fun k Γ st=>∃ (rows : List (List Nat)) (c3 c4 : Option PV),Γ = [some (.ref L),some (.int n),some (.ref S1.length),c3,c4] /\ rows.length = k /\ Tp st L /\ st[S1.length]? = some (.lst (rows.map rwP)) /\ (∀ r ∈ rows,r.length = n + 1 /\ ∀ m ∈ r,m < 10 ^ 36) /\ st.length = S1.length + 1) (fun _ _ st _=>wOk_nil st)
    (fun k x Γ st hx ⟨rows,c3,c4,hΓ,hk,T,hR,hr,hl⟩=>by
      subst hΓ
      have hkn : k < n:=by simpa using (List.getElem?_eq_some_iff.mp hx).1
      obtain ⟨out,st1,ec,row,hout,hrl,hrm,T2,M2⟩:=compG_inv (g:=fun k : Nat=>PV.int (k : Int)) (xs:=List.range (n + 1)) (ga:=gaName 0) (me:=e__law_aany_1) (w:=[]) (Γ0:=capG [none,some 0] [some (.ref L),some (.int n),some (.ref S1.length),some (.int (x : Int)),c4]) (st:=st)
        (fun i out st'=>∃ row : List Nat,out = row.map (fun m : Nat=>PV.int (m : Nat)) /\ row.length = i /\ (∀ m ∈ row,m < 10 ^ 36) /\ Tp st' L /\ Mv L st st') (fun _ _ st' _=>wOk_nil st')
        (fun i y out st' _ ⟨row,ho,hi,hm,T3,M3⟩=>by
          obtain ⟨m,S3,hm1,T4,M4,e4⟩:=any_item T3 (some (.int (y : Int)))
          refine ⟨_,rfl,_,S3,e4,row ++ [m],by rw [ho,List.map_append]; rfl,by simp [hi],fun z hz=>?_,T4,M3.trans M4⟩
          rcases List.mem_append.mp hz with hz | hz
          · exact hm z hz
          · rw [List.mem_singleton.mp hz]; exact hm1) ⟨[],rfl,rfl,fun _ h=>by simp at h,T,Mv.refl L st⟩
      rw [List.length_range] at hrl
      rw [<- rangeI0] at ec
      have hrg : mRange1 (mCons (mOp oAdd (mVar 1) (mC (.int 1))) mNil) [some (.ref L),some (.int n),some (.ref S1.length),some (.int (x : Int)),c4] st = .ok (rangeI 0 (n + 1),[]) st:=rg_ok (n:=n + 1) (by omega) (op_ok rfl rfl (addi st _ _))
      have hR1 : st1[S1.length]? = some (.lst (rows.map rwP)):=by rw [M2.keep _ (by omega)]; exact hR
      refine ⟨_,rfl,_,_,seq_nx (set_ok (val_ok (comp_ok hrg ec))) (app_ok rfl (lof hR1) (cons_ok (bi_ok (ps:=[.lst out]) rfl rfl) rfl) (app_lst hR1 (by rw [List.length_map]; omega) _)),rows ++ [row],some (.int (x : Int)),some (.lst out),rfl,by simp [hk],?_,?_,?_,?_⟩
      · obtain ⟨c,hc⟩:=T2
        exact ⟨c,by rw [List.getElem?_set_ne (by omega)]; exact hc⟩
      · rw [List.getElem?_set_self (by rw [M2.len]; omega),List.map_append,hout]; rfl
      · intro r hr'
        rcases List.mem_append.mp hr' with hr' | hr'
        · exact hr r hr'
        · rw [List.mem_singleton.mp hr']; exact ⟨hrl,hrm⟩
      · rw [List.length_set,M2.len,hl])
    ⟨[],none,none,rfl,rfl,by obtain ⟨c,hc⟩:=T1; exact ⟨c,by rw [List.getElem?_append_left hL1]; exact hc⟩,by simp,fun _ h=>by simp at h,by simp⟩
  rw [List.length_range] at hlen
  rw [<- rangeI0] at e
  have hd1 : mSet 1 (mOp oAdd (mC (.int 1)) (mCallF 2 F__law_adigit (mCons (mVar 0) (mCons (mC (.int 8)) mNil)))) [some (.ref L),none,none,none,none] S = .nx [some (.ref L),some (.int n),none,none,none] S1:=by
    rw [show (n : Int) = 1 + (d : Int) by omega]
    exact set_ok (op_ok rfl (call_ok (n:=2) (cons_ok rfl (cons_ok rfl rfl)) rfl e1) (addi S1 _ _))
  have step : m__law_aany [some (.ref L),none,none,none,none] S = .rt (tbP rows) S':=
    seq_nx hd1 (seq_nx (set_ok (trk_ok rfl)) (seq_nx (for_ok (rg_ok (by omega) rfl) e) (ret_ok (bi_ok (S1:=S') (ps:=[.ref S1.length]) rfl (by rw [cTuple_r,hR]; rfl)))))
  have tt : TbT rows:=⟨by omega,by omega,fun r hr=>by rw [hlen]; exact (hr1 r hr).1,fun r hr=>(hr1 r hr).2⟩
  have fe : F__law_aany [.ref L] S = fin S (tbP rows) S':=callF_rt (nl:=5) (ps:=[.ref L]) step
  unfold fin at fe
  by_cases q : S <+: S'
  · rw [if_pos q,fz_good (good_tbP rows) (by decide)] at fe
    exact ⟨rows,S,tt,T,fe⟩
  · rw [if_neg q] at fe
    exact ⟨rows,S',tt,T',fe⟩
def natT (tb : Tab) : List (List Nat):=tb.map fun r=>r.map Int.toNat
theorem tabV_nat {n : Nat} {tb : Tab} (w : Wt' n tb) : tabV tb = tbP (natT tb):=by
  unfold tabV tbP natT
  rw [List.map_map]
  congr 1
  refine List.map_congr_left fun r hr=>?_
  show rowV r = rwP (r.map Int.toNat)
  unfold rowV rwP
  rw [List.map_map]
  congr 1
  refine List.map_congr_left fun x hx=>?_
  show PV.int x = PV.int (x.toNat : Nat)
  rw [Int.toNat_of_nonneg (w.nn r hr x hx)]
theorem natT_ok {n : Nat} {tb : Tab} (I : TbN n 6 tb) : TbT (natT tb):=by
  have hl : (natT tb).length = n:=by unfold natT; rw [List.length_map]; exact I.w.len
  refine ⟨by rw [hl]; exact I.w.n1,by rw [hl]; exact I.w.n8,fun r hr=>?_,fun r hr m hm=>?_⟩
  · obtain ⟨z,hz,rfl⟩:=List.mem_map.mp hr
    rw [List.length_map,hl]; exact I.w.row z hz
  · obtain ⟨z,hz,rfl⟩:=List.mem_map.mp hr
    obtain ⟨y,hy,rfl⟩:=List.mem_map.mp hm
    obtain ⟨i,hi⟩:=List.getElem?_of_mem hz
    obtain ⟨j,hj⟩:=List.getElem?_of_mem hy
    have hin : i < n:=by have:=(List.getElem?_eq_some_iff.mp hi).1; rw [I.w.len] at this; exact this
    have hjn : j <= n:=by have:=(List.getElem?_eq_some_iff.mp hj).1; rw [I.w.row z hz] at this; omega
    have h1:=I.b.le i j hin hjn
    have h2 : ent tb i j = y:=by
      unfold ent
      rw [List.getD_eq_getElem?_getD (l:=tb),hi,Option.getD_some,List.getD_eq_getElem?_getD,hj,Option.getD_some]
    have h3 : bM 6 < 10 ^ 36:=by decide +kernel
    have h4:=I.w.nn z hz y hy
    rw [h2] at h1
    omega
theorem right_sh {y : Str} {k n : Nat} (h : Sh k n y) (S : Store) (hk : k <= 640:=by decide) (hn : n <= 999998:=by decide) : F__law_aright [.str y] S = .ok (.bl true) S:=aright_ok (Nat.le_trans h.1 hn) (h.2.up hk) S
theorem ifr {m : ME} {Γ : Gam} {S S1 : Store} (h : m Γ S = .ok (.bl true) S1) : mIfS (tNotM (toB m)) (mRet (mC (.bl false))) mNext Γ S = .nx Γ S1:=if_f (not_ok (b:=true) (tb_ok h)) rfl
theorem law3 {ns : List Int} {k t L : Nat} {x : Str} {S : Store} (T : Tp S L) (hx : Sh 36 3000 x) (c2 c3 c4 c7 c8 : Option PV) : ∃ S',Tp S' L /\ b_law_3 [some (.fro (ns.map .int)),some (.int k),c2,c3,c4,some (.str x),some (.int t),c7,c8] S = .nx [some (.fro (ns.map .int)),some (.int k),c2,c3,c4,some (.str x),some (.int t),c7,c8] S':=by
  obtain ⟨c,e1⟩:=atape_ok ns (k + t) S
  have T1 : Tp (S ++ [.lst [.int c]]) S.length:=⟨c,by simp⟩
  obtain ⟨y,S2,hy,M,e2⟩:=abent_ok T1 hx
  refine ⟨S2,?_,ifr (call_ok (n:=1) (cons_ok (call_ok (n:=2) (cons_ok (call_ok (n:=2) (cons_ok rfl (cons_ok (op_ok (v:=.int ((k + t : Nat) : Int)) rfl rfl (addi S _ _)) rfl)) rfl e1) (cons_ok rfl rfl)) rfl e2) rfl) rfl (right_sh hy S2))⟩
  obtain ⟨d,hd⟩:=T
  have hL:=(List.getElem?_eq_some_iff.mp hd).1
  exact ⟨d,by rw [M.keep _ (by omega),List.getElem?_append_left hL]; exact hd⟩
theorem sh_tb {t : List (List Nat)} (h : TbT t) : Sh 36 3000 (tbT t):=by
  refine ⟨?_,rn_tb h.rw⟩
  have h1:=join_len (Str.ofString " / ") (t.map rwT)
  have h2:=tb_sum h.rw
  have h3 : (Str.ofString " / ").length = 3:=by decide +kernel
  rw [h3,List.length_map] at h1
  have:=h.n8
  unfold tbT
  omega
theorem tabB_tb {t : List (List Nat)} (h : TbT t) : (goodT (tbT t) && tabB (tabT (tbT t))) = true:=by
  have h1 : t ≠ []:=fun z=>by have:=h.n1; rw [z] at this; simp at this
  have h2 : ∀ r ∈ t,r ≠ []:=fun r hr z=>by have:=h.row r hr; rw [z] at this; simp at this
  rw [good_tb h1 h2,tab_tb h1 h2,Bool.true_and]
  unfold tabB
  rw [decide_eq_true h.n8,Bool.true_and,List.all_eq_true]
  exact fun r hr=>decide_eq_true (h.row r hr)
theorem law2 {ns : List Int} {k L : Nat} {t : List (List Nat)} {S : Store} (T : Tp S L) (h : TbT t) (c2 c3 c5 c6 c7 c8 : Option PV) : ∃ S' d5 d6,Tp S' L /\ b_law_2 [some (.fro (ns.map .int)),some (.int k),c2,c3,some (tbP t),c5,c6,c7,c8] S = .nx [some (.fro (ns.map .int)),some (.int k),c2,c3,some (tbP t),d5,d6,c7,c8] S':=by
  have hs:=sh_tb h
  have h1 : t ≠ []:=fun z=>by have:=h.n1; rw [z] at this; simp at this
  have h2 : ∀ r ∈ t,r ≠ []:=fun r hr z=>by have:=h.row r hr; rw [z] at this; simp at this
  have e1:=atext_ok h.rw h.n8 S
  have e2:=show_table_ok h.rw h.n8 S
  have e3:=areading_ok (x:=tbT t) (by have:=hs.1; omega) (hs.2.up (by decide)) S
  rw [if_pos (tabB_tb h),tab_tb h1 h2] at e3
  have n1 : oNe S (.str (tbT t)) (.str (tbT t)) = .ok (.bl false) S:=by simp
  have n2 : oNe S (tbP t) (tbP t) = .ok (.bl false) S:=ne_good (good_dep_tb _) rfl
  obtain ⟨Γ',S',e,d6,rfl,T'⟩:=forG_inv (g:=fun k : Nat=>PV.int (k : Int)) (xs:=List.range 5) (ga:=gaName 6) (body:=b_law_3) (w:=[]) (Γ:=[some (.fro (ns.map .int)),some (.int k),c2,c3,some (tbP t),some (.str (tbT t)),c6,c7,c8]) (st:=S)
    (fun _ Γ st=>∃ d6,Γ = [some (.fro (ns.map .int)),some (.int k),c2,c3,some (tbP t),some (.str (tbT t)),d6,c7,c8] /\ Tp st L) (fun _ _ st _=>wOk_nil st)
    (fun i x Γ st _ ⟨d6,hΓ,T⟩=>by
      subst hΓ
      obtain ⟨S2,T2,e⟩:=law3 (ns:=ns) (k:=k) (t:=x) T hs c2 c3 (some (tbP t)) c7 c8
      exact ⟨_,rfl,_,_,e,_,rfl,T2⟩) ⟨c6,rfl,T⟩
  rw [<- rangeI0] at e
  exact ⟨S',some (.str (tbT t)),d6,T',seq_nx (set_ok (call_ok (n:=1) (cons_ok rfl rfl) rfl e1)) (seq_nx (if_f (or_f (tb_ok (op_ok (call_ok (n:=1) (cons_ok rfl rfl) rfl e2) rfl n1)) (or_f (not_ok (b:=true) (tb_ok (call_ok (n:=1) (cons_ok rfl rfl) rfl (right_sh hs S)))) (tb_ok (op_ok (call_ok (n:=1) (cons_ok rfl rfl) rfl e3) rfl n2)))) rfl) (for_ok (rg_ok (n:=5) (by decide) rfl) e))⟩
theorem law1 {ns : List Int} {k : Nat} {S : Store} (c2 c3 c4 c5 c6 c7 c8 : Option PV) : ∃ S' d2 d3 d4 d5 d6 d7,b_law_1 [some (.fro (ns.map .int)),some (.int k),c2,c3,c4,c5,c6,c7,c8] S = .nx [some (.fro (ns.map .int)),some (.int k),d2,d3,d4,d5,d6,d7,c8] S':=by
  obtain ⟨c,e0⟩:=atape_ok ns k S
  obtain ⟨L,eL⟩ : ∃ L,S.length = L:=⟨_,rfl⟩
  obtain ⟨S0,eS⟩ : ∃ S0,S ++ [Cell.lst [.int c]] = S0:=⟨_,rfl⟩
  have T0 : Tp S0 L:=⟨c,by rw [<- eS,<- eL]; simp⟩
  rw [eS,eL] at e0
  obtain ⟨a,S1,ha,T1,M1,e1⟩:=adigit_lit T0 8 (by decide) (by decide)
  have e1 : F__law_adigit [.ref L,.int 8] S0 = .ok (.int a) S1:=e1
  obtain ⟨tb,S2,I,T2,M2,e2⟩:=atable_ok (n:=1 + a) (m:=6) T1 (by omega) (by omega) (by decide)
  have e2 : F__law_atable [.ref L,.int (1 + (a : Int)),.int 6] S1 = .ok (tbP (natT tb)) S2:=by
    rw [tabV_nat I.w] at e2
    rw [show (1 + (a : Int)) = ((1 + a : Nat) : Int) by omega]; exact e2
  obtain ⟨t2,S3,h2,T3,e3⟩:=aany_ok T2
  obtain ⟨Γ',S4,e4,d4,d5,d6,rfl,T4⟩:=forG_inv (g:=tbP) (xs:=[natT tb,t2]) (ga:=gaName 4) (body:=b_law_2) (w:=[]) (Γ:=[some (.fro (ns.map .int)),some (.int k),some (.ref L),some (.int (1 + (a : Int))),c4,c5,c6,c7,c8]) (st:=S3)
    (fun _ Γ st=>∃ d4 d5 d6,Γ = [some (.fro (ns.map .int)),some (.int k),some (.ref L),some (.int (1 + (a : Int))),d4,d5,d6,c7,c8] /\ Tp st L) (fun _ _ st _=>wOk_nil st)
    (fun i x Γ st hx ⟨d4,d5,d6,hΓ,T⟩=>by
      subst hΓ
      have ht : TbT x:=by
        have : x ∈ [natT tb,t2]:=List.mem_of_getElem? hx
        rcases List.mem_cons.mp this with rfl | this
        · exact natT_ok I
        · rw [List.mem_singleton.mp this]; exact h2
      obtain ⟨S',d5',d6',T',e⟩:=law2 (ns:=ns) (k:=k) T ht (some (.ref L)) (some (.int (1 + (a : Int)))) d5 d6 c7 c8
      exact ⟨_,rfl,_,_,e,_,_,_,rfl,T'⟩) ⟨_,_,_,rfl,T3⟩
  obtain ⟨n,S5,hn,T5,M5,e5⟩:=adigit_lit T4 30 (by decide) (by decide)
  have e5 : F__law_adigit [.ref L,.int 30] S4 = .ok (.int n) S5:=e5
  obtain ⟨Γ',S6,e6,d6',y,rfl,hy,T6⟩:=forG_inv (g:=fun k : Nat=>PV.int (k : Int)) (xs:=List.range n) (ga:=gaName 6) (body:=b_law_4) (w:=[]) (Γ:=[some (.fro (ns.map .int)),some (.int k),some (.ref L),some (.int (1 + (a : Int))),d4,d5,d6,some (.str ""),c8]) (st:=S5)
    (fun i Γ st=>∃ d6 y,Γ = [some (.fro (ns.map .int)),some (.int k),some (.ref L),some (.int (1 + (a : Int))),d4,d5,d6,some (.str y),c8] /\ y.length <= i /\ Tp st L) (fun _ _ st _=>wOk_nil st)
    (fun i x Γ st hx ⟨d6,y,hΓ,hy,T⟩=>by
      subst hΓ
      have hin : i < n:=by simpa using (List.getElem?_eq_some_iff.mp hx).1
      obtain ⟨g,S',hg,T',M',e⟩:=adigit_lit T 15 (by decide) (by decide)
      have e : F__law_adigit [.ref L,.int 15] st = .ok (.int g) S':=e
      obtain ⟨c,_,ec⟩:=ixS_ok (z:=Str.ofString "0123 / 00 12 / ") (d:=g) (by rw [show (Str.ofString "0123 / 00 12 / ").length = 15 by decide +kernel]; exact hg) (by decide +kernel) S'
      have l1 : (⟨#[c]⟩ : Str).length = 1:=rfl
      refine ⟨_,rfl,_,_,set_ok (op_ok rfl (op_ok rfl (call_ok (n:=2) (cons_ok rfl (cons_ok rfl rfl)) rfl e) ec) (adds (by omega))),_,_,rfl,?_,T'⟩
      have:=Str.length_append y ⟨#[c]⟩
      omega) ⟨_,_,rfl,Nat.le_refl 0,T5⟩
  rw [List.length_range] at hy
  rw [<- rangeI0] at e6
  have hys : Sh 30 30 y:=(Sh.lit y).up (by omega) (by omega)
  refine ⟨_,_,_,_,_,_,_,seq_nx (set_ok (call_ok (n:=2) (cons_ok rfl (cons_ok rfl rfl)) rfl e0)) (seq_nx (set_ok (op_ok rfl (call_ok (n:=2) (cons_ok rfl (cons_ok rfl rfl)) rfl e1) (addi S1 _ _))) (seq_nx (for_ok (sq_ok (bi_lst (cons_ok (call_ok (n:=3) (cons_ok rfl (cons_ok rfl (cons_ok rfl rfl))) rfl e2) (cons_ok (call_ok (n:=1) (cons_ok rfl rfl) rfl e3) rfl)) (show 2 <= 1000000 by decide)) rfl (show 2 <= 1000000 by decide)) e4) (seq_nx rfl (seq_nx (for_ok (r:=.nx _ S6) ?_ e6) (ifr (call_ok (n:=1) (cons_ok rfl rfl) rfl (right_sh hys S6)))))))⟩
  rw [mRange1_eq,cons_ok (call_ok (n:=2) (cons_ok rfl (cons_ok rfl rfl)) rfl e5) (show mNil _ S5 = .ok [] S5 from rfl),bind_ok]
  show (if -(lim : Int) <= (n : Int) /\ (n : Int) <= lim then _ else _) = _
  rw [if_pos (by rw [lim_eq]; omega),Int.toNat_natCast]
theorem law_all : ∀ ns : List Int,ns.length <= 63 -> ∃ st',F_law [.fro (ns.map .int)] [] = .ok (.bl true) st':=by
  intro ns hns
  obtain ⟨m,hm,em⟩ : ∃ m : Nat,m <= 5 /\ (if (if (ns.length : Int) < 5 then (ns.length : Int) else 5) > 1 then (if (ns.length : Int) < 5 then (ns.length : Int) else 5) else 1) = (m : Int):=by
    refine ⟨(if (if (ns.length : Int) < 5 then (ns.length : Int) else 5) > 1 then (if (ns.length : Int) < 5 then (ns.length : Int) else 5) else 1).toNat,?_,?_⟩ <;> split <;> split <;> omega
  obtain ⟨Γ',S',e,d1,d2,d3,d4,d5,d6,d7,rfl⟩:=forG_inv (g:=fun k : Nat=>PV.int (k : Int)) (xs:=List.range m) (ga:=gaName 1) (body:=b_law_1) (w:=[]) (Γ:=[some (.fro (ns.map .int)),none,none,none,none,none,none,none,none]) (st:=[])
    (fun _ Γ st=>∃ d1 d2 d3 d4 d5 d6 d7,Γ = [some (.fro (ns.map .int)),d1,d2,d3,d4,d5,d6,d7,none]) (fun _ _ st _=>wOk_nil st)
    (fun i x Γ st hx ⟨d1,d2,d3,d4,d5,d6,d7,hΓ⟩=>by
      subst hΓ
      obtain ⟨S',f2,f3,f4,f5,f6,f7,e⟩:=law1 (ns:=ns) (k:=x) (S:=st) d2 d3 d4 d5 d6 d7 none
      exact ⟨_,rfl,_,_,e,_,_,_,_,_,_,_,rfl⟩) ⟨_,_,_,_,_,_,_,rfl⟩
  rw [<- rangeI0] at e
  have ln : cLen [] [.fro (ns.map .int)] = .ok (.int ns.length) []:=by rw [cLen_fro,List.length_map]
  have emin : cMin [] [.int 5,.int ns.length] = .ok (.int (if (ns.length : Int) < 5 then (ns.length : Int) else 5)) []:=rfl
  have emax : cMax [] [.int 1,.int (if (ns.length : Int) < 5 then (ns.length : Int) else 5)] = .ok (.int m) []:=by
    rw [<- em]; rfl
  have hrg : mRange2 (mCons (mC (.int 0)) (mCons (mCall cMax (mCons (mC (.int 1)) (mCons (mCall cMin (mCons (mC (.int 5)) (mCons (mCall cLen (mCons (mVar 0) mNil)) mNil))) mNil))) mNil)) [some (.fro (ns.map .int)),none,none,none,none,none,none,none,none] [] = .ok (rangeI 0 m,[]) []:=by
    rw [mRange2_eq,cons_ok (m:=mC (.int 0)) (p:=.int 0) rfl (cons_ok (bi_ok (cons_ok rfl (cons_ok (bi_ok (cons_ok rfl (cons_ok (bi_ok (cons_ok rfl rfl) ln) rfl)) emin) rfl)) emax) (show mNil _ _ = .ok [] _ from rfl)),bind_ok]
    show (if -(lim : Int) <= 0 /\ (0 : Int) <= lim /\ -(lim : Int) <= (m : Int) /\ (m : Int) <= lim then _ else _) = _
    rw [if_pos (by rw [lim_eq]; omega)]
    rfl
  obtain ⟨nine,en⟩ : ∃ nine : List Str,List.replicate 9 (Str.ofString "0 0 0 0 0 0 0 0 0 1") = nine:=⟨_,rfl⟩
  have l19 : (Str.ofString "0 0 0 0 0 0 0 0 0 1").length = 19:=by decide +kernel
  have l3 : (Str.ofString " / ").length = 3:=by decide +kernel
  have sm : (nine.map (·.length)).sum = 171:=by rw [<- en,List.map_replicate,l19]; rfl
  have nl : nine.length = 9:=by rw [<- en]; simp
  have hj : JoinOk (Str.ofString " / ") nine = true:=fits_join (by rw [sm,nl,l3]; decide)
  have hy : Sh 640 640 (Txt.join (Str.ofString " / ") nine):=by
    have:=join_len (Str.ofString " / ") nine
    rw [sm,nl,l3] at this
    exact (Sh.lit _).up (by omega) (by omega)
  have c1:=compG_on (ga:=gaName 0) (me:=e_law_1) (Γ0:=capG [none] [some (.fro (ns.map .int)),d1,d2,d3,d4,d5,d6,d7,none]) (g:=fun k : Nat=>PV.int (k : Int)) (f:=fun _=>PV.str (Str.ofString "0 0 0 0 0 0 0 0 0 1")) (ys:=List.range 9) (wOk_nil S') fun r _=>⟨_,rfl,rfl⟩
  rw [<- rangeI0] at c1
  have k1 : mJoin (mC (.str " / ")) (mCons (mVal (mCompN [none] (gaName 0) (mRange1 (mCons (mC (.int 9)) mNil)) mTrue e_law_1)) mNil) [some (.fro (ns.map .int)),d1,d2,d3,d4,d5,d6,d7,none] S' = .ok (.str (Txt.join (Str.ofString " / ") nine)) S':=
    join_of (cons_ok (val_ok (comp_ok (rg_ok (n:=9) (by decide) rfl) c1)) rfl) (by rw [<- en]; rfl) hj
  have r1 : ∀ (z : Str),z.length <= 640 -> F__law_aright [.str z] S' = .ok (.bl true) S':=fun z hz=>right_sh (k:=640) (n:=640) ((Sh.lit z).up hz hz) S'
  refine ⟨_,(callF_rt (nl:=9) (ps:=[.fro (ns.map .int)]) (v:=.bl true) (S':=S') (seq_nx (for_ok hrg e) (seq_nx (set_ok k1) (seq_nx (ifr (call_ok (n:=1) (cons_ok rfl rfl) rfl (right_sh hy S'))) (ret_ok (andE (x:=true) (y:=true) (call_ok (n:=1) (cons_ok rfl rfl) rfl (r1 _ (by decide +kernel))) fun _=>andE (x:=true) (y:=true) (call_ok (n:=1) (cons_ok rfl rfl) rfl (r1 _ (by decide +kernel))) fun _=>andE (x:=true) (y:=true) (call_ok (n:=1) (cons_ok rfl rfl) rfl (r1 _ (by decide +kernel))) fun _=>call_ok (n:=1) (cons_ok rfl rfl) rfl (r1 _ (by decide +kernel)))))))).trans (fin_goodA (st:=[]) rfl)⟩
end Lw
namespace Lw
open PySem PySem.Spec L2 Sm
theorem all_mk {l : PySem.W.OpenLaw} {w : World} {K : PySem.W.Frag} {h : Heap} {mg : Str -> Option Value} {fa f1 f2 f3 f4 f5 f6 f7 f8 f9 f10 f11 f12 f13 f14 f15 f16 f17 f18 f19 f20 f21 f22 f23 f24 f25 f26 : Addr} (X : K.In h) (G : h.Ns mainGlobals mg) (hfa : mg "law" = some (.ref fa))
    {od26 an26 : Option Addr} {sl26 : Array (Option Value)} {oc26 kV26 dc26 pm26 cd26 ct26 : Value}
    {e_NoText : Addr}
    {t_MOST_HOUSES : Tok}
    {ee0 ee1 ee2 ee3 ee4 ee5 ee6 ee7 ee8 ee9 ee10 ee11 ee12 ee13 ee14 : Addr} {cdx11 : ClassData}
    (a26 : PySem.W.nsIn K mainGlobals "law" = some (some (.ref f26)))
    (l26 : K.lookup f26 = some ⟨oc26,od26,.func (PySem.W.fnOf "law" "law" (defArgs s_law) (defBody s_law) (defScope s_law) .none kV26 dc26 pm26 an26 cd26 ct26),sl26⟩)
    (c26 : PySem.W.codeIn K cd26 "law" = true)
    (k26 : PySem.W.keepIn K (.ref f26) = true)
    (z_all : PySem.W.nsIn K mainGlobals "all" = some none)
    (z_bool : PySem.W.nsIn K mainGlobals "bool" = some none)
    (z_int : PySem.W.nsIn K mainGlobals "int" = some none)
    (z_isinstance : PySem.W.nsIn K mainGlobals "isinstance" = some none)
    (z_len : PySem.W.nsIn K mainGlobals "len" = some none)
    (z_max : PySem.W.nsIn K mainGlobals "max" = some none)
    (z_min : PySem.W.nsIn K mainGlobals "min" = some none)
    (z_ord : PySem.W.nsIn K mainGlobals "ord" = some none)
    (z_range : PySem.W.nsIn K mainGlobals "range" = some none)
    (z_reversed : PySem.W.nsIn K mainGlobals "reversed" = some none)
    (z_str : PySem.W.nsIn K mainGlobals "str" = some none)
    (z_sum : PySem.W.nsIn K mainGlobals "sum" = some none)
    (z_tuple : PySem.W.nsIn K mainGlobals "tuple" = some none)
    (v_MOST_HOUSES : PySem.W.nsIn K mainGlobals "MOST_HOUSES" = some (some (.int 8 t_MOST_HOUSES)))
    (n_NoText : PySem.W.nsIn K mainGlobals "NoText" = some (some (.ref e_NoText)))
    (nn0 : PySem.W.nsIn K mainGlobals "WharfError" = some (some (.ref ee0)))
    (nn1 : PySem.W.nsIn K mainGlobals "NoTable" = some (some (.ref ee1)))
    (nn2 : PySem.W.nsIn K mainGlobals "NoHouse" = some (some (.ref ee2)))
    (nn3 : PySem.W.nsIn K mainGlobals "NoDeed" = some (some (.ref ee3)))
    (nn4 : PySem.W.nsIn K mainGlobals "NoLetter" = some (some (.ref ee4)))
    (nn5 : PySem.W.nsIn K mainGlobals "NoStand" = some (some (.ref ee5)))
    (nn6 : PySem.W.nsIn K mainGlobals "NoRoad" = some (some (.ref ee6)))
    (nn7 : PySem.W.nsIn K mainGlobals "NoPlan" = some (some (.ref ee7)))
    (nn8 : PySem.W.nsIn K mainGlobals "NoBook" = some (some (.ref ee8)))
    (nn9 : PySem.W.nsIn K mainGlobals "NoManner" = some (some (.ref ee9)))
    (nn10 : PySem.W.nsIn K mainGlobals "TooMany" = some (some (.ref ee10)))
    (nn11 : PySem.W.nsIn K mainGlobals "NoText" = some (some (.ref ee11)))
    (nn12 : PySem.W.nsIn K mainGlobals "NoRow" = some (some (.ref ee12)))
    (nn13 : PySem.W.nsIn K mainGlobals "NoName" = some (some (.ref ee13)))
    (nn14 : PySem.W.nsIn K mainGlobals "Short" = some (some (.ref ee14)))
    (nzValueError : PySem.W.nsIn K mainGlobals "ValueError" = some none)
    (nzisinstance : PySem.W.nsIn K mainGlobals "isinstance" = some none)
    (xgs : PySem.W.specialIn K (.builtin "object.__class__") "__get__" = some (some (.builtin "getset_descriptor.__get__")))
    (xtk : PySem.W.takesIn K (.builtin "object.__class__") = some true)
    (xcls11 : PySem.W.clsIn K ee11 = some cdx11)
    (xga11 : PySem.W.findIn K (.ref ee11) "__getattribute__" = some (some (.builtin "BaseException.__getattribute__")))
    (xgt11 : PySem.W.findIn K (.ref ee11) "__getattr__" = some none)
    (xcl11 : PySem.W.findIn K (.ref ee11) "__class__" = some (some (.builtin "object.__class__")))
    (xob11 : PySem.W.mroIn K ee11 (.type "object") = some true)
    (xbe11 : PySem.W.mroIn K ee11 (.type "BaseException") = some true)
    (h1 : FA K "is_whole" s_is_whole f1)
    (h2 : FA K "is_row" s_is_row f2)
    (h3 : FA K "is_table" s_is_table f3)
    (h4 : FA K "is_figures" s_is_figures f4)
    (h5 : FA K "number_of" s_number_of f5)
    (h6 : FA K "figures_of" s_figures_of f6)
    (h7 : FA K "show_row" s_show_row f7)
    (h8 : FA K "show_table" s_show_table f8)
    (h9 : FA K "read_row" s_read_row f9)
    (h10 : FA K "read_table" s_read_table f10)
    (h11 : FA K "_law_acell" s__law_acell f11)
    (h12 : FA K "_law_atape" s__law_atape f12)
    (h13 : FA K "_law_adigit" s__law_adigit f13)
    (h14 : FA K "_law_arights" s__law_arights f14)
    (h15 : FA K "_law_abare" s__law_abare f15)
    (h16 : FA K "_law_araised" s__law_araised f16)
    (h17 : FA K "_law_amuch" s__law_amuch f17)
    (h18 : FA K "_law_atable" s__law_atable f18)
    (h19 : FA K "_law_akind" s__law_akind f19)
    (h20 : FA K "_law_atext" s__law_atext f20)
    (h21 : FA K "_law_areading" s__law_areading f21)
    (h22 : FA K "_law_aread" s__law_aread f22)
    (h23 : FA K "_law_aright" s__law_aright f23)
    (h24 : FA K "_law_aany" s__law_aany f24)
    (h25 : FA K "_law_abent" s__law_abent f25)
    (x_NoText : PySem.W.excIn K e_NoText bmVE "ValueError.__new__" = true)
    (xve11 : PySem.W.kitOne K (.ref ee11) (.type "ValueError") = some true)
    (xw11 : PySem.W.kitOne K (.ref ee11) (.ref ee0) = some true)
    (xk11_1 : PySem.W.kitOne K (.ref ee11) (.ref ee1) = some false)
    (xk11_2 : PySem.W.kitOne K (.ref ee11) (.ref ee2) = some false)
    (xk11_3 : PySem.W.kitOne K (.ref ee11) (.ref ee3) = some false)
    (xk11_4 : PySem.W.kitOne K (.ref ee11) (.ref ee4) = some false)
    (xk11_5 : PySem.W.kitOne K (.ref ee11) (.ref ee5) = some false)
    (xk11_6 : PySem.W.kitOne K (.ref ee11) (.ref ee6) = some false)
    (xk11_7 : PySem.W.kitOne K (.ref ee11) (.ref ee7) = some false)
    (xk11_8 : PySem.W.kitOne K (.ref ee11) (.ref ee8) = some false)
    (xk11_9 : PySem.W.kitOne K (.ref ee11) (.ref ee9) = some false)
    (xk11_10 : PySem.W.kitOne K (.ref ee11) (.ref ee10) = some false)
    (xk11_11 : PySem.W.kitOne K (.ref ee11) (.ref ee11) = some true)
    (xk11_12 : PySem.W.kitOne K (.ref ee11) (.ref ee12) = some false)
    (xk11_13 : PySem.W.kitOne K (.ref ee11) (.ref ee13) = some false)
    (xk11_14 : PySem.W.kitOne K (.ref ee11) (.ref ee14) = some false)
    (xex11 : PySem.W.exmOne K (.ref ee11) (.ref ee0) = some true)
    (hL : noL K = true) :
    ∃ fd : FuncData,(∀ (s : Shared) (v : Value),BindsTo s fd ⟨[v],[]⟩ [("script",v)]) /\ ∀ base : Heap,K.In base -> base.Ns mainGlobals mg -> FnOk l.prog w K mg base (CXD l.prog w) 7 fa fd ["script"] (spLawS K):=by
  have e:=hfa.symm.trans (PySem.W.mg_of X G a26)
  cases e
  have T : Txt mg:=⟨PySem.W.mg_none_of X G z_all,PySem.W.mg_none_of X G z_bool,PySem.W.mg_none_of X G z_int,PySem.W.mg_none_of X G z_isinstance,PySem.W.mg_none_of X G z_len,PySem.W.mg_none_of X G z_max,PySem.W.mg_none_of X G z_min,PySem.W.mg_none_of X G z_ord,PySem.W.mg_none_of X G z_range,PySem.W.mg_none_of X G z_reversed,PySem.W.mg_none_of X G z_str,PySem.W.mg_none_of X G z_sum,PySem.W.mg_none_of X G z_tuple,⟨_,PySem.W.mg_of X G v_MOST_HOUSES⟩⟩
  have C_NoText : ∃ C,mg "NoText" = some (.ref C) /\ PySem.W.excIn K C bmVE "ValueError.__new__" = true:=⟨_,PySem.W.mg_of X G n_NoText,x_NoText⟩
  have Nm : Nms mg (fun i=>[ee0,ee1,ee2,ee3,ee4,ee5,ee6,ee7,ee8,ee9,ee10,ee11,ee12,ee13,ee14].getD i 0):=⟨PySem.W.mg_of X G nn0,PySem.W.mg_of X G nn1,PySem.W.mg_of X G nn2,PySem.W.mg_of X G nn3,PySem.W.mg_of X G nn4,PySem.W.mg_of X G nn5,PySem.W.mg_of X G nn6,PySem.W.mg_of X G nn7,PySem.W.mg_of X G nn8,PySem.W.mg_of X G nn9,PySem.W.mg_of X G nn10,PySem.W.mg_of X G nn11,PySem.W.mg_of X G nn12,PySem.W.mg_of X G nn13,PySem.W.mg_of X G nn14,PySem.W.mg_none_of X G nzValueError,PySem.W.mg_none_of X G nzisinstance⟩
  have XC11 : XCls K ee11:=⟨show (PySem.W.clsIn K ee11).isSome = true by rw [xcls11]; rfl,xga11,xgt11,xcl11,xgs,xtk,xob11,xbe11⟩
  have T11 : TgtS K (fun i=>[ee0,ee1,ee2,ee3,ee4,ee5,ee6,ee7,ee8,ee9,ee10,ee11,ee12,ee13,ee14].getD i 0) 11:=⟨XC11,xve11,xex11,fun i h1 h2=>match i,h1,h2 with | 0,h,_=>absurd h (by omega) | 1,_,_=>xk11_1 | 2,_,_=>xk11_2 | 3,_,_=>xk11_3 | 4,_,_=>xk11_4 | 5,_,_=>xk11_5 | 6,_,_=>xk11_6 | 7,_,_=>xk11_7 | 8,_,_=>xk11_8 | 9,_,_=>xk11_9 | 10,_,_=>xk11_10 | 11,_,_=>xk11_11 | 12,_,_=>xk11_12 | 13,_,_=>xk11_13 | 14,_,_=>xk11_14 | _ + 15,_,h=>absurd h (by omega)⟩
  have TT : ∀ t wd,(t,wd) ∈ kdL -> TgtS K (fun i=>[ee0,ee1,ee2,ee3,ee4,ee5,ee6,ee7,ee8,ee9,ee10,ee11,ee12,ee13,ee14].getD i 0) t /\ PySem.W.kitOne K (.ref ([ee0,ee1,ee2,ee3,ee4,ee5,ee6,ee7,ee8,ee9,ee10,ee11,ee12,ee13,ee14].getD t 0)) (.ref ee0) = some true:=fun t wd h=>by
    simp only [kdL,List.mem_cons,Prod.mk.injEq,List.not_mem_nil,or_false] at h
    rcases h with ⟨rfl,rfl⟩
    · exact ⟨T11,xw11⟩
  obtain ⟨_,A1⟩:=atS2 ["thing"] X G h1
  obtain ⟨_,A2⟩:=atS2 ["thing", "n"] X G h2
  obtain ⟨_,A3⟩:=atS2 ["thing"] X G h3
  obtain ⟨_,A4⟩:=atS2 ["word"] X G h4
  obtain ⟨_,A5⟩:=atS2 ["figures"] X G h5
  obtain ⟨_,A6⟩:=atS2 ["number"] X G h6
  obtain ⟨_,A7⟩:=atS2 ["row"] X G h7
  obtain ⟨_,A8⟩:=atS2 ["table"] X G h8
  obtain ⟨_,A9⟩:=atS2 ["text"] X G h9
  obtain ⟨_,A10⟩:=atS2 ["text"] X G h10
  obtain ⟨_,A11⟩:=atS2 ["script", "k"] X G h11
  obtain ⟨_,A12⟩:=atS2 ["script", "k"] X G h12
  obtain ⟨_,A13⟩:=atS2 ["tape", "many"] X G h13
  obtain ⟨_,A14⟩:=atS2 ["table", "i"] X G h14
  obtain ⟨_,A15⟩:=atS2 ["size"] X G h15
  obtain ⟨_,A16⟩:=atS2 ["table", "i", "at", "k"] X G h16
  obtain ⟨_,A17⟩:=atS2 ["tape"] X G h17
  obtain ⟨_,A18⟩:=atS2 ["tape", "size", "many"] X G h18
  obtain ⟨_,A19⟩:=atS2 ["caught"] X G h19
  obtain ⟨_,A20⟩:=atS2 ["table"] X G h20
  obtain ⟨_,A21⟩:=atS2 ["text"] X G h21
  obtain ⟨_,A22⟩:=atS2 ["text"] X G h22
  obtain ⟨_,A23⟩:=atS2 ["text"] X G h23
  obtain ⟨_,A24⟩:=atS2 ["tape"] X G h24
  obtain ⟨_,A25⟩:=atS2 ["tape", "text"] X G h25
  have A26:=atS_mk (st:=s_law) (ps:=["script"]) X G a26 l26 c26 k26 fun _ _ _ _ _ _ us hl=>match us,hl with | [_],_=>rfl
  refine ⟨PySem.W.fnOf "law" "law" (defArgs s_law) (defBody s_law) (defScope s_law) .none kV26 dc26 pm26 an26 cd26 ct26,fun s v=>.of_eq rfl,fun base kb nb=>?_⟩
  have D_is_whole:=A1.d l.prog w base rfl (ok_is_whole A1.F T    )
  have D_is_row:=A2.d l.prog w base rfl (ok_is_row A2.F T   D_is_whole )
  have D_is_table:=A3.d l.prog w base rfl (ok_is_table A3.F T   D_is_row )
  have D_is_figures:=A4.d l.prog w base rfl (ok_is_figures A4.F T    )
  have D_number_of:=A5.d l.prog w base rfl (ok_number_of A5.F T    )
  have D_figures_of:=A6.d l.prog w base rfl (ok_figures_of A6.F T    )
  have D_show_row:=A7.d l.prog w base rfl (ok_show_row A7.F T   D_figures_of )
  have D_show_table:=A8.d l.prog w base rfl (ok_show_table A8.F T   D_show_row )
  have D_read_row:=A9.d l.prog w base rfl (ok_read_row A9.F T  C_NoText D_is_figures D_number_of )
  have D_read_table:=A10.d l.prog w base rfl (ok_read_table A10.F T  C_NoText D_read_row D_is_table )
  have D__law_acell:=A11.d l.prog w base rfl (ok__law_acell A11.F T    )
  have D__law_atape:=A12.d l.prog w base rfl (ok__law_atape A12.F T   D__law_acell )
  have D__law_adigit:=A13.d l.prog w base rfl (ok__law_adigit A13.F T    )
  have D__law_arights:=A14.d l.prog w base rfl (ok__law_arights A14.F T    )
  have D__law_abare:=A15.d l.prog w base rfl (ok__law_abare A15.F T    )
  have D__law_araised:=A16.d l.prog w base rfl (ok__law_araised A16.F T    )
  have D__law_amuch:=A17.d l.prog w base rfl (ok__law_amuch A17.F T   D__law_adigit )
  have D__law_atable:=A18.d l.prog w base rfl (ok__law_atable A18.F T   D__law_abare D__law_adigit D__law_arights D__law_araised D__law_amuch )
  have D__law_akind : DefH l.prog w K mg base 1 "_law_akind" ["caught"] (spKd _):=⟨_,_,ok__law_akind A19.F T Nm TT   ,A19.m,A19.F.kp,A19.b⟩
  have D__law_atext:=A20.d l.prog w base rfl (ok__law_atext A20.F T    )
  have D__law_areading:=A21.d l.prog w base rfl (ok__law_areading A21.F T    )
  have D__law_aread:=A22.d l.prog w base rfl (ok__law_aread A22.F T Nm TT  D_read_table D__law_akind )
  have D__law_aright:=A23.d l.prog w base rfl (ok__law_aright A23.F T   D__law_areading D__law_aread )
  have D__law_aany:=A24.d l.prog w base rfl (ok__law_aany A24.F T   D__law_adigit )
  have D__law_abent:=A25.d l.prog w base rfl (ok__law_abent A25.F T   D__law_adigit )
  exact law_imp hL (ok_law A26.F T   D__law_atape D__law_adigit D__law_atable D__law_aany D__law_atext D_show_table D__law_aright D__law_areading D__law_abent ) law_all
end Lw
theorem PySem.W.Fast.tw1648162278384042486 : True := trivial
theorem PySem.W.Fast.tw12883853801408334725 : True := trivial
theorem PySem.W.Fast.tw1974006754684067880 : True := trivial
theorem PySem.W.Fast.tw15875446959100606668 : True := trivial
theorem PySem.W.Fast.tw2139993393887856385 : True := trivial
theorem PySem.W.Fast.tw11283392637042046752 : True := trivial
theorem PySem.W.Fast.tw694303022748226068 : True := trivial
theorem PySem.W.Fast.tw8134341221632582010 : True := trivial
theorem PySem.W.Fast.tw11957417395590161510 : True := trivial
theorem PySem.W.Fast.tw10162512487897447155 : True := trivial
theorem PySem.W.Fast.tw5578157563014468545 : True := trivial
theorem PySem.W.Fast.tw6733981742320879659 : True := trivial
theorem PySem.W.Fast.tw14208025974289600298 : True := trivial
theorem PySem.W.Fast.tw7445171906927931161 : True := trivial
theorem PySem.W.Fast.tw2100711604415332443 : True := trivial
theorem PySem.W.Fast.te8583566202145774257 : True := trivial
open PySem PySem.W PyProof.Rows Sm
set_option maxRecDepth 100000 in
set_option maxHeartbeats 0 in
theorem PySem.Challenge.cw_lendwharf_k68_table_texts_holds : PySem.Challenge.rw_lendwharf_k68_table_texts.Holds := by
  w_on; o_law; k_head; (case hw=>w_witness2)
  k_fill
  refine Sm.walkS (l:=PySem.Challenge.rw_lendwharf_k68_table_texts) (k:=7) rfl ⟨rfl,by decide,by decide⟩ rfl (fun w h Y=>PySem.W.kIn_of Y) ?F
  case F=>
    intro w mg fa h KX G hmg
    refine' Lw.all_mk KX G hmg ..
    any_goals k_is
    any_goals exact FA.mk (by k_is) (by k_is) (by k_is) (by k_is)
    any_goals k_exc
    all_goals first | kts_exm | kit_is | rfl | decide
