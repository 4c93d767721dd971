import PyProof.Rows.All
import Wide.All
import OpenK.AllK
import Wide.FinOn
import Lean
import PyProof.EqAt
import PyProof.EqKinds
import PyProof.TupleCall
import PyProof.ZipIter
import PyProof.Draws
import PyProof.SumAny
import PyProof.EnumMake
import PyProof.WalkInts
import PyProof.ExcArgsOwn
import PyProof.ExcAttrAll.ValueError
import PyProof.NsDelKeeps
import KE.KTryMore
import OpenK.KOwn
import PyProof.ListMulRoad
import PyProof.FactsAll.tuple_2
import PyProof.NeKinds
import PyProof.Rows.RuleIs
import PyProof.ExcInit
import PyProof.ExcClass3
import OpenK.KCls
import PyProof.InstStoreFacts
import OpenK.KMake
import PyProof.DictRoads
import PyProof.Rows.CountFlat
import PyProof.ListRange
import PyProof.Rows.SetFrom
import PyProof.CollectStr
import PyProof.Rows.TupMore
import PyProof.AttrMissHeap
import KE.KDictOf
import PyProof.DictWalks
import KE.KSortTup
import PyProof.DictItemsLoops
import KE.KDictList
import PyProof.CallStr
import PyProof.Conv_int_bool
import PySem.Challenge.RW_lendwharf_k13_whole_by_all_rows_of_deeds
set_option Elab.async false
set_option linter.all false
set_option maxRecDepth 100000
set_option maxHeartbeats 4000000
noncomputable section
namespace L2
open PySem PySem.Spec PyProof.Rows
abbrev Key:=Sum Int Str
def keyIs : Key -> Value -> Bool
  | .inl k,v=>Value.isInt k v
  | .inr x,v=>Value.isStrOf x v
def keyH (w : World) : Key -> Int
  | .inl k=>hashInt k
  | .inr x=>hashStr w x
theorem keyIs_shape : ∀ {k : Key} {v : Value},keyIs k v = true -> (∃ i t,k = Sum.inl i /\ v = Value.int i t) \/ (∃ x t,k = Sum.inr x /\ v = Value.str x t)
  | .inl i,v,h=>by
    obtain ⟨t,e⟩:=Value.isInt_shape (k:=i) (v:=v) h
    exact .inl ⟨i,t,rfl,e⟩
  | .inr x,v,h=>by
    obtain ⟨t,e⟩:=Value.isStrOf_shape (x:=x) (v:=v) h
    exact .inr ⟨x,t,rfl,e⟩
theorem keyIs_int (i : Int) (t : Tok) : keyIs (.inl i) (.int i t) = true:=by simp [keyIs,Value.isInt]
theorem keyIs_str (x : Str) (t : Tok) : keyIs (.inr x) (.str x t) = true:=by simp [keyIs,Value.isStrOf]
theorem key_ll (a b : Int) : decide ((Sum.inl a : Key) = Sum.inl b) = (a == b):=by
  by_cases e : a = b
  · subst e; simp
  · have h : ¬ (Sum.inl a : Key) = Sum.inl b:=fun q=>e (Sum.inl.inj q)
    rw [decide_eq_false h]
    exact (beq_eq_false_iff_ne.mpr e).symm
theorem key_rr (a b : Str) : decide ((Sum.inr a : Key) = Sum.inr b) = decide (a = b):=by
  by_cases e : a = b
  · subst e; simp
  · have h : ¬ (Sum.inr a : Key) = Sum.inr b:=fun q=>e (Sum.inr.inj q)
    rw [decide_eq_false h,decide_eq_false e]
theorem key_lr (a : Int) (b : Str) : decide ((Sum.inl a : Key) = Sum.inr b) = false:=decide_eq_false (fun q=>nomatch q)
theorem key_rl (a : Str) (b : Int) : decide ((Sum.inr a : Key) = Sum.inl b) = false:=decide_eq_false (fun q=>nomatch q)
def mixKind (prog : Program) (w : World) : PySem.KeyKind prog w Key where
  is:=keyIs
  hash:=keyH w
  inj:=fun v a b ha hb=>by
    rcases keyIs_shape ha with ⟨i,t,rfl,rfl⟩ | ⟨x,t,rfl,rfl⟩
    · rcases keyIs_shape hb with ⟨j,u,rfl,e⟩ | ⟨y,u,rfl,e⟩
      · injection e with e1 _; rw [e1]
      · exact nomatch e
    · rcases keyIs_shape hb with ⟨j,u,rfl,e⟩ | ⟨y,u,rfl,e⟩
      · exact nomatch e
      · injection e with e1 _; rw [e1]
  byValue:=fun k v h=>by
    rcases keyIs_shape h with ⟨i,t,rfl,rfl⟩ | ⟨x,t,rfl,rfl⟩ <;> rfl
  pyHash:=fun hv h=>by
    rcases keyIs_shape hv with ⟨i,t,rfl,rfl⟩ | ⟨x,t,rfl,rfl⟩
    · exact wpAny_pyHash_int h
    · exact wpAny_pyHash_str h
  eqBool:=fun hu hv h=>by
    rcases keyIs_shape hu with ⟨i,t,rfl,rfl⟩ | ⟨x,t,rfl,rfl⟩
    · rcases keyIs_shape hv with ⟨j,u,rfl,rfl⟩ | ⟨y,u,rfl,rfl⟩
      · rw [key_ll] at h; exact wpAny_eqBool_int h
      · rw [key_lr] at h; exact SeqAt.EqAt.int_str i t y u _ _ _ _ h
    · rcases keyIs_shape hv with ⟨j,u,rfl,rfl⟩ | ⟨y,u,rfl,rfl⟩
      · rw [key_rl] at h; exact SeqAt.EqAt.str_int x t j u _ _ _ _ h
      · rw [key_rr] at h; exact wpAny_eqBool_str h
  «strs»:=fun k x t v h=>by
    rcases keyIs_shape h with ⟨i,u,rfl,e⟩ | ⟨y,u,rfl,e⟩
    · exact nomatch e
    · injection e with e1 _
      subst e1
      cases v <;> rfl
inductive HK where
  | int (i : Int) | str (x : Str) | tup (l : List HK)
instance : DecidableEq HK:=fun _ _=>Classical.propDecidable _
mutual
def KIs (h : Heap) : HK -> Value -> Prop
  | .int i,v=>∃ t,v = .int i t
  | .str x,v=>∃ t,v = .str x t
  | .tup l,v=>∃ a items,v = .ref a /\ IsTup h a items /\ KIsL h l items.toList
def KIsL (h : Heap) : List HK -> List Value -> Prop
  | [],vs=>vs = []
  | k :: l,vs=>∃ v r,vs = v :: r /\ KIs h k v /\ KIsL h l r
end
def Dp : Nat -> HK -> Prop
  | _,.int _=>True
  | _,.str _=>True
  | 0,.tup _=>False
  | d + 1,.tup l=>∀ k ∈ l,Dp d k
theorem KIsL.len {h : Heap} : ∀ {l : List HK} {vs : List Value},KIsL h l vs -> l.length = vs.length
  | [],_,r=>by cases r; rfl
  | k :: l,_,⟨v,r,e,_,q⟩=>by subst e; rw [List.length_cons,List.length_cons,q.len]
theorem KIsL.get {h : Heap} : ∀ {l : List HK} {vs : List Value},KIsL h l vs -> ∀ (j : Nat) (h1 : j < l.length) (h2 : j < vs.length),KIs h l[j] vs[j]
  | [],_,_,j,h1,_=>by simp at h1
  | k :: l,_,⟨v,r,e,q,t⟩,0,h1,h2=>by subst e; exact q
  | k :: l,_,⟨v,r,e,q,t⟩,j + 1,h1,h2=>by subst e; exact t.get j (by simpa using h1) (by simpa using h2)
theorem KIsL.of {h h' : Heap} : ∀ {l : List HK} {vs : List Value},KIsL h l vs -> (∀ k v,k ∈ l -> KIs h k v -> KIs h' k v) -> KIsL h' l vs
  | [],_,r,_=>r
  | k :: l,_,⟨v,r,e,q,t⟩,f=>⟨v,r,e,f k v (by simp) q,t.of fun k v hk=>f k v (List.mem_cons_of_mem _ hk)⟩
theorem KIs.keep {h h' : Heap} (hk : ∀ a its,IsTup h a its -> IsTup h' a its) : ∀ (d : Nat) {k : HK} {v : Value},Dp d k -> KIs h k v -> KIs h' k v
  | d,.int _,_,_,r=>r
  | d,.str _,_,_,r=>r
  | 0,.tup _,_,p,_=>p.elim
  | d + 1,.tup l,_,p,⟨a,its,e,i,r⟩=>⟨a,its,e,hk a its i,r.of fun k v hm=>KIs.keep hk d (p k hm)⟩
theorem tup_uniq {h : Heap} {a : Addr} {x y : Array Value} (p : IsTup h a x) (q : IsTup h a y) : x = y:=by
  obtain ⟨o,h1,h2,n,h3⟩:=p
  obtain ⟨o',g1,g2,n',g3⟩:=q
  rw [h1] at g1; cases g1
  rw [h3] at g3; cases g3; rfl
theorem KIs.inj {h : Heap} : ∀ (d : Nat) {x y : HK} {v : Value},Dp d x -> Dp d y -> KIs h x v -> KIs h y v -> x = y:=by
  intro d
  induction d with
  | zero=>
    intro x y v dx dy p q
    cases x with
    | tup l=>exact dx.elim
    | int i=>
      obtain ⟨t,rfl⟩:=p
      cases y with
      | tup l=>exact dy.elim
      | int j=>obtain ⟨u,e⟩:=q; cases e; rfl
      | str j=>obtain ⟨u,e⟩:=q; cases e
    | str i=>
      obtain ⟨t,rfl⟩:=p
      cases y with
      | tup l=>exact dy.elim
      | int j=>obtain ⟨u,e⟩:=q; cases e
      | str j=>obtain ⟨u,e⟩:=q; cases e; rfl
  | succ d ih=>
    intro x y v dx dy p q
    cases x with
    | int i=>
      obtain ⟨t,rfl⟩:=p
      cases y with
      | tup l=>obtain ⟨_,_,e,_⟩:=q; cases e
      | int j=>obtain ⟨u,e⟩:=q; cases e; rfl
      | str j=>obtain ⟨u,e⟩:=q; cases e
    | str i=>
      obtain ⟨t,rfl⟩:=p
      cases y with
      | tup l=>obtain ⟨_,_,e,_⟩:=q; cases e
      | int j=>obtain ⟨u,e⟩:=q; cases e
      | str j=>obtain ⟨u,e⟩:=q; cases e; rfl
    | tup l=>
      obtain ⟨a,its,rfl,p1,p2⟩:=p
      cases y with
      | int j=>obtain ⟨u,e⟩:=q; cases e
      | str j=>obtain ⟨u,e⟩:=q; cases e
      | tup m=>
        obtain ⟨b,jts,e,q1,q2⟩:=q
        cases e
        have e:=tup_uniq p1 q1
        subst e
        have l1:=p2.len
        have l2:=q2.len
        congr 1
        refine List.ext_getElem (by omega) fun j h1 h2=>?_
        exact ih (dx _ (List.getElem_mem h1)) (dy _ (List.getElem_mem h2)) (p2.get j h1 (by omega)) (q2.get j h2 (by omega))
theorem all_eqA {α : Type} [DecidableEq α] (d : α) (xs ys : List α) : ((List.range (min xs.length ys.length)).all (fun j=>decide (xs.getD j d = ys.getD j d)) && xs.length == ys.length) = decide (xs = ys):=by
  rw [Bool.eq_iff_iff]
  simp only [Bool.and_eq_true,List.all_eq_true,List.mem_range,decide_eq_true_eq,beq_iff_eq]
  constructor
  · rintro ⟨h,e⟩
    refine List.ext_getElem e fun i h1 h2=>?_
    have:=h i (by omega)
    simpa [List.getD_eq_getElem?_getD,h1,h2] using this
  · rintro rfl
    simp
section
variable {prog : Program} {w : World}
mutual
def hkH (prog : Program) (w : World) : HK -> Int
  | .int i=>(mixKind prog w).hash (.inl i)
  | .str x=>(mixKind prog w).hash (.inr x)
  | .tup l=>reduceHash (Builtin.Tuple.tupleHashOf (hkHL prog w l))
def hkHL (prog : Program) (w : World) : List HK -> List Int
  | []=>[]
  | k :: l=>hkH prog w k :: hkHL prog w l
end
mutual
def hkD : HK -> Nat
  | .int _=>1
  | .str _=>1
  | .tup l=>hkDL l + 1
def hkDL : List HK -> Nat
  | []=>0
  | k :: l=>hkD k + hkDL l
end
theorem hkHL_map (l : List HK) : hkHL prog w l = l.map (hkH prog w):=by
  induction l with
  | nil=>rfl
  | cons k l ih=>rw [hkHL,ih]; rfl
theorem hkDL_app (l m : List HK) : hkDL (l ++ m) = hkDL l + hkDL m:=by
  induction l with
  | nil=>simp [hkDL]
  | cons k l ih=>rw [List.cons_append,hkDL,hkDL,ih]; omega
variable {A : Around} {E : Value -> Shared -> Prop}
theorem all_eqK (xs ys : List HK) : ((List.range (min xs.length ys.length)).all (fun j=>decide (xs.getD j (.int 0) = ys.getD j (.int 0))) && xs.length == ys.length) = decide (xs = ys):=all_eqA (.int 0) xs ys
theorem hk_hash : ∀ (d : Nat) {A : Around} {s : Shared} {k : HK} {v : Value} {Q : Int -> Shared -> Prop},Dp d k -> A.units + d < cLine -> KIs s.heap k v -> Q (hkH prog w k) { s with toks:=s.toks + hkD k } ->
    wpAny (model prog w) A (pyHash v) Q E s:=by
  intro d
  induction d with
  | zero=>
    intro A s k v Q dk hu r q
    cases k with
    | tup l=>exact dk.elim
    | int i=>obtain ⟨t,rfl⟩:=r; exact (mixKind prog w).pyHash (k:=.inl i) (keyIs_int i t) q
    | str i=>obtain ⟨t,rfl⟩:=r; exact (mixKind prog w).pyHash (k:=.inr i) (keyIs_str i t) q
  | succ d ih=>
    intro A s k v Q dk hu r q
    cases k with
    | int i=>obtain ⟨t,rfl⟩:=r; exact (mixKind prog w).pyHash (k:=.inl i) (keyIs_int i t) q
    | str i=>obtain ⟨t,rfl⟩:=r; exact (mixKind prog w).pyHash (k:=.inr i) (keyIs_str i t) q
    | tup ks=>
      obtain ⟨a,items,rfl,⟨o,ho,hc,n,hd⟩,hi⟩:=r
      have hT : s.TypeIs (.ref a) "tuple" := ⟨o,ho,hc⟩
      have hu0 : A.units < cLine:=by omega
      unfold pyHash
      unfold pyHashByItsType
      have nb : ¬ (some (Value.builtin "tuple.__hash__") == some Value.none) = true:=by rw [beq_builtin_none]; exact Bool.false_ne_true
      have sp {Q : Option Value -> Shared -> Prop} (h : Q (some (.builtin "tuple.__hash__")) s) : wpAny (model prog w) A (specialOf (.ref a) "__hash__") Q E s:=wpAny_specialOf hT F.slot_tuple_hash.lookup h
      refine wpAny_bind (wpAny_cRoomFor_or (.inr hu0) (wpAny_bind (sp ?_)))
      show wpAny _ _ (if (some (Value.builtin "tuple.__hash__") == some Value.none) = true then _ else _) _ _ _
      rw [if_neg nb]
      refine wpAny_bind (sp (wpAny_bind (wpAny_callSpecialIfBoundUnlessNone?_slot hT F.slot_tuple_hash (wpAny_call_entry F.slot_tuple_hash hT F.entry_tuple_hash ?_ (F.args_tuple_hash_1 _)))))
      show wpAny _ A.in1 (Builtin.Tuple.tupleItemsOf (.ref a) >>= _) _ _ s
      refine wpAny_bind (wpAny_tupleItemsOf ho hd (wpAny_bind ?_))
      rw [<- Array.forIn_toList]
      have hin : A.in1.units + d < cLine:=by show A.units + 1 + d < cLine; omega
      refine wpAny_forIn_list _ (fun rest (b : Array Int) s'=>∃ dn lf,ks = dn ++ lf /\ KIsL s.heap lf rest /\ b.toList = dn.map (hkH prog w) /\ s' = { s with toks:=s.toks + hkDL dn }) _ ?_ ?_ _ _ ⟨[],ks,rfl,hi,rfl,rfl⟩
      · rintro x rest b s' ⟨dn,lf,rfl,hl,hb,rfl⟩
        cases lf with
        | nil=>cases hl
        | cons k lf=>
          obtain ⟨v,r,e,h1,h2⟩:=hl
          cases e
          refine wpAny_bind (ih (s:={ s with toks:=s.toks + hkDL dn }) (dk k (by simp)) hin h1 ?_)
          exact wpAny_pure ⟨dn ++ [k],lf,by simp,h2,by simp [hb],by simp [hkDL_app,hkDL,Nat.add_assoc]⟩
      · rintro b s' ⟨dn,lf,rfl,hl,hb,rfl⟩
        cases lf with
        | cons k lf=>obtain ⟨_,_,e,_⟩:=hl; cases e
        | nil=>
          rw [List.append_nil] at q
          show wpAny _ _ (retInt (Builtin.Tuple.tupleHashOf b.toList)) _ _ _
          rw [hb,<- hkHL_map]
          refine wpAny_ret_mkInt ?_
          have q : Q (reduceHash (Builtin.Tuple.tupleHashOf (hkHL prog w dn))) { s with toks:=s.toks + (hkDL dn + 1) }:=q
          generalize Builtin.Tuple.tupleHashOf (hkHL prog w dn) = z at *
          show wpAny _ _ (if (decide (-(2 : Int) ^ 63 <= z) && decide (z < 2 ^ 63)) = true then _ else _) Q E _
          unfold reduceHash at q
          split
          · rename_i hr
            rw [if_pos hr] at q
            exact wpAny_pure (by simpa [Nat.add_assoc] using q)
          · rename_i hr
            rw [if_neg hr] at q
            exact wpAny_bind (wpAny_rule (wpAny_pure (by simpa [Nat.add_assoc] using q)))
theorem hk_eq : ∀ (d : Nat) {A : Around} {s : Shared} {x y : HK} {u v : Value},Dp d x -> Dp d y -> A.units + d < cLine -> KIs s.heap x u -> KIs s.heap y v -> SeqAt.EqAt A s u v (decide (x = y)):=by
  intro d
  have leaf : ∀ {A : Around} {s : Shared} {x y : HK} {u v : Value},(∀ l,x ≠ .tup l) -> (∀ l,y ≠ .tup l) -> KIs s.heap x u -> KIs s.heap y v -> SeqAt.EqAt A s u v (decide (x = y)):=by
    intro A s x y u v nx ny p q
    cases x with
    | tup l=>exact absurd rfl (nx l)
    | int i=>
      obtain ⟨t,rfl⟩:=p
      cases y with
      | tup l=>exact absurd rfl (ny l)
      | int j=>
        obtain ⟨t',rfl⟩:=q
        have:=SeqAt.EqAt.int_int (A:=A) (s:=s) i t j t'
        rwa [show (i == j) = decide (HK.int i = HK.int j) by by_cases e : i = j <;> simp [e]] at this
      | str j=>
        obtain ⟨t',rfl⟩:=q
        rw [decide_eq_false (by simp)]
        exact SeqAt.EqAt.int_str _ _ _ _
    | str i=>
      obtain ⟨t,rfl⟩:=p
      cases y with
      | tup l=>exact absurd rfl (ny l)
      | int j=>
        obtain ⟨t',rfl⟩:=q
        rw [decide_eq_false (by simp)]
        exact SeqAt.EqAt.str_int _ _ _ _
      | str j=>
        obtain ⟨t',rfl⟩:=q
        have:=SeqAt.EqAt.str_str (A:=A) (s:=s) i t j t'
        rwa [show (i == j) = decide (HK.str i = HK.str j) by by_cases e : i = j <;> simp [e]] at this
  induction d with
  | zero=>
    intro A s x y u v dx dy hu p q
    exact leaf (fun l e=>by subst e; exact dx) (fun l e=>by subst e; exact dy) p q
  | succ d ih=>
    intro A s x y u v dx dy hu p q
    have hu0 : A.units < cLine:=by omega
    cases x with
    | tup l=>
      obtain ⟨a,its,rfl,p1,p2⟩:=p
      cases y with
      | int j=>
        obtain ⟨t',rfl⟩:=q
        rw [decide_eq_false (by simp)]
        exact SeqAt.EqAt.tuple_int _ _ p1 hu0
      | str j=>
        obtain ⟨t',rfl⟩:=q
        rw [decide_eq_false (by simp)]
        exact SeqAt.EqAt.tuple_str _ _ p1 hu0
      | tup m=>
        obtain ⟨b,jts,rfl,q1,q2⟩:=q
        by_cases e : a = b
        · subst e
          have e:=KIs.inj (d + 1) (h:=s.heap) dx dy ⟨a,its,rfl,p1,p2⟩ ⟨a,jts,rfl,q1,q2⟩
          rw [decide_eq_true e]
          exact SeqAt.EqAt.same _
        · have l1:=p2.len
          have l2:=q2.len
          have he : ∀ j (h1 : j < its.size) (h2 : j < jts.size),SeqAt.EqAt A.in1 s its[j] jts[j] (decide (l.getD j (.int 0) = m.getD j (.int 0))):=fun j h1 h2=>by
            have k1 : j < l.length:=by rw [l1,Array.length_toList]; exact h1
            have k2 : j < m.length:=by rw [l2,Array.length_toList]; exact h2
            have e1 : l.getD j (.int 0) = l[j]:=by rw [List.getD_eq_getElem?_getD,List.getElem?_eq_getElem k1]; rfl
            have e2 : m.getD j (.int 0) = m[j]:=by rw [List.getD_eq_getElem?_getD,List.getElem?_eq_getElem k2]; rfl
            rw [e1,e2]
            exact ih (dx _ (List.getElem_mem k1)) (dy _ (List.getElem_mem k2)) (by show A.units + 1 + d < cLine; omega) (p2.get j k1 (by simpa using h1)) (q2.get j k2 (by simpa using h2))
          have rc:=SeqAt.RcAt.tuples p1 q1 hu0 he
          have s1 : its.size = l.length:=by rw [l1,Array.length_toList]
          have s2 : jts.size = m.length:=by rw [l2,Array.length_toList]
          rw [s1,s2,all_eqK] at rc
          exact SeqAt.EqAt.of_refs e (by simpa using rc)
    | int i=>
      cases y with
      | tup m=>
        obtain ⟨t',rfl⟩:=p
        obtain ⟨b,jts,rfl,q1,q2⟩:=q
        rw [decide_eq_false (by simp)]
        exact SeqAt.EqAt.int_tuple _ _ q1 hu0
      | _=>exact leaf (by simp) (by simp) p q
    | str i=>
      cases y with
      | tup m=>
        obtain ⟨t',rfl⟩:=p
        obtain ⟨b,jts,rfl,q1,q2⟩:=q
        rw [decide_eq_false (by simp)]
        exact SeqAt.EqAt.str_tuple _ _ q1 hu0
      | _=>exact leaf (by simp) (by simp) p q
theorem hk_quiet : ∀ (d : Nat) {A : Around} {s : Shared} {k : HK} {v : Value} {Q : Bool -> Shared -> Prop} (m : Nat),d < m -> Dp d k -> KIs s.heap k v -> Q true s -> wpAny (model prog w) A (eqIsQuiet m v) Q E s:=by
  intro d
  have leaf : ∀ {A : Around} {s : Shared} {v : Value} {Q : Bool -> Shared -> Prop} (m : Nat),carriedByValue v = true -> Q true s -> wpAny (model prog w) A (eqIsQuiet m v) Q E s:=by
    intro A s v Q m hv q
    rw [eqIsQuiet_byValue m hv]
    exact wpAny_pure q
  induction d with
  | zero=>
    intro A s k v Q m hm dk r q
    cases k with
    | tup l=>exact dk.elim
    | int i=>obtain ⟨t,rfl⟩:=r; exact leaf m rfl q
    | str i=>obtain ⟨t,rfl⟩:=r; exact leaf m rfl q
  | succ d ih=>
    intro A s k v Q m hm dk r q
    cases k with
    | int i=>obtain ⟨t,rfl⟩:=r; exact leaf m rfl q
    | str i=>obtain ⟨t,rfl⟩:=r; exact leaf m rfl q
    | tup ks=>
      obtain ⟨a,items,rfl,⟨o,ho,hc,n,hd⟩,hi⟩:=r
      have hT : s.TypeIs (.ref a) "tuple" := ⟨o,ho,hc⟩
      obtain ⟨m,rfl⟩ : ∃ m',m = m' + 1:=⟨m - 1,by omega⟩
      unfold eqIsQuiet
      refine wpAny_bind (wpAny_specialOf hT F.slot_tuple_eq.lookup ?_)
      show wpAny _ _ (isInstance (.ref a) (.type "tuple") >>= _) _ _ s
      refine wpAny_bind (wpAny_isInstance hT isSubtype_tuple_tuple ?_)
      simp only [Bool.not_true,Bool.false_eq_true,if_false]
      refine wpAny_bind (wpAny_seqItems ho hd (wpAny_bind ?_))
      show wpAny _ _ (forIn items _ _) _ _ s
      rw [<- Array.forIn_toList]
      refine wpAny_forIn_list _ (fun rest r s'=>r.1 = none /\ s' = s /\ ∃ l,KIsL s.heap l rest /\ ∀ k ∈ l,k ∈ ks) _ ?_ ?_ _ _ ⟨rfl,rfl,ks,hi,fun _ h=>h⟩
      · rintro v rest r s' ⟨hr,rfl,l,hl,hall⟩
        cases l with
        | nil=>cases hl
        | cons k l=>
          obtain ⟨v',r',e,h1,h2⟩:=hl
          cases e
          refine wpAny_bind (ih m (by omega) (dk k (hall k (by simp))) h1 ?_)
          simp only [Bool.not_true,Bool.false_eq_true,if_false]
          exact wpAny_pure ⟨rfl,rfl,l,h2,fun x hx=>hall x (List.mem_cons_of_mem _ hx)⟩
      · rintro ⟨r1,r2⟩ s' ⟨hr,rfl,_⟩
        simp only at hr
        subst hr
        exact wpAny_pure q
def nk (prog : Program) (w : World) : HeapKind prog w HK where
  is:=fun h k a=>KIs h k (.ref a) /\ Dp 5 k
  hash:=hkH prog w
  draws:=hkD
  room:=fun A=>A.units + 5 < cLine
  inj:=fun hx hy=>KIs.inj 5 hx.2 hy.2 hx.1 hy.1
  keeps:=fun {h h' k a d o es ep} x ho hd hs=>⟨KIs.keep (fun b its ⟨ob,h1,h2,n,h3⟩=>⟨ob,(hs.2 b fun e=>by
    subst e
    rw [ho] at h1; cases h1
    rw [hd] at h3; cases h3).trans h1,h2,n,h3⟩) 5 x.2 x.1,x.2⟩
  pyHash:=fun hu hk h=>hk_hash 5 hk.2 hu hk.1 h
  eqBool:=fun hu hx hy h=>hk_eq 5 hx.2 hy.2 hu hx.1 hy.1 prog w _ _ h
  quiet:=fun hk h=>hk_quiet 5 8 (by decide) hk.2 hk.1 h
end
theorem mixKind_int (prog : Program) (w : World) (i : Int) (t : Tok) : (mixKind prog w).is (.inl i) (.int i t) = true:=keyIs_int i t
theorem mixKind_str (prog : Program) (w : World) (x : Str) (t : Tok) : (mixKind prog w).is (.inr x) (.str x t) = true:=keyIs_str x t
end L2
namespace L2
open PySem PySem.Spec PyProof.Rows
inductive V where
  | non | bl (b : Bool) | int (i : Int) | str (x : Str) | byt (b : Array UInt8) | flt (b : UInt64) | ref (a : Addr) | ty (n : String)
  deriving DecidableEq
def RelV : V -> Value -> Prop
  | .non,u=>u = Value.none
  | .bl b,u=>u = Value.bool b
  | .int i,u=>∃ t,u = Value.int i t
  | .str x,u=>∃ t,u = Value.str x t
  | .byt b,u=>∃ t,u = Value.bytes b t
  | .flt b,u=>∃ t,u = Value.float b t
  | .ref a,u=>u = Value.ref a
  | .ty n,u=>u = Value.type n
abbrev Vals : List V -> List Value -> Prop:=Paired RelV
theorem Vals.length {xs : List V} {us : List Value} (r : Vals xs us) : xs.length = us.length:=Paired.length r
theorem Vals.get : ∀ {xs : List V} {us : List Value} {i : Nat} {x : V},Vals xs us -> xs[i]? = some x -> ∃ u,us[i]? = some u /\ RelV x u
  | _,_,_,_,.nil,e=>by simp at e
  | _,_,0,_,.cons r _,e=>by simp at e; subst e; exact ⟨_,rfl,r⟩
  | _,_,i + 1,x,.cons _ t,e=>by
    obtain ⟨u,h1,h2⟩:=Vals.get (i:=i) (x:=x) t (by simpa using e)
    exact ⟨u,by simpa using h1,h2⟩
theorem Vals.set {x : V} {u : Value} (r : RelV x u) : ∀ {xs : List V} {us : List Value} (i : Nat),Vals xs us -> Vals (xs.set i x) (us.set i u)
  | _,_,_,.nil=>.nil
  | _,_,0,.cons _ t=>.cons r t
  | _,_,i + 1,.cons q t=>.cons q (Vals.set r i t)
theorem Vals.append : ∀ {xs ys : List V} {us ws : List Value},Vals xs us -> Vals ys ws -> Vals (xs ++ ys) (us ++ ws)
  | _,_,_,_,.nil,s=>s
  | _,_,_,_,.cons r t,s=>.cons r (Vals.append t s)
theorem Vals.take : ∀ {xs : List V} {us : List Value} (n : Nat),Vals xs us -> Vals (xs.take n) (us.take n)
  | _,_,0,_=>.nil
  | _,_,_ + 1,.nil=>.nil
  | _,_,n + 1,.cons r t=>.cons r (Vals.take n t)
theorem Vals.drop : ∀ {xs : List V} {us : List Value} (n : Nat),Vals xs us -> Vals (xs.drop n) (us.drop n)
  | _,_,0,r=>r
  | _,_,_ + 1,.nil=>.nil
  | _,_,n + 1,.cons _ t=>Vals.drop n t
def RelO : Option V -> Option Value -> Prop
  | some v,some u=>RelV v u
  | none,none=>True
  | _,_=>False
def KV {κ : Type} : List (κ × V) -> List (κ × Value) -> Prop:=Paired fun (p : κ × V) (q : κ × Value)=>p.1 = q.1 /\ RelV p.2 q.2
def kV : Key -> V
  | .inl i=>.int i
  | .inr x=>.str x
inductive HO where
  | lst (xs : List V)
  | tup (xs : List V)
  | dK (kvs : List (Key × V)) | dT (kvs : List (HK × V))
  | set (S : Int -> Bool) (n : Nat)
  | ins (C dx : Addr) (fs : List (Str × V))
  | own (x : Addr)
  | xd (fs : List (Str × V))
  | met (f x : Addr)
  | rng (lo hi : Int)
  | frz (o : Obj) (u : HO)
  | tbl (ps : Array Value)
  | ext (φ : Heap -> Prop)
abbrev Hp:=Addr -> Option HO
def upd (H : Hp) (a : Addr) (o : HO) : Hp:=fun b=>if b = a then some o else H b
theorem upd_same {H : Hp} {a : Addr} {o : HO} : upd H a o a = some o:=by unfold upd; rw [if_pos rfl]
theorem upd_ne {H : Hp} {a b : Addr} {o : HO} (h : b ≠ a) : upd H a o b = H b:=by unfold upd; rw [if_neg h]
theorem ne_of {H : Hp} {a b : Addr} {o u : HO} (h : H a = some o) (h' : H b = some u) (d : o ≠ u) : a ≠ b:=by
  intro e; subst e; rw [h] at h'; exact d (Option.some.inj h')
theorem ne_of_none {H : Hp} {a b : Addr} {o : HO} (h : H a = some o) (h' : H b = none) : a ≠ b:=by
  intro e; subst e; rw [h] at h'; cases h'
mutual
def KAt (H : Hp) : HK -> V -> Prop
  | .int i,v=>v = .int i
  | .str x,v=>v = .str x
  | .tup l,v=>∃ a vs,v = .ref a /\ H a = some (.tup vs) /\ KAtL H l vs
def KAtL (H : Hp) : List HK -> List V -> Prop
  | [],vs=>vs = []
  | k :: l,vs=>∃ v r,vs = v :: r /\ KAt H k v /\ KAtL H l r
end
mutual
theorem KAt.keep {H H' : Hp} (ht : ∀ b xs,H b = some (.tup xs) -> H' b = some (.tup xs)) : ∀ {k : HK} {v : V},KAt H k v -> KAt H' k v
  | .int _,_,r=>r
  | .str _,_,r=>r
  | .tup _,_,⟨a,vs,e,h,r⟩=>⟨a,vs,e,ht a vs h,KAtL.keep ht r⟩
theorem KAtL.keep {H H' : Hp} (ht : ∀ b xs,H b = some (.tup xs) -> H' b = some (.tup xs)) : ∀ {l : List HK} {vs : List V},KAtL H l vs -> KAtL H' l vs
  | [],_,r=>r
  | _ :: _,_,⟨v,r,e,h,t⟩=>⟨v,r,e,KAt.keep ht h,KAtL.keep ht t⟩
end
def KR (H : Hp) (k : HK) (b : Addr) : Prop:=KAt H k (.ref b) /\ Dp 5 k
theorem KR.keep {H H' : Hp} {k : HK} {b : Addr} (r : KR H k b) (ht : ∀ b xs,H b = some (.tup xs) -> H' b = some (.tup xs)) : KR H' k b:=⟨r.1.keep ht,r.2⟩
section
variable (P : Program) (w : World)
def ObjOk (H : Hp) (h : Heap) (a : Addr) : HO -> Prop
  | .lst xs=>xs.length <= sizeLine /\ ∃ (its : List Value) (n : Nat),Vals xs its /\ h.get? a = some { cls:=.type "list",data:=.seq its.toArray n }
  | .tup xs=>xs.length <= sizeLine /\ ∃ its : List Value,Vals xs its /\ IsTup h a its.toArray
  | .dK kvs=>kvs.length <= sizeLine /\ (a == sysModules) = false /\ ∃ vs,KV kvs vs /\ h.DictOf (mixKind P w) a vs
  | .dT kvs=>kvs.length <= sizeLine /\ (a == sysModules) = false /\ ∃ xs : List (HK × Addr × Value),
      Paired (fun (p : HK × V) (q : HK × Addr × Value)=>p.1 = q.1 /\ KR H p.1 q.2.1 /\ RelV p.2 q.2.2) kvs xs /\
      ∃ o es ep,h.get? a = some o /\ o.ExactDict /\ o.data = .dict es ep /\ es.toList = xs.map (entryOfKey (nk P w)) /\ (xs.map (·.1)).Nodup
  | .set S n=>h.SetOf (intKind P w) a S n
  | .ins C dx fs=>H dx = some (.own a) /\ fs.length <= 1000 /\ dx ≠ a /\ h.get? a = some (PySem.W.instObj C dx) /\
      ∃ mA,h.Ns1 dx mA /\ (∀ f,RelO (fs.lookup f) (mA f)) /\ PySem.Within mA (fs.map (·.1))
  | .own _=>∃ o,h.get? a = some o
  | .xd fs=>∃ mA,h.Ns1 a mA /\ ∀ f,RelO (fs.lookup f) (mA f)
  | .rng lo hi=>∃ t u v,h.get? a = some { cls:=.type "range",data:=.fields #[.int lo t,.int hi u,.int 1 v] }
  | .frz o u=>h.get? a = some o /\ ObjOk H h a u
  | .tbl ps=>h.get? a = some { cls:=.none,data:=.fields ps }
  | .met f x=>h.get? a = some (PySem.W.methodObj (.ref f) (.ref x))
  | .ext φ=>φ h /\ (∃ o,h.get? a = some o) /\ ∀ h1 h2 : Heap,φ h1 -> (∀ o,h1.get? a = some o -> h2.get? a = some o) -> φ h2
def HOk (H : Hp) (h : Heap) : Prop:=∀ a o,H a = some o -> ObjOk P w H h a o
end
section
variable {P : Program} {w : World} {H H' : Hp} {h h' : Heap} {a : Addr} {o : HO}
theorem ObjOk.lt (x : ObjOk P w H h a o) : a < h.objs.size:=by
  cases o with
  | lst xs=>obtain ⟨_,_,_,_,e⟩:=x; exact Heap.lt_size e
  | tup xs=>obtain ⟨_,_,_,p⟩:=x; exact p.lt
  | dK kvs=>obtain ⟨_,_,_,_,o,_,_,e,_⟩:=x; exact Heap.lt_size e
  | dT kvs=>obtain ⟨_,_,_,_,o,_,_,e,_⟩:=x; exact Heap.lt_size e
  | set S n=>obtain ⟨o,_,_,_,e,_⟩:=x; exact Heap.lt_size e
  | ins C dx fs=>obtain ⟨_,_,_,e,_⟩:=x; exact Heap.lt_size e
  | own y=>obtain ⟨_,e⟩:=x; exact Heap.lt_size e
  | xd fs=>obtain ⟨_,⟨_,_,_,e,_⟩,_⟩:=x; exact Heap.lt_size e
  | rng lo hi=>obtain ⟨_,_,_,e⟩:=x; exact Heap.lt_size e
  | frz ob u=>obtain ⟨e,_⟩:=x; exact Heap.lt_size e
  | tbl ps=>exact Heap.lt_size (show h.get? a = some _ from x)
  | met f y=>exact Heap.lt_size (show h.get? a = some _ from x)
  | ext φ=>obtain ⟨_,⟨_,e⟩,_⟩:=x; exact Heap.lt_size e
theorem Paired.mapP {α β : Type} {F G : α -> β -> Prop} : ∀ {l₁ : List α} {l₂ : List β},Paired F l₁ l₂ -> (∀ a b,F a b -> G a b) -> Paired G l₁ l₂
  | _,_,.nil,_=>.nil
  | _,_,.cons r t,f=>.cons (f _ _ r) (Paired.mapP t f)
theorem ObjOk.stay (x : ObjOk P w H h a o) (k : ∀ b u,(b = a \/ H b = some (.own a)) -> h.get? b = some u -> h'.get? b = some u)
    (ho : ∀ b,H b = some (.own a) -> H' b = some (.own a)) (ht : ∀ b xs,H b = some (.tup xs) -> H' b = some (.tup xs)) : ObjOk P w H' h' a o:=by
  induction o with
  | lst xs=>obtain ⟨z,its,n,r,e⟩:=x; exact ⟨z,its,n,r,k _ _ (.inl rfl) e⟩
  | tup xs=>obtain ⟨z,its,r,ob,e,c⟩:=x; exact ⟨z,its,r,ob,k _ _ (.inl rfl) e,c⟩
  | dK kvs=>obtain ⟨z,y,vs,r,ob,es,ep,e,c⟩:=x; exact ⟨z,y,vs,r,ob,es,ep,k _ _ (.inl rfl) e,c⟩
  | dT kvs=>
    obtain ⟨z,y,xs,r,ob,es,ep,e,c⟩:=x
    exact ⟨z,y,xs,Paired.mapP r fun p q z=>⟨z.1,z.2.1.keep ht,z.2.2⟩,ob,es,ep,k _ _ (.inl rfl) e,c⟩
  | set S n=>obtain ⟨ob,es,ep,t,e,c⟩:=x; exact ⟨ob,es,ep,t,k _ _ (.inl rfl) e,c⟩
  | ins C dx fs=>
    obtain ⟨d,z,ne,e,mA,⟨od,es,ep,e2,c⟩,r⟩:=x
    exact ⟨ho _ d,z,ne,k _ _ (.inl rfl) e,mA,⟨od,es,ep,k _ _ (.inr d) e2,c⟩,r⟩
  | own y=>obtain ⟨ob,e⟩:=x; exact ⟨ob,k _ _ (.inl rfl) e⟩
  | xd fs=>obtain ⟨mA,⟨od,es,ep,e,c⟩,r⟩:=x; exact ⟨mA,⟨od,es,ep,k _ _ (.inl rfl) e,c⟩,r⟩
  | rng lo hi=>obtain ⟨t,u,v,e⟩:=x; exact ⟨t,u,v,k _ _ (.inl rfl) e⟩
  | frz ob u ih=>obtain ⟨e,q⟩:=x; exact ⟨k _ _ (.inl rfl) e,ih q⟩
  | tbl ps=>
    have e : h.get? a = some { cls:=.none,data:=.fields ps }:=x
    show h'.get? a = some { cls:=.none,data:=.fields ps }
    exact k a _ (.inl rfl) e
  | met f y=>
    have e : h.get? a = some (PySem.W.methodObj (.ref f) (.ref y)):=x
    show h'.get? a = some (PySem.W.methodObj (.ref f) (.ref y))
    exact k a _ (.inl rfl) e
  | ext φ=>obtain ⟨p,⟨o,e⟩,st⟩:=x; exact ⟨st _ _ p fun o q=>k _ _ (.inl rfl) q,⟨o,k _ _ (.inl rfl) e⟩,st⟩
theorem HOk.lt (x : HOk P w H h) (e : H a = some o) : a < h.objs.size:=(x a o e).lt
theorem HOk.fresh (x : HOk P w H h) (e : h.objs.size <= a) : H a = none:=by
  cases q : H a with
  | none=>rfl
  | some u=>exact absurd (Nat.lt_of_lt_of_le (x.lt q) e) (Nat.lt_irrefl _)
theorem HOk.kept (x : HOk P w H h) (k : ∀ b u,h.get? b = some u -> h'.get? b = some u) : HOk P w H h':=fun a o e=>
  (x a o e).stay (fun b u _ q=>k b u q) (fun _ q=>q) fun _ _ q=>q
theorem HOk.laid (x : HOk P w H h) (k : ∀ b u,h.get? b = some u -> h'.get? b = some u) (hp : h.objs.size <= a) (new : ObjOk P w (upd H a o) h' a o) : HOk P w (upd H a o) h':=fun b u e=>by
  have hn:=x.fresh hp
  by_cases hb : b = a
  · subst hb; rw [upd_same] at e; cases e; exact new
  · rw [upd_ne hb] at e
    exact (x b u e).stay (fun c v _ q=>k c v q) (fun c q=>by rw [upd_ne (ne_of_none q hn)]; exact q) fun c xs q=>by rw [upd_ne (ne_of_none q hn)]; exact q
end
def Rd (H : Hp) (a : Addr) (u : HO) : Prop:=H a = some u \/ ∃ o,H a = some (.frz o u)
theorem Rd.ok {P : Program} {w : World} {H : Hp} {h : Heap} {a : Addr} {u : HO} (r : Rd H a u) (x : HOk P w H h) : ObjOk P w H h a u:=by
  rcases r with r | ⟨o,r⟩
  · exact x a u r
  · obtain ⟨_,q⟩:=x a _ r
    exact q
def Mut : Option HO -> Prop
  | some (.lst _)=>True
  | some (.dK _)=>True
  | some (.dT _)=>True
  | some (.set _ _)=>True
  | some (.ins _ _ _)=>True
  | some (.ext _)=>True
  | _=>False
section
variable {P : Program} {w : World} {H : Hp} {h h' : Heap} {x e : Addr} {o' : HO}
theorem HOk.write (ok : HOk P w H h) (mu : Mut (H x)) (he : e = x \/ H e = some (.own x)) (k : ∀ b u,b ≠ e -> h.get? b = some u -> h'.get? b = some u) (heo : ∃ u,h'.get? e = some u)
    (new : ObjOk P w (upd H x o') h' x o') : HOk P w (upd H x o') h':=fun b u q=>by
  have nown : ∀ c y,H c = some (.own y) -> c ≠ x:=fun c y r z=>by subst z; rw [r] at mu; exact mu
  have ntup : ∀ c xs,H c = some (.tup xs) -> c ≠ x:=fun c xs r z=>by subst z; rw [r] at mu; exact mu
  by_cases hb : b = x
  · subst hb; rw [upd_same] at q; cases q; exact new
  · rw [upd_ne hb] at q
    by_cases hbe : b = e
    · have q' : H b = some (.own x):=by
        rcases he with z | z
        · exact absurd (hbe.trans z) hb
        · rw [hbe]; exact z
      rw [q] at q'; cases q'
      obtain ⟨v,hv⟩:=heo
      exact ⟨v,by rw [hbe]; exact hv⟩
    · refine (ok b u q).stay (fun c v hc r=>k c v ?_ r) (fun c r=>by rw [upd_ne (nown c b r)]; exact r) fun c xs r=>by rw [upd_ne (ntup c xs r)]; exact r
      rcases hc with rfl | hc
      · exact hbe
      · rintro rfl
        rcases he with z | z
        · exact nown c b hc z
        · rw [hc] at z; cases z; exact hb rfl
end
structure Un (fs ex : List Addr) (H H' : Hp) (h h' : Heap) : Prop where
  keep : ∀ b o,h.get? b = some o -> H b = none -> b ∉ fs -> b ∉ ex -> h'.get? b = some o
  slot : ∀ b o,h.get? b = some o -> H b = none -> b ∈ fs -> b ∉ ex -> ∃ sl,h'.get? b = some { o with slots:=sl }
  free : ∀ b o,h.get? b = some o -> H b = none -> b ∉ ex -> H' b = none
  there : ∀ b o,h.get? b = some o -> b ∉ ex -> ∃ o',h'.get? b = some o'
  tups : ∀ b xs,H b = some (.tup xs) -> H' b = some (.tup xs)
  frzs : ∀ b o u,H b = some (.frz o u) -> H' b = some (.frz o u)
  tbls : ∀ b ps,H b = some (.tbl ps) -> ∃ more,H' b = some (.tbl (ps ++ more))
section
variable {fs fs' ex ex' : List Addr} {H H1 H2 : Hp} {h h1 h2 h' : Heap} {a x e : Addr} {o : HO}
theorem Un.any (u : Un fs ex H H1 h h1) {b : Addr} {ob : Obj} (q : h.get? b = some ob) (n : H b = none) (hx : b ∉ ex) : ∃ sl,h1.get? b = some { ob with slots:=sl }:=by
  by_cases hb : b ∈ fs
  · exact u.slot b ob q n hb hx
  · exact ⟨ob.slots,u.keep b ob q n hb hx⟩
theorem Un.kept (k : ∀ b u,h.get? b = some u -> h'.get? b = some u) : Un fs ex H H h h':=
  ⟨fun b ob q _ _ _=>k b ob q,fun b ob q _ _ _=>⟨ob.slots,k b ob q⟩,fun _ _ _ n _=>n,fun b ob q _=>⟨ob,k b ob q⟩,fun _ _ q=>q,fun _ _ _ q=>q,fun _ ps q=>⟨#[],by rw [q]; simp⟩⟩
theorem Un.refl : Un fs ex H H h h:=Un.kept fun _ _ q=>q
theorem Un.laid (k : ∀ b u,h.get? b = some u -> h'.get? b = some u) (hp : h.objs.size <= a) (hn : H a = none) : Un fs ex H (upd H a o) h h' where
  keep:=fun b u q _ _ _=>k b u q
  slot:=fun b u q _ _ _=>⟨u.slots,k b u q⟩
  free:=fun b u q n _=>by rw [upd_ne (Nat.ne_of_lt (Nat.lt_of_lt_of_le (Heap.lt_size q) hp))]; exact n
  there:=fun b u q _=>⟨u,k b u q⟩
  tups:=fun b xs q=>by rw [upd_ne (ne_of_none q hn)]; exact q
  frzs:=fun b u xs q=>by rw [upd_ne (ne_of_none q hn)]; exact q
  tbls:=fun b ps q=>⟨#[],by rw [upd_ne (ne_of_none q hn),q]; simp⟩
theorem Un.write (mu : Mut (H x)) (he : e = x \/ H e = some (.own x)) (k : ∀ b u,b ≠ e -> h.get? b = some u -> h'.get? b = some u) (heo : ∃ u,h'.get? e = some u) : Un fs ex H (upd H x o) h h':=by
  have hx : ∀ b,H b = none -> b ≠ x:=fun b n z=>by subst z; rw [n] at mu; exact mu
  have hb : ∀ b,H b = none -> b ≠ e:=fun b n z=>by
    subst z
    rcases he with r | r
    · exact hx b n r
    · rw [n] at r; cases r
  have hm : ∀ b u,H b = some u -> ¬ Mut (some u) -> b ≠ x:=fun b u q nm z=>by subst z; rw [q] at mu; exact nm mu
  refine ⟨fun b u q n _ _=>k b u (hb b n) q,fun b u q n _ _=>⟨u.slots,k b u (hb b n) q⟩,fun b u q n _=>by rw [upd_ne (hx b n)]; exact n,fun b u q _=>?_,
    fun b xs q=>by rw [upd_ne (hm b _ q fun z=>z)]; exact q,fun b u xs q=>by rw [upd_ne (hm b _ q fun z=>z)]; exact q,fun b ps q=>⟨#[],by rw [upd_ne (hm b _ q fun z=>z),q]; simp⟩⟩
  by_cases hbe : b = e
  · subst hbe; exact heo
  · exact ⟨u,k b u hbe q⟩
end
def trk (h : Heap) (H : Hp) : List Addr:=(List.range h.objs.size).filter fun a=>(H a).isSome
def hidT (h : Heap) (H : Hp) : Heap:=PySem.W.hideAll h (trk h H)
theorem hidT_size (h : Heap) (H : Hp) : (hidT h H).objs.size = h.objs.size:=PySem.W.hideAll_size _ _
theorem hidT_get {h : Heap} {H : Hp} {b : Addr} {o : Obj} (e : h.get? b = some o) (n : H b = none) : (hidT h H).get? b = some o:=
  PySem.W.hideAll_get _ e fun hm=>by
    have q : (H b).isSome = true:=(List.mem_filter.mp hm).2
    rw [n] at q; simp at q
theorem of_hidT {h : Heap} {H : Hp} {b : Addr} {o : Obj} (e : (hidT h H).get? b = some o) : h.get? b = some o /\ H b = none:=by
  have e' : h.get? b = some o:=PySem.W.of_hideAll (trk h H) e
  refine ⟨e',?_⟩
  cases q : H b with
  | none=>rfl
  | some x=>
    have hm : b ∈ trk h H:=List.mem_filter.mpr ⟨List.mem_range.mpr (Heap.lt_size e'),by simp [q]⟩
    have z : (hidT h H).get? b = none:=PySem.W.hideAll_none (trk h H) hm
    rw [z] at e; cases e
def allNews (g h : Heap) (L : Addr) : List (Addr × Obj):=(List.range h.objs.size).filterMap fun a=>if a = L \/ (g.get? a).isSome = true then none else (h.get? a).map fun o=>(a,o)
def rest (g h : Heap) (L d : Addr) : List (Addr × Obj):=(allNews g h L).filter fun p=>decide (p.1 ≠ d)
end L2
namespace L2
open PySem PySem.Spec PyProof.Rows
structure Mod (K : PySem.W.Frag) (mg : Str -> Option Value) (base : Heap) : Prop where
  kin : K.In base
  glob : base.Ns mainGlobals mg
  blt : ∃ mb,base.Ns builtinsNs mb /\ ∀ x : Str,x ≠ "__name__" -> mb x = bootBuiltins x
  nolimit : base.NoLimit
structure Cx where
  prog : Program
  w : World
  K : PySem.W.Frag
  mg : Str -> Option Value
  base : Heap
  A : Around
  N : List Str
  s₀ : Shared
  H₀ : Hp
  env : Env
  outer : List Env
  stack : List Env
  ex : List Addr
  fn : Str -> Bool
  calm : Bool
  pn : List (Addr × Obj)
  xe : Value -> Shared -> Prop
def frs (l : List Env) : List Addr:=l.filterMap (·.frame)
abbrev Cx.fs (X : Cx) : List Addr:=frs X.outer
def Vis (sc : Scope) (x : Str) : Prop:=sc.names.lookup x = some .local \/ sc.names.lookup x = some .cell \/ sc.names.lookup x = some .free
def Loc (sc : Scope) (x : Str) : Prop:=sc.names.lookup x = some .local \/ sc.names.lookup x = some .cell
def Look (env : Env) (h : Heap) (m : Str -> Option Value) (x : Str) (u : Value) : Prop:=
  (env.kindOf x = some .local /\ m x = some u) \/ ((env.kindOf x = some .cell \/ env.kindOf x = some .free) /\ ∃ c,env.cells.lookup x = some c /\ h.IsCell c (some u))
structure Cx.Ok (X : Cx) : Prop where
  mod : Mod X.K X.mg X.base
  kind : X.env.scope.kind = .function
  glob : X.env.globals = mainGlobals
  blt : X.env.builtins = builtinsNs
  above : X.s₀.heap.objs.size <= X.env.locals
  inj : ∀ x y c,X.env.cells.lookup x = some c -> X.env.cells.lookup y = some c -> x = y
  has : ∀ x,(X.env.kindOf x = some .cell \/ X.env.kindOf x = some .free) -> ∃ c,X.env.cells.lookup x = some c
  cab : ∀ x c,X.fn x = true -> X.env.cells.lookup x = some c -> X.s₀.heap.objs.size <= c
  hd : X.calm = true -> X.A.handled = none
  frames : X.A.frames = some X.stack
  stk : X.stack = X.outer \/ (X.stack = X.env :: X.outer /\ X.env.frame = some X.env.locals)
  exf : ∀ b ∈ X.ex,b ≠ X.env.locals /\ ∀ x c,X.env.cells.lookup x = some c -> c ≠ b
  bs : ∀ b o,X.base.get? b = some o -> X.s₀.heap.get? b = some o /\ X.H₀ b = none
  bsz : X.base.objs.size <= X.s₀.heap.objs.size
  noex : ∀ b o,X.base.get? b = some o -> b ∉ X.ex
  exfs : ∀ b ∈ X.ex,b ∉ X.fs
  funs : X.s₀.heap.FunFrames X.base X.outer
  frf : ∀ b ∈ X.fs,X.H₀ b = none
structure Inv (X : Cx) (pins : List (Addr × Obj)) (σ : List (Option V)) (H : Hp) (s : Shared) : Prop where
  ok : X.Ok
  os : s.os = X.s₀.os
  bare : AllBare s.gens
  base : Un X.fs X.ex X.H₀ H X.s₀.heap s.heap
  loc : ∃ m,s.heap.Ns X.env.locals m /\ ∀ (i : Nat) (x : Str) (v : V),X.N[i]? = some x -> σ[i]? = some (some v) -> Vis X.env.scope x -> ∃ u,RelV v u /\ Look X.env s.heap m x u
  cell : ∀ x c,X.env.cells.lookup x = some c -> ∃ v,s.heap.IsCell c v
  free : H X.env.locals = none
  freeC : ∀ x c,X.env.cells.lookup x = some c -> H c = none
  pin : ∀ p ∈ X.pn ++ pins,s.heap.get? p.1 = some p.2 /\ H p.1 = none /\ p.1 ≠ X.env.locals /\ p.1 ∉ X.fs /\ ∀ v,p.2.data ≠ .cell v
  hok : HOk X.prog X.w H s.heap
  len : σ.length = X.N.length
section
variable {X : Cx} {pins : List (Addr × Obj)} {σ : List (Option V)} {H H' : Hp} {s : Shared} {h' : Heap}
theorem Cx.Ok.nofr (ok : X.Ok) {b : Addr} {o : Obj} (e : X.base.get? b = some o) : b ∉ X.fs:=fun hb=>by
  have:=(ok.funs.mem hb).1
  rw [e] at this; cases this
theorem Inv.bs (I : Inv X pins σ H s) : ∀ b o,X.base.get? b = some o -> s.heap.get? b = some o /\ H b = none:=fun b o e=>
  ⟨I.base.keep b o (I.ok.bs b o e).1 (I.ok.bs b o e).2 (I.ok.nofr e) (I.ok.noex b o e),I.base.free b o (I.ok.bs b o e).1 (I.ok.bs b o e).2 (I.ok.noex b o e)⟩
theorem Inv.bk (I : Inv X pins σ H s) : ∀ b o,X.base.get? b = some o -> s.heap.get? b = some o:=fun b o e=>(I.bs b o e).1
theorem Inv.mod (I : Inv X pins σ H s) : Mod X.K X.mg X.base:=I.ok.mod
theorem Inv.kIn (I : Inv X pins σ H s) : X.K.In s.heap:=I.ok.mod.kin.keeps I.bk
theorem Inv.lt (I : Inv X pins σ H s) : X.env.locals < s.heap.objs.size:=let ⟨_,hn,_⟩:=I.loc; hn.lt
theorem Inv.sz (I : Inv X pins σ H s) : X.s₀.heap.objs.size <= s.heap.objs.size:=Nat.le_trans I.ok.above (Nat.le_of_lt I.lt)
theorem Inv.nofs (I : Inv X pins σ H s) {a : Addr} (h : s.heap.objs.size <= a) : a ∉ X.fs:=fun hb=>by
  obtain ⟨_,o,ho,_⟩:=I.ok.funs.mem hb
  exact absurd (Nat.lt_of_lt_of_le (Heap.lt_size ho) (Nat.le_trans I.sz h)) (Nat.lt_irrefl _)
theorem Inv.cne (I : Inv X pins σ H s) : ∀ x c,X.env.cells.lookup x = some c -> c ≠ X.env.locals:=fun x c e z=>by
  obtain ⟨v,o,ho,hd⟩:=I.cell x c e
  obtain ⟨m,⟨o',es,ep,ho',hd',_⟩,_⟩:=I.loc
  rw [z,ho'] at ho; cases ho; rw [hd'] at hd; cases hd
theorem Inv.funs (I : Inv X pins σ H s) : s.heap.FunFrames X.base X.outer:=by
  have all : ∀ (l : List Env),(∀ b ∈ frs l,b ∈ X.fs) -> X.s₀.heap.FunFrames X.base l -> s.heap.FunFrames X.base l:=by
    intro l
    induction l with
    | nil=>intro _ _; trivial
    | cons env r ih=>
      intro hs hl
      obtain ⟨hk,⟨L,o,hf,hn,ho,hd⟩,hr⟩:=hl
      have hL : L ∈ X.fs:=hs L (by unfold frs; rw [List.filterMap_cons,hf]; exact List.mem_cons_self)
      obtain ⟨sl,e⟩:=I.base.slot L o ho (I.ok.frf L hL) hL fun z=>I.ok.exfs L z hL
      exact ⟨hk,⟨L,_,hf,hn,e,hd⟩,ih (fun b hb=>hs b (by unfold frs; rw [List.filterMap_cons,hf]; exact List.mem_cons_of_mem _ hb)) hr⟩
  exact all X.outer (fun _ hb=>hb) I.ok.funs
theorem Inv.stack (I : Inv X pins σ H s) : s.heap.FunFrames X.base X.stack:=by
  rcases I.ok.stk with e | ⟨e,hf⟩
  · rw [e]; exact I.funs
  · rw [e]
    obtain ⟨m,hn,_⟩:=I.loc
    refine .cons (by rw [I.ok.kind]; decide) hf hn ?_ I.funs
    exact Heap.get?_none_of_le (Nat.le_trans I.ok.bsz I.ok.above)
theorem Inv.stkSub (I : Inv X pins σ H s) : ∀ b ∈ frs X.stack,b ∈ X.env.locals :: X.fs:=fun b hb=>by
  rcases I.ok.stk with e | ⟨e,hf⟩
  · rw [e] at hb; exact List.mem_cons_of_mem _ hb
  · rw [e] at hb
    unfold frs at hb
    rw [List.filterMap_cons,hf] at hb
    exact hb
theorem Inv.stkFree (I : Inv X pins σ H s) : ∀ b ∈ frs X.stack,H b = none:=fun b hb=>by
  rcases List.mem_cons.mp (I.stkSub b hb) with e | hb
  · rw [e]; exact I.free
  · obtain ⟨_,o,ho,_⟩:=I.ok.funs.mem hb
    exact I.base.free b o ho (I.ok.frf b hb) fun z=>I.ok.exfs b z hb
theorem Inv.step {g' : Array GenState} {t' : Nat} {d' : Drawn} {ch : List Addr} (I : Inv X pins σ H s)
    (hch : ∀ b ∈ ch,(b ∈ X.ex \/ X.s₀.heap.objs.size <= b) /\ b ≠ X.env.locals /\ (∀ x c,X.env.cells.lookup x = some c -> c ≠ b) /\ ∀ p ∈ X.pn ++ pins,p.1 ≠ b)
    (keep : ∀ b o,b ≠ X.env.locals -> b ∉ X.fs -> b ∉ ch -> s.heap.get? b = some o -> H b = none -> h'.get? b = some o)
    (slot : ∀ b o,b ≠ X.env.locals -> b ∈ X.fs -> b ∉ ch -> s.heap.get? b = some o -> H b = none -> ∃ sl,h'.get? b = some { o with slots:=sl }) (free : ∀ b o,b ∉ ch -> s.heap.get? b = some o -> H b = none -> H' b = none)
    (there : ∀ b o,b ∉ ch -> s.heap.get? b = some o -> ∃ o',h'.get? b = some o')
    (tups : ∀ b xs,H b = some (.tup xs) -> H' b = some (.tup xs)) (frzs : ∀ b o u,H b = some (.frz o u) -> H' b = some (.frz o u)) (tbls : ∀ b ps,H b = some (.tbl ps) -> ∃ more,H' b = some (.tbl (ps ++ more)))
    (ns : ∀ m,s.heap.Ns X.env.locals m -> h'.Ns X.env.locals m) (hok : HOk X.prog X.w H' h') (hg : AllBare g') :
    Inv X pins σ H' { s with heap:=h',gens:=g',drawn:=d',toks:=t' }:=by
  have neL : ∀ b o,X.s₀.heap.get? b = some o -> b ≠ X.env.locals:=fun b o e=>Nat.ne_of_lt (Nat.lt_of_lt_of_le (Heap.lt_size e) I.ok.above)
  have neC : ∀ b o,X.s₀.heap.get? b = some o -> b ∉ X.ex -> b ∉ ch:=fun b o e hx hb=>by
    rcases (hch b hb).1 with z | z
    · exact hx z
    · exact absurd (Nat.lt_of_lt_of_le (Heap.lt_size e) z) (Nat.lt_irrefl _)
  have cellK : ∀ x c,X.env.cells.lookup x = some c -> ∀ v,s.heap.IsCell c v -> h'.IsCell c v:=fun x c e v ⟨o,ho,hd⟩=>by
    have nch : c ∉ ch:=fun z=>(hch c z).2.2.1 x c e rfl
    by_cases hc : c ∈ X.fs
    · obtain ⟨sl,q⟩:=slot c o (I.cne x c e) hc nch ho (I.freeC x c e)
      exact ⟨_,q,hd⟩
    · exact ⟨o,keep c o (I.cne x c e) hc nch ho (I.freeC x c e),hd⟩
  refine ⟨I.ok,I.os,hg,⟨fun b o e n hb hx=>?_,fun b o e n hb hx=>?_,fun b o e n hx=>?_,fun b o e hx=>?_,fun b xs e=>tups b xs (I.base.tups b xs e),fun b o xs e=>frzs b o xs (I.base.frzs b o xs e),fun b ps e=>?_⟩,?_,fun x c e=>?_,?_,fun x c e=>?_,fun p hp=>?_,hok,I.len⟩
  · exact keep b o (neL b o e) hb (neC b o e hx) (I.base.keep b o e n hb hx) (I.base.free b o e n hx)
  · obtain ⟨sl,e1⟩:=I.base.slot b o e n hb hx
    obtain ⟨sl',e2⟩:=slot b _ (neL b o e) hb (neC b o e hx) e1 (I.base.free b o e n hx)
    exact ⟨sl',e2⟩
  · obtain ⟨o',e1⟩:=I.base.there b o e hx
    exact free b o' (neC b o e hx) e1 (I.base.free b o e n hx)
  · obtain ⟨o',e1⟩:=I.base.there b o e hx
    exact there b o' (neC b o e hx) e1
  · obtain ⟨m1,e1⟩:=I.base.tbls b ps e
    obtain ⟨m2,e2⟩:=tbls b _ e1
    exact ⟨m1 ++ m2,by rw [e2,Array.append_assoc]⟩
  · obtain ⟨m,hn,hl⟩:=I.loc
    refine ⟨m,ns m hn,fun i x v e1 e2 e3=>?_⟩
    obtain ⟨u,r,l⟩:=hl i x v e1 e2 e3
    refine ⟨u,r,?_⟩
    rcases l with l | ⟨k,c,e,z⟩
    · exact .inl l
    · exact .inr ⟨k,c,e,cellK x c e _ z⟩
  · obtain ⟨v,z⟩:=I.cell x c e
    exact ⟨v,cellK x c e v z⟩
  · obtain ⟨m,⟨o,_,_,ho,_⟩,_⟩:=I.loc
    exact free _ o (fun z=>(hch _ z).2.1 rfl) ho I.free
  · obtain ⟨v,o,ho,hd⟩:=I.cell x c e
    exact free c o (fun z=>(hch c z).2.2.1 x c e rfl) ho (I.freeC x c e)
  · obtain ⟨e,n,ne,nf,d⟩:=I.pin p hp
    have nch : p.1 ∉ ch:=fun z=>(hch p.1 z).2.2.2 p hp rfl
    exact ⟨keep p.1 p.2 ne nf nch e n,free p.1 p.2 nch e n,ne,nf,d⟩
theorem Inv.un {t' : Nat} (I : Inv X pins σ H s) (u : Un X.fs [] H H' s.heap h') (hok : HOk X.prog X.w H' h') : Inv X pins σ H' { s with heap:=h',toks:=t' }:=by
  obtain ⟨m,⟨o,es,ep,ho,r⟩,_⟩:=id I.loc
  obtain ⟨sl,hL⟩:=u.any ho I.free (by simp)
  exact I.step (g':=s.gens) (d':=s.drawn) (ch:=[]) (fun _ z=>nomatch z) (fun b o _ hb _ e n=>u.keep b o e n hb (by simp)) (fun b o _ hb _ e n=>u.slot b o e n hb (by simp)) (fun b o _ e n=>u.free b o e n (by simp)) (fun b o _ e=>u.there b o e (by simp)) u.tups u.frzs u.tbls (fun m' hm=>by
    obtain ⟨o',es',ep',ho',r'⟩:=hm
    rw [ho] at ho'; cases ho'
    exact ⟨_,es',ep',hL,r'⟩) hok I.bare
theorem Inv.call {g' : Array GenState} {t' : Nat} {d' : Drawn} {ch : List Addr} (I : Inv X pins σ H s) (u : Un (frs X.stack) ch H H' s.heap h') (hok : HOk X.prog X.w H' h') (hg : AllBare g')
    (hch : ∀ b ∈ ch,(b ∈ X.ex \/ X.s₀.heap.objs.size <= b) /\ b ≠ X.env.locals /\ (∀ x c,X.env.cells.lookup x = some c -> c ≠ b) /\ ∀ p ∈ X.pn ++ pins,p.1 ≠ b) :
    Inv X pins σ H' { s with heap:=h',gens:=g',drawn:=d',toks:=t' }:=by
  obtain ⟨m,⟨o,es,ep,ho,r⟩,_⟩:=id I.loc
  obtain ⟨sl,hL⟩:=u.any ho I.free fun z=>(hch _ z).2.1 rfl
  exact I.step (ch:=ch) hch (fun b o hL hb hc e n=>u.keep b o e n (fun z=>(List.mem_cons.mp (I.stkSub b z)).elim hL hb) hc) (fun b o _ _ hc e n=>u.any e n hc) (fun b o hc e n=>u.free b o e n hc) (fun b o hc e=>u.there b o e hc) u.tups u.frzs u.tbls (fun m' hm=>by
    obtain ⟨o',es',ep',ho',r'⟩:=hm
    rw [ho] at ho'; cases ho'
    exact ⟨_,es',ep',hL,r'⟩) hok hg
theorem Inv.turned {t' : Nat} {it : Addr} (I : Inv X pins σ H s) (k : ∀ b o,b ≠ it -> s.heap.get? b = some o -> h'.get? b = some o) (hn : H it = none) (hL : it ≠ X.env.locals)
    (h1 : it ∈ X.ex \/ X.s₀.heap.objs.size <= it) (h2 : ∀ x c,X.env.cells.lookup x = some c -> c ≠ it) (h3 : ∀ p ∈ X.pn ++ pins,p.1 ≠ it) : Inv X pins σ H { s with heap:=h',toks:=t' }:=by
  have nit : ∀ b u,H b = some u -> b ≠ it:=fun b u e z=>by rw [z,hn] at e; cases e
  refine I.step (g':=s.gens) (d':=s.drawn) (ch:=[it]) (fun b hb=>?_) (fun b o _ _ hc e _=>k b o (fun z=>hc (by simp [z])) e) (fun b o _ _ hc e _=>⟨o.slots,k b o (fun z=>hc (by simp [z])) e⟩) (fun _ _ _ _ n=>n)
    (fun b o hc e=>⟨o,k b o (fun z=>hc (by simp [z])) e⟩) (fun _ _ e=>e) (fun _ _ _ e=>e) (fun b ps e=>⟨#[],by rw [e]; simp⟩) (fun m hm=>?_) (fun b u e=>?_) I.bare
  · have e : b = it:=by simpa using hb
    subst e
    exact ⟨h1,hL,h2,h3⟩
  · obtain ⟨o,es,ep,ho,r⟩:=hm
    exact ⟨o,es,ep,k _ o (Ne.symm hL) ho,r⟩
  · refine (I.hok b u e).stay (fun c v hc q=>k c v ?_ q) (fun _ q=>q) fun _ _ q=>q
    rcases hc with z | z
    · rw [z]; exact nit b u e
    · exact nit c _ z
theorem Inv.tok (I : Inv X pins σ H s) (t : Nat) : Inv X pins σ H { s with toks:=t }:=I.un (h':=s.heap) (t':=t) Un.refl I.hok
theorem Inv.kept {t' : Nat} (I : Inv X pins σ H s) (k : ∀ b u,s.heap.get? b = some u -> h'.get? b = some u) : Inv X pins σ H { s with heap:=h',toks:=t' }:=I.un (Un.kept k) (I.hok.kept k)
theorem Inv.laid {a : Addr} {o : HO} {t' : Nat} (I : Inv X pins σ H s) (k : ∀ b u,s.heap.get? b = some u -> h'.get? b = some u) (hp : s.heap.objs.size <= a) (new : ObjOk X.prog X.w (upd H a o) h' a o) :
    Inv X pins σ (upd H a o) { s with heap:=h',toks:=t' }:=I.un (Un.laid k hp (I.hok.fresh hp)) (I.hok.laid k hp new)
theorem Inv.write {x e : Addr} {o : HO} {t' : Nat} (I : Inv X pins σ H s) (mu : Mut (H x)) (he : e = x \/ H e = some (.own x)) (k : ∀ b u,b ≠ e -> s.heap.get? b = some u -> h'.get? b = some u) (heo : ∃ u,h'.get? e = some u)
    (new : ObjOk X.prog X.w (upd H x o) h' x o) : Inv X pins σ (upd H x o) { s with heap:=h',toks:=t' }:=I.un (Un.write mu he k heo) (I.hok.write mu he k heo new)
theorem Inv.pins_of {pins' : List (Addr × Obj)} (I : Inv X pins σ H s) (h : ∀ p ∈ pins',s.heap.get? p.1 = some p.2 /\ H p.1 = none /\ p.1 ≠ X.env.locals /\ p.1 ∉ X.fs /\ ∀ v,p.2.data ≠ .cell v) : Inv X pins' σ H s:=
  ⟨I.ok,I.os,I.bare,I.base,I.loc,I.cell,I.free,I.freeC,fun p hp=>(List.mem_append.mp hp).elim (fun z=>I.pin p (List.mem_append_left _ z)) (h p),I.hok,I.len⟩
theorem nodup_ix {N : List Str} (hN : N.Nodup) {i j : Nat} {x : Str} (a : N[i]? = some x) (b : N[j]? = some x) : i = j:=by
  obtain ⟨h1,e1⟩:=List.getElem?_eq_some_iff.mp a
  obtain ⟨h2,e2⟩:=List.getElem?_eq_some_iff.mp b
  exact (List.getElem_inj hN).mp (e1.trans e2.symm)
theorem store_ok2 {M : Model} {A : Around} {E : Value -> Shared -> Prop} {i : Nat} {x : Str} {v : V} {u : Value} {Q : Unit -> Shared -> Prop} (I : Inv X pins σ H s) (hN : X.N.Nodup) (hi : X.N[i]? = some x) (hx : Loc X.env.scope x) (r : RelV v u)
    (h : ∀ s',Inv X pins (σ.set i (some v)) H s' -> (∃ a,Heap.SameBut a s.heap s'.heap /\ (a = X.env.locals \/ X.env.cells.lookup x = some a)) -> Q () s') (hf : X.fn x = true \/ X.env.scope.names.lookup x = some .local:=by first | exact .inl rfl | exact .inr rfl | assumption) : wpAny M A (storeName X.env x u) Q E s:=by
  obtain ⟨m,hn,hl⟩:=id I.loc
  have hcls : (X.env.scope.kind == .class || (X.env.scope.kind == .module && X.env.locals != X.env.globals)) = false:=by rw [I.ok.kind]; rfl
  have hiσ : i < σ.length:=by rw [I.len]; exact (List.getElem?_eq_some_iff.mp hi).1
  have cne:=I.cne
  have tracked : ∀ {a : Addr} {h' : Heap},(∃ o,s.heap.get? a = some o /\ H a = none) -> Heap.SameBut a s.heap h' -> HOk X.prog X.w H h':=fun {a h'} ha hs b ob e=>by
    obtain ⟨_,_,hfree⟩:=ha
    refine (I.hok b ob e).stay (fun c w' hc q=>(hs.2 c ?_).trans q) (fun _ q=>q) fun _ _ q=>q
    rintro rfl
    rcases hc with rfl | hc
    · rw [hfree] at e; cases e
    · rw [hfree] at hc; cases hc
  rcases hx with hk | hk
  · refine wpAny_storeName_local hk hn (fun h' hn' hs=>?_) hcls
    obtain ⟨oL,_,_,hoL,_⟩:=id hn
    refine h _ ⟨I.ok,I.os,I.bare,⟨fun b o e n hb hx=>?_,fun b o e n hb hx=>?_,I.base.free,fun b o e hx=>?_,I.base.tups,I.base.frzs,I.base.tbls⟩,⟨_,hn',fun j y v' e1 e2 e3=>?_⟩,fun y c e=>?_,I.free,I.freeC,fun p hp=>?_,tracked ⟨oL,hoL,I.free⟩ hs,by simpa using I.len⟩ ⟨_,hs,.inl rfl⟩
    · exact (hs.2 b (Nat.ne_of_lt (Nat.lt_of_lt_of_le (Heap.lt_size e) I.ok.above))).trans (I.base.keep b o e n hb hx)
    · obtain ⟨sl,e1⟩:=I.base.slot b o e n hb hx
      exact ⟨sl,(hs.2 b (Nat.ne_of_lt (Nat.lt_of_lt_of_le (Heap.lt_size e) I.ok.above))).trans e1⟩
    · obtain ⟨o',e1⟩:=I.base.there b o e hx
      exact ⟨o',(hs.2 b (Nat.ne_of_lt (Nat.lt_of_lt_of_le (Heap.lt_size e) I.ok.above))).trans e1⟩
    · by_cases hj : j = i
      · subst hj
        rw [hi] at e1; cases e1
        rw [List.getElem?_set_self hiσ] at e2
        cases e2
        exact ⟨u,r,.inl ⟨hk,by simp⟩⟩
      · rw [List.getElem?_set_ne (Ne.symm hj)] at e2
        obtain ⟨u',r',q⟩:=hl j y v' e1 e2 e3
        refine ⟨u',r',?_⟩
        rcases q with ⟨k,e⟩ | ⟨k,c,e,z⟩
        · refine .inl ⟨k,?_⟩
          have : y ≠ x:=fun e=>hj (nodup_ix hN e1 (e ▸ hi))
          simp [this,e]
        · exact .inr ⟨k,c,e,z.sameBut hs (cne y c e)⟩
    · obtain ⟨w',z⟩:=I.cell y c e
      exact ⟨w',z.sameBut hs (cne y c e)⟩
    · obtain ⟨e,n,ne,nf,d⟩:=I.pin p hp
      exact ⟨(hs.2 p.1 ne).trans e,n,ne,nf,d⟩
  · have hfn : X.fn x = true:=by
      rcases hf with z | z
      · exact z
      · rw [z] at hk; cases hk
    obtain ⟨c,hc⟩:=I.ok.has x (.inl hk)
    obtain ⟨w',z⟩:=I.cell x c hc
    refine wpAny_storeName_cell I.ok.kind hk hc z (fun h' hc' hs=>?_)
    obtain ⟨oc,hoc,hocd⟩:=id z
    refine h { s with heap:=h' } ⟨I.ok,I.os,I.bare,⟨fun b o e n hb hx=>?_,fun b o e n hb hx=>?_,I.base.free,fun b o e hx=>?_,I.base.tups,I.base.frzs,I.base.tbls⟩,⟨m,hn.sameBut hs (Ne.symm (cne x c hc)),fun j y v' e1 e2 e3=>?_⟩,fun y c' e=>?_,I.free,I.freeC,fun p hp=>?_,tracked ⟨oc,hoc,I.freeC x c hc⟩ hs,by simpa using I.len⟩ ⟨c,hs,.inr hc⟩
    · exact (hs.2 b (Nat.ne_of_lt (Nat.lt_of_lt_of_le (Heap.lt_size e) (I.ok.cab x c hfn hc)))).trans (I.base.keep b o e n hb hx)
    · obtain ⟨sl,e1⟩:=I.base.slot b o e n hb hx
      exact ⟨sl,(hs.2 b (Nat.ne_of_lt (Nat.lt_of_lt_of_le (Heap.lt_size e) (I.ok.cab x c hfn hc)))).trans e1⟩
    · obtain ⟨o',e1⟩:=I.base.there b o e hx
      exact ⟨o',(hs.2 b (Nat.ne_of_lt (Nat.lt_of_lt_of_le (Heap.lt_size e) (I.ok.cab x c hfn hc)))).trans e1⟩
    · by_cases hj : j = i
      · subst hj
        rw [hi] at e1; cases e1
        rw [List.getElem?_set_self hiσ] at e2
        cases e2
        exact ⟨u,r,.inr ⟨.inl hk,c,hc,hc'⟩⟩
      · rw [List.getElem?_set_ne (Ne.symm hj)] at e2
        obtain ⟨u',r',q⟩:=hl j y v' e1 e2 e3
        refine ⟨u',r',?_⟩
        rcases q with q | ⟨k,c',e,z'⟩
        · exact .inl q
        · refine .inr ⟨k,c',e,z'.sameBut hs ?_⟩
          rintro rfl
          exact hj (nodup_ix hN e1 (I.ok.inj _ _ _ e hc ▸ hi))
    · by_cases hcc : c' = c
      · subst hcc; exact ⟨_,hc'⟩
      · obtain ⟨w2,z2⟩:=I.cell y c' e
        exact ⟨w2,z2.sameBut hs hcc⟩
    · obtain ⟨e,n,ne,nf,d⟩:=I.pin p hp
      refine ⟨(hs.2 p.1 ?_).trans e,n,ne,nf,d⟩
      intro q
      rw [q,hoc] at e
      have q' : oc = p.2:=Option.some.inj e
      exact d w' (by rw [<- q']; exact hocd)
theorem store_ok {M : Model} {A : Around} {E : Value -> Shared -> Prop} {i : Nat} {x : Str} {v : V} {u : Value} {Q : Unit -> Shared -> Prop} (I : Inv X pins σ H s) (hN : X.N.Nodup) (hi : X.N[i]? = some x) (hx : Loc X.env.scope x) (r : RelV v u)
    (h : ∀ s',Inv X pins (σ.set i (some v)) H s' -> Q () s') (hf : X.fn x = true \/ X.env.scope.names.lookup x = some .local:=by first | exact .inl rfl | exact .inr rfl | assumption) : wpAny M A (storeName X.env x u) Q E s:=
  store_ok2 I hN hi hx r (fun s' I' _=>h s' I') hf
theorem Inv.call' {s' : Shared} {ch : List Addr} (I : Inv X pins σ H s) (ho : s'.os = s.os) (u : Un (frs X.stack) ch H H' s.heap s'.heap) (hok : HOk X.prog X.w H' s'.heap) (hg : AllBare s'.gens)
    (hch : ∀ b ∈ ch,(b ∈ X.ex \/ X.s₀.heap.objs.size <= b) /\ b ≠ X.env.locals /\ (∀ x c,X.env.cells.lookup x = some c -> c ≠ b) /\ ∀ p ∈ X.pn ++ pins,p.1 ≠ b) : Inv X pins σ H' s':=by
  obtain ⟨h',g',d',t',o'⟩:=s'
  have e : o' = s.os:=ho
  subst e
  exact I.call (g':=g') (t':=t') (d':=d') u hok hg hch
end
abbrev XK:=Value -> Option Addr -> Hp -> Prop
abbrev St:=List (Option V)
abbrev VK:=V -> Hp -> Prop
abbrev TE:=St -> Hp -> VK -> Prop
abbrev TT:=St -> Hp -> (Bool -> Hp -> Prop) -> Prop
abbrev TA:=St -> Hp -> (List V -> Hp -> Prop) -> Prop
structure Ends where
  nx : St -> Hp -> Prop
  rt : VK
  bk : St -> Hp -> Prop:=fun _ _=>False
  ct : St -> Hp -> Prop:=fun _ _=>False
abbrev TS:=Ends -> St -> Hp -> Prop
def EP (X : Cx) (pins : List (Addr × Obj)) (σ : St) (Q : VK) (u : Value) (s' : Shared) : Prop:=∃ v H',Inv X pins σ H' s' /\ RelV v u /\ Q v H'
def TP (X : Cx) (pins : List (Addr × Obj)) (σ : St) (Q : Bool -> Hp -> Prop) (b : Bool) (s' : Shared) : Prop:=∃ H',Inv X pins σ H' s' /\ Q b H'
def AP (X : Cx) (pins : List (Addr × Obj)) (σ : St) (Q : List V -> Hp -> Prop) (us : List Value) (s' : Shared) : Prop:=∃ vs H',Inv X pins σ H' s' /\ Vals vs us /\ Q vs H'
def SP (X : Cx) (pins : List (Addr × Obj)) (D : Ends) (f : Flow) (s' : Shared) : Prop:=
  match f with
  | .next=>∃ σ' H',Inv X pins σ' H' s' /\ D.nx σ' H'
  | .brk=>∃ σ' H',Inv X pins σ' H' s' /\ D.bk σ' H'
  | .cont=>∃ σ' H',Inv X pins σ' H' s' /\ D.ct σ' H'
  | .ret u=>∃ v σ' H',Inv X pins σ' H' s' /\ RelV v u /\ D.rt v H'
def PE (X : Cx) (e : Expr) (t : TE) : Prop:=
  ∀ (pins : List (Addr × Obj)) (s : Shared) (σ : St) (H : Hp) (Q : VK),Inv X pins σ H s -> t σ H Q -> wpAny (model X.prog X.w) X.A (eval e X.env) (EP X pins σ Q) X.xe s
def PT (X : Cx) (e : Expr) (t : TT) : Prop:=
  ∀ (pins : List (Addr × Obj)) (s : Shared) (σ : St) (H : Hp) (Q : Bool -> Hp -> Prop),Inv X pins σ H s -> t σ H Q -> wpAny (model X.prog X.w) X.A (isTrue e X.env (eval e X.env)) (TP X pins σ Q) X.xe s
def PW (X : Cx) (e : Expr) (t : TT) : Prop:=
  ∀ (whole : Sem Value) (pins : List (Addr × Obj)) (s : Shared) (σ : St) (H : Hp) (Q : Bool -> Hp -> Prop),Inv X pins σ H s -> t σ H Q -> wpAny (model X.prog X.w) X.A (isTrue e X.env whole) (TP X pins σ Q) X.xe s
def PA (X : Cx) (es : List Expr) (t : TA) : Prop:=
  ∀ (pos : Pos) (pins : List (Addr × Obj)) (s : Shared) (σ : St) (H : Hp) (Q : List V -> Hp -> Prop),Inv X pins σ H s -> t σ H Q -> wpAny (model X.prog X.w) X.A (spliced (backTo pos (starEach es X.env))) (AP X pins σ Q) X.xe s
def PS (X : Cx) (st : Stmt) (t : TS) : Prop:=
  ∀ (pins : List (Addr × Obj)) (s : Shared) (σ : St) (H : Hp) (D : Ends),Inv X pins σ H s -> t D σ H -> wpAny (model X.prog X.w) X.A (exec st X.env) (SP X pins D) X.xe s
def PSs (X : Cx) (st : List Stmt) (t : TS) : Prop:=
  ∀ (pins : List (Addr × Obj)) (s : Shared) (σ : St) (H : Hp) (D : Ends),Inv X pins σ H s -> t D σ H -> wpAny (model X.prog X.w) X.A (execs st X.env) (SP X pins D) X.xe s
theorem thn {α : Type} {t : Sem α} {Q Q' : α -> Shared -> Prop} {M : Model} {A : Around} {E : Value -> Shared -> Prop} {s : Shared} (h : wpAny M A t Q E s) (hQ : ∀ a s,Q a s -> Q' a s) : wpAny M A t Q' E s:=wpAny_mono h hQ fun _ _ x=>x
end L2
namespace L2
open PySem PySem.Spec PyProof.Rows
section
variable {X : Cx}
def tVar (i : Nat) : TE:=fun σ H Q=>∃ v,σ[i]? = some (some v) /\ Q v H
def tC (v : V) : TE:=fun _ H Q=>Q v H
theorem pe_var {i : Nat} {x : Str} {pos : Pos} (hN : X.N[i]? = some x) (hv : Vis X.env.scope x) (hd : (x == ("__debug__" : Str)) = false:=by decide) (hcd : (x == ("__classdict__" : Str)) = false:=by decide) : PE X (.Name x pos) (tVar i):=by
  intro pins s σ H Q I h
  obtain ⟨v,e,h⟩:=h
  obtain ⟨m,hn,hl⟩:=I.loc
  obtain ⟨u,r,l⟩:=hl i x v hN e hv
  have fin : EP X pins σ Q u s:=⟨v,H,I,r,h⟩
  rcases l with ⟨hk,hm⟩ | ⟨hk,c,hc,hcell⟩
  · exact wpAny_Name (wpAny_loadName_local I.ok.kind hk hn hm fin) hd
  · rcases hk with hk | hk
    · exact wpAny_Name (wpAny_loadName_cell I.ok.kind hk hc hcell fin) hd
    · exact wpAny_Name (wpAny_loadName_free I.ok.kind hk hc hcell fin hcd) hd
theorem pe_int {i j pos} : PE X (.Constant (.int i) j pos) (tC (.int i)):=fun _ _ _ H _ I h=>wpAny_Constant_int ⟨.int i,H,I.tok _,⟨_,rfl⟩,h⟩
theorem pe_bl {b j pos} : PE X (.Constant (.bool b) j pos) (tC (.bl b)):=fun _ _ _ H _ I h=>Constant_bool ⟨.bl b,H,I,rfl,h⟩
theorem pe_non {j pos} : PE X (.Constant .none j pos) (tC .non):=fun _ _ _ H _ I h=>Constant_none ⟨.non,H,I,rfl,h⟩
theorem pe_str {x j pos} : PE X (.Constant (.str x) j pos) (tC (.str x)):=fun _ _ _ H _ I h=>Calls.Constant_str ⟨.str x,H,I.tok _,⟨_,rfl⟩,h⟩
def Gl (X : Cx) (x : Str) : Prop:=X.env.kindOf x = some .globalImplicit
theorem ld_glob {E : Value -> Shared -> Prop} {pins : List (Addr × Obj)} {s : Shared} {σ : St} {H : Hp} {x : Str} {u : Value} {pos : Pos} {Q : Value -> Shared -> Prop} (I : Inv X pins σ H s) (hg : Gl X x) (hm : X.mg x = some u) (h : Q u s)
    (hd : (x == ("__debug__" : Str)) = false:=by decide) : wpAny (model X.prog X.w) X.A (eval (.Name x pos) X.env) Q E s:=
  Calls.Name_function_global I.ok.kind hg (Calls.loadGlobal_global (by rw [I.ok.glob]; exact I.mod.glob.keeps I.bk) hm h) hd
theorem ld_blt {E : Value -> Shared -> Prop} {pins : List (Addr × Obj)} {s : Shared} {σ : St} {H : Hp} {x : Str} {u : Value} {pos : Pos} {Q : Value -> Shared -> Prop} (I : Inv X pins σ H s) (hg : Gl X x) (hm : X.mg x = none) (hv : bootBuiltins x = some u) (h : Q u s)
    (hn : x ≠ "__name__" := by decide) (hd : (x == ("__debug__" : Str)) = false:=by decide) : wpAny (model X.prog X.w) X.A (eval (.Name x pos) X.env) Q E s:=by
  obtain ⟨mb,h1,h2⟩:=I.mod.blt
  exact Calls.Name_function_global I.ok.kind hg (Calls.loadGlobal_builtin (by rw [I.ok.glob]; exact I.mod.glob.keeps I.bk) hm (by rw [I.ok.blt]; exact h1.keeps I.bk) ((h2 x hn).trans hv) h) hd
theorem pe_glob {x : Str} {v : V} {u : Value} {pos : Pos} (hg : Gl X x) (hm : X.mg x = some u) (r : RelV v u) (hd : (x == ("__debug__" : Str)) = false:=by decide) : PE X (.Name x pos) (tC v):=
  fun _ _ _ H _ I h=>ld_glob I hg hm ⟨v,H,I,r,h⟩ hd
theorem pe_bltn {x : Str} {v : V} {u : Value} {pos : Pos} (hg : Gl X x) (hm : X.mg x = none) (hv : bootBuiltins x = some u) (r : RelV v u) (hn : x ≠ "__name__" := by decide) (hd : (x == ("__debug__" : Str)) = false:=by decide) : PE X (.Name x pos) (tC v):=
  fun _ _ _ H _ I h=>ld_blt I hg hm hv ⟨v,H,I,r,h⟩ hn hd
variable {a b : Expr} {ta tb : TE} {pos : Pos}
def tB (t : TE) : TT:=fun σ H Q=>t σ H fun x H1=>∃ c,x = .bl c /\ Q c H1
theorem pt_val {e : Expr} {t : TE} (h : PE X e t) (he : ∀ whole,isTrue e X.env whole = (do let v <- whole; standAt e.pos; holding [v] (truthy v)):=by intro _; rfl) : PT X e (tB t):=by
  intro pins s σ H Q I hw
  refine isTrue_plain (thn (h pins s σ H _ I hw) fun v s1 ⟨x,H1,I1,r1,q1⟩=>?_) (he _)
  obtain ⟨d,rfl,q⟩:=q1
  cases r1
  exact wpAny_truthy_bool ⟨H1,I1,q⟩
variable {tA tB' : TT} {rest : List Expr}
def tAnd (t u : TT) : TT:=fun σ H Q=>t σ H fun c H1=>if c = true then u σ H1 Q else Q false H1
def tOr (t u : TT) : TT:=fun σ H Q=>t σ H fun c H1=>if c = true then Q true H1 else u σ H1 Q
def tNot (t : TT) : TT:=fun σ H Q=>t σ H fun c H1=>Q (!c) H1
theorem pw_and1 (ha : PT X a tA) : PW X (.BoolOp .And [a] pos) tA:=by
  intro wh pins s σ H Q I h
  refine isTrue_and (thn (ha pins s σ H Q I h) fun c s1 e=>?_)
  cases c with
  | true=>exact isTrue_and_nil e
  | false=>exact e
theorem pw_or1 (ha : PT X a tA) : PW X (.BoolOp .Or [a] pos) tA:=by
  intro wh pins s σ H Q I h
  refine isTrue_or (thn (ha pins s σ H Q I h) fun c s1 e=>?_)
  cases c with
  | false=>exact isTrue_or_nil e
  | true=>exact e
theorem pw_and (ha : PT X a tA) (hb : PW X (.BoolOp .And (b :: rest) pos) tB') : PW X (.BoolOp .And (a :: b :: rest) pos) (tAnd tA tB'):=by
  intro wh pins s σ H Q I h
  refine isTrue_and (thn (ha pins s σ H _ I h) fun c s1 ⟨H1,I1,q1⟩=>?_)
  cases c with
  | true=>exact hb wh pins s1 σ H1 Q I1 q1
  | false=>exact ⟨H1,I1,q1⟩
theorem pw_or (ha : PT X a tA) (hb : PW X (.BoolOp .Or (b :: rest) pos) tB') : PW X (.BoolOp .Or (a :: b :: rest) pos) (tOr tA tB'):=by
  intro wh pins s σ H Q I h
  refine isTrue_or (thn (ha pins s σ H _ I h) fun c s1 ⟨H1,I1,q1⟩=>?_)
  cases c with
  | true=>exact ⟨H1,I1,q1⟩
  | false=>exact hb wh pins s1 σ H1 Q I1 q1
theorem pt_not (ha : PT X a tA) : PT X (.UnaryOp .Not a pos) (tNot tA):=by
  intro pins s σ H Q I h
  exact isTrue_not (ha pins s σ H (fun c H1=>Q (!c) H1) I h)
def tAndV (ta tb : TE) : TE:=fun σ H Q=>ta σ H fun x H1=>∃ c,x = .bl c /\ if c = true then tb σ H1 Q else Q (.bl false) H1
def tOrV (ta tb : TE) : TE:=fun σ H Q=>ta σ H fun x H1=>∃ c,x = .bl c /\ if c = true then Q (.bl true) H1 else tb σ H1 Q
def tNotV (ta : TE) : TE:=fun σ H Q=>ta σ H fun x H1=>∃ c,x = .bl c /\ Q (.bl (!c)) H1
theorem pe_one {op} {t : TE} (h : PE X a t) : PE X (.BoolOp op [a] pos) t:=fun pins s σ H Q I hw=>BoolOp_one (h pins s σ H Q I hw)
theorem pe_and (ha : PE X a ta) (hb : PE X (.BoolOp .And (b :: rest) pos) tb) : PE X (.BoolOp .And (a :: b :: rest) pos) (tAndV ta tb):=by
  intro pins s σ H Q I h
  refine BoolOp_and (thn (ha pins s σ H _ I h) fun v s1 ⟨x,H1,I1,r1,q1⟩=>?_)
  obtain ⟨c,rfl,q1⟩:=q1
  cases r1
  refine wpAny_truthy_bool ?_
  cases c with
  | true=>exact hb pins s1 σ H1 Q I1 q1
  | false=>exact ⟨.bl false,H1,I1,rfl,q1⟩
theorem pe_or (ha : PE X a ta) (hb : PE X (.BoolOp .Or (b :: rest) pos) tb) : PE X (.BoolOp .Or (a :: b :: rest) pos) (tOrV ta tb):=by
  intro pins s σ H Q I h
  refine BoolOp_or (thn (ha pins s σ H _ I h) fun v s1 ⟨x,H1,I1,r1,q1⟩=>?_)
  obtain ⟨c,rfl,q1⟩:=q1
  cases r1
  refine wpAny_truthy_bool ?_
  cases c with
  | false=>exact hb pins s1 σ H1 Q I1 q1
  | true=>exact ⟨.bl true,H1,I1,rfl,q1⟩
theorem pe_not (ha : PE X a ta) : PE X (.UnaryOp .Not a pos) (tNotV ta):=by
  intro pins s σ H Q I h
  refine UnaryOp_ (thn (ha pins s σ H _ I h) fun v s1 ⟨x,H1,I1,r1,q1⟩=>?_)
  obtain ⟨c,rfl,q1⟩:=q1
  cases r1
  exact not_of (wpAny_truthy_bool ⟨.bl (!c),H1,I1,rfl,q1⟩)
end
end L2
namespace L2
open PySem PySem.Spec PyProof.Rows
def SqL (K : PySem.W.Frag) (H : Hp) (a : Addr) (xs : List V) : Prop:=
  Rd H a (.lst xs) \/
    ∃ (o : Obj) (its : Array Value) (n : Nat),K.lookup a = some o /\ o.cls = .type "list" /\ o.dict = none /\ o.data = .seq its n /\ its.size <= sizeLine /\ Vals xs its.toList
def SqT (K : PySem.W.Frag) (H : Hp) (a : Addr) (xs : List V) : Prop:=
  Rd H a (.tup xs) \/
    ∃ (o : Obj) (its : Array Value) (n : Nat),K.lookup a = some o /\ o.cls = .type "tuple" /\ o.data = .seq its n /\ its.size <= sizeLine /\ Vals xs its.toList
def absV : Value -> Option V
  | .none=>some .non
  | .bool b=>some (.bl b)
  | .int i _=>some (.int i)
  | .str x _=>some (.str x)
  | .bytes b _=>some (.byt b)
  | .float b _=>some (.flt b)
  | .ref a=>some (.ref a)
  | .type n=>some (.ty n)
  | _=>none
theorem RelV.abs {x : V} {u : Value} (r : RelV x u) : absV u = some x:=by
  cases x with
  | non=>cases r; rfl
  | bl _=>cases r; rfl
  | int _=>obtain ⟨t,rfl⟩:=r; rfl
  | str _=>obtain ⟨t,rfl⟩:=r; rfl
  | byt _=>obtain ⟨t,rfl⟩:=r; rfl
  | flt _=>obtain ⟨t,rfl⟩:=r; rfl
  | ref _=>cases r; rfl
  | ty _=>cases r; rfl
theorem RelV.inj {x y : V} {u : Value} (r : RelV x u) (q : RelV y u) : x = y:=Option.some.inj (r.abs.symm.trans q.abs)
theorem Vals.inj : ∀ {xs ys : List V} {us : List Value},Vals xs us -> Vals ys us -> xs = ys
  | _,_,_,.nil,.nil=>rfl
  | _,_,_,.cons r t,.cons r' t'=>by rw [r.inj r',Vals.inj t t']
section
variable {X : Cx} {pins : List (Addr × Obj)} {σ : St} {H : Hp} {s : Shared} {a : Addr} {xs ys : List V}
theorem SqL.of {K : PySem.W.Frag} (h : H a = some (.lst xs)) : SqL K H a xs:=.inl (.inl h)
theorem SqT.of {K : PySem.W.Frag} (h : H a = some (.tup xs)) : SqT K H a xs:=.inl (.inl h)
theorem Inv.list (I : Inv X pins σ H s) (h : SqL X.K H a xs) : ∃ its : List Value,Vals xs its /\ PlainL s.heap a its.toArray /\ xs.length <= sizeLine:=by
  rcases h with h | ⟨o,its,n,hk,hc,hd,hs,hz,r⟩
  · obtain ⟨z,its,n,r,e⟩:=h.ok I.hok
    exact ⟨its,r,⟨_,n,e,rfl,rfl,rfl⟩,z⟩
  · refine ⟨its.toList,r,⟨o,n,I.kIn a o hk,hc,hd,by simpa using hs⟩,?_⟩
    have e:=r.length
    simp only [Array.length_toList] at e
    omega
theorem Inv.tuple (I : Inv X pins σ H s) (h : SqT X.K H a xs) : ∃ its : List Value,Vals xs its /\ IsTup s.heap a its.toArray /\ xs.length <= sizeLine:=by
  rcases h with h | ⟨o,its,n,hk,hc,hs,hz,r⟩
  · obtain ⟨z,its,r,p⟩:=h.ok I.hok
    exact ⟨its,r,p,z⟩
  · refine ⟨its.toList,r,⟨o,I.kIn a o hk,hc,n,by simpa using hs⟩,?_⟩
    have e:=r.length
    simp only [Array.length_toList] at e
    omega
theorem Inv.list_inj (I : Inv X pins σ H s) (h : SqL X.K H a xs) (h' : SqL X.K H a ys) : xs = ys:=by
  obtain ⟨its,r,⟨o,n,e,_,_,d⟩,_⟩:=I.list h
  obtain ⟨its',r',⟨o',n',e',_,_,d'⟩,_⟩:=I.list h'
  rw [e] at e'; cases e'
  rw [d] at d'
  injection d' with d1 _
  have : its = its':=by simpa using congrArg Array.toList d1
  subst this
  exact r.inj r'
theorem Inv.tuple_inj (I : Inv X pins σ H s) (h : SqT X.K H a xs) (h' : SqT X.K H a ys) : xs = ys:=by
  obtain ⟨its,r,⟨o,e,_,n,d⟩,_⟩:=I.tuple h
  obtain ⟨its',r',⟨o',e',_,n',d'⟩,_⟩:=I.tuple h'
  rw [e] at e'; cases e'
  rw [d] at d'
  injection d' with d1 _
  have : its = its':=by simpa using congrArg Array.toList d1
  subst this
  exact r.inj r'
end
section
variable {X : Cx} {pins : List (Addr × Obj)} {σ : St} {H : Hp} {s : Shared} {E : Value -> Shared -> Prop}
end
section
variable {X : Cx} {st : Stmt} {rest : List Stmt} {t u : TS} {e : Expr} {te : TE} {pos : Pos}
def tNext : TS:=fun D σ H=>D.nx σ H
def tSeq (t u : TS) : TS:=fun D σ H=>t { D with nx:=u D } σ H
theorem pss_nil : PSs X [] tNext:=fun _ _ σ H _ I h=>wpAny_execs_nil ⟨σ,H,I,h⟩
theorem pss_cons (h1 : PS X st t) (h2 : PSs X rest u) : PSs X (st :: rest) (tSeq t u):=by
  intro pins s σ H D I h
  refine wpAny_execs_cons (thn (h1 pins s σ H { D with nx:=u D } I h) fun f s1 q=>?_)
  cases f with
  | next=>
    obtain ⟨σ',H',I',q⟩:=q
    exact h2 pins s1 σ' H' D I' q
  | ret v=>exact q
  | brk=>exact q
  | cont=>exact q
theorem pss_one (h1 : PS X st t) : PSs X [st] t:=by
  intro pins s σ H D I h
  refine wpAny_execs_cons (thn (h1 pins s σ H D I h) fun f s1 q=>?_)
  cases f with
  | next=>exact wpAny_execs_nil q
  | ret v=>exact q
  | brk=>exact q
  | cont=>exact q
theorem Inv.quiet {pins : List (Addr × Obj)} {σ : St} {H : Hp} {s : Shared} (I : Inv X pins σ H s) : interactive X.env = false:=by simp [interactive,I.ok.kind]
def tDrop (te : TE) : TS:=fun D σ H=>te σ H fun _ H1=>D.nx σ H1
theorem ps_expr (he : PE X e te) (hs : swapsWith e none pos.line X.env = pure false:=by rfl) : PS X (.Expr e pos) (tDrop te):=by
  intro pins s σ H D I h
  exact wpAny_Expr_any (thn (he pins s σ H _ I h) fun v s1 ⟨x,H1,I1,r1,q1⟩=>⟨σ,H1,I1,q1⟩) I.quiet hs
def tRet (te : TE) : TS:=fun D σ H=>te σ H D.rt
theorem ps_ret (he : PE X e te) : PS X (.Return (some e) pos) (tRet te):=by
  intro pins s σ H D I h
  exact wpAny_Return_some (thn (he pins s σ H _ I h) fun v s1 ⟨x,H1,I1,r1,q1⟩=>⟨x,σ,H1,I1,r1,q1⟩)
def tIfS (c : TT) (t u : TS) : TS:=fun D σ H=>c σ H fun b H1=>if b = true then t D σ H1 else u D σ H1
theorem ps_if {c : Expr} {a b : List Stmt} {tc : TT} (hc : PT X c tc) (ha : PSs X a t) (hb : PSs X b u) : PS X (.If c a b pos) (tIfS tc t u):=by
  intro pins s σ H D I h
  refine wpAny_If (thn (hc pins s σ H _ I h) fun d s1 ⟨H1,I1,q1⟩=>?_)
  cases d with
  | true=>exact ha pins s1 σ H1 D I1 q1
  | false=>exact hb pins s1 σ H1 D I1 q1
end
abbrev TG:=V -> St -> Hp -> (St -> Hp -> Prop) -> Prop
abbrev TGs:=List V -> St -> Hp -> (St -> Hp -> Prop) -> Prop
def PG (X : Cx) (target : Expr) (t : TG) : Prop:=
  ∀ (pins : List (Addr × Obj)) (s : Shared) (σ : St) (H : Hp) (v : V) (u : Value) (Q : St -> Hp -> Prop),Inv X pins σ H s -> RelV v u -> t v σ H Q ->
    wpAny (model X.prog X.w) X.A (assign target X.env u) (fun _ s'=>∃ σ' H',Inv X pins σ' H' s' /\ Q σ' H') X.xe s
def PGs (X : Cx) (ts : List Expr) (t : TGs) : Prop:=
  ∀ (pins : List (Addr × Obj)) (s : Shared) (σ : St) (H : Hp) (vs : List V) (us : List Value) (Q : St -> Hp -> Prop),Inv X pins σ H s -> Vals vs us -> t vs σ H Q ->
    wpAny (model X.prog X.w) X.A (assignInOrder ((assignEach ts X.env).map (·.2)) us) (fun _ s'=>∃ σ' H',Inv X pins σ' H' s' /\ Q σ' H') X.xe s
abbrev TSet:=V -> V -> V -> Hp -> (Hp -> Prop) -> Prop
def PSet (X : Cx) (t : TSet) : Prop:=
  ∀ (pins : List (Addr × Obj)) (s : Shared) (σ : St) (H : Hp) (o i v : V) (ov iv u : Value) (Q : Hp -> Prop),Inv X pins σ H s -> RelV o ov -> RelV i iv -> RelV v u -> t o i v H Q ->
    wpAny (model X.prog X.w) X.A (setItem ov iv u) (fun _ s'=>∃ H',Inv X pins σ H' s' /\ Q H') X.xe s
section
variable {X : Cx} {pos : Pos}
def gName (i : Nat) : TG:=fun v σ H Q=>Q (σ.set i (some v)) H
theorem pg_name {i : Nat} {x : Str} (hN : X.N.Nodup) (hi : X.N[i]? = some x) (hx : Loc X.env.scope x) (hf : X.fn x = true \/ X.env.scope.names.lookup x = some .local:=by first | exact .inl rfl | exact .inr rfl | assumption) : PG X (.Name x pos) (gName i):=by
  intro pins s σ H v u Q I r h
  exact wpAny_assign_Name (store_ok I hN hi hx r (fun s' I'=>⟨_,H,I',h⟩) hf)
def gNil : TGs:=fun vs σ H Q=>vs = [] /\ Q σ H
def gCons (t : TG) (u : TGs) : TGs:=fun vs σ H Q=>∃ v r,vs = v :: r /\ t v σ H fun σ' H'=>u r σ' H' Q
theorem pgs_nil : PGs X [] gNil:=by
  intro pins s σ H vs us Q I r h
  obtain ⟨e,h⟩:=h
  subst e
  cases r
  exact assignInOrder_nil ⟨σ,H,I,h⟩
theorem pgs_cons {e : Expr} {es : List Expr} {t : TG} {u : TGs} (h1 : PG X e t) (h2 : PGs X es u)
    (hs : (assignEach (e :: es) X.env).map (·.2) = assign e X.env :: (assignEach es X.env).map (·.2):=by rfl) : PGs X (e :: es) (gCons t u):=by
  intro pins s σ H vs us Q I r h
  obtain ⟨v,vr,e1,h⟩:=h
  subst e1
  cases r with
  | cons r rr=>
    rw [hs]
    refine assignInOrder_cons (thn (h1 pins s σ H _ _ _ I r h) fun _ s1 ⟨σ1,H1,I1,q1⟩=>?_)
    exact h2 pins s1 σ1 H1 _ _ Q I1 rr q1
def gTup (K : PySem.W.Frag) (n : Nat) (t : TGs) : TG:=fun v σ H Q=>∃ a xs,v = .ref a /\ SqT K H a xs /\ xs.length = n /\ t xs σ H Q
theorem pg_tup {es : List Expr} {k : Nat} {t : TGs} {n : Nat} (hc : X.calm = true) (h : PGs X es t)
    (hn : (assignEach es X.env).length = n:=by rfl) (hst : (assignEach es X.env).findIdx? (·.1) = none:=by rfl) : PG X (.Tuple es k pos) (gTup X.K n t):=by
  intro pins s σ H v u Q I r hw
  obtain ⟨a,xs,e1,hq,hl,hw⟩:=hw
  subst e1
  cases r
  obtain ⟨its,rv,ht,hz⟩:=I.tuple hq
  refine assign_Tuple_tuple (I.ok.hd hc) ht (by simp [hn,<- hl,rv.length]) hst fun h' hx=>?_
  have I1 : Inv X pins σ H { s with heap:=h' }:=I.kept (t':=s.toks) fun b o e=>hx b o (Nat.ne_of_lt (Heap.lt_size e)) e
  exact h pins _ σ H xs _ Q I1 (by simpa using rv) hw
def gSub (to ti : TE) (t : TSet) : TG:=fun v σ H Q=>to σ H fun o H1=>ti σ H1 fun i H2=>t o i v H2 fun H3=>Q σ H3
theorem pg_sub {o i : Expr} {to ti : TE} {t : TSet} (ho : PE X o to) (hi : PE X i ti) (hs : PSet X t)
    (ha : ∀ v,assign (.Subscript o i pos) X.env v = (do
      let ov <- holding [v] (eval o X.env)
      let iv <- holding [v,ov] (eval i X.env)
      standAt pos
      holding [v,ov,iv] (setItem ov iv v)
      release [v,ov,iv] []):=by intro _; rfl) : PG X (.Subscript o i pos) (gSub to ti t):=by
  intro pins s σ H v u Q I r h
  rw [ha]
  refine wpAny_bind (wpAny_holding (thn (ho pins s σ H _ I h) fun ov s1 ⟨x,H1,I1,r1,q1⟩=>?_))
  refine wpAny_bind (wpAny_holding (thn (hi pins s1 σ H1 _ I1 q1) fun iv s2 ⟨y,H2,I2,r2,q2⟩=>?_))
  refine wpAny_bind (wpAny_standAt (wpAny_bind (wpAny_holding (thn (hs pins s2 σ H2 x y v ov iv u _ I2 r1 r2 r q2) fun _ s3 ⟨H3,I3,q3⟩=>?_))))
  exact wpAny_release ⟨σ,H3,I3,q3⟩
def tAsg (te : TE) (g : TG) : TS:=fun D σ H=>te σ H fun x H1=>g x σ H1 D.nx
theorem ps_asg {tg e : Expr} {te : TE} {g : TG} (he : PE X e te) (hg : PG X tg g) (hs : swapsWithSole [tg] e pos.line X.env = pure false:=by rfl) (hw : swappedStores [tg] e X.env = pure none:=by rfl)
    (h1 : (assignEach [tg] X.env).map (·.2) = [assign tg X.env]:=by rfl) : PS X (.Assign [tg] e pos) (tAsg te g):=by
  intro pins s σ H D I h
  refine wpAny_Assign_stores (thn (he pins s σ H _ I h) fun v s1 ⟨x,H1,I1,r1,q1⟩=>?_) hs hw
  rw [h1]
  exact thn (hg pins s1 σ H1 x v _ I1 r1 q1) fun _ s2 q=>q
theorem ps_set {i : Nat} {x : Str} {e : Expr} {te : TE} {pos' : Pos} (hN : X.N.Nodup) (hi : X.N[i]? = some x) (hx : Loc X.env.scope x) (he : PE X e te) (hs : swapsWith e (some (.Name x pos')) pos.line X.env = pure false:=by rfl) (hf : X.fn x = true \/ X.env.scope.names.lookup x = some .local:=by first | exact .inl rfl | exact .inr rfl | assumption) :
    PS X (.Assign [.Name x pos'] e pos) (tAsg te (gName i)):=by
  intro pins s σ H D I h
  refine wpAny_Assign_Name (thn (he pins s σ H _ I h) fun v s1 ⟨y,H1,I1,r1,q1⟩=>?_) hs
  exact store_ok I1 hN hi hx r1 (fun s2 I2=>⟨_,H1,I2,q1⟩) hf
end
section
variable {X : Cx} {pos : Pos}
def tWhile (c : TT) (tb : TS) : TS:=fun D σ H=>∃ W : Nat -> St -> Hp -> Prop,(∃ m,W m σ H) /\ ∀ m σ H,W m σ H ->
  c σ H fun b H1=>if b = true then ∃ N : St -> Hp -> Prop,(∀ σ' H',N σ' H' -> ∃ m',m' < m /\ W m' σ' H') /\ tb { D with nx:=N,ct:=N,bk:=D.nx } σ H1 else D.nx σ H1
theorem ps_while {c : Expr} {body : List Stmt} {tc : TT} {tb : TS} (hp : PassesOwn (model X.prog X.w) X.A X.env X.xe) (hc : PT X c tc) (hb : PSs X body tb) : PS X (.While c body [] pos) (tWhile tc tb):=by
  intro pins s σ H D I h
  obtain ⟨W,⟨m0,w0⟩,turn⟩:=h
  refine wpAny_While (codeAny_whileLoop (fun n s'=>∃ σ' H',Inv X pins σ' H' s' /\ W n σ' H') ?_ m0 ⟨σ,H,I,w0⟩)
  rintro n s1 ⟨σ1,H1,I1,w1⟩
  refine wpAny_passesOwn hp (thn (hc pins s1 σ1 H1 _ I1 (turn n σ1 H1 w1)) fun b s2 ⟨H2,I2,q2⟩=>?_)
  cases b with
  | true=>
    obtain ⟨N,hN,q2⟩:=q2
    rw [if_pos rfl]
    refine wpAny_passesOwn hp (thn (hb pins s2 σ1 H2 _ I2 q2) fun f s3 q3=>?_)
    cases f with
    | next=>
      obtain ⟨σ3,H3,I3,n3⟩:=q3
      obtain ⟨m',hm,w3⟩:=hN σ3 H3 n3
      exact ⟨m',hm,σ3,H3,I3,w3⟩
    | cont=>
      obtain ⟨σ3,H3,I3,n3⟩:=q3
      obtain ⟨m',hm,w3⟩:=hN σ3 H3 n3
      exact ⟨m',hm,σ3,H3,I3,w3⟩
    | brk=>exact q3
    | ret v=>exact q3
  | false=>
    rw [if_neg Bool.false_ne_true]
    exact wpAny_execs_nil ⟨σ1,H2,I2,q2⟩
end
structure It where
  go : Nat -> Hp -> Prop
  yld : Nat -> Hp -> V -> Hp -> Prop
  stop : Nat -> Hp -> Prop
def FpOk (X : Cx) (pins : List (Addr × Obj)) (H : Hp) (b : Addr) : Prop:=
  H b = none /\ b ≠ X.env.locals /\ b ∉ X.fs /\ (b ∈ X.ex \/ X.s₀.heap.objs.size <= b) /\ (∀ x c,X.env.cells.lookup x = some c -> c ≠ b) /\ ∀ p ∈ X.pn ++ pins,p.1 ≠ b
theorem Inv.fpOk {X : Cx} {pins : List (Addr × Obj)} {σ : St} {H H' : Hp} {s : Shared} {b : Addr} (I : Inv X pins σ H s) (hb : s.heap.objs.size <= b) (hn : H' b = none) : FpOk X pins H' b:=by
  refine ⟨hn,Nat.ne_of_gt (Nat.lt_of_lt_of_le I.lt hb),I.nofs hb,.inr (Nat.le_trans I.sz hb),fun x c e z=>?_,fun p hp z=>?_⟩
  · obtain ⟨v,q⟩:=I.cell x c e
    exact absurd (Nat.lt_of_lt_of_le q.lt (by rw [z]; exact hb)) (Nat.lt_irrefl _)
  · exact absurd (Nat.lt_of_lt_of_le (Heap.lt_size (I.pin p hp).1) (by rw [z]; exact hb)) (Nat.lt_irrefl _)
structure Turn (P : Program) (w : World) (K : PySem.W.Frag) (tg : Expr) (J : It) (fp : List Addr) (it : Addr) (tn : Nat -> Heap -> Prop) : Prop where
  mem : it ∈ fp
  obj : ∀ i h,tn i h -> ∀ b ∈ fp,∃ o,h.get? b = some o /\ ∀ v,o.data ≠ .cell v
  keep : ∀ i h h',tn i h -> (∀ b ∈ fp,∀ o,h.get? b = some o -> h'.get? b = some o) -> tn i h'
  item : ∀ (X : Cx),X.prog = P -> X.w = w -> X.K = K -> X.calm = true -> ∀ (i : Nat) (pins : List (Addr × Obj)) (s : Shared) (σ : St) (H : Hp) (E : Value -> Shared -> Prop),Inv X pins σ H s -> (∀ b ∈ fp,FpOk X pins H b) -> tn i s.heap -> J.go i H ->
    wpAny (model P w) X.A (pyNext (.ref it)) (fun r s1=>∃ u,r = some u /\
      wpAny (model P w) X.A (letOwnedTupleGo tg (.ref it) u) (fun _ s2=>∃ x H',Inv X pins σ H' s2 /\ RelV x u /\ J.yld i H x H' /\ tn (i + 1) s2.heap /\ ∀ b ∈ fp,H' b = none) E s1) E s
  done : ∀ (X : Cx),X.prog = P -> X.w = w -> X.K = K -> X.calm = true -> ∀ (i : Nat) (pins : List (Addr × Obj)) (s : Shared) (σ : St) (H : Hp) (E : Value -> Shared -> Prop),Inv X pins σ H s -> (∀ b ∈ fp,FpOk X pins H b) -> tn i s.heap -> J.stop i H ->
    wpAny (model P w) X.A (pyNext (.ref it)) (fun r s1=>r = none /\ Inv X pins σ H s1) E s
  self : ∀ (A : Around) (i : Nat) (s : Shared) (Q : Value -> Shared -> Prop) (E : Value -> Shared -> Prop),tn i s.heap -> Q (.ref it) s -> wpAny (model P w) A (pyIter (.ref it)) Q E s
abbrev TI:=St -> Hp -> (It -> Hp -> Prop) -> Prop
def PIE (X : Cx) (pins : List (Addr × Obj)) (σ : St) (tg : Expr) (R : It -> Hp -> Prop) (itv : Value) (s2 : Shared) : Prop:=
  ∃ (it : Addr) (fp : List Addr) (tn : Nat -> Heap -> Prop) (J : It) (H' : Hp),itv = .ref it /\ Inv X pins σ H' s2 /\ Turn X.prog X.w X.K tg J fp it tn /\ tn 0 s2.heap /\ (∀ b ∈ fp,FpOk X pins H' b) /\ R J H'
def PI (X : Cx) (tg iter : Expr) (wi : TI) : Prop:=
  ∀ (pins : List (Addr × Obj)) (s : Shared) (σ : St) (H : Hp) (R : It -> Hp -> Prop),Inv X pins σ H s -> wi σ H R ->
    wpAny (model X.prog X.w) X.A (eval iter X.env) (fun v s1=>wpAny (model X.prog X.w) X.A (pyIter v) (PIE X pins σ tg R) X.xe s1) X.xe s
theorem go_of {M : Model} {A : Around} {E : Value -> Shared -> Prop} {s : Shared} {tg : Expr} {it : Addr} {u : Value} {o : Obj} {n : String} {vs : Array Value} {Q : Unit -> Shared -> Prop} (ho : s.heap.get? it = some o) (hc : o.cls = .type n) (hd : o.data = .fields vs)
    (hn : ["enumerate", "zip", "dict_itemiterator", "dict_reverseitemiterator", "odict_iterator", "itertools.zip_longest", "itertools.pairwise"].contains n = false) (hQ : Q () s) : wpAny M A (letOwnedTupleGo tg (.ref it) u) Q E s:=by
  unfold letOwnedTupleGo
  cases tg <;> first
    | exact wpAny_pure hQ
    | (cases u <;> first
        | exact wpAny_pure hQ
        | (refine wpAny_bind (wpAny_load ho ?_)
           rw [hc,hd]
           show wpAny M A (if (["enumerate", "zip", "dict_itemiterator", "dict_reverseitemiterator", "odict_iterator", "itertools.zip_longest", "itertools.pairwise"].contains n && vs[0]? == some (rawInt _)) = true then _ else _) Q E s
           rw [if_neg (by intro h; rw [hn,Bool.false_and] at h; cases h)]
           exact wpAny_pure hQ))
def Itl (K : PySem.W.Frag) (a : Addr) : It:=
  ⟨fun i H=>∃ xs x,SqL K H a xs /\ xs[i]? = some x,fun i H x H'=>H' = H /\ ∀ xs,SqL K H a xs -> xs[i]? = some x,fun i H=>∃ xs,SqL K H a xs /\ xs.length <= i⟩
def Itt (K : PySem.W.Frag) (a : Addr) : It:=
  ⟨fun i H=>∃ xs x,SqT K H a xs /\ xs[i]? = some x,fun i H x H'=>H' = H /\ ∀ xs,SqT K H a xs -> xs[i]? = some x,fun i H=>∃ xs,SqT K H a xs /\ xs.length <= i⟩
def Itr (lo : Int) (n : Nat) : It:=⟨fun i _=>i < n,fun i H x H'=>H' = H /\ x = .int (lo + i),fun i _=>n <= i⟩
theorem turn_list {P : Program} {w : World} {K : PySem.W.Frag} {tg : Expr} (a it : Addr) : Turn P w K tg (Itl K a) [it] it (fun i h=>h.IsListIter it a i) where
  mem:=by simp
  obj:=fun i h st b hb=>by
    have e : b = it:=by simpa using hb
    subst e
    obtain ⟨o,e,c,d⟩:=st
    exact ⟨o,e,fun v z=>by rw [d] at z; cases z⟩
  keep:=fun i h h' st k=>st.at fun o e=>k it (by simp) o e
  item:=by
    intro X hP hw hK hc i pins s σ H E I hf st hg
    subst hP hw hK
    obtain ⟨xs,x,hq,hx⟩:=hg
    obtain ⟨its,rv,p,hz⟩:=I.list hq
    obtain ⟨u,hu,ru⟩:=rv.get hx
    obtain ⟨f0,f1,f2,f3,f4,f5⟩:=hf it (by simp)
    refine wpAny_pyNext_list_item st p.isList (x:=u) (by simpa using hu) fun h' st' sb=>?_
    have I1 : Inv X pins σ H { s with heap:=h' }:=I.turned (t':=s.toks) (fun b o hb e=>(sb.2 b hb).trans e) f0 f1 f3 f4 f5
    obtain ⟨o,e,c,d⟩:=id st'
    exact ⟨u,rfl,go_of (s:={ s with heap:=h' }) e c d (by decide) ⟨x,H,I1,ru,⟨rfl,fun ys hy=>by rw [I.list_inj hy hq]; exact hx⟩,st',fun b hb=>(hf b hb).1⟩⟩
  done:=by
    intro X hP hw hK hc i pins s σ H E I hf st hg
    subst hP hw hK
    obtain ⟨xs,hq,hx⟩:=hg
    obtain ⟨its,rv,p,hz⟩:=I.list hq
    obtain ⟨f0,f1,f2,f3,f4,f5⟩:=hf it (by simp)
    have hl:=rv.length
    exact wpAny_pyNext_list_end (I.ok.hd hc) st p.isList (by simp; omega) fun h' eb=>⟨rfl,I.turned (t':=s.toks) (fun b o hb e=>eb b o hb e) f0 f1 f3 f4 f5⟩
  self:=fun _ _ _ _ _ st h=>wpAny_pyIter_listiter st h
theorem turn_tuple {P : Program} {w : World} {K : PySem.W.Frag} {tg : Expr} (a it : Addr) : Turn P w K tg (Itt K a) [it] it (fun i h=>h.IsTupleIter it a i) where
  mem:=by simp
  obj:=fun i h st b hb=>by
    have e : b = it:=by simpa using hb
    subst e
    obtain ⟨o,e,c,d⟩:=st
    exact ⟨o,e,fun v z=>by rw [d] at z; cases z⟩
  keep:=fun i h h' st k=>st.at fun o e=>k it (by simp) o e
  item:=by
    intro X hP hw hK hc i pins s σ H E I hf st hg
    subst hP hw hK
    obtain ⟨xs,x,hq,hx⟩:=hg
    obtain ⟨its,rv,p,hz⟩:=I.tuple hq
    obtain ⟨u,hu,ru⟩:=rv.get hx
    obtain ⟨f0,f1,f2,f3,f4,f5⟩:=hf it (by simp)
    refine wpAny_pyNext_tuple_item st (show s.heap.IsTuple a its.toArray from p) (x:=u) (by simpa using hu) fun h' st' sb=>?_
    have I1 : Inv X pins σ H { s with heap:=h' }:=I.turned (t':=s.toks) (fun b o hb e=>(sb.2 b hb).trans e) f0 f1 f3 f4 f5
    obtain ⟨o,e,c,d⟩:=id st'
    exact ⟨u,rfl,go_of (s:={ s with heap:=h' }) e c d (by decide) ⟨x,H,I1,ru,⟨rfl,fun ys hy=>by rw [I.tuple_inj hy hq]; exact hx⟩,st',fun b hb=>(hf b hb).1⟩⟩
  done:=by
    intro X hP hw hK hc i pins s σ H E I hf st hg
    subst hP hw hK
    obtain ⟨xs,hq,hx⟩:=hg
    obtain ⟨its,rv,p,hz⟩:=I.tuple hq
    obtain ⟨f0,f1,f2,f3,f4,f5⟩:=hf it (by simp)
    have hl:=rv.length
    exact wpAny_pyNext_tuple_end (I.ok.hd hc) st (show s.heap.IsTuple a its.toArray from p) (by simp; omega) fun h' eb=>⟨rfl,I.turned (t':=s.toks) (fun b o hb e=>eb b o hb e) f0 f1 f3 f4 f5⟩
  self:=fun _ _ _ _ _ st h=>wpAny_pyIter_tupleiter st h
theorem turn_range {P : Program} {w : World} {K : PySem.W.Frag} {tg : Expr} (it : Addr) (lo : Int) (n : Nat) : Turn P w K tg (Itr lo n) [it] it (fun i h=>IsRangeIter h it (lo + (i : Nat) * 1) ((n : Int) - (i : Nat)) 1) where
  mem:=by simp
  obj:=fun i h st b hb=>by
    have e : b = it:=by simpa using hb
    subst e
    exact ⟨_,st,fun v z=>by
      have z' : Data.fields _ = Data.cell v:=z
      cases z'⟩
  keep:=fun i h h' st k=>k it (by simp) _ st
  item:=by
    intro X hP hw hK hc i pins s σ H E I hf st hg
    subst hP hw hK
    obtain ⟨f0,f1,f2,f3,f4,f5⟩:=hf it (by simp)
    have W:=Walks.range (prog:=X.prog) (w:=X.w) (I.ok.hd hc) it lo 1 n
    refine W.item i s _ _ hg st fun v h' tk hv st' kk=>?_
    obtain ⟨t,rfl⟩:=hv
    have I1 : Inv X pins σ H { s with heap:=h',toks:=tk }:=I.turned (fun b o hb e=>kk b o (by simpa using hb) e) f0 f1 f3 f4 f5
    refine ⟨_,rfl,go_of (s:={ s with heap:=h',toks:=tk }) (n := "range_iterator") st' rfl rfl (by decide) ⟨.int (lo + i),H,I1,⟨t,?_⟩,⟨rfl,rfl⟩,st',fun b hb=>(hf b hb).1⟩⟩
    rw [Int.mul_one]
  done:=by
    intro X hP hw hK hc i pins s σ H E I hf st hg
    subst hP hw hK
    obtain ⟨f0,f1,f2,f3,f4,f5⟩:=hf it (by simp)
    exact wpAny_pyNext_range_end (I.ok.hd hc) st (by have : n <= i:=hg; omega) fun h' eb=>⟨rfl,I.turned (t':=s.toks) (fun b o hb e=>eb b o hb e) f0 f1 f3 f4 f5⟩
  self:=fun _ _ _ _ _ st h=>wpAny_pyIter_rangeiter st h
end L2
namespace L2
open PySem PySem.Spec PyProof.Rows
section
variable {X : Cx} {tg : Expr}
def iList (K : PySem.W.Frag) (tl : TE) : TI:=fun σ H R=>tl σ H fun x H1=>∃ a,x = .ref a /\ (∃ xs,SqL K H1 a xs) /\ R (Itl K a) H1
def iTup (K : PySem.W.Frag) (tl : TE) : TI:=fun σ H R=>tl σ H fun x H1=>∃ a,x = .ref a /\ (∃ xs,SqT K H1 a xs) /\ R (Itt K a) H1
theorem pi_list {l : Expr} {tl : TE} (hl : PE X l tl) : PI X tg l (iList X.K tl):=by
  intro pins s σ H R I h
  refine thn (hl pins s σ H _ I h) fun v s1 ⟨x,H1,I1,r1,q1⟩=>?_
  obtain ⟨a,e,⟨xs,hq⟩,q⟩:=q1
  subst e
  cases r1
  obtain ⟨its,rv,p,hz⟩:=I1.list hq
  refine wpAny_pyIter_list p.isList ?_
  refine ⟨s1.heap.objs.size,[s1.heap.objs.size],_,_,H1,rfl,I1.kept (t':=s1.toks) fun b o e=>Heap.get?_push_of_some _ e,turn_list a _,⟨_,Heap.get?_push_size _ rfl,rfl,rfl⟩,fun b hb=>?_,q⟩
  have e : b = s1.heap.objs.size:=by simpa using hb
  subst e
  exact I1.fpOk (Nat.le_refl _) (I1.hok.fresh (Nat.le_refl _))
theorem pi_tup {l : Expr} {tl : TE} (hl : PE X l tl) : PI X tg l (iTup X.K tl):=by
  intro pins s σ H R I h
  refine thn (hl pins s σ H _ I h) fun v s1 ⟨x,H1,I1,r1,q1⟩=>?_
  obtain ⟨a,e,⟨xs,hq⟩,q⟩:=q1
  subst e
  cases r1
  obtain ⟨its,rv,p,hz⟩:=I1.tuple hq
  refine wpAny_pyIter_tuple (show s1.heap.IsTuple a its.toArray from p) ?_
  refine ⟨s1.heap.objs.size,[s1.heap.objs.size],_,_,H1,rfl,I1.kept (t':=s1.toks) fun b o e=>Heap.get?_push_of_some _ e,turn_tuple a _,⟨_,Heap.get?_push_size _ rfl,rfl,rfl⟩,fun b hb=>?_,q⟩
  have e : b = s1.heap.objs.size:=by simpa using hb
  subst e
  exact I1.fpOk (Nat.le_refl _) (I1.hok.fresh (Nat.le_refl _))
theorem range_it {pins : List (Addr × Obj)} {σ : St} {H : Hp} {s : Shared} {R : It -> Hp -> Prop} {E : Value -> Shared -> Prop} {lo hi : Int} {t u v : Tok} {tk : Nat} (I : Inv X pins σ H s) (h1 : -(2 ^ 62) <= lo) (h2 : lo < 2 ^ 62) (h3 : -(2 ^ 62) <= hi) (h4 : hi < 2 ^ 62)
    (q : R (Itr lo (hi - lo).toNat) H) : wpAny (model X.prog X.w) X.A (pyIter (.ref s.heap.objs.size)) (PIE X pins σ tg R) E { s with heap:=s.heap.push { cls:=.type "range",data:=.fields #[.int lo t,.int hi u,.int 1 v] },toks:=tk }:=by
  refine wpAny_pyIter_range (IsRange.new ..) (small_one h1 h2 h3 h4) ?_
  have I1 : Inv X pins σ H { s with heap:=s.heap.push { cls:=.type "range",data:=.fields #[.int lo t,.int hi u,.int 1 v] },toks:=tk }:=I.kept fun b o e=>Heap.get?_push_of_some _ e
  refine ⟨(s.heap.push { cls:=.type "range",data:=.fields #[.int lo t,.int hi u,.int 1 v] }).objs.size,[(s.heap.push { cls:=.type "range",data:=.fields #[.int lo t,.int hi u,.int 1 v] }).objs.size],_,_,H,rfl,
    I1.kept (t':=tk) fun b o e=>Heap.get?_push_of_some _ e,turn_range _ lo (hi - lo).toNat,?_,fun b hb=>?_,q⟩
  · have e1 : lo + ((0 : Nat) : Int) * 1 = lo:=by simp
    have e2 : (((hi - lo).toNat : Nat) : Int) - ((0 : Nat) : Int) = Builtin.Range.rangeSize lo hi 1:=by rw [rangeSize_one]; split <;> omega
    show IsRangeIter _ _ (lo + ((0 : Nat) : Int) * 1) ((((hi - lo).toNat : Nat) : Int) - ((0 : Nat) : Int)) 1
    rw [e1,e2]
    exact Heap.get?_push_size _ rfl
  · have e : b = (s.heap.push { cls:=.type "range",data:=.fields #[.int lo t,.int hi u,.int 1 v] }).objs.size:=by simpa using hb
    subst e
    exact I1.fpOk (Nat.le_refl _) (I1.hok.fresh (Nat.le_refl _))
def iRng1 (ta : TA) : TI:=fun σ H R=>ta σ H fun vs H1=>∃ j : Int,vs = [.int j] /\ -(2 ^ 62) <= j /\ j < 2 ^ 62 /\ R (Itr 0 j.toNat) H1
theorem pi_range1 {a : Expr} {ta : TA} {p pos : Pos} (hg : Gl X "range") (hm : X.mg "range" = none) (ha : PA X [a] ta) (hs : starEach [a] X.env = [(false,eval a X.env)]:=by rfl) : PI X tg (.Call (.Name "range" p) [a] [] pos) (iRng1 ta):=by
  intro pins s σ H R I h
  refine Call_ (ld_blt I hg hm boot_range (PyProof.Rows.callWith_type1 (thn (ha pos pins s σ H _ I h) fun us s1 ⟨vs,H1,I1,r1,q1⟩=>?_) hs rfl))
  obtain ⟨j,e,q1,q2,q⟩:=q1
  subst e
  cases r1 with
  | cons r rr=>
    cases rr
    obtain ⟨t,rfl⟩:=r
    exact call_range_1 (range_it I1 (by omega) (by omega) q1 q2 (by simpa using q))
def tFor (wi : TI) (g : TG) (tb : TS) : TS:=fun D σ H=>wi σ H fun J H1=>∃ W : Nat -> Nat -> St -> Hp -> Prop,(∃ m,W 0 m σ H1) /\ ∀ i m σ H,W i m σ H ->
  (J.stop i H /\ D.nx σ H) \/ (J.go i H /\ ∃ N : St -> Hp -> Prop,(∀ σ' H',N σ' H' -> ∃ m',m' < m /\ W (i + 1) m' σ' H') /\ ∀ x H',J.yld i H x H' -> g x σ H' fun σ2 H2=>tb { D with nx:=N,ct:=N,bk:=D.nx } σ2 H2)
def pinsAt (fp : List Addr) (h : Heap) : List (Addr × Obj):=fp.filterMap fun b=>(h.get? b).map fun o=>(b,o)
theorem mem_pinsAt {fp : List Addr} {h : Heap} {b : Addr} {o : Obj} (hb : b ∈ fp) (e : h.get? b = some o) : (b,o) ∈ pinsAt fp h:=List.mem_filterMap.mpr ⟨b,hb,by rw [e]; rfl⟩
theorem of_pinsAt {fp : List Addr} {h : Heap} {p : Addr × Obj} (hp : p ∈ pinsAt fp h) : p.1 ∈ fp /\ h.get? p.1 = some p.2:=by
  obtain ⟨b,hb,e⟩:=List.mem_filterMap.mp hp
  cases q : h.get? b with
  | none=>rw [q] at e; cases e
  | some o=>
    rw [q] at e
    have e' : (b,o) = p:=Option.some.inj e
    subst e'
    exact ⟨hb,q⟩
theorem Inv.pinned {pins : List (Addr × Obj)} {σ : St} {H : Hp} {s : Shared} {fp : List Addr} (I : Inv X pins σ H s) (hf : ∀ b ∈ fp,FpOk X pins H b) (ho : ∀ b ∈ fp,∃ o,s.heap.get? b = some o /\ ∀ v,o.data ≠ .cell v) : Inv X (pins ++ pinsAt fp s.heap) σ H s:=
  I.pins_of fun p hp=>(List.mem_append.mp hp).elim (fun z=>I.pin p (List.mem_append_right _ z)) fun z=>by
    obtain ⟨hb,e⟩:=of_pinsAt z
    obtain ⟨f0,f1,f2,_⟩:=hf p.1 hb
    obtain ⟨o,e',d⟩:=ho p.1 hb
    rw [e] at e'; cases e'
    exact ⟨e,f0,f1,f2,d⟩
theorem Inv.unpinned {pins pl : List (Addr × Obj)} {σ : St} {H : Hp} {s : Shared} (I : Inv X (pins ++ pl) σ H s) : Inv X pins σ H s:=I.pins_of fun p hp=>I.pin p (List.mem_append_right _ (List.mem_append_left _ hp))
theorem ps_for {iter : Expr} {body : List Stmt} {wi : TI} {g : TG} {tb : TS} {pos : Pos} (hp : PassesOwn (model X.prog X.w) X.A X.env X.xe) (hc : X.calm = true) (hi : PI X tg iter wi) (hg : PG X tg g) (hb : PSs X body tb)
    (hs : ∀ x,foldedSetIterable iter X.env x = pure x:=by intro _; rfl) : PS X (.For tg iter body [] pos) (tFor wi g tb):=by
  intro pins s σ H D I h
  refine wpAny_For (thn (hi pins s σ H _ I h) fun v s1 h1=>thn h1 fun itv s2 h2=>?_) hs
  obtain ⟨it,fp,tn,J,H2,e,I2,T,st2,f2,W,⟨m0,w0⟩,turn⟩:=h2
  subst e
  have stat : ∀ {H' : Hp},(∀ b ∈ fp,H' b = none) -> ∀ b ∈ fp,FpOk X pins H' b:=fun hn b hb=>⟨hn b hb,(f2 b hb).2⟩
  refine codeAny_forLoop_any (fun n s'=>∃ i σ' H',Inv X pins σ' H' s' /\ tn i s'.heap /\ (∀ b ∈ fp,H' b = none) /\ W i n σ' H') ?_ m0 ⟨0,σ,H2,I2,st2,fun b hb=>(f2 b hb).1,w0⟩
  rintro n s3 ⟨i,σ3,H3,I3,st3,fr3,w3⟩
  rcases turn i n σ3 H3 w3 with ⟨stop,qn⟩ | ⟨go,N,hN,step⟩
  · refine wpAny_passesOwn hp (thn (T.done X rfl rfl rfl hc i pins s3 σ3 H3 X.xe I3 (stat fr3) st3 stop) fun r s4 ⟨hr,I4⟩=>?_)
    subst hr
    exact wpAny_execs_nil ⟨σ3,H3,I4,qn⟩
  · refine wpAny_passesOwn hp (thn (T.item X rfl rfl rfl hc i pins s3 σ3 H3 X.xe I3 (stat fr3) st3 go) fun r s4 ⟨u,hr,h4⟩=>?_)
    subst hr
    refine wpAny_passesOwn hp (thn h4 fun _ s5 ⟨x,H5,I5,r5,y5,st5,fr5⟩=>?_)
    have I5':=I5.pinned (stat fr5) (T.obj _ _ st5)
    refine wpAny_passesOwn hp (thn (hg _ s5 σ3 H5 x u _ I5' r5 (step x H5 y5)) fun _ s6 ⟨σ6,H6,I6,q6⟩=>?_)
    refine wpAny_passesOwn hp (thn (hb _ s6 σ6 H6 _ I6 q6) fun f s7 q7=>?_)
    have again : ∀ {σ7 : St} {H7 : Hp},Inv X (pins ++ pinsAt fp s5.heap) σ7 H7 s7 -> N σ7 H7 -> ∃ m,m < n /\ ∃ i σ' H',Inv X pins σ' H' s7 /\ tn i s7.heap /\ (∀ b ∈ fp,H' b = none) /\ W i m σ' H':=fun {σ7 H7} I7 n7=>by
      obtain ⟨m',hm,w7⟩:=hN σ7 H7 n7
      refine ⟨m',hm,i + 1,σ7,H7,I7.unpinned,T.keep _ _ _ st5 fun b hb o e=>(I7.pin (b,o) (List.mem_append_right _ (List.mem_append_right _ (mem_pinsAt hb e)))).1,fun b hb=>?_,w7⟩
      obtain ⟨o,e,d⟩:=T.obj _ _ st5 b hb
      exact (I7.pin (b,o) (List.mem_append_right _ (List.mem_append_right _ (mem_pinsAt hb e)))).2.1
    cases f with
    | next=>obtain ⟨σ7,H7,I7,n7⟩:=q7; exact again I7 n7
    | cont=>obtain ⟨σ7,H7,I7,n7⟩:=q7; exact again I7 n7
    | brk=>obtain ⟨σ7,H7,I7,q7⟩:=q7; exact ⟨σ7,H7,I7.unpinned,q7⟩
    | ret v=>obtain ⟨x7,σ7,H7,I7,r7,q7⟩:=q7; exact ⟨x7,σ7,H7,I7.unpinned,r7,q7⟩
end
end L2
namespace L2
open PySem PySem.Spec PyProof.Rows
abbrev R2:=V -> V -> Hp -> VK -> Prop
def OpR (X : Cx) (f : Value -> Value -> Sem Value) (r : R2) : Prop:=
  ∀ (pins : List (Addr × Obj)) (s : Shared) (σ : St) (H : Hp) (x y : V) (v u : Value) (Q : VK),Inv X pins σ H s -> RelV x v -> RelV y u -> r x y H Q ->
    wpAny (model X.prog X.w) X.A (f v u) (EP X pins σ Q) X.xe s
def UnR (X : Cx) (f : Value -> Sem Value) (r : V -> Hp -> VK -> Prop) : Prop:=
  ∀ (pins : List (Addr × Obj)) (s : Shared) (σ : St) (H : Hp) (x : V) (v : Value) (Q : VK),Inv X pins σ H s -> RelV x v -> r x H Q ->
    wpAny (model X.prog X.w) X.A (f v) (EP X pins σ Q) X.xe s
def CallR (X : Cx) (f : Value) (r : List V -> Hp -> VK -> Prop) : Prop:=
  ∀ (pins : List (Addr × Obj)) (s : Shared) (σ : St) (H : Hp) (xs : List V) (us : List Value) (Q : VK),Inv X pins σ H s -> Vals xs us -> r xs H Q ->
    wpAny (model X.prog X.w) X.A (call f us) (EP X pins σ Q) X.xe s
def tOp (r : R2) (ta tb : TE) : TE:=fun σ H Q=>ta σ H fun x H1=>tb σ H1 fun y H2=>r x y H2 Q
def tUn (r : V -> Hp -> VK -> Prop) (ta : TE) : TE:=fun σ H Q=>ta σ H fun x H1=>r x H1 Q
def rI (C : Int -> Int -> Prop) (g : Int -> Int -> V) : R2:=fun x y H Q=>∃ i j,x = .int i /\ y = .int j /\ C i j /\ Q (g i j) H
def rI0 (g : Int -> Int -> V) : R2:=fun x y H Q=>∃ i j,x = .int i /\ y = .int j /\ Q (g i j) H
def rU (g : Int -> V) : V -> Hp -> VK -> Prop:=fun x H Q=>∃ i,x = .int i /\ Q (g i) H
section
variable {X : Cx} {a b c : Expr} {ta tb tc : TE} {pos : Pos}
theorem binT (ha : PE X a ta) (hb : PE X b tb) {pins : List (Addr × Obj)} {s : Shared} {σ : St} {H : Hp} {R : V -> V -> Hp -> Prop} (I : Inv X pins σ H s)
    (h : ta σ H fun x H1=>tb σ H1 fun y H2=>R x y H2) {Q : Value -> Shared -> Prop} {f : Value -> Value -> Sem Value}
    (hf : ∀ v u s2 x y H2,Inv X pins σ H2 s2 -> RelV x v -> RelV y u -> R x y H2 -> wpAny (model X.prog X.w) X.A (f v u) Q X.xe s2) :
    wpAny (model X.prog X.w) X.A (eval a X.env) (fun v s₁=>wpAny (model X.prog X.w) X.A (eval b X.env) (fun u s₂=>wpAny (model X.prog X.w) X.A (f v u) Q X.xe s₂) X.xe s₁) X.xe s:=by
  refine thn (ha pins s σ H _ I h) fun v s1 ⟨x,H1,I1,r1,q1⟩=>?_
  refine thn (hb pins s1 σ H1 _ I1 q1) fun u s2 ⟨y,H2,I2,r2,q2⟩=>?_
  exact hf v u s2 x y H2 I2 r1 r2 q2
theorem pe_op {op : Operator} {r : R2} (ho : OpR X (binaryOp op) r) (ha : PE X a ta) (hb : PE X b tb) : PE X (.BinOp a op b pos) (tOp r ta tb):=by
  intro pins s σ H Q I h
  exact wpAny_BinOp (binT ha hb I h fun v u s2 x y H2 I2 rx ry q=>ho pins s2 σ H2 x y v u Q I2 rx ry q)
theorem pe_un {op : UnaryOp} {r : V -> Hp -> VK -> Prop} (ho : UnR X (unaryOp op) r) (ha : PE X a ta) : PE X (.UnaryOp op a pos) (tUn r ta):=by
  intro pins s σ H Q I h
  exact UnaryOp_ (thn (ha pins s σ H _ I h) fun v s1 ⟨x,H1,I1,r1,q1⟩=>ho pins s1 σ H1 x v Q I1 r1 q1)
theorem opI {f : Value -> Value -> Sem Value} {C : Int -> Int -> Prop} {g : Int -> Int -> Int}
    (rule : ∀ (i j : Int) (t u : Tok) (s : Shared) (Q : Value -> Shared -> Prop) (E : Value -> Shared -> Prop),C i j -> Q (.int (g i j) s.toks) { s with toks:=s.toks + 1 } -> wpAny (model X.prog X.w) X.A (f (.int i t) (.int j u)) Q E s) :
    OpR X f (rI C fun i j=>.int (g i j)):=by
  intro pins s σ H x y v u Q I rx ry h
  obtain ⟨i,j,rfl,rfl,hc,q⟩:=h
  obtain ⟨t,rfl⟩:=rx
  obtain ⟨t',rfl⟩:=ry
  exact rule i j t t' s _ _ hc ⟨.int (g i j),H,I.tok _,⟨_,rfl⟩,q⟩
theorem opI0 {f : Value -> Value -> Sem Value} {g : Int -> Int -> Int}
    (rule : ∀ (i j : Int) (t u : Tok) (s : Shared) (Q : Value -> Shared -> Prop) (E : Value -> Shared -> Prop),Q (.int (g i j) s.toks) { s with toks:=s.toks + 1 } -> wpAny (model X.prog X.w) X.A (f (.int i t) (.int j u)) Q E s) :
    OpR X f (rI0 fun i j=>.int (g i j)):=by
  intro pins s σ H x y v u Q I rx ry h
  obtain ⟨i,j,rfl,rfl,q⟩:=h
  obtain ⟨t,rfl⟩:=rx
  obtain ⟨t',rfl⟩:=ry
  exact rule i j t t' s _ _ ⟨.int (g i j),H,I.tok _,⟨_,rfl⟩,q⟩
theorem opB0 {f : Value -> Value -> Sem Value} {g : Int -> Int -> Bool}
    (rule : ∀ (i j : Int) (t u : Tok) (s : Shared) (Q : Value -> Shared -> Prop) (E : Value -> Shared -> Prop),Q (.bool (g i j)) s -> wpAny (model X.prog X.w) X.A (f (.int i t) (.int j u)) Q E s) :
    OpR X f (rI0 fun i j=>.bl (g i j)):=by
  intro pins s σ H x y v u Q I rx ry h
  obtain ⟨i,j,rfl,rfl,q⟩:=h
  obtain ⟨t,rfl⟩:=rx
  obtain ⟨t',rfl⟩:=ry
  exact rule i j t t' s _ _ ⟨.bl (g i j),H,I,rfl,q⟩
def CDiv (i j : Int) : Prop:=0 < j /\ j < 1073741824
def CPow (i j : Int) : Prop:=0 <= j /\ j <= 1000000 /\ i.natAbs < 2 ^ 64
def CMul (i j : Int) : Prop:=(-(2 ^ 64) < i /\ i < 2 ^ 64) \/ (-(2 ^ 64) < j /\ j < 2 ^ 64)
theorem CMul.ok {i j : Int} (h : CMul i j) : IntMulOk i j:=by
  rcases h with ⟨h1,h2⟩ | ⟨h1,h2⟩
  · exact .of_left (intBits_le_64 h1 h2)
  · exact .of_right (intBits_le_64 h1 h2)
theorem op_add : OpR X (binaryOp .Add) (rI0 fun i j=>.int (i + j)):=opI0 fun _ _ _ _ _ _ _ q=>add_int q
theorem op_sub : OpR X (binaryOp .Sub) (rI0 fun i j=>.int (i - j)):=opI0 fun _ _ _ _ _ _ _ q=>sub_int q
theorem op_mul : OpR X (binaryOp .Mult) (rI CMul fun i j=>.int (i * j)):=opI fun _ _ _ _ _ _ _ hc q=>mul_int q hc.ok
theorem op_fdiv : OpR X (binaryOp .FloorDiv) (rI CDiv fun i j=>.int (i / j)):=opI fun i j _ _ _ _ _ hc q=>by
  have h1 : (0 : Int) < j:=hc.1
  have h2 : j < 1073741824:=hc.2
  exact floordiv_int (by omega) (by rw [Int.fdiv_eq_ediv_of_nonneg i (by omega)]; exact q) (.inl (PyProof.noPylong_small (by omega)))
theorem op_mod : OpR X (binaryOp .Mod) (rI (fun _ j=>0 < j) fun i j=>.int (i % j)):=opI fun i j _ _ _ _ _ hc q=>by
  have h1 : (0 : Int) < j:=hc
  exact mod_int' (by omega) (by rw [Int.fmod_eq_emod_of_nonneg i (by omega)]; exact q)
theorem op_pow : OpR X (binaryOp .Pow) (rI CPow fun i j=>.int (i ^ j.toNat)):=opI fun _ _ _ _ _ _ _ hc q=>pow_int_small hc.1 hc.2.1 hc.2.2 q
theorem unI {f : Value -> Sem Value} {g : Int -> Int}
    (rule : ∀ (i : Int) (t : Tok) (s : Shared) (Q : Value -> Shared -> Prop) (E : Value -> Shared -> Prop),Q (.int (g i) s.toks) { s with toks:=s.toks + 1 } -> wpAny (model X.prog X.w) X.A (f (.int i t)) Q E s) :
    UnR X f (rU fun i=>.int (g i)):=by
  intro pins s σ H x v Q I rx h
  obtain ⟨i,rfl,q⟩:=h
  obtain ⟨t,rfl⟩:=rx
  exact rule i t s _ _ ⟨.int (g i),H,I.tok _,⟨_,rfl⟩,q⟩
theorem un_neg : UnR X (unaryOp .USub) (rU fun i=>.int (-i)):=unI fun _ _ _ _ _ q=>neg_int q
end
section
variable {X : Cx} {a b c : Expr} {ta tb tc : TE} {pos : Pos}
theorem fin_bl {pins : List (Addr × Obj)} {σ : St} {H : Hp} {s : Shared} {Q : VK} {k k' : Bool} (I : Inv X pins σ H s) (q : Q (.bl k) H) (e : k = k') : EP X pins σ Q (.bool k') s:=by
  subst e
  exact ⟨.bl k,H,I,rfl,q⟩
theorem op_lt : OpR X (compareOp .Lt) (rI0 fun i j=>.bl (decide (i < j))):=opB0 fun _ _ _ _ _ _ _ q=>lt_int q
theorem op_le : OpR X (compareOp .LtE) (rI0 fun i j=>.bl (decide (i <= j))):=opB0 fun _ _ _ _ _ _ _ q=>le_int q
theorem op_gt : OpR X (compareOp .Gt) (rI0 fun i j=>.bl (decide (j < i))):=opB0 fun _ _ _ _ _ _ _ q=>gt_int q
theorem op_ge : OpR X (compareOp .GtE) (rI0 fun i j=>.bl (decide (j <= i))):=opB0 fun _ _ _ _ _ _ _ q=>ge_int q
theorem op_notN : OpR X (compareOp .IsNot) (fun x y H Q=>y = .non /\ Q (.bl (!decide (x = .non))) H):=by
  intro pins s σ H x y v u Q I rx ry h
  obtain ⟨rfl,q⟩:=h
  cases ry
  refine isnot_none_gen (fin_bl I q ?_)
  cases x <;> first
    | (cases rx; rfl)
    | (obtain ⟨t,rfl⟩:=rx; rfl)
theorem OpR.or {f : Value -> Value -> Sem Value} {r r' : R2} (h : OpR X f r) (h' : OpR X f r') : OpR X f (fun x y H Q=>r x y H Q \/ r' x y H Q):=by
  intro pins s σ H x y v u Q I rx ry q
  rcases q with q | q
  · exact h pins s σ H x y v u Q I rx ry q
  · exact h' pins s σ H x y v u Q I rx ry q
theorem nomark (b : Expr) {op : CmpOp} (h : op ≠ .In:=by decide) (h2 : op ≠ .NotIn:=by decide) : behindInMarks op b = false:=by
  have e1 : (op == CmpOp.In) = false:=by cases op <;> first | rfl | exact absurd rfl h
  have e2 : (op == CmpOp.NotIn) = false:=by cases op <;> first | rfl | exact absurd rfl h2
  cases b <;> simp [behindInMarks,e1,e2]
theorem pe_cmpR {op : CmpOp} {r : R2} (ho : OpR X (compareOp op) r) (ha : PE X a ta) (hb : PE X b tb) (hm : behindInMarks op b = false) : PE X (.Compare a [op] [b] pos) (tOp r ta tb):=by
  intro pins s σ H Q I h
  exact wpAny_Compare1 (binT ha hb I h fun v u s2 x y H2 I2 rx ry q=>ho pins s2 σ H2 x y v u Q I2 rx ry q) hm
def tTest (t : TE) : TT:=fun σ H Q=>t σ H fun x H'=>∃ k,x = .bl k /\ Q k H'
theorem pt_cmpR {op : CmpOp} {r : R2} (ho : OpR X (compareOp op) r) (ha : PE X a ta) (hb : PE X b tb) (hm : behindInMarks op b = false) : PT X (.Compare a [op] [b] pos) (tTest (tOp r ta tb)):=by
  intro pins s σ H Q I h
  refine wpAny_isTrue_Compare1 (thn (ha pins s σ H _ I h) fun v s1 ⟨x,H1,I1,r1,q1⟩=>thn (hb pins s1 σ H1 _ I1 q1) fun u s2 ⟨y,H2,I2,r2,q2⟩=>
    thn (ho pins s2 σ H2 x y v u _ I2 r1 r2 q2) fun c s3 ⟨z,H3,I3,r3,k,e,q3⟩=>?_) hm
  subst e
  cases r3
  exact wpAny_truthy_bool ⟨H3,I3,q3⟩
def tChain (r r' : R2) (ta tb tc : TE) : TE:=fun σ H Q=>ta σ H fun x H1=>tb σ H1 fun y H2=>r x y H2 fun z H3=>∃ k,z = .bl k /\
  (if k = true then tc σ H3 fun w' H4=>r' y w' H4 Q else Q (.bl false) H3)
theorem pe_chain {op op' : CmpOp} {r r' : R2} (ho : OpR X (compareOp op) r) (ho' : OpR X (compareOp op') r') (ha : PE X a ta) (hb : PE X b tb) (hc : PE X c tc)
    (hm : lastMarks [op,op'] [b,c] = false:=by with_unfolding_all rfl) : PE X (.Compare a [op,op'] [b,c] pos) (tChain r r' ta tb tc):=by
  intro pins s σ H Q I h
  refine Compare_chain (thn (ha pins s σ H _ I h) fun v s1 ⟨x,H1,I1,r1,q1⟩=>chain_link (thn (hb pins s1 σ H1 _ I1 q1) fun u s2 ⟨y,H2,I2,r2,q2⟩=>
    thn (ho pins s2 σ H2 x y v u _ I2 r1 r2 q2) fun d s3 ⟨z,H3,I3,r3,k,e,q3⟩=>?_)) hm
  subst e
  cases r3
  refine wpAny_truthy_bool ?_
  cases k with
  | false=>exact ite_ff ⟨.bl false,H3,I3,rfl,q3⟩
  | true=>exact ite_tt (chain_last (thn (hc pins s3 σ H3 _ I3 q3) fun w' s4 ⟨z',H4,I4,r4,q4⟩=>ho' pins s4 σ H4 y z' u w' Q I4 r2 r4 q4))
theorem pt_chain {op op' : CmpOp} {r r' : R2} (ho : OpR X (compareOp op) r) (ho' : OpR X (compareOp op') r') (ha : PE X a ta) (hb : PE X b tb) (hc : PE X c tc)
    (hm : lastMarks [op,op'] [b,c] = false:=by with_unfolding_all rfl) : PT X (.Compare a [op,op'] [b,c] pos) (tTest (tChain r r' ta tb tc)):=by
  intro pins s σ H Q I h
  refine isTrue_chain (thn (ha pins s σ H _ I h) fun v s1 ⟨x,H1,I1,r1,q1⟩=>test_link (thn (hb pins s1 σ H1 _ I1 q1) fun u s2 ⟨y,H2,I2,r2,q2⟩=>
    thn (ho pins s2 σ H2 x y v u _ I2 r1 r2 q2) fun d s3 ⟨z,H3,I3,r3,k,e,q3⟩=>?_)) hm
  subst e
  cases r3
  refine wpAny_truthy_bool ?_
  cases k with
  | false=>
    obtain ⟨k',e',q'⟩:=q3
    cases e'
    exact ite_ff ⟨H3,I3,q'⟩
  | true=>
    refine ite_tt (test_last (thn (hc pins s3 σ H3 _ I3 q3) fun w' s4 ⟨z',H4,I4,r4,q4⟩=>thn (ho' pins s4 σ H4 y z' u w' _ I4 r2 r4 q4) fun d' s5 ⟨z2,H5,I5,r5,k2,e2,q5⟩=>?_))
    subst e2
    cases r5
    exact wpAny_truthy_bool ⟨H5,I5,q5⟩
theorem line63 : (sizeLine : Nat) < 2 ^ 63:=by rw [sizeLine_eq]; decide
theorem op_add_str : OpR X (binaryOp .Add) (fun x y H Q=>∃ i j,x = .str i /\ y = .str j /\ i.length + j.length <= sizeLine /\ Q (.str (i ++ j)) H):=by
  intro pins s σ H x y v u Q I rx ry h
  obtain ⟨i,j,rfl,rfl,hz,q⟩:=h
  obtain ⟨t,rfl⟩:=rx
  obtain ⟨t',rfl⟩:=ry
  exact add_str (fun t' tk=>⟨.str (i ++ j),H,I.tok _,⟨_,rfl⟩,q⟩) hz
theorem vals1 {x : V} {us : List Value} (r : Vals [x] us) : ∃ u,us = [u] /\ RelV x u:=by
  cases r with
  | cons r1 r2=>cases r2; exact ⟨_,rfl,r1⟩
theorem vals2 {x y : V} {us : List Value} (r : Vals [x,y] us) : ∃ u w',us = [u,w'] /\ RelV x u /\ RelV y w':=by
  cases r with
  | cons r1 r2=>
    cases r2 with
    | cons r3 r4=>cases r4; exact ⟨_,_,rfl,r1,r3⟩
end
end L2
namespace L2
open PySem PySem.Spec PyProof.Rows
structure ObjM (h : Heap) (x dx C : Addr) (mA : Str -> Option Value) : Prop where
  obj : h.get? x = some (PySem.W.instObj C dx)
  ns : h.Ns1 dx mA
  ne : dx ≠ x
theorem lookIn_ns {h : Heap} {dx : Addr} {mA : Str -> Option Value} (n : h.Ns1 dx mA) : ∃ od,h.get? dx = some od /\ ∀ name,PySem.W.lookIn name od = some (mA name):=by
  obtain ⟨o,es,ep,ho,hd,hk,_,hm⟩:=n
  refine ⟨o,ho,fun name=>?_⟩
  have e:=hm name
  unfold nsFind findBy at e
  rw [<- Array.find?_toList] at e
  unfold PySem.W.lookIn
  rw [hd]
  dsimp only
  split
  · rename_i y q
    rw [q] at e
    exact congrArg some e
  · rename_i q
    rw [q] at e
    have a : es.toList.any (·.refKey) = false:=by
      rw [List.any_eq_false]
      intro y hy
      obtain ⟨z,t,hkey⟩:=hk y (Array.mem_toList_iff.mp hy)
      simp [DictEntry.refKey,hkey]
    have a' : ¬ es.toList.any (·.refKey) = true:=by rw [a]; exact Bool.false_ne_true
    rw [if_neg a']
    exact congrArg some e
theorem ObjM.look {h : Heap} {x dx C : Addr} {mA : Str -> Option Value} (I : ObjM h x dx C mA) : ∃ od,PySem.W.InstAt h x (PySem.W.instObj C dx) C (some od) /\ ∀ name,PySem.W.lookIn name od = some (mA name):=
  let ⟨od,ho,hl⟩:=lookIn_ns I.ns
  ⟨od,⟨I.obj,rfl,rfl,ho⟩,hl⟩
section
variable {prog : Program} {w : World} {A : Around} {E : Value -> Shared -> Prop} {s : Shared} {K : PySem.W.Frag} {x dx C f : Addr} {mA : Str -> Option Value} {name : Str} {v : Value}
end
section
variable {P : Program} {w : World} {H H' : Hp} {h h' : Heap} {a C dx : Addr} {fs fs' : List (Str × V)}
theorem ins_get (hok : HOk P w H h) (e : H a = some (.ins C dx fs)) : ∃ mA,ObjM h a dx C mA /\ (∀ f,RelO (fs.lookup f) (mA f)) /\ PySem.Within mA (fs.map (·.1)) /\ fs.length <= 1000 /\ H dx = some (.own a):=by
  obtain ⟨d,z,ne,ob,mA,n,r,q⟩:=(show ObjOk P w H h a (.ins C dx fs) from hok a _ e)
  exact ⟨mA,⟨ob,n,ne⟩,r,q,z,d⟩
end
structure Cls (K : PySem.W.Frag) (C : Addr) : Prop where
  pg : PySem.W.plainGet K C Str.empty = true
  hd : PySem.W.hasDictIn K C = true
  po : PySem.W.plainOver K C = true
  sa : PySem.W.findIn K (.ref C) "__setattr__" = some (some (.builtin "object.__setattr__"))
theorem Cls.get {K : PySem.W.Frag} {C : Addr} (c : Cls K C) (f : Str) : PySem.W.plainGet K C f = true:=c.pg
section
variable {X : Cx} {pins : List (Addr × Obj)} {σ : St} {H : Hp} {s : Shared} {a C dx : Addr} {fs : List (Str × V)} {f : Str} {v : V} {A : Around} {E : Value -> Shared -> Prop}
end
section
variable {X : Cx} {o e value : Expr} {f : Str} {pos pos' tpos : Pos} {ta tv : TE}
end
section
variable {X : Cx} {pins : List (Addr × Obj)} {σ : St} {H : Hp} {s : Shared} {A : Around} {E : Value -> Shared -> Prop} {Q : Value -> Shared -> Prop} {c : Value} {b : Bool}
inductive TyOf (K : PySem.W.Frag) (H : Hp) : V -> Value -> Prop where
  | non : TyOf K H .non (.type "NoneType")
  | bl (x : Bool) : TyOf K H (.bl x) (.type "bool")
  | int (i : Int) : TyOf K H (.int i) (.type "int")
  | str (x : Str) : TyOf K H (.str x) (.type "str")
  | flt (x : UInt64) : TyOf K H (.flt x) (.type "float")
  | lst {a : Addr} {xs : List V} (e : H a = some (.lst xs)) : TyOf K H (.ref a) (.type "list")
  | frz {a : Addr} {o : Obj} {xs : List V} (e : H a = some (.frz o (.lst xs))) : TyOf K H (.ref a) (.type "list")
  | tup {a : Addr} {xs : List V} (e : H a = some (.tup xs)) : TyOf K H (.ref a) (.type "tuple")
  | dK {a : Addr} {kvs : List (Key × V)} (e : H a = some (.dK kvs)) : TyOf K H (.ref a) (.type "dict")
  | dT {a : Addr} {kvs : List (HK × V)} (e : H a = some (.dT kvs)) : TyOf K H (.ref a) (.type "dict")
  | ins {a C dx : Addr} {fs : List (Str × V)} (e : H a = some (.ins C dx fs)) (cl : Cls K C) (ha : PySem.W.findIn K (.ref C) "__class__" = some (some (.builtin "object.__class__")))
      (hn : PySem.W.specialIn K (.builtin "object.__class__") "__get__" = some (some (.builtin "getset_descriptor.__get__"))) (htk : PySem.W.takesIn K (.builtin "object.__class__") = some true)
      (hm : PySem.W.mroIn K C (.type "object") = some true) : TyOf K H (.ref a) (.ref C)
theorem isinst_ok {x : V} {u t : Value} (I : Inv X pins σ H s) (rx : RelV x u) (ty : TyOf X.K H x t) (e : PySem.W.kitOne X.K t c = some b) (h : ∀ tk,Q (.bool b) { s with toks:=tk }) :
    wpAny (model X.prog X.w) A (call (.builtin "isinstance") [u,c]) Q E s:=by
  cases ty with
  | non=>cases (show u = Value.none from rx); exact PySem.W.kia_one PySem.W.kitx_none I.kIn True.intro e (fun z=>nomatch z) h
  | bl y=>cases (show u = Value.bool y from rx); exact PySem.W.kia_one PySem.W.kitx_bool I.kIn True.intro e (fun z=>nomatch z) h
  | int i=>obtain ⟨t,q⟩:=(show ∃ t,u = Value.int i t from rx); cases q; exact PySem.W.kia_one PySem.W.kitx_int I.kIn True.intro e (fun z=>nomatch z) h
  | str y=>obtain ⟨t,q⟩:=(show ∃ t,u = Value.str y t from rx); cases q; exact PySem.W.kia_one PySem.W.kitx_str I.kIn True.intro e (fun z=>nomatch z) h
  | flt y=>obtain ⟨t,q⟩:=(show ∃ t,u = Value.float y t from rx); cases q; exact PySem.W.kia_one PySem.W.kitx_float I.kIn True.intro e (fun z=>nomatch z) h
  | @lst a xs ea=>
    cases (show u = Value.ref a from rx)
    obtain ⟨_,_,n,_,h1⟩:=(show ObjOk X.prog X.w H s.heap a (.lst xs) from I.hok a _ ea)
    exact PySem.W.kia_one PySem.W.kitx_list I.kIn ⟨_,h1,rfl⟩ e (fun z=>nomatch z) h
  | @frz a ob xs ea=>
    cases (show u = Value.ref a from rx)
    obtain ⟨_,_,_,n,_,h1⟩:=(show ObjOk X.prog X.w H s.heap a (.frz ob (.lst xs)) from I.hok a _ ea)
    exact PySem.W.kia_one PySem.W.kitx_list I.kIn ⟨_,h1,rfl⟩ e (fun z=>nomatch z) h
  | @tup a xs ea=>
    cases (show u = Value.ref a from rx)
    obtain ⟨_,_,_,p⟩:=(show ObjOk X.prog X.w H s.heap a (.tup xs) from I.hok a _ ea)
    obtain ⟨o,h1,h2,_⟩:=p
    exact PySem.W.kia_one PySem.W.kitx_tuple I.kIn ⟨o,h1,h2⟩ e (fun z=>nomatch z) h
  | @dK a kvs ea=>
    cases (show u = Value.ref a from rx)
    obtain ⟨_,_,vs,_,p⟩:=(show ObjOk X.prog X.w H s.heap a (.dK kvs) from I.hok a _ ea)
    obtain ⟨o,es,ep,h1,h2,_⟩:=p
    exact PySem.W.kia_one PySem.W.kitx_dict I.kIn ⟨o,h1,h2.1⟩ e (fun z=>nomatch z) h
  | @dT a kvs ea=>
    cases (show u = Value.ref a from rx)
    obtain ⟨_,_,xs,_,o,es,ep,h1,h2,_⟩:=(show ObjOk X.prog X.w H s.heap a (.dT kvs) from I.hok a _ ea)
    exact PySem.W.kia_one PySem.W.kitx_dict I.kIn ⟨o,h1,h2.1⟩ e (fun z=>nomatch z) h
  | @ins a C dx fs ea cl ha hn htk hm=>
    cases (show u = Value.ref a from rx)
    obtain ⟨mA,O,_⟩:=ins_get I.hok ea
    obtain ⟨od,J,_⟩:=O.look
    exact PySem.W.kia_one (PySem.W.kitx_own (cl.get _) cl.hd ha hn htk hm) I.kIn J e (fun z=>nomatch z) h
end
end L2
namespace L2
open PySem PySem.Spec PyProof.Rows
structure Room (k : Nat) (A : Around) : Prop where
  hd : A.handled = none
  dp : A.depth + 3 * k + 5 < recursionLimit
  un : A.units + 16 * k + 200 < cLine
theorem Room.mono {j k : Nat} {A : Around} (r : Room k A) (h : j <= k) : Room j A:=⟨r.hd,by have:=r.dp; omega,by have:=r.un; omega⟩
theorem Room.deeper {k : Nat} {A : Around} (r : Room (k + 1) A) (env : Env) : Room k (A.deeper env):=
  ⟨r.hd,by have:=r.dp; show A.depth + 1 + 3 * k + 5 < _; omega,by have:=r.un; show A.units + 3 + 16 * k + 200 < _; omega⟩
theorem Room.depth {k : Nat} {A : Around} (r : Room k A) : A.depth < recursionLimit:=by have:=r.dp; omega
theorem Room.units {k : Nat} {A : Around} (r : Room k A) : A.units + 64 < cLine:=by have:=r.un; omega
def tNil : TA:=fun _ H Q=>Q [] H
def tCons (ta : TE) (tr : TA) : TA:=fun σ H Q=>ta σ H fun x H1=>tr σ H1 fun xs H2=>Q (x :: xs) H2
section
variable {X : Cx} {e : Expr} {es : List Expr} {te : TE} {t : TA} {pos : Pos}
theorem pa_nil : PA X [] tNil:=fun _ _ _ _ H Q I h=>Calls.spliced_nil ⟨[],H,I,.nil,h⟩
theorem pa_cons (ha : PE X e te) (hr : PA X es t) (hs : starEach (e :: es) X.env = (false,eval e X.env) :: starEach es X.env:=by rfl) : PA X (e :: es) (tCons te t):=by
  intro pos pins s σ H Q I h
  rw [hs]
  show wpAny _ _ (spliced ((false,eval e X.env) :: backTo pos (starEach es X.env))) _ _ s
  refine Calls.spliced_cons (thn (ha pins s σ H _ I h) fun u s1 ⟨x,H1,I1,r1,q1⟩=>?_)
  exact thn (hr pos pins s1 σ H1 _ I1 q1) fun us s2 ⟨xs,H2,I2,r2,q2⟩=>⟨x :: xs,H2,I2,.cons r1 r2,q2⟩
def tTup (t : TA) : TE:=fun σ H Q=>t σ H fun xs H1=>xs.length <= sizeLine /\ ∀ p,H1 p = none -> Q (.ref p) (upd H1 p (.tup xs))
def tLst (t : TA) : TE:=fun σ H Q=>t σ H fun xs H1=>xs.length <= sizeLine /\ ∀ p,H1 p = none -> Q (.ref p) (upd H1 p (.lst xs))
theorem pe_tup {x1} (h : PA X es t) : PE X (.Tuple es x1 pos) (tTup t):=by
  intro pins s σ H Q I hq
  refine wpAny_Tuple_spliced (thn (h pos pins s σ H _ I hq) fun us s1 ⟨xs,H1,I1,r,z,q⟩=>⟨by rw [<- r.length]; exact z,?_⟩)
  have hf : H1 s1.heap.objs.size = none:=I1.hok.fresh (Nat.le_refl _)
  refine ⟨.ref s1.heap.objs.size,upd H1 s1.heap.objs.size (.tup xs),I1.laid (t':=s1.toks) (fun b u e=>Heap.get?_push_of_some _ e) (Nat.le_refl _) ?_,rfl,q _ hf⟩
  exact ⟨z,us,r,⟨_,Heap.get?_push_size _ rfl,rfl,_,rfl⟩⟩
theorem pe_lst (h : PA X es t) : PE X (.List es pos) (tLst t):=by
  intro pins s σ H Q I hq
  refine wpAny_List_spliced (thn (h pos pins s σ H _ I hq) fun us s1 ⟨xs,H1,I1,r,z,q⟩=>⟨by rw [<- r.length]; exact z,?_⟩)
  have hf : H1 s1.heap.objs.size = none:=I1.hok.fresh (Nat.le_refl _)
  refine ⟨.ref s1.heap.objs.size,upd H1 s1.heap.objs.size (.lst xs),I1.laid (t':=s1.toks) (fun b u e=>Heap.get?_push_of_some _ e) (Nat.le_refl _) ?_,rfl,q _ hf⟩
  exact ⟨z,us,0,r,Heap.get?_push_size _ rfl⟩
end
abbrev Sp:=List V -> Hp -> VK -> XK -> Prop
abbrev CXT:=List Env -> Hp -> Shared -> XK -> Value -> Shared -> Prop
structure Env0 (P : Program) (w : World) (K : PySem.W.Frag) (mg : Str -> Option Value) (base : Heap) (A : Around) (outer : List Env) (s : Shared) (H : Hp) : Prop where
  frames : A.frames = some outer
  mod : Mod K mg base
  bs : ∀ b o,base.get? b = some o -> s.heap.get? b = some o /\ H b = none
  bsz : base.objs.size <= s.heap.objs.size
  funs : s.heap.FunFrames base outer
  frf : ∀ b ∈ frs outer,H b = none
  hok : HOk P w H s.heap
  bare : AllBare s.gens
def CE (outer : List Env) (P : Program) (w : World) (H : Hp) (s : Shared) (Q : VK) (u : Value) (s' : Shared) : Prop:=
  ∃ v H',s'.os = s.os /\ AllBare s'.gens /\ Un (frs outer) [] H H' s.heap s'.heap /\ HOk P w H' s'.heap /\ RelV v u /\ Q v H'
def CR (CX : CXT) (outer : List Env) (P : Program) (w : World) (H : Hp) (s : Shared) (Q : VK) (E : XK) (r : Result) (s' : Shared) : Prop:=
  match r with
  | .ok (.ret u)=>CE outer P w H s Q u s'
  | .ok _=>False
  | .error e=>CX outer H s E e s'
structure FnOk (P : Program) (w : World) (K : PySem.W.Frag) (mg : Str -> Option Value) (base : Heap) (CX : CXT) (k : Nat) (f : Addr) (fd : FuncData) (ps : List Str) (sp : Sp) : Prop where
  len : ∀ vs H Q E,sp vs H Q E -> vs.length = ps.length
  run : ∀ (A : Around) (outer : List Env) (s : Shared) (H : Hp) (args : Args) (us : List Value) (vs : List V) (Q : VK) (E : XK),Room k A -> Env0 P w K mg base A outer s H -> BindsTo s fd args (ps.zip us) -> Vals vs us -> sp vs H Q E ->
    codeAny (model P w) A (.call (.ref f) args) (CR CX outer P w H s Q E) s
theorem FnOk.imp {P : Program} {w : World} {K : PySem.W.Frag} {mg : Str -> Option Value} {base : Heap} {CX : CXT} {k : Nat} {f : Addr} {fd : FuncData} {ps : List Str} {sp sp' : Sp} (F : FnOk P w K mg base CX k f fd ps sp)
    (h : ∀ vs H Q E,sp' vs H Q E -> sp vs H Q E) : FnOk P w K mg base CX k f fd ps sp':=
  ⟨fun vs H Q E q=>F.len vs H Q E (h _ _ _ _ q),fun A outer s H args us vs Q E hr he hb hv hs=>F.run A outer s H args us vs Q E hr he hb hv (h _ _ _ _ hs)⟩
section
variable {X : Cx} {pins : List (Addr × Obj)} {σ : St} {H : Hp} {s s' : Shared}
theorem Inv.env0 (I : Inv X pins σ H s) : Env0 X.prog X.w X.K X.mg X.base X.A X.stack s H:=
  ⟨I.ok.frames,I.ok.mod,I.bs,Nat.le_trans I.ok.bsz I.sz,I.stack,I.stkFree,I.hok,I.bare⟩
theorem Inv.after {Q : VK} {u : Value} (I : Inv X pins σ H s) (h : CE X.stack X.prog X.w H s Q u s') : EP X pins σ Q u s':=by
  obtain ⟨v,H',os,bare,un,hok,r,q⟩:=h
  obtain ⟨hh,g,d,t,os'⟩:=s'
  obtain rfl : os' = s.os:=os
  exact ⟨v,H',I.call (h':=hh) (g':=g) (d':=d) (t':=t) (ch:=[]) un hok bare (fun b z=>absurd z (by simp)),r,q⟩
end
def tCall (sp : Sp) (dvs : List V) (E : XK) (t : TA) : TE:=fun σ H Q=>t σ H fun vs H1=>sp (vs ++ dvs) H1 Q E
def Binds (K : PySem.W.Frag) (fd : FuncData) (ps : List Str) (ds : List Value) : Prop:=
  ∀ (s : Shared) (us : List Value),K.In s.heap -> (us ++ ds).length = ps.length -> BindsTo s fd ⟨us,[]⟩ (ps.zip (us ++ ds))
theorem Binds.all {K : PySem.W.Frag} {fd : FuncData} {ps : List Str} (h : ∀ us : List Value,us.length = ps.length -> bindArgs fd ⟨us,[]⟩ = pure (ps.zip us)) : Binds K fd ps []:=fun s us _ hl=>by
  rw [List.append_nil] at hl ⊢
  exact .of_eq (h us hl)
def Passes (CX : CXT) (X : Cx) (E : XK) : Prop:=∀ (pins : List (Addr × Obj)) (σ : St) (H : Hp) (s : Shared) (e : Value) (s' : Shared),Inv X pins σ H s -> CX X.stack H s E e s' -> X.xe e s'
section
variable {X : Cx} {CX : CXT} {k : Nat} {f C : Addr} {fd : FuncData} {ps : List Str} {sp : Sp} {dvs : List V} {ds : List Value} {E : XK} {x m : Str} {p pos apos : Pos} {e o : Expr} {es : List Expr} {ta : TE} {t : TA}
theorem run_fn {pins : List (Addr × Obj)} {σ : St} {H : Hp} {s : Shared} {Q : VK} {us : List Value} {vs : List V} (F : FnOk X.prog X.w X.K X.mg X.base CX k f fd ps sp) (hr : Room k X.A) (hb : Binds X.K fd ps ds) (hd : Vals dvs ds) (hx : Passes CX X E)
    (I : Inv X pins σ H s) (r : Vals vs us) (h : sp (vs ++ dvs) H Q E) : wpAny (model X.prog X.w) X.A (call (.ref f) us) (EP X pins σ Q) X.xe s:=by
  have r2 : Vals (vs ++ dvs) (us ++ ds):=r.append hd
  have hl : (us ++ ds).length = ps.length:=by rw [<- r2.length]; exact F.len _ _ _ _ h
  refine wpAny_call (codeAny_mono (F.run X.A X.stack s H ⟨us,[]⟩ (us ++ ds) (vs ++ dvs) Q E hr I.env0 (hb s us I.kIn hl) r2 h) fun r s' hq=>?_)
  cases r with
  | error e=>exact hx pins σ H s e s' I hq
  | ok fl=>
    cases fl with
    | ret u=>exact I.after hq
    | next=>exact False.elim hq
    | brk=>exact False.elim hq
    | cont=>exact False.elim hq
theorem pe_call (F : FnOk X.prog X.w X.K X.mg X.base CX k f fd ps sp) (hr : Room k X.A) (hg : Gl X x) (hm : X.mg x = some (.ref f)) (hk : PySem.W.keepIn X.K (.ref f) = true) (hb : Binds X.K fd ps ds) (hd : Vals dvs ds) (hx : Passes CX X E)
    (ha : PA X (e :: es) t) (hdb : (x == ("__debug__" : Str)) = false:=by decide) (he : starEach (e :: es) X.env = (false,eval e X.env) :: starEach es X.env:=by rfl) (hpl : (backTo pos (starEach es X.env)).any (·.1) = false:=by rfl) :
    PE X (.Call (.Name x p) (e :: es) [] pos) (tCall sp dvs E t):=by
  intro pins s σ H Q I h
  refine wpAny_Call_Name_kw (ld_glob I hg hm ?_ hdb)
  refine PySem.W.callWith_K (h₀:=X.base) I.ok.mod.kin hk (thn (ha pos pins s σ H _ I h) fun us s1 ⟨vs,H1,I1,r,q⟩=>⟨I1.kIn,?_⟩) he hpl
  exact run_fn F hr hb hd hx I1 r q
end
section
variable {X : Cx} {CX : CXT} {k : Nat} {f C : Addr} {fd : FuncData} {ps ks : List Str} {sp : Sp} {E : XK} {x m : Str} {p pos apos kpos : Pos} {e o : Expr} {es : List Expr} {kws : List Keyword} {te ta : TE} {t tk : TA} {nm : Option Str}
variable {g : List Value -> List Value -> List Value} {gV : List V -> List V -> List V}
end
structure FnScope (N P : List Str) (sc : Scope) : Prop where
  kind : sc.kind = .function
  co : sc.isCoroutine = false
  gen : sc.isGenerator = false
  nd : N.Nodup
  pre : N.take P.length = P
  par : ∀ x ∈ P,sc.names.lookup x = some .local \/ sc.names.lookup x = some .cell
  nofree : ∀ y ∈ sc.names,y.2 ≠ .free
theorem bindL_out {kindOf : Str -> Option NameKind} {x : Str} : ∀ {binds : List (Str × Value)} {m : Str -> Option Value},(∀ v,(x,v) ∉ binds) -> bindL kindOf binds m x = m x
  | [],_,_=>rfl
  | (n,v) :: r,m,h=>by
    unfold bindL
    rw [bindL_out fun w hw=>h w (List.mem_cons_of_mem _ hw)]
    split
    · have : x ≠ n:=by rintro rfl; exact h v List.mem_cons_self
      simp [this]
    · rfl
theorem bindC_out {kindOf : Str -> Option NameKind} {x : Str} : ∀ {binds : List (Str × Value)} {m : Str -> Option Value},(∀ v,(x,v) ∉ binds) -> bindC kindOf binds m x = m x
  | [],_,_=>rfl
  | (n,v) :: r,m,h=>by
    unfold bindC
    rw [bindC_out fun w hw=>h w (List.mem_cons_of_mem _ hw)]
    split
    · rfl
    · have : x ≠ n:=by rintro rfl; exact h v List.mem_cons_self
      simp [this]
theorem bindL_get {kindOf : Str -> Option NameKind} {x : Str} {v : Value} : ∀ {P : List Str} {vs : List Value} {i : Nat} {m : Str -> Option Value},P.Nodup -> P[i]? = some x -> vs[i]? = some v -> kindOf x = some .local ->
    bindL kindOf (P.zip vs) m x = some v
  | [],_,_,_,_,h,_,_=>by simp at h
  | _ :: _,[],_,_,_,_,h,_=>by simp at h
  | p :: P,w :: vs,0,m,nd,h1,h2,hk=>by
    simp at h1 h2; subst h1; subst h2
    show bindL kindOf ((p,w) :: P.zip vs) m p = _
    unfold bindL
    rw [bindL_out fun v hv=>(List.nodup_cons.mp nd).1 (List.of_mem_zip hv).1,if_pos hk]
    simp
  | p :: P,w :: vs,i + 1,m,nd,h1,h2,hk=>by
    show bindL kindOf ((p,w) :: P.zip vs) m x = _
    unfold bindL
    exact bindL_get (i:=i) (List.nodup_cons.mp nd).2 (by simpa using h1) (by simpa using h2) hk
theorem bindC_get {kindOf : Str -> Option NameKind} {x : Str} {v : Value} : ∀ {P : List Str} {vs : List Value} {i : Nat} {m : Str -> Option Value},P.Nodup -> P[i]? = some x -> vs[i]? = some v -> kindOf x ≠ some .local ->
    bindC kindOf (P.zip vs) m x = some v
  | [],_,_,_,_,h,_,_=>by simp at h
  | _ :: _,[],_,_,_,_,h,_=>by simp at h
  | p :: P,w :: vs,0,m,nd,h1,h2,hk=>by
    simp at h1 h2; subst h1; subst h2
    show bindC kindOf ((p,w) :: P.zip vs) m p = _
    unfold bindC
    rw [bindC_out fun v hv=>(List.nodup_cons.mp nd).1 (List.of_mem_zip hv).1,if_neg hk]
    simp
  | p :: P,w :: vs,i + 1,m,nd,h1,h2,hk=>by
    show bindC kindOf ((p,w) :: P.zip vs) m x = _
    unfold bindC
    exact bindC_get (i:=i) (List.nodup_cons.mp nd).2 (by simpa using h1) (by simpa using h2) hk
def start (N : List Str) (vs : List V) : St:=vs.map some ++ List.replicate (N.length - vs.length) none
def cxOf (CX : CXT) (P : Program) (w : World) (K : PySem.W.Frag) (mg : Str -> Option Value) (base : Heap) (N : List Str) (qual : Str) (scope : Scope) (f : Addr) (cd : Value) (A : Around) (outer : List Env) (s : Shared) (H : Hp) (E : XK) : Cx where
  prog:=P
  w:=w
  K:=K
  mg:=mg
  base:=base
  A:=A.deeper (envOfC qual scope s.heap.objs.size f cd)
  N:=N
  s₀:=s
  H₀:=H
  env:=envOfC qual scope s.heap.objs.size f cd
  outer:=outer
  stack:=envOfC qual scope s.heap.objs.size f cd :: outer
  ex:=[]
  calm:=true
  fn:=fun _=>true
  pn:=[]
  xe:=fun e s'=>wpAny (model P w) (A.deeper (envOfC qual scope s.heap.objs.size f cd)) (leaving (envOfC qual scope s.heap.objs.size f cd) e) (fun _ s''=>CX outer H s E e s'') (fun e' s''=>CX outer H s E e' s'') s'
theorem cell_has {sc : Scope} {n : Nat} {x : Str} (h : sc.names.lookup x = some .cell) : ∃ c,(cellsFrom n sc.names []).lookup x = some c:=by
  have q:=PySem.W.cellsFrom_some sc.names n [] (.inl h)
  exact Option.isSome_iff_exists.mp q
theorem inv_start {CX : CXT} {P : Program} {w : World} {K : PySem.W.Frag} {mg : Str -> Option Value} {base : Heap} {N ps : List Str} {qual : Str} {scope : Scope} {f : Addr} {cd : Value} {A : Around} {outer : List Env} {s s1 : Shared} {H : Hp} {E : XK} {us : List Value} {vs : List V}
    (S : FnScope N ps scope) (hd : A.handled = none) (e0 : Env0 P w K mg base A outer s H) (hl : vs.length = ps.length) (r : Vals vs us)
    (x : InCallC s s.heap.objs.size (bindL (envOfC qual scope s.heap.objs.size f cd).kindOf (ps.zip us) fun _=>none) (cellsFrom (s.heap.objs.size + 1) scope.names []) (bindC (envOfC qual scope s.heap.objs.size f cd).kindOf (ps.zip us) fun _=>none) s1) :
    Inv (cxOf CX P w K mg base N qual scope f cd A outer s H E) [] (start N vs) H s1:=by
  have hpl : ps.length <= N.length:=by have:=congrArg List.length S.pre; rw [List.length_take] at this; omega
  obtain ⟨h1,tk,rfl,hk⟩:=x.done
  have noA : ∀ b : Addr,b ∉ (cxOf CX P w K mg base N qual scope f cd A outer s H E).ex:=fun b z=>absurd (show b ∈ ([] : List Addr) from z) (by simp)
  refine ⟨⟨e0.mod,S.kind,rfl,rfl,Nat.le_refl _,fun y z c h1 h2=>?_,fun y hy=>?_,fun y c _ h=>?_,fun _=>hd,Around.frames_deeper e0.frames,.inr ⟨rfl,rfl⟩,fun b z=>absurd z (noA b),e0.bs,e0.bsz,fun b _ _=>noA b,fun b z=>absurd z (noA b),e0.funs,e0.frf⟩,
    rfl,e0.bare,Un.kept hk,⟨_,x.toInCall.ns,fun i y v h1 h2 h3=>?_⟩,fun y c h=>⟨_,x.cell y c h⟩,e0.hok.fresh (Nat.le_refl _),fun y c h=>?_,fun p hp=>absurd (show p ∈ ([] : List (Addr × Obj)) from hp) (by simp),e0.hok.kept hk,?_⟩
  · exact name_of_addr x.apart (PySem.mem_of_lookup h1) (PySem.mem_of_lookup h2)
  · have hy : scope.names.lookup y = some .cell \/ scope.names.lookup y = some .free:=hy
    rcases hy with hy | hy
    · exact cell_has hy
    · exact absurd rfl (S.nofree _ (PySem.mem_of_lookup hy))
  · exact Nat.le_of_lt (x.above y c (PySem.mem_of_lookup h))
  · have hi : i < vs.length:=by
      unfold start at h2
      by_cases hi : i < vs.length
      · exact hi
      · rw [List.getElem?_append_right (by simpa using hi)] at h2
        rw [List.getElem?_replicate] at h2
        split at h2 <;> cases h2
    have ha : vs[i]? = some v:=by
      unfold start at h2
      rw [List.getElem?_append_left (by simpa using hi),List.getElem?_map] at h2
      cases e : vs[i]? with
      | none=>rw [e] at h2; cases h2
      | some a=>rw [e] at h2; cases h2; rfl
    obtain ⟨u,hu,rv⟩:=r.get ha
    have hp : ps[i]? = some y:=by
      rw [<- S.pre,List.getElem?_take_of_lt (by omega)]; exact h1
    have ndP : ps.Nodup:=by rw [<- S.pre]; exact S.nd.sublist (List.take_sublist _ _)
    refine ⟨u,rv,?_⟩
    rcases S.par y (List.mem_of_getElem? hp) with k | k
    · exact .inl ⟨k,bindL_get ndP hp hu k⟩
    · obtain ⟨c,e⟩:=cell_has (n:=s.heap.objs.size + 1) k
      refine .inr ⟨.inl k,c,e,?_⟩
      have q:=x.cell y c e
      rw [bindC_get ndP hp hu (by show scope.names.lookup y ≠ _; rw [k]; decide)] at q
      exact q
  · exact e0.hok.fresh (Nat.le_of_lt (x.above y c (PySem.mem_of_lookup h)))
  · unfold start
    show _ = N.length
    rw [List.length_append,List.length_map,List.length_replicate]
    omega
theorem fn_of {CX : CXT} {P : Program} {w : World} {K : PySem.W.Frag} {mg : Str -> Option Value} {base : Heap} {k : Nat} {f : Addr} {name qual : Str} {params : Arguments} {body : List Stmt} {scope : Scope} {dV kV doc pm cdv ct oc : Value} {an od : Option Addr}
    {osl : Array (Option Value)} {N ps : List Str} {sp : Sp} (lk : K.lookup f = some ⟨oc,od,.func (PySem.W.fnOf name qual params body scope dV kV doc pm an cdv ct),osl⟩) (hcd : PySem.W.codeIn K cdv qual = true) (S : FnScope N ps scope)
    (len : ∀ vs H Q E,sp vs H Q E -> vs.length = ps.length)
    (hbody : ∀ (A : Around) (outer : List Env) (s : Shared) (H : Hp) (vs : List V) (Q : VK) (E : XK),Room k (A.deeper (envOfC qual scope s.heap.objs.size f cdv)) -> sp vs H Q E ->
      ∃ t,PSs (cxOf CX P w K mg base N qual scope f cdv A outer s H E) body t /\ t { nx:=fun _ H'=>Q .non H',rt:=Q } (start N vs) H) :
    FnOk P w K mg base CX (k + 1) f (PySem.W.fnOf name qual params body scope dV kV doc pm an cdv ct) ps sp:=by
  refine ⟨len,fun A outer s H args us vs Q E hr e0 hb r hsp=>?_⟩
  have hl:=len _ _ _ _ hsp
  have KX : K.In s.heap:=e0.mod.kin.keeps fun b o e=>(e0.bs b o e).1
  have lim : s.heap.NoLimit:=e0.mod.nolimit.keeps fun b o e=>(e0.bs b o e).1
  have hkind : ∀ y ∈ ps.zip us,scope.names.lookup y.1 = some .local \/ (scope.names.lookup y.1 = some .cell /\ ((cellsFrom (s.heap.objs.size + 1) scope.names []).lookup y.1).isSome = true):=fun ⟨n,v⟩ hy=>by
    rcases S.par n (List.of_mem_zip hy).1 with q | q
    · exact .inl q
    · exact .inr ⟨q,PySem.W.cellsFrom_some _ _ _ (.inl q)⟩
  refine codeAny_call_function hr.depth (KX _ _ lk) rfl S.co S.gen rfl (PySem.W.codeRec_of KX hcd) (hb _ _ _ _ ?_)
  refine wpAny_newFunctionEnv_cells S.kind hkind fun env he s1 x=>?_
  subst he
  refine ⟨lim.keeps x.toInCall.keep,codeAny_func ?_⟩
  obtain ⟨t,ht,hq⟩:=hbody A outer s H vs Q E (hr.deeper _) hsp
  have I : Inv (cxOf CX P w K mg base N qual scope f cdv A outer s H E) [] (start N vs) H s1:=inv_start S hr.hd e0 hl r x
  refine wpAny_mono (ht [] s1 (start N vs) H _ I hq) (fun fl s' hs=>?_) fun e s' hs=>hs
  have fin : ∀ {σ' : St} {H' : Hp} {v : V} {u : Value},Inv (cxOf CX P w K mg base N qual scope f cdv A outer s H E) [] σ' H' s' -> RelV v u -> Q v H' -> CE outer P w H s Q u s':=
    fun {σ' H' v u} J rv q=>⟨v,H',J.os,J.bare,J.base,J.hok,rv,q⟩
  cases fl with
  | ret u=>
    obtain ⟨v,σ',H',J,rv,q⟩:=hs
    exact fin J rv q
  | next=>
    obtain ⟨σ',H',J,q⟩:=hs
    exact fin (v:=V.non) (u:=Value.none) J rfl q
  | brk=>
    obtain ⟨_,_,_,q⟩:=hs
    exact False.elim q
  | cont=>
    obtain ⟨_,_,_,q⟩:=hs
    exact False.elim q
end L2
namespace L2
open PySem PySem.Spec PyProof.Rows
section
variable {X : Cx} {x : Str} {p pos : Pos} {e : Expr} {es : List Expr} {t : TA} {id T : String} {r : List V -> Hp -> VK -> Prop}
def tCB (r : List V -> Hp -> VK -> Prop) (t : TA) : TE:=fun σ H Q=>t σ H fun vs H1=>r vs H1 Q
theorem pe_callB (hc : CallR X (.builtin id) r) (hg : Gl X x) (hm : X.mg x = none) (hv : bootBuiltins x = some (.builtin id)) (ha : PA X (e :: es) t) (hn : x ≠ "__name__" := by decide) (hdb : (x == ("__debug__" : Str)) = false:=by decide)
    (he : starEach (e :: es) X.env = (false,eval e X.env) :: starEach es X.env:=by rfl) (hpl : (backTo pos (starEach es X.env)).any (·.1) = false:=by rfl) : PE X (.Call (.Name x p) (e :: es) [] pos) (tCB r t):=by
  intro pins s σ H Q I h
  refine wpAny_Call_Name_kw (ld_blt I hg hm hv ?_ hn hdb)
  exact PyProof.Rows.callWith_builtin1 (thn (ha pos pins s σ H _ I h) fun us s1 ⟨vs,H1,I1,r1,q1⟩=>hc pins s1 σ H1 vs us Q I1 r1 q1) he hpl
theorem pe_callTy (hc : CallR X (.type T) r) (hg : Gl X x) (hm : X.mg x = none) (hv : bootBuiltins x = some (.type T)) (ha : PA X (e :: es) t) (hn : x ≠ "__name__" := by decide) (hdb : (x == ("__debug__" : Str)) = false:=by decide)
    (he : starEach (e :: es) X.env = (false,eval e X.env) :: starEach es X.env:=by rfl) (hpl : (backTo pos (starEach es X.env)).any (·.1) = false:=by rfl) : PE X (.Call (.Name x p) (e :: es) [] pos) (tCB r t):=by
  intro pins s σ H Q I h
  refine wpAny_Call_Name_kw (ld_blt I hg hm hv ?_ hn hdb)
  exact PyProof.Rows.callWith_type1 (thn (ha pos pins s σ H _ I h) fun us s1 ⟨vs,H1,I1,r1,q1⟩=>hc pins s1 σ H1 vs us Q I1 r1 q1) he hpl
end
end L2
namespace HT
open PySem PyProof.Rows
def lexLt : List Int -> List Int -> Bool
  | [],[]=>false
  | [],_ :: _=>true
  | _ :: _,[]=>false
  | x :: xs,y :: ys=>if x = y then lexLt xs ys else decide (x < y)
theorem lexLt_cons (x y : Int) (xs ys : List Int) : lexLt (x :: xs) (y :: ys) = if x = y then lexLt xs ys else decide (x < y):=rfl
theorem lexLt_nil_nil : lexLt [] [] = false:=rfl
theorem lexLt_nil_cons (y : Int) (ys : List Int) : lexLt [] (y :: ys) = true:=rfl
theorem lexLt_cons_nil (x : Int) (xs : List Int) : lexLt (x :: xs) [] = false:=rfl
theorem eqAt_int (A : Around) (s : Shared) (a : Int) (t : Tok) (c : Int) (u : Tok) : ∃ e,SeqAt.EqAt A s (.int a t) (.int c u) e /\ (e = true <-> a = c):=
  ⟨(a == c),SeqAt.EqAt.int_int a t c u,by simp⟩
theorem rcLt_int (A : Around) (s : Shared) (a : Int) (t : Tok) (c : Int) (u : Tok) (prog : Program) (w : World) (E : Value -> Shared -> Prop) (Q : Value -> Shared -> Prop) (h : Q (.bool (decide (a < c))) s) :
    wpAny (model prog w) A (richCompare .Lt (.int a t) (.int c u)) Q E s:=
  (PyProof.Rows.lt_int h : wpAny (model prog w) A (compareOp .Lt (.int a t) (.int c u)) Q E s)
section
open PySem.SeqAt
open PySem.AutoSeq1 (wpAny_loadPart')
open PySem.MeetsSeq PySem.MeetsSeq2 PySem.MeetsSeq3
theorem tuple_lt_ints (l b : Addr) (items items2 : Array Value) (n n2 : Nat) (dd dd2 : Option Addr) (sl sl2 : Array (Option Value)) (ns ms : List Int) (hi : IntsAre items.toList ns) (hj : IntsAre items2.toList ms) :
    Meets (Builtin.«tuple.__lt__» ⟨[.ref l,.ref b],[]⟩)
      (fun _ R s=>s.heap.get? l = some { cls:=.type "tuple",dict:=dd,data:=.seq items n,slots:=sl } /\ s.heap.get? b = some { cls:=.type "tuple",dict:=dd2,data:=.seq items2 n2,slots:=sl2 } /\
        R (.ok (.ret (.bool (lexLt ns ms)))) s):=
  .of_wp fun prog w A R s h=>by
    obtain ⟨hp,g,d,tk,os⟩:=s; obtain ⟨hl,hb,h⟩:=h
    have f2:=AutoSeq1.sub_tuple_tuple
    have z1 : items.size = ns.length:=by rw [<- hi.length]; simp
    have z2 : items2.size = ms.length:=by rw [<- hj.length]; simp
    wp_walk using wpAny_loadPart' hl,wpAny_loadPart' hb,wpAny_forIn_list _ (fun rest b s'=>b.1 = none /\ s' = ⟨hp,g,d,tk,os⟩ /\ ∃ (vs ws : List Value) (ns' ms' : List Int),rest = vs.zip ws /\
      IntsAre vs ns' /\ IntsAre ws ms' /\ ns'.length + items2.size = ms'.length + items.size /\ R (.ok (.ret (.bool (lexLt ns' ms')))) ⟨hp,g,d,tk,os⟩) _
    case turn=>
      rintro ⟨y,x⟩ rest b s' ⟨hb',rfl,vs,ws,ns',ms',hz,hvi,hwi,hlen,hR⟩
      cases hvi with
      | nil=>rw [List.zip_nil_left] at hz; cases hz
      | cons a t hvi'=>
        cases hwi with
        | nil=>rw [List.zip_nil_right] at hz; cases hz
        | cons c u hwi'=>
          rw [List.zip_cons_cons] at hz
          injection hz with hyx hrest
          injection hyx with hy hx
          subst hy hx
          rw [lexLt_cons] at hR
          simp only [List.length_cons] at hlen
          obtain ⟨e,he,hiff⟩:=eqAt_int A.in1 ⟨hp,g,d,tk,os⟩ a t c u
          refine wpAny_bind (he prog w _ _ ?_)
          cases e with
          | true=>
            rw [if_pos (hiff.mp rfl)] at hR
            wp_walk
            exact ⟨rfl,rfl,_,_,_,_,hrest,hvi',hwi',by omega,hR⟩
          | false=>
            rw [if_neg (fun q=>absurd (hiff.mpr q) Bool.false_ne_true)] at hR
            have hri:=rcLt_int A.in1 ⟨hp,g,d,tk,os⟩ a t c u prog w
            wp_walk using hri
            exact ⟨_,rfl,by simpa using hR⟩
    case fin=>
      rintro ⟨b1,b2⟩ s' ⟨hb',rfl,vs,ws,ns',ms',hz,hvi,hwi,hlen,hR⟩
      simp only at hb'
      subst hb'
      have hv : lexLt ns' ms' = decide (items.size < items2.size):=by
        cases hvi with
        | nil=>
          cases hwi with
          | nil=>
            simp only [List.length_nil] at hlen
            rw [lexLt_nil_nil]
            exact (decide_eq_false (by omega)).symm
          | cons c u hw=>
            simp only [List.length_nil,List.length_cons] at hlen
            rw [lexLt_nil_cons]
            exact (decide_eq_true (by omega)).symm
        | cons a t hv=>
          cases hwi with
          | nil=>
            simp only [List.length_nil,List.length_cons] at hlen
            rw [lexLt_cons_nil]
            exact (decide_eq_false (by omega)).symm
          | cons c u hw=>
            rw [List.zip_cons_cons] at hz
            cases hz
      rw [hv] at hR
      wp_walk
      exact ⟨_,rfl,by simpa [Builtin.Tuple.tupleCompareSizes] using hR⟩
    case h=>
      exact ⟨rfl,rfl,items.toList,items2.toList,ns,ms,rfl,hi,hj,by omega,h⟩
end
section
variable {prog : Program} {w : World} {A : Around} {E : Value -> Shared -> Prop} {s : Shared}
theorem lt_tupInts {l b : Addr} {items items2 : Array Value} {ns ms : List Int} {Q : Value -> Shared -> Prop} (hl : IsTup s.heap l items) (hb : IsTup s.heap b items2) (hi : IntsAre items.toList ns) (hj : IntsAre items2.toList ms)
    (hu : A.units < cLine) (h : Q (.bool (lexLt ns ms)) s) : wpAny (model prog w) A (compareOp .Lt (.ref l) (.ref b)) Q E s:=by
  obtain ⟨⟨cls,dd,data,sl⟩,ho,hc,n,hd⟩:=id hl
  obtain ⟨⟨cls2,dd2,data2,sl2⟩,ho2,hc2,n2,hd2⟩:=id hb
  simp only at hc hd hc2 hd2
  subst hc hd hc2 hd2
  exact richCompare_meets_room (op:=.Lt) ⟨_,ho,rfl⟩ ⟨_,ho2,rfl⟩ PySem.F.slot_tuple_lt PySem.F.entry_tuple_lt (PySem.F.args_tuple_lt_2 _ _) (tuple_lt_ints l b items items2 n n2 dd dd2 sl sl2 ns ms hi hj)
    ⟨ho,ho2,show Value.bool (lexLt ns ms) ≠ Value.notImplemented /\ Q (.bool (lexLt ns ms)) s from ⟨(fun x=>nomatch x),h⟩⟩ hu
theorem cat_tup {t b : Addr} {vs ws : List Value} {Q : Value -> Shared -> Prop} (ht : IsTup s.heap t vs.toArray) (hb : IsTup s.heap b ws.toArray) (hv : vs ≠ [])
    (h1 : ws = [] -> Q (.ref t) s) (h2 : ws ≠ [] -> Q (.ref s.heap.objs.size) { s with heap:=s.heap.push { cls:=.type "tuple",data:=.seq (vs ++ ws).toArray } })
    (hsz : vs.length + ws.length <= sizeLine) : wpAny (model prog w) A (binaryOp .Add (.ref t) (.ref b)) Q E s:=by
  obtain ⟨⟨cls,dd,data,sl⟩,ho,hc,n,hd⟩:=id ht
  obtain ⟨⟨cls2,dd2,data2,sl2⟩,ho2,hc2,n2,hd2⟩:=id hb
  simp only at hc hd hc2 hd2
  subst hc hd hc2 hd2
  have e : vs.toArray ++ ws.toArray = (vs ++ ws).toArray:=by simp
  by_cases hw : ws = []
  · exact concat_meets ⟨_,ho,rfl⟩ ⟨_,ho2,rfl⟩ noFill_tuple_add seq_tuple_add PySem.F.slot_tuple_add PySem.F.entry_tuple_add (PySem.F.args_tuple_add_2 _ _)
      (tuple_addW1 t b vs.toArray ws.toArray n n2 dd dd2 sl sl2 (by simpa using hv) (by simp [hw])) ⟨ho,ho2,h1 hw⟩
  · refine concat_meets ⟨_,ho,rfl⟩ ⟨_,ho2,rfl⟩ noFill_tuple_add seq_tuple_add PySem.F.slot_tuple_add PySem.F.entry_tuple_add (PySem.F.args_tuple_add_2 _ _)
      (tuple_addW2 t b vs.toArray ws.toArray n n2 dd dd2 sl sl2 (by simpa using hv) (by simpa using hw) (by rw [List.size_toArray,List.size_toArray]; exact hsz)) ⟨ho,ho2,?_⟩
    rw [e]
    exact h2 hw
def sIx (n d : Nat) : Option Int -> Nat
  | none=>d
  | some v=>if v < 0 then (v + (n : Int)).toNat else min v.toNat n
theorem sIx_none (n d : Nat) : sIx n d none = d:=rfl
theorem sIx_nat (n d k : Nat) : sIx n d (some (k : Int)) = min k n:=by
  show (if (k : Int) < 0 then ((k : Int) + (n : Int)).toNat else min (k : Int).toNat n) = min k n
  rw [if_neg (by omega),Int.toNat_natCast]
theorem sIx_le (n d : Nat) (hd : d <= n) (o : Option Int) : sIx n d o <= n:=by
  cases o with
  | none=>exact hd
  | some v=>
    show (if v < 0 then (v + (n : Int)).toNat else min v.toNat n) <= n
    by_cases hv : v < 0
    · rw [if_pos hv]; omega
    · rw [if_neg hv]; exact Nat.min_le_right _ _
theorem clip_eq (v : Int) (n d : Nat) : (if v < 0 then max (v + (n : Int)) 0 else min v (n : Int)) = ((sIx n d (some v) : Nat) : Int):=by
  show (if v < 0 then max (v + (n : Int)) 0 else min v (n : Int)) = (((if v < 0 then (v + (n : Int)).toNat else min v.toNat n) : Nat) : Int)
  by_cases hv : v < 0
  · simp only [if_pos hv]; omega
  · simp only [if_neg hv]; omega
theorem adjust_gen (lo hi : Option Int) (n : Nat) : Builtin.Slice.sliceAdjust lo hi 1 (n : Int) = (((sIx n 0 lo : Nat) : Int),((sIx n n hi : Nat) : Int)):=by
  have h1 : ¬ ((1 : Int) < 0):=by omega
  unfold Builtin.Slice.sliceAdjust
  simp only [h1,if_false]
  refine Prod.ext ?_ ?_
  · cases lo with
    | none=>rfl
    | some v=>exact clip_eq v n 0
  · cases hi with
    | none=>rfl
    | some v=>exact clip_eq v n n
theorem places_gen (i j : Nat) : Builtin.Slice.slicePlaces (i : Int) (j : Int) 1 = j - i:=by
  unfold Builtin.Slice.slicePlaces
  have h1 : (1 : Int) > 0:=by omega
  simp only [h1,if_true,Int.ediv_one]
  split <;> omega
theorem slicePart_ {v : Value} {o : Option Int} {Q : Option Int -> Shared -> Prop} (p : IsPart v o) (h : Q o s) : wpAny (model prog w) A (Builtin.Slice.slicePartIndex v) Q E s:=by
  cases p with
  | none=>exact slicePart_none h
  | int i t=>exact slicePart_int h
theorem sliceApplied_gen {sl : Addr} {vl vu : Value} {lo hi : Option Int} {n : Nat} {Q : Int × Int × Nat -> Shared -> Prop} (hs : s.heap.IsSliceOf sl vl vu .none) (pl : IsPart vl lo) (pu : IsPart vu hi)
    (h : Q (((sIx n 0 lo : Nat) : Int),1,sIx n n hi - sIx n 0 lo) s) : wpAny (model prog w) A (Builtin.Slice.sliceApplied (.ref sl) (pure (n : Int))) Q E s:=by
  obtain ⟨os,hos,hcs,hds⟩:=id hs
  unfold Builtin.Slice.sliceApplied Builtin.Slice.sliceFields
  refine wpAny_bind (wpAny_bind (wpAny_field hos hds (x:=vl) rfl (wpAny_bind (wpAny_field hos hds (x:=vu) rfl (wpAny_bind (wpAny_field hos hds (x:=.none) rfl (wpAny_pure ?_)))))))
  refine wpAny_bind (slicePart_none ?_)
  show wpAny _ _ (if ((1 : Int) == 0) = true then _ else _) _ _ s
  rw [if_neg (by decide)]
  refine wpAny_bind (slicePart_ pl (wpAny_bind (slicePart_ pu (wpAny_bind (wpAny_pure ?_)))))
  show wpAny _ _ (match Builtin.Slice.sliceAdjust lo hi 1 (n : Int) with | (lo,hi)=>pure (lo,(1 : Int),Builtin.Slice.slicePlaces lo hi 1)) _ _ s
  rw [adjust_gen lo hi n]
  show wpAny _ _ (pure (((sIx n 0 lo : Nat) : Int),(1 : Int),Builtin.Slice.slicePlaces ((sIx n 0 lo : Nat) : Int) ((sIx n n hi : Nat) : Int) 1)) _ _ s
  rw [places_gen]
  exact wpAny_pure h
theorem pick_gen (xs : Array Value) (i k : Nat) : ((List.range k).filterMap fun (m : Nat)=>xs[((i : Int) + (m : Int) * 1).toNat]?).toArray = ((xs.toList.drop i).take k).toArray:=by
  have e : (fun (m : Nat)=>xs[((i : Int) + (m : Int) * 1).toNat]?) = fun m=>xs[i + m]?:=by
    funext m
    have : ((i : Int) + (m : Int) * 1).toNat = i + m:=by omega
    rw [this]
  rw [e]
  have:=pick_run xs i k
  rw [List.filterMap_map] at this
  have e2 : ((fun x=>xs[x]?) ∘ fun x=>i + x) = fun m=>xs[i + m]?:=rfl
  rw [e2] at this
  rw [this]
theorem getItem_tuple_cut {t sl : Addr} {items : Array Value} {vl vu : Value} {lo hi : Option Int} {Q : Value -> Shared -> Prop} (ht : IsTup s.heap t items) (hs : s.heap.IsSliceOf sl vl vu .none) (pl : IsPart vl lo) (pu : IsPart vu hi)
    (hw : ¬ (sIx items.size 0 lo = 0 /\ sIx items.size items.size hi = items.size))
    (h : Q (.ref s.heap.objs.size) { s with heap:=s.heap.push { cls:=.type "tuple",data:=.seq ((items.toList.drop (sIx items.size 0 lo)).take (sIx items.size items.size hi - sIx items.size 0 lo)).toArray } })
    (hsz : items.size <= sizeLine) : wpAny (model prog w) A (getItem (.ref t) (.ref sl)) Q E s:=by
  have htake : sizeOk (.seq ((items.toList.drop (sIx items.size 0 lo)).take (sIx items.size items.size hi - sIx items.size 0 lo)).toArray):=by
    show ((items.toList.drop (sIx items.size 0 lo)).take (sIx items.size items.size hi - sIx items.size 0 lo)).toArray.size <= sizeLine
    rw [List.size_toArray,List.length_take,List.length_drop,Array.length_toList]
    omega
  have hj : sIx items.size items.size hi <= items.size:=sIx_le _ _ (Nat.le_refl _) hi
  obtain ⟨os,hos,hcs,hds⟩:=id hs
  have hTs : s.TypeIs (.ref sl) "slice" := ⟨os,hos,hcs⟩
  unfold getItem
  try with_reducible refine wpAny_holding ?_
  first | refine wpAny_bind (wpAny_pure ?_) | skip
  refine wpAny_bind (wpAny_sequenceKey ht.typeIs (by decide) ?_)
  refine wpAny_bind (wpAny_callSpecial?_slot (name:=Str.ofString "__getitem__") ht.typeIs PyProof.Rows.slot_tuple_getitem
    (wpAny_call_entry PyProof.Rows.slot_tuple_getitem ht.typeIs entry_tuple_getitem ?_ (args_tuple_getitem _ _)))
  show wpAny _ _ (Builtin.Tuple.tupleItemsOf (.ref t) >>= _) _ _ s
  refine wpAny_bind (tupleItemsOf_ ht ?_)
  refine wpAny_bind (wpAny_typeOf hTs ?_)
  rw [if_pos (by decide)]
  refine wpAny_bind (sliceApplied_gen hs pl pu ?_)
  have hno : ¬ ((((sIx items.size 0 lo : Nat) : Int) == 0 && (1 : Int) == 1 && (sIx items.size items.size hi - sIx items.size 0 lo) == items.size) = true):=by
    intro q
    rw [Bool.and_eq_true,Bool.and_eq_true] at q
    have q1 : ((sIx items.size 0 lo : Nat) : Int) = 0:=eq_of_beq q.1.1
    have q2 : sIx items.size items.size hi - sIx items.size 0 lo = items.size:=eq_of_beq q.2
    exact hw ⟨by omega,by omega⟩
  show wpAny _ _ (if (((sIx items.size 0 lo : Nat) : Int) == 0 && (1 : Int) == 1 && (sIx items.size items.size hi - sIx items.size 0 lo) == items.size) = true then _ else _) _ _ s
  rw [if_neg hno,pick_gen]
  first
    | exact wpAny_bind (m:=Builtin.Tuple.tupleExact _) (wpAny_newObj_type (wpAny_pure ⟨_,rfl,wpAny_pure h⟩) htake)
    | exact wpAny_bind (m:=Builtin.Tuple.tupleExact _) (wpAny_newObj_type (wpAny_bind (wpAny_pure (wpAny_pure ⟨_,rfl,wpAny_pure h⟩))) htake)
    | exact wpAny_bind (wpAny_bind (m:=Builtin.Tuple.tupleExact _) (wpAny_newObj_type (wpAny_pure (wpAny_pure ⟨_,rfl,wpAny_pure h⟩)) htake))
    | exact wpAny_bind (wpAny_bind (m:=Builtin.Tuple.tupleExact _) (wpAny_newObj_type (wpAny_pure ⟨_,rfl,wpAny_pure h⟩) htake))
end
end HT
namespace L2
open PySem PySem.Spec PyProof.Rows
abbrev TO:=St -> Hp -> (Option Int -> Hp -> Prop) -> Prop
def PO (X : Cx) (e : Option Expr) (t : TO) : Prop:=
  ∀ (pins : List (Addr × Obj)) (s : Shared) (σ : St) (H : Hp) (Q : Option Int -> Hp -> Prop),Inv X pins σ H s -> t σ H Q ->
    wpAny (model X.prog X.w) X.A (evalPart e X.env) (fun u s'=>∃ o H',Inv X pins σ H' s' /\ IsPart u o /\ Q o H') X.xe s
def tNoPart : TO:=fun _ H Q=>Q none H
def tPart (t : TE) : TO:=fun σ H Q=>t σ H fun x H1=>∃ i,x = .int i /\ Q (some i) H1
theorem intsAre_of {ns : List Int} : ∀ {us : List Value},Vals (ns.map V.int) us -> IntsAre us ns:=by
  induction ns with
  | nil=>intro us r; rw [List.map_nil] at r; cases r; exact .nil
  | cons n ns ih=>
    intro us r
    rw [List.map_cons] at r
    cases r with
    | cons r1 r2=>
      obtain ⟨t,e⟩:=r1
      subst e
      exact .cons n t (ih r2)
section
variable {X : Cx} {e : Expr} {te : TE} {lo hi : Option Expr} {tl th : TO} {pos p2 : Pos}
theorem po_none : PO X none tNoPart:=by
  intro pins s σ H Q I h
  rw [evalPart_none]
  exact wpAny_pure ⟨none,H,I,.none,h⟩
theorem po_some (h : PE X e te) : PO X (some e) (tPart te):=by
  intro pins s σ H Q I hw
  rw [evalPart_some]
  refine thn (h pins s σ H _ I hw) fun u s1 ⟨x,H1,I1,r1,q1⟩=>?_
  obtain ⟨i,rfl,q⟩:=q1
  obtain ⟨t,rfl⟩:=r1
  exact ⟨some i,H1,I1,.int i t,q⟩
def SlR (X : Cx) (r : V -> Option Int -> Option Int -> Hp -> VK -> Prop) : Prop:=
  ∀ (pins : List (Addr × Obj)) (s : Shared) (σ : St) (H : Hp) (x : V) (v vl vu : Value) (lo hi : Option Int) (sl : Addr) (Q : VK),Inv X pins σ H s -> RelV x v -> s.heap.IsSliceOf sl vl vu .none -> IsPart vl lo -> IsPart vu hi -> r x lo hi H Q ->
    ∃ T id,typeLookup (.type T) "__getitem__" = pure (some (.builtin id)) /\ s.TypeIs v T /\ wpAny (model X.prog X.w) X.A (getItem v (.ref sl)) (EP X pins σ Q) X.xe s
theorem SlR.or {r r' : V -> Option Int -> Option Int -> Hp -> VK -> Prop} (h : SlR X r) (h' : SlR X r') : SlR X (fun x lo hi H Q=>r x lo hi H Q \/ r' x lo hi H Q):=by
  intro pins s σ H x v vl vu lo hi sl Q I rx hs pl pu q
  rcases q with q | q
  · exact h pins s σ H x v vl vu lo hi sl Q I rx hs pl pu q
  · exact h' pins s σ H x v vl vu lo hi sl Q I rx hs pl pu q
def tSl (r : V -> Option Int -> Option Int -> Hp -> VK -> Prop) (te : TE) (tl th : TO) : TE:=fun σ H Q=>te σ H fun x H1=>tl σ H1 fun l H2=>th σ H2 fun u H3=>r x l u H3 Q
theorem pe_slice {r : V -> Option Int -> Option Int -> Hp -> VK -> Prop} (hr : SlR X r) (he : PE X e te) (hl : PO X lo tl) (hu : PO X hi th) : PE X (.Subscript e (.Slice lo hi none p2) pos) (tSl r te tl th):=by
  intro pins s σ H Q I h
  refine Subscript_ (thn (he pins s σ H _ I h) fun v s1 ⟨x,H1,I1,r1,q1⟩=>?_)
  refine wpAny_Slice (thn (hl pins s1 σ H1 _ I1 q1) fun vl s2 ⟨l,H2,I2,pl,q2⟩=>thn (hu pins s2 σ H2 _ I2 q2) fun vu s3 ⟨u,H3,I3,pu,q3⟩=>?_)
  rw [evalPart_none]
  refine wpAny_pure ?_
  have I4 : Inv X pins σ H3 { s3 with heap:=s3.heap.push { cls:=.type "slice",data:=.fields #[vl,vu,.none] } }:=I3.kept (t':=s3.toks) fun b ob q=>Heap.get?_push_of_some _ q
  obtain ⟨T,id,hT,ht,hg⟩:=hr pins { s3 with heap:=s3.heap.push { cls:=.type "slice",data:=.fields #[vl,vu,.none] } } σ H3 x v vl vu l u s3.heap.objs.size Q I4 r1 (Heap.IsSliceOf.new ..) pl pu q3
  show wpAny (model X.prog X.w) X.A (subscriptTail e (.Slice lo hi none p2) v (.ref s3.heap.objs.size)) (EP X pins σ Q) X.xe { s3 with heap:=s3.heap.push { cls:=.type "slice",data:=.fields #[vl,vu,.none] } }
  exact tail_any (ops:=[.ref s3.heap.objs.size,v]) ht hT hg (by with_unfolding_all rfl)
def cutV (xs : List V) (lo hi : Option Int) : List V:=(xs.drop (HT.sIx xs.length 0 lo)).take (HT.sIx xs.length xs.length hi - HT.sIx xs.length 0 lo)
theorem cutV_length (xs : List V) (lo hi : Option Int) : (cutV xs lo hi).length <= xs.length:=by
  unfold cutV
  rw [List.length_take,List.length_drop]
  omega
def rSlT (K : PySem.W.Frag) : V -> Option Int -> Option Int -> Hp -> VK -> Prop:=fun x lo hi H Q=>∃ a xs,x = .ref a /\ SqT K H a xs /\
  ¬ (HT.sIx xs.length 0 lo = 0 /\ HT.sIx xs.length xs.length hi = xs.length) /\ ∀ p,H p = none -> Q (.ref p) (upd H p (.tup (cutV xs lo hi)))
theorem sl_tup : SlR X (rSlT X.K):=by
  intro pins s σ H x v vl vu lo hi sl Q I rx hs pl pu h
  obtain ⟨a,xs,rfl,hx,hw,q⟩:=h
  cases rx
  obtain ⟨its,r,ht,hz⟩:=I.tuple hx
  have hlen : its.toArray.size = xs.length:=by rw [List.size_toArray]; exact r.length.symm
  refine ⟨"tuple",_,PyProof.Rows.slot_tuple_getitem.lookup,ht.typeIs,?_⟩
  refine HT.getItem_tuple_cut ht hs pl pu (by rw [hlen]; exact hw) ?_ (by rw [hlen]; exact hz)
  rw [hlen]
  refine ⟨.ref s.heap.objs.size,_,I.laid (t':=s.toks) (o:=.tup (cutV xs lo hi)) (fun b ob q=>Heap.get?_push_of_some _ q) (Nat.le_refl _) ?_,rfl,q _ (I.hok.fresh (Nat.le_refl _))⟩
  exact ⟨Nat.le_trans (cutV_length xs lo hi) hz,_,(r.drop (HT.sIx xs.length 0 lo)).take (HT.sIx xs.length xs.length hi - HT.sIx xs.length 0 lo),IsTup.new _ _⟩
def rLtT (K : PySem.W.Frag) : R2:=fun x y H Q=>∃ a b ns ms,x = .ref a /\ y = .ref b /\ SqT K H a (ns.map V.int) /\ SqT K H b (ms.map V.int) /\ Q (.bl (HT.lexLt ns ms)) H
theorem op_ltT (hu : X.A.units < cLine) : OpR X (compareOp .Lt) (rLtT X.K):=by
  intro pins s σ H x y v u Q I rx ry h
  obtain ⟨a,b,ns,ms,rfl,rfl,ha,hb,q⟩:=h
  cases rx
  cases ry
  obtain ⟨its,r1,p1,_⟩:=I.tuple ha
  obtain ⟨its2,r2,p2,_⟩:=I.tuple hb
  have i1 : IntsAre its.toArray.toList ns:=intsAre_of r1
  have i2 : IntsAre its2.toArray.toList ms:=intsAre_of r2
  exact HT.lt_tupInts p1 p2 i1 i2 hu ⟨.bl (HT.lexLt ns ms),H,I,rfl,q⟩
def rCatT (K : PySem.W.Frag) : R2:=fun x y H Q=>∃ a b xs ys,x = .ref a /\ y = .ref b /\ SqT K H a xs /\ SqT K H b ys /\ xs ≠ [] /\ xs.length + ys.length <= sizeLine /\
  (ys = [] -> Q (.ref a) H) /\ (ys ≠ [] -> ∀ p,H p = none -> Q (.ref p) (upd H p (.tup (xs ++ ys))))
theorem Vals.nil_iff {xs : List V} {us : List Value} (r : Vals xs us) : us = [] <-> xs = []:=by
  cases r with
  | nil=>simp
  | cons _ _=>simp
theorem op_catT : OpR X (binaryOp .Add) (rCatT X.K):=by
  intro pins s σ H x y v u Q I rx ry h
  obtain ⟨a,b,xs,ys,rfl,rfl,ha,hb,hx,hz,q1,q2⟩:=h
  cases rx
  cases ry
  obtain ⟨its,r1,p1,_⟩:=I.tuple ha
  obtain ⟨its2,r2,p2,_⟩:=I.tuple hb
  refine HT.cat_tup p1 p2 (fun z=>hx (r1.nil_iff.mp z)) (fun z=>⟨.ref a,H,I,rfl,q1 (r2.nil_iff.mp z)⟩) (fun z=>?_) (by rw [<- r1.length,<- r2.length]; exact hz)
  refine ⟨.ref s.heap.objs.size,_,I.laid (t':=s.toks) (o:=.tup (xs ++ ys)) (fun b ob q=>Heap.get?_push_of_some _ q) (Nat.le_refl _) ?_,rfl,q2 (fun w=>z (r2.nil_iff.mpr w)) _ (I.hok.fresh (Nat.le_refl _))⟩
  exact ⟨by rw [List.length_append]; exact hz,_,r1.append r2,IsTup.new _ _⟩
end
end L2
namespace L2
open PySem PySem.Spec PyProof.Rows
def ixN (n : Nat) (i : Int) : Option Nat:=if 0 <= i then (if i < n then some i.toNat else none) else if -(n : Int) <= i then some (i + n).toNat else none
def atI {α : Type} (xs : List α) (i : Int) : Option α:=(ixN xs.length i).bind fun j=>xs[j]?
theorem ixN_seq {n : Nat} {i : Int} {j : Nat} (h : ixN n i = some j) : seqIndex? i n = some j /\ j < n /\ -(n : Int) <= i /\ i < n:=by
  unfold ixN at h
  by_cases h0 : 0 <= i
  · rw [if_pos h0] at h
    by_cases h1 : i < n
    · rw [if_pos h1] at h
      have e : i.toNat = j:=Option.some.inj h
      exact ⟨by rw [seqIndex_of h0 h1,e],by omega,by omega,h1⟩
    · rw [if_neg h1] at h; cases h
  · rw [if_neg h0] at h
    by_cases h1 : -(n : Int) <= i
    · rw [if_pos h1] at h
      have e : (i + n).toNat = j:=Option.some.inj h
      exact ⟨by rw [seqIndex_neg (by omega) h1,e],by omega,h1,by omega⟩
    · rw [if_neg h1] at h; cases h
theorem atI_get {α : Type} {xs : List α} {i : Int} {v : α} (h : atI xs i = some v) : ∃ j,seqIndex? i xs.length = some j /\ xs[j]? = some v /\ j < xs.length /\ -(xs.length : Int) <= i /\ i < xs.length:=by
  unfold atI at h
  cases e : ixN xs.length i with
  | none=>rw [e] at h; cases h
  | some j=>
    rw [e] at h
    obtain ⟨h1,h2,h3,h4⟩:=ixN_seq e
    exact ⟨j,h1,h,h2,h3,h4⟩
def PlainIx (b : Expr) : Prop:=∀ o i,subscripted b false o i = operate [o,i] (getItem o i)
def IxR (X : Cx) (r : R2) : Prop:=
  ∀ (value slice : Expr) (pins : List (Addr × Obj)) (s : Shared) (σ : St) (H : Hp) (x y : V) (v u : Value) (Q : VK),Inv X pins σ H s -> RelV x v -> RelV y u -> r x y H Q ->
    subscripted slice false v u = operate [v,u] (getItem v u) -> wpAny (model X.prog X.w) X.A (subscriptTail value slice v u) (EP X pins σ Q) X.xe s
def MtR (X : Cx) (id : String) (r : V -> List V -> Hp -> VK -> Prop) : Prop:=
  ∀ (pins : List (Addr × Obj)) (s : Shared) (σ : St) (H : Hp) (x : V) (xs : List V) (v : Value) (us : List Value) (Q : VK),Inv X pins σ H s -> RelV x v -> Vals xs us -> r x xs H Q ->
    wpAny (model X.prog X.w) X.A (call (.builtin id) (v :: us)) (EP X pins σ Q) X.xe s
section
variable {X : Cx} {a b : Expr} {ta tb : TE} {pos : Pos}
theorem IxR.or {r r' : R2} (h : IxR X r) (h' : IxR X r') : IxR X (fun x y H Q=>r x y H Q \/ r' x y H Q):=by
  intro value slice pins s σ H x y v u Q I rx ry q hs
  rcases q with q | q
  · exact h value slice pins s σ H x y v u Q I rx ry q hs
  · exact h' value slice pins s σ H x y v u Q I rx ry q hs
theorem pe_ix {r : R2} (hr : IxR X r) (ha : PE X a ta) (hb : PE X b tb) (hs : PlainIx b) : PE X (.Subscript a b pos) (tOp r ta tb):=by
  intro pins s σ H Q I h
  exact Subscript_ (binT ha hb I h fun v u s2 x y H2 I2 rx ry q=>hr a b pins s2 σ H2 x y v u Q I2 rx ry q (hs _ _))
def rIxL (K : PySem.W.Frag) : R2:=fun x y H Q=>∃ p xs i v,x = .ref p /\ y = .int i /\ SqL K H p xs /\ atI xs i = some v /\ Q v H
def rIxT (K : PySem.W.Frag) : R2:=fun x y H Q=>∃ p xs i v,x = .ref p /\ y = .int i /\ SqT K H p xs /\ atI xs i = some v /\ Q v H
def rIxS : R2:=fun x y H Q=>∃ z i c,x = .str z /\ y = .int i /\ z.length <= sizeLine /\ atI z.cps.toList i = some c /\ Q (.str ⟨#[c]⟩) H
theorem ix_list : IxR X (rIxL X.K):=by
  intro value slice pins s σ H x y v u Q I rx ry h hs
  obtain ⟨p,xs,i,z,rfl,rfl,hq,he,q⟩:=h
  cases rx
  obtain ⟨t,rfl⟩:=ry
  obtain ⟨its,r,pl,hz⟩:=I.list hq
  obtain ⟨j,h1,h2,h3,h4,h5⟩:=atI_get he
  obtain ⟨w,ew,rw'⟩:=r.get h2
  have hl:=r.length
  have hn:=line63
  have fin : EP X pins σ Q w s:=⟨z,H,I,rw',q⟩
  by_cases h0 : 0 <= i
  · have hj : i.toNat = j:=by
      rw [seqIndex_of h0 h5] at h1
      exact Option.some.inj h1
    exact item_listR pl.isList h0 (by omega) (by rw [hj]; simpa using ew) fin hs
  · have hj : (i + (its.toArray.size : Int)).toNat = j:=by
      rw [seqIndex_neg (by omega) h4] at h1
      rw [List.size_toArray,<- hl]
      exact Option.some.inj h1
    exact subscriptTail_builtinR (x:=w) pl.isList.typeIs slot_list_getitem.lookup
      (wpAny_getItem_list_neg (Q:=fun r s'=>r = w /\ EP X pins σ Q r s') pl.isList (by omega) (by rw [List.size_toArray] <;> omega) (by omega) (by rw [hj]; simpa using ew) ⟨rfl,fin⟩) hs
theorem ix_tup : IxR X (rIxT X.K):=by
  intro value slice pins s σ H x y v u Q I rx ry h hs
  obtain ⟨p,xs,i,z,rfl,rfl,hq,he,q⟩:=h
  cases rx
  obtain ⟨t,rfl⟩:=ry
  obtain ⟨its,r,pl,hz⟩:=I.tuple hq
  obtain ⟨j,h1,h2,h3,h4,h5⟩:=atI_get he
  obtain ⟨w,ew,rw'⟩:=r.get h2
  have hl:=r.length
  have hn:=line63
  have fin : EP X pins σ Q w s:=⟨z,H,I,rw',q⟩
  exact subscriptTail_builtinR (x:=w) pl.typeIs slot_tuple_getitem.lookup
    (getItem_tuple (j:=j) (Q:=fun r s'=>r = w /\ EP X pins σ Q r s') pl (by omega) (by omega) (by rw [List.size_toArray,<- hl]; exact h1) (by simpa using ew) ⟨rfl,fin⟩) hs
theorem ix_str : IxR X rIxS:=by
  intro value slice pins s σ H x y v u Q I rx ry h hs
  obtain ⟨z,i,c,rfl,rfl,hz,he,q⟩:=h
  obtain ⟨t,rfl⟩:=rx
  obtain ⟨t',rfl⟩:=ry
  obtain ⟨j,h1,h2,h3,h4,h5⟩:=atI_get he
  have hl : z.cps.toList.length = z.length:=by simp [Str.length]
  rw [hl] at h1 h4 h5
  have hn:=line63
  exact tail_any (typeIs_str s z t) slot_str_getitem.lookup (getItem_str (c:=c) (by
    have e1 : decide (i < -(2 ^ 63 : Int)) = false:=decide_eq_false (by omega)
    have e2 : decide (i >= 2 ^ 63) = false:=decide_eq_false (by omega)
    rw [e1,e2,Bool.or_false]) (by rw [h1]; simpa using h2) ⟨.str ⟨#[c]⟩,H,I.tok _,⟨_,rfl⟩,q⟩) hs
def rIx (K : PySem.W.Frag) : R2:=fun x y H Q=>rIxL K x y H Q \/ rIxT K x y H Q \/ rIxS x y H Q
theorem ix_seq : IxR X (rIx X.K):=ix_list.or (ix_tup.or ix_str)
theorem mapSeq_set (its : List Value) (n j : Nat) (u : Value) : Obj.mapSeq (·.setIfInBounds j u) { cls:=.type "list",data:=.seq its.toArray n } = { cls:=.type "list",data:=.seq (its.set j u).toArray n }:=by
  simp [Obj.mapSeq]
theorem Inv.lst {pins : List (Addr × Obj)} {σ : St} {H : Hp} {s : Shared} {p : Addr} {xs : List V} (I : Inv X pins σ H s) (h : H p = some (.lst xs)) :
    ∃ (its : List Value) (n : Nat),Vals xs its /\ s.heap.get? p = some { cls:=.type "list",data:=.seq its.toArray n } /\ xs.length <= sizeLine:=by
  obtain ⟨z,its,n,r,e⟩:=I.hok p _ h
  exact ⟨its,n,r,e,z⟩
theorem Inv.lstUpd {pins : List (Addr × Obj)} {σ : St} {H : Hp} {s : Shared} {p : Addr} {xs ys : List V} {its its' : List Value} {n n' : Nat} {f : Obj -> Obj} (I : Inv X pins σ H s) (h : H p = some (.lst xs))
    (ho : s.heap.get? p = some { cls:=.type "list",data:=.seq its.toArray n }) (hf : f { cls:=.type "list",data:=.seq its.toArray n } = { cls:=.type "list",data:=.seq its'.toArray n' }) (r : Vals ys its') (hz : ys.length <= sizeLine) (t : Nat) :
    Inv X pins σ (upd H p (.lst ys)) { s with heap:=s.heap.update p f,toks:=t }:=by
  have e : (s.heap.update p f).get? p = some { cls:=.type "list",data:=.seq its'.toArray n' }:=by
    rw [Heap.get?_update_self f ho (by rw [hf] <;> rfl),hf]
  refine I.write (x:=p) (e:=p) (by rw [h]; trivial) (.inl rfl) (fun b u hb q=>(Heap.get?_update_other _ _ (Ne.symm hb)).trans q) ⟨_,e⟩ ?_
  exact ⟨hz,its',n',r,e⟩
def rSetL : V -> V -> V -> Hp -> (Hp -> Prop) -> Prop:=fun o i v H Q=>∃ p xs k j,o = .ref p /\ i = .int k /\ H p = some (.lst xs) /\ ixN xs.length k = some j /\ Q (upd H p (.lst (xs.set j v)))
theorem set_list : PSet X rSetL:=by
  intro pins s σ H o i v ov iv u Q I ro ri rv h
  obtain ⟨p,xs,k,j,rfl,rfl,hp,hj,q⟩:=h
  cases ro
  obtain ⟨t,rfl⟩:=ri
  obtain ⟨its,n,r,ho,hz⟩:=I.lst hp
  obtain ⟨h1,h2,h3,h4⟩:=ixN_seq hj
  have hl:=r.length
  have hn:=line63
  have I' : Inv X pins σ (upd H p (.lst (xs.set j v))) { s with heap:=s.heap.update p (Obj.mapSeq (·.setIfInBounds j u)) }:=
    I.lstUpd hp ho (mapSeq_set its n j u) (r.set rv j) (by rw [List.length_set]; exact hz) s.toks
  by_cases h0 : 0 <= k
  · have hk : k.toNat = j:=by
      rw [seqIndex_of h0 h4] at h1
      exact Option.some.inj h1
    exact PySem.W.ki_setAt ho h0 (by omega) (by rw [List.size_toArray,<- hl]; exact h4) (by rw [hk]; exact ⟨_,I',q⟩)
  · have hk : (k + (its.toArray.size : Int)).toNat = j:=by
      rw [seqIndex_neg (by omega) h3] at h1
      rw [List.size_toArray,<- hl]
      exact Option.some.inj h1
    exact PySem.W.ki_setBack ho (by omega) (by rw [List.size_toArray,<- hl]; exact h3) (by omega) (by rw [hk]; exact ⟨_,I',q⟩)
theorem slice_bounds (lo hi : Option Int) (n : Nat) : (sliceBounds lo hi none n).1 = ((HT.sIx n 0 lo : Nat) : Int) /\ (sliceBounds lo hi none n).2.1 = ((HT.sIx n n hi : Nat) : Int) /\ (sliceBounds lo hi none n).2.2 = 1:=by
  refine ⟨?_,?_,rfl⟩
  · cases lo with
    | none=>simp [sliceBounds,HT.sIx]
    | some i=>
      simp only [sliceBounds,HT.sIx,Option.getD_none,show (1 : Int) > 0 by decide,if_true]
      by_cases h : i < 0
      · simp only [h,if_true] <;> omega
      · simp only [h,if_false] <;> omega
  · cases hi with
    | none=>simp [sliceBounds,HT.sIx]
    | some i=>
      simp only [sliceBounds,HT.sIx,Option.getD_none,show (1 : Int) > 0 by decide,if_true]
      by_cases h : i < 0
      · simp only [h,if_true] <;> omega
      · simp only [h,if_false] <;> omega
theorem slicePick_cut (its : List Value) (lo hi : Option Int) : slicePick its.toArray lo hi none = ((its.drop (HT.sIx its.length 0 lo)).take (HT.sIx its.length its.length hi - HT.sIx its.length 0 lo)).toArray:=by
  obtain ⟨h1,h2,h3⟩:=slice_bounds lo hi its.toArray.size
  unfold slicePick
  rw [h1,h2,h3]
  simp only [sliceRange_one,pick_run,List.size_toArray] <;> rfl
def rSlL (K : PySem.W.Frag) : V -> Option Int -> Option Int -> Hp -> VK -> Prop:=fun x lo hi H Q=>∃ a xs,x = .ref a /\ SqL K H a xs /\ ∀ p,H p = none -> Q (.ref p) (upd H p (.lst (cutV xs lo hi)))
theorem sl_list : SlR X (rSlL X.K):=by
  intro pins s σ H x v vl vu lo hi sl Q I rx hs pl pu h
  obtain ⟨a,xs,rfl,hx,q⟩:=h
  cases rx
  obtain ⟨its,r,ht,hz⟩:=I.list hx
  have hlen:=r.length
  refine ⟨"list",_,slot_list_getitem.lookup,ht.isList.typeIs,?_⟩
  refine wpAny_getItem_list_slice ht.isList hs pl pu .none (by simp) ?_ (by rw [List.size_toArray] <;> omega)
  rw [slicePick_cut,<- hlen]
  refine ⟨.ref s.heap.objs.size,_,I.laid (t':=s.toks) (o:=.lst (cutV xs lo hi)) (fun b ob q=>Heap.get?_push_of_some _ q) (Nat.le_refl _) ?_,rfl,q _ (I.hok.fresh (Nat.le_refl _))⟩
  exact ⟨Nat.le_trans (cutV_length xs lo hi) hz,_,0,(r.drop (HT.sIx xs.length 0 lo)).take (HT.sIx xs.length xs.length hi - HT.sIx xs.length 0 lo),Heap.get?_push_size _ rfl⟩
theorem call_len_seq : CallR X (.builtin "len") (fun xs H Q=>∃ p ys,xs = [.ref p] /\ (SqL X.K H p ys \/ SqT X.K H p ys) /\ Q (.int ys.length) H):=by
  intro pins s σ H xs us Q I r h
  obtain ⟨p,ys,rfl,hq,q⟩:=h
  obtain ⟨u,rfl,rx⟩:=vals1 r
  cases rx
  have hn:=line63
  rcases hq with hq | hq
  · obtain ⟨its,r',pl,hz⟩:=I.list hq
    have hlen:=r'.length
    exact Calls.call_len_list pl.isList (by simp only [List.size_toArray] <;> omega) ⟨.int ys.length,H,I.tok _,⟨s.toks + 1,by rw [List.size_toArray,hlen]⟩,q⟩
  · obtain ⟨its,r',pl,hz⟩:=I.tuple hq
    have hlen:=r'.length
    exact len_tuple pl (by simp only [List.size_toArray] <;> omega) ⟨.int ys.length,H,I.tok _,⟨s.toks + 1,by rw [List.size_toArray,hlen]⟩,q⟩
theorem call_len_str : CallR X (.builtin "len") (fun xs H Q=>∃ z,xs = [.str z] /\ z.length <= sizeLine /\ Q (.int z.length) H):=by
  intro pins s σ H xs us Q I r h
  obtain ⟨z,rfl,hz,q⟩:=h
  obtain ⟨u,rfl,t,rfl⟩:=vals1 r
  have hn:=line63
  exact len_str (by omega) ⟨.int z.length,H,I.tok _,⟨_,rfl⟩,q⟩
theorem call_list_of : CallR X (.type "list") (fun xs H Q=>∃ p ys,xs = [.ref p] /\ (SqL X.K H p ys \/ SqT X.K H p ys) /\ ∀ l,H l = none -> Q (.ref l) (upd H l (.lst ys))):=by
  intro pins s σ H xs us Q I r h
  obtain ⟨p,ys,rfl,hq,q⟩:=h
  obtain ⟨u,rfl,rx⟩:=vals1 r
  cases rx
  have fin : ∀ (its : List Value),Vals ys its -> ys.length <= sizeLine -> ∀ (h' : Heap) (c' : Nat),(∀ b o',s.heap.get? b = some o' -> h'.get? b = some o') ->
      h'.get? s.heap.objs.size = some { cls:=.type "list",dict:=none,data:=.seq its.toArray c',slots:=#[] } -> EP X pins σ Q (.ref s.heap.objs.size) { s with heap:=h' }:=fun its r' hz h' c' kp e=>
    ⟨.ref s.heap.objs.size,_,I.laid (t':=s.toks) kp (Nat.le_refl _) (show ObjOk X.prog X.w _ h' _ (.lst ys) from ⟨hz,its,c',r',e⟩),rfl,q _ (I.hok.fresh (Nat.le_refl _))⟩
  rcases hq with hq | hq
  · obtain ⟨its,r',pl,hz⟩:=I.list hq
    have hlen:=r'.length
    obtain ⟨o,ho,hc,n,hd⟩:=pl.isList
    exact call_list_seq p (.inl rfl) ho hc hd (fun h' c' kp e=>fin its r' hz h' c' kp e) (by simp only [List.size_toArray] <;> omega)
  · obtain ⟨its,r',pl,hz⟩:=I.tuple hq
    have hlen:=r'.length
    obtain ⟨o,ho,hc,n,hd⟩:=pl
    exact call_list_seq p (.inr rfl) ho hc hd (fun h' c' kp e=>fin its r' hz h' c' kp e) (by simp only [List.size_toArray] <;> omega)
theorem call_tuple_of : CallR X (.type "tuple") (fun xs H Q=>∃ p ys,xs = [.ref p] /\ ((SqL X.K H p ys /\ ∀ l,H l = none -> Q (.ref l) (upd H l (.tup ys))) \/ (SqT X.K H p ys /\ Q (.ref p) H))):=by
  intro pins s σ H xs us Q I r h
  obtain ⟨p,ys,rfl,h⟩:=h
  obtain ⟨u,rfl,rx⟩:=vals1 r
  cases rx
  rcases h with ⟨hq,q⟩ | ⟨hq,q⟩
  · obtain ⟨its,r',pl,hz⟩:=I.list hq
    have hlen:=r'.length
    refine call_tuple_list pl.isList (fun h' kp=>?_) (by simp only [List.size_toArray] <;> omega)
    have I1 : Inv X pins σ H { s with heap:=h' }:=I.kept (t':=s.toks) kp
    have I2 : Inv X pins σ (upd H h'.objs.size (.tup ys)) { s with heap:=h'.push { cls:=.type "tuple",data:=.seq its.toArray } }:=
      I1.laid (t':=s.toks) (fun b o e=>Heap.get?_push_of_some _ e) (Nat.le_refl _) (show ObjOk X.prog X.w _ _ _ (.tup ys) from ⟨hz,its,r',IsTup.new _ _⟩)
    exact ⟨.ref h'.objs.size,_,I2,rfl,q _ (I1.hok.fresh (Nat.le_refl _))⟩
  · obtain ⟨its,r',pl,hz⟩:=I.tuple hq
    exact call_tuple_same pl ⟨.ref p,H,I,rfl,q⟩
def tyV (K : PySem.W.Frag) (T : String) (x : V) (H : Hp) : Prop:=match x with
  | .str _=>T = "str"
  | .int _=>T = "int"
  | .ref p=>(T = "list" /\ ∃ xs,SqL K H p xs) \/ (T = "tuple" /\ ∃ o,K.lookup p = some o /\ o.cls = .type "tuple" /\ o.dict = none) \/
      (T = "dict" /\ ((∃ kvs,H p = some (.dK kvs)) \/ ∃ kvs,H p = some (.dT kvs))) \/ (T = "set" /\ ∃ S n,H p = some (.set S n))
  | _=>False
theorem tyV_is {pins : List (Addr × Obj)} {σ : St} {H : Hp} {s : Shared} {T : String} {x : V} {v : Value} (I : Inv X pins σ H s) (r : RelV x v) (ty : tyV X.K T x H) :
    s.TypeIs v T /\ ∀ a,v = .ref a -> ∃ ob,s.heap.get? a = some ob /\ ob.dict = none:=by
  cases x with
  | str z=>
    obtain ⟨t,rfl⟩:=r
    cases (show T = "str" from ty)
    exact ⟨typeIs_str s z t,fun _ e=>nomatch e⟩
  | int i=>
    obtain ⟨t,rfl⟩:=r
    cases (show T = "int" from ty)
    exact ⟨typeIs_int s i t,fun _ e=>nomatch e⟩
  | ref p=>
    cases r
    rcases ty with ⟨rfl,xs,hq⟩ | ⟨rfl,o,hk,hc,hd⟩ | ⟨rfl,hk⟩ | ⟨rfl,S,n,hk⟩
    · obtain ⟨its,_,pl,_⟩:=I.list hq
      refine ⟨pl.isList.typeIs,fun a e=>?_⟩
      cases e
      obtain ⟨o,n,e,c,hd,_⟩:=pl
      exact ⟨o,e,hd⟩
    · refine ⟨⟨o,I.kIn p o hk,hc⟩,fun a e=>?_⟩
      cases e
      exact ⟨o,I.kIn _ o hk,hd⟩
    · have z : ∃ o,s.heap.get? p = some o /\ o.ExactDict:=by
        rcases hk with ⟨kvs,hk⟩ | ⟨kvs,hk⟩
        · obtain ⟨_,_,_,_,o,_,_,e,ex,_⟩:=I.hok p _ hk
          exact ⟨o,e,ex⟩
        · obtain ⟨_,_,_,_,o,_,_,e,ex,_⟩:=I.hok p _ hk
          exact ⟨o,e,ex⟩
      obtain ⟨o,e,ex⟩:=z
      refine ⟨⟨o,e,ex.1⟩,fun a e2=>?_⟩
      cases e2
      exact ⟨o,e,ex.2.1⟩
    · obtain ⟨o,_,_,_,e,ex,_⟩:=I.hok p _ hk
      refine ⟨⟨o,e,ex.1⟩,fun a e2=>?_⟩
      cases e2
      exact ⟨o,e,ex.2.1⟩
  | _=>exact False.elim ty
def tBM0 (K : PySem.W.Frag) (T : String) (r : V -> List V -> Hp -> VK -> Prop) (to : TE) : TE:=fun σ H Q=>to σ H fun x H1=>tyV K T x H1 /\ r x [] H1 Q
def tBM (K : PySem.W.Frag) (T : String) (r : V -> List V -> Hp -> VK -> Prop) (to : TE) (t : TA) : TE:=fun σ H Q=>to σ H fun x H1=>tyV K T x H1 /\ t σ H1 fun xs H2=>r x xs H2 Q
variable {o e : Expr} {es : List Expr} {to : TE} {t : TA} {name : Str} {apos cpos : Pos} {T id : String} {r : V -> List V -> Hp -> VK -> Prop}
theorem pe_bm0 (pa : PlainAttrs T) (slot : Slot T name id) (hty : typeOf (.builtin id) = pure (.type "method_descriptor")) (hm : MtR X id r) (ho : PE X o to)
    (hbase : attributeBase o name X.env (eval o X.env) = eval o X.env:=by rfl) (hline : (apos.endLine == cpos.line) = true:=by rfl) : PE X (.Call (.Attribute o name apos) [] [] cpos) (tBM0 X.K T r to):=by
  intro pins s σ H Q I h
  refine wpAny_Call_method0_late hbase hline (thn (ho pins s σ H _ I h) fun v s1 ⟨x,H1,I1,r1,ty,q1⟩=>?_)
  obtain ⟨h1,h2⟩:=tyV_is I1 r1 ty
  exact ⟨T,id,pa,slot,hty,h1,h2,Calls.callWith_builtin rfl (PySem.evalArgs_none (hm pins s1 σ H1 x [] v [] Q I1 r1 .nil q1))⟩
theorem pe_bm (pa : PlainAttrs T) (slot : Slot T name id) (hty : typeOf (.builtin id) = pure (.type "method_descriptor")) (hm : MtR X id r) (ho : PE X o to) (ha : PA X (e :: es) t)
    (hbase : attributeBase o name X.env (eval o X.env) = eval o X.env:=by rfl)
    (hfew : ((backTo cpos (starEach (e :: es) X.env)).all (fun x=>!x.1) && (backToKw cpos (keywordEach [] X.env)).all (fun x=>x.1.isSome)
      && decide ((e :: es).length + ([] : List Keyword).length + (if ([] : List Keyword).isEmpty then 0 else 1) < 30)) = true:=by rfl)
    (hline : (apos.endLine == cpos.line) = true:=by rfl) (hs : starEach (e :: es) X.env = (false,eval e X.env) :: starEach es X.env:=by rfl) (hplain : (backTo cpos (starEach es X.env)).any (·.1) = false:=by rfl) :
    PE X (.Call (.Attribute o name apos) (e :: es) [] cpos) (tBM X.K T r to t):=by
  intro pins s σ H Q I h
  refine wpAny_Call_method_late hbase hfew hline rfl (thn (ho pins s σ H _ I h) fun v s1 ⟨x,H1,I1,r1,ty,q1⟩=>?_)
  obtain ⟨h1,h2⟩:=tyV_is I1 r1 ty
  refine ⟨T,id,pa,slot,hty,h1,h2,?_⟩
  have hA:=ha cpos pins s1 σ H1 _ I1 q1
  rw [hs] at hA ⊢
  refine Calls.callWith_builtin (by show (false || (backTo cpos (starEach es X.env)).any (·.1)) = false; rw [hplain] <;> rfl) (Calls.evalArgs_plain ?_)
  exact thn hA fun us s2 ⟨vs,H2,I2,r2,q2⟩=>hm pins s2 σ H2 x vs v us Q I2 r1 r2 q2
end
end L2
namespace L2
open PySem PySem.Spec PyProof.Rows
def MtM (X : Cx) (id : String) (r : V -> List V -> Hp -> VK -> Prop) : Prop:=
  ∀ (pins : List (Addr × Obj)) (s : Shared) (σ : St) (H : Hp) (x : V) (xs : List V) (v : Value) (us : List Value) (Q : VK),Inv X pins σ H s -> RelV x v -> Vals xs us -> r x xs H Q ->
    wpAny (model X.prog X.w) X.A (call (.builtin id) (v :: us)) (EP X pins σ Q) X.xe s
theorem Vals.one : ∀ {x : V} {us : List Value},Vals [x] us -> ∃ u,us = [u] /\ RelV x u
  | _,_,.cons r .nil=>⟨_,rfl,r⟩
theorem Vals.zero : ∀ {us : List Value},Vals [] us -> us = []
  | _,.nil=>rfl
theorem Vals.dropLast {xs : List V} {us : List Value} (h : Vals xs us) : Vals xs.dropLast us.dropLast:=by
  induction h with
  | nil=>exact .nil
  | cons r t ih=>
    cases t with
    | nil=>exact .nil
    | cons q t'=>exact .cons r ih
theorem Vals.eraseIdx : ∀ {xs : List V} {us : List Value} (i : Nat),Vals xs us -> Vals (xs.eraseIdx i) (us.eraseIdx i)
  | _,_,_,.nil=>.nil
  | _,_,0,.cons _ t=>t
  | _,_,i + 1,.cons r t=>.cons r (Vals.eraseIdx i t)
theorem Vals.rep {xs : List V} {us : List Value} (h : Vals xs us) : ∀ k : Nat,Vals (List.replicate k xs).flatten (List.replicate k us).flatten
  | 0=>.nil
  | k + 1=>by
    rw [List.replicate_succ,List.replicate_succ,List.flatten_cons,List.flatten_cons]
    exact Vals.append h (Vals.rep h k)
theorem erase_last {α : Type} (l : List α) : l.eraseIdx (l.length - 1) = l.dropLast:=by
  induction l with
  | nil=>rfl
  | cons a r ih=>
    cases r with
    | nil=>rfl
    | cons b r=>
      have e : (a :: b :: r).length - 1 = ((b :: r).length - 1) + 1:=by
        have h1 : (a :: b :: r).length = r.length + 2:=rfl
        have h2 : (b :: r).length = r.length + 1:=rfl
        omega
      rw [e,List.eraseIdx_cons_succ,ih]
      all_goals rfl
theorem len_erase {α : Type} : ∀ (l : List α) (i : Nat),(l.eraseIdx i).length <= l.length
  | [],_=>Nat.le_refl _
  | _ :: _,0=>Nat.le_succ _
  | _ :: r,i + 1=>Nat.succ_le_succ (len_erase r i)
theorem foldl_rep (its : List Value) : ∀ (k : Nat) (acc : List Value),
    List.foldl (fun x1 x2=>x1 ++ x2) acc.toArray (List.replicate k its.toArray) = (acc ++ (List.replicate k its).flatten).toArray
  | 0,acc=>by simp
  | k + 1,acc=>by
    have e : acc.toArray ++ its.toArray = (acc ++ its).toArray:=by simp
    have e2 : (acc ++ its) ++ (List.replicate k its).flatten = acc ++ (List.replicate (k + 1) its).flatten:=by
      rw [List.replicate_succ,List.flatten_cons,List.append_assoc]
    rw [<- e2,<- foldl_rep its k (acc ++ its),<- e,List.replicate_succ,List.foldl_cons]
section
variable {X : Cx} {pins : List (Addr × Obj)} {σ : St} {H : Hp} {s : Shared} {l b : Addr} {xs ys zs : List V}
theorem Inv.lset {its its' : List Value} {n : Nat} {f : Array Value -> Array Value} {t' : Nat} (I : Inv X pins σ H s) (hH : H l = some (.lst xs))
    (e : s.heap.get? l = some { cls:=.type "list",data:=.seq its.toArray n }) (hf : f its.toArray = its'.toArray) (hv : Vals ys its') (hz : ys.length <= sizeLine) :
    Inv X pins σ (upd H l (.lst ys)) { s with heap:=s.heap.update l (Obj.mapSeq f),toks:=t' }:=by
  have q:=PySem.IsL.update e f
  rw [hf] at q
  refine I.write (x:=l) (e:=l) (by rw [hH]; exact trivial) (.inl rfl) (fun b' u hb hu=>(Heap.get?_update_other s.heap (Obj.mapSeq f) (Ne.symm hb)).trans hu) ⟨_,q⟩ ?_
  exact ⟨hz,its',_,hv,q⟩
theorem Inv.lnew {its : List Value} {t' : Nat} (I : Inv X pins σ H s) (hv : Vals ys its) (hz : ys.length <= sizeLine) :
    Inv X pins σ (upd H s.heap.objs.size (.lst ys)) { s with heap:=s.heap.push { cls:=.type "list",data:=.seq its.toArray },toks:=t' }:=
  I.laid (fun _ _ q=>Heap.get?_push_of_some _ q) (Nat.le_refl _) ⟨hz,its,0,hv,Heap.get?_push_size _ rfl⟩
theorem Inv.fresh (I : Inv X pins σ H s) : H s.heap.objs.size = none:=I.hok.fresh (Nat.le_refl _)
theorem Inv.lstM (I : Inv X pins σ H s) (hH : H l = some (.lst xs)) : xs.length <= sizeLine /\ ∃ (its : List Value) (n : Nat),Vals xs its /\ xs.length = its.length /\ s.heap.get? l = some { cls:=.type "list",data:=.seq its.toArray n }:=by
  obtain ⟨z,its,n,r,e⟩:=I.hok l _ hH
  exact ⟨z,its,n,r,r.length,e⟩
theorem notLongL {n : Nat} (h : n <= sizeLine) : Builtin.List.listTooLong n = false:=by
  unfold Builtin.List.listTooLong
  exact decide_eq_false (by omega)
end
section
variable {X : Cx}
def rAppend : V -> List V -> Hp -> VK -> Prop:=fun x vs H Q=>∃ l xs y,x = .ref l /\ vs = [y] /\ H l = some (.lst xs) /\ xs.length < sizeLine /\ Q .non (upd H l (.lst (xs ++ [y])))
theorem mt_append : MtM X "list.append" rAppend:=by
  intro pins s σ H x vs v us Q I rx rv h
  obtain ⟨l,xs,y,rfl,rfl,hH,hz,q⟩:=h
  cases rx
  obtain ⟨u,rfl,ru⟩:=rv.one
  obtain ⟨z,its,n,r,hl,e⟩:=I.lstM hH
  refine call_meets F.slot_list_append ⟨_,e,rfl⟩ F.entry_list_append (F.args_list_append_2 _ _) (PySem.list_append l its.toArray n u (by rw [List.size_toArray]; omega)) ⟨e,?_⟩
  refine ⟨.non,_,I.lset (its':=its ++ [u]) hH e (by simp) (r.append (.cons ru .nil)) ?_,rfl,q⟩
  rw [List.length_append,List.length_singleton]
  omega
def rExtend : V -> List V -> Hp -> VK -> Prop:=fun x vs H Q=>∃ l b xs zs,x = .ref l /\ vs = [.ref b] /\ H l = some (.lst xs) /\ H b = some (.lst zs) /\ xs.length + zs.length <= sizeLine /\ Q .non (upd H l (.lst (xs ++ zs)))
theorem mt_extend : MtM X "list.extend" rExtend:=by
  intro pins s σ H x vs v us Q I rx rv h
  obtain ⟨l,b,xs,zs,rfl,rfl,hH,hB,hz,q⟩:=h
  cases rx
  obtain ⟨u,rfl,ru⟩:=rv.one
  cases ru
  obtain ⟨z,its,n,r,hl,e⟩:=I.lstM hH
  obtain ⟨z2,its2,n2,r2,hl2,e2⟩:=I.lstM hB
  have hsz : its.toArray.size + its2.toArray.size <= sizeLine:=by rw [List.size_toArray,List.size_toArray]; omega
  have hlong : ¬ (!its.toArray.isEmpty && Builtin.List.listTooLong (its.toArray.size + its2.toArray.size)) = true:=by
    rw [notLongL hsz,Bool.and_false]
    exact Bool.false_ne_true
  refine call_meets F.slot_list_extend ⟨_,e,rfl⟩ F.entry_list_extend (F.args_list_extend_2 _ _)
    (AutoSeq1.list_extend_list_list_0 l its.toArray n b its2.toArray n2 hlong (by rw [List.size_toArray]; omega) (by omega)) ⟨e,e2,?_⟩
  refine ⟨.non,_,I.lset (its':=its ++ its2) hH e (by simp) (r.append r2) ?_,rfl,q⟩
  rw [List.length_append]
  omega
def rPop : V -> List V -> Hp -> VK -> Prop:=fun x vs H Q=>∃ l xs y,x = .ref l /\ vs = [] /\ H l = some (.lst xs) /\ xs[xs.length - 1]? = some y /\ Q y (upd H l (.lst xs.dropLast))
theorem mt_pop : MtM X "list.pop" rPop:=by
  intro pins s σ H x vs v us Q I rx rv h
  obtain ⟨l,xs,y,rfl,rfl,hH,hy,q⟩:=h
  cases rx
  have hus:=rv.zero
  subst hus
  obtain ⟨z,its,n,r,hl,e⟩:=I.lstM hH
  obtain ⟨u,hu,ru⟩:=r.get hy
  have hy' : its.toArray[its.toArray.size - 1]? = some u:=by
    show its.toArray[its.length - 1]? = some u
    rw [<- Array.getElem?_toList,<- hl]
    exact hu
  refine call_meets F.slot_list_pop ⟨_,e,rfl⟩ F.entry_list_pop (F.args_list_pop_1 _) (MeetsSeq.list_pop_last l its.toArray n u hy' (by rw [List.size_toArray]; omega)) ⟨e,?_⟩
  refine ⟨y,_,I.lset (its':=its.dropLast) hH e ?_ r.dropLast ?_,ru,q⟩
  · show its.toArray.eraseIdxIfInBounds (its.toArray.size - 1) = its.dropLast.toArray
    rw [List.size_toArray,List.eraseIdxIfInBounds_toArray,erase_last]
  · rw [List.length_dropLast]
    omega
def rPopAt : V -> List V -> Hp -> VK -> Prop:=fun x vs H Q=>∃ l xs i k y,x = .ref l /\ vs = [.int i] /\ H l = some (.lst xs) /\ -(2 ^ 63) <= i /\ i < 2 ^ 63 /\ seqIndex? i xs.length = some k /\ xs[k]? = some y /\ Q y (upd H l (.lst (xs.eraseIdx k)))
theorem mt_popAt : MtM X "list.pop" rPopAt:=by
  intro pins s σ H x vs v us Q I rx rv h
  obtain ⟨l,xs,i,k,y,rfl,rfl,hH,h1,h2,hk,hy,q⟩:=h
  cases rx
  obtain ⟨u,rfl,ru⟩:=rv.one
  obtain ⟨t,rfl⟩:=ru
  obtain ⟨z,its,n,r,hl,e⟩:=I.lstM hH
  obtain ⟨w,hw,rw'⟩:=r.get hy
  refine call_meets F.slot_list_pop ⟨_,e,rfl⟩ F.entry_list_pop (F.args_list_pop_2 _ _)
    (MeetsSeq.list_pop_at l its.toArray n i t k w (fitsIndex_both h1 h2) (by rw [List.size_toArray,<- hl]; exact hk) (by rw [<- Array.getElem?_toList]; exact hw) (by rw [List.size_toArray]; omega)) ⟨e,?_⟩
  refine ⟨y,_,I.lset (its':=its.eraseIdx k) hH e ?_ (r.eraseIdx k) ?_,rw',q⟩
  · show its.toArray.eraseIdxIfInBounds k = (its.eraseIdx k).toArray
    rw [List.eraseIdxIfInBounds_toArray]
  · have:=len_erase xs k
    omega
def rCat : R2:=fun x y H Q=>∃ l b xs zs,x = .ref l /\ y = .ref b /\ H l = some (.lst xs) /\ H b = some (.lst zs) /\ xs.length + zs.length <= sizeLine /\ ∀ p,H p = none -> Q (.ref p) (upd H p (.lst (xs ++ zs)))
theorem op_cat : OpR X (binaryOp .Add) rCat:=by
  intro pins s σ H x y v u Q I rx ry h
  obtain ⟨l,b,xs,zs,rfl,rfl,hH,hB,hz,q⟩:=h
  cases rx
  cases ry
  obtain ⟨z,its,n,r,hl,e⟩:=I.lstM hH
  obtain ⟨z2,its2,n2,r2,hl2,e2⟩:=I.lstM hB
  refine PySem.P.add_list e e2 ?_ (by rw [List.size_toArray,List.size_toArray]; omega)
  have ea : its.toArray ++ its2.toArray = (its ++ its2).toArray:=by simp
  rw [ea]
  exact ⟨.ref _,_,I.lnew (t':=s.toks) (r.append r2) (by rw [List.length_append]; omega),rfl,q _ I.fresh⟩
def rRep : R2:=fun x y H Q=>∃ l k xs,x = .ref l /\ y = .int k /\ H l = some (.lst xs) /\ -(2 ^ 63) <= k /\ k < 2 ^ 63 /\ xs.length * k.toNat <= sizeLine /\
  ∀ p,H p = none -> Q (.ref p) (upd H p (.lst (List.replicate k.toNat xs).flatten))
theorem len_rep {α : Type} (xs : List α) (k : Nat) : (List.replicate k xs).flatten.length = k * xs.length:=by
  induction k with
  | zero=>simp
  | succ k ih=>rw [List.replicate_succ,List.flatten_cons,List.length_append,ih,Nat.succ_mul,Nat.add_comm]
theorem op_rep : OpR X (binaryOp .Mult) rRep:=by
  intro pins s σ H x y v u Q I rx ry h
  obtain ⟨l,k,xs,rfl,rfl,hH,h1,h2,hz,q⟩:=h
  cases rx
  obtain ⟨t,rfl⟩:=ry
  obtain ⟨z,its,n,r,hl,e⟩:=I.lstM hH
  have hlen : its.toArray.size * k.toNat <= sizeLine:=by rw [List.size_toArray,<- hl]; exact hz
  have hcap : ¬ its.toArray.size * k.toNat > (2 ^ 63 - 1) / 8:=by
    have : (sizeLine : Nat) <= (2 ^ 63 - 1) / 8:=by decide
    omega
  have hfit : ¬ (!Builtin.List.listFitsIndex k) = true:=by
    rw [fitsIndex_both h1 h2]
    exact Bool.false_ne_true
  have hlong : ¬ Builtin.List.listTooLong (its.toArray.size * k.toNat) = true:=by
    rw [notLongL hlen]
    exact Bool.false_ne_true
  have hnew : List.foldl (fun x1 x2=>x1 ++ x2) #[] (List.replicate (if its.toArray.isEmpty = true then 0 else k.toNat) its.toArray) = (List.replicate k.toNat its).flatten.toArray:=by
    have f0 : ∀ m : Nat,List.foldl (fun x1 x2=>x1 ++ x2) #[] (List.replicate m its.toArray) = (List.replicate m its).flatten.toArray:=fun m=>by
      have:=foldl_rep its m []
      rw [List.nil_append] at this
      exact this
    rw [f0]
    cases its with
    | nil=>simp
    | cons a r'=>rw [if_neg (by simp)]
  refine wpAny_binaryOp_repeat_ref (T := "list") (U := "int") (by decide) ⟨_,e,rfl⟩ (fun s'=>typeIs_int s' k t) noFill_list_mul F.fills_int_mul F.slot_int_rmul repeat_list F.slot_int_index.lookup
    (call_meets F.slot_int_rmul (typeIs_int s k t) F.entry_int_rmul (F.args_int_rmul_2 _ _) (int___rmul___int_list k t l its.toArray n)
      ⟨e,rfl,⟨_,e,rfl⟩,call_meets F.slot_list_mul ⟨_,e,rfl⟩ F.entry_list_mul (F.args_list_mul_2 _ _) (AutoListH.list___mul___list_int_3 l its.toArray n k t hfit hcap hlong) ⟨e,?_⟩⟩)
  rw [hnew]
  exact ⟨.ref _,_,I.lnew (t':=s.toks) (r.rep k.toNat) (by rw [len_rep,Nat.mul_comm]; exact hz),rfl,q _ I.fresh⟩
end
section
variable {prog : Program} {w : World} {A : Around} {E : Value -> Shared -> Prop} {s : Shared}
end
section
variable {X : Cx}
end
end L2
namespace Att
open PySem PySem.W PySem.Calls PyProof.Rows
theorem ints_of_wellAll {P : Params} {h : Heap} : ∀ (ns : List Int) (vs : List Value),WellAll P h vs (ns.map WData.int) -> IntsAre vs ns:=by
  intro ns
  induction ns with
  | nil=>
    intro vs w
    rw [List.map_nil] at w
    cases w
    exact .nil
  | cons n ns ih=>
    intro vs w
    rw [List.map_cons] at w
    cases w with
    | cons a b=>
      cases a
      exact .cons _ _ (ih _ b)
theorem script_of {l : OpenLaw} {n : Nat} (hn : l.most = some n) {P : Params} {h : Heap} {args : List WData} {vals : List Value}
    (hpre : l.row.toRowW.claim.pre args = true) (hwl : WellAll P h vals args) :
    ∃ a vs ns,vals = [Value.ref a] /\ args = [WData.list (ns.map WData.int)] /\ h.get? a = some { cls:=.type "list",data:=.seq vs.toArray } /\ IntsAre vs ns /\ ns.length <= n:=by
  have hsh : WShape.hasAll [] args [.list .int] = true:=(pre_splitW hpre).1
  have hc : l.pre.holds [] { args:=args } = true:=(pre_splitW hpre).2
  obtain ⟨d,r,rfl,h1,h2⟩:=hasAllW_cons hsh
  obtain rfl:=hasAllW_nil h2
  obtain ⟨xs,rfl,h3⟩:=hasW_list h1
  obtain ⟨ns,rfl⟩:=items_int h3
  have hlen : ns.length <= n:=by
    unfold OpenLaw.pre at hc
    have h4 : (WTm.not (.lt (.lit (.int (n : Int))) (.len (.arg 0)))).holds [] { args:=[.list (ns.map .int)] } = true:=by
      have h4:=(holds_andW hc).1
      rw [hn] at h4
      exact h4
    have h5:=condW_of h4 (w_not (w_lt w_lit (w_len_list (w_arg rfl))))
    rw [List.length_map] at h5
    refine Nat.le_of_not_lt fun q=>?_
    have q' : (n : Int) < ((ns.length : Nat) : Int):=by omega
    first
      | (rw [decide_eq_true q'] at h5; exact absurd h5 (by decide))
      | (simp at h5; omega)
  cases hwl with
  | cons w1 w2=>
    cases w2
    cases w1 with
    | list ho hall=>exact ⟨_,_,ns,rfl,rfl,ho,ints_of_wellAll ns _ hall,hlen⟩
theorem post_true (l : OpenLaw) (args : List WData) : l.row.toRowW.claim.post args (.bool true) args = true:=
  postW_of (r:=l.row.toRowW) (X:=(true == true))
    (show WShape.has [] (.bool true) .bool = true by first | rfl | decide | simp [WShape.has,WShape.arms,WShape.armsAll])
    (show (WTm.eq .res (.lit (.bool true))).value [] { args:=args,res:=some (.bool true),after:=args } = some (.bool (true == true)) from w_eq_bool (w_res rfl) w_lit) rfl
theorem attach_call {l : OpenLaw} {n : Nat} {q : Program} {loose : List Str} {XP : (Str -> Option Value) -> Heap -> Prop} {YP : World -> Heap -> Prop} {d : DefRec}
    (hn : l.most = some n) (hdf : d.params.defaults = [])
    (call : ∀ (w : World) (s₀ s₁ : Shared) (mg mb : Str -> Option Value) (fa : Addr) (o : Obj) (pm cd doc : Value) (a : Addr) (vs : List Value) (ns : List Int),
      Ground q loose [] XP w s₀ mg mb s₁.heap -> YP w s₁.heap ->
      s₁.heap.get? fa = some o -> o.data = .func (docDef d.name d.params d.body d.scope pm cd doc) -> s₁.heap.CodeRec cd d.name -> mg d.name = some (.ref fa) ->
      s₁.heap.get? a = some { cls:=.type "list",data:=.seq vs.toArray } -> IntsAre vs ns -> ns.length <= n -> s₁.gens = #[] ->
      codeAny (model l.prog w) callerA (.call (.ref fa) ⟨[.ref a],[]⟩) (fun r s'=>r = .ok (.ret (.bool true)) /\ OldK s₁.heap s'.heap /\ s'.os = s₁.os /\ AllBare s'.gens) s₁) :
    WalkO q loose XP YP l.row.toRowW d [] (fun f vs=>PySem.call f vs):=by
  intro w s₀ s₁ mg mb G Y fa o pm cd doc dV kV ho hd hcd hD hmg hg args vals as hpre hlay hrd hwl hlo
  obtain rfl : dV = .none:=Dflts.none hD hdf
  obtain rfl : kV = .none:=Dflts.noKw hD
  obtain ⟨a,vs,ns,rfl,rfl,hobj,hints,hlen⟩:=script_of hn hpre hwl
  refine enter_call (codeAny_mono (call w s₀ s₁ mg mb fa o pm cd doc a vs ns G Y ho (fd_plain hd) hcd hmg hobj hints hlen hg) fun r s' hq=>?_)
  obtain ⟨rfl,h2,h3,h4⟩:=hq
  exact ⟨.inl ⟨.bool true,.bool true,[],rfl,fun _=>rfl,.bool true,post_true l _,fun _=>⟨List.Pairwise.nil,fun _ hm=>(nomatch hm)⟩⟩,h2,h3,h4⟩
section
variable {prog : Program} {w : World} {A : Around} {E : Value -> Shared -> Prop} {s : Shared} {K : Frag}
end
end Att
namespace L2
open PySem PySem.Spec PyProof.Rows
theorem vals_ints : ∀ {vs : List Value} {ns : List Int},IntsAre vs ns -> Vals (ns.map V.int) vs
  | _,_,.nil=>.nil
  | _,_,.cons n t h=>.cons ⟨t,rfl⟩ (vals_ints h)
def Only (H : Hp) : Prop:=∀ b,H b = none \/ ∃ o xs,H b = some (.frz o (.lst xs))
theorem law_call {P : Program} {w : World} {K : PySem.W.Frag} {mg mb : Str -> Option Value} {CX : CXT} {k : Nat} {fa a : Addr} {fd : FuncData} {x : Str} {sp : Sp} {s₁ : Shared} {vs : List Value} {ns : List Int}
    (KX : K.In s₁.heap) (hns : s₁.heap.Ns mainGlobals mg) (hb : s₁.heap.Ns builtinsNs mb) (hbb : ∀ x : Str,x ≠ "__name__" -> mb x = bootBuiltins x) (hlim : s₁.heap.NoLimit) (hg : s₁.gens = #[])
    (ha : s₁.heap.get? a = some { cls:=.type "list",data:=.seq vs.toArray }) (hi : IntsAre vs ns) (hl : ns.length <= sizeLine) (hr : Room k callerA)
    (F : ∀ base : Heap,K.In base -> base.Ns mainGlobals mg -> FnOk P w K mg base CX k fa fd [x] sp) (hbind : ∀ (s : Shared) (u : Value),BindsTo s fd ⟨[u],[]⟩ [(x,u)])
    (hsp : ∀ H : Hp,Only H -> SqL K H a (ns.map V.int) -> sp [.ref a] H (fun v _=>v = .bl true) fun _ _ _=>False)
    (hCX : ∀ H e s',CX [] H s₁ (fun _ _ _=>False) e s' -> False) :
    codeAny (model P w) callerA (.call (.ref fa) ⟨[.ref a],[]⟩) (fun r s'=>r = .ok (.ret (.bool true)) /\ OldK s₁.heap s'.heap /\ s'.os = s₁.os /\ AllBare s'.gens) s₁:=by
  have rv:=vals_ints hi
  have lenV:=hi.length
  have core : ∀ H : Hp,Only H -> SqL K H a (ns.map V.int) -> HOk P w H s₁.heap -> (∀ b,H b ≠ none -> b = a) -> (H a ≠ none -> K.lookup a = none) ->
      codeAny (model P w) callerA (.call (.ref fa) ⟨[.ref a],[]⟩) (fun r s'=>r = .ok (.ret (.bool true)) /\ OldK s₁.heap s'.heap /\ s'.os = s₁.os /\ AllBare s'.gens) s₁:=by
    intro H hO hS hok hA hK
    have base_of : ∀ {b : Addr} {o : Obj},s₁.heap.get? b = some o -> H b = none -> (hidT s₁.heap H).get? b = some o:=fun e n=>hidT_get e n
    have noA : ∀ {b : Addr} {o : Obj} {es : Array DictEntry} {ep : Nat},s₁.heap.get? b = some o -> o.data = .dict es ep -> H b = none:=fun {b o es ep} e d=>by
      cases q : H b with
      | none=>rfl
      | some u=>
        have e' : b = a:=hA b (by rw [q]; simp)
        subst e'
        rw [ha] at e; cases e
        have d' : Data.seq vs.toArray _ = Data.dict es ep:=d
        cases d'
    have nsK : ∀ {b : Addr} {m : Str -> Option Value},s₁.heap.Ns b m -> (hidT s₁.heap H).Ns b m:=fun {b m} ⟨o,es,ep,e,d,r⟩=>⟨o,es,ep,base_of e (noA e d),d,r⟩
    have hKb : K.In (hidT s₁.heap H):=fun b o e=>base_of (KX b o e) (by
      cases q : H b with
      | none=>rfl
      | some u=>
        have e' : b = a:=hA b (by rw [q]; simp)
        subst e'
        rw [hK (by rw [q]; simp)] at e; cases e)
    have hM : Mod K mg (hidT s₁.heap H):=⟨hKb,nsK hns,⟨mb,nsK hb,hbb⟩,let ⟨mc,h1,h2⟩:=hlim; ⟨mc,nsK h1,h2⟩⟩
    have e0 : Env0 P w K mg (hidT s₁.heap H) callerA [] s₁ H:=⟨rfl,hM,fun b o e=>of_hidT e,Nat.le_of_eq (hidT_size _ _),trivial,fun b hb=>absurd (show b ∈ ([] : List Addr) from hb) (by simp),hok,.of_eq hg⟩
    refine codeAny_mono ((F _ hKb (nsK hns)).run callerA [] s₁ H ⟨[.ref a],[]⟩ [.ref a] [.ref a] _ _ hr e0 (hbind s₁ (.ref a)) (.cons rfl .nil) (hsp H hO hS)) fun r s' h=>?_
    cases r with
    | error e=>exact (hCX H e s' h).elim
    | ok fl=>
      cases fl with
      | next=>exact False.elim h
      | brk=>exact False.elim h
      | cont=>exact False.elim h
      | ret u=>
        obtain ⟨v,H',os,bare,un,hok',r',q⟩:=h
        have q' : v = .bl true:=q
        subst q'
        obtain rfl : u = Value.bool true:=r'
        refine ⟨rfl,OldK.of_keep fun b o e=>?_,os,bare⟩
        cases q : H b with
        | none=>exact un.keep b o e q (by intro z; exact absurd (show b ∈ ([] : List Addr) from z) (by simp)) (by simp)
        | some u=>
          rcases hO b with z | ⟨ob,xs,z⟩
          · rw [q] at z; cases z
          · have z2:=un.frzs b ob _ z
            obtain ⟨e1,_⟩:=hok b _ z
            obtain ⟨e2,_⟩:=hok' b _ z2
            rw [e] at e1; cases e1
            exact e2
  cases hk : K.lookup a with
  | some o=>
    have e:=KX a o hk
    rw [ha] at e
    cases e
    refine core (fun _=>none) (fun _=>.inl rfl) (.inr ⟨_,vs.toArray,_,hk,rfl,rfl,rfl,by rw [List.size_toArray,lenV]; exact hl,by simpa using rv⟩) (fun b u z=>by have z' : (none : Option HO) = some u:=z; cases z') (fun b z=>absurd rfl z) fun z=>absurd rfl z
  | none=>
    refine core (fun b=>if b = a then some (.frz { cls:=.type "list",data:=.seq vs.toArray } (.lst (ns.map V.int))) else none) (fun b=>?_) (.inl (.inr ⟨{ cls:=.type "list",data:=.seq vs.toArray },if_pos rfl⟩)) (fun b u z=>?_) (fun b z=>?_) fun _=>hk
    · by_cases hb : b = a
      · exact .inr ⟨_,_,if_pos hb⟩
      · exact .inl (if_neg hb)
    · by_cases hb : b = a
      · have z':=(if_pos hb).symm.trans z
        cases z'
        subst hb
        exact ⟨ha,by rw [List.length_map]; exact hl,vs,_,rv,ha⟩
      · have z':=(if_neg hb).symm.trans z
        cases z'
    · by_cases hb : b = a
      · exact hb
      · exact absurd (if_neg hb) z
end L2
namespace L2
open PySem PySem.Spec PyProof.Rows
theorem walk_of {l : PySem.W.OpenLaw} {n k : Nat} {q : Program} {loose : List Str} {XP : (Str -> Option Value) -> Heap -> Prop} {YP : World -> Heap -> Prop} {d : DefRec} {K : Params -> PySem.W.Frag} {CX : World -> CXT} {sp : World -> Sp} {x : Str}
    (hn : l.most = some n) (hn2 : n <= sizeLine) (hdf : d.params.defaults = []) (hr : Room k callerA)
    (hY : ∀ (w : World) (h : Heap),YP w h -> (K w.params).In h)
    (F : ∀ (w : World) (mg : Str -> Option Value) (fa : Addr) (h : Heap),(K w.params).In h -> h.Ns mainGlobals mg -> mg d.name = some (.ref fa) ->
      ∃ fd : FuncData,(∀ (s : Shared) (u : Value),BindsTo s fd ⟨[u],[]⟩ [(x,u)]) /\
        ∀ base : Heap,(K w.params).In base -> base.Ns mainGlobals mg -> FnOk l.prog w (K w.params) mg base (CX w) k fa fd [x] (sp w))
    (hsp : ∀ (w : World) (H : Hp) (a : Addr) (ns : List Int),ns.length <= n -> Only H -> SqL (K w.params) H a (ns.map V.int) -> sp w [.ref a] H (fun v _=>v = .bl true) fun _ _ _=>False)
    (hCX : ∀ (w : World) (H : Hp) (s : Shared) (e : Value) (s' : Shared),CX w [] H s (fun _ _ _=>False) e s' -> False) :
    PySem.W.WalkO q loose XP YP l.row.toRowW d [] (fun f vs=>PySem.call f vs):=by
  refine Att.attach_call hn hdf fun w s₀ s₁ mg mb fa o pm cd doc a vs ns G Y ho hd hcd hmg hobj hints hlen hg=>?_
  have KX:=hY w _ Y
  obtain ⟨fd,hb,hF⟩:=F w mg fa _ KX G.T.g hmg
  exact law_call KX G.T.g G.T.b G.T.builtins G.T.nolimit hg hobj hints (Nat.le_trans hlen hn2) hr hF hb (fun H hO hS=>hsp w H a ns hlen hO hS) fun H e s'=>hCX w H s₁ e s'
end L2
namespace L2
open PySem PySem.Spec PyProof.Rows
def defArgs (s : Stmt) : Arguments:=match s with
  | .FunctionDef _ a _ _ _ _ _ _ _ _=>a
  | _=>{ posonlyargs:=[],args:=[],vararg:=none,kwonlyargs:=[],kw_defaults:=[],kwarg:=none,defaults:=[] }
def defBody (s : Stmt) : List Stmt:=match s with
  | .FunctionDef _ _ b _ _ _ _ _ _ _=>b
  | _=>[]
def defScope (s : Stmt) : Scope:=match s with
  | .FunctionDef _ _ _ _ _ _ sc _ _ _=>sc
  | _=>{ kind:=.function,names:=[],isGenerator:=false,isCoroutine:=false }
abbrev E0 : XK:=fun _ _ _=>False
structure Fun (K : PySem.W.Frag) (x qual : Str) (st : Stmt) (f : Addr) (fd : FuncData) : Prop where
  ex : ∃ (oc : Value) (od : Option Addr) (kV doc pm : Value) (an : Option Addr) (cdv ct : Value) (osl : Array (Option Value)),
    fd = PySem.W.fnOf x qual (defArgs st) (defBody st) (defScope st) .none kV doc pm an cdv ct /\ K.lookup f = some ⟨oc,od,.func fd,osl⟩ /\ PySem.W.codeIn K cdv qual = true
  kp : PySem.W.keepIn K (.ref f) = true
section
variable {P : Program} {w : World} {K : PySem.W.Frag} {mg : Str -> Option Value} {base : Heap}
theorem Fun.binds {x qual : Str} {st : Stmt} {f : Addr} {fd : FuncData} {ps : List Str} (F : Fun K x qual st f fd)
    (h : ∀ (kV doc pm : Value) (an : Option Addr) (cdv ct : Value) (us : List Value),us.length = ps.length -> bindArgs (PySem.W.fnOf x qual (defArgs st) (defBody st) (defScope st) .none kV doc pm an cdv ct) ⟨us,[]⟩ = pure (ps.zip us)) : Binds K fd ps []:=by
  obtain ⟨oc,od,kV,doc,pm,an,cdv,ct,osl,rfl,lk,hcd⟩:=F.ex
  exact .all (h kV doc pm an cdv ct)
theorem fun_mk {x qual : Str} {st : Stmt} {f : Addr} {oc : Value} {od an : Option Addr} {osl : Array (Option Value)} {kV doc pm cdv ct : Value} (l : K.lookup f = some ⟨oc,od,.func (PySem.W.fnOf x qual (defArgs st) (defBody st) (defScope st) .none kV doc pm an cdv ct),osl⟩)
    (c : PySem.W.codeIn K cdv qual = true) (k : PySem.W.keepIn K (.ref f) = true) : Fun K x qual st f (PySem.W.fnOf x qual (defArgs st) (defBody st) (defScope st) .none kV doc pm an cdv ct):=⟨⟨oc,od,kV,doc,pm,an,cdv,ct,osl,rfl,l,c⟩,k⟩
end
section
variable {X : Cx}
theorem pv (i : Nat) {x : Str} {pos : Pos} (hN : X.N[i]? = some x:=by rfl) (hv : Vis X.env.scope x:=by first | exact Or.inl rfl | exact Or.inr (Or.inl rfl) | exact Or.inr (Or.inr rfl)) (hd : (x == ("__debug__" : Str)) = false:=by decide)
    (hcd : (x == ("__classdict__" : Str)) = false:=by decide) : PE X (.Name x pos) (tVar i):=pe_var hN hv hd hcd
end
def Same (H H' : Hp) : Prop:=∀ b o,H b = some o -> H' b = some o
theorem Same.refl (H : Hp) : Same H H:=fun _ _ h=>h
end L2
namespace L2
open PySem PySem.Spec PyProof.Rows
section
variable {X : Cx} {tg : Expr}
end
end L2
namespace L2
open PySem PySem.Spec PyProof.Rows
theorem closure_of {scope : Scope} {env : Env} (h : ∀ x ∈ scope.names,x.2 = .free -> ∃ c,env.cells.lookup x.1 = some c) :
    ∃ cl,closureFor scope env = pure cl /\ (∀ x c,cl.lookup x = some c -> env.cells.lookup x = some c) /\ (∀ x ∈ scope.names,x.2 = .free -> ∃ c,cl.lookup x.1 = some c):=by
  have key : ∀ (l : List (Str × NameKind)) (acc : List (Str × Addr)),(∀ x ∈ l,x.2 = .free -> ∃ c,env.cells.lookup x.1 = some c) -> (∀ x c,acc.lookup x = some c -> env.cells.lookup x = some c) ->
      ∃ cl,(forIn l acc fun (x : Str × NameKind) (r : List (Str × Addr))=>(match x with
        | (name,kind)=>if (kind == NameKind.free) = true then (do let c <- cellOf env name; pure (ForInStep.yield ((name,c) :: r))) else (do pure PUnit.unit; pure (ForInStep.yield r)) : Sem (ForInStep (List (Str × Addr))))) = pure cl /\
        (∀ x c,cl.lookup x = some c -> env.cells.lookup x = some c) /\ (∀ x ∈ l,x.2 = .free -> ∃ c,cl.lookup x.1 = some c) /\ (∀ x c,acc.lookup x = some c -> ∃ c',cl.lookup x = some c'):=by
    intro l
    induction l with
    | nil=>intro acc _ ha; exact ⟨acc,rfl,ha,fun x hx=>(by simp at hx),fun x c e=>⟨c,e⟩⟩
    | cons x r ih=>
      intro acc hl ha
      obtain ⟨n,k⟩:=x
      by_cases hk : k = .free
      · subst hk
        obtain ⟨c,hc⟩:=hl (n,.free) List.mem_cons_self rfl
        have ha' : ∀ x c',((n,c) :: acc).lookup x = some c' -> env.cells.lookup x = some c':=fun x c' e=>by
          rw [List.lookup_cons] at e
          by_cases hx : x = n
          · subst hx; simp at e; rw [<- e]; exact hc
          · have : (x == n) = false:=by simpa using hx
            rw [this] at e; exact ha x c' e
        obtain ⟨cl,e1,e2,e3,e4⟩:=ih ((n,c) :: acc) (fun y hy=>hl y (List.mem_cons_of_mem _ hy)) ha'
        refine ⟨cl,?_,e2,fun y hy hf=>?_,fun y c' e=>?_⟩
        · rw [List.forIn_cons]
          have hcell : cellOf env n = pure c:=by unfold cellOf; rw [hc]
          simp only [beq_self_eq_true,if_true,hcell]
          exact e1
        · rcases List.mem_cons.mp hy with e | hy
          · subst e
            exact e4 n c (by simp)
          · exact e3 y hy hf
        · by_cases hy : y = n
          · subst hy; exact e4 y c (by simp)
          · have : (y == n) = false:=by simpa using hy
            exact e4 y c' (by rw [List.lookup_cons,this]; exact e)
      · obtain ⟨cl,e1,e2,e3,e4⟩:=ih acc (fun y hy=>hl y (List.mem_cons_of_mem _ hy)) ha
        refine ⟨cl,?_,e2,fun y hy hf=>?_,e4⟩
        · rw [List.forIn_cons]
          have : (k == NameKind.free) = false:=by simpa using hk
          simp only [this,Bool.false_eq_true,if_false]
          exact e1
        · rcases List.mem_cons.mp hy with e | hy
          · subst e; exact absurd hf hk
          · exact e3 y hy hf
  obtain ⟨cl,e1,e2,e3,_⟩:=key scope.names [] h (fun x c e=>by simp at e)
  refine ⟨cl,?_,e2,e3⟩
  unfold closureFor
  exact (congrArg (fun z=>z >>= pure) e1).trans rfl
theorem lookup_relab (f : Str -> NameKind -> NameKind) (x : Str) : ∀ l : List (Str × NameKind),(l.map fun y=>(y.1,f y.1 y.2)).lookup x = (l.lookup x).map (f x)
  | []=>rfl
  | (n,k) :: r=>by
    have ih:=lookup_relab f x r
    rw [List.map_cons,List.lookup_cons,List.lookup_cons]
    by_cases hx : x = n
    · subst hx; simp
    · have hb : (x == n) = false:=by simpa using hx
      rw [hb]; exact ih
theorem relabel_lookup {scope : Scope} {env : Env} {x : Str} : (relabel scope env).names.lookup x =
    (scope.names.lookup x).map fun k=>if (k == .free && env.scope.kind == .function && env.kindOf x == some .cell) then .cell else k:=by
  rw [<- lookup_relab (fun n k=>if (k == .free && env.scope.kind == .function && env.kindOf n == some .cell) then .cell else k)]
  unfold relabel
  refine congrArg (List.lookup x) (List.map_congr_left fun y _=>?_)
  obtain ⟨n,k⟩:=y
  show (if (k == NameKind.free && env.scope.kind == .function && env.kindOf n == some .cell) = true then (n,NameKind.cell) else (n,k)) = _
  split <;> rfl
def capOf (cap : List (Option Nat)) (σ : St) : St:=cap.map fun c=>c.bind fun j=>(σ[j]?).join
section
variable {prog : Program} {w : World} {A : Around} {R : Result -> Shared -> Prop} {s : Shared}
end
section
variable {X : Cx}
end
end L2
namespace L2
open PySem PySem.Spec PyProof.Rows
def HasItems (t : Bool) (h : Heap) (a : Addr) (items : Array Value) : Prop:=if t = true then h.IsTuple a items else h.IsList a items
def IterAt (t : Bool) (h : Heap) (it a : Addr) (i : Nat) : Prop:=if t = true then h.IsTupleIter it a i else h.IsListIter it a i
theorem HasItems.at {t : Bool} {h h' : Heap} {a : Addr} {items : Array Value} (x : HasItems t h a items) (k : ∀ o,h.get? a = some o -> h'.get? a = some o) : HasItems t h' a items:=by
  cases t
  · exact Heap.IsList.at x k
  · obtain ⟨o,e,r⟩:=x
    exact ⟨o,k o e,r⟩
theorem HasItems.there {t : Bool} {h : Heap} {a : Addr} {items : Array Value} (x : HasItems t h a items) : ∃ o,h.get? a = some o:=by
  cases t
  · obtain ⟨o,e,_⟩:=x; exact ⟨o,e⟩
  · obtain ⟨o,e,_⟩:=x; exact ⟨o,e⟩
theorem IterAt.at {t : Bool} {h h' : Heap} {it a : Addr} {i : Nat} (x : IterAt t h it a i) (k : ∀ o,h.get? it = some o -> h'.get? it = some o) : IterAt t h' it a i:=by
  cases t
  · exact Heap.IsListIter.at x k
  · obtain ⟨o,e,r⟩:=x
    exact ⟨o,k o e,r⟩
theorem IterAt.there {t : Bool} {h : Heap} {it a : Addr} {i : Nat} (x : IterAt t h it a i) : ∃ o,h.get? it = some o /\ ∀ v,o.data ≠ .cell v:=by
  cases t
  · obtain ⟨o,e,_,d⟩:=x; exact ⟨o,e,fun v z=>by rw [d] at z; cases z⟩
  · obtain ⟨o,e,_,d⟩:=x; exact ⟨o,e,fun v z=>by rw [d] at z; cases z⟩
section
variable {prog : Program} {w : World} {A : Around} {E : Value -> Shared -> Prop} {s : Shared}
theorem nextOf_tuple_item {it l : Addr} {i : Nat} {items} {x : Value} {Q : Value -> Shared -> Prop} (hit : s.heap.IsTupleIter it l i)
    (hl : s.heap.IsTuple l items) (hx : items[i]? = some x)
    (hQ : ∀ h',h'.IsTupleIter it l (i + 1) -> Heap.SameBut it s.heap h' -> Q x { s with heap:=h' }) :
    wpAny (model prog w) A (Builtin.SmallTypes.nextOf (.ref it)) Q E s:=by
  obtain ⟨o,ho,hc,hd⟩:=id hit
  obtain ⟨ol,hol,_,nl,hdl⟩:=hl
  unfold Builtin.SmallTypes.nextOf
  refine wpAny_bind (wpAny_callSpecial?_slot (name:=Str.ofString "__next__") hit.typeIs F.slot_tuple_iterator_next
    (wpAny_call_entry F.slot_tuple_iterator_next hit.typeIs F.entry_tuple_iterator_next ?_ (F.args_tuple_iterator_next_1 _)))
  show wpAny _ _ (field (.ref it) 0 >>= _) _ _ s
  refine wpAny_bind (wpAny_field ho hd (x:=.ref l) rfl ?_)
  show wpAny _ _ (if (Value.ref l == Value.none) = true then _ else _) _ _ s
  rw [if_neg (show ¬ ((Value.ref l == Value.none) = true) from Bool.false_ne_true)]
  show wpAny _ _ (field (.ref it) 1 >>= _) _ _ s
  refine wpAny_bind (wpAny_field ho hd (x:=.int i 0) rfl ?_)
  show wpAny _ _ (seqItems? (.ref l) >>= _) _ _ s
  refine wpAny_bind (wpAny_seqItems hol hdl ?_)
  simp only [Int.toNat_natCast,hx]
  refine wpAny_bind (wpAny_setField ho hd (by simp) (wpAny_pure ⟨x,rfl,wpAny_pure (hQ _ ?_ (Heap.SameBut.update ..))⟩))
  exact ⟨_,Heap.get?_update_self _ ho (Obj.isFreed_of_fields (Obj.data_mapFields hd _)),(Obj.cls_mapFields ..).trans hc,by
    rw [Obj.data_mapFields hd]; simp [rawInt]⟩
theorem nextOf_tuple_end {it l : Addr} {i : Nat} {items} {Q : Value -> Shared -> Prop} (hh : A.handled = none)
    (hit : s.heap.IsTupleIter it l i) (hl : s.heap.IsTuple l items) (hx : items[i]? = none)
    (hE : ∀ h' e,Heap.ExtBut it s.heap h' -> (∃ o,h'.get? e = some o /\ o.cls = .type "StopIteration") -> E (.ref e) { s with heap:=h' }) :
    wpAny (model prog w) A (Builtin.SmallTypes.nextOf (.ref it)) Q E s:=by
  obtain ⟨o,ho,hc,hd⟩:=id hit
  obtain ⟨ol,hol,_,nl,hdl⟩:=hl
  unfold Builtin.SmallTypes.nextOf
  refine wpAny_bind (wpAny_callSpecial?_slot (name:=Str.ofString "__next__") hit.typeIs F.slot_tuple_iterator_next
    (wpAny_call_entry F.slot_tuple_iterator_next hit.typeIs F.entry_tuple_iterator_next ?_ (F.args_tuple_iterator_next_1 _)))
  show wpAny _ _ (field (.ref it) 0 >>= _) _ _ s
  refine wpAny_bind (wpAny_field ho hd (x:=.ref l) rfl ?_)
  show wpAny _ _ (if (Value.ref l == Value.none) = true then _ else _) _ _ s
  rw [if_neg (show ¬ ((Value.ref l == Value.none) = true) from Bool.false_ne_true)]
  show wpAny _ _ (field (.ref it) 1 >>= _) _ _ s
  refine wpAny_bind (wpAny_field ho hd (x:=.int i 0) rfl ?_)
  show wpAny _ _ (seqItems? (.ref l) >>= _) _ _ s
  refine wpAny_bind (wpAny_seqItems hol hdl ?_)
  simp only [Int.toNat_natCast,hx]
  refine wpAny_bind (wpAny_rule (wpAny_bind (wpAny_setField ho hd (by simp) ?_)))
  show wpAny _ _ (newExc (.type "StopIteration") [] >>= _) _ _ _
  refine wpAny_bind ?_
  simp only [newExc,newTuple]
  refine wpAny_bind (wpAny_newObj_type ?_ (by size_fits))
  refine wpAny_bind (m:=firstArgMember _ _) (wpAny_of_eq (a:=Value.none) (by first | rfl | (simp only [firstArgMember]; rfl)) ?_)
  refine wpAny_newObj_type ?_ (by size_fits)
  simp only [raiseNew]
  refine wpAny_bind (wpAny_handled ?_)
  first | rw [show A.in1.handled = none from hh] | rw [hh]
  refine wpAny_bind (wpAny_pure (wpAny_throw ?_))
  exact hE _ _ (((Heap.SameBut.update ..).extBut.push _).push _) ⟨_,Heap.get?_push_size _ rfl,rfl⟩
theorem nextOf_item {t : Bool} {it l : Addr} {i : Nat} {items : Array Value} {x : Value} {Q : Value -> Shared -> Prop} (hit : IterAt t s.heap it l i)
    (hl : HasItems t s.heap l items) (hx : items[i]? = some x)
    (hQ : ∀ h',IterAt t h' it l (i + 1) -> Heap.SameBut it s.heap h' -> Q x { s with heap:=h' }) :
    wpAny (model prog w) A (Builtin.SmallTypes.nextOf (.ref it)) Q E s:=by
  cases t
  · exact wpAny_nextOf_list_item hit hl hx hQ
  · exact nextOf_tuple_item hit hl hx hQ
theorem nextOf_end {t : Bool} {it l : Addr} {i : Nat} {items : Array Value} {Q : Value -> Shared -> Prop} (hh : A.handled = none)
    (hit : IterAt t s.heap it l i) (hl : HasItems t s.heap l items) (hx : items[i]? = none)
    (hE : ∀ h' e,Heap.ExtBut it s.heap h' -> (∃ o,h'.get? e = some o /\ o.cls = .type "StopIteration") -> E (.ref e) { s with heap:=h' }) :
    wpAny (model prog w) A (Builtin.SmallTypes.nextOf (.ref it)) Q E s:=by
  cases t
  · exact wpAny_nextOf_list_end hh hit hl hx hE
  · exact nextOf_tuple_end hh hit hl hx hE
def iterObj (t : Bool) (l : Addr) : Obj:=if t = true then { cls:=.type "tuple_iterator",data:=.fields #[.ref l,.int 0 0] } else { cls:=.type "list_iterator",data:=.fields #[.ref l,.int 0 0] }
theorem pyIter_seq {t : Bool} {l : Addr} {items : Array Value} {Q : Value -> Shared -> Prop} (hl : HasItems t s.heap l items)
    (hQ : Q (.ref s.heap.objs.size) { s with heap:=s.heap.push (iterObj t l) }) : wpAny (model prog w) A (pyIter (.ref l)) Q E s:=by
  cases t
  · exact wpAny_pyIter_list hl hQ
  · exact wpAny_pyIter_tuple hl hQ
theorem iterObj_at {t : Bool} {h : Heap} {it l : Addr} (e : h.get? it = some (iterObj t l)) : IterAt t h it l 0:=by
  cases t
  · exact ⟨_,e,rfl,rfl⟩
  · exact ⟨_,e,rfl,rfl⟩
theorem iterObj_free (t : Bool) (l : Addr) : (iterObj t l).isFreed = false:=by cases t <;> rfl
end
section
variable {prog : Program} {w : World} {A : Around} {E : Value -> Shared -> Prop} {s : Shared}
end
def SqK (K : PySem.W.Frag) (t : Bool) (H : Hp) (a : Addr) (xs : List V) : Prop:=if t = true then SqT K H a xs else SqL K H a xs
section
variable {X : Cx} {pins : List (Addr × Obj)} {σ : St} {H : Hp} {s : Shared}
theorem Inv.seqK {t : Bool} {a : Addr} {xs : List V} (I : Inv X pins σ H s) (h : SqK X.K t H a xs) : ∃ its : List Value,Vals xs its /\ HasItems t s.heap a its.toArray /\ xs.length <= sizeLine:=by
  cases t
  · obtain ⟨its,r,p,z⟩:=I.list h
    exact ⟨its,r,p.isList,z⟩
  · obtain ⟨its,r,p,z⟩:=I.tuple h
    exact ⟨its,r,p,z⟩
theorem Inv.seqK_inj {t : Bool} {a : Addr} {xs ys : List V} (I : Inv X pins σ H s) (h : SqK X.K t H a xs) (h' : SqK X.K t H a ys) : xs = ys:=by
  cases t
  · exact I.list_inj h h'
  · exact I.tuple_inj h h'
theorem Inv.turnedL {t' : Nat} {its : List Addr} {h' : Heap} (I : Inv X pins σ H s) (k : ∀ b o,b ∉ its -> s.heap.get? b = some o -> h'.get? b = some o) (hf : ∀ b ∈ its,FpOk X pins H b) : Inv X pins σ H { s with heap:=h',toks:=t' }:=by
  have nit : ∀ b u,H b = some u -> b ∉ its:=fun b u e z=>by rw [(hf b z).1] at e; cases e
  refine I.step (g':=s.gens) (d':=s.drawn) (ch:=its) (fun b hb=>?_) (fun b o _ _ hc e _=>k b o hc e) (fun b o _ _ hc e _=>⟨o.slots,k b o hc e⟩) (fun _ _ _ _ n=>n)
    (fun b o hc e=>⟨o,k b o hc e⟩) (fun _ _ e=>e) (fun _ _ _ e=>e) (fun b ps e=>⟨#[],by rw [e]; simp⟩) (fun m hm=>?_) (fun b u e=>?_) I.bare
  · obtain ⟨f0,f1,f2,f3,f4,f5⟩:=hf b hb
    exact ⟨f3,f1,f4,f5⟩
  · obtain ⟨o,es,ep,ho,r⟩:=hm
    exact ⟨o,es,ep,k _ o (fun z=>(hf _ z).2.1 rfl) ho,r⟩
  · refine (I.hok b u e).stay (fun c v hc q=>k c v ?_ q) (fun _ q=>q) fun _ _ q=>q
    rcases hc with z | z
    · rw [z]; exact nit b u e
    · exact nit c _ z
end
section
variable {X : Cx}
end
end L2
namespace L2
open PySem PySem.Spec PyProof.Rows
theorem walksK {prog : Program} {w : World} {A : Around} (hh : A.handled = none) (t : Bool) (I ax : Addr) (hne : ax ≠ I) (items : Array Value) :
    Walks prog w A I [I,ax] [I] items.size (fun i v=>items[i]? = some v) (fun i h=>IterAt t h I ax i /\ HasItems t h ax items):=by
  cases t
  · exact Walks.list hh I ax hne items
  · exact Walks.tuple hh I ax hne items
theorem getD_at {α : Type} (l : List α) (d : α) {n : Nat} (h : n < l.length) : l.getD n d = l[n]:=by simp [List.getD,h]
theorem preSum_list (ns : List Int) : preSum (fun j=>ns.getD j 0) ns.length = ns.sum:=by
  have key : ∀ (k : Nat),k <= ns.length -> preSum (fun j=>ns.getD j 0) k = (ns.take k).sum:=by
    intro k
    induction k with
    | zero=>intro _; rfl
    | succ k ih=>
      intro hk
      show preSum _ k + ns.getD k 0 = _
      have hlt : k < ns.length:=by omega
      rw [ih (by omega),List.take_succ,List.sum_append,getD_at _ _ hlt,List.getElem?_eq_getElem hlt]
      simp
  rw [key ns.length (Nat.le_refl _),List.take_length]
section
variable {X : Cx} {pins : List (Addr × Obj)} {σ : St} {H : Hp} {s : Shared}
theorem Inv.movedNew {s' : Shared} (I : Inv X pins σ H s) {o : Obj} (m : Moved [s.heap.objs.size] (fun a b=>b = a) { s with heap:=s.heap.push o } s') : Inv X pins σ H s':=by
  obtain ⟨m1,m2,m3,m4,m5⟩:=m
  obtain ⟨h',g',d',t',o'⟩:=s'
  have e1 : g' = s.gens:=m2
  have e2 : d' = s.drawn:=m3
  have e3 : o' = s.os:=m4
  subst e1 e2 e3
  refine I.kept (t':=t') fun b u e=>m1 b u (fun z=>?_) (Heap.get?_push_of_some _ e)
  have : b = s.heap.objs.size:=by simpa using z
  exact absurd (Heap.lt_size e) (by rw [this]; exact Nat.lt_irrefl _)
theorem ints_get {ns : List Int} {its : List Value} (r : Vals (ns.map V.int) its) : ∀ (i : Nat) (v : Value),its.toArray[i]? = some v -> ∃ t,v = Value.int (ns.getD i 0) t:=fun i v e=>by
  have e' : its[i]? = some v:=by simpa using e
  have hi : i < its.length:=(List.getElem?_eq_some_iff.mp e').1
  have hl:=r.length
  rw [List.length_map] at hl
  have hn : (ns.map V.int)[i]? = some (V.int (ns.getD i 0)):=by
    have : i < ns.length:=by omega
    simp [List.getD,this]
  obtain ⟨u,hu,t,ru⟩:=r.get hn
  rw [e'] at hu
  cases hu
  exact ⟨t,ru⟩
theorem bools_get {bs : List Bool} {its : List Value} (r : Vals (bs.map V.bl) its) : ∀ (i : Nat) (v : Value),its.toArray[i]? = some v -> v = Value.bool (bs.getD i false):=fun i v e=>by
  have e' : its[i]? = some v:=by simpa using e
  have hi : i < its.length:=(List.getElem?_eq_some_iff.mp e').1
  have hl:=r.length
  rw [List.length_map] at hl
  have hn : (bs.map V.bl)[i]? = some (V.bl (bs.getD i false)):=by
    have : i < bs.length:=by omega
    simp [List.getD,this]
  obtain ⟨u,hu,ru⟩:=r.get hn
  rw [e'] at hu
  cases hu
  exact ru
theorem iterObj_walk {t : Bool} {l : Addr} {items : Array Value} (hl : HasItems t s.heap l items) : l ≠ s.heap.objs.size /\
    (IterAt t (s.heap.push (iterObj t l)) s.heap.objs.size l 0 /\ HasItems t (s.heap.push (iterObj t l)) l items) /\ ∀ b ∈ [s.heap.objs.size,l],b < (s.heap.push (iterObj t l)).objs.size:=by
  obtain ⟨o,e⟩:=hl.there
  have hlt:=Heap.lt_size e
  refine ⟨Nat.ne_of_lt hlt,⟨iterObj_at (Heap.get?_push_size _ (iterObj_free _ _)),hl.at fun o e=>Heap.get?_push_of_some _ e⟩,fun b hb=>?_⟩
  rw [Heap.size_push]
  simp at hb
  rcases hb with rfl | rfl
  · exact Nat.lt_succ_self _
  · exact Nat.lt_succ_of_lt hlt
end
section
variable {X : Cx}
theorem call_sum (t : Bool) (hc : X.calm = true) : CallR X (.builtin "sum") (fun xs H Q=>∃ (a : Addr) (ns : List Int),xs = [.ref a] /\ SqK X.K t H a (ns.map V.int) /\ Q (.int ns.sum) H):=by
  intro pins s σ H xs us Q I r h
  obtain ⟨a,ns,rfl,hq,q⟩:=h
  obtain ⟨u,rfl,r1⟩:=vals1 r
  cases r1
  obtain ⟨its,rv,p,_⟩:=I.seqK hq
  obtain ⟨w1,w2,w3⟩:=iterObj_walk p
  have hl:=rv.length
  rw [List.length_map] at hl
  refine call_sum_walkAnyS (pyIter_seq p ⟨_,_,_,_,_,_,_,fun j=>ns.getD j 0,rfl,(walksK (A:=X.A.in1) (I.ok.hd hc) t _ a w1 its.toArray).toS,w2,w3,ints_get rv,fun s' t' m=>?_⟩)
  refine ⟨.int ns.sum,H,I.movedNew m,⟨t',?_⟩,q⟩
  rw [List.size_toArray,<- hl,preSum_list]
theorem range_all (bs : List Bool) : (List.range bs.length).all (fun i=>bs.getD i false) = bs.all id:=by
  induction bs with
  | nil=>rfl
  | cons b r ih=>
    rw [List.length_cons,List.range_succ_eq_map,List.all_cons,List.all_map,List.all_cons,<- ih]
    rfl
theorem range_any (bs : List Bool) : (List.range bs.length).any (fun i=>bs.getD i false) = bs.any id:=by
  induction bs with
  | nil=>rfl
  | cons b r ih=>
    rw [List.length_cons,List.range_succ_eq_map,List.any_cons,List.any_map,List.any_cons,<- ih]
    rfl
theorem call_all (t : Bool) (hc : X.calm = true) : CallR X (.builtin "all") (fun xs H Q=>∃ (a : Addr) (bs : List Bool),xs = [.ref a] /\ SqK X.K t H a (bs.map V.bl) /\ Q (.bl (bs.all id)) H):=by
  intro pins s σ H xs us Q I r h
  obtain ⟨a,bs,rfl,hq,q⟩:=h
  obtain ⟨u,rfl,r1⟩:=vals1 r
  cases r1
  obtain ⟨its,rv,p,_⟩:=I.seqK hq
  obtain ⟨w1,w2,w3⟩:=iterObj_walk p
  have hl:=rv.length
  rw [List.length_map] at hl
  refine call_all_walkS (pyIter_seq p ⟨_,_,_,_,_,_,_,fun j=>bs.getD j false,rfl,(walksK (A:=X.A.in1) (I.ok.hd hc) t _ a w1 its.toArray).toS,w2,fun i v s' Q' E' hv hQ=>?_,fun s' m=>?_⟩)
  · rw [bools_get rv i v hv]
    exact wpAny_truthy_bool hQ
  · refine ⟨.bl (bs.all id),H,I.movedNew m,?_,q⟩
    show Value.bool _ = _
    rw [List.size_toArray,<- hl,range_all]
theorem call_any (t : Bool) (hc : X.calm = true) : CallR X (.builtin "any") (fun xs H Q=>∃ (a : Addr) (bs : List Bool),xs = [.ref a] /\ SqK X.K t H a (bs.map V.bl) /\ Q (.bl (bs.any id)) H):=by
  intro pins s σ H xs us Q I r h
  obtain ⟨a,bs,rfl,hq,q⟩:=h
  obtain ⟨u,rfl,r1⟩:=vals1 r
  cases r1
  obtain ⟨its,rv,p,_⟩:=I.seqK hq
  obtain ⟨w1,w2,w3⟩:=iterObj_walk p
  have hl:=rv.length
  rw [List.length_map] at hl
  refine call_any_walkS (pyIter_seq p ⟨_,_,_,_,_,_,_,fun j=>bs.getD j false,rfl,(walksK (A:=X.A.in1) (I.ok.hd hc) t _ a w1 its.toArray).toS,w2,fun i v s' Q' E' hv hQ=>?_,fun s' m=>?_⟩)
  · rw [bools_get rv i v hv]
    exact wpAny_truthy_bool hQ
  · refine ⟨.bl (bs.any id),H,I.movedNew m,?_,q⟩
    show Value.bool _ = _
    rw [List.size_toArray,<- hl,range_any]
end
theorem drawsK {prog : Program} {w : World} {A : Around} (hh : A.handled = none) (t : Bool) (it l : Addr) (hne : l ≠ it) (items : Array Value) :
    Draws prog w A it [it,l] items.size (fun i v=>items[i]? = some v) (fun i h=>IterAt t h it l i /\ HasItems t h l items) where
  live:=fun _ _ st=>let ⟨o,e,_⟩:=st.1.there; ⟨o,e⟩
  frame:=fun _ _ _ st hk=>⟨st.1.at fun o e=>hk it (by simp) o e,st.2.at fun o e=>hk l (by simp) o e⟩
  item:=fun i s Q E hi st hQ=>by
    refine nextOf_item st.1 st.2 (x:=items[i]) (by simp [hi]) fun h' hit' hs'=>?_
    exact hQ _ h' s.toks (by simp [hi]) ⟨hit',st.2.at fun o e=>hs'.extBut _ _ hne e⟩ hs'
  done:=fun s Q E st hE=>nextOf_end hh st.1 st.2 (by simp) hE
theorem meets_enumT (l : Addr) (items : Array Value) (n : Nat) (dct : Option Addr) (sl : Array (Option Value)) :
    Meets (Builtin.«enumerate.__new__» ⟨[.type "enumerate",.ref l],[]⟩) (fun _ R s=>s.heap.get? l = some { cls:=.type "tuple",dict:=dct,data:=.seq items n,slots:=sl } /\
      R (.ok (.ret (.ref (s.heap.push { cls:=.type "tuple_iterator",data:=.fields #[.ref l,.int 0 0] }).objs.size)))
        { s with heap:=(s.heap.push { cls:=.type "tuple_iterator",data:=.fields #[.ref l,.int 0 0] }).push { cls:=.type "enumerate",data:=.fields #[.none,.bool false,.ref s.heap.objs.size,rawInt 0,.none,.none] } }):=
  .of_wp fun prog w A R s h=>by
    obtain ⟨hp,g,d,tk,os⟩:=s; obtain ⟨hl,h⟩:=h
    have hsub:=sub_enumerate
    have hL : Heap.IsTuple (Shared.heap ⟨hp,g,d,tk,os⟩) l items:=⟨_,hl,rfl,n,rfl⟩
    wp_walk using AutoSeq1.wpAny_loadPart' hl
    refine wpAny_stack_any fun st=>wpAny_pure ?_
    split
    · rename_i c _ _ _ _ _
      cases (c == Value.type "enumerate")
      · wp_walk using AutoSeq1.wpAny_loadPart' hl,wpAny_pyIter_tuple hL
        exact ⟨_,rfl,h⟩
      · wp_walk using AutoSeq1.wpAny_loadPart' hl,wpAny_pyIter_tuple hL
        exact ⟨_,rfl,h⟩
    · wp_walk using AutoSeq1.wpAny_loadPart' hl,wpAny_pyIter_tuple hL
      exact ⟨_,rfl,h⟩
section
variable {prog : Program} {w : World} {A : Around} {E : Value -> Shared -> Prop} {s : Shared}
theorem call_enumT {l : Addr} {items : Array Value} {Q : Value -> Shared -> Prop} (hL : s.heap.IsTuple l items)
    (h : ∀ h',IsEnum h' (s.heap.objs.size + 1) s.heap.objs.size 0 .none -> h'.IsTupleIter s.heap.objs.size l 0 -> h'.objs.size = s.heap.objs.size + 2 ->
      (∀ b o,s.heap.get? b = some o -> h'.get? b = some o) -> Q (.ref (s.heap.objs.size + 1)) { s with heap:=h' }) :
    wpAny (model prog w) A (call (.type "enumerate") [.ref l]) Q E s:=by
  obtain ⟨⟨c,dct,dt,sl⟩,hl,hc,n,hd⟩:=hL
  replace hc : c = .type "tuple" := hc
  replace hd : dt = .seq items n:=hd
  subst hc hd
  refine callType_new F.called_enumerate (by decide) (F.typeCall_enumerate_1 _) (F.newCall_enumerate_1 _) (fun obj=>F.args_object_init_2 obj _) F.entry_enumerate_new
    (meets_enumT l items n dct sl) ⟨hl,?_⟩
  have hz : (s.heap.push { cls:=.type "tuple_iterator",data:=.fields #[.ref l,.int 0 0] }).objs.size = s.heap.objs.size + 1:=Heap.size_push ..
  show _ /\ _
  rw [hz]
  have he : IsEnum ((s.heap.push { cls:=.type "tuple_iterator",data:=.fields #[.ref l,.int 0 0] }).push
      { cls:=.type "enumerate",data:=.fields #[.none,.bool false,.ref s.heap.objs.size,rawInt 0,.none,.none] }) (s.heap.objs.size + 1) s.heap.objs.size 0 .none:=by
    have:=Heap.get?_push_size (s.heap.push { cls:=.type "tuple_iterator",data:=.fields #[.ref l,.int 0 0] })
      (o:={ cls:=.type "enumerate",data:=.fields #[.none,.bool false,.ref s.heap.objs.size,rawInt 0,.none,.none] }) rfl
    rw [hz] at this; exact this
  refine ⟨⟨_,he,rfl⟩,h _ he ⟨_,Heap.get?_push_of_some _ (Heap.get?_push_size _ rfl),rfl,rfl⟩ (by rw [Heap.size_push,hz]) fun b o x=>Heap.get?_push_of_some _ (Heap.get?_push_of_some _ x)⟩
theorem call_enumG {t : Bool} {l : Addr} {items : Array Value} {Q : Value -> Shared -> Prop} (hL : HasItems t s.heap l items)
    (h : ∀ h',IsEnum h' (s.heap.objs.size + 1) s.heap.objs.size 0 .none -> IterAt t h' s.heap.objs.size l 0 -> h'.objs.size = s.heap.objs.size + 2 ->
      (∀ b o,s.heap.get? b = some o -> h'.get? b = some o) -> Q (.ref (s.heap.objs.size + 1)) { s with heap:=h' }) :
    wpAny (model prog w) A (call (.type "enumerate") [.ref l]) Q E s:=by
  cases t
  · exact call_enumerate_list hL h
  · exact call_enumT hL h
end
def Ite (K : PySem.W.Frag) (t : Bool) (a : Addr) : It:=
  ⟨fun i H=>∃ xs x,SqK K t H a xs /\ xs[i]? = some x,
   fun i H v H'=>∃ p x,H p = none /\ v = .ref p /\ H' = upd H p (.tup [.int i,x]) /\ ∀ xs,SqK K t H a xs -> xs[i]? = some x,
   fun i H=>∃ xs,SqK K t H a xs /\ xs.length <= i⟩
theorem Inv.tracks {X : Cx} {pins : List (Addr × Obj)} {σ : St} {H : Hp} {s s1 : Shared} {p : Addr} {xs : List V} {its : List Value} (I : Inv X pins σ H s) (I1 : Inv X pins σ H s1) (hp : s.heap.objs.size <= p) (hn : H p = none) (rv : Vals xs its) (hz : xs.length <= sizeLine)
    (ht : IsTup s1.heap p its.toArray) : Inv X pins σ (upd H p (.tup xs)) s1:=by
  refine ⟨I1.ok,I1.os,I1.bare,?_,I1.loc,I1.cell,?_,?_,?_,?_,I1.len⟩
  · have u0:=I1.base
    have old : ∀ c o,X.s₀.heap.get? c = some o -> c ≠ p:=fun c o e=>Nat.ne_of_lt (Nat.lt_of_lt_of_le (Heap.lt_size e) (Nat.le_trans I.sz hp))
    exact ⟨u0.keep,u0.slot,fun c o e n hx=>by rw [upd_ne (old c o e)]; exact u0.free c o e n hx,u0.there,
      fun c ts e=>by have:=u0.tups c ts e; rw [upd_ne (ne_of_none this hn)]; exact this,
      fun c o ts e=>by have:=u0.frzs c o ts e; rw [upd_ne (ne_of_none this hn)]; exact this,
      fun c ps e=>by obtain ⟨more,q⟩:=u0.tbls c ps e; exact ⟨more,by rw [upd_ne (ne_of_none q hn)]; exact q⟩⟩
  · rw [upd_ne (Nat.ne_of_lt (Nat.lt_of_lt_of_le I.lt hp))]; exact I.free
  · intro x' c e
    obtain ⟨v',q⟩:=I.cell x' c e
    rw [upd_ne (Nat.ne_of_lt (Nat.lt_of_lt_of_le q.lt hp))]; exact I.freeC x' c e
  · intro p' hp'
    obtain ⟨e,n,ne,nf,d⟩:=I1.pin p' hp'
    have e0:=(I.pin p' hp').1
    exact ⟨e,by rw [upd_ne (Nat.ne_of_lt (Nat.lt_of_lt_of_le (Heap.lt_size e0) hp))]; exact n,ne,nf,d⟩
  · intro c o q
    by_cases hcs : c = p
    · subst hcs
      rw [upd_same] at q; cases q
      exact ⟨hz,its,rv,ht⟩
    · rw [upd_ne hcs] at q
      exact (I1.hok c o q).stay (fun _ _ _ r=>r) (fun c' r=>by rw [upd_ne (ne_of_none r hn)]; exact r) fun c' ts r=>by rw [upd_ne (ne_of_none r hn)]; exact r
def enumSt (t : Bool) (e it a : Addr) (i : Nat) (h : Heap) : Prop:=(∃ old,IsEnum h e it i old) /\ IterAt t h it a i
theorem turn_enum {P : Program} {w : World} {K : PySem.W.Frag} {elts : List Expr} {k : Nat} {pos : Pos} {t : Bool} {e it a : Addr} (hei : e ≠ it) (hae : a ≠ e) (hai : a ≠ it) :
    Turn P w K (.Tuple elts k pos) (Ite K t a) [e,it] e (enumSt t e it a) where
  mem:=by simp
  obj:=fun i h st c hc=>by
    obtain ⟨⟨old,he⟩,h1⟩:=st
    simp at hc
    rcases hc with rfl | rfl
    · exact ⟨_,he,fun v q=>by cases q⟩
    · exact h1.there
  keep:=fun i h h' st kk=>by
    obtain ⟨⟨old,he⟩,h1⟩:=st
    exact ⟨⟨old,kk e (by simp) _ he⟩,h1.at fun o q=>kk it (by simp) o q⟩
  item:=by
    intro X hP hw hK hc i pins s σ H E I hf st hg
    subst hP hw hK
    obtain ⟨xs,x,hq1,hx⟩:=hg
    obtain ⟨⟨old,he⟩,h1⟩:=st
    obtain ⟨its,rv,p,_⟩:=I.seqK hq1
    obtain ⟨ux,hux,rux⟩:=rv.get hx
    have hlt : i < its.toArray.size:=by rw [List.size_toArray]; exact (List.getElem?_eq_some_iff.mp hux).1
    refine wpAny_pyNext_enum_itemD (drawsK (A:=X.A.in1) (I.ok.hd hc) t it a hai its.toArray) he ⟨h1,p⟩ hlt hei (by simp; exact ⟨hei,fun z=>hae z.symm⟩) fun x' h' tk hx' ho hs' hT hsz hk=>⟨_,rfl,?_⟩
    have : x' = ux:=by
      have e1 : its[i]? = some x':=by simpa using hx'
      rw [hux] at e1; exact (Option.some.inj e1).symm
    subst this
    refine wpAny_letOwnedTupleGo_enum (s:={ s with heap:=h',toks:=tk + 1 }) ho fun h'' he' hs''=>?_
    have elt : e < s.heap.objs.size:=Heap.lt_size he
    have ilt : it < s.heap.objs.size:=by obtain ⟨o,q,_⟩:=h1.there; exact Heap.lt_size q
    have hfr : H s.heap.objs.size = none:=I.fresh
    have I1 : Inv X pins σ H { s with heap:=h'',toks:=tk + 1 }:=I.turnedL (its:=[e,it]) (fun c o hc' q=>(hs''.2 c (fun z=>hc' (by simp [z]))).trans (hk c o (fun z=>hc' (by simp [z])) (fun z=>hc' (by simp [z])) q)) fun c hc'=>hf c hc'
    have tupAt : h''.get? s.heap.objs.size = some { cls:=.type "tuple",data:=.seq #[.int i tk,x'] }:=(hs''.2 _ (Nat.ne_of_gt elt)).trans hT
    have I2:=I.tracks (xs:=[.int i,x]) (its:=[.int i tk,x']) I1 (Nat.le_refl _) hfr (.cons ⟨tk,rfl⟩ (.cons rux .nil)) (by simp only [List.length_cons,List.length_nil]; rw [sizeLine_eq]; decide) ⟨_,tupAt,rfl,0,rfl⟩
    refine ⟨.ref s.heap.objs.size,_,I2,rfl,⟨s.heap.objs.size,x,hfr,rfl,rfl,fun xs' q1=>?_⟩,?_,fun c hc'=>?_⟩
    · rw [I.seqK_inj q1 hq1]; exact hx
    · exact ⟨⟨x',by simpa using he'⟩,hs'.1.at fun o q=>hs''.extBut _ _ (Ne.symm hei) q⟩
    · have:=(hf c hc').1
      have clt : c < s.heap.objs.size:=by simp at hc'; rcases hc' with rfl | rfl <;> assumption
      rw [upd_ne (Nat.ne_of_lt clt)]; exact this
  done:=by
    intro X hP hw hK hc i pins s σ H E I hf st hg
    subst hP hw hK
    obtain ⟨xs,hq1,hend⟩:=hg
    obtain ⟨⟨old,he⟩,h1⟩:=st
    obtain ⟨its,rv,p,_⟩:=I.seqK hq1
    have hl:=rv.length
    have hT : s.TypeIs (.ref e) "enumerate" := ⟨_,he,rfl⟩
    unfold pyNext
    refine wpAny_bind (wpAny_attempt (wpAny_callSpecial?_slot (name:=Str.ofString "__next__") hT F.slot_enumerate_next
      (wpAny_call_entry F.slot_enumerate_next hT F.entry_enumerate_next ?_ (F.args_enumerate_next_1 _))))
    show wpAny _ _ (field (.ref e) 2 >>= _) _ _ _
    refine wpAny_bind (wpAny_field he rfl (x:=.ref it) rfl ?_)
    refine wpAny_bind (nextOf_end (I.ok.hd hc) h1 p (by simp; omega) fun h' x he' hx'=>?_)
    obtain ⟨o,ho,hc'⟩:=hx'
    refine wpAny_bind (wpAny_isInstance (T := "StopIteration") (b:=true) ⟨o,ho,hc'⟩ isSubtype_stop ?_)
    exact wpAny_pure ⟨rfl,I.turnedL (t':=s.toks) (its:=[it]) (fun c o hc2 q=>he' c o (fun z=>hc2 (by simp [z])) q) fun c hc2=>hf c (by simp at hc2; simp [hc2])⟩
  self:=fun _ _ _ _ _ st h=>by
    obtain ⟨⟨old,he⟩,_⟩:=st
    exact wpAny_pyIter_enum he h
section
variable {X : Cx}
def iEnum (K : PySem.W.Frag) (t : Bool) (ta : TA) : TI:=fun σ H R=>ta σ H fun vs H1=>∃ a xs,vs = [.ref a] /\ SqK K t H1 a xs /\ R (Ite K t a) H1
theorem boot_enumerate : bootBuiltins "enumerate" = some (.type "enumerate"):=by decide +kernel
theorem pi_enum (t : Bool) {a : Expr} {ta : TA} {p pos : Pos} {elts : List Expr} {k : Nat} {tp : Pos} (hg : Gl X "enumerate") (hm : X.mg "enumerate" = none) (ha : PA X [a] ta) (hs : starEach [a] X.env = [(false,eval a X.env)]:=by rfl) :
    PI X (.Tuple elts k tp) (.Call (.Name "enumerate" p) [a] [] pos) (iEnum X.K t ta):=by
  intro pins s σ H R I h
  refine Call_ (ld_blt I hg hm boot_enumerate (PyProof.Rows.callWith_type1 (thn (ha pos pins s σ H _ I h) fun us s1 ⟨vs,H1,I1,r1,q1⟩=>?_) hs rfl))
  obtain ⟨a',xs,e,q1,q⟩:=q1
  subst e
  obtain ⟨u,rfl,r⟩:=vals1 r1
  cases r
  obtain ⟨its,rv,p1,_⟩:=I1.seqK q1
  refine call_enumG p1 fun h' z1 z2 z3 z4=>?_
  refine wpAny_pyIter_enum (s:={ s1 with heap:=h' }) z1 ?_
  have lta : a' < s1.heap.objs.size:=by obtain ⟨o,e⟩:=p1.there; exact Heap.lt_size e
  refine ⟨_,[s1.heap.objs.size + 1,s1.heap.objs.size],_,_,H1,rfl,I1.kept (t':=s1.toks) z4,turn_enum (t:=t) (Nat.ne_of_gt (Nat.lt_succ_self _)) (Nat.ne_of_lt (Nat.lt_succ_of_lt lta)) (Nat.ne_of_lt lta),⟨⟨_,z1⟩,z2⟩,fun c hc=>?_,q⟩
  have hc' : s1.heap.objs.size <= c:=by simp at hc; unfold Addr at *; omega
  exact I1.fpOk hc' (I1.hok.fresh hc')
end
end L2
namespace L2
open PySem PySem.Spec PyProof.Rows
theorem same_new {H : Hp} {a : Addr} {o : HO} (h : H a = none) : Same H (upd H a o):=fun b u e=>by rw [upd_ne (ne_of_none e h)]; exact e
section
variable {K : PySem.W.Frag} {cap : List (Option Nat)} {te : TE} {σ : St} {H1 : Hp} {Q : VK}
abbrev g2 (K : PySem.W.Frag) : TG:=gTup K 2 (gCons (gName 0) (gCons (gName 1) gNil))
end
def clsV : V -> Option Value
  | .ty n=>some (.type n)
  | .ref a=>some (.ref a)
  | _=>none
theorem clsV_rel {c : V} {cv u : Value} (e : clsV c = some cv) (r : RelV c u) : u = cv:=by
  cases c with
  | ty n=>cases e; exact r
  | ref a=>cases e; exact r
  | _=>cases e
section
variable {X : Cx}
theorem call_isinst : CallR X (.builtin "isinstance") (fun xs H Q=>∃ x c cv t b,xs = [x,c] /\ clsV c = some cv /\ TyOf X.K H x t /\ PySem.W.kitOne X.K t cv = some b /\ Q (.bl b) H):=by
  intro pins s σ H xs us Q I r h
  obtain ⟨x,c,cv,t,b,rfl,hc,ty,e,q⟩:=h
  obtain ⟨u,w',rfl,r1,r2⟩:=vals2 r
  rw [clsV_rel hc r2]
  exact isinst_ok I r1 ty e fun tk=>⟨.bl b,H,I.tok tk,rfl,q⟩
theorem boot_isinstance : bootBuiltins "isinstance" = some (.builtin "isinstance"):=by decide +kernel
theorem boot_sum : bootBuiltins "sum" = some (.builtin "sum"):=by decide +kernel
theorem boot_all : bootBuiltins "all" = some (.builtin "all"):=by decide +kernel
theorem boot_any : bootBuiltins "any" = some (.builtin "any"):=by decide +kernel
theorem boot_tuple : bootBuiltins "tuple" = some (.type "tuple"):=by decide +kernel
theorem boot_list : bootBuiltins "list" = some (.type "list"):=by decide +kernel
theorem boot_int : bootBuiltins "int" = some (.type "int"):=by decide +kernel
theorem boot_bool : bootBuiltins "bool" = some (.type "bool"):=by decide +kernel
end
section
variable {X : Cx} (K : PySem.W.Frag)
end
def Sz (n : Nat) (tb : List (List Int)) : Prop:=tb.length = n /\ ∀ row ∈ tb,row.length = n + 1
end L2
namespace L2
open PySem PySem.Spec PyProof.Rows PySem.W PySem.Builtin.Getset_descriptor
section
variable {prog : Program} {w : World} {A : Around} {E : Value -> Shared -> Prop} {h : Heap} {g : Array GenState} {d : Drawn} {t : Nat} {os : OsState} {K : Frag} {x C : Addr}
end
end L2
namespace L2
open PySem PySem.Spec PyProof.Rows
theorem ObjOk.there {P : Program} {w : World} {H : Hp} {h : Heap} {a : Addr} {o : HO} (x : ObjOk P w H h a o) : ∃ u,h.get? a = some u:=by
  cases o with
  | lst xs=>obtain ⟨_,_,_,_,e⟩:=x; exact ⟨_,e⟩
  | tup xs=>obtain ⟨_,_,_,o,e,_⟩:=x; exact ⟨o,e⟩
  | dK kvs=>obtain ⟨_,_,_,_,o,_,_,e,_⟩:=x; exact ⟨o,e⟩
  | dT kvs=>obtain ⟨_,_,_,_,o,_,_,e,_⟩:=x; exact ⟨o,e⟩
  | set S n=>obtain ⟨o,_,_,_,e,_⟩:=x; exact ⟨o,e⟩
  | ins C dx fs=>obtain ⟨_,_,_,e,_⟩:=x; exact ⟨_,e⟩
  | own y=>exact x
  | xd fs=>obtain ⟨_,⟨o,_,_,e,_⟩,_⟩:=x; exact ⟨o,e⟩
  | rng lo hi=>obtain ⟨_,_,_,e⟩:=x; exact ⟨_,e⟩
  | frz ob u=>obtain ⟨e,_⟩:=x; exact ⟨_,e⟩
  | tbl ps=>exact ⟨_,x⟩
  | met f y=>exact ⟨_,x⟩
  | ext φ=>exact x.2.1
theorem HOk.none_of {P : Program} {w : World} {H : Hp} {h : Heap} {a : Addr} (x : HOk P w H h) (e : h.get? a = none) : H a = none:=by
  cases q : H a with
  | none=>rfl
  | some o=>
    obtain ⟨u,z⟩:=(x a o q).there
    rw [e] at z
    cases z
structure Fly (P : Program) (w : World) (outer : List Env) (H H' : Hp) (s s' : Shared) (a : Addr) (cls a0 : Value) (B : Heap) : Prop where
  os : s'.os = s.os
  bare : AllBare s'.gens
  fl : Heap.FlyingW B outer a cls a0 s'.heap
  hokB : HOk P w H' B
  keep : ∀ b o,s.heap.get? b = some o -> H b = none -> b ∉ frs outer -> B.get? b = some o
  there : ∀ b o,s.heap.get? b = some o -> b ∉ frs outer -> ∃ o',B.get? b = some o'
  slot : ∀ b o,s.heap.get? b = some o -> b ∈ frs outer -> ∃ sl,s'.heap.get? b = some { o with slots:=sl }
  free : ∀ b o,s.heap.get? b = some o -> H b = none -> H' b = none
  tups : ∀ b xs,H b = some (.tup xs) -> H' b = some (.tup xs)
  frzs : ∀ b o u,H b = some (.frz o u) -> H' b = some (.frz o u)
  tbls : ∀ b ps,H b = some (.tbl ps) -> ∃ more,H' b = some (.tbl (ps ++ more))
section
variable {P : Program} {w : World} {K : PySem.W.Frag} {mg : Str -> Option Value} {base : Heap} {N : List Str} {qual : Str} {scope : Scope} {f : Addr} {cd : Value} {A : Around} {outer : List Env} {s : Shared} {H : Hp} {E : XK}
end
abbrev bmVE : List Value:=[.type "ValueError",.type "Exception",.type "BaseException",.type "object"]
theorem own_obj {K : PySem.W.Frag} {h : Heap} {C : Addr} {bmB : List Value} {newId : String} {x : Str} {mg : Str -> Option Value} (X : K.In h) (m : mg x = some (.ref C)) (q : PySem.W.excIn K C bmB newId = true) : OwnCls x C bmB newId mg h:=by
  refine ⟨m,?_⟩
  unfold PySem.W.excIn at q
  split at q
  · rename_i dd cd sl ho
    split at q
    · rename_i C' bm k0 k1 k2 k3 n k5 hm hs
      simp only [Bool.and_eq_true,beq_iff_eq,Bool.not_eq_true'] at q
      obtain ⟨⟨⟨⟨⟨rfl,rfl⟩,hdel⟩,ht⟩,hok⟩,hni⟩:=q
      obtain ⟨nm,bs,mro,ns,qn,hd,sn,sub,ab,col,del⟩:=cd
      dsimp only at hm hdel hok hni
      subst hm hdel
      have hsl : sl = #[k0,k1,k2,k3,some (.builtin n),k5]:=by
        obtain ⟨l⟩:=sl
        simp only at hs
        rw [hs]
      subst hsl
      exact ⟨bm,ns,nm,qn,bs,hd,sn,sub,ab,col,dd,k0,k1,k2,k3,k5,_,X _ _ ho,.of_isNs (PySem.W.isNs_of_in X hok),PySem.W.nsMap_none_of_in X hok hni,PySem.W.tail_of_in X ht⟩
    · cases q
  · cases q
section
variable {X : Cx}
def tRaise (C : Addr) (E : XK) (t : TA) : TS:=fun _ σ H=>t σ H fun vs H1=>vs.length <= sizeLine /\ E (.ref C) none H1
end
end L2
namespace L2
open PySem PySem.Spec PyProof.Rows
section
variable {X : Cx} {pins : List (Addr × Obj)} {σ : St} {H H' : Hp} {s s' : Shared} {a C : Addr}
end
section
variable {X : Cx}
end
section
variable {X : Cx}
end
end L2
namespace L2
open PySem PySem.Spec PyProof.Rows
theorem tuple_mul_same (l : Addr) (items : Array Value) (n : Nat) (dd : Option Addr) (sl : Array (Option Value)) (t : Tok) :
    Meets (Builtin.«tuple.__mul__» ⟨[.ref l,.int 1 t],[]⟩) (fun _ R s=>s.heap.get? l = some { cls:=.type "tuple",dict:=dd,data:=.seq items n,slots:=sl } /\ R (.ok (.ret (.ref l))) s):=
  .of_wp fun prog w A R s h=>by
    obtain ⟨hp,g,d,tk,os⟩:=s; obtain ⟨hl,h⟩:=h
    wp_walk using wpAny_loadPart' hl
    exact ⟨_,rfl,h⟩
theorem tuple_mul_many (l : Addr) (items : Array Value) (n : Nat) (dd : Option Addr) (sl : Array (Option Value)) (x : Int) (t : Tok) (h1 : ¬ (decide (x < -(2 ^ 63)) || decide (x >= 2 ^ 63)) = true) (h2 : ¬ (items.isEmpty || x == 1) = true) (h3 : ¬ (decide (x <= 0) || items.isEmpty) = true) (h4 : ¬ (items.size : Int) * x > (2 ^ 63 - 1) / 8) (h5 : ¬ Builtin.Tuple.tupleTooMany ((items.size : Int) * x) = true)
    (h6 : ((List.replicate x.toNat items).foldl (fun x1 x2=>x1 ++ x2) #[]).size <= sizeLine) :
    Meets (Builtin.«tuple.__mul__» ⟨[.ref l,.int x t],[]⟩) (fun _ R s=>s.heap.get? l = some { cls:=.type "tuple",dict:=dd,data:=.seq items n,slots:=sl } /\
      R (.ok (.ret (Value.ref s.heap.objs.size))) { s with heap:=s.heap.push { cls:=Value.type "tuple",data:=Data.seq ((List.replicate x.toNat items).foldl (fun x1 x2=>x1 ++ x2) #[]) } }):=
  .of_wp fun prog w A R s h=>by
    obtain ⟨hp,g,d,tk,os⟩:=s; obtain ⟨hl,h⟩:=h
    wp_walk using wpAny_loadPart' hl
    refine wpAny_ite_false (decide_eq_false h1) ?_
    wp_walk using wpAny_loadPart' hl
    refine wpAny_ite_false (decide_eq_false h4) ?_
    wp_walk using wpAny_loadPart' hl
    all_goals first | exact ⟨_,rfl,h⟩ | (refine wpAny_ite_false (decide_eq_false h5) ?_; wp_walk) | skip
    all_goals first | exact ⟨_,rfl,h⟩ | (refine wpAny_ite_false (decide_eq_false (Nat.not_lt.mpr h6)) ?_; wp_walk; exact ⟨_,rfl,h⟩)
theorem int_rmul_tuple (a : Int) (t : Tok) (l : Addr) (items : Array Value) (n : Nat) (dd : Option Addr) (sl : Array (Option Value)) :
    Meets (Builtin.«int.__rmul__» ⟨[.int a t,.ref l],[]⟩) (fun _ R s=>s.heap.get? l = some { cls:=.type "tuple",dict:=dd,data:=.seq items n,slots:=sl } /\ R (.ok (.ret Value.notImplemented)) s):=
  .of_wp fun prog w A R s h=>by obtain ⟨hp,g,d,tk,os⟩:=s; obtain ⟨hl,h⟩:=h; wp_walk using wpAny_loadPart' hl; exact ⟨_,rfl,h⟩
theorem noFill_tuple_mul : fillsNumberSlot (.type "tuple") "mul" = pure false:=
  PySem.fillsNumberSlot_seq (id := "tuple.__mul__") (r:=some (.builtin "tuple.__rmul__")) F.slot_tuple_mul.lookup (by decide +kernel) F.slot_tuple_rmul.lookup (by decide +kernel)
theorem repeat_tuple : seqRepeat? (.type "tuple") = pure (some (.builtin "tuple.__mul__")):=by
  unfold seqRepeat?
  rw [PySem.seqSlot_of (T := "tuple") (name := "__mul__") (id := "tuple.__mul__") F.slot_tuple_mul.lookup (by decide +kernel),PySem.seqSlot_of (T := "tuple") (name := "__rmul__") (id := "tuple.__rmul__") F.slot_tuple_rmul.lookup (by decide +kernel)]
  rfl
section
variable {X : Cx}
def rRepT (K : PySem.W.Frag) : R2:=fun x y H Q=>∃ a k xs,x = .ref a /\ y = .int k /\ SqT K H a xs /\ xs ≠ [] /\ 1 <= k /\ xs.length * k.toNat <= 4096 /\
  (k = 1 -> Q (.ref a) H) /\ (k ≠ 1 -> ∀ p,H p = none -> Q (.ref p) (upd H p (.tup (List.replicate k.toNat xs).flatten)))
theorem op_repT : OpR X (binaryOp .Mult) (rRepT X.K):=by
  intro pins s σ H x y v u Q I rx ry h
  obtain ⟨a,k,xs,rfl,rfl,ha,hne,hk,hz,q1,q2⟩:=h
  cases rx
  obtain ⟨t,rfl⟩:=ry
  obtain ⟨its,r,p1,hs⟩:=I.tuple ha
  obtain ⟨⟨cls,dd,data,sl⟩,ho,hc,n,hd⟩:=id p1
  simp only at hc hd
  subst hc hd
  have hl : its.length = xs.length:=r.length.symm
  have hpos : 0 < its.length:=by rw [hl]; exact List.length_pos_iff.mpr hne
  have hkz : k.toNat <= 4096:=by
    have : 1 * k.toNat <= xs.length * k.toNat:=Nat.mul_le_mul_right _ (by omega)
    omega
  refine wpAny_binaryOp_repeat_ref (T := "tuple") (U := "int") (by decide) ⟨_,ho,rfl⟩ (fun s'=>typeIs_int s' k t) noFill_tuple_mul F.fills_int_mul F.slot_int_rmul repeat_tuple F.slot_int_index.lookup
    (call_meets F.slot_int_rmul (typeIs_int s k t) F.entry_int_rmul (F.args_int_rmul_2 _ _) (int_rmul_tuple k t a its.toArray n dd sl)
      ⟨ho,rfl,⟨_,ho,rfl⟩,?_⟩)
  by_cases h1 : k = 1
  · subst h1
    exact call_meets F.slot_tuple_mul ⟨_,ho,rfl⟩ F.entry_tuple_mul (F.args_tuple_mul_2 _ _) (tuple_mul_same a its.toArray n dd sl t) ⟨ho,⟨.ref a,H,I,rfl,q1 rfl⟩⟩
  · have f0 : List.foldl (fun x1 x2=>x1 ++ x2) #[] (List.replicate k.toNat its.toArray) = (List.replicate k.toNat its).flatten.toArray:=by
      have:=foldl_rep its k.toNat []
      rw [List.nil_append] at this
      exact this
    have hlen : (its.toArray.size : Int) * k = ((its.length * k.toNat : Nat) : Int):=by
      rw [List.size_toArray,Int.natCast_mul,Int.toNat_of_nonneg (by omega)]
    have hfl : (List.replicate k.toNat its).flatten.length <= 4096:=by rw [len_rep,hl,Nat.mul_comm]; exact hz
    have hb : its.length * k.toNat <= 4096:=by rw [hl]; exact hz
    refine call_meets F.slot_tuple_mul ⟨_,ho,rfl⟩ F.entry_tuple_mul (F.args_tuple_mul_2 _ _) (tuple_mul_many a its.toArray n dd sl k t ?_ ?_ ?_ ?_ ?_ ?_) ⟨ho,?_⟩
    · rw [decide_eq_false (by omega),decide_eq_false (by omega)]; exact Bool.false_ne_true
    · intro z
      rcases Bool.or_eq_true_iff.mp z with z | z
      · rw [List.isEmpty_toArray,List.isEmpty_iff] at z; rw [z] at hpos; simp at hpos
      · exact h1 (eq_of_beq z)
    · intro z
      rcases Bool.or_eq_true_iff.mp z with z | z
      · have:=of_decide_eq_true z; omega
      · rw [List.isEmpty_toArray,List.isEmpty_iff] at z; rw [z] at hpos; simp at hpos
    · rw [hlen]; omega
    · rw [hlen]
      have : (4096 : Int) <= sizeLine:=by decide
      show ¬ decide (((its.length * k.toNat : Nat) : Int) > (sizeLine : Int)) = true
      rw [decide_eq_false (by omega)]; exact Bool.false_ne_true
    · rw [f0,List.size_toArray]; exact Nat.le_trans hfl (by decide)
    · rw [f0]
      refine ⟨.ref s.heap.objs.size,_,I.laid (t':=s.toks) (o:=.tup (List.replicate k.toNat xs).flatten) (fun b ob q=>Heap.get?_push_of_some _ q) (Nat.le_refl _) ?_,rfl,q2 h1 _ (I.hok.fresh (Nat.le_refl _))⟩
      exact ⟨by rw [len_rep,Nat.mul_comm]; exact Nat.le_trans hz (by decide),_,r.rep k.toNat,IsTup.new _ _⟩
end
section
variable {X : Cx} {pins : List (Addr × Obj)} {s : Shared} {σ : St} {H : Hp}
open PySem.SeqAt
theorem op_isnot_bl : OpR X (compareOp .IsNot) (fun x y H Q=>∃ b c,x = .bl b /\ y = .bl c /\ Q (.bl (b != c)) H):=by
  intro pins s σ H x y v u Q I rx ry h
  obtain ⟨b,c,rfl,rfl,q⟩:=h
  cases rx
  cases ry
  exact PyProof.Rows.isnot_bool ⟨.bl _,H,I,rfl,q⟩
end
end L2
namespace L2
open PySem PySem.Spec PyProof.Rows
end L2
namespace L2
open PySem PySem.Spec PyProof.Rows
section
variable {K : PySem.W.Frag} {cap : List (Option Nat)} {te : TE} {σ : St} {H1 : Hp} {Q : VK}
end
section
variable {X : Cx} {pos : Pos}
end
end L2
namespace L2
open PySem PySem.Spec PyProof.Rows
theorem cellsFrom_look : ∀ (names : List (Str × NameKind)) (h : Heap) (acc : List (Str × Addr)) (x : Str) (c : Addr),(cellsFrom h.objs.size names acc).lookup x = some c ->
    acc.lookup x = some c \/ ((x,NameKind.cell) ∈ names /\ h.objs.size <= c /\ (pushCells h names).IsCell c none)
  | [],_,_,_,_,e=>.inl e
  | (name,kind) :: r,h,acc,x,c,e=>by
    unfold cellsFrom at e
    unfold pushCells
    by_cases hk : (kind == NameKind.cell) = true
    · rw [if_pos hk] at e ⊢
      have hk' : kind = .cell:=by simpa using hk
      have ih:=cellsFrom_look r (h.push { cls:=.type "cell",data:=.cell none }) ((name,h.objs.size) :: acc) x c (by rw [Heap.size_push]; exact e)
      rw [Heap.size_push] at ih
      rcases ih with z | ⟨z1,z2,z3⟩
      · rw [List.lookup_cons] at z
        cases hb : x == name with
        | true=>
          rw [hb] at z; cases z
          exact .inr ⟨by rw [beq_iff_eq.mp hb,hk']; exact List.mem_cons_self,Nat.le_refl _,⟨_,pushCells_keeps _ _ _ _ (Heap.get?_push_size _ rfl),rfl⟩⟩
        | false=>rw [hb] at z; exact .inl z
      · exact .inr ⟨List.mem_cons_of_mem _ z1,by omega,z3⟩
    · rw [if_neg hk] at e ⊢
      rcases cellsFrom_look r h acc x c e with z | ⟨z1,z2,z3⟩
      · exact .inl z
      · exact .inr ⟨List.mem_cons_of_mem _ z1,z2,z3⟩
theorem cellsFrom_old {x : Str} : ∀ (names : List (Str × NameKind)) (n : Nat) (acc : List (Str × Addr)),(x,NameKind.cell) ∉ names -> (cellsFrom n names acc).lookup x = acc.lookup x
  | [],_,_,_=>rfl
  | (name,kind) :: r,n,acc,h=>by
    unfold cellsFrom
    have hr : (x,NameKind.cell) ∉ r:=fun z=>h (List.mem_cons_of_mem _ z)
    by_cases hk : (kind == NameKind.cell) = true
    · rw [if_pos hk,cellsFrom_old r _ _ hr,List.lookup_cons]
      cases hb : x == name with
      | true=>exact absurd (by rw [beq_iff_eq.mp hb,show kind = .cell by simpa using hk]; exact List.mem_cons_self) h
      | false=>rfl
    · rw [if_neg hk,cellsFrom_old r _ _ hr]
theorem cellsFrom_new {x : Str} {c : Addr} : ∀ (names : List (Str × NameKind)) (n : Nat) (acc : List (Str × Addr)),(x,NameKind.cell) ∈ names -> (cellsFrom n names acc).lookup x = some c -> n <= c
  | [],_,_,h,_=>by cases h
  | (name,kind) :: r,n,acc,h,e=>by
    unfold cellsFrom at e
    by_cases hr : (x,NameKind.cell) ∈ r
    · by_cases hk : (kind == NameKind.cell) = true
      · rw [if_pos hk] at e
        exact Nat.le_of_succ_le (cellsFrom_new r _ _ hr e)
      · rw [if_neg hk] at e
        exact cellsFrom_new r _ _ hr e
    · rcases List.mem_cons.mp h with q | q
      · cases q
        rw [if_pos (by decide),cellsFrom_old r _ _ hr,List.lookup_cons] at e
        simp at e
        exact Nat.le_of_eq e
      · exact absurd q hr
theorem cellsFrom_inj : ∀ (names : List (Str × NameKind)) (n : Nat) (acc : List (Str × Addr)),(∀ x c,acc.lookup x = some c -> c < n) -> (∀ x y c,acc.lookup x = some c -> acc.lookup y = some c -> x = y) ->
    ∀ x y c,(cellsFrom n names acc).lookup x = some c -> (cellsFrom n names acc).lookup y = some c -> x = y
  | [],_,_,_,h=>h
  | (name,kind) :: r,n,acc,h1,h2=>by
    unfold cellsFrom
    by_cases hk : (kind == NameKind.cell) = true
    · rw [if_pos hk]
      refine cellsFrom_inj r (n + 1) _ (fun x c e=>?_) (fun x y c e e'=>?_)
      · rw [List.lookup_cons] at e
        cases hb : x == name with
        | true=>rw [hb] at e; cases e; exact Nat.lt_succ_self _
        | false=>rw [hb] at e; exact Nat.lt_succ_of_lt (h1 x c e)
      · rw [List.lookup_cons] at e e'
        cases hb : x == name with
        | true=>
          rw [hb] at e; cases e
          cases hb' : y == name with
          | true=>rw [beq_iff_eq.mp hb,beq_iff_eq.mp hb']
          | false=>rw [hb'] at e'; exact absurd (h1 y _ e') (Nat.lt_irrefl _)
        | false=>
          rw [hb] at e
          cases hb' : y == name with
          | true=>rw [hb'] at e'; cases e'; exact absurd (h1 x _ e) (Nat.lt_irrefl _)
          | false=>rw [hb'] at e'; exact h2 x y c e e'
    · rw [if_neg hk]
      exact cellsFrom_inj r n acc h1 h2
theorem wpAny_newEnvC {M : Model} {A : Around} {E : Value -> Shared -> Prop} {s : Shared} {scope : Scope} {globals : Addr} {cl : List (Str × Addr)} {qual : Str} {func : Option Addr} {code : Value} {env : Env} {builtins : Addr} {Q : Env -> Shared -> Prop}
    (hQ : Q (newEnv scope s.heap.objs.size globals (cellsFrom (s.heap.objs.size + 1) scope.names cl) qual func code (some env) builtins) { s with heap:=pushCells (s.heap.push { cls:=.type "dict",data:=.dict #[] }) scope.names }) :
    wpAny M A (newFunctionEnv scope globals cl [] qual func code (some env) builtins) Q E s:=by
  simp only [newFunctionEnv,Option.isSome_some,if_true]
  refine wpAny_bind (wpAny_alloc ?_)
  refine wpAny_bind (wpAny_layCells _ (fun name kind cells=>by cases hkc : kind == NameKind.cell <;> simp [hkc]) _ _ _ _ ?_)
  rw [show ({ s with heap:=s.heap.push { cls:=.type "dict",data:=.dict #[] } } : Shared).heap.objs.size = s.heap.objs.size + 1 from Heap.size_push ..]
  refine wpAny_bind ?_
  rw [List.forIn_nil]
  exact wpAny_pure (wpAny_pure hQ)
def compOkC (N N' : List Str) (sc scE : Scope) (cap : List (Option Nat)) : Bool:=
  sc.kind == .function && sc.names.all (fun x=>x.2 != .cell || sc.names.lookup x.1 == some .cell) && sc.names.all (fun x=>x.2 != .local || sc.names.lookup x.1 == some .local) &&
  sc.names.all (fun x=>x.2 != .free || scE.names.lookup x.1 == some .cell || scE.names.lookup x.1 == some .free) && cap.length == N'.length &&
  (List.range cap.length).all (fun i=>match cap[i]? with
    | some (some j)=>(match N'[i]?,N[j]? with | some a,some b=>a == b && sc.names.lookup a == some .free | _,_=>false)
    | _=>true)
structure CompOkC (N N' : List Str) (sc scE : Scope) (cap : List (Option Nat)) : Prop where
  kind : sc.kind = .function
  cel : ∀ x ∈ sc.names,x.2 = .cell -> sc.names.lookup x.1 = some .cell
  loc : ∀ x ∈ sc.names,x.2 = .local -> sc.names.lookup x.1 = some .local
  fre : ∀ x ∈ sc.names,x.2 = .free -> scE.names.lookup x.1 = some .cell \/ scE.names.lookup x.1 = some .free
  len : cap.length = N'.length
  at_ : ∀ (i j : Nat),cap[i]? = some (some j) -> ∃ x,N'[i]? = some x /\ N[j]? = some x /\ sc.names.lookup x = some .free
theorem compOkC.of {N N' : List Str} {sc scE : Scope} {cap : List (Option Nat)} (h : compOkC N N' sc scE cap = true) : CompOkC N N' sc scE cap:=by
  unfold compOkC at h
  simp only [Bool.and_eq_true,List.all_eq_true,beq_iff_eq,Bool.or_eq_true,bne_iff_ne] at h
  obtain ⟨⟨⟨⟨⟨h1,h2⟩,h3⟩,h4⟩,h5⟩,h6⟩:=h
  refine ⟨h1,fun x hx e=>?_,fun x hx e=>?_,fun x hx e=>?_,h5,fun i j e=>?_⟩
  · rcases h2 x hx with z | z
    · exact absurd e z
    · exact z
  · rcases h3 x hx with z | z
    · exact absurd e z
    · exact z
  · rcases h4 x hx with (z | z) | z
    · exact absurd e z
    · exact .inl z
    · exact .inr z
  · have hi : i < cap.length:=(List.getElem?_eq_some_iff.mp e).1
    have:=h6 i (List.mem_range.mpr hi)
    rw [e] at this
    simp only at this
    cases e1 : N'[i]? with
    | none=>rw [e1] at this; cases this
    | some a=>
      cases e2 : N[j]? with
      | none=>rw [e1,e2] at this; cases this
      | some b=>
        rw [e1,e2] at this
        simp only [Bool.and_eq_true,beq_iff_eq] at this
        obtain ⟨rfl,z⟩:=this
        exact ⟨a,rfl,rfl,z⟩
def blkC (X : Cx) (N' : List Str) (sc : Scope) (cl : List (Str × Addr)) (C : Addr) (s0 : Shared) (H0 : Hp) (ex : List Addr) : Cx:=
  { X with N:=N',s₀:=s0,H₀:=H0,env:=compEnvC sc cl C X.env,outer:=X.stack,ex:=ex,fn:=fun x=>sc.names.lookup x == some .cell,pn:=[],xe:=fun _ _=>False }
section
variable {X : Cx}
theorem blk_invC {pins : List (Addr × Obj)} {σ : St} {H : Hp} {s : Shared} {N N' : List Str} {sc scE : Scope} {cap : List (Option Nat)} {cl : List (Str × Addr)} {fp : List Addr}
    (I : Inv X pins σ H s) (hN : X.N = N) (hE : X.env.scope = scE) (ck : CompOkC N N' sc scE cap) (c1 : ∀ x c,cl.lookup x = some c -> X.env.cells.lookup x = some c) (c2 : ∀ x ∈ sc.names,x.2 = .free -> ∃ c,cl.lookup x.1 = some c)
    (hf : ∀ b ∈ fp,FpOk X pins H b) (hfs : ∀ b ∈ fp,b < s.heap.objs.size) :
    Inv (blkC X N' sc (cellsFrom (s.heap.objs.size + 1) sc.names cl) s.heap.objs.size s H fp) [] (capOf cap σ) H { s with heap:=pushCells (s.heap.push { cls:=.type "dict",data:=.dict #[] }) sc.names }:=by
  obtain ⟨h₁,hh₁⟩ : ∃ h₁,pushCells (s.heap.push { cls:=.type "dict",data:=.dict #[] }) sc.names = h₁:=⟨_,rfl⟩
  obtain ⟨cl',hcl'⟩ : ∃ cl',cellsFrom (s.heap.objs.size + 1) sc.names cl = cl':=⟨_,rfl⟩
  rw [hh₁,hcl']
  have keep : ∀ b o,s.heap.get? b = some o -> h₁.get? b = some o:=fun b o e=>by rw [<- hh₁]; exact pushCells_keeps _ _ b o (Heap.get?_push_of_some _ e)
  have hns : h₁.Ns s.heap.objs.size (fun _=>none):=by rw [<- hh₁]; exact (Heap.Ns.new s.heap (.type "dict")).keeps (pushCells_keeps _ _)
  have look : ∀ x c,cl'.lookup x = some c -> cl.lookup x = some c \/ (s.heap.objs.size + 1 <= c /\ h₁.IsCell c none):=fun x c e=>by
    rw [<- hcl'] at e
    have:=cellsFrom_look (sc.names) (s.heap.push { cls:=.type "dict",data:=.dict #[] }) cl x c (by rw [Heap.size_push]; exact e)
    rw [Heap.size_push,hh₁] at this
    rcases this with z | ⟨_,z,z'⟩
    · exact .inl z
    · exact .inr ⟨z,z'⟩
  have cellLt : ∀ x c,cl.lookup x = some c -> c < s.heap.objs.size:=fun x c e=>by
    obtain ⟨v,o,ho,_⟩:=I.cell x c (c1 x c e)
    exact Heap.lt_size ho
  have inj : ∀ x y c,cl'.lookup x = some c -> cl'.lookup y = some c -> x = y:=by
    rw [<- hcl']
    exact cellsFrom_inj _ _ _ (fun x c e=>Nat.lt_succ_of_lt (cellLt x c e)) fun x y c a b=>I.ok.inj x y c (c1 x c a) (c1 y c b)
  have isC : ∀ x,sc.names.lookup x = some .cell -> ∃ c,cl'.lookup x = some c:=fun x e=>by
    rw [<- hcl']
    exact Option.isSome_iff_exists.mp (PySem.W.cellsFrom_some _ _ _ (.inl e))
  have isF : ∀ x,sc.names.lookup x = some .free -> cl'.lookup x = cl.lookup x:=fun x e=>by
    rw [<- hcl']
    refine cellsFrom_old _ _ _ fun z=>?_
    have:=ck.cel _ z rfl
    rw [e] at this; cases this
  have kindOf : ∀ x k,(compEnvC sc cl' s.heap.objs.size X.env).kindOf x = some k -> k = .cell \/ k = .free -> sc.names.lookup x = some .free \/ sc.names.lookup x = some .cell:=fun x k e hk=>by
    have e' : (relabel sc X.env).names.lookup x = some k:=e
    rw [relabel_lookup] at e'
    cases q : sc.names.lookup x with
    | none=>rw [q] at e'; cases e'
    | some k'=>
      rw [q] at e'
      have e'' : (if (k' == NameKind.free && X.env.scope.kind == .function && X.env.kindOf x == some .cell) = true then NameKind.cell else k') = k:=Option.some.inj e'
      by_cases hc : (k' == NameKind.free && X.env.scope.kind == .function && X.env.kindOf x == some .cell) = true
      · simp only [Bool.and_eq_true,beq_iff_eq] at hc
        rw [hc.1.1]; exact .inl rfl
      · rw [if_neg hc] at e''
        subst e''
        rcases hk with z | z
        · rw [z]; exact .inr rfl
        · rw [z]; exact .inl rfl
  have cellAt : ∀ x c,X.env.cells.lookup x = some c -> ∀ v,s.heap.IsCell c v -> h₁.IsCell c v:=fun x c e v ⟨o,ho,hd⟩=>⟨o,keep c o ho,hd⟩
  have Hnew : ∀ c,s.heap.objs.size <= c -> H c = none:=fun c hc=>I.hok.fresh hc
  refine ⟨⟨I.ok.mod,ck.kind,I.ok.glob,I.ok.blt,Nat.le_refl _,inj,fun x hx=>?_,fun x c h1 h2=>?_,I.ok.hd,I.ok.frames,.inl rfl,fun b hb=>?_,I.bs,
    Nat.le_trans I.ok.bsz I.sz,fun b o e hb=>?_,fun b hb hz=>?_,I.stack,I.stkFree⟩,rfl,I.bare,Un.kept keep,⟨_,hns,fun i x v e1 e2 e3=>?_⟩,fun x c e=>?_,Hnew _ (Nat.le_refl _),fun x c e=>?_,fun p hp=>(by cases hp),I.hok.kept keep,?_⟩
  · have hx : (compEnvC sc cl' s.heap.objs.size X.env).kindOf x = some .cell \/ (compEnvC sc cl' s.heap.objs.size X.env).kindOf x = some .free:=hx
    have q : sc.names.lookup x = some .free \/ sc.names.lookup x = some .cell:=by
      rcases hx with z | z
      · exact kindOf x _ z (.inl rfl)
      · exact kindOf x _ z (.inr rfl)
    rcases q with q | q
    · obtain ⟨c,hc⟩:=c2 _ (PySem.mem_of_lookup q) rfl
      exact ⟨c,(isF x q).trans hc⟩
    · exact isC x q
  · have h1 : sc.names.lookup x = some .cell:=by simpa [blkC] using h1
    have h2 : cl'.lookup x = some c:=h2
    rw [<- hcl'] at h2
    exact Nat.le_trans (Nat.le_succ _) (cellsFrom_new _ _ _ (PySem.mem_of_lookup h1) h2)
  · refine ⟨Nat.ne_of_lt (hfs b hb),fun x c e=>?_⟩
    rcases look x c e with z | ⟨z,_⟩
    · exact (hf b hb).2.2.2.2.1 x c (c1 x c z)
    · exact fun q=>absurd (Nat.lt_of_lt_of_le (hfs b hb) (Nat.le_trans (Nat.le_succ _) (q ▸ z))) (Nat.lt_irrefl _)
  · rcases (hf b hb).2.2.2.1 with z | z
    · exact I.ok.noex b o e z
    · exact absurd (Nat.lt_of_lt_of_le (Heap.lt_size e) (Nat.le_trans I.ok.bsz z)) (Nat.lt_irrefl _)
  · rcases List.mem_cons.mp (I.stkSub b hz) with e | z
    · exact (hf b hb).2.1 e
    · exact (hf b hb).2.2.1 z
  · have e1 : N'[i]? = some x:=e1
    have e2 : (capOf cap σ)[i]? = some (some v):=e2
    unfold capOf at e2
    rw [List.getElem?_map] at e2
    cases q : cap[i]? with
    | none=>rw [q] at e2; cases e2
    | some oj=>
      rw [q] at e2
      cases oj with
      | none=>cases e2
      | some j=>
        obtain ⟨y,z1,z2,z3⟩:=ck.at_ i j q
        rw [e1] at z1; cases z1
        have ev : σ[j]? = some (some v):=by
          have e2' : (σ[j]?).join = some v:=Option.some.inj e2
          cases r : σ[j]? with
          | none=>rw [r] at e2'; cases e2'
          | some o=>rw [r] at e2'; exact congrArg some e2'
        obtain ⟨m',hm',hl⟩:=I.loc
        have sK : X.env.scope.names.lookup x = some .cell \/ X.env.scope.names.lookup x = some .free:=by rw [hE]; exact ck.fre _ (PySem.mem_of_lookup z3) rfl
        obtain ⟨u,ru,l⟩:=hl j x v (by rw [hN]; exact z2) ev (sK.elim (fun z=>.inr (.inl z)) fun z=>.inr (.inr z))
        refine ⟨u,ru,?_⟩
        obtain ⟨c,hc⟩:=c2 _ (PySem.mem_of_lookup z3) rfl
        rcases l with ⟨k,_⟩ | ⟨k,c',hc',hcell⟩
        · have k : X.env.scope.names.lookup x = some .local:=k
          rcases sK with z | z <;> (rw [k] at z; cases z)
        · have : c = c':=by
            have q1:=c1 x c hc
            rw [hc'] at q1
            exact (Option.some.inj q1).symm
          subst this
          refine .inr ⟨?_,c,(isF x z3).trans hc,cellAt x c hc' _ hcell⟩
          show (relabel sc X.env).names.lookup x = some .cell \/ (relabel sc X.env).names.lookup x = some .free
          rw [relabel_lookup,z3]
          show some (if _ then NameKind.cell else NameKind.free) = _ \/ some (if _ then NameKind.cell else NameKind.free) = _
          split
          · exact .inl rfl
          · exact .inr rfl
  · rcases look x c e with z | ⟨_,z⟩
    · obtain ⟨v,q⟩:=I.cell x c (c1 x c z)
      exact ⟨v,cellAt x c (c1 x c z) v q⟩
    · exact ⟨_,z⟩
  · rcases look x c e with z | ⟨z,_⟩
    · exact I.freeC x c (c1 x c z)
    · exact Hnew c (by omega)
  · unfold capOf
    show _ = N'.length
    rw [List.length_map]
    exact ck.len
end
end L2
namespace L2
open PySem PySem.Spec PyProof.Rows
section
variable {X : Cx}
end
end L2
namespace PySem
open Sem (wp)
section
variable {prog : Program} {w : World} {A : Around} {E : Value -> Shared -> Prop} {hp : Heap} {gs : Array GenState} {dr : Drawn} {tk : Nat} {sy : OsState}
variable {cn cq : Str} {kC kN : Addr} {bas tl tB : List Value} {hd : Bool} {sns : List Str} {subs : List Value} {abb : Bool} {coll : Option Bool} {dic : Option Addr} {j0 j1 j2 j3 j5 : Option Value} {BB Bn newI nI initI inN : String} {tN : List Value}
end
section
variable {M : Model} {A : Around} {E : Value -> Shared -> Prop} {env : Env}
variable {cn cq : Str} {kC kN : Addr} {bas tl : List Value} {hd : Bool} {sns : List Str} {subs : List Value} {abb : Bool} {coll : Option Bool} {dic : Option Addr} {j0 j1 j2 j3 j5 : Option Value} {newI : String}
end
end PySem
namespace L2
open PySem PySem.Spec PyProof.Rows PySem.W PySem.Builtin.ObjectAttr
section
variable {prog : Program} {w : World} {A : Around} {E : Value -> Shared -> Prop} {s : Shared} {K : Frag} {x C W : Addr} {name : Str} {v : Value}
end
end L2
namespace L2
open PySem PySem.Spec PyProof.Rows PySem.W
section
variable {prog : Program} {w : World} {A : Around} {E : Value -> Shared -> Prop} {s : Shared} {K : Frag} {x C W f : Addr}
end
section
variable {X : Cx} {x C W f : Addr}
end
end L2
namespace PySem
open Sem (wp)
def fld2 (o : Obj) : Option Value:=match o.data with | .fields vs=>vs[2]? | _=>none
theorem fld2_map {o : Obj} {vs : Array Value} {x : Value} (od : o.data = .fields vs) : fld2 (Obj.mapFields (·.setIfInBounds 1 x) o) = fld2 o:=by
  have d:=Obj.data_mapFields od (·.setIfInBounds 1 x)
  unfold fld2
  rw [d,od]
  exact Array.getElem?_setIfInBounds_ne (by decide)
section
variable {M : Model} {A : Around} {E : Value -> Shared -> Prop} {s : Shared} {bs : Heap} {en : Env} {ou : List Env} {L e : Addr} {ob : Obj} {vs : Array Value} {a0 : Value} {Q : Unit -> Shared -> Prop}
theorem entry_dict {head : Value} {nx : Bool} (fr : A.frames = some (en :: ou)) (ff : s.heap.FunFrames bs (en :: ou)) (ef : en.frame = some L) (oe : s.heap.get? e = some ob) (kb : bs.StaysIn s.heap) (ne : bs.get? e = none)
    (od : ob.data = .fields vs) (z1 : 1 < vs.size) (z0 : vs[0]? = some a0)
    (h : ∀ h',Heap.LeftW bs (en :: ou) e ob.cls a0 s.heap h' -> (∃ o',h'.get? e = some o' /\ o'.dict = ob.dict /\ fld2 o' = fld2 ob) -> Q () { s with heap:=h' }) :
    wpAny M A (do
      let a <- frameOf en
      let pl <- entryPlaceOf L nx
      let b <- EntryCells.newEntry head a .none (rawInt L) .none pl
      setField (.ref e) 1 b) (fun _ s'=>wpAny M A (setFlight (.ref e) none) Q E s') E s:=by
  have nf : e ∉ (en :: ou).filterMap (·.frame):=fun m=>by
    obtain ⟨_,o,q,n⟩:=ff.mem m
    rw [oe] at q
    cases q
    exact n vs od
  refine wpAny_bind (wpAny_frameOf_fun fr ff ef fun g gs=>?_)
  refine wpAny_bind (wpAny_entryPlaceOf fun pl hp=>?_)
  unfold EntryCells.newEntry newFields
  refine wpAny_bind (wpAny_newObj_type ?_ (hp.sizeOk5 _ _ _ _ _))
  have ge : g.get? e = some ob:=(gs.2.1 e nf).trans oe
  have gb : bs.StaysIn g:=fun b o q=>(gs.2.1 b fun m=>by
    rw [(ff.mem m).1] at q
    cases q).trans (kb b o q)
  obtain ⟨tb,etb⟩ : ∃ tb : List Value,[head,.ref L,.none,rawInt L,.none] ++ (if pl.isEmpty then List.replicate 6 Value.none else pl) = tb:=⟨_,rfl⟩
  have l5 : 3 < tb.length /\ tb[3]? = some (rawInt L):=by
    rw [<- etb]
    exact ⟨by simp,by simp⟩
  rw [etb]
  have ge2:=Heap.get?_push_of_some (h:=g) { cls:=.type "traceback",dict:=none,data:=.fields tb.toArray } ge
  refine wpAny_setField ge2 od z1 ?_
  have te : g.objs.size ≠ e:=Nat.ne_of_gt (Heap.lt_size ge)
  have d3:=Obj.data_mapFields od (·.setIfInBounds 1 (Value.ref g.objs.size))
  have ge3:=Heap.get?_update_self (Obj.mapFields (·.setIfInBounds 1 (Value.ref g.objs.size))) ge2 (Obj.isFreed_of_fields d3)
  have gt3:=(Heap.get?_update_other (g.push { cls:=.type "traceback",dict:=none,data:=.fields tb.toArray })
    (Obj.mapFields (·.setIfInBounds 1 (Value.ref g.objs.size))) te.symm).trans
    (Heap.get?_push_size g rfl)
  unfold setFlight
  refine wpAny_bind (wpAny_field ge3 d3 (x:=.ref g.objs.size) (by simp [z1]) ?_)
  rw [if_pos (show (Value.ref g.objs.size != Value.none) = true by simp)]
  refine wpAny_setField gt3 rfl (by simpa using l5.1) (h _ ?_ ?_)
  all_goals
    obtain ⟨g3,eg3⟩ : ∃ g3,((g.push { cls:=.type "traceback",dict:=none,data:=.fields tb.toArray }).update e (Obj.mapFields (·.setIfInBounds 1 (Value.ref g.objs.size)))) = g3:=⟨_,rfl⟩
    rw [eg3] at ge3 gt3 ⊢
  · have kp : ∀ b o,b ≠ e -> g.get? b = some o -> (g3.update g.objs.size (Obj.mapFields (·.setIfInBounds 3 ((none : Option Addr).elim Value.none fun f=>rawInt f)))).get? b = some o:=fun b o n q=>by
      rw [Heap.get?_update_other _ _ (Nat.ne_of_gt (Heap.lt_size q)),<- eg3,Heap.get?_update_other _ _ n.symm]
      exact Heap.get?_push_of_some _ q
    have nr : ∀ b o,s.heap.get? b = some o -> (∀ ws,o.data ≠ .fields ws) -> b ≠ e:=fun b o q n z=>by
      rw [z,oe] at q
      cases q
      exact n vs od
    refine ⟨fun b o q=>kp b o (fun z=>by rw [z,ne] at q; cases q) (gb b o q),ff.of_keeps fun b o q n=>?_,?_,fun b o q n=>?_⟩
    · obtain ⟨sl,z⟩:=gs.2.2 b o q
      exact ⟨_,kp b _ (nr b o q n) z,rfl⟩
    · refine ⟨_,_,g.objs.size,_,_,?_,⟨Obj.cls_mapFields _ _,?_⟩,d3,by simp [z1],gb.fresh,te,Heap.get?_update_self _ gt3 (Obj.isFreed_of_fields (Obj.data_mapFields rfl _)),Obj.data_mapFields rfl _,?_⟩
      · rw [Heap.get?_update_other _ _ te]
        exact ge3
      · rw [Array.getElem?_setIfInBounds_ne (by decide)]
        exact z0
      · have:=l5.1
        simp [this]
    · obtain ⟨sl,z⟩:=gs.2.2 b o q
      exact ⟨sl,kp b _ (nr b o q n) z⟩
  · refine ⟨_,(Heap.get?_update_other _ _ te).trans ge3,?_,fld2_map od⟩
    cases ob with
    | mk c d dt sl=>cases dt <;> first | rfl | cases od
theorem leave1_dict (fr : A.frames = some (en :: ou)) (ff : s.heap.FunFrames bs (en :: ou)) (ef : en.frame = some L) (oe : s.heap.get? e = some ob) (kb : bs.StaysIn s.heap) (ne : bs.get? e = none)
    (od : ob.data = .fields vs) (z1 : vs[1]? = some .none) (z0 : vs[0]? = some a0)
    (h : ∀ h',Heap.LeftW bs (en :: ou) e ob.cls a0 s.heap h' -> (∃ o',h'.get? e = some o' /\ o'.dict = ob.dict /\ fld2 o' = fld2 ob) -> Q () { s with heap:=h' }) : wpAny M A (leaving en (.ref e)) Q E s:=by
  unfold leaving noteFrame
  simp only [ef]
  refine wpAny_bind (wpAny_bind (wpAny_field oe od z1 ?_))
  rw [if_neg (by decide)]
  exact entry_dict fr ff ef oe kb ne od (Array.getElem?_eq_some_iff.mp z1).1 z0 h
theorem leave2_dict {cls : Value} {dv : Option Addr} (fr : A.frames = some (en :: ou)) (ef : en.frame = some L) (fl : Heap.FlyingW bs (en :: ou) e cls a0 s.heap) (dd : ∃ o',s.heap.get? e = some o' /\ o'.dict = dv /\ fld2 o' = some .none)
    (h : ∀ h',Heap.FlyingW bs ou e cls a0 h' -> (∃ o',h'.get? e = some o' /\ o'.dict = dv /\ fld2 o' = some .none) -> s.heap.UpToSlots h' -> Q () { s with heap:=h' }) : wpAny M A (leaving en (.ref e)) Q E s:=by
  obtain ⟨kb,ne,ff,oe,ws,T,oT,ts,he,⟨hc,z0⟩,od,z1,nT,Te,hT,dT,z3⟩:=fl
  obtain ⟨o',ho',hdv,hfl⟩:=dd
  rw [he] at ho'
  cases ho'
  unfold leaving noteFrame
  simp only [ef]
  refine wpAny_bind (wpAny_bind (wpAny_field he od z1 ?_))
  rw [if_pos (show (Value.ref T != Value.none) = true by simp)]
  refine wpAny_bind (wpAny_field hT dT z3 ?_)
  rw [if_neg (show ¬ ((Value.none == rawInt L) = true) by simp [rawInt])]
  refine wpAny_bind (wpAny_setField hT dT (Array.getElem?_eq_some_iff.mp z3).1 ?_)
  have ot : ∀ b,b ≠ T -> (s.heap.update T (Obj.mapFields (·.setIfInBounds 3 Value.none))).get? b = s.heap.get? b:=fun b n=>Heap.get?_update_other _ _ n.symm
  have nr : ∀ b o,s.heap.get? b = some o -> (∀ ws,o.data ≠ .fields ws) -> b ≠ T:=fun b o q n z=>by
    rw [z,hT] at q
    cases q
    exact n ts dT
  refine entry_dict fr (ff.of_keeps fun b o q n=>⟨o,(ot b (nr b o q n)).trans q,rfl⟩) ef ((ot e Te.symm).trans he) (fun b o q=>(ot b fun z=>by rw [z,nT] at q; cases q).trans (kb b o q)) ne od (Array.getElem?_eq_some_iff.mp z1).1 z0 fun h' lf d'=>?_
  obtain ⟨k1,⟨_,_,k2⟩,k3,k4⟩:=lf
  rw [hc] at k3
  exact h h' ⟨k1,ne,k2,k3⟩ (d'.imp fun o q=>⟨q.1,q.2.1.trans hdv,q.2.2.trans hfl⟩) fun b o q n=>k4 b o ((ot b (nr b o q n)).trans q) n
end
end PySem
namespace L2
open PySem PySem.Spec PyProof.Rows
def CXD (P : Program) (w : World) : CXT:=fun outer H s E e s'=>∃ a cls a0 dv H' B,e = Value.ref a /\ Fly P w outer H H' s s' a cls a0 B /\ (∃ o',s'.heap.get? a = some o' /\ o'.dict = dv /\ fld2 o' = some .none) /\ E cls dv H'
theorem pass00D {P : Program} {w : World} {X : Cx} : Passes (CXD P w) X E0:=fun _ _ _ _ _ _ _ h=>by
  obtain ⟨_,_,_,_,_,_,_,_,_,z⟩:=h
  exact z.elim
section
variable {P : Program} {w : World} {K : PySem.W.Frag} {mg : Str -> Option Value} {base : Heap} {N : List Str} {qual : Str} {scope : Scope} {f : Addr} {cd : Value} {A : Around} {outer : List Env} {s : Shared} {H : Hp} {E : XK}
abbrev cxD (P : Program) (w : World) (K : PySem.W.Frag) (mg : Str -> Option Value) (base : Heap) (N : List Str) (qual : Str) (scope : Scope) (f : Addr) (cd : Value) (A : Around) (outer : List Env) (s : Shared) (H : Hp) (E : XK) : Cx:=cxOf (CXD P w) P w K mg base N qual scope f cd A outer s H E
theorem stk_neD {pins : List (Addr × Obj)} {σ : St} {H1 : Hp} {s1 : Shared} (I : Inv (cxD P w K mg base N qual scope f cd A outer s H E) pins σ H1 s1) {b : Addr} {o : Obj} (e : s.heap.get? b = some o) (n : b ∉ frs outer) : b ∉ frs (cxD P w K mg base N qual scope f cd A outer s H E).stack:=fun hb=>by
  rcases List.mem_cons.mp (I.stkSub b hb) with z | z
  · have h1 : b < s.heap.objs.size:=Heap.lt_size e
    have h2 : s.heap.objs.size <= (cxD P w K mg base N qual scope f cd A outer s H E).env.locals:=I.ok.above
    rw [<- z] at h2
    exact absurd (Nat.lt_of_lt_of_le h1 h2) (Nat.lt_irrefl _)
  · exact n z
theorem frs_subD {b : Addr} (h : b ∈ frs outer) : b ∈ frs (cxD P w K mg base N qual scope f cd A outer s H E).stack:=by
  show b ∈ frs (_ :: outer)
  unfold frs at h ⊢
  rw [List.filterMap_cons]
  split
  · exact h
  · exact List.mem_cons_of_mem _ h
theorem raiseD {pins : List (Addr × Obj)} {σ : St} {H1 : Hp} {s1 : Shared} {hx : Heap} {e C t : Addr} {dv : Option Addr} (I : Inv (cxD P w K mg base N qual scope f cd A outer s H E) pins σ H1 s1)
    (hk : ∀ b o,b ≠ e -> s1.heap.get? b = some o -> hx.get? b = some o) (he1 : ∀ o,s1.heap.get? e = some o -> ∃ vs,o.data = .fields vs) (new : s.heap.get? e = none) (hH : H1 e = none)
    (oe : hx.get? e = some { cls:=.ref C,dict:=dv,data:=.fields #[.ref t,.none,.none,.none,.bool false,.none] }) (hE : E (.ref C) dv H1) :
    (cxD P w K mg base N qual scope f cd A outer s H E).xe (.ref e) { s1 with heap:=hx }:=by
  have hin : ∀ en ∈ (cxD P w K mg base N qual scope f cd A outer s H E).stack,∀ b,en.frame = some b -> b ∈ e :: frs (cxD P w K mg base N qual scope f cd A outer s H E).stack:=fun en he b hb=>List.mem_cons_of_mem _ (List.mem_filterMap.mpr ⟨en,he,hb⟩)
  have ff:=PySem.W.funFrames_hide I.stack hin
  have nee : ∀ b o,s1.heap.get? b = some o -> (∀ vs,o.data ≠ .fields vs) -> b ≠ e:=fun b o q n z=>by
    subst z
    obtain ⟨vs,d⟩:=he1 o q
    exact n vs d
  have hid : (PySem.W.hideAll s1.heap (e :: frs (cxD P w K mg base N qual scope f cd A outer s H E).stack)).get? e = none:=PySem.W.hideAll_none _ List.mem_cons_self
  have kb : (PySem.W.hideAll s1.heap (e :: frs (cxD P w K mg base N qual scope f cd A outer s H E).stack)).StaysIn hx:=fun b o q=>hk b o (fun z=>by rw [z,hid] at q; cases q) (PySem.W.of_hideAll _ q)
  show wpAny (model P w) _ (leaving _ (.ref e)) _ _ _
  refine leave1_dict (bs:=PySem.W.hideAll s1.heap (e :: frs (cxD P w K mg base N qual scope f cd A outer s H E).stack)) (a0:=.ref t) (s:={ s1 with heap:=hx }) I.ok.frames (ff.of_keeps fun b o q n=>⟨o,hk b o (nee b o q n) q,rfl⟩) rfl oe kb hid rfl rfl rfl fun h2 lf dd=>?_
  obtain ⟨k1,⟨_,_,k2⟩,k3,k4⟩:=lf
  have noex : ∀ b : Addr,b ∉ (cxD P w K mg base N qual scope f cd A outer s H E).ex:=fun b z=>absurd (show b ∈ ([] : List Addr) from z) (by simp)
  have nse : ∀ b o,s.heap.get? b = some o -> b ≠ e:=fun b o q z=>by rw [z,new] at q; cases q
  have out : ∀ b o,s.heap.get? b = some o -> b ∉ frs outer -> b ∉ e :: frs (cxD P w K mg base N qual scope f cd A outer s H E).stack:=fun b o q n m=>by
    rcases List.mem_cons.mp m with z | z
    · exact nse b o q z
    · exact stk_neD I q n z
  refine ⟨e,.ref C,.ref t,dv,H1,_,rfl,⟨I.os,I.bare,⟨k1,hid,k2,k3⟩,fun b u q=>?_,fun b o q n hb=>?_,fun b o q hb=>?_,fun b o q hb=>?_,fun b o q n=>I.base.free b o q n (noex b),I.base.tups,I.base.frzs,I.base.tbls⟩,dd,hE⟩
  · have ne : ∀ c v,H1 c = some v -> c ∉ e :: frs (cxD P w K mg base N qual scope f cd A outer s H E).stack:=fun c v z m=>by
      rcases List.mem_cons.mp m with m | m
      · rw [m,hH] at z; cases z
      · rw [I.stkFree c m] at z; cases z
    refine (I.hok b u q).stay (fun c v hc r=>PySem.W.hideAll_get _ r ?_) (fun _ r=>r) fun _ _ r=>r
    rcases hc with rfl | hc
    · exact ne c u q
    · exact ne c _ hc
  · exact PySem.W.hideAll_get _ (I.base.keep b o q n hb (noex b)) (out b o q hb)
  · obtain ⟨o',z⟩:=I.base.there b o q (noex b)
    exact ⟨o',PySem.W.hideAll_get _ z (out b o q hb)⟩
  · obtain ⟨sl,z⟩:=I.base.slot b o q (I.ok.frf b hb) hb (noex b)
    obtain ⟨_,o',ho',hnf⟩:=I.ok.funs.mem hb
    have ho2 : s.heap.get? b = some o':=ho'
    rw [q] at ho2
    cases ho2
    obtain ⟨sl',z'⟩:=k4 b _ (hk b _ (nse b o q) z) hnf
    exact ⟨sl',z'⟩
theorem pass_onD : Passes (CXD P w) (cxD P w K mg base N qual scope f cd A outer s H E) E:=by
  intro pins σ H1 s1 e s' I h
  obtain ⟨a,cls,a0,dv,H',B,rfl,F,dd,hE⟩:=h
  show wpAny (model P w) _ (leaving _ (.ref a)) _ _ _
  have noex : ∀ b : Addr,b ∉ (cxD P w K mg base N qual scope f cd A outer s H E).ex:=fun b z=>absurd (show b ∈ ([] : List Addr) from z) (by simp)
  refine leave2_dict I.ok.frames rfl F.fl dd fun h2 x1 d2 x2=>?_
  refine ⟨a,cls,a0,dv,H',B,rfl,⟨F.os.trans I.os,F.bare,x1,F.hokB,fun b o q n hb=>?_,fun b o q hb=>?_,fun b o q hb=>?_,fun b o q n=>?_,fun b xs q=>F.tups b xs (I.base.tups b xs q),fun b o u q=>F.frzs b o u (I.base.frzs b o u q),fun b ps q=>?_⟩,d2,hE⟩
  · exact F.keep b o (I.base.keep b o q n hb (noex b)) (I.base.free b o q n (noex b)) (stk_neD I q hb)
  · obtain ⟨o',z⟩:=I.base.there b o q (noex b)
    exact F.there b o' z (stk_neD I q hb)
  · obtain ⟨sl,z⟩:=I.base.slot b o q (I.ok.frf b hb) hb (noex b)
    obtain ⟨_,o',ho',hnf⟩:=I.ok.funs.mem hb
    have ho2 : s.heap.get? b = some o':=ho'
    rw [q] at ho2
    cases ho2
    obtain ⟨sl',z'⟩:=F.slot b _ z (frs_subD hb)
    obtain ⟨sl2,z2⟩:=x2 b _ z' hnf
    exact ⟨sl2,z2⟩
  · obtain ⟨o',z⟩:=I.base.there b o q (noex b)
    exact F.free b o' z (I.base.free b o q n (noex b))
  · obtain ⟨m1,e1⟩:=I.base.tbls b ps q
    obtain ⟨m2,e2⟩:=F.tbls b _ e1
    exact ⟨m1 ++ m2,by rw [e2,Array.append_assoc]⟩
end
section
variable {X : Cx}
def RaiseD (X : Cx) (E : XK) : Prop:=∀ (pins : List (Addr × Obj)) (σ : St) (H0 H1 : Hp) (s0 s1 : Shared) (hx : Heap) (e C t : Addr) (dv : Option Addr),Inv X pins σ H0 s0 -> s0.heap.get? e = none -> Inv X pins σ H1 s1 -> (∀ b o,b ≠ e -> s1.heap.get? b = some o -> hx.get? b = some o) ->
  (∀ o,s1.heap.get? e = some o -> ∃ vs,o.data = .fields vs) -> H1 e = none -> hx.get? e = some { cls:=.ref C,dict:=dv,data:=.fields #[.ref t,.none,.none,.none,.bool false,.none] } -> E (.ref C) dv H1 -> X.xe (.ref e) { s1 with heap:=hx }
theorem ps_raiseD {x : Str} {C : Addr} {e : Expr} {t : TA} {E : XK} {np cpos pos : Pos} (hcalm : X.calm = true) (RO : RaiseD X E) (hg : Gl X x) (hm : X.mg x = some (.ref C)) (q : PySem.W.excIn X.K C bmVE "ValueError.__new__" = true) (ha : PA X [e] t)
    (hdb : (x == ("__debug__" : Str)) = false:=by decide) (he : starEach [e] X.env = [(false,eval e X.env)]:=by rfl) : PS X (.Raise (some (.Call (.Name x np) [e] [] cpos)) none pos) (tRaise C E t):=by
  intro pins s σ H D I h
  obtain ⟨tl,N,nm,qn,bs,hdct,sn,sub,ab,col,dd,k0,k1,k2,k3,k5,mN,hC,hN,hni,T⟩:=(own_obj I.mod.kin hm q).obj
  refine wpAny_Raise_call_subU (C:=C) (nm:=nm) (q:=qn) (N:=N) (bs:=bs) (bm:=tl) (hdct:=hdct) (sn:=sn) (sub:=sub) (ab:=ab) (col:=col) (dd:=dd) (k0:=k0) (k1:=k1) (k2:=k2) (k3:=k3) (k5:=k5)
    PySem.F.excBase_ValueError (by decide +kernel) PySem.F.excBase_ValueError (mN:=mN) (T.hasType (by decide +kernel)) (I.ok.hd hcalm) (by rw [he]; rfl) hni (ld_glob I hg hm ⟨rfl,?_⟩ hdb)
  have ha':=ha cpos pins s σ H _ I h
  rw [he] at ha' ⊢
  refine Calls.evalArgs_plain (wpAny_mono ha' (fun us s1 ⟨vs,H1,I1,r,z,hE⟩=>?_) fun _ _ y=>y)
  refine ⟨rfl,by rw [<- r.length]; exact z,I1.bk _ _ hC,hN.keeps I1.bk,T.keeps I1.bk,fun h' e' hx=>?_⟩
  obtain ⟨t,oe,_,_⟩:=hx.there
  exact RO pins σ H1 H1 s1 s1 h' e' C t none I1 hx.new I1 (fun b o _ k=>hx.keeps b o k) (fun o k=>by rw [hx.new] at k; cases k) (I1.hok.none_of hx.new) oe hE
end
theorem raiseDok {P : Program} {w : World} {K : PySem.W.Frag} {mg : Str -> Option Value} {base : Heap} {N : List Str} {qual : Str} {scope : Scope} {f : Addr} {cd : Value} {A : Around} {outer : List Env} {s : Shared} {H : Hp} {E : XK} :
    RaiseD (cxD P w K mg base N qual scope f cd A outer s H E) E:=fun pins σ H0 H1 s0 s1 hx e C t dv I0 g0 I hk he1 hH oe hE=>by
  refine raiseD I hk he1 ?_ hH oe hE
  cases q : s.heap.get? e with
  | none=>rfl
  | some o=>
    obtain ⟨o',z⟩:=I0.base.there e o q (fun z=>absurd (show e ∈ ([] : List Addr) from z) (by simp))
    rw [g0] at z; cases z
theorem Fun.okD {P : Program} {w : World} {K : PySem.W.Frag} {mg : Str -> Option Value} {base : Heap} {x qual : Str} {st : Stmt} {f : Addr} {fd : FuncData} {N ps : List Str} {k : Nat} {sp : Sp} (F : Fun K x qual st f fd) (S : FnScope N ps (defScope st)) (len : ∀ vs H Q E,sp vs H Q E -> vs.length = ps.length)
    (hbody : ∀ (cdv : Value) (A : Around) (outer : List Env) (s : Shared) (H : Hp) (vs : List V) (Q : VK) (E : XK),Room k (A.deeper (envOfC qual (defScope st) s.heap.objs.size f cdv)) -> sp vs H Q E ->
      ∃ t,PSs (cxD P w K mg base N qual (defScope st) f cdv A outer s H E) (defBody st) t /\ t { nx:=fun _ H'=>Q .non H',rt:=Q } (start N vs) H) : FnOk P w K mg base (CXD P w) (k + 1) f fd ps sp:=by
  obtain ⟨oc,od,kV,doc,pm,an,cdv,ct,osl,rfl,lk,hcd⟩:=F.ex
  exact fn_of lk hcd S len fun A outer s H vs Q E hr hsp=>hbody cdv A outer s H vs Q E hr hsp
end L2
namespace L2
open PySem PySem.Spec PyProof.Rows PySem.W PySem.Builtin.Getset_descriptor
section
variable {prog : Program} {w : World} {A : Around} {E : Value -> Shared -> Prop} {h : Heap} {g : Array GenState} {d : Drawn} {t : Nat} {os : OsState} {K : Frag} {x C dx : Addr} {name : Str} {v : Value} {m : Str -> Option Value}
end
section
variable {X : Cx}
end
section
variable {X : Cx} {pins : List (Addr × Obj)} {σ : St} {H H' : Hp} {s s' : Shared} {a C : Addr}
end
end L2
namespace L2
open PySem PySem.Spec PyProof.Rows
section
variable {X : Cx}
end
section
variable {X : Cx}
end
end L2
namespace L2
open PySem PySem.Spec PyProof.Rows PySem.W PySem.Builtin.Getset_descriptor
section
variable {X : Cx} {pins : List (Addr × Obj)} {σ : St} {H H' : Hp} {s s' : Shared} {a C : Addr}
end
end L2
namespace L2
open PySem PySem.Spec PyProof.Rows
section
variable {X : Cx}
end
end L2
namespace L2
open PySem PySem.Spec PyProof.Rows PySem.W PySem.Builtin.Getset_descriptor
section
variable {X : Cx} {pins : List (Addr × Obj)} {σ : St} {H H' : Hp} {s s' : Shared} {a C : Addr}
end
section
variable {X : Cx}
end
end L2
namespace L2
open PySem PySem.Spec PyProof.Rows PySem.SeqAt
section
variable {prog : Program} {w : World} {A : Around} {E : Value -> Shared -> Prop} {s : Shared}
end
section
variable {X : Cx}
end
end L2
namespace L2
open PySem PySem.Spec PyProof.Rows PySem.SeqAt
section
variable {X : Cx}
end
end L2
namespace L2
open PySem PySem.Spec PyProof.Rows
section
variable {X : Cx}
def rCatT0 (K : PySem.W.Frag) : R2:=fun x y H Q=>∃ a b ys,x = .ref a /\ y = .ref b /\ SqT K H a [] /\ SqT K H b ys /\ Q (.ref b) H
theorem op_catT0 : OpR X (binaryOp .Add) (rCatT0 X.K):=by
  intro pins s σ H x y v u Q I rx ry h
  obtain ⟨a,b,ys,rfl,rfl,ha,hb,q⟩:=h
  cases rx
  cases ry
  obtain ⟨its,r1,p1,_⟩:=I.tuple ha
  obtain ⟨its2,r2,p2,_⟩:=I.tuple hb
  have e1 : its = []:=r1.nil_iff.mpr rfl
  subst e1
  obtain ⟨⟨cls,dd,data,sl⟩,ho,hc,n,hd⟩:=id p1
  obtain ⟨⟨cls2,dd2,data2,sl2⟩,ho2,hc2,n2,hd2⟩:=id p2
  simp only at hc hd hc2 hd2
  subst hc hd hc2 hd2
  exact concat_meets ⟨_,ho,rfl⟩ ⟨_,ho2,rfl⟩ noFill_tuple_add seq_tuple_add PySem.F.slot_tuple_add PySem.F.entry_tuple_add (PySem.F.args_tuple_add_2 _ _)
    (tuple_addW0 a b ([] : List Value).toArray its2.toArray n n2 dd dd2 sl sl2 (by simp)) ⟨ho,ho2,⟨.ref b,H,I,rfl,q⟩⟩
abbrev rCat2 (K : PySem.W.Frag) : R2:=fun x y H Q=>rCatT K x y H Q \/ rCatT0 K x y H Q
theorem op_cat2 : OpR X (binaryOp .Add) (rCat2 X.K):=op_catT.or op_catT0
end
end L2
namespace L2
open PySem PySem.Spec PyProof.Rows
def PTs (X : Cx) (ifs : List Expr) (t : TT) : Prop:=
  ∀ (pins : List (Addr × Obj)) (s : Shared) (σ : St) (H : Hp) (Q : Bool -> Hp -> Prop),Inv X pins σ H s -> t σ H Q ->
    wpAny (model X.prog X.w) X.A (forIn ifs true fun c r=>if r = true then do let ok <- isTrue c X.env (eval c X.env); pure (ForInStep.yield ok) else pure (ForInStep.yield r)) (TP X pins σ Q) X.xe s
def tTrue : TT:=fun _ H Q=>Q true H
theorem pts_nil {X : Cx} : PTs X [] tTrue:=fun _ _ _ H _ I h=>wpAny_tests_nil ⟨H,I,h⟩
theorem pts_one {X : Cx} {c : Expr} {t : TT} (h : PT X c t) : PTs X [c] t:=fun pins s σ H Q I q=>wpAny_tests_one (h pins s σ H Q I q)
def compBodyT (J : It) (cap : List (Option Nat)) (g : TG) (tt : TT) (te : TE) (σ : St) (H1 : Hp) (Q : VK) : Prop:=∀ acc,H1 acc = none ->
  ∃ W : Nat -> Nat -> List V -> St -> Hp -> Prop,(∃ m,W 0 m [] (capOf cap σ) (upd H1 acc (.lst []))) /\ ∀ i m ys σ' H',W i m ys σ' H' -> H' acc = some (.lst ys) /\
    ((J.stop i H' /\ Q (.ref acc) H') \/ (J.go i H' /\ ys.length < sizeLine /\ ∀ x H2,J.yld i H' x H2 -> g x σ' H2 fun σ3 H3=>tt σ3 H3 fun b H4=>
      if b = true then te σ3 H4 fun y H5=>H5 acc = some (.lst ys) /\ ∃ m',m' < m /\ W (i + 1) m' (ys ++ [y]) σ3 (upd H5 acc (.lst (ys ++ [y])))
      else ∃ m',m' < m /\ W (i + 1) m' ys σ3 H4))
def tCompT (cap : List (Option Nat)) (wi : TI) (g : TG) (tt : TT) (te : TE) : TE:=fun σ H Q=>wi σ H fun J H1=>compBodyT J cap g tt te σ H1 Q
section
variable {prog : Program} {w : World} {A : Around} {R : Result -> Shared -> Prop} {s : Shared}
theorem compLoop_anyT {elt target iter : Expr} {ifs : List Expr} {scope : Scope} {pos : Pos} {it acc : Value} {env : Env} (I : Nat -> Shared -> Prop)
    (turn : ∀ n s,I n s -> wpAny (model prog w) A (pyNext it) (fun r s₁=>match r with
      | none=>R (.ok .next) s₁
      | some v=>wpAny (model prog w) A (letOwnedTupleGo target it v) (fun _ s₁'=>wpAny (model prog w) A (assign target env v) (fun _ s₂=>
          wpAny (model prog w) A (forIn ifs true fun c r=>if r = true then do let ok <- isTrue c env (eval c env); pure (ForInStep.yield ok) else pure (ForInStep.yield r)) (fun ok s₃=>
            if ok = true then wpAny (model prog w) A (eval elt env) (fun x s₄=>
              wpAny (model prog w) A (call (.builtin "list.append") [acc,x]) (fun _ s₅=>∃ m,m < n /\ I m s₅) (fun _ _=>False) s₄) (fun _ _=>False) s₃
            else ∃ m,m < n /\ I m s₃) (fun _ _=>False) s₂)
          (fun _ _=>False) s₁') (fun _ _=>False) s₁) (fun _ _=>False) s)
    (n : Nat) (h : I n s) : codeAny (model prog w) A (.compLoop (.ListComp elt [⟨target,iter,ifs,0⟩] scope pos) 0 it acc env) R s:=by
  refine codeAny_loop rfl I (fun n s hI=>?_) n h
  show wpAny _ A ((compTurn (.ListComp elt [⟨target,iter,ifs,0⟩] scope pos) 0 it acc env).onRaise (fun x=>do noteFrame x env; theTreesLotGoes x)) _ _ s
  refine wpAny_noted ?_
  rw [compTurn_list]
  refine wpAny_bind (wpAny_standAt (wpAny_bind (wpAny_mono (turn n s hI) (fun r s₁ h₁=>?_) fun _ _ h'=>h'.elim)))
  cases r with
  | none=>exact wpAny_pure h₁
  | some v=>
    refine wpAny_bind (wpAny_mono h₁ (fun _ s₁' h₁'=>?_) fun _ _ h'=>h'.elim)
    refine wpAny_bind (wpAny_mono h₁' (fun _ s₂ h₂=>wpAny_bind (wpAny_mono h₂ (fun ok s₃ h₃=>?_) fun _ _ h'=>h'.elim)) fun _ _ h'=>h'.elim)
    cases ok with
    | true=>
      rw [if_pos rfl] at h₃
      exact wpAny_bind (wpAny_bind (wpAny_mono h₃ (fun x s₄ h₄=>wpAny_bind (wpAny_mono h₄ (fun _ s₅ h₅=>wpAny_pure (wpAny_pure ⟨rfl,h₅⟩)) fun _ _ h'=>h'.elim)) fun _ _ h'=>h'.elim))
    | false=>
      rw [if_neg Bool.false_ne_true] at h₃
      exact wpAny_bind (wpAny_pure (wpAny_pure ⟨rfl,h₃⟩))
end
section
variable {X : Cx}
theorem comp_coreT {elt tg iter : Expr} {ifs : List Expr} {tt : TT} {pos : Pos} {N N' : List Str} {sc scE : Scope} {cap : List (Option Nat)} {wi : TI} {g : TG} {te : TE} {use : Option (Value -> Sem Unit)} {QQ : Value -> Shared -> Prop} (hcalm : X.calm = true) (hi : PI X tg iter wi)
    (hg : ∀ cl C s0 H0 ex,PG (blkC X N' sc cl C s0 H0 ex) tg g) (he : ∀ cl C s0 H0 ex,PE (blkC X N' sc cl C s0 H0 ex) elt te) (htt : ∀ cl C s0 H0 ex,PTs (blkC X N' sc cl C s0 H0 ex) ifs tt)
    (hN : X.N = N) (hE : X.env.scope = scE) (hc : compOkC N N' sc scE cap = true) (hs : ∀ x,foldedSetIterable iter X.env x = pure x)
    {pins : List (Addr × Obj)} {s : Shared} {σ : St} {H : Hp} {Q : VK} (I : Inv X pins σ H s) (h : tCompT cap wi g tt te σ H Q)
    (fin : ∀ acc C H' s' m,Inv X pins σ H' s' -> s'.heap.Ns C m -> FpOk X pins H' C -> Q (.ref acc) H' -> compPost (model X.prog X.w) X.A X.xe use QQ (.ref acc) C (.ok .next) s') {pos' : Pos} :
    wpAny (model X.prog X.w) X.A (comprehension (.ListComp elt [⟨tg,iter,ifs,0⟩] sc pos) sc X.env pos' (newList []) false (eval iter X.env) use) QQ X.xe s:=by
  have ck:=compOkC.of hc
  obtain ⟨cl,hcl,c1,c2⟩:=closure_of (scope:=sc) (env:=X.env) fun x hx hf=>I.ok.has x.1 (by
    have:=ck.fre x hx hf
    rw [<- hE] at this
    exact this)
  refine wpAny_comprehension_free (use:=use) rfl hs hcl ck.kind ck.loc (thn (hi pins s σ H _ I h) fun v s1 h1=>thn h1 fun itv s2 h2=>?_)
  obtain ⟨it,fp,tn,J,H2,e,I2,T,st2,f2,hw⟩:=h2
  subst e
  have fsz : ∀ b ∈ fp,b < s2.heap.objs.size:=fun b hb=>by
    obtain ⟨o,e,_⟩:=T.obj _ _ st2 b hb
    exact Heap.lt_size e
  obtain ⟨W,⟨m0,w0⟩,turn⟩:=hw s2.heap.objs.size I2.fresh
  refine wpAny_newObj_type (wpAny_newEnvC ?_)
  dsimp only
  have I3 : Inv X pins σ (upd H2 s2.heap.objs.size (.lst [])) { s2 with heap:=s2.heap.push { cls:=.type "list",data:=.seq ([] : List Value).toArray } }:=
    I2.lnew (its:=[]) (ys:=[]) (t':=s2.toks) .nil (Nat.zero_le _)
  generalize hs3 : ({ s2 with heap:=s2.heap.push { cls:=.type "list",data:=.seq ([] : List Value).toArray } } : Shared) = s3 at I3
  have hh3 : s3.heap = s2.heap.push { cls:=.type "list",data:=.seq ([] : List Value).toArray }:=by rw [<- hs3]
  have hsz : s3.heap.objs.size = s2.heap.objs.size + 1:=by rw [hh3,Heap.size_push]
  have f3 : ∀ b ∈ fp,FpOk X pins (upd H2 s2.heap.objs.size (.lst [])) b:=fun b hb=>by
    obtain ⟨g0,g1⟩:=f2 b hb
    exact ⟨by rw [upd_ne (Nat.ne_of_lt (fsz b hb))]; exact g0,g1⟩
  have k3 : ∀ b o,s2.heap.get? b = some o -> s3.heap.get? b = some o:=fun b o e=>by rw [hh3]; exact Heap.get?_push_of_some _ e
  obtain ⟨cl',hcl'⟩ : ∃ cl',cellsFrom (s3.heap.objs.size + 1) sc.names cl = cl':=⟨_,rfl⟩
  obtain ⟨h₁,hh₁⟩ : ∃ h₁,pushCells (s3.heap.push { cls:=.type "dict",data:=.dict #[] }) sc.names = h₁:=⟨_,rfl⟩
  have k1 : ∀ b o,s3.heap.get? b = some o -> h₁.get? b = some o:=fun b o e=>by rw [<- hh₁]; exact pushCells_keeps _ _ b o (Heap.get?_push_of_some _ e)
  have c1' : ∀ x c,cl'.lookup x = some c -> cl.lookup x = some c \/ s3.heap.objs.size + 1 <= c:=fun x c e=>by
    rw [<- hcl'] at e
    have:=cellsFrom_look (sc.names) (s3.heap.push { cls:=.type "dict",data:=.dict #[] }) cl x c (by rw [Heap.size_push]; exact e)
    rcases this with z | ⟨_,z,_⟩
    · exact .inl z
    · rw [Heap.size_push] at z; exact .inr z
  have I4 : Inv (blkC X N' sc cl' s3.heap.objs.size s3 (upd H2 s2.heap.objs.size (.lst [])) fp) [] (capOf cap σ) (upd H2 s2.heap.objs.size (.lst [])) { s3 with heap:=h₁ }:=by
    rw [<- hcl',<- hh₁]
    exact blk_invC I3 hN hE ck c1 c2 f3 (fun b hb=>Nat.lt_of_lt_of_le (fsz b hb) (by rw [hsz]; exact Nat.le_succ _))
  have st4 : tn 0 h₁:=T.keep _ _ _ st2 fun b hb o e=>k1 b o (k3 b o e)
  generalize hX' : blkC X N' sc cl' s3.heap.objs.size s3 (upd H2 s2.heap.objs.size (.lst [])) fp = X' at I4
  have hxe : X'.xe = fun _ _=>False:=by rw [<- hX']; rfl
  have hprog : X'.prog = X.prog:=by rw [<- hX']; rfl
  have hww : X'.w = X.w:=by rw [<- hX']; rfl
  have hKK : X'.K = X.K:=by rw [<- hX']; rfl
  have hAA : X'.A = X.A:=by rw [<- hX']; rfl
  have hcc : X'.calm = true:=by rw [<- hX']; exact hcalm
  have henv : X'.env = compEnvC sc cl' s3.heap.objs.size X.env:=by rw [<- hX']; rfl
  have hloc : X'.env.locals = s3.heap.objs.size:=by rw [henv]; rfl
  have hg' : PG X' tg g:=by rw [<- hX']; exact hg _ _ _ _ _
  have he' : PE X' elt te:=by rw [<- hX']; exact he _ _ _ _ _
  have htt' : PTs X' ifs tt:=by rw [<- hX']; exact htt _ _ _ _ _
  have stat : ∀ {H' : Hp},(∀ b ∈ fp,H' b = none) -> ∀ b ∈ fp,FpOk X' [] H' b:=fun {H'} hn b hb=>by
    obtain ⟨_,g1,g2,g3,g4,g5⟩:=f3 b hb
    refine ⟨hn b hb,by rw [hloc,hsz]; exact Nat.ne_of_lt (Nat.lt_succ_of_lt (fsz b hb)),?_,?_,?_,fun p hp=>?_⟩
    · rw [<- hX']
      intro z
      rcases List.mem_cons.mp (I3.stkSub b z) with e | z
      · exact g1 e
      · exact g2 z
    · left
      rw [<- hX']
      exact hb
    · intro x c e
      rw [henv] at e
      rcases c1' x c e with z | z
      · exact g4 x c (c1 x c z)
      · exact fun q=>absurd (Nat.lt_of_lt_of_le (fsz b hb) (Nat.le_trans (Nat.le_trans (Nat.le_succ _) (hsz ▸ Nat.le_succ _)) (q ▸ z))) (Nat.lt_irrefl _)
    · rw [<- hX'] at hp
      cases hp
  have fin' : ∀ {σ' : St} {H' : Hp} {s' : Shared},Inv X' [] σ' H' s' -> Q (.ref s2.heap.objs.size) H' -> compPost (model X.prog X.w) X.A X.xe use QQ (.ref s2.heap.objs.size) s3.heap.objs.size (.ok .next) s':=fun {σ' H' s'} J q=>by
    obtain ⟨mm,hmm,_⟩:=J.loc
    rw [hloc] at hmm
    have hfree : H' s3.heap.objs.size = none:=by have:=J.free; rw [hloc] at this; exact this
    have hok:=J.hok
    rw [hprog,hww] at hok
    have u1 : Un (frs X.stack) fp (upd H2 s2.heap.objs.size (.lst [])) H' s3.heap s'.heap:=by
      have:=J.base
      rw [<- hX'] at this
      exact this
    have hos : s'.os = s3.os:=by have:=J.os; rw [<- hX'] at this; exact this
    refine fin _ _ H' s' mm (I3.call' (s':=s') hos u1 hok J.bare fun b hb=>?_) hmm (I3.fpOk (Nat.le_refl _) hfree) q
    obtain ⟨_,g1,g2,g3,g4,g5⟩:=f3 b hb
    exact ⟨g3,g1,g4,g5⟩
  have loop : codeAny (model X.prog X.w) X.A (.compLoop (.ListComp elt [⟨tg,iter,ifs,0⟩] sc pos) 0 (.ref it) (.ref s2.heap.objs.size) X'.env)
      (compPost (model X.prog X.w) X.A X.xe use QQ (.ref s2.heap.objs.size) s3.heap.objs.size) { s3 with heap:=h₁ }:=by
    refine compLoop_anyT (fun n s'=>∃ i ys σ' H',Inv X' [] σ' H' s' /\ tn i s'.heap /\ (∀ b ∈ fp,H' b = none) /\ W i n ys σ' H') ?_ m0 ⟨0,[],_,_,I4,st4,fun b hb=>(f3 b hb).1,w0⟩
    rintro n s5 ⟨i,ys,σ5,H5,I5,st5,fr5,w5⟩
    obtain ⟨hacc,q⟩:=turn i n ys σ5 H5 w5
    rcases q with ⟨stop,q⟩ | ⟨go,hlen,step⟩
    · refine thn (hAA ▸ T.done X' hprog hww hKK hcc i [] s5 σ5 H5 _ I5 (stat fr5) st5 stop) fun r s6 ⟨hr,I6⟩=>?_
      subst hr
      exact fin' I6 q
    · refine thn (hAA ▸ T.item X' hprog hww hKK hcc i [] s5 σ5 H5 _ I5 (stat fr5) st5 go) fun r s6 ⟨u,hr,h6⟩=>?_
      subst hr
      refine thn h6 fun _ s7 ⟨x,H7,I7,r7,y7,st7,fr7⟩=>?_
      have I7':=I7.pinned (stat fr7) (T.obj _ _ st7)
      have g7:=hg' _ s7 σ5 H7 x u _ I7' r7 (step x H7 y7)
      rw [hprog,hww,hAA,hxe] at g7
      refine thn g7 fun _ s8 ⟨σ8,H8,I8,q8⟩=>?_
      have t8:=htt' _ s8 σ8 H8 _ I8 q8
      rw [hprog,hww,hAA,hxe] at t8
      refine thn t8 fun okb s8t ⟨H8t,I8t,q8t⟩=>?_
      cases okb with
      | false=>
        rw [if_neg Bool.false_ne_true] at q8t ⊢
        obtain ⟨m',hm',w9⟩:=q8t
        refine ⟨m',hm',i + 1,_,σ8,_,I8t.unpinned,T.keep _ _ _ st7 fun b hb o eo=>(I8t.pin (b,o) (List.mem_append_right _ (List.mem_append_right _ (mem_pinsAt hb eo)))).1,fun b hb=>?_,w9⟩
        obtain ⟨o,eo,d⟩:=T.obj _ _ st7 b hb
        exact (I8t.pin (b,o) (List.mem_append_right _ (List.mem_append_right _ (mem_pinsAt hb eo)))).2.1
      | true=>
      rw [if_pos rfl] at q8t ⊢
      have g8:=he' _ s8t σ8 H8t _ I8t q8t
      rw [hprog,hww,hAA,hxe] at g8
      refine thn g8 fun y s9 ⟨yv,H9,I9,r9,a9,m',hm',w9⟩=>?_
      obtain ⟨z,its,nn,rr,hl,e⟩:=I9.lstM a9
      refine call_meets F.slot_list_append ⟨_,e,rfl⟩ F.entry_list_append (F.args_list_append_2 _ _) (PySem.list_append _ its.toArray nn y (by rw [List.size_toArray]; omega)) ⟨e,?_⟩
      have I10 : Inv X' ([] ++ pinsAt fp s7.heap) σ8 (upd H9 s2.heap.objs.size (.lst (ys ++ [yv]))) { s9 with heap:=s9.heap.update s2.heap.objs.size (Obj.mapSeq fun a=>a.push y) }:=
        I9.lset (t':=s9.toks) (its':=its ++ [y]) a9 e (by simp) (rr.append (.cons r9 .nil)) (by rw [List.length_append,List.length_singleton]; omega)
      refine ⟨m',hm',i + 1,_,σ8,_,I10.unpinned,T.keep _ _ _ st7 fun b hb o eo=>(I10.pin (b,o) (List.mem_append_right _ (List.mem_append_right _ (mem_pinsAt hb eo)))).1,fun b hb=>?_,w9⟩
      obtain ⟨o,eo,d⟩:=T.obj _ _ st7 b hb
      exact (I10.pin (b,o) (List.mem_append_right _ (List.mem_append_right _ (mem_pinsAt hb eo)))).2.1
  rw [henv] at loop
  have goal:=codeAny_compStart_list (rest:=[]) (ifs:=ifs) loop (T.self X.A 0 _ _ _ st4 loop)
  subst hs3
  rw [<- hcl',<- hh₁] at goal
  exact goal
theorem pe_compT {elt tg iter : Expr} {ifs : List Expr} {tt : TT} {pos : Pos} {N N' : List Str} {sc scE : Scope} {cap : List (Option Nat)} {wi : TI} {g : TG} {te : TE} (hcalm : X.calm = true) (hi : PI X tg iter wi)
    (hg : ∀ cl C s0 H0 ex,PG (blkC X N' sc cl C s0 H0 ex) tg g) (he : ∀ cl C s0 H0 ex,PE (blkC X N' sc cl C s0 H0 ex) elt te) (htt : ∀ cl C s0 H0 ex,PTs (blkC X N' sc cl C s0 H0 ex) ifs tt)
    (hN : X.N = N:=by rfl) (hE : X.env.scope = scE:=by rfl) (hc : compOkC N N' sc scE cap = true:=by decide +kernel) (hs : ∀ x,foldedSetIterable iter X.env x = pure x:=by intro _; rfl) :
    PE X (.ListComp elt [⟨tg,iter,ifs,0⟩] sc pos) (tCompT cap wi g tt te):=by
  intro pins s σ H Q I h
  rw [eval_ListComp]
  refine comp_coreT (use:=none) hcalm hi hg he htt hN hE hc hs I h fun acc C H' s' m I' hm hf q=>⟨m,hm,fun h' hs'=>?_⟩
  obtain ⟨f0,f1,f2,f3,f4,f5⟩:=hf
  exact ⟨.ref acc,H',I'.turned (t':=s'.toks) (fun b o hb e=>(hs'.2 b hb).trans e) f0 f1 f3 f4 f5,rfl,q⟩
theorem ps_compT {ifs : List Expr} {tt : TT} {i : Nat} {x : Str} {px spos : Pos} {elt tg iter : Expr} {pos : Pos} {N N' : List Str} {sc scE : Scope} {cap : List (Option Nat)} {wi : TI} {g : TG} {te : TE} (hnd : X.N.Nodup) (hix : X.N[i]? = some x) (hx : Loc X.env.scope x) (hcalm : X.calm = true) (hi : PI X tg iter wi)
    (hg : ∀ cl C s0 H0 ex,PG (blkC X N' sc cl C s0 H0 ex) tg g) (he : ∀ cl C s0 H0 ex,PE (blkC X N' sc cl C s0 H0 ex) elt te) (htt : ∀ cl C s0 H0 ex,PTs (blkC X N' sc cl C s0 H0 ex) ifs tt)
    (hsw : swapsWith (.ListComp elt [⟨tg,iter,ifs,0⟩] sc pos) (some (.Name x px)) spos.line X.env = pure true:=by rfl)
    (hN : X.N = N:=by rfl) (hE : X.env.scope = scE:=by rfl) (hc : compOkC N N' sc scE cap = true:=by decide +kernel) (hs : ∀ x,foldedSetIterable iter X.env x = pure x:=by intro _; rfl)
    (hf : X.fn x = true \/ X.env.scope.names.lookup x = some .local:=by first | exact .inl rfl | exact .inr rfl | assumption) :
    PS X (.Assign [.Name x px] (.ListComp elt [⟨tg,iter,ifs,0⟩] sc pos) spos) (tAsg (tCompT cap wi g tt te) (gName i)):=by
  intro pins s σ H D I h
  rw [exec_Assign_Name_used _ _ _ _ hsw]
  refine wpAny_bind (wpAny_standAt (wpAny_bind ?_))
  show wpAny _ _ (do let _ <- comprehension (.ListComp elt [⟨tg,iter,ifs,0⟩] sc pos) sc X.env _ (newList []) false (eval iter X.env) (some (assign (.Name x px) X.env))) _ _ s
  refine wpAny_bind (wpAny_mono (comp_coreT (use:=some (assign (.Name x px) X.env)) (QQ:=fun _ s'=>SP X pins D .next s') hcalm hi hg he htt hN hE hc hs I h ?_) (fun _ s' hq=>wpAny_pure (wpAny_pure hq)) fun _ _ e=>e)
  intro acc C H' s' m I' hm hfp q
  obtain ⟨f0,f1,f2,f3,f4,f5⟩:=hfp
  show wpAny _ _ (assign (.Name x px) X.env (.ref acc)) _ _ _
  refine wpAny_assign_Name (store_ok2 I' hnd hix hx (v:=.ref acc) rfl (fun s2 I2 ⟨a,sb,ha⟩=>⟨m,?_,fun h' hs'=>?_⟩) hf)
  · refine hm.sameBut sb fun z=>?_
    rcases ha with ha | ha
    · exact f1 (z.trans ha)
    · exact f4 x a ha z.symm
  · exact ⟨_,H',I2.turned (t':=s2.toks) (fun b o hb e=>(hs'.2 b hb).trans e) f0 f1 f3 f4 f5,q⟩
end
end L2
namespace L2
open PySem PySem.Spec PyProof.Rows
section
variable {X : Cx} {e e3 : Expr} {te t3 : TE} {pos p2 : Pos}
end
end L2
namespace L2
open PySem PySem.Spec PyProof.Rows
section
variable {X : Cx} {a : Expr} {ta : TA} {p p' pos pos' : Pos}
end
end L2
namespace L2
open PySem PySem.Spec PyProof.Rows
section
variable {X : Cx}
end
end L2
namespace L2
open PySem PySem.Spec PyProof.Rows
section
variable {κ : Type} [DecidableEq κ]
def valV (kvs : List (κ × V)) (k : κ) : Option V:=(kvs.find? fun kv=>decide (kv.1 = k)).map (·.2)
def putK (kvs : List (κ × V)) (k : κ) (v : V) : List (κ × V):=
  if (kvs.any fun kv=>decide (kv.1 = k)) = true then kvs.map (fun kv=>if kv.1 = k then (kv.1,v) else kv) else kvs ++ [(k,v)]
theorem valV_pos {p : κ × V} {r : List (κ × V)} {k : κ} (e : p.1 = k) : valV (p :: r) k = some p.2:=by simp [valV,List.find?_cons,e]
theorem valV_neg {p : κ × V} {r : List (κ × V)} {k : κ} (e : ¬ p.1 = k) : valV (p :: r) k = valV r k:=by simp [valV,List.find?_cons,e]
theorem valV_any (k : κ) : ∀ kvs : List (κ × V),(kvs.any fun kv=>decide (kv.1 = k)) = (valV kvs k).isSome
  | []=>rfl
  | p :: r=>by
    rw [List.any_cons]
    by_cases e : p.1 = k
    · simp only [valV_pos e,decide_eq_true e,Bool.true_or,Option.isSome_some]
    · rw [valV_neg e,decide_eq_false e,Bool.false_or]; exact valV_any k r
theorem length_putK (kvs : List (κ × V)) (k : κ) (v : V) : (putK kvs k v).length <= kvs.length + 1:=by
  unfold putK
  split
  · rw [List.length_map]; omega
  · rw [List.length_append,List.length_cons,List.length_nil]; omega
theorem RelO.isSome_eq {o : Option V} {u : Option Value} (r : RelO o u) : o.isSome = u.isSome:=by
  cases o with
  | none=>cases u with
    | none=>rfl
    | some _=>exact (show False from r).elim
  | some _=>cases u with
    | none=>exact (show False from r).elim
    | some _=>rfl
theorem KV.val {kvs : List (κ × V)} {vs : List (κ × Value)} (r : KV kvs vs) (k : κ) : RelO (valV kvs k) (valueAt vs k):=by
  unfold KV at r
  induction r with
  | nil=>exact True.intro
  | @cons p q ps qs h t ih=>
    obtain ⟨h1,h2⟩:=h
    by_cases e : p.1 = k
    · have e' : q.1 = k:=h1.symm.trans e
      have b : valueAt (q :: qs) k = some q.2:=by simp [valueAt,List.find?_cons,e']
      rw [valV_pos e,b]; exact h2
    · have e' : ¬ q.1 = k:=fun z=>e (h1.trans z)
      have b : valueAt (q :: qs) k = valueAt qs k:=by simp [valueAt,List.find?_cons,e']
      rw [valV_neg e,b]; exact ih
theorem KV.any {kvs : List (κ × V)} {vs : List (κ × Value)} (r : KV kvs vs) (k : κ) : (kvs.any fun kv=>decide (kv.1 = k)) = vs.any fun kv=>decide (kv.1 = k):=by
  unfold KV at r
  induction r with
  | nil=>rfl
  | cons h t ih=>rw [List.any_cons,List.any_cons,ih,h.1]
theorem KV.repl {kvs : List (κ × V)} {vs : List (κ × Value)} (r : KV kvs vs) (k : κ) {y : V} {u : Value} (ry : RelV y u) :
    KV (kvs.map fun kv=>if kv.1 = k then (kv.1,y) else kv) (vs.map fun kv=>if kv.1 = k then (kv.1,u) else kv):=by
  unfold KV at r ⊢
  induction r with
  | nil=>exact .nil
  | @cons p q ps qs h t ih=>
    rw [List.map_cons,List.map_cons]
    refine .cons ?_ ih
    obtain ⟨h1,h2⟩:=h
    by_cases e : p.1 = k
    · rw [if_pos e,if_pos (h1.symm.trans e)]; exact ⟨h1,ry⟩
    · rw [if_neg e,if_neg (fun z=>e (h1.trans z))]; exact ⟨h1,h2⟩
theorem KV.put {kvs : List (κ × V)} {vs : List (κ × Value)} (r : KV kvs vs) (k : κ) {y : V} {u : Value} (ry : RelV y u) : KV (putK kvs k y) (stored vs k u):=by
  unfold putK stored
  rw [r.any k]
  by_cases e : (vs.any fun kv=>decide (kv.1 = k)) = true
  · rw [if_pos e,if_pos e]; exact r.repl k ry
  · rw [if_neg e,if_neg e]; exact Paired.snoc r ⟨rfl,ry⟩
theorem KV.length {kvs : List (κ × V)} {vs : List (κ × Value)} (r : KV kvs vs) : kvs.length = vs.length:=Paired.length r
end
theorem kV_is {P : Program} {w : World} {k : Key} {u : Value} (r : RelV (kV k) u) : (mixKind P w).is k u = true:=by
  cases k with
  | inl i=>obtain ⟨t,e⟩:=(show ∃ t,u = Value.int i t from r); subst e; exact mixKind_int P w i t
  | inr x=>obtain ⟨t,e⟩:=(show ∃ t,u = Value.str x t from r); subst e; exact mixKind_str P w x t
abbrev KT (H : Hp) : List (HK × V) -> List (HK × Addr × Value) -> Prop:=Paired fun p q=>p.1 = q.1 /\ KR H p.1 q.2.1 /\ RelV p.2 q.2.2
theorem KT.val {H : Hp} {kvs : List (HK × V)} {xs : List (HK × Addr × Value)} (r : KT H kvs xs) (k : HK) : RelO (valV kvs k) ((atKey xs k).map (·.2)):=by
  induction r with
  | nil=>exact True.intro
  | @cons p q ps qs h t ih=>
    obtain ⟨h1,_,h2⟩:=h
    by_cases e : p.1 = k
    · have e' : q.1 = k:=h1.symm.trans e
      have b : atKey (q :: qs) k = some q.2:=by simp [atKey,List.find?_cons,e']
      rw [valV_pos e,b]; exact h2
    · have e' : ¬ q.1 = k:=fun z=>e (h1.trans z)
      have b : atKey (q :: qs) k = atKey qs k:=by simp [atKey,List.find?_cons,e']
      rw [valV_neg e,b]; exact ih
theorem KT.repl {H : Hp} {kvs : List (HK × V)} {xs : List (HK × Addr × Value)} (r : KT H kvs xs) (k : HK) {y : V} {u : Value} (ry : RelV y u) :
    KT H (kvs.map fun kv=>if kv.1 = k then (kv.1,y) else kv) (xs.map (putAt k u)):=by
  induction r with
  | nil=>exact .nil
  | @cons p q ps qs h t ih=>
    rw [List.map_cons,List.map_cons]
    refine .cons ?_ ih
    obtain ⟨h1,h2,h3⟩:=h
    unfold putAt
    by_cases e : p.1 = k
    · rw [if_pos e,if_pos (h1.symm.trans e)]; exact ⟨h1,h2,ry⟩
    · rw [if_neg e,if_neg (fun z=>e (h1.trans z))]; exact ⟨h1,h2,h3⟩
theorem KT.put {H : Hp} {kvs : List (HK × V)} {xs : List (HK × Addr × Value)} (r : KT H kvs xs) (k : HK) {b : Addr} {y : V} {u : Value} (hb : KR H k b) (ry : RelV y u) :
    KT H (putK kvs k y) (storedH xs k b u):=by
  have e : (kvs.any fun kv=>decide (kv.1 = k)) = (atKey xs k).isSome:=by
    rw [valV_any,(r.val k).isSome_eq,Option.isSome_map]
  unfold putK storedH
  rw [e]
  by_cases q : (atKey xs k).isSome = true
  · rw [if_pos q,if_pos q]; exact r.repl k ry
  · rw [if_neg q,if_neg q]; exact Paired.snoc r ⟨rfl,hb,ry⟩
theorem KT.keeps {H H' : Hp} {kvs : List (HK × V)} {xs : List (HK × Addr × Value)} (r : KT H kvs xs) (ht : ∀ b ys,H b = some (.tup ys) -> H' b = some (.tup ys)) : KT H' kvs xs:=
  Paired.mapP r fun _ _ z=>⟨z.1,z.2.1.keep ht,z.2.2⟩
section
variable {P : Program} {w : World} {H : Hp} {h : Heap} {a : Addr}
theorem rd_of {u : HO} (ok : HOk P w H h) (e : Rd H a u) : ObjOk P w H h a u:=e.ok ok
theorem dk_rd {kvs : List (Key × V)} (ok : HOk P w H h) (e : Rd H a (.dK kvs)) : kvs.length <= sizeLine /\ (a == sysModules) = false /\ ∃ vs,KV kvs vs /\ h.DictOf (mixKind P w) a vs:=
  show ObjOk P w H h a (.dK kvs) from rd_of ok e
theorem dk_of {kvs : List (Key × V)} (ok : HOk P w H h) (e : H a = some (.dK kvs)) : kvs.length <= sizeLine /\ (a == sysModules) = false /\ ∃ vs,KV kvs vs /\ h.DictOf (mixKind P w) a vs:=dk_rd ok (.inl e)
mutual
theorem kat_is (ok : HOk P w H h) : ∀ {k : HK} {v : V} {u : Value},KAt H k v -> RelV v u -> KIs h k u
  | .int _,_,_,r,ru=>by cases r; exact ru
  | .str _,_,_,r,ru=>by cases r; exact ru
  | .tup l,_,u,⟨a,vs,e,hh,r⟩,ru=>by
    subst e
    cases (show u = Value.ref a from ru)
    obtain ⟨_,its,rv,p⟩:=(show ObjOk P w H h a (.tup vs) from ok a _ hh)
    exact ⟨a,its.toArray,rfl,p,by simpa using katL_is ok r rv⟩
theorem katL_is (ok : HOk P w H h) : ∀ {l : List HK} {vs : List V} {us : List Value},KAtL H l vs -> Vals vs us -> KIsL h l us
  | [],_,_,r,ru=>by cases r; cases ru; rfl
  | _ :: _,_,_,⟨v,r,e,h1,t⟩,ru=>by
    subst e
    cases ru with
    | cons a b=>exact ⟨_,_,rfl,kat_is ok h1 a,katL_is ok t b⟩
end
theorem key_of {k : HK} (ok : HOk P w H h) (e : KR H k a) : (nk P w).is h k a:=⟨kat_is ok e.1 rfl,e.2⟩
theorem nk_room {A : Around} (hu : A.units + 9 < cLine) : (nk P w).room A.in1:=by show A.units + 1 + 5 < cLine; omega
theorem dt_rd {kvs : List (HK × V)} (ok : HOk P w H h) (e : Rd H a (.dT kvs)) : kvs.length <= sizeLine /\ (a == sysModules) = false /\
    ∃ xs,KT H kvs xs /\ h.DictOfH (nk P w) a xs:=by
  obtain ⟨z,y,xs,r,o,es,ep,h1,h2,h3,h4,h5⟩:=(show ObjOk P w H h a (.dT kvs) from rd_of ok e)
  refine ⟨z,y,xs,r,o,es,ep,h1,h2,h3,h4,fun x hx=>?_,h5⟩
  have all : ∀ {l : List (HK × V)} {m : List (HK × Addr × Value)},KT H l m -> ∀ x ∈ m,(nk P w).is h x.1 x.2.1:=by
    intro l m q
    induction q with
    | nil=>intro x hx; exact nomatch hx
    | @cons p q ps qs hq t ih=>
      intro x hx
      rcases List.mem_cons.mp hx with e | hx
      · subst e
        exact key_of ok (by rw [<- hq.1]; exact hq.2.1)
      · exact ih x hx
  exact all r x hx
theorem dt_of {kvs : List (HK × V)} (ok : HOk P w H h) (e : H a = some (.dT kvs)) : kvs.length <= sizeLine /\ (a == sysModules) = false /\
    ∃ xs,KT H kvs xs /\ h.DictOfH (nk P w) a xs:=dt_rd ok (.inl e)
end
def DGet (H : Hp) (a : Addr) (y : V) (r : Option V) : Prop:=
  (∃ kvs k,Rd H a (.dK kvs) /\ y = kV k /\ r = valV kvs k) \/ ∃ kvs k b,Rd H a (.dT kvs) /\ y = .ref b /\ KR H k b /\ r = valV kvs k
def DPut (H : Hp) (a : Addr) (y v : V) (H' : Hp) : Prop:=
  (∃ kvs k,H a = some (.dK kvs) /\ y = kV k /\ kvs.length < sizeLine /\ H' = upd H a (.dK (putK kvs k v))) \/
  ∃ kvs k b,H a = some (.dT kvs) /\ y = .ref b /\ KR H k b /\ kvs.length < sizeLine /\ H' = upd H a (.dT (putK kvs k v))
theorem DGet.t {H : Hp} {a b : Addr} {kvs : List (HK × V)} {k : HK} (e : H a = some (.dT kvs)) (eb : KR H k b) : DGet H a (.ref b) (valV kvs k):=.inr ⟨kvs,k,b,.inl e,rfl,eb,rfl⟩
theorem DPut.t {H : Hp} {a b : Addr} {kvs : List (HK × V)} {k : HK} {v : V} (e : H a = some (.dT kvs)) (eb : KR H k b) (hl : kvs.length < sizeLine) :
    DPut H a (.ref b) v (upd H a (.dT (putK kvs k v))):=.inr ⟨kvs,k,b,e,rfl,eb,hl,rfl⟩
section
variable {X : Cx} {pins : List (Addr × Obj)} {σ : St} {H : Hp} {s : Shared} {a : Addr} {y v : V} {u r : Value} {o : Option V} {A : Around} {E : Value -> Shared -> Prop}
theorem Inv.big (I : Inv X pins σ H s) : sysModules < s.heap.objs.size:=by
  have h : mainGlobals < s.heap.objs.size:=(I.mod.glob.keeps I.bk).lt
  exact Nat.lt_trans (by decide) h
theorem d_notIn {Q : Value -> Shared -> Prop} (hu : A.units + 9 < cLine) (I : Inv X pins σ H s) (g : DGet H a y o) (ry : RelV y u) (h : ∀ s',Inv X pins σ H s' -> Q (.bool (!o.isSome)) s') :
    wpAny (model X.prog X.w) A (compareOp .NotIn u (.ref a)) Q E s:=by
  rcases g with ⟨kvs,k,e,ey,l⟩ | ⟨kvs,k,b,e,ey,eb,l⟩
  · subst ey
    obtain ⟨z,hd,vs,rel,dd⟩:=dk_rd I.hok e
    refine wpAny_notIn_of (kV_is ry) hd dd.mapOf ?_
    rw [<- (rel.val k).isSome_eq,<- l]
    exact h _ (I.tok _)
  · subst ey
    cases (show u = Value.ref b from ry)
    obtain ⟨z,hd,xs,rel,dd⟩:=dt_rd I.hok e
    refine wpAny_notIn_heap (nk_room hu) (key_of I.hok eb) hd dd ?_
    have q:=(rel.val k).isSome_eq
    rw [Option.isSome_map] at q
    rw [<- q,<- l]
    exact h _ (I.tok _)
theorem d_write {h' : Heap} {t' : Nat} {ob : HO} (I : Inv X pins σ H s) (mu : Mut (H a)) (hs : Heap.SameBut a s.heap h') (he : ∃ q,h'.get? a = some q) (new : ObjOk X.prog X.w (upd H a ob) h' a ob) :
    Inv X pins σ (upd H a ob) { s with heap:=h',toks:=t' }:=
  I.write (x:=a) (e:=a) mu (.inl rfl) (fun b q hb z=>(hs.2 b hb).trans z) he new
theorem dk_new {P : Program} {w : World} {H' : Hp} {h' : Heap} {kvs : List (Key × V)} {vs : List (Key × Value)} (z : kvs.length <= sizeLine) (hd : (a == sysModules) = false) (rel : KV kvs vs) (dd : h'.DictOf (mixKind P w) a vs) :
    ObjOk P w H' h' a (.dK kvs):=⟨z,hd,vs,rel,dd⟩
theorem d_setItem {H' : Hp} {Q : Unit -> Shared -> Prop} (hu : A.units + 9 < cLine) (I : Inv X pins σ H s) (g : DPut H a y v H') (ry : RelV y u) (rv : RelV v r) (h : ∀ s',Inv X pins σ H' s' -> Q () s') :
    wpAny (model X.prog X.w) A (setItem (.ref a) u r) Q E s:=by
  rcases g with ⟨kvs,k,e,ey,l,eH⟩ | ⟨kvs,k,b,e,ey,eb,l,eH⟩
  · subst ey eH
    obtain ⟨z,hd,vs,rel,dd⟩:=dk_of I.hok e
    have hz : vs.length <= sizeLine:=by rw [<- rel.length]; exact z
    have hl : (putK kvs k v).length <= sizeLine:=by have:=length_putK kvs k v; omega
    refine wpAny_setItem_pairs (hsz:=hz) (kV_is ry) dd fun h' dd' hs=>h _ ?_
    have he : ∃ q,h'.get? a = some q:=let ⟨q,_,_,hq,_⟩:=dd'; ⟨q,hq⟩
    exact d_write I (by rw [e]; exact True.intro) hs he (dk_new hl hd (rel.put k rv) dd')
  · subst ey eH
    cases (show u = Value.ref b from ry)
    obtain ⟨z,hd,xs,rel,dd⟩:=dt_of I.hok e
    have hz : xs.length <= sizeLine:=by rw [<- Paired.length rel]; exact z
    have hl : (putK kvs k v).length <= sizeLine:=by have:=length_putK kvs k v; omega
    refine wpAny_setItem_heap (hsz:=hz) (nk_room hu) (key_of I.hok eb) dd fun h' dd' hs=>h _ ?_
    obtain ⟨q,es,ep,hq,h2,h3,h4,_,h5⟩:=dd'
    refine d_write I (by rw [e]; exact True.intro) hs ⟨q,hq⟩ ⟨hl,hd,_,(rel.put k eb rv).keeps fun c ys ec=>?_,q,es,ep,hq,h2,h3,h4,h5⟩
    rw [upd_ne (ne_of ec e (fun z=>nomatch z))]
    exact ec
end
section
variable {X : Cx} {pins : List (Addr × Obj)} {σ : St} {H : Hp} {s : Shared} {a : Addr} {kvs : List (Key × V)} {k : Key} {u : Value} {A : Around} {E : Value -> Shared -> Prop}
end
def sDPut (td ty tv : TE) : TS:=fun D σ H=>tv σ H fun v H1=>td σ H1 fun x H2=>ty σ H2 fun y H3=>∃ a H4,x = .ref a /\ DPut H3 a y v H4 /\ D.nx σ H4
section
variable {X : Cx} {o i e value : Expr} {pos pos' tpos : Pos} {td ty tv : TE}
theorem ps_dput (hu : X.A.units + 9 < cLine) (ho : PE X o td) (hi : PE X i ty) (hv : PE X value tv) (hs : swapsWith value (some (.Subscript o i pos')) pos.line X.env = pure false) :
    PS X (.Assign [.Subscript o i pos'] value pos) (sDPut td ty tv):=by
  intro pins s σ H D I h
  refine wpAny_Assign_Subscript (thn (hv pins s σ H _ I h) fun r s1 ⟨v,H1,I1,rv,q1⟩=>thn (ho pins s1 σ H1 _ I1 q1) fun u s2 ⟨x,H2,I2,rx,q2⟩=>thn (hi pins s2 σ H2 _ I2 q2) fun iv s3 ⟨y,H3,I3,ry,a,H4,ex,g,q3⟩=>?_) hs
  subst ex
  obtain rfl : u = Value.ref a:=rx
  exact d_setItem hu I3 g ry rv fun s4 I4=>⟨σ,H4,I4,q3⟩
end
theorem dt_empty {P : Program} {w : World} {H : Hp} (h : Heap) (hb : sysModules < h.objs.size) : ObjOk P w H (h.push { cls:=.type "dict",data:=.dict #[] }) h.objs.size (.dT []):=
  ⟨Nat.zero_le _,beq_eq_false_iff_ne.mpr (Ne.symm (Nat.ne_of_lt hb)),[],.nil,_,#[],0,Heap.get?_push_size _ rfl,⟨rfl,rfl,rfl⟩,rfl,rfl,List.nodup_nil⟩
section
variable {X : Cx} {pos : Pos}
end
def tPairs : List (TE × TE) -> St -> Hp -> (List (V × V) -> Hp -> Prop) -> Prop
  | [],_,H,Q=>Q [] H
  | (tk,tv) :: r,σ,H,Q=>tk σ H fun x H1=>tv σ H1 fun y H2=>tPairs r σ H2 fun ps H3=>Q ((x,y) :: ps) H3
abbrev VV : List (V × V) -> List (Value × Value) -> Prop:=Paired fun p q=>RelV p.1 q.1 /\ RelV p.2 q.2
def PPs (X : Cx) (pos : Pos) (keys : List (Option Expr)) (values : List Expr) (trs : List (TE × TE)) : Prop:=
  ∀ (pins : List (Addr × Obj)) (s : Shared) (σ : St) (H : Hp) (Q : List (V × V) -> Hp -> Prop),Inv X pins σ H s -> tPairs trs σ H Q ->
    wpAny (model X.prog X.w) X.A (evalPairs (pairTrees keys values X.env pos)) (fun vs s'=>∃ ps H',Inv X pins σ H' s' /\ VV ps vs /\ Q ps H') X.xe s
theorem pps_nil {X : Cx} {pos : Pos} : PPs X pos [] [] []:=fun pins s σ H Q I h=>pairTrees_nil_walk ⟨[],H,I,.nil,h⟩
theorem pps_cons {X : Cx} {pos : Pos} {k v : Expr} {ks : List (Option Expr)} {vs : List Expr} {tk tv : TE} {trs : List (TE × TE)} (hk : PE X k tk) (hv : PE X v tv) (hr : PPs X pos ks vs trs) :
    PPs X pos (some k :: ks) (v :: vs) ((tk,tv) :: trs):=fun pins s σ H Q I h=>
  pairTrees_cons_walk (thn (hk pins s σ H _ I h) fun u s1 ⟨x,H1,I1,rx,q1⟩=>thn (hv pins s1 σ H1 _ I1 q1) fun w2 s2 ⟨y,H2,I2,ry,q2⟩=>
    thn (hr pins s2 σ H2 _ I2 q2) fun ws s3 ⟨ps,H3,I3,rel,q3⟩=>⟨(x,y) :: ps,H3,I3,.cons ⟨rx,ry⟩ rel,q3⟩)
section
variable {X : Cx} {pins : List (Addr × Obj)} {σ : St} {H : Hp} {s : Shared} {a : Addr} {y d : V} {u r : Value} {o : Option V} {A : Around} {E : Value -> Shared -> Prop}
end
section
variable {X : Cx} {o e f : Expr} {apos cpos : Pos} {td ty tx : TE}
end
section
variable {X : Cx} {pins : List (Addr × Obj)} {σ : St} {H : Hp} {s : Shared} {a : Addr} {kvs : List (Key × V)} {A : Around} {E : Value -> Shared -> Prop}
end
section
variable {X : Cx} {pins : List (Addr × Obj)} {σ : St} {H : Hp} {s : Shared} {a : Addr} {y : V} {u : Value} {A : Around} {E : Value -> Shared -> Prop}
end
section
variable {X : Cx}
end
end L2
namespace L2
open PySem PySem.Spec PyProof.Rows
open AutoSeq1 (wpAny_loadPart')
section
variable {prog : Program} {w : World} {A : Around} {E : Value -> Shared -> Prop} {s : Shared}
end
section
variable {prog : Program} {w : World} {A : Around} {E : Value -> Shared -> Prop} {s : Shared}
end
section
variable {X : Cx} {a : Expr} {ta : TA} {p p' pos pos' : Pos}
end
end L2
namespace L2
open PySem PySem.Spec PyProof.Rows
section
variable {prog : Program} {w : World} {A : Around} {E : Value -> Shared -> Prop} {s : Shared}
end
section
variable {X : Cx} {e e3 : Expr} {te t3 : TE} {pos p2 : Pos}
end
end L2
namespace L2
open PySem PySem.Spec PyProof.Rows
section
variable {prog : Program} {w : World} {K : Type} [DecidableEq K] {knd : KeyKind prog w K} {A : Around} {R : Result -> Shared -> Prop}
end
end L2
namespace L2
open PySem PySem.Spec PyProof.Rows
section
variable {X : Cx} {pins : List (Addr × Obj)} {σ : St} {H : Hp} {s : Shared} {a : Addr} {tg : Expr}
end
end L2
namespace L2
open PySem PySem.Spec PyProof.Rows PySem.W
section
variable (r : Nat -> Nat)
variable {r}
end
end L2
namespace L2
open PySem PySem.Spec PyProof.Rows PySem.W
section
variable {prog : Program} {w : World} {A : Around} {E : Value -> Shared -> Prop} {s : Shared}
end
end L2
namespace L2
open PySem PySem.Spec PyProof.Rows
end L2
namespace L2
open PySem PySem.Spec PyProof.Rows PySem.W
section
variable {prog : Program} {w : World} {A : Around} {E : Value -> Shared -> Prop} {s : Shared}
end
end L2
namespace L2
open PySem PySem.Spec PyProof.Rows
section
variable {X : Cx}
end
end L2
namespace L2
open PySem PySem.Spec PyProof.Rows
section
variable {prog : Program} {w : World} {A : Around} {E : Value -> Shared -> Prop} {s : Shared}
end
end L2
namespace L2
open PySem PySem.Spec PyProof.Rows PySem.W
section
variable {prog : Program} {w : World} {A : Around} {E : Value -> Shared -> Prop} {s : Shared}
end
section
variable {X : Cx}
end
end L2
namespace L2
open PySem PySem.Spec PyProof.Rows
def tDispT (tk tv : TE) : TE:=fun σ H Q=>∀ p,H p = none -> tPairs [(tk,tv)] σ (upd H p (.dT [])) fun ps H2=>∃ (ks : HK) (b : Addr) (y : V),ps = [(.ref b,y)] /\ KR H2 ks b /\ H2 p = some (.dT []) /\ Q (.ref p) (upd H2 p (.dT [(ks,y)]))
theorem pe_disp1T {X : Cx} {pos : Pos} {k v : Expr} {tk tv : TE} (hu : X.A.units + 5 < cLine) (hk : PE X k tk) (hv : PE X v tv) : PE X (.Dict [some k] [v] pos) (tDispT tk tv):=by
  intro pins s σ H Q I q
  have hn:=I.hok.fresh (Nat.le_refl s.heap.objs.size)
  have I1:=I.laid (a:=s.heap.objs.size) (o:=.dT []) (h':=s.heap.push { cls:=.type "dict",data:=.dict #[] }) (t':=s.toks) (fun _ _ q=>Heap.get?_push_of_some _ q) (Nat.le_refl _) (dt_empty s.heap I.big)
  rw [arm_eval_Dict,zip_pairTrees [some k] [v] X.env pos rfl rfl,dictDisplay_pairs _ (by simp [pairTrees]) (by simp [pairTrees])]
  refine wpAny_bind (wpAny_standAt (wpAny_bind ?_))
  unfold subDict
  refine wpAny_bind (wpAny_alloc (wpAny_bind (wpAny_holding ?_)))
  rw [if_pos (by simp [pairTrees])]
  refine wpAny_bind (thn ((pps_cons hk hv pps_nil) pins _ σ _ _ I1 (q _ hn)) fun ws s2 ⟨ps,H2,I2,rel,ks,b,y,ep,eb,e,q2⟩=>?_)
  subst ep
  obtain ⟨⟨u,r⟩,rfl,r1,r2⟩ : ∃ p : Value × Value,ws = [p] /\ RelV (.ref b) p.1 /\ RelV y p.2:=by
    cases rel with
    | @cons a c as bs h t=>
      cases t
      exact ⟨_,rfl,h.1,h.2⟩
  cases (show u = Value.ref b from r1)
  obtain ⟨z,hd,xs,rel,dd⟩:=dt_of I2.hok e
  cases rel
  refine wpAny_holding ?_
  refine wpAny_bind ?_
  rw [List.forIn_cons]
  refine wpAny_bind (wpAny_bind (wpAny_dictSet_heap (hsz:=by simp) (knd:=nk X.prog X.w) hu (key_of I2.hok eb) dd fun h' dd' hs=>wpAny_pure ?_))
  dsimp only
  rw [List.forIn_nil]
  refine wpAny_pure (wpAny_pure (wpAny_pure (wpAny_pure ⟨.ref s.heap.objs.size,_,?_,rfl,q2⟩)))
  obtain ⟨o,es,ep,hq,h2,h3,h4,_,h5⟩:=dd'
  refine d_write I2 (by rw [e]; exact True.intro) hs ⟨o,hq⟩ ⟨by simp [sizeLine_eq],hd,[(ks,b,r)],.cons ⟨rfl,?_,r2⟩ .nil,o,es,ep,hq,h2,h3,by simpa [storedH,atKey] using h4,by simp⟩
  exact eb.keep fun c ys ec=>by rw [upd_ne (ne_of ec e (fun z=>nomatch z))]; exact ec
end L2
namespace L2
open PySem PySem.Spec PyProof.Rows
end L2
namespace L2
open PySem PySem.Spec PyProof.Rows
end L2
namespace L2
open PySem PySem.Spec PyProof.Rows
section
variable {prog : Program} {w : World} {K : Type} [DecidableEq K]
variable {knd : KeyKind prog w K} {L : Bool} {A : Around} {E : Value -> Shared -> Prop} {s : Shared} {a : Addr}
end
end L2
namespace L2
open PySem PySem.Spec PyProof.Rows
section
variable {prog : Program} {w : World} {A : Around} {E : Value -> Shared -> Prop} {s : Shared}
end
end L2
namespace L2
open PySem PySem.Spec PyProof.Rows
section
variable {prog : Program} {w : World} {A : Around} {E : Value -> Shared -> Prop} {s : Shared}
end
end L2
namespace L2
open PySem PySem.Spec PyProof.Rows
section
variable {prog : Program} {w : World} {K : Type} [DecidableEq K] {knd : KeyKind prog w K} {A : Around} {R : Result -> Shared -> Prop}
end
end L2
namespace L2
open PySem PySem.Spec PyProof.Rows
section
variable {prog : Program} {w : World} {A : Around} {E : Value -> Shared -> Prop} {s : Shared}
end
end L2
namespace L2
open PySem PySem.Spec PyProof.Rows
section
variable {prog : Program} {w : World} {A : Around} {E : Value -> Shared -> Prop} {s : Shared}
end
end L2
namespace L2
open PySem PySem.Spec PyProof.Rows
section
variable {prog : Program} {w : World} {A : Around} {E : Value -> Shared -> Prop} {s : Shared}
end
section
variable {X : Cx}
end
end L2
namespace L2
open PySem PySem.Spec PyProof.Rows
section
variable {prog : Program} {w : World} {A : Around} {E : Value -> Shared -> Prop} {s : Shared}
end
section
variable {X : Cx}
end
end L2
namespace L2
open PySem PySem.Spec PyProof.Rows SeqAt
section
variable {prog : Program} {w : World} {K : Type} [DecidableEq K] {knd : KeyKind prog w K} {A : Around} {E : Value -> Shared -> Prop} {s : Shared}
end
section
variable {prog : Program} {w : World} {K : Type} [DecidableEq K] {knd : KeyKind prog w K} {A : Around} {E : Value -> Shared -> Prop} {s : Shared}
end
section
variable {X : Cx}
end
end L2
namespace L2
open PySem PySem.Spec PyProof.Rows SeqAt
section
variable {X : Cx}
end
end L2
namespace Sm
open PySem PySem.Spec L2
inductive PV where
  | non | bl (b : Bool) | int (i : Int) | str (x : Str) | tup (xs : List PV) | lst (xs : List PV) | fro (xs : List PV) | ref (i : Nat) | dic
inductive Cell where
  | lst (xs : List PV) | dic (kvs : List (Key × PV)) | dtp (kvs : List (HK × PV)) | frd (kvs : List (Key × PV))
  | obj (C : Addr) (fs : List (Str × PV))
abbrev Store:=List Cell
structure Exc where
  cls : Str
  fs : Option (Str × PV):=none
inductive Res (α : Type) where
  | ok (a : α) (st : Store) | exc (x : Exc) (st : Store) | stuck
abbrev Gam:=List (Option PV)
abbrev ME:=Gam -> Store -> Res PV
structure Tk where
  tr : List Addr
  hid : List Addr
instance : Membership Addr Tk:=⟨fun t a=>a ∈ t.tr \/ a ∈ t.hid⟩
def Tk.nil : Tk:=⟨[],[]⟩
theorem Tk.not_nil (a : Addr) : a ∉ Tk.nil:=fun z=>by rcases z with z | z <;> cases z
def Tk.add (t : Tk) (p : Addr) : Tk:=⟨t.tr ++ [p],t.hid⟩
def Tk.hide (t : Tk) (p : Addr) : Tk:=⟨t.tr,p :: t.hid⟩
mutual
def Rep (H : Hp) (ρ : Tk) : PV -> V -> Prop
  | .non,v=>v = .non
  | .bl b,v=>v = .bl b
  | .int i,v=>v = .int i
  | .str x,v=>v = .str x
  | .tup ps,v=>∃ a vs,v = .ref a /\ H a = some (.tup vs) /\ a ∉ ρ /\ RepL H ρ ps vs
  | .lst ps,v=>∃ a vs,v = .ref a /\ H a = some (.lst vs) /\ a ∉ ρ /\ RepL H ρ ps vs
  | .fro ps,v=>∃ a vs,v = .ref a /\ Rd H a (.lst vs) /\ a ∉ ρ /\ RepL H ρ ps vs
  | .ref i,v=>∃ a,ρ.tr[i]? = some a /\ v = .ref a
  | .dic,v=>∃ a,v = .ref a /\ H a = some (.dK []) /\ a ∉ ρ
def RepL (H : Hp) (ρ : Tk) : List PV -> List V -> Prop
  | [],vs=>vs = []
  | p :: ps,vs=>∃ v r,vs = v :: r /\ Rep H ρ p v /\ RepL H ρ ps r
end
structure Ext (H : Hp) (ρ : Tk) (H' : Hp) (ρ' : Tk) : Prop where
  pre : ρ.tr <+: ρ'.tr
  hidM : ∀ a,a ∈ ρ.hid -> a ∈ ρ'.hid
  hidN : ∀ a,a ∈ ρ'.hid -> a ∈ ρ.hid \/ H a = none
  keep : ∀ a o,H a = some o -> a ∉ ρ.tr -> H' a = some o
  new : ∀ a,a ∈ ρ'.tr -> a ∈ ρ.tr \/ H a = none
  old : ∀ a o,H a = some o -> ∃ o',H' a = some o'
  frz : ∀ a o u,H a = some (.frz o u) -> H' a = some (.frz o u)
theorem Ext.refl (H : Hp) (ρ : Tk) : Ext H ρ H ρ:=⟨List.prefix_refl _,fun _ h=>h,fun _ h=>.inl h,fun _ _ h _=>h,fun _ h=>.inl h,fun _ o h=>⟨o,h⟩,fun _ _ _ h=>h⟩
theorem Ext.trans {H H1 H2 : Hp} {ρ ρ1 ρ2 : Tk} (a : Ext H ρ H1 ρ1) (b : Ext H1 ρ1 H2 ρ2) : Ext H ρ H2 ρ2 where
  pre:=a.pre.trans b.pre
  hidM:=fun x h=>b.hidM x (a.hidM x h)
  hidN:=fun x h=>by
    rcases b.hidN x h with z | z
    · exact a.hidN x z
    · right
      cases q : H x with
      | none=>rfl
      | some o=>
        obtain ⟨o',e⟩:=a.old x o q
        rw [e] at z; cases z
  keep:=fun x o h n=>b.keep x o (a.keep x o h n) fun z=>by
    rcases a.new x z with z | z
    · exact n z
    · rw [h] at z; cases z
  new:=fun x h=>by
    rcases b.new x h with z | z
    · exact a.new x z
    · right
      cases q : H x with
      | none=>rfl
      | some o=>
        obtain ⟨o',e⟩:=a.old x o q
        rw [e] at z; cases z
  old:=fun x o h=>by
    obtain ⟨o',e⟩:=a.old x o h
    exact b.old x o' e
  frz:=fun x o u h=>b.frz x o u (a.frz x o u h)
theorem Ext.add {H : Hp} {ρ : Tk} {p : Addr} {o : HO} (h : H p = none) : Ext H ρ (upd H p o) ρ where
  pre:=List.prefix_refl _
  hidM:=fun _ h=>h
  hidN:=fun _ h=>.inl h
  keep:=fun a u e _=>by rw [upd_ne (ne_of_none e h)]; exact e
  new:=fun a e=>.inl e
  old:=fun a u e=>⟨u,by rw [upd_ne (ne_of_none e h)]; exact e⟩
  frz:=fun a o u e=>by rw [upd_ne (ne_of_none e h)]; exact e
theorem Ext.same {H H' : Hp} {ρ : Tk} (h : Same H H') : Ext H ρ H' ρ:=⟨List.prefix_refl _,fun _ h=>h,fun _ h=>.inl h,fun a o e _=>h a o e,fun _ e=>.inl e,fun a o e=>⟨o,h a o e⟩,fun a o u e=>h a _ e⟩
section
variable {H H' : Hp} {ρ ρ' : Tk}
theorem fresh_not {a : Addr} {o : HO} (x : Ext H ρ H' ρ') (h : H a = some o) (n : a ∉ ρ) : a ∉ ρ':=fun z=>by
  rcases z with z | z
  · rcases x.new a z with z | z
    · exact n (.inl z)
    · rw [h] at z; cases z
  · rcases x.hidN a z with z | z
    · exact n (.inr z)
    · rw [h] at z; cases z
theorem Ext.kp {a : Addr} {o : HO} (x : Ext H ρ H' ρ') (h : H a = some o) (n : a ∉ ρ) : H' a = some o:=x.keep a o h fun z=>n (.inl z)
mutual
theorem Rep.ext (x : Ext H ρ H' ρ') : ∀ {p : PV} {v : V},Rep H ρ p v -> Rep H' ρ' p v
  | .non,_,h=>h
  | .bl _,_,h=>h
  | .int _,_,h=>h
  | .str _,_,h=>h
  | .tup ps,v,h=>by
    obtain ⟨a,vs,e,s,n,r⟩:=h
    exact ⟨a,vs,e,x.kp s n,fresh_not x s n,RepL.ext x r⟩
  | .lst ps,v,h=>by
    obtain ⟨a,vs,e,s,n,r⟩:=h
    exact ⟨a,vs,e,x.kp s n,fresh_not x s n,RepL.ext x r⟩
  | .fro ps,v,h=>by
    obtain ⟨a,vs,e,s,n,r⟩:=h
    rcases s with s | ⟨o,s⟩
    · exact ⟨a,vs,e,.inl (x.kp s n),fresh_not x s n,RepL.ext x r⟩
    · exact ⟨a,vs,e,.inr ⟨o,x.kp s n⟩,fresh_not x s n,RepL.ext x r⟩
  | .ref i,v,h=>by
    obtain ⟨a,e,rfl⟩:=h
    obtain ⟨t,et⟩:=x.pre
    refine ⟨a,?_,rfl⟩
    rw [<- et,List.getElem?_append_left (List.getElem?_eq_some_iff.mp e).1]
    exact e
  | .dic,v,h=>by
    obtain ⟨a,e,s,n⟩:=h
    exact ⟨a,e,x.kp s n,fresh_not x s n⟩
theorem RepL.ext (x : Ext H ρ H' ρ') : ∀ {ps : List PV} {vs : List V},RepL H ρ ps vs -> RepL H' ρ' ps vs
  | [],_,h=>h
  | p :: ps,vs,h=>by
    obtain ⟨v,r,e,h1,h2⟩:=h
    exact ⟨v,r,e,Rep.ext x h1,RepL.ext x h2⟩
end
mutual
theorem Rep.hide {a : Addr} {o : HO} (h : H a = none) : ∀ {p : PV} {v : V},Rep H ρ p v -> Rep (upd H a o) (ρ.hide a) p v
  | .non,_,r=>r
  | .bl _,_,r=>r
  | .int _,_,r=>r
  | .str _,_,r=>r
  | .tup ps,v,⟨b,vs,e,s,n,r⟩=>⟨b,vs,e,by rw [upd_ne (ne_of_none s h)]; exact s,fun z=>by
      rcases z with z | z
      · exact n (.inl z)
      · rcases List.mem_cons.mp z with z | z
        · exact ne_of_none s h z
        · exact n (.inr z),RepL.hide h r⟩
  | .lst ps,v,⟨b,vs,e,s,n,r⟩=>⟨b,vs,e,by rw [upd_ne (ne_of_none s h)]; exact s,fun z=>by
      rcases z with z | z
      · exact n (.inl z)
      · rcases List.mem_cons.mp z with z | z
        · exact ne_of_none s h z
        · exact n (.inr z),RepL.hide h r⟩
  | .fro ps,v,⟨b,vs,e,s,n,r⟩=>by
      have ne : b ≠ a:=by
        rcases s with s | ⟨_,s⟩
        · exact ne_of_none s h
        · exact ne_of_none s h
      refine ⟨b,vs,e,?_,fun z=>?_,RepL.hide h r⟩
      · rcases s with s | ⟨u,s⟩
        · exact .inl (by rw [upd_ne ne]; exact s)
        · exact .inr ⟨u,by rw [upd_ne ne]; exact s⟩
      · rcases z with z | z
        · exact n (.inl z)
        · rcases List.mem_cons.mp z with z | z
          · exact ne z
          · exact n (.inr z)
  | .ref i,v,r=>r
  | .dic,v,⟨b,e,s,n⟩=>⟨b,e,by rw [upd_ne (ne_of_none s h)]; exact s,fun z=>by
      rcases z with z | z
      · exact n (.inl z)
      · rcases List.mem_cons.mp z with z | z
        · exact ne_of_none s h z
        · exact n (.inr z)⟩
theorem RepL.hide {a : Addr} {o : HO} (h : H a = none) : ∀ {ps : List PV} {vs : List V},RepL H ρ ps vs -> RepL (upd H a o) (ρ.hide a) ps vs
  | [],_,r=>r
  | p :: ps,_,⟨v,t,e,r1,r2⟩=>⟨v,t,e,Rep.hide h r1,RepL.hide h r2⟩
end
mutual
theorem Rep.rehide {a : Addr} {o : HO} (h : a ∈ ρ.hid) : ∀ {p : PV} {v : V},Rep H ρ p v -> Rep (upd H a o) ρ p v
  | .non,_,r=>r
  | .bl _,_,r=>r
  | .int _,_,r=>r
  | .str _,_,r=>r
  | .tup ps,v,⟨b,vs,e,s,n,r⟩=>⟨b,vs,e,by rw [upd_ne (show b ≠ a from fun z=>n (.inr (by rw [z]; exact h)))]; exact s,n,RepL.rehide h r⟩
  | .lst ps,v,⟨b,vs,e,s,n,r⟩=>⟨b,vs,e,by rw [upd_ne (show b ≠ a from fun z=>n (.inr (by rw [z]; exact h)))]; exact s,n,RepL.rehide h r⟩
  | .fro ps,v,⟨b,vs,e,s,n,r⟩=>by
      have ne : b ≠ a:=fun z=>n (.inr (by rw [z]; exact h))
      refine ⟨b,vs,e,?_,n,RepL.rehide h r⟩
      rcases s with s | ⟨u,s⟩
      · exact .inl (by rw [upd_ne ne]; exact s)
      · exact .inr ⟨u,by rw [upd_ne ne]; exact s⟩
  | .ref i,v,r=>r
  | .dic,v,⟨b,e,s,n⟩=>⟨b,e,by rw [upd_ne (show b ≠ a from fun z=>n (.inr (by rw [z]; exact h)))]; exact s,n⟩
theorem RepL.rehide {a : Addr} {o : HO} (h : a ∈ ρ.hid) : ∀ {ps : List PV} {vs : List V},RepL H ρ ps vs -> RepL (upd H a o) ρ ps vs
  | [],_,r=>r
  | p :: ps,_,⟨v,t,e,r1,r2⟩=>⟨v,t,e,Rep.rehide h r1,RepL.rehide h r2⟩
end
mutual
theorem Rep.retr {a : Addr} {o : HO} (h : a ∈ ρ.tr) : ∀ {p : PV} {v : V},Rep H ρ p v -> Rep (upd H a o) ρ p v
  | .non,_,r=>r
  | .bl _,_,r=>r
  | .int _,_,r=>r
  | .str _,_,r=>r
  | .tup ps,v,⟨b,vs,e,s,n,r⟩=>⟨b,vs,e,by rw [upd_ne (show b ≠ a from fun z=>n (.inl (by rw [z]; exact h)))]; exact s,n,RepL.retr h r⟩
  | .lst ps,v,⟨b,vs,e,s,n,r⟩=>⟨b,vs,e,by rw [upd_ne (show b ≠ a from fun z=>n (.inl (by rw [z]; exact h)))]; exact s,n,RepL.retr h r⟩
  | .fro ps,v,⟨b,vs,e,s,n,r⟩=>by
      have ne : b ≠ a:=fun z=>n (.inl (by rw [z]; exact h))
      refine ⟨b,vs,e,?_,n,RepL.retr h r⟩
      rcases s with s | ⟨u,s⟩
      · exact .inl (by rw [upd_ne ne]; exact s)
      · exact .inr ⟨u,by rw [upd_ne ne]; exact s⟩
  | .ref i,v,r=>r
  | .dic,v,⟨b,e,s,n⟩=>⟨b,e,by rw [upd_ne (show b ≠ a from fun z=>n (.inl (by rw [z]; exact h)))]; exact s,n⟩
theorem RepL.retr {a : Addr} {o : HO} (h : a ∈ ρ.tr) : ∀ {ps : List PV} {vs : List V},RepL H ρ ps vs -> RepL (upd H a o) ρ ps vs
  | [],_,r=>r
  | p :: ps,_,⟨v,t,e,r1,r2⟩=>⟨v,t,e,Rep.retr h r1,RepL.retr h r2⟩
end
mutual
theorem Rep.unhide {hs : List Addr} (hh : ∀ a,a ∈ hs -> a ∈ ρ.hid) : ∀ {p : PV} {v : V},Rep H ρ p v -> Rep H ⟨ρ.tr,hs⟩ p v
  | .non,_,r=>r
  | .bl _,_,r=>r
  | .int _,_,r=>r
  | .str _,_,r=>r
  | .tup ps,v,⟨b,vs,e,s,n,r⟩=>⟨b,vs,e,s,fun z=>n (z.imp id (hh _)),RepL.unhide hh r⟩
  | .lst ps,v,⟨b,vs,e,s,n,r⟩=>⟨b,vs,e,s,fun z=>n (z.imp id (hh _)),RepL.unhide hh r⟩
  | .fro ps,v,⟨b,vs,e,s,n,r⟩=>⟨b,vs,e,s,fun z=>n (z.imp id (hh _)),RepL.unhide hh r⟩
  | .ref i,v,r=>r
  | .dic,v,⟨b,e,s,n⟩=>⟨b,e,s,fun z=>n (z.imp id (hh _))⟩
theorem RepL.unhide {hs : List Addr} (hh : ∀ a,a ∈ hs -> a ∈ ρ.hid) : ∀ {ps : List PV} {vs : List V},RepL H ρ ps vs -> RepL H ⟨ρ.tr,hs⟩ ps vs
  | [],_,r=>r
  | p :: ps,_,⟨v,t,e,r1,r2⟩=>⟨v,t,e,Rep.unhide hh r1,RepL.unhide hh r2⟩
end
theorem RepL.length : ∀ {ps : List PV} {vs : List V},RepL H ρ ps vs -> ps.length = vs.length
  | [],_,h=>by cases h; rfl
  | p :: ps,_,⟨v,r,rfl,_,h2⟩=>by rw [List.length_cons,List.length_cons,RepL.length h2]
theorem RepL.get : ∀ {ps : List PV} {vs : List V} {i : Nat} {p : PV},RepL H ρ ps vs -> ps[i]? = some p -> ∃ v,vs[i]? = some v /\ Rep H ρ p v
  | [],_,_,_,_,e=>by simp at e
  | p :: ps,_,0,q,⟨v,r,rfl,h1,h2⟩,e=>by simp at e; subst e; exact ⟨v,rfl,h1⟩
  | p :: ps,_,i + 1,q,⟨v,r,rfl,h1,h2⟩,e=>by
    obtain ⟨u,e1,e2⟩:=RepL.get (i:=i) h2 (by simpa using e)
    exact ⟨u,by simpa using e1,e2⟩
theorem RepL.cons {p : PV} {v : V} {ps : List PV} {vs : List V} (h : Rep H ρ p v) (r : RepL H ρ ps vs) : RepL H ρ (p :: ps) (v :: vs):=⟨v,vs,rfl,h,r⟩
theorem RepL.nil : RepL H ρ [] []:=rfl
theorem RepL.append : ∀ {ps qs : List PV} {vs us : List V},RepL H ρ ps vs -> RepL H ρ qs us -> RepL H ρ (ps ++ qs) (vs ++ us)
  | [],_,_,_,h,g=>by cases h; exact g
  | p :: ps,_,_,_,⟨v,r,rfl,h1,h2⟩,g=>⟨v,_,rfl,h1,RepL.append h2 g⟩
theorem RepL.take : ∀ {ps : List PV} {vs : List V} (n : Nat),RepL H ρ ps vs -> RepL H ρ (ps.take n) (vs.take n)
  | _,_,0,_=>rfl
  | [],_,n + 1,h=>by cases h; rfl
  | p :: ps,_,n + 1,⟨v,r,rfl,h1,h2⟩=>⟨v,_,rfl,h1,RepL.take n h2⟩
theorem RepL.drop : ∀ {ps : List PV} {vs : List V} (n : Nat),RepL H ρ ps vs -> RepL H ρ (ps.drop n) (vs.drop n)
  | _,_,0,h=>h
  | [],_,n + 1,h=>by cases h; rfl
  | p :: ps,_,n + 1,⟨v,r,rfl,h1,h2⟩=>RepL.drop n h2
theorem RepL.set {p : PV} {v : V} (h : Rep H ρ p v) : ∀ {ps : List PV} {vs : List V} (i : Nat),RepL H ρ ps vs -> RepL H ρ (ps.set i p) (vs.set i v)
  | [],_,_,g=>by cases g; rfl
  | q :: ps,_,0,⟨u,r,rfl,h1,h2⟩=>⟨v,r,rfl,h,h2⟩
  | q :: ps,_,i + 1,⟨u,r,rfl,h1,h2⟩=>⟨u,_,rfl,h1,RepL.set h i h2⟩
theorem RepL.rep {ps : List PV} {vs : List V} (h : RepL H ρ ps vs) : ∀ n,RepL H ρ (List.replicate n ps).flatten (List.replicate n vs).flatten
  | 0=>rfl
  | n + 1=>by rw [List.replicate_succ,List.replicate_succ,List.flatten_cons,List.flatten_cons]; exact h.append (RepL.rep h n)
theorem RepL.toInts : ∀ {ns : List Int} {vs : List V},RepL H ρ (ns.map .int) vs -> vs = ns.map V.int
  | [],_,h=>h
  | n :: ns,_,⟨v,r,rfl,h1,h2⟩=>by
    have e : v = V.int n:=h1
    rw [RepL.toInts h2,e]; rfl
theorem RepL.toBls : ∀ {ns : List Bool} {vs : List V},RepL H ρ (ns.map .bl) vs -> vs = ns.map V.bl
  | [],_,h=>h
  | n :: ns,_,⟨v,r,rfl,h1,h2⟩=>by
    have e : v = V.bl n:=h1
    rw [RepL.toBls h2,e]; rfl
end
def RepD {κ : Type} (H : Hp) (ρ : Tk) (kvs : List (κ × PV)) (vs : List (κ × V)) : Prop:=vs.map Prod.fst = kvs.map Prod.fst /\ RepL H ρ (kvs.map Prod.snd) (vs.map Prod.snd)
theorem RepD.ext {κ : Type} {H H' : Hp} {ρ ρ' : Tk} {kvs : List (κ × PV)} {vs : List (κ × V)} (x : Ext H ρ H' ρ') (r : RepD H ρ kvs vs) : RepD H' ρ' kvs vs:=⟨r.1,r.2.ext x⟩
theorem RepD.length {κ : Type} {H : Hp} {ρ : Tk} {kvs : List (κ × PV)} {vs : List (κ × V)} (r : RepD H ρ kvs vs) : kvs.length = vs.length:=by
  have:=congrArg List.length r.1
  rw [List.length_map,List.length_map] at this
  exact this.symm
def CellR (H : Hp) (ρ : Tk) (a : Addr) : Cell -> Prop
  | .lst ps=>∃ vs,H a = some (.lst vs) /\ RepL H ρ ps vs
  | .dic kvs=>∃ vs,H a = some (.dK vs) /\ RepD H ρ kvs vs
  | .dtp kvs=>∃ vs,H a = some (.dT vs) /\ RepD H ρ kvs vs
  | .frd kvs=>∃ vs,(∃ o,H a = some (.frz o (.dK vs))) /\ RepD H ρ kvs vs
  | .obj C fs=>∃ vs,(∃ dx,H a = some (.ins C dx vs)) /\ RepD H ρ fs vs
theorem CellR.dom {H : Hp} {ρ : Tk} {a : Addr} : ∀ {c : Cell},CellR H ρ a c -> ∃ o,H a = some o
  | .lst _,⟨_,e,_⟩=>⟨_,e⟩
  | .dic _,⟨_,e,_⟩=>⟨_,e⟩
  | .dtp _,⟨_,e,_⟩=>⟨_,e⟩
  | .frd _,⟨_,⟨_,e⟩,_⟩=>⟨_,e⟩
  | .obj _ _,⟨_,⟨_,e⟩,_⟩=>⟨_,e⟩
theorem CellR.ext {H H' : Hp} {ρ ρ' : Tk} {a : Addr} (x : Ext H ρ H' ρ') (k : ∀ o,H a = some o -> H' a = some o) : ∀ {c : Cell},CellR H ρ a c -> CellR H' ρ' a c
  | .lst _,⟨vs,e,r⟩=>⟨vs,k _ e,r.ext x⟩
  | .dic _,⟨vs,e,r⟩=>⟨vs,k _ e,r.ext x⟩
  | .dtp _,⟨vs,e,r⟩=>⟨vs,k _ e,r.ext x⟩
  | .frd _,⟨vs,⟨o,e⟩,r⟩=>⟨vs,⟨o,k _ e⟩,r.ext x⟩
  | .obj _ _,⟨vs,⟨o,e⟩,r⟩=>⟨vs,⟨o,k _ e⟩,r.ext x⟩
structure Rel (H : Hp) (ρ : Tk) (st : Store) : Prop where
  len : ρ.tr.length = st.length
  nd : ρ.tr.Nodup
  hd : ∀ a ∈ ρ.hid,∃ o,H a = some o /\ ∀ xs,o ≠ .tup xs
  ap : ∀ a ∈ ρ.hid,a ∉ ρ.tr
  cell : ∀ (i : Nat) (a : Addr) (c : Cell),ρ.tr[i]? = some a -> st[i]? = some c -> CellR H ρ a c
section
variable {H H' : Hp} {ρ ρ' : Tk} {st st' : Store}
theorem Rel.lst (R : Rel H ρ st) {i : Nat} {ps : List PV} (h : st[i]? = some (.lst ps)) : ∃ a vs,ρ.tr[i]? = some a /\ H a = some (.lst vs) /\ RepL H ρ ps vs:=by
  have hi : i < ρ.tr.length:=by rw [R.len]; exact (List.getElem?_eq_some_iff.mp h).1
  have e : ρ.tr[i]? = some ρ.tr[i]:=List.getElem?_eq_getElem hi
  obtain ⟨vs,e1,e2⟩:=R.cell i _ _ e h
  exact ⟨_,vs,e,e1,e2⟩
theorem Rel.dtp (R : Rel H ρ st) {i : Nat} {kvs : List (HK × PV)} (h : st[i]? = some (.dtp kvs)) : ∃ a vs,ρ.tr[i]? = some a /\ H a = some (.dT vs) /\ RepD H ρ kvs vs:=by
  have hi : i < ρ.tr.length:=by rw [R.len]; exact (List.getElem?_eq_some_iff.mp h).1
  have e : ρ.tr[i]? = some ρ.tr[i]:=List.getElem?_eq_getElem hi
  obtain ⟨vs,e1,e2⟩:=R.cell i _ _ e h
  exact ⟨_,vs,e,e1,e2⟩
theorem Rel.dom (R : Rel H ρ st) {a : Addr} (h : a ∈ ρ.tr) : ∃ o,H a = some o:=by
  obtain ⟨i,hi,e⟩:=List.getElem_of_mem h
  have hs : i < st.length:=by rw [<- R.len]; exact hi
  have q:=R.cell i a st[i] (by rw [List.getElem?_eq_getElem hi,e]) (List.getElem?_eq_getElem hs)
  exact q.dom
theorem Rel.fresh (R : Rel H ρ st) {p : Addr} (h : H p = none) : p ∉ ρ:=fun z=>by
  rcases z with z | z
  · obtain ⟨vs,q⟩:=R.dom z
    rw [h] at q; cases q
  · obtain ⟨o,q,_⟩:=R.hd p z
    rw [h] at q; cases q
theorem Rel.later (R : Rel H ρ st) (x : Ext H ρ H' ρ) (k : ∀ a o,a ∈ ρ.tr -> H a = some o -> H' a = some o) : Rel H' ρ st where
  len:=R.len
  nd:=R.nd
  hd:=fun a ha=>let ⟨o,e,n⟩:=R.hd a ha; ⟨o,x.keep a o e (R.ap a ha),n⟩
  ap:=R.ap
  cell:=fun i a c h1 h2=>by
    exact (R.cell i a c h1 h2).ext x fun o e=>k a o (List.mem_of_getElem? h1) e
end
theorem Rel.add {H : Hp} {ρ : Tk} {st : Store} (R : Rel H ρ st) {p : Addr} {o : HO} (h : H p = none) : Rel (upd H p o) ρ st:=
  R.later (Ext.add h) fun a u hm e=>by rw [upd_ne (ne_of_none e h)]; exact e
theorem Rel.same {H H' : Hp} {ρ : Tk} {st : Store} (R : Rel H ρ st) (h : Same H H') : Rel H' ρ st:=R.later (Ext.same h) fun a u _ e=>h a u e
theorem nodup_inj {α : Type} {l : List α} (h : l.Nodup) {i j : Nat} (hi : i < l.length) (hj : j < l.length) (e : l[i] = l[j]) : i = j:=by
  rcases Nat.lt_trichotomy i j with z | z | z
  · exact absurd e ((List.pairwise_iff_getElem.mp h) i j hi hj z)
  · exact z
  · exact absurd e.symm ((List.pairwise_iff_getElem.mp h) j i hj hi z)
theorem Ext.put {H : Hp} {ρ : Tk} {a : Addr} {o o' : HO} (h : a ∈ ρ.tr) (e : H a = some o) (nf : ∀ q u,o ≠ .frz q u:=by intro _ _ z; cases z) : Ext H ρ (upd H a o') ρ where
  pre:=List.prefix_refl _
  hidM:=fun _ h=>h
  hidN:=fun _ h=>.inl h
  keep:=fun b u q n=>by rw [upd_ne (show b ≠ a from fun z=>n (by rw [z]; exact h))]; exact q
  new:=fun b q=>.inl q
  old:=fun b u q=>by
    by_cases z : b = a
    · exact ⟨o',by rw [z]; exact upd_same⟩
    · exact ⟨u,by rw [upd_ne z]; exact q⟩
  frz:=fun b q u k=>by
    by_cases z : b = a
    · rw [z,e] at k; cases k; exact absurd rfl (nf _ _)
    · rw [upd_ne z]; exact k
theorem Rel.putC {H : Hp} {ρ : Tk} {st : Store} (R : Rel H ρ st) {i : Nat} {a : Addr} {cl : Cell} {o o' : HO} (hi : ρ.tr[i]? = some a) (e : H a = some o) (r : CellR (upd H a o') ρ a cl) : Rel (upd H a o') ρ (st.set i cl) where
  len:=by rw [List.length_set]; exact R.len
  nd:=R.nd
  hd:=fun b hb=>let ⟨u,q,n⟩:=R.hd b hb; ⟨u,by rw [upd_ne (show b ≠ a from fun z=>R.ap b hb (by rw [z]; exact List.mem_of_getElem? hi))]; exact q,n⟩
  ap:=R.ap
  cell:=fun j b c h1 h2=>by
    by_cases hj : i = j
    · subst hj
      rw [hi] at h1; cases h1
      rw [List.getElem?_set_self (by rw [<- R.len]; exact (List.getElem?_eq_some_iff.mp hi).1)] at h2
      cases h2
      exact r
    · rw [List.getElem?_set_ne hj] at h2
      have q:=R.cell j b c h1 h2
      have hb : b ≠ a:=fun z=>by
        subst z
        have l1:=(List.getElem?_eq_some_iff.mp hi)
        have l2:=(List.getElem?_eq_some_iff.mp h1)
        exact hj (nodup_inj R.nd l1.1 l2.1 (l1.2.trans l2.2.symm))
      have hm:=List.mem_of_getElem? hi
      cases c with
      | lst ps=>
        obtain ⟨vs,e1,e2⟩:=q
        exact ⟨vs,by rw [upd_ne hb]; exact e1,e2.retr hm⟩
      | dic ps=>
        obtain ⟨vs,e1,e2⟩:=q
        exact ⟨vs,by rw [upd_ne hb]; exact e1,e2.1,e2.2.retr hm⟩
      | dtp ps=>
        obtain ⟨vs,e1,e2⟩:=q
        exact ⟨vs,by rw [upd_ne hb]; exact e1,e2.1,e2.2.retr hm⟩
      | frd ps=>
        obtain ⟨vs,⟨oo,e1⟩,e2⟩:=q
        exact ⟨vs,⟨oo,by rw [upd_ne hb]; exact e1⟩,e2.1,e2.2.retr hm⟩
      | obj C ps=>
        obtain ⟨vs,⟨oo,e1⟩,e2⟩:=q
        exact ⟨vs,⟨oo,by rw [upd_ne hb]; exact e1⟩,e2.1,e2.2.retr hm⟩
theorem Rel.put {H : Hp} {ρ : Tk} {st : Store} (R : Rel H ρ st) {i : Nat} {a : Addr} {ps : List PV} {vs : List V} {o : HO} (hi : ρ.tr[i]? = some a) (e : H a = some o) (r : RepL H ρ ps vs) : Rel (upd H a (.lst vs)) ρ (st.set i (.lst ps)):=
  R.putC hi e ⟨vs,upd_same,r.retr (List.mem_of_getElem? hi)⟩
theorem Rel.hide {H : Hp} {ρ : Tk} {st : Store} (R : Rel H ρ st) {p : Addr} {o : HO} (h : H p = none) (nt : ∀ xs,o ≠ .tup xs:=by intro _ z; cases z) : Rel (upd H p o) (ρ.hide p) st:=by
  have x : Ext H ρ (upd H p o) ρ:=Ext.add h
  have R':=R.add (p:=p) (o:=o) h
  refine ⟨R'.len,R'.nd,fun a ha=>?_,fun a ha z=>?_,fun i a c h1 h2=>?_⟩
  · rcases List.mem_cons.mp ha with rfl | ha
    · exact ⟨o,upd_same,nt⟩
    · exact R'.hd a ha
  · rcases List.mem_cons.mp ha with rfl | ha
    · exact R.fresh h (.inl z)
    · exact R.ap a ha z
  · have q:=R.cell i a c h1 h2
    cases c with
    | lst ps=>
      obtain ⟨vs,e1,e2⟩:=q
      exact ⟨vs,by rw [upd_ne (ne_of_none e1 h)]; exact e1,e2.hide h⟩
    | dic ps=>
      obtain ⟨vs,e1,e2⟩:=q
      exact ⟨vs,by rw [upd_ne (ne_of_none e1 h)]; exact e1,e2.1,e2.2.hide h⟩
    | dtp ps=>
      obtain ⟨vs,e1,e2⟩:=q
      exact ⟨vs,by rw [upd_ne (ne_of_none e1 h)]; exact e1,e2.1,e2.2.hide h⟩
    | frd ps=>
      obtain ⟨vs,⟨oo,e1⟩,e2⟩:=q
      exact ⟨vs,⟨oo,by rw [upd_ne (ne_of_none e1 h)]; exact e1⟩,e2.1,e2.2.hide h⟩
    | obj C ps=>
      obtain ⟨vs,⟨oo,e1⟩,e2⟩:=q
      exact ⟨vs,⟨oo,by rw [upd_ne (ne_of_none e1 h)]; exact e1⟩,e2.1,e2.2.hide h⟩
theorem Rel.rehide {H : Hp} {ρ : Tk} {st : Store} (R : Rel H ρ st) {p : Addr} {o : HO} (h : p ∈ ρ.hid) (nt : ∀ xs,o ≠ .tup xs:=by intro _ z; cases z) : Rel (upd H p o) ρ st:=by
  refine ⟨R.len,R.nd,fun a ha=>?_,R.ap,fun i a c h1 h2=>?_⟩
  · by_cases e : a = p
    · exact ⟨o,by rw [e]; exact upd_same,nt⟩
    · obtain ⟨u,q,n⟩:=R.hd a ha
      exact ⟨u,by rw [upd_ne e]; exact q,n⟩
  · have q:=R.cell i a c h1 h2
    have ne : a ≠ p:=fun z=>R.ap p h (by rw [<- z]; exact List.mem_of_getElem? h1)
    cases c with
    | lst ps=>
      obtain ⟨vs,e1,e2⟩:=q
      exact ⟨vs,by rw [upd_ne ne]; exact e1,e2.rehide h⟩
    | dic ps=>
      obtain ⟨vs,e1,e2⟩:=q
      exact ⟨vs,by rw [upd_ne ne]; exact e1,e2.1,e2.2.rehide h⟩
    | dtp ps=>
      obtain ⟨vs,e1,e2⟩:=q
      exact ⟨vs,by rw [upd_ne ne]; exact e1,e2.1,e2.2.rehide h⟩
    | frd ps=>
      obtain ⟨vs,⟨oo,e1⟩,e2⟩:=q
      exact ⟨vs,⟨oo,by rw [upd_ne ne]; exact e1⟩,e2.1,e2.2.rehide h⟩
    | obj C ps=>
      obtain ⟨vs,⟨oo,e1⟩,e2⟩:=q
      exact ⟨vs,⟨oo,by rw [upd_ne ne]; exact e1⟩,e2.1,e2.2.rehide h⟩
theorem Rel.unhide {H : Hp} {ρ : Tk} {st : Store} {hs : List Addr} (hh : ∀ a,a ∈ hs -> a ∈ ρ.hid) (R : Rel H ρ st) : Rel H ⟨ρ.tr,hs⟩ st:=by
  refine ⟨R.len,R.nd,fun a ha=>R.hd a (hh a ha),fun a ha=>R.ap a (hh a ha),fun i a c h1 h2=>?_⟩
  have q:=R.cell i a c h1 h2
  cases c with
  | lst ps=>
    obtain ⟨vs,e1,e2⟩:=q
    exact ⟨vs,e1,RepL.unhide hh e2⟩
  | dic ps=>
    obtain ⟨vs,e1,e2⟩:=q
    exact ⟨vs,e1,e2.1,RepL.unhide hh e2.2⟩
  | dtp ps=>
    obtain ⟨vs,e1,e2⟩:=q
    exact ⟨vs,e1,e2.1,RepL.unhide hh e2.2⟩
  | frd ps=>
    obtain ⟨vs,e1,e2⟩:=q
    exact ⟨vs,e1,e2.1,RepL.unhide hh e2.2⟩
  | obj C ps=>
    obtain ⟨vs,e1,e2⟩:=q
    exact ⟨vs,e1,e2.1,RepL.unhide hh e2.2⟩
theorem Ext.hide {H : Hp} {ρ : Tk} {p : Addr} {o : HO} (h : H p = none) : Ext H ρ (upd H p o) (ρ.hide p) where
  pre:=List.prefix_refl _
  hidM:=fun _ h=>List.mem_cons_of_mem _ h
  hidN:=fun a ha=>by
    rcases List.mem_cons.mp ha with rfl | ha
    · exact .inr h
    · exact .inl ha
  keep:=fun a u e _=>by rw [upd_ne (ne_of_none e h)]; exact e
  new:=fun a e=>.inl e
  old:=fun a u e=>⟨u,by rw [upd_ne (ne_of_none e h)]; exact e⟩
  frz:=fun a o u e=>by rw [upd_ne (ne_of_none e h)]; exact e
theorem Ext.put0 {H H1 : Hp} {ρ ρ1 : Tk} {p : Addr} {o : HO} (x : Ext H ρ H1 ρ1) (h : H p = none) : Ext H ρ (upd H1 p o) ρ1 where
  pre:=x.pre
  hidM:=x.hidM
  hidN:=x.hidN
  keep:=fun a u e n=>by rw [upd_ne (ne_of_none e h)]; exact x.keep a u e n
  new:=x.new
  old:=fun a u e=>by rw [upd_ne (ne_of_none e h)]; exact x.old a u e
  frz:=fun a o u e=>by rw [upd_ne (ne_of_none e h)]; exact x.frz a o u e
theorem Ext.unhide {H H1 : Hp} {ρ ρ1 : Tk} (x : Ext H ρ H1 ρ1) : Ext H ρ H1 ⟨ρ1.tr,ρ.hid⟩ where
  pre:=x.pre
  hidM:=fun _ h=>h
  hidN:=fun _ h=>.inl h
  keep:=x.keep
  new:=x.new
  old:=x.old
  frz:=x.frz
def EnvR (H : Hp) (ρ : Tk) (Γ : Gam) (σ : St) : Prop:=Γ.length = σ.length /\ ∀ (i : Nat) (p : PV),Γ[i]? = some (some p) -> ∃ v,σ[i]? = some (some v) /\ Rep H ρ p v
theorem EnvR.ext {H H' : Hp} {ρ ρ' : Tk} {Γ : Gam} {σ : St} (x : Ext H ρ H' ρ') (h : EnvR H ρ Γ σ) : EnvR H' ρ' Γ σ:=
  ⟨h.1,fun i p e=>let ⟨v,a,b⟩:=h.2 i p e; ⟨v,a,b.ext x⟩⟩
theorem EnvR.hide {H : Hp} {ρ : Tk} {Γ : Gam} {σ : St} {a : Addr} {o : HO} (n : H a = none) (h : EnvR H ρ Γ σ) : EnvR (upd H a o) (ρ.hide a) Γ σ:=⟨h.1,fun i p e=>let ⟨v,a,b⟩:=h.2 i p e; ⟨v,a,b.hide n⟩⟩
theorem EnvR.rehide {H : Hp} {ρ : Tk} {Γ : Gam} {σ : St} {a : Addr} {o : HO} (n : a ∈ ρ.hid) (h : EnvR H ρ Γ σ) : EnvR (upd H a o) ρ Γ σ:=⟨h.1,fun i p e=>let ⟨v,a,b⟩:=h.2 i p e; ⟨v,a,b.rehide n⟩⟩
theorem EnvR.set {H : Hp} {ρ : Tk} {Γ : Gam} {σ : St} {p : PV} {v : V} (h : EnvR H ρ Γ σ) (r : Rep H ρ p v) (i : Nat) : EnvR H ρ (Γ.set i (some p)) (σ.set i (some v)):=by
  refine ⟨by rw [List.length_set,List.length_set]; exact h.1,fun j q e=>?_⟩
  rw [List.getElem?_set] at e
  rw [List.getElem?_set]
  by_cases hj : i = j
  · subst hj
    simp only [if_true] at e ⊢
    by_cases hl : i < Γ.length
    · rw [if_pos hl] at e; cases e
      rw [if_pos (by rw [<- h.1]; exact hl)]
      exact ⟨v,rfl,r⟩
    · rw [if_neg hl] at e; cases e
  · rw [if_neg hj] at e ⊢
    exact h.2 j q e
end Sm
namespace Sm
open PySem PySem.Spec L2
def Res.bind {α β : Type} (r : Res α) (f : α -> Store -> Res β) : Res β:=match r with
  | .ok a st=>f a st
  | .exc x st=>.exc x st
  | .stuck=>.stuck
def okO {α : Type} (st : Store) : Option α -> Res α
  | some a=>.ok a st
  | none=>.stuck
section
variable (X : Cx)
def WE (e : Expr) : TE:=fun σ H Q=>∀ (pins : List (Addr × Obj)) (s : Shared),Inv X pins σ H s -> wpAny (model X.prog X.w) X.A (eval e X.env) (EP X pins σ Q) X.xe s
def WT (e : Expr) : TT:=fun σ H Q=>∀ (pins : List (Addr × Obj)) (s : Shared),Inv X pins σ H s -> wpAny (model X.prog X.w) X.A (isTrue e X.env (eval e X.env)) (TP X pins σ Q) X.xe s
def WW (e : Expr) : TT:=fun σ H Q=>∀ (wh : Sem Value) (pins : List (Addr × Obj)) (s : Shared),Inv X pins σ H s -> wpAny (model X.prog X.w) X.A (isTrue e X.env wh) (TP X pins σ Q) X.xe s
def WA (es : List Expr) : TA:=fun σ H Q=>∀ (pos : Pos) (pins : List (Addr × Obj)) (s : Shared),Inv X pins σ H s -> wpAny (model X.prog X.w) X.A (spliced (backTo pos (starEach es X.env))) (AP X pins σ Q) X.xe s
def WS (st : Stmt) : TS:=fun D σ H=>∀ (pins : List (Addr × Obj)) (s : Shared),Inv X pins σ H s -> wpAny (model X.prog X.w) X.A (exec st X.env) (SP X pins D) X.xe s
def WB (st : List Stmt) : TS:=fun D σ H=>∀ (pins : List (Addr × Obj)) (s : Shared),Inv X pins σ H s -> wpAny (model X.prog X.w) X.A (execs st X.env) (SP X pins D) X.xe s
def WI (tg iter : Expr) : TI := fun σ H R => ∀ (pins : List (Addr × Obj)) (s : Shared), Inv X pins σ H s ->
    wpAny (model X.prog X.w) X.A (eval iter X.env) (fun v s1=>wpAny (model X.prog X.w) X.A (pyIter v) (PIE X pins σ tg R) X.xe s1) X.xe s
def WO (f : Value -> Value -> Sem Value) : R2:=fun x y H Q=>∀ (pins : List (Addr × Obj)) (s : Shared) (σ : St) (v u : Value),Inv X pins σ H s -> RelV x v -> RelV y u -> wpAny (model X.prog X.w) X.A (f v u) (EP X pins σ Q) X.xe s
def WC (f : Value) : List V -> Hp -> VK -> Prop:=fun xs H Q=>∀ (pins : List (Addr × Obj)) (s : Shared) (σ : St) (us : List Value),Inv X pins σ H s -> Vals xs us -> wpAny (model X.prog X.w) X.A (call f us) (EP X pins σ Q) X.xe s
end
section
variable {X : Cx}
theorem pe_w {e : Expr} : PE X e (WE X e):=fun pins s _ _ _ I h=>h pins s I
theorem pt_w {e : Expr} : PT X e (WT X e):=fun pins s _ _ _ I h=>h pins s I
theorem pw_w {e : Expr} : PW X e (WW X e):=fun wh pins s _ _ _ I h=>h wh pins s I
theorem pa_w {es : List Expr} : PA X es (WA X es):=fun pos pins s _ _ _ I h=>h pos pins s I
theorem ps_w {st : Stmt} : PS X st (WS X st):=fun pins s _ _ _ I h=>h pins s I
theorem pss_w {st : List Stmt} : PSs X st (WB X st):=fun pins s _ _ _ I h=>h pins s I
theorem pi_w {tg iter : Expr} : PI X tg iter (WI X tg iter):=fun pins s _ _ _ I h=>h pins s I
theorem op_w {f : Value -> Value -> Sem Value} : OpR X f (WO X f):=fun pins s σ _ _ _ v u _ I r1 r2 h=>h pins s σ v u I r1 r2
theorem call_w {f : Value} : CallR X f (WC X f):=fun pins s σ _ _ us _ I r h=>h pins s σ us I r
theorem WE.of {e : Expr} {t : TE} {σ : St} {H : Hp} {Q : VK} (h : PE X e t) (q : t σ H Q) : WE X e σ H Q:=fun pins s I=>h pins s σ H Q I q
theorem WT.of {e : Expr} {t : TT} {σ : St} {H : Hp} {Q : Bool -> Hp -> Prop} (h : PT X e t) (q : t σ H Q) : WT X e σ H Q:=fun pins s I=>h pins s σ H Q I q
theorem WW.of {e : Expr} {t : TT} {σ : St} {H : Hp} {Q : Bool -> Hp -> Prop} (h : PW X e t) (q : t σ H Q) : WW X e σ H Q:=fun wh pins s I=>h wh pins s σ H Q I q
theorem WA.of {es : List Expr} {t : TA} {σ : St} {H : Hp} {Q : List V -> Hp -> Prop} (h : PA X es t) (q : t σ H Q) : WA X es σ H Q:=fun pos pins s I=>h pos pins s σ H Q I q
theorem WS.of {st : Stmt} {t : TS} {σ : St} {H : Hp} {D : Ends} (h : PS X st t) (q : t D σ H) : WS X st D σ H:=fun pins s I=>h pins s σ H D I q
theorem WB.of {st : List Stmt} {t : TS} {σ : St} {H : Hp} {D : Ends} (h : PSs X st t) (q : t D σ H) : WB X st D σ H:=fun pins s I=>h pins s σ H D I q
theorem WI.of {tg iter : Expr} {t : TI} {σ : St} {H : Hp} {R : It -> Hp -> Prop} (h : PI X tg iter t) (q : t σ H R) : WI X tg iter σ H R:=fun pins s I=>h pins s σ H R I q
theorem WO.of {f : Value -> Value -> Sem Value} {r : R2} {x y : V} {H : Hp} {Q : VK} (h : OpR X f r) (q : r x y H Q) : WO X f x y H Q:=fun pins s σ v u I r1 r2=>h pins s σ H x y v u Q I r1 r2 q
theorem WC.of {f : Value} {r : List V -> Hp -> VK -> Prop} {xs : List V} {H : Hp} {Q : VK} (h : CallR X f r) (q : r xs H Q) : WC X f xs H Q:=fun pins s σ us I r1=>h pins s σ H xs us Q I r1 q
end
def XFs (H : Hp) (ρ : Tk) : Option (Str × PV) -> Option Addr -> Prop
  | none,dv=>dv = none
  | some (n,p),dv=>∃ dx v,dv = some dx /\ H dx = some (.xd [(n,v)]) /\ dx ∉ ρ /\ Rep H ρ p v
def Acc {α : Type} (mg : Str -> Option Value) (E : XK) (H : Hp) (ρ : Tk) (P : α -> Store -> Hp -> Tk -> Prop) : Res α -> Prop
  | .ok a st=>∀ H' ρ',Ext H ρ H' ρ' -> Rel H' ρ' st -> P a st H' ρ'
  | .exc x st=>∀ C dv H' ρ',mg x.cls = some (.ref C) -> Ext H ρ H' ρ' -> Rel H' ρ' st -> XFs H' ρ' x.fs dv -> E (.ref C) dv H'
  | .stuck=>False
section
variable {α β : Type} {mg : Str -> Option Value} {E : XK} {H H1 : Hp} {ρ ρ1 : Tk}
theorem Acc.mono {P P' : α -> Store -> Hp -> Tk -> Prop} {r : Res α} (h : Acc mg E H ρ P r) (x : Ext H ρ H1 ρ1) (k : ∀ a st H' ρ',P a st H' ρ' -> P' a st H' ρ') : Acc mg E H1 ρ1 P' r:=by
  cases r with
  | ok a st=>exact fun H' ρ' x' R'=>k _ _ _ _ (h H' ρ' (x.trans x') R')
  | exc e st=>exact fun C dv H' ρ' m x' R' f=>h C dv H' ρ' m (x.trans x') R' f
  | stuck=>exact h
theorem Acc.later {P : α -> Store -> Hp -> Tk -> Prop} {r : Res α} (h : Acc mg E H ρ P r) (x : Ext H ρ H1 ρ1) : Acc mg E H1 ρ1 P r:=h.mono x fun _ _ _ _ p=>p
theorem Acc.bind {P : β -> Store -> Hp -> Tk -> Prop} {r : Res α} {f : α -> Store -> Res β} (h : Acc mg E H ρ P (r.bind f)) : Acc mg E H ρ (fun a st1 H1 ρ1=>Acc mg E H1 ρ1 P (f a st1)) r:=by
  cases r with
  | ok a st=>exact fun H' ρ' x' R'=>Acc.later (show Acc mg E H ρ P (f a st) from h) x'
  | exc e st=>exact h
  | stuck=>exact h
end
abbrev QV (Q : VK) : PV -> Store -> Hp -> Tk -> Prop:=fun p _ H' ρ'=>∀ v,Rep H' ρ' p v -> Q v H'
abbrev QL (Q : List V -> Hp -> Prop) : List PV -> Store -> Hp -> Tk -> Prop:=fun ps _ H' ρ'=>∀ vs,RepL H' ρ' ps vs -> Q vs H'
abbrev QB (Q : Bool -> Hp -> Prop) : Bool -> Store -> Hp -> Tk -> Prop:=fun b _ H' _=>Q b H'
structure SimE (X : Cx) (E : XK) (e : Expr) (m : ME) : Prop where
  run : ∀ (Γ : Gam) (σ : St) (H : Hp) (ρ : Tk) (st : Store) (Q : VK),Rel H ρ st -> EnvR H ρ Γ σ -> Acc X.mg E H ρ (QV Q) (m Γ st) -> WE X e σ H Q
structure SimT (X : Cx) (E : XK) (e : Expr) (m : Gam -> Store -> Res Bool) : Prop where
  run : ∀ (Γ : Gam) (σ : St) (H : Hp) (ρ : Tk) (st : Store) (Q : Bool -> Hp -> Prop),Rel H ρ st -> EnvR H ρ Γ σ -> Acc X.mg E H ρ (QB Q) (m Γ st) -> WT X e σ H Q
structure SimW (X : Cx) (E : XK) (e : Expr) (m : Gam -> Store -> Res Bool) : Prop where
  run : ∀ (Γ : Gam) (σ : St) (H : Hp) (ρ : Tk) (st : Store) (Q : Bool -> Hp -> Prop),Rel H ρ st -> EnvR H ρ Γ σ -> Acc X.mg E H ρ (QB Q) (m Γ st) -> WW X e σ H Q
structure SimA (X : Cx) (E : XK) (es : List Expr) (m : Gam -> Store -> Res (List PV)) : Prop where
  run : ∀ (Γ : Gam) (σ : St) (H : Hp) (ρ : Tk) (st : Store) (Q : List V -> Hp -> Prop),Rel H ρ st -> EnvR H ρ Γ σ -> Acc X.mg E H ρ (QL Q) (m Γ st) -> WA X es σ H Q
abbrev OP:=Store -> PV -> PV -> Res PV
structure OpS (X : Cx) (E : XK) (f : Value -> Value -> Sem Value) (o : OP) : Prop where
  run : ∀ (H : Hp) (ρ : Tk) (st : Store) (p q : PV) (x y : V) (Q : VK),Rel H ρ st -> Rep H ρ p x -> Rep H ρ q y -> Acc X.mg E H ρ (QV Q) (o st p q) -> WO X f x y H Q
abbrev CF:=Store -> List PV -> Res PV
structure CallS (X : Cx) (E : XK) (f : Value) (o : CF) : Prop where
  run : ∀ (H : Hp) (ρ : Tk) (st : Store) (ps : List PV) (xs : List V) (Q : VK),Rel H ρ st -> RepL H ρ ps xs -> Acc X.mg E H ρ (QV Q) (o st ps) -> WC X f xs H Q
section
variable {X : Cx} {E : XK} {Γ : Gam} {σ : St} {H : Hp} {ρ : Tk} {st : Store}
theorem SimE.use {e : Expr} {m : ME} (s : SimE X E e m) {P : PV -> Store -> Hp -> Tk -> Prop} {Q : VK} (R : Rel H ρ st) (G : EnvR H ρ Γ σ) (h : Acc X.mg E H ρ P (m Γ st))
    (k : ∀ p st1 H1 ρ1 v,Ext H ρ H1 ρ1 -> Rel H1 ρ1 st1 -> EnvR H1 ρ1 Γ σ -> Rep H1 ρ1 p v -> P p st1 H1 ρ1 -> Q v H1) : WE X e σ H Q:=by
  refine s.run Γ σ H ρ st Q R G ?_
  cases r : m Γ st with
  | ok p st1=>rw [r] at h; exact fun H' ρ' x' R' v rv=>k p st1 H' ρ' v x' R' (G.ext x') rv (h H' ρ' x' R')
  | exc e st=>rw [r] at h; exact h
  | stuck=>rw [r] at h; exact h
theorem SimE.use' {e : Expr} {m : ME} (s : SimE X E e m) {P : PV -> Store -> Hp -> Tk -> Prop} {Q : VK} (R : Rel H ρ st) (G : EnvR H ρ Γ σ) (h : Acc X.mg E H ρ P (m Γ st))
    (k : ∀ p st1 H1 ρ1 v,m Γ st = .ok p st1 -> Ext H ρ H1 ρ1 -> Rel H1 ρ1 st1 -> EnvR H1 ρ1 Γ σ -> Rep H1 ρ1 p v -> P p st1 H1 ρ1 -> Q v H1) : WE X e σ H Q:=by
  refine s.run Γ σ H ρ st Q R G ?_
  cases r : m Γ st with
  | ok p st1=>rw [r] at h; exact fun H' ρ' x' R' v rv=>k p st1 H' ρ' v r x' R' (G.ext x') rv (h H' ρ' x' R')
  | exc e st=>rw [r] at h; exact h
  | stuck=>rw [r] at h; exact h
theorem SimA.use' {es : List Expr} {m : Gam -> Store -> Res (List PV)} (s : SimA X E es m) {P : List PV -> Store -> Hp -> Tk -> Prop} {Q : List V -> Hp -> Prop} (R : Rel H ρ st) (G : EnvR H ρ Γ σ) (h : Acc X.mg E H ρ P (m Γ st))
    (k : ∀ ps st1 H1 ρ1 vs,m Γ st = .ok ps st1 -> Ext H ρ H1 ρ1 -> Rel H1 ρ1 st1 -> EnvR H1 ρ1 Γ σ -> RepL H1 ρ1 ps vs -> P ps st1 H1 ρ1 -> Q vs H1) : WA X es σ H Q:=by
  refine s.run Γ σ H ρ st Q R G ?_
  cases r : m Γ st with
  | ok p st1=>rw [r] at h; exact fun H' ρ' x' R' v rv=>k p st1 H' ρ' v r x' R' (G.ext x') rv (h H' ρ' x' R')
  | exc e st=>rw [r] at h; exact h
  | stuck=>rw [r] at h; exact h
theorem SimT.use {e : Expr} {m : Gam -> Store -> Res Bool} (s : SimT X E e m) {P : Bool -> Store -> Hp -> Tk -> Prop} {Q : Bool -> Hp -> Prop} (R : Rel H ρ st) (G : EnvR H ρ Γ σ) (h : Acc X.mg E H ρ P (m Γ st))
    (k : ∀ p st1 H1 ρ1,Ext H ρ H1 ρ1 -> Rel H1 ρ1 st1 -> EnvR H1 ρ1 Γ σ -> P p st1 H1 ρ1 -> Q p H1) : WT X e σ H Q:=by
  refine s.run Γ σ H ρ st Q R G ?_
  cases r : m Γ st with
  | ok p st1=>rw [r] at h; exact fun H' ρ' x' R'=>k p st1 H' ρ' x' R' (G.ext x') (h H' ρ' x' R')
  | exc e st=>rw [r] at h; exact h
  | stuck=>rw [r] at h; exact h
theorem SimT.use' {e : Expr} {m : Gam -> Store -> Res Bool} (s : SimT X E e m) {P : Bool -> Store -> Hp -> Tk -> Prop} {Q : Bool -> Hp -> Prop} (R : Rel H ρ st) (G : EnvR H ρ Γ σ) (h : Acc X.mg E H ρ P (m Γ st))
    (k : ∀ p st1 H1 ρ1,m Γ st = .ok p st1 -> Ext H ρ H1 ρ1 -> Rel H1 ρ1 st1 -> EnvR H1 ρ1 Γ σ -> P p st1 H1 ρ1 -> Q p H1) : WT X e σ H Q:=by
  refine s.run Γ σ H ρ st Q R G ?_
  cases r : m Γ st with
  | ok p st1=>rw [r] at h; exact fun H' ρ' x' R'=>k p st1 H' ρ' r x' R' (G.ext x') (h H' ρ' x' R')
  | exc e st=>rw [r] at h; exact h
  | stuck=>rw [r] at h; exact h
theorem SimW.use {e : Expr} {m : Gam -> Store -> Res Bool} (s : SimW X E e m) {P : Bool -> Store -> Hp -> Tk -> Prop} {Q : Bool -> Hp -> Prop} (R : Rel H ρ st) (G : EnvR H ρ Γ σ) (h : Acc X.mg E H ρ P (m Γ st))
    (k : ∀ p st1 H1 ρ1,Ext H ρ H1 ρ1 -> Rel H1 ρ1 st1 -> EnvR H1 ρ1 Γ σ -> P p st1 H1 ρ1 -> Q p H1) : WW X e σ H Q:=by
  refine s.run Γ σ H ρ st Q R G ?_
  cases r : m Γ st with
  | ok p st1=>rw [r] at h; exact fun H' ρ' x' R'=>k p st1 H' ρ' x' R' (G.ext x') (h H' ρ' x' R')
  | exc e st=>rw [r] at h; exact h
  | stuck=>rw [r] at h; exact h
theorem SimA.use {es : List Expr} {m : Gam -> Store -> Res (List PV)} (s : SimA X E es m) {P : List PV -> Store -> Hp -> Tk -> Prop} {Q : List V -> Hp -> Prop} (R : Rel H ρ st) (G : EnvR H ρ Γ σ) (h : Acc X.mg E H ρ P (m Γ st))
    (k : ∀ ps st1 H1 ρ1 vs,Ext H ρ H1 ρ1 -> Rel H1 ρ1 st1 -> EnvR H1 ρ1 Γ σ -> RepL H1 ρ1 ps vs -> P ps st1 H1 ρ1 -> Q vs H1) : WA X es σ H Q:=by
  refine s.run Γ σ H ρ st Q R G ?_
  cases r : m Γ st with
  | ok p st1=>rw [r] at h; exact fun H' ρ' x' R' v rv=>k p st1 H' ρ' v x' R' (G.ext x') rv (h H' ρ' x' R')
  | exc e st=>rw [r] at h; exact h
  | stuck=>rw [r] at h; exact h
theorem OpS.use {f : Value -> Value -> Sem Value} {o : OP} (s : OpS X E f o) {P : PV -> Store -> Hp -> Tk -> Prop} {Q : VK} {p q : PV} {x y : V} (R : Rel H ρ st) (rp : Rep H ρ p x) (rq : Rep H ρ q y) (h : Acc X.mg E H ρ P (o st p q))
    (k : ∀ p st1 H1 ρ1 v,Ext H ρ H1 ρ1 -> Rel H1 ρ1 st1 -> Rep H1 ρ1 p v -> P p st1 H1 ρ1 -> Q v H1) : WO X f x y H Q:=by
  refine s.run H ρ st p q x y Q R rp rq ?_
  cases r : o st p q with
  | ok p st1=>rw [r] at h; exact fun H' ρ' x' R' v rv=>k p st1 H' ρ' v x' R' rv (h H' ρ' x' R')
  | exc e st=>rw [r] at h; exact h
  | stuck=>rw [r] at h; exact h
end
end Sm
namespace Sm
open PySem PySem.Spec L2 SeqAt
mutual
def peq : PV -> PV -> Bool
  | .non,.non=>true
  | .bl a,.bl b=>a == b
  | .bl a,.int b=>(if a then 1 else 0) == b
  | .int a,.bl b=>a == (if b then 1 else 0)
  | .int a,.int b=>a == b
  | .str a,.str b=>a == b
  | .tup xs,.tup ys=>peqL xs ys
  | .lst xs,.lst ys=>peqL xs ys
  | .lst xs,.fro ys=>peqL xs ys
  | .fro xs,.lst ys=>peqL xs ys
  | .fro xs,.fro ys=>peqL xs ys
  | _,_=>false
def peqL : List PV -> List PV -> Bool
  | [],[]=>true
  | x :: xs,y :: ys=>peq x y && peqL xs ys
  | _,_=>false
end
def good : Nat -> PV -> Bool
  | _,.ref _=>false
  | _,.dic=>false
  | 0,.tup _=>false
  | 0,.lst _=>false
  | 0,.fro _=>false
  | n + 1,.tup xs=>xs.all (good n)
  | n + 1,.lst xs=>xs.all (good n)
  | n + 1,.fro xs=>xs.all (good n)
  | _,_=>true
theorem peqL_len : ∀ {xs ys : List PV},xs.length ≠ ys.length -> peqL xs ys = false
  | [],[],h=>absurd rfl h
  | [],_ :: _,_=>by simp [peqL]
  | _ :: _,[],_=>by simp [peqL]
  | x :: xs,y :: ys,h=>by
    rw [peqL,peqL_len (xs:=xs) (ys:=ys) fun e=>h (by simp [e]),Bool.and_false]
theorem peqL_all : ∀ {xs ys : List PV},xs.length = ys.length -> peqL xs ys = (List.range xs.length).all fun j=>peq (xs.getD j .non) (ys.getD j .non)
  | [],[],_=>by simp [peqL]
  | [],_ :: _,h=>by simp at h
  | _ :: _,[],h=>by simp at h
  | x :: xs,y :: ys,h=>by
    rw [peqL,peqL_all (xs:=xs) (ys:=ys) (by simpa using h),List.length_cons,List.range_succ_eq_map,List.all_cons,List.all_map]
    rfl
section
variable {X : Cx} {pins : List (Addr × Obj)} {σ : St} {H : Hp} {s : Shared} {ρ : Tk}
mutual
theorem rep_same : ∀ {p q : PV} {x : V} {n : Nat},good n p = true -> good n q = true -> Rep H ρ p x -> Rep H ρ q x -> peq p q = true
  | .non,q,x,n,_,gq,h1,h2=>by
    cases h1
    cases q <;> first | rfl | (cases n <;> cases gq; done) | (cases h2; done) | (obtain ⟨_,_,e,_⟩:=h2; cases e) | (obtain ⟨_,_,e⟩:=h2; cases e)
  | .bl b,q,x,n,_,gq,h1,h2=>by
    cases h1
    cases q <;> first | (cases n <;> cases gq; done) | (cases h2; simp [peq]; done) | (obtain ⟨_,_,e,_⟩:=h2; done) | (obtain ⟨_,_,e,_⟩:=h2; cases e; done) | (obtain ⟨_,_,e⟩:=h2; cases e)
  | .int b,q,x,n,_,gq,h1,h2=>by
    cases h1
    cases q <;> first | (cases n <;> cases gq; done) | (cases h2; simp [peq]; done) | (obtain ⟨_,_,e,_⟩:=h2; done) | (obtain ⟨_,_,e,_⟩:=h2; cases e; done) | (obtain ⟨_,_,e⟩:=h2; cases e)
  | .str b,q,x,n,_,gq,h1,h2=>by
    cases h1
    cases q <;> first | (cases n <;> cases gq; done) | (cases h2; simp [peq]; done) | (obtain ⟨_,_,e,_⟩:=h2; done) | (obtain ⟨_,_,e,_⟩:=h2; cases e; done) | (obtain ⟨_,_,e⟩:=h2; cases e)
  | .tup ps,q,x,0,gp,_,_,_=>by cases gp
  | .tup ps,q,x,n + 1,gp,gq,⟨a,vs,e,ha,_,r⟩,h2=>by
    subst e
    cases q with
    | tup qs=>
      obtain ⟨b,us,e,hb,_,r2⟩:=h2
      cases e
      rw [ha] at hb; cases hb
      rw [peq]
      exact repL_same gp gq r r2
    | lst qs=>obtain ⟨b,us,e,hb,_⟩:=h2; cases e; rw [ha] at hb; cases hb
    | fro qs=>obtain ⟨b,us,e,hb,_⟩:=h2; cases e; rcases hb with hb | ⟨o,hb⟩ <;> (rw [ha] at hb; cases hb)
    | ref i=>cases gq
    | dic=>cases gq
    | _=>cases h2
  | .lst ps,q,x,0,gp,_,_,_=>by cases gp
  | .lst ps,q,x,n + 1,gp,gq,⟨a,vs,e,ha,_,r⟩,h2=>by
    subst e
    cases q with
    | lst qs=>
      obtain ⟨b,us,e,hb,_,r2⟩:=h2
      cases e
      rw [ha] at hb; cases hb
      rw [peq]
      exact repL_same gp gq r r2
    | tup qs=>obtain ⟨b,us,e,hb,_⟩:=h2; cases e; rw [ha] at hb; cases hb
    | fro qs=>
      obtain ⟨b,us,e,hb,_,r2⟩:=h2
      cases e
      rcases hb with hb | ⟨o,hb⟩
      · rw [ha] at hb; cases hb
        rw [peq]
        exact repL_same gp gq r r2
      · rw [ha] at hb; cases hb
    | ref i=>cases gq
    | dic=>cases gq
    | _=>cases h2
  | .fro ps,q,x,0,gp,_,_,_=>by cases gp
  | .fro ps,q,x,n + 1,gp,gq,⟨a,vs,e,ha,_,r⟩,h2=>by
    subst e
    cases q with
    | lst qs=>
      obtain ⟨b,us,e,hb,_,r2⟩:=h2
      cases e
      rcases ha with ha | ⟨o,ha⟩
      · rw [ha] at hb; cases hb
        rw [peq]
        exact repL_same gp gq r r2
      · rw [ha] at hb; cases hb
    | tup qs=>obtain ⟨b,us,e,hb,_⟩:=h2; cases e; rcases ha with ha | ⟨o,ha⟩ <;> (rw [ha] at hb; cases hb)
    | fro qs=>
      obtain ⟨b,us,e,hb,_,r2⟩:=h2
      cases e
      have : vs = us:=by
        rcases ha with ha | ⟨o,ha⟩ <;> rcases hb with hb | ⟨o',hb⟩ <;> (rw [ha] at hb; cases hb) <;> rfl
      subst this
      rw [peq]
      exact repL_same gp gq r r2
    | ref i=>cases gq
    | dic=>cases gq
    | _=>cases h2
  | .ref i,_,_,n,gp,_,_,_=>by cases n <;> cases gp
  | .dic,_,_,n,gp,_,_,_=>by cases n <;> cases gp
theorem repL_same : ∀ {ps qs : List PV} {vs : List V} {n : Nat},ps.all (good n) = true -> qs.all (good n) = true -> RepL H ρ ps vs -> RepL H ρ qs vs -> peqL ps qs = true
  | [],qs,vs,n,_,_,h1,h2=>by
    cases h1
    cases qs with
    | nil=>rfl
    | cons q qs=>obtain ⟨_,_,e,_⟩:=h2; cases e
  | p :: ps,qs,vs,n,g1,g2,⟨v,r,e,h1,h1'⟩,h2=>by
    subst e
    cases qs with
    | nil=>cases h2
    | cons q qs=>
      obtain ⟨_,_,e,h2,h2'⟩:=h2
      cases e
      rw [List.all_cons,Bool.and_eq_true] at g1 g2
      rw [peqL,rep_same g1.1 g2.1 h1 h2,repL_same g1.2 g2.2 h1' h2']; rfl
end
inductive Kd (H : Hp) (ρ : Tk) (s : Shared) : PV -> Value -> Prop where
  | non : Kd H ρ s .non .none
  | bl (b) : Kd H ρ s (.bl b) (.bool b)
  | int (i t) : Kd H ρ s (.int i) (.int i t)
  | str (x t) : Kd H ρ s (.str x) (.str x t)
  | tup (ps a) (vs : List V) (its : List Value) : H a = some (.tup vs) -> RepL H ρ ps vs -> Vals vs its -> s.heap.IsTuple a its.toArray -> Kd H ρ s (.tup ps) (.ref a)
  | lst (p ps a) (vs : List V) (its : List Value) : (p = .lst ps \/ p = .fro ps) -> RepL H ρ ps vs -> Vals vs its -> s.heap.IsList a its.toArray -> Kd H ρ s p (.ref a)
theorem kd_of {p : PV} {x : V} {u : Value} {n : Nat} (I : Inv X pins σ H s) (g : good n p = true) (r : Rep H ρ p x) (ru : RelV x u) : Kd H ρ s p u:=by
  cases p with
  | non=>cases r; cases ru; exact .non
  | bl b=>cases r; cases ru; exact .bl b
  | int i=>cases r; obtain ⟨t,rfl⟩:=ru; exact .int i t
  | str i=>cases r; obtain ⟨t,rfl⟩:=ru; exact .str i t
  | tup ps=>
    obtain ⟨a,vs,rfl,ha,_,rr⟩:=r
    cases ru
    obtain ⟨its,v1,p1,_⟩:=I.tuple (SqT.of (K:=X.K) ha)
    exact .tup ps a vs its ha rr v1 p1
  | lst ps=>
    obtain ⟨a,vs,rfl,ha,_,rr⟩:=r
    cases ru
    obtain ⟨its,v1,p1,_⟩:=I.list (SqL.of (K:=X.K) ha)
    exact .lst _ ps a vs its (.inl rfl) rr v1 p1.isList
  | fro ps=>
    obtain ⟨a,vs,rfl,ha,_,rr⟩:=r
    cases ru
    obtain ⟨its,v1,p1,_⟩:=I.list (show SqL X.K H a vs from .inl ha)
    exact .lst _ ps a vs its (.inr rfl) rr v1 p1.isList
  | ref i=>cases n <;> cases g
  | dic=>cases n <;> cases g
theorem getD_of {ps : List PV} {vs : List V} {its : List Value} (r : RepL H ρ ps vs) (v : Vals vs its) {j : Nat} (h : j < its.length) : ∃ x,Rep H ρ (ps.getD j .non) x /\ RelV x its[j]:=by
  have l1:=r.length
  have l2:=v.length
  have hj : j < ps.length:=by omega
  obtain ⟨x,e1,e2⟩:=r.get (List.getElem?_eq_getElem hj)
  obtain ⟨u,e3,e4⟩:=v.get e1
  rw [List.getElem?_eq_getElem h] at e3; cases e3
  refine ⟨x,?_,e4⟩
  rw [List.getD,List.getElem?_eq_getElem hj]
  exact e2
theorem good_getD {ps : List PV} {n : Nat} (g : ps.all (good n) = true) (j : Nat) (hj : j < ps.length) : good n (ps.getD j .non) = true:=by
  rw [List.getD,List.getElem?_eq_getElem hj]
  exact (List.all_eq_true.mp g) _ (List.getElem_mem hj)
theorem peqL_range {ps qs : List PV} : ((List.range (min ps.length qs.length)).all (fun j=>peq (ps.getD j .non) (qs.getD j .non)) && ps.length == qs.length) = peqL ps qs:=by
  by_cases e : ps.length = qs.length
  · rw [peqL_all e,<- e,Nat.min_self,beq_self_eq_true,Bool.and_true]
  · rw [peqL_len e,beq_eq_false_iff_ne.mpr e,Bool.and_false]
theorem eqAts : ∀ (n : Nat) {A : Around} {p q : PV} {x y : V} {u v : Value},Inv X pins σ H s -> good n p = true -> good n q = true -> A.units + n < cLine -> Rep H ρ p x -> RelV x u -> Rep H ρ q y -> RelV y v ->
    EqAt A s u v (peq p q) /\ RcAt A s u v (peq p q) /\ RcNeAt A s u v (!peq p q):=by
  intro n
  induction n with
  | zero=>
    intro A p q x y u v I gp gq hu rp ru rq rv
    have k1:=kd_of I gp rp ru
    have k2:=kd_of I gq rq rv
    have hu : A.units < cLine:=by omega
    cases k1 with
    | tup=>cases gp
    | lst p ps a vs its h=>rcases h with rfl | rfl <;> cases gp
    | non=>cases k2 with
      | tup=>cases gq
      | lst p ps a vs its h=>rcases h with rfl | rfl <;> cases gq
      | non=>exact ⟨EqAt.same _,RcAt.none_none,RcNeAt.none_none⟩
      | bl b=>exact ⟨EqAt.none_bool _,RcAt.none_bool _,RcNeAt.none_bool _⟩
      | int i t=>exact ⟨EqAt.none_int _ _,RcAt.none_int _ _,RcNeAt.none_int _ _⟩
      | str i t=>exact ⟨EqAt.none_str _ _,RcAt.none_str _ _,RcNeAt.none_str _ _⟩
    | bl a=>cases k2 with
      | tup=>cases gq
      | lst p ps a vs its h=>rcases h with rfl | rfl <;> cases gq
      | non=>exact ⟨EqAt.bool_none _,RcAt.bool_none _,RcNeAt.bool_none _⟩
      | bl b=>exact ⟨EqAt.bool_bool _ _,RcAt.bool_bool _ _,RcNeAt.bool_bool _ _⟩
      | int i t=>exact ⟨EqAt.bool_int _ _ _,RcAt.bool_int _ _ _,RcNeAt.bool_int _ _ _⟩
      | str i t=>exact ⟨EqAt.bool_str _ _ _,RcAt.bool_str _ _ _,RcNeAt.bool_str _ _ _⟩
    | int a at'=>cases k2 with
      | tup=>cases gq
      | lst p ps a vs its h=>rcases h with rfl | rfl <;> cases gq
      | non=>exact ⟨EqAt.int_none _ _,RcAt.int_none _ _,RcNeAt.int_none _ _⟩
      | bl b=>exact ⟨EqAt.int_bool _ _ _,RcAt.int_bool _ _ _,RcNeAt.int_bool _ _ _⟩
      | int i t=>exact ⟨EqAt.int_int _ _ _ _,RcAt.int_int _ _ _ _,RcNeAt.int_int _ _ _ _⟩
      | str i t=>exact ⟨EqAt.int_str _ _ _ _,RcAt.int_str _ _ _ _,RcNeAt.int_str _ _ _ _⟩
    | str a at'=>cases k2 with
      | tup=>cases gq
      | lst p ps a vs its h=>rcases h with rfl | rfl <;> cases gq
      | non=>exact ⟨EqAt.str_none _ _,RcAt.str_none _ _,RcNeAt.str_none _ _⟩
      | bl b=>exact ⟨EqAt.str_bool _ _ _,RcAt.str_bool _ _ _,RcNeAt.str_bool _ _ _⟩
      | int i t=>exact ⟨EqAt.str_int _ _ _ _,RcAt.str_int _ _ _ _,RcNeAt.str_int _ _ _ _⟩
      | str i t=>exact ⟨EqAt.str_str _ _ _ _,RcAt.str_str _ _ _ _,RcNeAt.str_str _ _ _ _⟩
  | succ n ih=>
    intro A p q x y u v I gp gq hu rp ru rq rv
    have k1:=kd_of I gp rp ru
    have k2:=kd_of I gq rq rv
    have hu0 : A.units < cLine:=by omega
    have hin : A.in1.units + n < cLine:=by show A.units + 1 + n < cLine; omega
    cases k1 with
    | non=>cases k2 with
      | non=>exact ⟨EqAt.same _,RcAt.none_none,RcNeAt.none_none⟩
      | bl b=>exact ⟨EqAt.none_bool _,RcAt.none_bool _,RcNeAt.none_bool _⟩
      | int i t=>exact ⟨EqAt.none_int _ _,RcAt.none_int _ _,RcNeAt.none_int _ _⟩
      | str i t=>exact ⟨EqAt.none_str _ _,RcAt.none_str _ _,RcNeAt.none_str _ _⟩
      | tup ps a vs its ha r v1 p1=>exact ⟨EqAt.none_tuple p1 hu0,RcAt.none_tuple p1 hu0,RcNeAt.none_tuple p1 hu0⟩
      | lst p ps a vs its h r v1 p1=>rcases h with rfl | rfl <;> exact ⟨EqAt.none_list p1 hu0,RcAt.none_list p1 hu0,RcNeAt.none_list p1 hu0⟩
    | bl a=>cases k2 with
      | non=>exact ⟨EqAt.bool_none _,RcAt.bool_none _,RcNeAt.bool_none _⟩
      | bl b=>exact ⟨EqAt.bool_bool _ _,RcAt.bool_bool _ _,RcNeAt.bool_bool _ _⟩
      | int i t=>exact ⟨EqAt.bool_int _ _ _,RcAt.bool_int _ _ _,RcNeAt.bool_int _ _ _⟩
      | str i t=>exact ⟨EqAt.bool_str _ _ _,RcAt.bool_str _ _ _,RcNeAt.bool_str _ _ _⟩
      | tup ps a vs its ha r v1 p1=>exact ⟨EqAt.bool_tuple _ p1 hu0,RcAt.bool_tuple _ p1 hu0,RcNeAt.bool_tuple _ p1 hu0⟩
      | lst p ps a vs its h r v1 p1=>rcases h with rfl | rfl <;> exact ⟨EqAt.bool_list _ p1 hu0,RcAt.bool_list _ p1 hu0,RcNeAt.bool_list _ p1 hu0⟩
    | int a at'=>cases k2 with
      | non=>exact ⟨EqAt.int_none _ _,RcAt.int_none _ _,RcNeAt.int_none _ _⟩
      | bl b=>exact ⟨EqAt.int_bool _ _ _,RcAt.int_bool _ _ _,RcNeAt.int_bool _ _ _⟩
      | int i t=>exact ⟨EqAt.int_int _ _ _ _,RcAt.int_int _ _ _ _,RcNeAt.int_int _ _ _ _⟩
      | str i t=>exact ⟨EqAt.int_str _ _ _ _,RcAt.int_str _ _ _ _,RcNeAt.int_str _ _ _ _⟩
      | tup ps a vs its ha r v1 p1=>exact ⟨EqAt.int_tuple _ _ p1 hu0,RcAt.int_tuple _ _ p1 hu0,RcNeAt.int_tuple _ _ p1 hu0⟩
      | lst p ps a vs its h r v1 p1=>rcases h with rfl | rfl <;> exact ⟨EqAt.int_list _ _ p1 hu0,RcAt.int_list _ _ p1 hu0,RcNeAt.int_list _ _ p1 hu0⟩
    | str a at'=>cases k2 with
      | non=>exact ⟨EqAt.str_none _ _,RcAt.str_none _ _,RcNeAt.str_none _ _⟩
      | bl b=>exact ⟨EqAt.str_bool _ _ _,RcAt.str_bool _ _ _,RcNeAt.str_bool _ _ _⟩
      | int i t=>exact ⟨EqAt.str_int _ _ _ _,RcAt.str_int _ _ _ _,RcNeAt.str_int _ _ _ _⟩
      | str i t=>exact ⟨EqAt.str_str _ _ _ _,RcAt.str_str _ _ _ _,RcNeAt.str_str _ _ _ _⟩
      | tup ps a vs its ha r v1 p1=>exact ⟨EqAt.str_tuple _ _ p1 hu0,RcAt.str_tuple _ _ p1 hu0,RcNeAt.str_tuple _ _ p1 hu0⟩
      | lst p ps a vs its h r v1 p1=>rcases h with rfl | rfl <;> exact ⟨EqAt.str_list _ _ p1 hu0,RcAt.str_list _ _ p1 hu0,RcNeAt.str_list _ _ p1 hu0⟩
    | tup ps a vs its ha r v1 p1=>cases k2 with
      | non=>exact ⟨EqAt.tuple_none p1 hu0,RcAt.tuple_none p1 hu0,RcNeAt.tuple_none p1 hu0⟩
      | bl b=>exact ⟨EqAt.tuple_bool _ p1 hu0,RcAt.tuple_bool _ p1 hu0,RcNeAt.tuple_bool _ p1 hu0⟩
      | int i t=>exact ⟨EqAt.tuple_int _ _ p1 hu0,RcAt.tuple_int _ _ p1 hu0,RcNeAt.tuple_int _ _ p1 hu0⟩
      | str i t=>exact ⟨EqAt.tuple_str _ _ p1 hu0,RcAt.tuple_str _ _ p1 hu0,RcNeAt.tuple_str _ _ p1 hu0⟩
      | tup qs b us its2 hb r2 v2 p2=>
        have l1 : its.toArray.size = ps.length:=by rw [List.size_toArray,<- v1.length,r.length]
        have l2 : its2.toArray.size = qs.length:=by rw [List.size_toArray,<- v2.length,r2.length]
        have he : ∀ j (h1 : j < its.toArray.size) (h2 : j < its2.toArray.size),EqAt A.in1 s its.toArray[j] its2.toArray[j] (peq (ps.getD j .non) (qs.getD j .non)):=fun j h1 h2=>by
          obtain ⟨x1,a1,b1⟩:=getD_of r v1 (j:=j) (by simpa using h1)
          obtain ⟨x2,a2,b2⟩:=getD_of r2 v2 (j:=j) (by simpa using h2)
          exact (ih I (good_getD gp j (by omega)) (good_getD gq j (by omega)) hin a1 b1 a2 b2).1
        have rc:=RcAt.tuples p1 p2 hu0 he
        have rn:=RcNeAt.tuples p1 p2 hu0 he
        rw [l1,l2,peqL_range] at rc rn
        refine ⟨?_,rc,rn⟩
        by_cases e : a = b
        · subst e
          have : peqL ps qs = true:=by
            rw [ha] at hb; cases hb
            exact repL_same gp gq r r2
          show EqAt A s _ _ (peqL ps qs)
          rw [this]
          exact EqAt.same _
        · exact EqAt.of_refs e rc
      | lst q qs b us its2 h r2 v2 p2=>rcases h with rfl | rfl <;> exact ⟨EqAt.tuple_list p1 p2 hu0,RcAt.tuple_list p1 p2 hu0,RcNeAt.tuple_list p1 p2 hu0⟩
    | lst p ps a vs its h r v1 p1=>cases k2 with
      | non=>rcases h with rfl | rfl <;> exact ⟨EqAt.list_none p1 hu0,RcAt.list_none p1 hu0,RcNeAt.list_none p1 hu0⟩
      | bl b=>rcases h with rfl | rfl <;> exact ⟨EqAt.list_bool _ p1 hu0,RcAt.list_bool _ p1 hu0,RcNeAt.list_bool _ p1 hu0⟩
      | int i t=>rcases h with rfl | rfl <;> exact ⟨EqAt.list_int _ _ p1 hu0,RcAt.list_int _ _ p1 hu0,RcNeAt.list_int _ _ p1 hu0⟩
      | str i t=>rcases h with rfl | rfl <;> exact ⟨EqAt.list_str _ _ p1 hu0,RcAt.list_str _ _ p1 hu0,RcNeAt.list_str _ _ p1 hu0⟩
      | tup qs b us its2 hb r2 v2 p2=>rcases h with rfl | rfl <;> exact ⟨EqAt.list_tuple p1 p2 hu0,RcAt.list_tuple p1 p2 hu0,RcNeAt.list_tuple p1 p2 hu0⟩
      | lst q qs b us its2 h2 r2 v2 p2=>
        have l1 : its.toArray.size = ps.length:=by rw [List.size_toArray,<- v1.length,r.length]
        have l2 : its2.toArray.size = qs.length:=by rw [List.size_toArray,<- v2.length,r2.length]
        have gp' : ps.all (good n) = true:=by rcases h with rfl | rfl <;> exact gp
        have gq' : qs.all (good n) = true:=by rcases h2 with rfl | rfl <;> exact gq
        have ep : peq p q = peqL ps qs:=by rcases h with rfl | rfl <;> rcases h2 with rfl | rfl <;> rfl
        have he : ∀ j (h1 : j < its.toArray.size) (h2 : j < its2.toArray.size),EqAt A.in1 s its.toArray[j] its2.toArray[j] (peq (ps.getD j .non) (qs.getD j .non)):=fun j h1 h2=>by
          obtain ⟨x1,a1,b1⟩:=getD_of r v1 (j:=j) (by simpa using h1)
          obtain ⟨x2,a2,b2⟩:=getD_of r2 v2 (j:=j) (by simpa using h2)
          exact (ih I (good_getD gp' j (by omega)) (good_getD gq' j (by omega)) hin a1 b1 a2 b2).1
        rw [ep]
        have rcn : RcAt A s (.ref a) (.ref b) (peqL ps qs) /\ RcNeAt A s (.ref a) (.ref b) (!peqL ps qs):=by
          by_cases e : ps.length = qs.length
          · have rc:=RcAt.lists p1 p2 (by rw [l1,l2,e]) hu0 he
            have rn:=RcNeAt.lists p1 p2 (by rw [l1,l2,e]) hu0 he
            rw [l1,<- peqL_all e] at rc rn
            exact ⟨rc,rn⟩
          · have e' : (its.toArray.size != its2.toArray.size) = true:=by rw [l1,l2]; simpa using e
            rw [peqL_len e]
            exact ⟨RcAt.lists_lengths p1 p2 e' hu0,RcNeAt.lists_lengths p1 p2 e' hu0⟩
        refine ⟨?_,rcn.1,rcn.2⟩
        by_cases e : a = b
        · subst e
          have eq1 : peq p q = true:=by
            have rp':=rp
            have rq':=rq
            have xa : x = .ref a:=by
              rcases h with rfl | rfl <;> (obtain ⟨b',_,rfl,_⟩:=rp; cases ru; rfl)
            have ya : y = .ref a:=by
              rcases h2 with rfl | rfl <;> (obtain ⟨b',_,rfl,_⟩:=rq; cases rv; rfl)
            subst xa; subst ya
            exact rep_same gp gq rp rq
          rw [<- ep,eq1]
          exact EqAt.same _
        · exact EqAt.of_refs e rcn.1
end
end Sm
namespace Sm
open PySem PySem.Spec L2
def lim : Nat:=1000000
theorem lim_le : lim <= sizeLine:=by decide
theorem le_lim {n : Nat} (h : n <= lim) : n <= sizeLine:=Nat.le_trans h lim_le
def lstOf (st : Store) : PV -> Option (List PV)
  | .lst xs=>some xs
  | .ref i=>match st[i]? with
    | some (.lst xs)=>some xs
    | _=>none
  | _=>none
def listOf (st : Store) : PV -> Option (List PV)
  | .fro xs=>some xs
  | p=>lstOf st p
def seqOf (st : Store) : PV -> Option (List PV)
  | .tup xs=>some xs
  | p=>listOf st p
def der (st : Store) : PV -> PV
  | .ref i=>match st[i]? with
    | some (.lst xs)=>.lst xs
    | _=>.ref i
  | p=>p
section
variable {H : Hp} {ρ : Tk} {st : Store} {p : PV} {v : V} {xs : List PV}
theorem lst_at (R : Rel H ρ st) (r : Rep H ρ p v) (e : lstOf st p = some xs) : ∃ a vs,v = .ref a /\ H a = some (.lst vs) /\ RepL H ρ xs vs:=by
  cases p with
  | lst ys=>
    obtain ⟨a,vs,e1,e2,_,e3⟩:=r
    cases e
    exact ⟨a,vs,e1,e2,e3⟩
  | ref i=>
    obtain ⟨a,e1,e2⟩:=r
    simp only [lstOf] at e
    split at e
    · rename_i ys hs
      cases e
      obtain ⟨b,vs,f1,f2,f3⟩:=R.lst hs
      rw [e1] at f1; cases f1
      exact ⟨a,vs,e2,f2,f3⟩
    · cases e
  | _=>cases e
theorem list_at (R : Rel H ρ st) (r : Rep H ρ p v) (e : listOf st p = some xs) : ∃ a vs,v = .ref a /\ Rd H a (.lst vs) /\ RepL H ρ xs vs:=by
  cases p with
  | fro ys=>
    obtain ⟨a,vs,e1,e2,_,e3⟩:=r
    cases e
    exact ⟨a,vs,e1,e2,e3⟩
  | _=>
    obtain ⟨a,vs,e1,e2,e3⟩:=lst_at R r e
    exact ⟨a,vs,e1,.inl e2,e3⟩
theorem seq_at {K : PySem.W.Frag} (R : Rel H ρ st) (r : Rep H ρ p v) (e : seqOf st p = some xs) : ∃ (t : Bool) (a : Addr) (vs : List V),v = .ref a /\ SqK K t H a vs /\ RepL H ρ xs vs:=by
  cases p with
  | tup ys=>
    obtain ⟨a,vs,e1,e2,_,e3⟩:=r
    cases e
    exact ⟨true,a,vs,e1,show SqT K H a vs from SqT.of e2,e3⟩
  | _=>
    obtain ⟨a,vs,e1,e2,e3⟩:=list_at R r e
    exact ⟨false,a,vs,e1,show SqL K H a vs from .inl e2,e3⟩
theorem sqK_or {K : PySem.W.Frag} {t : Bool} {a : Addr} {vs : List V} (h : SqK K t H a vs) : SqL K H a vs \/ SqT K H a vs:=by
  cases t with
  | true=>exact .inr h
  | false=>exact .inl h
mutual
theorem rep_nil : ∀ {n : Nat} {q : PV} {u : V},good n q = true -> Rep H ρ q u -> Rep H Tk.nil q u
  | _,.non,_,_,r=>r
  | _,.bl _,_,_,r=>r
  | _,.int _,_,_,r=>r
  | _,.str _,_,_,r=>r
  | 0,.tup _,_,g,_=>by cases g
  | 0,.lst _,_,g,_=>by cases g
  | 0,.fro _,_,g,_=>by cases g
  | n + 1,.tup _,_,g,⟨a,vs,e,h,_,r⟩=>⟨a,vs,e,h,Tk.not_nil _,repL_nil g r⟩
  | n + 1,.lst _,_,g,⟨a,vs,e,h,_,r⟩=>⟨a,vs,e,h,Tk.not_nil _,repL_nil g r⟩
  | n + 1,.fro _,_,g,⟨a,vs,e,h,_,r⟩=>⟨a,vs,e,h,Tk.not_nil _,repL_nil g r⟩
  | 0,.ref _,_,g,_=>by cases g
  | _ + 1,.ref _,_,g,_=>by cases g
  | 0,.dic,_,g,_=>by cases g
  | _ + 1,.dic,_,g,_=>by cases g
theorem repL_nil : ∀ {n : Nat} {qs : List PV} {us : List V},qs.all (good n) = true -> RepL H ρ qs us -> RepL H Tk.nil qs us
  | _,[],_,_,r=>r
  | n,q :: qs,_,g,⟨v,r,e,h1,h2⟩=>by
    rw [List.all_cons,Bool.and_eq_true] at g
    exact ⟨v,r,e,rep_nil g.1 h1,repL_nil g.2 h2⟩
end
theorem der_rep (R : Rel H ρ st) {n : Nat} (g : good n (der st p) = true) (r : Rep H ρ p v) : Rep H Tk.nil (der st p) v:=by
  cases p with
  | ref i=>
    obtain ⟨a,e1,e2⟩:=r
    simp only [der] at g ⊢
    split at g
    · rename_i ys hs
      obtain ⟨b,vs,f1,f2,f3⟩:=R.lst hs
      rw [e1] at f1; cases f1
      cases n with
      | zero=>cases g
      | succ n=>exact ⟨a,vs,e2,f2,Tk.not_nil _,repL_nil g f3⟩
    · cases n <;> cases g
  | _=>exact rep_nil g r
theorem new_tup {mg : Str -> Option Value} {E : XK} {Q : VK} {ps : List PV} {vs : List V} (R : Rel H ρ st) (h : Acc mg E H ρ (QV Q) (.ok (.tup ps) st)) (r : RepL H ρ ps vs) : ∀ p,H p = none -> Q (.ref p) (upd H p (.tup vs)):=
  fun p hp=>h _ ρ (Ext.add hp) (R.add hp) _ ⟨p,vs,rfl,upd_same,R.fresh hp,r.ext (Ext.add hp)⟩
theorem new_lst {mg : Str -> Option Value} {E : XK} {Q : VK} {ps : List PV} {vs : List V} (R : Rel H ρ st) (h : Acc mg E H ρ (QV Q) (.ok (.lst ps) st)) (r : RepL H ρ ps vs) : ∀ p,H p = none -> Q (.ref p) (upd H p (.lst vs)):=
  fun p hp=>h _ ρ (Ext.add hp) (R.add hp) _ ⟨p,vs,rfl,upd_same,R.fresh hp,r.ext (Ext.add hp)⟩
theorem now {mg : Str -> Option Value} {E : XK} {Q : VK} {p : PV} (R : Rel H ρ st) (h : Acc mg E H ρ (QV Q) (.ok p st)) (r : Rep H ρ p v) : Q v H:=h H ρ (Ext.refl _ _) R v r
end
section
variable {X : Cx} {E : XK} {pos : Pos}
def mVar (i : Nat) : ME:=fun Γ st=>match Γ[i]? with
  | some (some p)=>.ok p st
  | _=>.stuck
def mC (p : PV) : ME:=fun _ st=>.ok p st
theorem se_var (i : Nat) {x : Str} (hN : X.N[i]? = some x:=by rfl) (hv : Vis X.env.scope x:=by first | exact Or.inl rfl | exact Or.inr (Or.inl rfl) | exact Or.inr (Or.inr rfl)) (hd : (x == ("__debug__" : Str)) = false:=by decide)
    (hcd : (x == ("__classdict__" : Str)) = false:=by decide) : SimE X E (.Name x pos) (mVar i):=⟨fun Γ σ H ρ st Q R G h=>WE.of (pe_var hN hv hd hcd) (by
  unfold mVar at h
  split at h
  · rename_i p e
    obtain ⟨v,e1,r⟩:=G.2 i p e
    exact ⟨v,e1,now R h r⟩
  · exact h.elim)⟩
theorem se_int {i : Int} {j : Nat} : SimE X E (.Constant (.int i) j pos) (mC (.int i)):=⟨fun Γ σ H ρ st Q R G h=>WE.of pe_int (now R h rfl)⟩
theorem se_bl {b : Bool} {j : Nat} : SimE X E (.Constant (.bool b) j pos) (mC (.bl b)):=⟨fun Γ σ H ρ st Q R G h=>WE.of pe_bl (now R h rfl)⟩
theorem se_non {j : Nat} : SimE X E (.Constant .none j pos) (mC .non):=⟨fun Γ σ H ρ st Q R G h=>WE.of pe_non (now R h rfl)⟩
theorem se_str {x : Str} {j : Nat} : SimE X E (.Constant (.str x) j pos) (mC (.str x)):=⟨fun Γ σ H ρ st Q R G h=>WE.of pe_str (now R h rfl)⟩
theorem se_gint {x : Str} {i : Int} {t : Tok} (hg : Gl X x) (hm : X.mg x = some (.int i t)) (hd : (x == ("__debug__" : Str)) = false:=by decide) : SimE X E (.Name x pos) (mC (.int i)):=
  ⟨fun Γ σ H ρ st Q R G h=>WE.of (pe_glob hg hm (v:=.int i) ⟨t,rfl⟩ hd) (now R h rfl)⟩
variable {a b c : Expr} {ma mb mc : ME}
def mOp (o : OP) (ma mb : ME) : ME:=fun Γ st=>(ma Γ st).bind fun x st1=>(mb Γ st1).bind fun y st2=>o st2 x y
theorem bin_run {f : Value -> Value -> Sem Value} {o : OP} {Γ : Gam} {σ : St} {H : Hp} {ρ : Tk} {st : Store} {P : PV -> Store -> Hp -> Tk -> Prop} {Q : VK} (ho : OpS X E f o) (ha : SimE X E a ma) (hb : SimE X E b mb) (R : Rel H ρ st) (G : EnvR H ρ Γ σ) (h : Acc X.mg E H ρ P (mOp o ma mb Γ st))
    (k : ∀ p st1 H1 ρ1 v,Ext H ρ H1 ρ1 -> Rel H1 ρ1 st1 -> Rep H1 ρ1 p v -> P p st1 H1 ρ1 -> Q v H1) : tOp (WO X f) (WE X a) (WE X b) σ H Q:=by
  refine ha.use R G h.bind fun p st1 H1 ρ1 v x1 R1 G1 r1 h1=>?_
  refine hb.use R1 G1 h1.bind fun q st2 H2 ρ2 u x2 R2 G2 r2 h2=>?_
  exact ho.use R2 (r1.ext x2) r2 h2 fun w st3 H3 ρ3 z x3 R3 r3 p3=>k w st3 H3 ρ3 z (x1.trans (x2.trans x3)) R3 r3 p3
theorem se_op {op : Operator} {o : OP} (ho : OpS X E (binaryOp op) o) (ha : SimE X E a ma) (hb : SimE X E b mb) : SimE X E (.BinOp a op b pos) (mOp o ma mb):=
  ⟨fun Γ σ H ρ st Q R G h=>WE.of (pe_op op_w pe_w pe_w) (bin_run ho ha hb R G h fun _ _ _ _ v _ _ r q=>q v r)⟩
theorem se_cmp {op : CmpOp} {o : OP} (ho : OpS X E (compareOp op) o) (ha : SimE X E a ma) (hb : SimE X E b mb) (hm : behindInMarks op b = false:=by first | exact nomark _ | rfl) : SimE X E (.Compare a [op] [b] pos) (mOp o ma mb):=
  ⟨fun Γ σ H ρ st Q R G h=>WE.of (pe_cmpR op_w pe_w pe_w hm) (bin_run ho ha hb R G h fun _ _ _ _ v _ _ r q=>q v r)⟩
def asB (p : PV) (st : Store) : Res Bool:=match p with
  | .bl k=>.ok k st
  | _=>.stuck
def toB (m : ME) : Gam -> Store -> Res Bool:=fun Γ st=>(m Γ st).bind asB
theorem acc_b {mg : Str -> Option Value} {H : Hp} {ρ : Tk} {st : Store} {p : PV} {v : V} {P : Bool -> Store -> Hp -> Tk -> Prop} (R : Rel H ρ st) (r : Rep H ρ p v) (h : Acc mg E H ρ P (asB p st)) : ∃ k,v = .bl k /\ P k st H ρ:=by
  cases p with
  | bl k=>exact ⟨k,r,h H ρ (Ext.refl _ _) R⟩
  | _=>exact h.elim
theorem st_cmp {op : CmpOp} {o : OP} (ho : OpS X E (compareOp op) o) (ha : SimE X E a ma) (hb : SimE X E b mb) (hm : behindInMarks op b = false:=by first | exact nomark _ | rfl) : SimT X E (.Compare a [op] [b] pos) (toB (mOp o ma mb)):=
  ⟨fun Γ σ H ρ st Q R G h=>WT.of (pt_cmpR op_w pe_w pe_w hm) (bin_run ho ha hb R G h.bind fun _ st1 _ _ v _ R1 r q=>by
    obtain ⟨k,e,z⟩:=acc_b R1 r q
    exact ⟨k,e,z⟩)⟩
theorem st_val {e : Expr} {m : ME} (h : SimE X E e m) (he : ∀ whole,isTrue e X.env whole = (do let v <- whole; standAt e.pos; holding [v] (truthy v)):=by intro _; rfl) : SimT X E e (toB m):=
  ⟨fun Γ σ H ρ st Q R G hq=>WT.of (pt_val pe_w he) (h.use R G hq.bind fun p st1 H1 ρ1 v x1 R1 G1 r1 h1=>by
    obtain ⟨k,e,z⟩:=acc_b R1 r1 h1
    exact ⟨k,e,z⟩)⟩
def mChain (o o' : OP) (ma mb mc : ME) : ME:=fun Γ st=>(ma Γ st).bind fun x st1=>(mb Γ st1).bind fun y st2=>(o st2 x y).bind fun k st3=>match k with
  | .bl true=>(mc Γ st3).bind fun z st4=>o' st4 y z
  | .bl false=>.ok (.bl false) st3
  | _=>.stuck
theorem chain_run {op op' : CmpOp} {o o' : OP} {Γ : Gam} {σ : St} {H : Hp} {ρ : Tk} {st : Store} {P : PV -> Store -> Hp -> Tk -> Prop} {Q : VK} (ho : OpS X E (compareOp op) o) (ho' : OpS X E (compareOp op') o') (ha : SimE X E a ma) (hb : SimE X E b mb) (hc : SimE X E c mc) (R : Rel H ρ st) (G : EnvR H ρ Γ σ) (h : Acc X.mg E H ρ P (mChain o o' ma mb mc Γ st))
    (k : ∀ p st1 H1 ρ1 v,Ext H ρ H1 ρ1 -> Rel H1 ρ1 st1 -> Rep H1 ρ1 p v -> P p st1 H1 ρ1 -> Q v H1) : tChain (WO X (compareOp op)) (WO X (compareOp op')) (WE X a) (WE X b) (WE X c) σ H Q:=by
  refine ha.use R G h.bind fun p st1 H1 ρ1 v x1 R1 G1 r1 h1=>?_
  refine hb.use R1 G1 h1.bind fun q st2 H2 ρ2 u x2 R2 G2 r2 h2=>?_
  refine ho.use R2 (r1.ext x2) r2 h2.bind fun w st3 H3 ρ3 z x3 R3 r3 h3=>?_
  cases w with
  | bl b=>
    refine ⟨b,r3,?_⟩
    cases b with
    | true=>
      rw [if_pos rfl]
      refine hc.use R3 (G2.ext x3) h3.bind fun y st4 H4 ρ4 yv x4 R4 G4 r4 h4=>?_
      exact ho'.use R4 (r2.ext (x3.trans x4)) r4 h4 fun w st5 H5 ρ5 z x5 R5 r5 p5=>k w st5 H5 ρ5 z (x1.trans (x2.trans (x3.trans (x4.trans x5)))) R5 r5 p5
    | false=>
      rw [if_neg Bool.false_ne_true]
      exact k (.bl false) _ H3 ρ3 _ (x1.trans (x2.trans x3)) R3 rfl (h3 H3 ρ3 (Ext.refl _ _) R3)
  | _=>exact h3.elim
theorem se_chain {op op' : CmpOp} {o o' : OP} (ho : OpS X E (compareOp op) o) (ho' : OpS X E (compareOp op') o') (ha : SimE X E a ma) (hb : SimE X E b mb) (hc : SimE X E c mc) (hm : lastMarks [op,op'] [b,c] = false:=by with_unfolding_all rfl) : SimE X E (.Compare a [op,op'] [b,c] pos) (mChain o o' ma mb mc):=
  ⟨fun Γ σ H ρ st Q R G h=>WE.of (pe_chain op_w op_w pe_w pe_w pe_w hm) (chain_run ho ho' ha hb hc R G h fun _ _ _ _ v _ _ r q=>q v r)⟩
theorem st_chain {op op' : CmpOp} {o o' : OP} (ho : OpS X E (compareOp op) o) (ho' : OpS X E (compareOp op') o') (ha : SimE X E a ma) (hb : SimE X E b mb) (hc : SimE X E c mc) (hm : lastMarks [op,op'] [b,c] = false:=by with_unfolding_all rfl) : SimT X E (.Compare a [op,op'] [b,c] pos) (toB (mChain o o' ma mb mc)):=
  ⟨fun Γ σ H ρ st Q R G h=>WT.of (pt_chain op_w op_w pe_w pe_w pe_w hm) (chain_run ho ho' ha hb hc R G h.bind fun _ st1 _ _ v _ R1 r q=>by
    obtain ⟨k,e,z⟩:=acc_b R1 r q
    exact ⟨k,e,z⟩)⟩
variable {rest : List Expr}
def mAnd (ma mb : ME) : ME:=fun Γ st=>(ma Γ st).bind fun x st1=>match x with
  | .bl true=>mb Γ st1
  | .bl false=>.ok (.bl false) st1
  | _=>.stuck
def mOr (ma mb : ME) : ME:=fun Γ st=>(ma Γ st).bind fun x st1=>match x with
  | .bl true=>.ok (.bl true) st1
  | .bl false=>mb Γ st1
  | _=>.stuck
def mNot (ma : ME) : ME:=fun Γ st=>(ma Γ st).bind fun x st1=>match x with
  | .bl k=>.ok (.bl (!k)) st1
  | _=>.stuck
theorem se_one {op : BoolOp} (ha : SimE X E a ma) : SimE X E (.BoolOp op [a] pos) ma:=⟨fun Γ σ H ρ st Q R G h=>WE.of (pe_one pe_w) (ha.use R G h fun _ _ _ _ v _ _ _ r q=>q v r)⟩
theorem se_and (ha : SimE X E a ma) (hb : SimE X E (.BoolOp .And (b :: rest) pos) mb) : SimE X E (.BoolOp .And (a :: b :: rest) pos) (mAnd ma mb):=
  ⟨fun Γ σ H ρ st Q R G h=>WE.of (pe_and pe_w pe_w) (ha.use R G h.bind fun p st1 H1 ρ1 v x1 R1 G1 r1 h1=>by
    cases p with
    | bl k=>
      refine ⟨k,r1,?_⟩
      cases k with
      | true=>rw [if_pos rfl]; exact hb.use R1 G1 h1 fun _ _ _ _ v _ _ _ r q=>q v r
      | false=>rw [if_neg Bool.false_ne_true]; exact now R1 h1 rfl
    | _=>exact h1.elim)⟩
theorem se_or (ha : SimE X E a ma) (hb : SimE X E (.BoolOp .Or (b :: rest) pos) mb) : SimE X E (.BoolOp .Or (a :: b :: rest) pos) (mOr ma mb):=
  ⟨fun Γ σ H ρ st Q R G h=>WE.of (pe_or pe_w pe_w) (ha.use R G h.bind fun p st1 H1 ρ1 v x1 R1 G1 r1 h1=>by
    cases p with
    | bl k=>
      refine ⟨k,r1,?_⟩
      cases k with
      | true=>rw [if_pos rfl]; exact now R1 h1 rfl
      | false=>rw [if_neg Bool.false_ne_true]; exact hb.use R1 G1 h1 fun _ _ _ _ v _ _ _ r q=>q v r
    | _=>exact h1.elim)⟩
theorem se_not (ha : SimE X E a ma) : SimE X E (.UnaryOp .Not a pos) (mNot ma):=
  ⟨fun Γ σ H ρ st Q R G h=>WE.of (pe_not pe_w) (ha.use R G h.bind fun p st1 H1 ρ1 v x1 R1 G1 r1 h1=>by
    cases p with
    | bl k=>exact ⟨k,r1,now R1 h1 rfl⟩
    | _=>exact h1.elim)⟩
def mNeg (ma : ME) : ME:=fun Γ st=>(ma Γ st).bind fun x st1=>match x with
  | .int k=>.ok (.int (-k)) st1
  | _=>.stuck
theorem se_neg (ha : SimE X E a ma) : SimE X E (.UnaryOp .USub a pos) (mNeg ma):=
  ⟨fun Γ σ H ρ st Q R G h=>WE.of (pe_un un_neg pe_w) (ha.use R G h.bind fun p st1 H1 ρ1 v x1 R1 G1 r1 h1=>by
    cases p with
    | int k=>exact ⟨k,r1,now R1 h1 rfl⟩
    | _=>exact h1.elim)⟩
abbrev MT:=Gam -> Store -> Res Bool
variable {ta tb : MT}
def tAndM (ta tb : MT) : MT:=fun Γ st=>(ta Γ st).bind fun k st1=>if k = true then tb Γ st1 else .ok false st1
def tOrM (ta tb : MT) : MT:=fun Γ st=>(ta Γ st).bind fun k st1=>if k = true then .ok true st1 else tb Γ st1
def tNotM (ta : MT) : MT:=fun Γ st=>(ta Γ st).bind fun k st1=>.ok (!k) st1
theorem SimW.t {e : Expr} (h : SimW X E e ta) : SimT X E e ta:=⟨fun Γ σ H ρ st Q R G q pins s I=>h.run Γ σ H ρ st Q R G q _ pins s I⟩
theorem sw_and1 (ha : SimT X E a ta) : SimW X E (.BoolOp .And [a] pos) ta:=⟨fun Γ σ H ρ st Q R G h=>WW.of (pw_and1 pt_w) (ha.use R G h fun _ _ _ _ _ _ _ q=>q)⟩
theorem sw_or1 (ha : SimT X E a ta) : SimW X E (.BoolOp .Or [a] pos) ta:=⟨fun Γ σ H ρ st Q R G h=>WW.of (pw_or1 pt_w) (ha.use R G h fun _ _ _ _ _ _ _ q=>q)⟩
theorem sw_and (ha : SimT X E a ta) (hb : SimW X E (.BoolOp .And (b :: rest) pos) tb) : SimW X E (.BoolOp .And (a :: b :: rest) pos) (tAndM ta tb):=
  ⟨fun Γ σ H ρ st Q R G h=>WW.of (pw_and pt_w pw_w) (ha.use R G h.bind fun k st1 H1 ρ1 x1 R1 G1 h1=>by
    cases k with
    | true=>rw [if_pos rfl] at h1 ⊢; exact hb.use R1 G1 h1 fun _ _ _ _ _ _ _ q=>q
    | false=>rw [if_neg Bool.false_ne_true] at h1 ⊢; exact h1 H1 ρ1 (Ext.refl _ _) R1)⟩
theorem sw_or (ha : SimT X E a ta) (hb : SimW X E (.BoolOp .Or (b :: rest) pos) tb) : SimW X E (.BoolOp .Or (a :: b :: rest) pos) (tOrM ta tb):=
  ⟨fun Γ σ H ρ st Q R G h=>WW.of (pw_or pt_w pw_w) (ha.use R G h.bind fun k st1 H1 ρ1 x1 R1 G1 h1=>by
    cases k with
    | true=>rw [if_pos rfl] at h1 ⊢; exact h1 H1 ρ1 (Ext.refl _ _) R1
    | false=>rw [if_neg Bool.false_ne_true] at h1 ⊢; exact hb.use R1 G1 h1 fun _ _ _ _ _ _ _ q=>q)⟩
theorem st_not (ha : SimT X E a ta) : SimT X E (.UnaryOp .Not a pos) (tNotM ta):=
  ⟨fun Γ σ H ρ st Q R G h=>WT.of (pt_not pt_w) (ha.use R G h.bind fun k st1 H1 ρ1 x1 R1 G1 h1=>h1 H1 ρ1 (Ext.refl _ _) R1)⟩
variable {e : Expr} {es : List Expr} {m : ME} {mr : Gam -> Store -> Res (List PV)}
def mNil : Gam -> Store -> Res (List PV):=fun _ st=>.ok [] st
def mCons (m : ME) (mr : Gam -> Store -> Res (List PV)) : Gam -> Store -> Res (List PV):=fun Γ st=>(m Γ st).bind fun p st1=>(mr Γ st1).bind fun ps st2=>.ok (p :: ps) st2
theorem sa_nil : SimA X E [] mNil:=⟨fun Γ σ H ρ st Q R G h=>WA.of pa_nil (h H ρ (Ext.refl _ _) R [] rfl)⟩
theorem sa_cons (ha : SimE X E e m) (hr : SimA X E es mr) (hs : starEach (e :: es) X.env = (false,eval e X.env) :: starEach es X.env:=by rfl) : SimA X E (e :: es) (mCons m mr):=
  ⟨fun Γ σ H ρ st Q R G h=>WA.of (pa_cons pe_w pa_w hs) (ha.use R G h.bind fun p st1 H1 ρ1 v x1 R1 G1 r1 h1=>hr.use R1 G1 h1.bind fun ps st2 H2 ρ2 vs x2 R2 G2 r2 h2=>
    h2 H2 ρ2 (Ext.refl _ _) R2 (v :: vs) ⟨v,vs,rfl,r1.ext x2,r2⟩)⟩
def mTup (mr : Gam -> Store -> Res (List PV)) : ME:=fun Γ st=>(mr Γ st).bind fun ps st1=>if ps.length <= lim then .ok (.tup ps) st1 else .stuck
def mLst (mr : Gam -> Store -> Res (List PV)) : ME:=fun Γ st=>(mr Γ st).bind fun ps st1=>if ps.length <= lim then .ok (.lst ps) st1 else .stuck
theorem se_tup {k : Nat} (h : SimA X E es mr) : SimE X E (.Tuple es k pos) (mTup mr):=
  ⟨fun Γ σ H ρ st Q R G hq=>WE.of (pe_tup pa_w) (h.use R G hq.bind fun ps st1 H1 ρ1 vs x1 R1 G1 r1 h1=>by
    by_cases hl : ps.length <= lim
    · rw [if_pos hl] at h1
      exact ⟨by rw [<- r1.length]; exact le_lim hl,new_tup R1 h1 r1⟩
    · rw [if_neg hl] at h1; exact h1.elim)⟩
theorem se_lst (h : SimA X E es mr) : SimE X E (.List es pos) (mLst mr):=
  ⟨fun Γ σ H ρ st Q R G hq=>WE.of (pe_lst pa_w) (h.use R G hq.bind fun ps st1 H1 ρ1 vs x1 R1 G1 r1 h1=>by
    by_cases hl : ps.length <= lim
    · rw [if_pos hl] at h1
      exact ⟨by rw [<- r1.length]; exact le_lim hl,new_lst R1 h1 r1⟩
    · rw [if_neg hl] at h1; exact h1.elim)⟩
end
end Sm
namespace HT
open PySem PySem.Spec PyProof.Rows
section
variable {prog : Program} {w : World} {A : Around} {E : Value -> Shared -> Prop} {s : Shared}
theorem getItem_tuple_whole {t sl : Addr} {items : Array Value} {vl vu : Value} {lo hi : Option Int} {Q : Value -> Shared -> Prop} (ht : IsTup s.heap t items) (hs : s.heap.IsSliceOf sl vl vu .none) (pl : IsPart vl lo) (pu : IsPart vu hi)
    (hw : sIx items.size 0 lo = 0 /\ sIx items.size items.size hi = items.size)
    (h : Q (.ref t) s) : wpAny (model prog w) A (getItem (.ref t) (.ref sl)) Q E s:=by
  obtain ⟨os,hos,hcs,hds⟩:=id hs
  have hTs : s.TypeIs (.ref sl) "slice" := ⟨os,hos,hcs⟩
  unfold getItem
  try with_reducible refine wpAny_holding ?_
  first | refine wpAny_bind (wpAny_pure ?_) | skip
  refine wpAny_bind (wpAny_sequenceKey ht.typeIs (by decide) ?_)
  refine wpAny_bind (wpAny_callSpecial?_slot (name:=Str.ofString "__getitem__") ht.typeIs PyProof.Rows.slot_tuple_getitem
    (wpAny_call_entry PyProof.Rows.slot_tuple_getitem ht.typeIs entry_tuple_getitem ?_ (args_tuple_getitem _ _)))
  show wpAny _ _ (Builtin.Tuple.tupleItemsOf (.ref t) >>= _) _ _ s
  refine wpAny_bind (tupleItemsOf_ ht ?_)
  refine wpAny_bind (wpAny_typeOf hTs ?_)
  rw [if_pos (by decide)]
  refine wpAny_bind (sliceApplied_gen hs pl pu ?_)
  have hyes : (((sIx items.size 0 lo : Nat) : Int) == 0 && (1 : Int) == 1 && (sIx items.size items.size hi - sIx items.size 0 lo) == items.size) = true:=by
    rw [hw.1,hw.2]; simp
  show wpAny _ _ (if (((sIx items.size 0 lo : Nat) : Int) == 0 && (1 : Int) == 1 && (sIx items.size items.size hi - sIx items.size 0 lo) == items.size) = true then _ else _) _ _ s
  rw [if_pos hyes]
  refine wpAny_bind (wpAny_bind (wpAny_typeOf ht.typeIs (wpAny_pure ?_)))
  rw [if_pos (by rfl)]
  exact wpAny_bind (wpAny_rule (wpAny_pure ⟨_,rfl,wpAny_pure h⟩))
end
end HT
namespace L2
open PySem PySem.Spec PyProof.Rows
def rSlW (K : PySem.W.Frag) : V -> Option Int -> Option Int -> Hp -> VK -> Prop:=fun x lo hi H Q=>∃ a xs,x = .ref a /\ SqT K H a xs /\
  (HT.sIx xs.length 0 lo = 0 /\ HT.sIx xs.length xs.length hi = xs.length) /\ Q (.ref a) H
theorem sl_whole {X : Cx} : SlR X (rSlW X.K):=by
  intro pins s σ H x v vl vu lo hi sl Q I rx hs pl pu h
  obtain ⟨a,xs,rfl,hx,hw,q⟩:=h
  cases rx
  obtain ⟨its,r,ht,hz⟩:=I.tuple hx
  have hlen : its.toArray.size = xs.length:=by rw [List.size_toArray]; exact r.length.symm
  refine ⟨"tuple",_,PyProof.Rows.slot_tuple_getitem.lookup,ht.typeIs,?_⟩
  exact HT.getItem_tuple_whole ht hs pl pu (by rw [hlen]; exact hw) ⟨.ref a,H,I,rfl,q⟩
end L2
namespace Sm
open PySem PySem.Spec L2
section
variable {X : Cx} {E : XK} {pos : Pos}
def oI (g : Int -> Int -> PV) : OP:=fun st p q=>match p,q with
  | .int a,.int b=>.ok (g a b) st
  | _,_=>.stuck
def oAdd : OP:=fun st p q=>match p,q with
  | .int a,.int b=>.ok (.int (a + b)) st
  | .str a,.str b=>if a.length + b.length <= lim then .ok (.str (a ++ b)) st else .stuck
  | .tup xs,.tup ys=>if xs.length + ys.length <= lim then .ok (.tup (xs ++ ys)) st else .stuck
  | p,q=>match lstOf st p,lstOf st q with
    | some xs,some ys=>if xs.length + ys.length <= lim then .ok (.lst (xs ++ ys)) st else .stuck
    | _,_=>.stuck
theorem os_add : OpS X E (binaryOp .Add) oAdd:=⟨fun H ρ st p q x y Q R rp rq h=>by
  unfold oAdd at h
  split at h
  · cases rp; cases rq
    exact WO.of op_add ⟨_,_,rfl,rfl,now R h rfl⟩
  · cases rp; cases rq
    split at h
    · rename_i hl
      exact WO.of op_add_str ⟨_,_,rfl,rfl,le_lim hl,now R h rfl⟩
    · exact h.elim
  · split at h
    · rename_i xs ys hl
      obtain ⟨a,vs,rfl,ha,na,ra⟩:=rp
      obtain ⟨b,us,rfl,hb,nb,rb⟩:=rq
      refine WO.of op_cat2 ?_
      by_cases e : xs = []
      · subst e
        cases ra
        exact .inr ⟨a,b,us,rfl,rfl,SqT.of ha,SqT.of hb,now R h ⟨b,us,rfl,hb,nb,rb⟩⟩
      · refine .inl ⟨a,b,vs,us,rfl,rfl,SqT.of ha,SqT.of hb,fun z=>e ?_,by rw [<- ra.length,<- rb.length]; exact le_lim hl,fun z=>?_,fun z=>new_tup R h (ra.append rb)⟩
        · subst z
          cases xs with
          | nil=>rfl
          | cons _ _=>have:=ra.length; simp at this
        · subst z
          have : ys = []:=by
            cases ys with
            | nil=>rfl
            | cons _ _=>have:=rb.length; simp at this
          subst this
          rw [List.append_nil] at h
          exact now R h ⟨a,vs,rfl,ha,na,ra⟩
    · exact h.elim
  · split at h
    · rename_i xs ys e1 e2
      split at h
      · rename_i hl
        obtain ⟨a,vs,rfl,ha,ra⟩:=lst_at R rp e1
        obtain ⟨b,us,rfl,hb,rb⟩:=lst_at R rq e2
        exact WO.of op_cat ⟨a,b,vs,us,rfl,rfl,ha,hb,by rw [<- ra.length,<- rb.length]; exact le_lim hl,new_lst R h (ra.append rb)⟩
      · exact h.elim
    · exact h.elim⟩
theorem os_sub : OpS X E (binaryOp .Sub) (oI fun a b=>.int (a - b)):=⟨fun H ρ st p q x y Q R rp rq h=>by
  unfold oI at h
  split at h
  · cases rp; cases rq
    exact WO.of op_sub ⟨_,_,rfl,rfl,now R h rfl⟩
  · exact h.elim⟩
def oMul : OP:=fun st p q=>match p,q with
  | .int a,.int b=>if (-(2 ^ 64) < a /\ a < 2 ^ 64) \/ (-(2 ^ 64) < b /\ b < 2 ^ 64) then .ok (.int (a * b)) st else .stuck
  | .tup xs,.int b=>if xs ≠ [] /\ 1 <= b /\ xs.length * b.toNat <= 4096 then .ok (.tup (List.replicate b.toNat xs).flatten) st else .stuck
  | p,.int b=>match lstOf st p with
    | some xs=>if -(2 ^ 63) <= b /\ b < 2 ^ 63 /\ xs.length * b.toNat <= lim then .ok (.lst (List.replicate b.toNat xs).flatten) st else .stuck
    | none=>.stuck
  | _,_=>.stuck
theorem os_mul : OpS X E (binaryOp .Mult) oMul:=⟨fun H ρ st p q x y Q R rp rq h=>by
  unfold oMul at h
  split at h
  · cases rp; cases rq
    split at h
    · rename_i hc
      exact WO.of op_mul ⟨_,_,rfl,rfl,hc,now R h rfl⟩
    · exact h.elim
  · cases rq
    split at h
    · rename_i xs b hc
      obtain ⟨a,vs,rfl,ha,na,ra⟩:=rp
      refine WO.of op_repT ⟨a,b,vs,rfl,rfl,SqT.of ha,fun z=>hc.1 ?_,hc.2.1,by rw [<- ra.length]; exact hc.2.2,fun z=>?_,fun z=>new_tup R h (ra.rep _)⟩
      · subst z
        cases xs with
        | nil=>rfl
        | cons _ _=>have:=ra.length; simp at this
      · subst z
        have e1 : (List.replicate (Int.toNat 1) xs).flatten = xs:=by simp
        rw [e1] at h
        exact now R h ⟨a,vs,rfl,ha,na,ra⟩
    · exact h.elim
  · cases rq
    split at h
    · rename_i xs e1
      split at h
      · rename_i hc
        obtain ⟨a,vs,rfl,ha,ra⟩:=lst_at R rp e1
        exact WO.of op_rep ⟨a,_,vs,rfl,rfl,ha,hc.1,hc.2.1,by rw [<- ra.length]; exact le_lim hc.2.2,new_lst R h (ra.rep _)⟩
      · exact h.elim
    · exact h.elim
  · exact h.elim⟩
def oMod : OP:=fun st p q=>match p,q with
  | .int a,.int b=>if 0 < b then .ok (.int (a % b)) st else .stuck
  | _,_=>.stuck
theorem os_mod : OpS X E (binaryOp .Mod) oMod:=⟨fun H ρ st p q x y Q R rp rq h=>by
  unfold oMod at h
  split at h
  · cases rp; cases rq
    split at h
    · rename_i hc
      exact WO.of op_mod ⟨_,_,rfl,rfl,hc,now R h rfl⟩
    · exact h.elim
  · exact h.elim⟩
def oDiv : OP:=fun st p q=>match p,q with
  | .int a,.int b=>if 0 < b /\ b < 1073741824 then .ok (.int (a / b)) st else .stuck
  | _,_=>.stuck
theorem os_div : OpS X E (binaryOp .FloorDiv) oDiv:=⟨fun H ρ st p q x y Q R rp rq h=>by
  unfold oDiv at h
  split at h
  · cases rp; cases rq
    split at h
    · rename_i hc
      exact WO.of op_fdiv ⟨_,_,rfl,rfl,hc,now R h rfl⟩
    · exact h.elim
  · exact h.elim⟩
def oPow : OP:=fun st p q=>match p,q with
  | .int a,.int b=>if 0 <= b /\ b <= 1000000 /\ a.natAbs < 2 ^ 64 then .ok (.int (a ^ b.toNat)) st else .stuck
  | _,_=>.stuck
theorem os_pow : OpS X E (binaryOp .Pow) oPow:=⟨fun H ρ st p q x y Q R rp rq h=>by
  unfold oPow at h
  split at h
  · cases rp; cases rq
    split at h
    · rename_i hc
      exact WO.of op_pow ⟨_,_,rfl,rfl,hc,now R h rfl⟩
    · exact h.elim
  · exact h.elim⟩
theorem oI_cmp {op : CmpOp} {g : Int -> Int -> Bool} (ho : OpR X (compareOp op) (rI0 fun i j=>.bl (g i j))) : OpS X E (compareOp op) (oI fun a b=>.bl (g a b)):=⟨fun H ρ st p q x y Q R rp rq h=>by
  unfold oI at h
  split at h
  · cases rp; cases rq
    exact WO.of ho ⟨_,_,rfl,rfl,now R h rfl⟩
  · exact h.elim⟩
theorem os_le : OpS X E (compareOp .LtE) (oI fun a b=>.bl (decide (a <= b))):=oI_cmp op_le
theorem os_gt : OpS X E (compareOp .Gt) (oI fun a b=>.bl (decide (b < a))):=oI_cmp op_gt
theorem os_ge : OpS X E (compareOp .GtE) (oI fun a b=>.bl (decide (b <= a))):=oI_cmp op_ge
def intsOf : List PV -> Option (List Int)
  | []=>some []
  | .int i :: ps=>(intsOf ps).map (i :: ·)
  | _ :: _=>none
def blsOf : List PV -> Option (List Bool)
  | []=>some []
  | .bl i :: ps=>(blsOf ps).map (i :: ·)
  | _ :: _=>none
theorem ints_map (ns : List Int) : intsOf (ns.map .int) = some ns:=by
  induction ns with
  | nil=>rfl
  | cons n ns ih=>rw [List.map_cons,intsOf,ih]; rfl
theorem bls_map (ns : List Bool) : blsOf (ns.map .bl) = some ns:=by
  induction ns with
  | nil=>rfl
  | cons n ns ih=>rw [List.map_cons,blsOf,ih]; rfl
theorem ints_eq : ∀ {ps : List PV} {ns : List Int},intsOf ps = some ns -> ps = ns.map .int
  | [],ns,h=>by cases h; rfl
  | .int i :: ps,ns,h=>by
    rw [intsOf] at h
    cases e : intsOf ps with
    | none=>rw [e] at h; cases h
    | some ms=>rw [e] at h; cases h; rw [ints_eq e]; rfl
  | .non :: _,_,h | .bl _ :: _,_,h | .str _ :: _,_,h | .tup _ :: _,_,h | .lst _ :: _,_,h | .fro _ :: _,_,h | .ref _ :: _,_,h | .dic :: _,_,h=>by cases h
theorem bls_eq : ∀ {ps : List PV} {ns : List Bool},blsOf ps = some ns -> ps = ns.map .bl
  | [],ns,h=>by cases h; rfl
  | .bl i :: ps,ns,h=>by
    rw [blsOf] at h
    cases e : blsOf ps with
    | none=>rw [e] at h; cases h
    | some ms=>rw [e] at h; cases h; rw [bls_eq e]; rfl
  | .non :: _,_,h | .int _ :: _,_,h | .str _ :: _,_,h | .tup _ :: _,_,h | .lst _ :: _,_,h | .fro _ :: _,_,h | .ref _ :: _,_,h | .dic :: _,_,h=>by cases h
def oLt : OP:=fun st p q=>match p,q with
  | .int a,.int b=>.ok (.bl (decide (a < b))) st
  | .tup xs,.tup ys=>match intsOf xs,intsOf ys with
    | some ns,some ms=>.ok (.bl (HT.lexLt ns ms)) st
    | _,_=>.stuck
  | _,_=>.stuck
theorem os_lt (hu : X.A.units + 64 < cLine) : OpS X E (compareOp .Lt) oLt:=⟨fun H ρ st p q x y Q R rp rq h=>by
  unfold oLt at h
  split at h
  · cases rp; cases rq
    exact WO.of op_lt ⟨_,_,rfl,rfl,now R h rfl⟩
  · split at h
    · rename_i ns ms e1 e2
      obtain ⟨a,vs,rfl,ha,na,ra⟩:=rp
      obtain ⟨b,us,rfl,hb,nb,rb⟩:=rq
      rw [ints_eq e1] at ra
      rw [ints_eq e2] at rb
      rw [ra.toInts] at ha
      rw [rb.toInts] at hb
      exact WO.of (op_ltT (by omega)) ⟨a,b,ns,ms,rfl,rfl,SqT.of ha,SqT.of hb,now R h rfl⟩
    · exact h.elim
  · exact h.elim⟩
def dep : Nat:=12
def oEq : OP:=fun st p q=>if good dep (der st p) = true /\ good dep (der st q) = true then .ok (.bl (peq (der st p) (der st q))) st else .stuck
def oNe : OP:=fun st p q=>if good dep (der st p) = true /\ good dep (der st q) = true then .ok (.bl (!peq (der st p) (der st q))) st else .stuck
theorem os_eq (hu : X.A.units + 64 < cLine) : OpS X E (compareOp .Eq) oEq:=⟨fun H ρ st p q x y Q R rp rq h=>by
  unfold oEq at h
  split at h
  · rename_i g
    intro pins s σ v u I rv ru
    exact (eqAts dep I g.1 g.2 (by unfold dep; omega) (der_rep R g.1 rp) rv (der_rep R g.2 rq) ru).2.1 _ _ _ _ ⟨.bl _,H,I,rfl,now R h rfl⟩
  · exact h.elim⟩
theorem os_ne (hu : X.A.units + 64 < cLine) : OpS X E (compareOp .NotEq) oNe:=⟨fun H ρ st p q x y Q R rp rq h=>by
  unfold oNe at h
  split at h
  · rename_i g
    intro pins s σ v u I rv ru
    exact (eqAts dep I g.1 g.2 (by unfold dep; omega) (der_rep R g.1 rp) rv (der_rep R g.2 rq) ru).2.2 _ _ _ _ ⟨.bl _,H,I,rfl,now R h rfl⟩
  · exact h.elim⟩
def isNon : PV -> Bool
  | .non=>true
  | _=>false
theorem isNon_rep {H : Hp} {ρ : Tk} {p : PV} {x : V} (r : Rep H ρ p x) : decide (x = .non) = isNon p:=by
  cases p with
  | non=>cases r; rfl
  | bl _=>cases r; rfl
  | int _=>cases r; rfl
  | str _=>cases r; rfl
  | tup _=>obtain ⟨_,_,rfl,_⟩:=r; rfl
  | lst _=>obtain ⟨_,_,rfl,_⟩:=r; rfl
  | fro _=>obtain ⟨_,_,rfl,_⟩:=r; rfl
  | ref _=>obtain ⟨_,_,rfl⟩:=r; rfl
  | dic=>obtain ⟨_,rfl,_⟩:=r; rfl
def oIs : OP:=fun st p q=>match q with
  | .non=>.ok (.bl (isNon p)) st
  | .bl c=>match p with
    | .bl b=>.ok (.bl (b == c)) st
    | _=>.stuck
  | _=>.stuck
def oIsNot : OP:=fun st p q=>match q with
  | .non=>.ok (.bl (!isNon p)) st
  | .bl c=>match p with
    | .bl b=>.ok (.bl (b != c)) st
    | _=>.stuck
  | _=>.stuck
theorem os_isnot : OpS X E (compareOp .IsNot) oIsNot:=⟨fun H ρ st p q x y Q R rp rq h=>by
  unfold oIsNot at h
  split at h
  · cases rq
    refine WO.of op_notN ⟨rfl,?_⟩
    rw [isNon_rep rp]
    exact now R h rfl
  · split at h
    · cases rp; cases rq
      exact WO.of op_isnot_bl ⟨_,_,rfl,rfl,now R h rfl⟩
    · exact h.elim
  · exact h.elim⟩
def oIn (neg : Bool) : OP:=fun st p q=>match seqOf st q with
  | some xs=>if good dep (der st p) = true /\ xs.all (good dep) = true then .ok (.bl ((xs.any fun y=>peq y (der st p)) != neg)) st else .stuck
  | none=>.stuck
open Classical in
theorem in_items {pins : List (Addr × Obj)} {σ : St} {H : Hp} {ρ : Tk} {s : Shared} {A : Around} {st : Store} {p : PV} {xs : List PV} {x : V} {v : Value} {vs : List V} {its : List Value} (I : Inv X pins σ H s) (hu : A.units + dep < cLine) (R : Rel H ρ st)
    (gp : good dep (der st p) = true) (gx : xs.all (good dep) = true) (rp : Rep H ρ p x) (rv : RelV x v) (ra : RepL H ρ xs vs) (vi : Vals vs its) : ∃ e : Value -> Bool,(∀ u,u ∈ its.toArray -> SeqAt.EqAt A s u v (e u)) /\ its.toArray.any e = xs.any fun y=>peq y (der st p):=by
  have key : ∀ u ∈ its,∃ q ∈ xs,∃ y,Rep H Tk.nil q y /\ RelV y u:=fun u hu=>by
    obtain ⟨j,hj,rfl⟩:=List.getElem_of_mem hu
    have l1:=vi.length
    have l2:=ra.length
    obtain ⟨y,e1,e2⟩:=(repL_nil gx ra).get (List.getElem?_eq_getElem (show j < xs.length by omega))
    obtain ⟨w,e3,e4⟩:=vi.get e1
    rw [List.getElem?_eq_getElem hj] at e3; cases e3
    exact ⟨_,List.getElem_mem _,y,e2,e4⟩
  refine ⟨fun u=>decide (∃ q ∈ xs,∃ y,Rep H Tk.nil q y /\ RelV y u /\ peq q (der st p) = true),fun u hm=>?_,?_⟩
  · have hm' : u ∈ its:=by simpa using hm
    by_cases z : ∃ q ∈ xs,∃ y,Rep H Tk.nil q y /\ RelV y u /\ peq q (der st p) = true
    · show SeqAt.EqAt A s u v (decide _)
      rw [decide_eq_true z]
      obtain ⟨q,hq,y,r1,r2,e⟩:=z
      have:=(eqAts dep I ((List.all_eq_true.mp gx) q hq) gp hu r1 r2 (der_rep R gp rp) rv).1
      rw [e] at this
      exact this
    · show SeqAt.EqAt A s u v (decide _)
      rw [decide_eq_false z]
      obtain ⟨q,hq,y,r1,r2⟩:=key u hm'
      have:=(eqAts dep I ((List.all_eq_true.mp gx) q hq) gp hu r1 r2 (der_rep R gp rp) rv).1
      cases e : peq q (der st p) with
      | true=>exact absurd ⟨q,hq,y,r1,r2,e⟩ z
      | false=>rw [e] at this; exact this
  · rw [Bool.eq_iff_iff,Array.any_eq_true,List.any_eq_true]
    constructor
    · rintro ⟨j,hj,e⟩
      obtain ⟨q,hq,y,r1,r2,e⟩:=of_decide_eq_true e
      exact ⟨q,hq,e⟩
    · rintro ⟨q,hq,e⟩
      obtain ⟨j,hj,rfl⟩:=List.getElem_of_mem hq
      have l1:=vi.length
      have l2:=ra.length
      have hj' : j < its.length:=by omega
      obtain ⟨y,e1,e2⟩:=(repL_nil gx ra).get (List.getElem?_eq_getElem hj)
      obtain ⟨w,e3,e4⟩:=vi.get e1
      refine ⟨j,by simpa using hj',decide_eq_true ⟨_,hq,y,e2,?_,e⟩⟩
      rw [List.getElem?_eq_getElem hj'] at e3; cases e3
      simpa using e4
theorem os_notin (hu : X.A.units + 64 < cLine) : OpS X E (compareOp .NotIn) (oIn true):=⟨fun H ρ st p q x y Q R rp rq h=>by
  unfold oIn at h
  split at h
  · rename_i xs es
    split at h
    · rename_i g
      obtain ⟨t,a,vs,rfl,hq,ra⟩:=seq_at (K:=X.K) R rq es
      intro pins s σ v u I rv ru
      cases ru
      rw [Bool.bne_true] at h
      cases t with
      | true=>
        obtain ⟨its,r,pl,hz⟩:=I.tuple hq
        obtain ⟨e,he,ea⟩:=in_items (A:=X.A.in1) I (by show X.A.units + 1 + dep < cLine; unfold dep; omega) R g.1 g.2 rp rv ra r
        refine SeqAt.notIn_tupleAt e pl he ⟨.bl _,H,I,rfl,?_⟩
        rw [ea]
        exact now R h rfl
      | false=>
        obtain ⟨its,r,pl,hz⟩:=I.list hq
        obtain ⟨e,he,ea⟩:=in_items (A:=X.A.in1) I (by show X.A.units + 1 + dep < cLine; unfold dep; omega) R g.1 g.2 rp rv ra r
        refine SeqAt.notIn_listAt e pl.isList he ⟨.bl _,H,I,rfl,?_⟩
        rw [ea]
        exact now R h rfl
    · exact h.elim
  · exact h.elim⟩
end
end Sm
namespace Sm
open PySem PySem.Spec L2
section
variable {H : Hp} {ρ : Tk}
theorem RepL.atI {ps : List PV} {vs : List V} {i : Int} {p : PV} (r : RepL H ρ ps vs) (e : atI ps i = some p) : ∃ v,L2.atI vs i = some v /\ Rep H ρ p v:=by
  unfold L2.atI at e ⊢
  rw [<- r.length]
  cases q : ixN ps.length i with
  | none=>rw [q] at e; cases e
  | some j=>
    rw [q] at e
    exact r.get e
def cut {α : Type} (xs : List α) (lo hi : Option Int) : List α:=(xs.drop (HT.sIx xs.length 0 lo)).take (HT.sIx xs.length xs.length hi - HT.sIx xs.length 0 lo)
theorem RepL.cut {ps : List PV} {vs : List V} (r : RepL H ρ ps vs) (lo hi : Option Int) : RepL H ρ (Sm.cut ps lo hi) (cutV vs lo hi):=by
  unfold Sm.cut cutV
  rw [<- r.length]
  exact (r.drop _).take _
end
section
variable {X : Cx} {E : XK} {pos : Pos} {a b : Expr} {ma mb : ME}
def oIx : OP:=fun st p q=>match seqOf st p,q with
  | some xs,.int i=>okO st (atI xs i)
  | _,_=>.stuck
theorem se_ix (ha : SimE X E a ma) (hb : SimE X E b mb) (hs : PlainIx b:=by exact fun _ _=>rfl) : SimE X E (.Subscript a b pos) (mOp oIx ma mb):=
  ⟨fun Γ σ H ρ st Q R G h=>WE.of (pe_ix ix_seq pe_w pe_w hs) (ha.use R G h.bind fun p st1 H1 ρ1 v x1 R1 G1 r1 h1=>hb.use R1 G1 h1.bind fun q st2 H2 ρ2 u x2 R2 G2 r2 h2=>by
    unfold oIx at h2
    split at h2
    · rename_i xs i e
      cases r2
      cases ea : atI xs i with
      | none=>rw [ea] at h2; exact h2.elim
      | some w=>
        rw [ea] at h2
        obtain ⟨t,b,vs,rfl,hq,ra⟩:=seq_at (K:=X.K) R2 (r1.ext x2) e
        obtain ⟨z,ez,rz⟩:=ra.atI ea
        cases t with
        | true=>exact .inr (.inl ⟨b,vs,i,z,rfl,rfl,hq,ez,now R2 h2 rz⟩)
        | false=>exact .inl ⟨b,vs,i,z,rfl,rfl,hq,ez,now R2 h2 rz⟩
    · exact h2.elim)⟩
structure SimO (X : Cx) (E : XK) (o : Option Expr) (m : Gam -> Store -> Res (Option Int)) : Prop where
  run : ∀ (Γ : Gam) (σ : St) (H : Hp) (ρ : Tk) (st : Store) (P : Option Int -> Store -> Hp -> Tk -> Prop) (Q : Option Int -> Hp -> Prop),Rel H ρ st -> EnvR H ρ Γ σ -> Acc X.mg E H ρ P (m Γ st) ->
    (∀ i st1 H1 ρ1,Ext H ρ H1 ρ1 -> Rel H1 ρ1 st1 -> EnvR H1 ρ1 Γ σ -> P i st1 H1 ρ1 -> Q i H1) -> ∃ t,PO X o t /\ t σ H Q
def mNoPart : Gam -> Store -> Res (Option Int):=fun _ st=>.ok none st
def mPart (m : ME) : Gam -> Store -> Res (Option Int):=fun Γ st=>(m Γ st).bind fun p st1=>match p with
  | .int i=>.ok (some i) st1
  | _=>.stuck
theorem so_none : SimO X E none mNoPart:=⟨fun Γ σ H ρ st P Q R G h k=>⟨_,po_none,k none st H ρ (Ext.refl _ _) R G (h H ρ (Ext.refl _ _) R)⟩⟩
theorem so_some (ha : SimE X E a ma) : SimO X E (some a) (mPart ma):=⟨fun Γ σ H ρ st P Q R G h k=>⟨_,po_some pe_w,ha.use R G h.bind fun p st1 H1 ρ1 v x1 R1 G1 r1 h1=>by
  cases p with
  | int i=>exact ⟨i,r1,k (some i) st1 H1 ρ1 x1 R1 G1 (h1 H1 ρ1 (Ext.refl _ _) R1)⟩
  | _=>exact h1.elim⟩⟩
def oSl (st : Store) (p : PV) (lo hi : Option Int) : Res PV:=match p with
  | .tup xs=>.ok (.tup (cut xs lo hi)) st
  | p=>match listOf st p with
    | some xs=>.ok (.lst (cut xs lo hi)) st
    | none=>.stuck
def mSl (ma : ME) (ml mh : Gam -> Store -> Res (Option Int)) : ME:=fun Γ st=>(ma Γ st).bind fun p st1=>(ml Γ st1).bind fun lo st2=>(mh Γ st2).bind fun hi st3=>oSl st3 p lo hi
def TO.w (X : Cx) (o : Option Expr) : TO:=fun σ H Q=>∃ t,PO X o t /\ t σ H Q
theorem po_w {o : Option Expr} : PO X o (TO.w X o):=fun pins s σ H Q I ⟨t,h,q⟩=>h pins s σ H Q I q
theorem se_slice {lo hi : Option Expr} {ml mh : Gam -> Store -> Res (Option Int)} {p2 : Pos} (ha : SimE X E a ma) (hl : SimO X E lo ml) (hh : SimO X E hi mh) : SimE X E (.Subscript a (.Slice lo hi none p2) pos) (mSl ma ml mh):=
  ⟨fun Γ σ H ρ st Q R G h=>WE.of (pe_slice (sl_tup.or (sl_whole.or sl_list)) pe_w po_w po_w) (ha.use R G h.bind fun p st1 H1 ρ1 v x1 R1 G1 r1 h1=>by
    refine hl.run Γ σ H1 ρ1 st1 _ _ R1 G1 h1.bind fun l st2 H2 ρ2 x2 R2 G2 h2=>?_
    refine hh.run Γ σ H2 ρ2 st2 _ _ R2 G2 h2.bind fun u st3 H3 ρ3 x3 R3 G3 h3=>?_
    have r3:=r1.ext (x2.trans x3)
    unfold oSl at h3
    split at h3
    · rename_i xs
      obtain ⟨a,vs,rfl,ha,na,ra⟩:=r3
      by_cases hw : HT.sIx vs.length 0 l = 0 /\ HT.sIx vs.length vs.length u = vs.length
      · refine .inr (.inl ⟨a,vs,rfl,SqT.of ha,hw,?_⟩)
        have e : cut xs l u = xs:=by
          unfold cut
          rw [ra.length,hw.1,hw.2,List.drop_zero,Nat.sub_zero,<- ra.length,List.take_length]
        rw [e] at h3
        exact now R3 h3 ⟨a,vs,rfl,ha,na,ra⟩
      · exact .inl ⟨a,vs,rfl,SqT.of ha,hw,new_tup R3 h3 (ra.cut l u)⟩
    · split at h3
      · rename_i xs e
        obtain ⟨a,vs,rfl,ha,ra⟩:=list_at R3 r3 e
        exact .inr (.inr ⟨a,vs,rfl,.inl ha,new_lst R3 h3 (ra.cut l u)⟩)
      · exact h3.elim)⟩
variable {es : List Expr} {e : Expr} {mr : Gam -> Store -> Res (List PV)}
def mCall (o : CF) (mr : Gam -> Store -> Res (List PV)) : ME:=fun Γ st=>(mr Γ st).bind fun ps st1=>o st1 ps
theorem CallS.use {f : Value} {o : CF} (s : CallS X E f o) {P : PV -> Store -> Hp -> Tk -> Prop} {Q : VK} {H : Hp} {ρ : Tk} {st : Store} {ps : List PV} {xs : List V} (R : Rel H ρ st) (rp : RepL H ρ ps xs) (h : Acc X.mg E H ρ P (o st ps))
    (k : ∀ p st1 H1 ρ1 v,Ext H ρ H1 ρ1 -> Rel H1 ρ1 st1 -> Rep H1 ρ1 p v -> P p st1 H1 ρ1 -> Q v H1) : WC X f xs H Q:=by
  refine s.run H ρ st ps xs Q R rp ?_
  cases r : o st ps with
  | ok p st1=>rw [r] at h; exact fun H' ρ' x' R' v rv=>k p st1 H' ρ' v x' R' rv (h H' ρ' x' R')
  | exc e st=>rw [r] at h; exact h
  | stuck=>rw [r] at h; exact h
theorem se_callB {id : String} {x : Str} {p : Pos} {o : CF} (hc : CallS X E (.builtin id) o) (hg : Gl X x) (hm : X.mg x = none) (hv : bootBuiltins x = some (.builtin id)) (ha : SimA X E (e :: es) mr) (hn : x ≠ "__name__" := by decide) (hdb : (x == ("__debug__" : Str)) = false:=by decide)
    (he : starEach (e :: es) X.env = (false,eval e X.env) :: starEach es X.env:=by rfl) (hpl : (backTo pos (starEach es X.env)).any (·.1) = false:=by rfl) : SimE X E (.Call (.Name x p) (e :: es) [] pos) (mCall o mr):=
  ⟨fun Γ σ H ρ st Q R G h=>WE.of (pe_callB call_w hg hm hv pa_w hn hdb he hpl) (ha.use R G h.bind fun ps st1 H1 ρ1 vs x1 R1 G1 r1 h1=>hc.use R1 r1 h1 fun _ _ _ _ v _ _ r q=>q v r)⟩
theorem se_callT {T : String} {x : Str} {p : Pos} {o : CF} (hc : CallS X E (.type T) o) (hg : Gl X x) (hm : X.mg x = none) (hv : bootBuiltins x = some (.type T)) (ha : SimA X E (e :: es) mr) (hn : x ≠ "__name__" := by decide) (hdb : (x == ("__debug__" : Str)) = false:=by decide)
    (he : starEach (e :: es) X.env = (false,eval e X.env) :: starEach es X.env:=by rfl) (hpl : (backTo pos (starEach es X.env)).any (·.1) = false:=by rfl) : SimE X E (.Call (.Name x p) (e :: es) [] pos) (mCall o mr):=
  ⟨fun Γ σ H ρ st Q R G h=>WE.of (pe_callTy call_w hg hm hv pa_w hn hdb he hpl) (ha.use R G h.bind fun ps st1 H1 ρ1 vs x1 R1 G1 r1 h1=>hc.use R1 r1 h1 fun _ _ _ _ v _ _ r q=>q v r)⟩
theorem repL_one {H : Hp} {ρ : Tk} {p : PV} {xs : List V} (r : RepL H ρ [p] xs) : ∃ v,xs = [v] /\ Rep H ρ p v:=by
  obtain ⟨v,t,rfl,h1,h2⟩:=r
  cases h2
  exact ⟨v,rfl,h1⟩
def cLen : CF:=fun st ps=>match ps with
  | [p]=>match seqOf st p with
    | some xs=>.ok (.int xs.length) st
    | none=>match p with
      | .str x=>if x.length <= lim then .ok (.int x.length) st else .stuck
      | _=>.stuck
  | _=>.stuck
theorem cs_len : CallS X E (.builtin "len") cLen:=⟨fun H ρ st ps xs Q R rp h=>by
  unfold cLen at h
  split at h
  · rename_i p
    obtain ⟨v,rfl,r⟩:=repL_one rp
    split at h
    · rename_i ys e
      obtain ⟨t,a,vs,rfl,hq,ra⟩:=seq_at (K:=X.K) R r e
      rw [ra.length] at h
      exact WC.of call_len_seq ⟨a,vs,rfl,sqK_or hq,now R h rfl⟩
    · split at h
      · cases r
        split at h
        · rename_i hl
          exact WC.of call_len_str ⟨_,rfl,le_lim hl,now R h rfl⟩
        · exact h.elim
      · exact h.elim
  · exact h.elim⟩
def cInts (g : List Int -> Option PV) : CF:=fun st ps=>match ps with
  | [p]=>match (seqOf st p).bind intsOf with
    | some ns=>okO st (g ns)
    | none=>.stuck
  | _=>.stuck
def cBls (g : List Bool -> PV) : CF:=fun st ps=>match ps with
  | [p]=>match (seqOf st p).bind blsOf with
    | some ns=>.ok (g ns) st
    | none=>.stuck
  | _=>.stuck
theorem ints_at' {K : PySem.W.Frag} {H : Hp} {ρ : Tk} {st : Store} {p : PV} {v : V} {ns : List Int} (R : Rel H ρ st) (r : Rep H ρ p v) (e : (seqOf st p).bind intsOf = some ns) : ∃ (t : Bool) (a : Addr),v = .ref a /\ SqK K t H a (ns.map V.int):=by
  cases q : seqOf st p with
  | none=>rw [q] at e; cases e
  | some xs=>
    rw [q] at e
    obtain ⟨t,a,vs,rfl,hq,ra⟩:=seq_at (K:=K) R r q
    rw [ints_eq e] at ra
    rw [ra.toInts] at hq
    exact ⟨t,a,rfl,hq⟩
theorem bls_at' {K : PySem.W.Frag} {H : Hp} {ρ : Tk} {st : Store} {p : PV} {v : V} {ns : List Bool} (R : Rel H ρ st) (r : Rep H ρ p v) (e : (seqOf st p).bind blsOf = some ns) : ∃ (t : Bool) (a : Addr),v = .ref a /\ SqK K t H a (ns.map V.bl):=by
  cases q : seqOf st p with
  | none=>rw [q] at e; cases e
  | some xs=>
    rw [q] at e
    obtain ⟨t,a,vs,rfl,hq,ra⟩:=seq_at (K:=K) R r q
    rw [bls_eq e] at ra
    rw [ra.toBls] at hq
    exact ⟨t,a,rfl,hq⟩
theorem cs_sum (hc : X.calm = true) : CallS X E (.builtin "sum") (cInts fun ns=>some (.int ns.sum)):=⟨fun H ρ st ps xs Q R rp h=>by
  unfold cInts at h
  split at h
  · obtain ⟨v,rfl,r⟩:=repL_one rp
    split at h
    · rename_i ns e
      obtain ⟨t,a,rfl,hq⟩:=ints_at' (K:=X.K) R r e
      exact WC.of (call_sum t hc) ⟨a,ns,rfl,hq,now R h rfl⟩
    · exact h.elim
  · exact h.elim⟩
theorem cs_all (hc : X.calm = true) : CallS X E (.builtin "all") (cBls fun ns=>.bl (ns.all id)):=⟨fun H ρ st ps xs Q R rp h=>by
  unfold cBls at h
  split at h
  · obtain ⟨v,rfl,r⟩:=repL_one rp
    split at h
    · rename_i ns e
      obtain ⟨t,a,rfl,hq⟩:=bls_at' (K:=X.K) R r e
      exact WC.of (call_all t hc) ⟨a,ns,rfl,hq,now R h rfl⟩
    · exact h.elim
  · exact h.elim⟩
theorem cs_any (hc : X.calm = true) : CallS X E (.builtin "any") (cBls fun ns=>.bl (ns.any id)):=⟨fun H ρ st ps xs Q R rp h=>by
  unfold cBls at h
  split at h
  · obtain ⟨v,rfl,r⟩:=repL_one rp
    split at h
    · rename_i ns e
      obtain ⟨t,a,rfl,hq⟩:=bls_at' (K:=X.K) R r e
      exact WC.of (call_any t hc) ⟨a,ns,rfl,hq,now R h rfl⟩
    · exact h.elim
  · exact h.elim⟩
def cTuple : CF:=fun st ps=>match ps with
  | [p]=>match seqOf st p with
    | some xs=>.ok (.tup xs) st
    | none=>.stuck
  | _=>.stuck
theorem cs_tuple : CallS X E (.type "tuple") cTuple:=⟨fun H ρ st ps xs Q R rp h=>by
  unfold cTuple at h
  split at h
  · rename_i p
    obtain ⟨v,rfl,r⟩:=repL_one rp
    split at h
    · rename_i ys e
      cases p with
      | tup zs=>
        cases e
        obtain ⟨a,vs,rfl,ha,na,ra⟩:=r
        exact WC.of call_tuple_of ⟨a,vs,rfl,.inr ⟨SqT.of ha,now R h ⟨a,vs,rfl,ha,na,ra⟩⟩⟩
      | _=>
        obtain ⟨a,vs,rfl,ha,ra⟩:=list_at R r e
        exact WC.of call_tuple_of ⟨a,vs,rfl,.inl ⟨.inl ha,new_tup R h ra⟩⟩
    · exact h.elim
  · exact h.elim⟩
def tyN : PV -> String
  | .non => "NoneType"
  | .bl _ => "bool"
  | .int _ => "int"
  | .str _ => "str"
  | .tup _ => "tuple"
  | .lst _ => "list"
  | .fro _ => "list"
  | .ref _ => "list"
  | .dic => "dict"
def dpv (st : Store) : PV -> PV
  | .ref i=>match st[i]? with
    | some (.dic _)=>.dic
    | some (.dtp _)=>.dic
    | _=>.ref i
  | p=>p
def isI (T : String) (p : PV) : Bool:=tyN p == T || (T == "int" && tyN p == "bool")
def frzd (st : Store) : PV -> Bool
  | .ref i=>match st[i]? with
    | some (.frd _)=>true
    | some (.obj _ _)=>true
    | _=>false
  | _=>false
theorem ty_of {K : PySem.W.Frag} {H : Hp} {ρ : Tk} {st : Store} {p : PV} {v : V} (nf : frzd st p = false) (R : Rel H ρ st) (r : Rep H ρ p v) : TyOf K H v (.type (tyN (dpv st p))):=by
  cases p with
  | non=>cases r; exact .non
  | bl b=>cases r; exact .bl b
  | int i=>cases r; exact .int i
  | str x=>cases r; exact .str x
  | tup ps=>obtain ⟨a,vs,rfl,h,_⟩:=r; exact .tup h
  | lst ps=>obtain ⟨a,vs,rfl,h,_⟩:=r; exact .lst h
  | fro ps=>
    obtain ⟨a,vs,rfl,h,_⟩:=r
    rcases h with h | ⟨o,h⟩
    · exact .lst h
    · exact .frz h
  | ref i=>
    obtain ⟨a,e,rfl⟩:=r
    have hl : i < st.length:=by rw [<- R.len]; exact (List.getElem?_eq_some_iff.mp e).1
    have hs:=List.getElem?_eq_getElem hl
    have q:=R.cell i a st[i] e hs
    cases hc : st[i] with
    | lst xs=>rw [hc] at q hs; simp only [dpv,hs]; obtain ⟨vs,h,_⟩:=q; exact .lst h
    | dic xs=>rw [hc] at q hs; simp only [dpv,hs]; obtain ⟨vs,h,_⟩:=q; exact .dK h
    | dtp xs=>rw [hc] at q hs; simp only [dpv,hs]; obtain ⟨vs,h,_⟩:=q; exact .dT h
    | frd xs=>rw [hc] at hs; simp only [frzd,hs] at nf; cases nf
    | obj C xs=>rw [hc] at hs; simp only [frzd,hs] at nf; cases nf
  | dic=>obtain ⟨a,rfl,h,_⟩:=r; exact .dK h
def kitTypes : List String:=["int", "bool", "str", "tuple", "list", "dict"]
theorem kit_ok (K : PySem.W.Frag) {T : String} (hT : T ∈ kitTypes) (p : PV) : PySem.W.kitOne K (.type (tyN p)) (.type T) = some (isI T p):=by
  have hT : T = "int" \/ T = "bool" \/ T = "str" \/ T = "tuple" \/ T = "list" \/ T = "dict" := by simpa [kitTypes] using hT
  rcases hT with rfl | rfl | rfl | rfl | rfl | rfl <;> cases p <;> first | rfl | kernel_rfl
def mIsI (T : String) (m : ME) : ME:=fun Γ st=>(m Γ st).bind fun p st1=>if frzd st1 p = true then .stuck else .ok (.bl (isI T (dpv st1 p))) st1
theorem se_isi {T : String} {tx : Str} {a : Expr} {ma : ME} {p tp : Pos} (hT : T ∈ kitTypes) (ha : SimE X E a ma) (hg : Gl X "isinstance") (hm : X.mg "isinstance" = none) (hgT : Gl X tx) (hmT : X.mg tx = none) (hvT : bootBuiltins tx = some (.type T))
    (hn : tx ≠ "__name__" := by decide) (hd : (tx == ("__debug__" : Str)) = false:=by decide)
    (he : starEach [a,.Name tx tp] X.env = (false,eval a X.env) :: starEach [.Name tx tp] X.env:=by rfl) (he2 : starEach [.Name tx tp] X.env = (false,eval (.Name tx tp) X.env) :: starEach [] X.env:=by rfl) (hpl : (backTo pos (starEach [.Name tx tp] X.env)).any (·.1) = false:=by rfl) :
    SimE X E (.Call (.Name "isinstance" p) [a,.Name tx tp] [] pos) (mIsI T ma):=
  ⟨fun Γ σ H ρ st Q R G h=>WE.of (pe_callB call_isinst hg hm boot_isinstance (pa_cons pe_w (pa_cons (pe_bltn hgT hmT hvT (v:=.ty T) rfl hn hd) pa_nil he2) he) (by decide) (by decide) he hpl)
    (ha.use R G h.bind fun q st1 H1 ρ1 v x1 R1 G1 r1 h1=>by
      by_cases nf : frzd st1 q = true
      · rw [if_pos nf] at h1; exact h1.elim
      · rw [if_neg nf] at h1
        exact ⟨v,.ty T,.type T,_,_,rfl,rfl,ty_of (by simpa using nf) R1 r1,kit_ok X.K hT (dpv st1 q),now R1 h1 rfl⟩)⟩
end
end Sm
namespace Sm
open PySem PySem.Spec L2
abbrev GA:=PV -> Gam -> Option Gam
abbrev GAs:=List PV -> Gam -> Option Gam
structure SimG (X : Cx) (tg : Expr) (ga : GA) : Prop where
  run : ∀ (Γ Γ' : Gam) (σ : St) (H : Hp) (ρ : Tk) (p : PV) (v : V) (Q : St -> Hp -> Prop),EnvR H ρ Γ σ -> Rep H ρ p v -> ga p Γ = some Γ' -> (∀ σ',EnvR H ρ Γ' σ' -> Q σ' H) -> ∃ t,PG X tg t /\ t v σ H Q
structure SimGs (X : Cx) (tgs : List Expr) (n : Nat) (ga : GAs) : Prop where
  run : ∀ (Γ Γ' : Gam) (σ : St) (H : Hp) (ρ : Tk) (ps : List PV) (vs : List V) (Q : St -> Hp -> Prop),EnvR H ρ Γ σ -> RepL H ρ ps vs -> ga ps Γ = some Γ' -> (∀ σ',EnvR H ρ Γ' σ' -> Q σ' H) -> ∃ t,PGs X tgs t /\ t vs σ H Q
  len : ∀ ps Γ Γ',ga ps Γ = some Γ' -> ps.length = n
def gaName (i : Nat) : GA:=fun p Γ=>some (Γ.set i (some p))
def gaNil : GAs:=fun ps Γ=>match ps with
  | []=>some Γ
  | _=>none
def gaCons (g : GA) (gs : GAs) : GAs:=fun ps Γ=>match ps with
  | p :: r=>(g p Γ).bind (gs r)
  | []=>none
def gaTup (gs : GAs) : GA:=fun p Γ=>match p with
  | .tup ps=>gs ps Γ
  | _=>none
section
variable {X : Cx} {pos : Pos}
theorem sg_name {i : Nat} {x : Str} (hN : X.N.Nodup) (hi : X.N[i]? = some x:=by rfl) (hx : Loc X.env.scope x:=by first | exact Or.inl rfl | exact Or.inr rfl) (hf : X.fn x = true \/ X.env.scope.names.lookup x = some .local:=by first | exact .inl rfl | exact .inr rfl) : SimG X (.Name x pos) (gaName i):=
  ⟨fun Γ Γ' σ H ρ p v Q G r e k=>⟨_,pg_name hN hi hx hf,by cases e; exact k _ (G.set r i)⟩⟩
theorem sgs_nil : SimGs X [] 0 gaNil:=⟨fun Γ Γ' σ H ρ ps vs Q G r e k=>⟨_,pgs_nil,by
  cases ps with
  | nil=>cases e; cases r; exact ⟨rfl,k σ G⟩
  | cons _ _=>cases e⟩,fun ps Γ Γ' e=>by
  cases ps with
  | nil=>rfl
  | cons _ _=>cases e⟩
def WGx (X : Cx) (tg : Expr) : TG:=fun v σ H Q=>∃ t,PG X tg t /\ t v σ H Q
theorem pg_x {tg : Expr} : PG X tg (WGx X tg):=fun pins s σ H v u Q I r ⟨t,h,q⟩=>h pins s σ H v u Q I r q
def WGsx (X : Cx) (tgs : List Expr) : TGs:=fun v σ H Q=>∃ t,PGs X tgs t /\ t v σ H Q
theorem pgs_x {tgs : List Expr} : PGs X tgs (WGsx X tgs):=fun pins s σ H v u Q I r ⟨t,h,q⟩=>h pins s σ H v u Q I r q
theorem sgs_cons {e : Expr} {es : List Expr} {g : GA} {gs : GAs} {n : Nat} (h1 : SimG X e g) (h2 : SimGs X es n gs) (hs : (assignEach (e :: es) X.env).map (·.2) = assign e X.env :: (assignEach es X.env).map (·.2):=by rfl) : SimGs X (e :: es) (n + 1) (gaCons g gs):=
  ⟨fun Γ Γ' σ H ρ ps vs Q G r eq k=>⟨_,pgs_cons pg_x pgs_x hs,by
    cases ps with
    | nil=>cases eq
    | cons p ps=>
      obtain ⟨v,t,rfl,r1,r2⟩:=r
      have eq : (g p Γ).bind (gs ps) = some Γ':=eq
      cases e1 : g p Γ with
      | none=>rw [e1] at eq; cases eq
      | some Γ1=>
        rw [e1] at eq
        exact ⟨v,t,rfl,h1.run Γ Γ1 σ H ρ p v _ G r1 e1 fun σ1 G1=>h2.run Γ1 Γ' σ1 H ρ ps t _ G1 r2 eq k⟩⟩,fun ps Γ Γ' e=>by
    cases ps with
    | nil=>cases e
    | cons p ps=>
      have e : (g p Γ).bind (gs ps) = some Γ':=e
      cases e1 : g p Γ with
      | none=>rw [e1] at e; cases e
      | some Γ1=>rw [e1] at e; rw [List.length_cons,h2.len ps Γ1 Γ' e]⟩
theorem sg_tup {es : List Expr} {k n : Nat} {gs : GAs} (hc : X.calm = true) (h : SimGs X es n gs) (hn : (assignEach es X.env).length = n:=by rfl) (hst : (assignEach es X.env).findIdx? (·.1) = none:=by rfl) : SimG X (.Tuple es k pos) (gaTup gs):=
  ⟨fun Γ Γ' σ H ρ p v Q G r e q=>⟨_,pg_tup hc pgs_x hn hst,by
    cases p with
    | tup ps=>
      obtain ⟨a,vs,rfl,ha,na,ra⟩:=r
      exact ⟨a,vs,rfl,SqT.of ha,by rw [<- ra.length]; exact h.len ps Γ Γ' e,h.run Γ Γ' σ H ρ ps vs Q G ra e q⟩
    | _=>cases e⟩⟩
end
abbrev Wt:=List (Nat × Cell)
def wOk (w : Wt) (st : Store) : Prop:=∀ x ∈ w,st[x.1]? = some x.2
theorem wOk_nil (st : Store) : wOk [] st:=fun x h=>by cases h
structure Src (J : It) (items : List PV) (w : Wt) (H : Hp) (ρ : Tk) : Prop where
  stop : ∀ H2 ρ2 st2,Ext H ρ H2 ρ2 -> Rel H2 ρ2 st2 -> wOk w st2 -> J.stop items.length H2
  go : ∀ H2 ρ2 st2,Ext H ρ H2 ρ2 -> Rel H2 ρ2 st2 -> wOk w st2 -> ∀ i,i < items.length -> J.go i H2
  yld : ∀ H2 ρ2 st2,Ext H ρ H2 ρ2 -> Rel H2 ρ2 st2 -> wOk w st2 -> ∀ i p,items[i]? = some p -> ∀ x H3,J.yld i H2 x H3 -> Same H2 H3 /\ Rep H3 ρ2 p x
abbrev MI:=Gam -> Store -> Res (List PV × Wt)
structure SimI (X : Cx) (E : XK) (tg iter : Expr) (mi : MI) : Prop where
  run : ∀ (Γ : Gam) (σ : St) (H : Hp) (ρ : Tk) (st : Store) (P : List PV × Wt -> Store -> Hp -> Tk -> Prop) (R' : It -> Hp -> Prop),Rel H ρ st -> EnvR H ρ Γ σ -> Acc X.mg E H ρ P (mi Γ st) ->
    (∀ iw st1 H1 ρ1 J,mi Γ st = .ok iw st1 -> Ext H ρ H1 ρ1 -> Rel H1 ρ1 st1 -> EnvR H1 ρ1 Γ σ -> wOk iw.2 st1 -> iw.1.length <= sizeLine -> Src J iw.1 iw.2 H1 ρ1 -> P iw st1 H1 ρ1 -> R' J H1) -> WI X tg iter σ H R'
def srcOf (st : Store) : PV -> Option (List PV × Wt)
  | .tup xs=>some (xs,[])
  | .lst xs=>some (xs,[])
  | .fro xs=>some (xs,[])
  | .ref i=>match st[i]? with
    | some (.lst xs)=>some (xs,[(i,.lst xs)])
    | _=>none
  | _=>none
theorem src_at {K : PySem.W.Frag} {H : Hp} {ρ : Tk} {st : Store} {p : PV} {v : V} {xs : List PV} {w : Wt} (R : Rel H ρ st) (r : Rep H ρ p v) (e : srcOf st p = some (xs,w)) :
    wOk w st /\ ∃ (t : Bool) (a : Addr),v = .ref a /\ (t = true -> ∃ ys,p = .tup ys) /\ (t = false -> ∀ ys,p ≠ .tup ys) /\ ∀ H2 ρ2 st2,Ext H ρ H2 ρ2 -> Rel H2 ρ2 st2 -> wOk w st2 -> ∃ vs,SqK K t H2 a vs /\ RepL H2 ρ2 xs vs:=by
  cases p with
  | tup ys=>
    obtain ⟨a,vs,rfl,ha,na,ra⟩:=r
    cases e
    exact ⟨wOk_nil _,true,a,rfl,fun _=>⟨_,rfl⟩,(fun z=>by cases z),fun H2 ρ2 st2 x R2 _=>⟨vs,show SqT K H2 a vs from SqT.of (x.kp ha na),ra.ext x⟩⟩
  | lst ys=>
    obtain ⟨a,vs,rfl,ha,na,ra⟩:=r
    cases e
    exact ⟨wOk_nil _,false,a,rfl,(fun z=>by cases z),(fun _ _ z=>by cases z),fun H2 ρ2 st2 x R2 _=>⟨vs,show SqL K H2 a vs from SqL.of (x.kp ha na),ra.ext x⟩⟩
  | fro ys=>
    obtain ⟨a,vs,rfl,ha,na,ra⟩:=r
    cases e
    refine ⟨wOk_nil _,false,a,rfl,(fun z=>by cases z),(fun _ _ z=>by cases z),fun H2 ρ2 st2 x R2 _=>⟨vs,show SqL K H2 a vs from ?_,ra.ext x⟩⟩
    rcases ha with ha | ⟨o,ha⟩
    · exact .inl (.inl (x.kp ha na))
    · exact .inl (.inr ⟨o,x.kp ha na⟩)
  | ref i=>
    obtain ⟨a,ea,rfl⟩:=r
    simp only [srcOf] at e
    split at e
    · rename_i ys hs
      cases e
      refine ⟨fun x hx=>?_,false,a,rfl,(fun z=>by cases z),(fun _ _ z=>by cases z),fun H2 ρ2 st2 x R2 ok=>?_⟩
      · have : x = (i,.lst xs):=by simpa using hx
        subst this; exact hs
      · have hs2:=ok (i,.lst xs) (by simp)
        obtain ⟨b,vs,f1,f2,f3⟩:=R2.lst hs2
        obtain ⟨t,et⟩:=x.pre
        rw [<- et,List.getElem?_append_left (List.getElem?_eq_some_iff.mp ea).1,ea] at f1
        cases f1
        exact ⟨vs,show SqL K H2 a vs from SqL.of f2,f3⟩
    · cases e
  | _=>cases e
section
variable {X : Cx} {E : XK} {pos : Pos} {tg : Expr} {e : Expr} {m : ME}
def mSeq (m : ME) : MI:=fun Γ st=>(m Γ st).bind fun p st1=>match srcOf st1 p with
  | some (xs,w)=>if xs.length <= lim then .ok (xs,w) st1 else .stuck
  | none=>.stuck
theorem RepL.i {H : Hp} {ρ : Tk} {ps : List PV} {vs : List V} {i : Nat} {p : PV} {x : V} (r : RepL H ρ ps vs) (h : ps[i]? = some p) (h' : vs[i]? = some x) : Rep H ρ p x:=by
  obtain ⟨v,e,q⟩:=r.get h
  rw [h'] at e; cases e
  exact q
theorem src_seq {K : PySem.W.Frag} {H : Hp} {ρ : Tk} {t : Bool} {a : Addr} {xs : List PV} {w : Wt} (h : ∀ H2 ρ2 st2,Ext H ρ H2 ρ2 -> Rel H2 ρ2 st2 -> wOk w st2 -> ∃ vs,SqK K t H2 a vs /\ RepL H2 ρ2 xs vs) : Src (if t = true then Itt K a else Itl K a) xs w H ρ:=by
  cases t with
  | true=>
    rw [if_pos rfl]
    refine ⟨fun H2 ρ2 st2 x R ok=>?_,fun H2 ρ2 st2 x R ok i hi=>?_,fun H2 ρ2 st2 x R ok i p hp y H3 hy=>?_⟩
    · obtain ⟨vs,s,r⟩:=h H2 ρ2 st2 x R ok
      exact ⟨vs,s,by rw [r.length]; exact Nat.le_refl _⟩
    · obtain ⟨vs,s,r⟩:=h H2 ρ2 st2 x R ok
      have hi' : i < vs.length:=by rw [<- r.length]; exact hi
      exact ⟨vs,vs[i],s,List.getElem?_eq_getElem hi'⟩
    · obtain ⟨vs,s,r⟩:=h H2 ρ2 st2 x R ok
      obtain ⟨rfl,hv⟩:=hy
      exact ⟨Same.refl _,r.i hp (hv vs s)⟩
  | false=>
    rw [if_neg Bool.false_ne_true]
    refine ⟨fun H2 ρ2 st2 x R ok=>?_,fun H2 ρ2 st2 x R ok i hi=>?_,fun H2 ρ2 st2 x R ok i p hp y H3 hy=>?_⟩
    · obtain ⟨vs,s,r⟩:=h H2 ρ2 st2 x R ok
      exact ⟨vs,s,by rw [r.length]; exact Nat.le_refl _⟩
    · obtain ⟨vs,s,r⟩:=h H2 ρ2 st2 x R ok
      have hi' : i < vs.length:=by rw [<- r.length]; exact hi
      exact ⟨vs,vs[i],s,List.getElem?_eq_getElem hi'⟩
    · obtain ⟨vs,s,r⟩:=h H2 ρ2 st2 x R ok
      obtain ⟨rfl,hv⟩:=hy
      exact ⟨Same.refl _,r.i hp (hv vs s)⟩
theorem mSeq_in {mg : Str -> Option Value} {H : Hp} {ρ : Tk} {st : Store} {p : PV} {P : List PV × Wt -> Store -> Hp -> Tk -> Prop} (R : Rel H ρ st) (h : Acc mg E H ρ P (match srcOf st p with | some (xs,w)=>if xs.length <= lim then .ok (xs,w) st else .stuck | none=>.stuck)) :
    ∃ xs w,srcOf st p = some (xs,w) /\ xs.length <= lim /\ P (xs,w) st H ρ:=by
  split at h
  · rename_i xs w e
    split at h
    · rename_i hl
      exact ⟨xs,w,e,hl,h H ρ (Ext.refl _ _) R⟩
    · exact h.elim
  · exact h.elim
theorem si_seq (ha : SimE X E e m) : SimI X E tg e (mSeq m):=⟨fun Γ σ H ρ st P R' R G h k=>by
  have hb : Acc X.mg E H ρ _ (m Γ st):=Acc.bind h
  by_cases ht : ∃ ys st1,m Γ st = .ok (.tup ys) st1
  · obtain ⟨ys,st0,e0⟩:=ht
    refine WI.of (pi_tup pe_w) (ha.use' R G hb fun p st1 H1 ρ1 v eq x1 R1 G1 r1 h1=>?_)
    obtain ⟨xs,w,e,hl,hP⟩:=mSeq_in R1 h1
    obtain ⟨ok,t,a,rfl,t1,t2,sq⟩:=src_at (K:=X.K) R1 r1 e
    have ep : p = .tup ys:=by rw [eq] at e0; injection e0
    cases t with
    | false=>exact absurd ep (t2 rfl ys)
    | true=>
      obtain ⟨vs,s,_⟩:=sq H1 ρ1 st1 (Ext.refl _ _) R1 ok
      exact ⟨a,rfl,⟨vs,s⟩,k (xs,w) st1 H1 ρ1 _ (by simp only [mSeq,eq,Res.bind,e,if_pos hl]) x1 R1 G1 ok (le_lim hl) (src_seq sq) hP⟩
  · refine WI.of (pi_list pe_w) (ha.use' R G hb fun p st1 H1 ρ1 v eq x1 R1 G1 r1 h1=>?_)
    obtain ⟨xs,w,e,hl,hP⟩:=mSeq_in R1 h1
    obtain ⟨ok,t,a,rfl,t1,t2,sq⟩:=src_at (K:=X.K) R1 r1 e
    cases t with
    | true=>
      obtain ⟨ys,rfl⟩:=t1 rfl
      exact absurd ⟨ys,st1,eq⟩ ht
    | false=>
      obtain ⟨vs,s,_⟩:=sq H1 ρ1 st1 (Ext.refl _ _) R1 ok
      exact ⟨a,rfl,⟨vs,s⟩,k (xs,w) st1 H1 ρ1 _ (by simp only [mSeq,eq,Res.bind,e,if_pos hl]) x1 R1 G1 ok (le_lim hl) (src_seq sq) hP⟩⟩
def rangeI (lo : Int) (n : Nat) : List PV:=(List.range n).map fun (k : Nat)=>PV.int (lo + (k : Int))
theorem src_range {H : Hp} {ρ : Tk} {lo : Int} {n : Nat} : Src (Itr lo n) (rangeI lo n) [] H ρ:=by
  have hl : (rangeI lo n).length = n:=by unfold rangeI; rw [List.length_map,List.length_range]
  refine ⟨fun H2 ρ2 st2 x R ok=>?_,fun H2 ρ2 st2 x R ok i hi=>?_,fun H2 ρ2 st2 x R ok i p hp y H3 hy=>?_⟩
  · show n <= (rangeI lo n).length
    omega
  · show i < n
    omega
  · obtain ⟨rfl,rfl⟩:=hy
    have hi : i < n:=by rw [<- hl]; exact (List.getElem?_eq_some_iff.mp hp).1
    unfold rangeI at hp
    rw [List.getElem?_map,List.getElem?_range hi] at hp
    cases hp
    exact ⟨Same.refl _,rfl⟩
def mRange1 (mr : Gam -> Store -> Res (List PV)) : MI:=fun Γ st=>(mr Γ st).bind fun ps st1=>match ps with
  | [.int j]=>if -(lim : Int) <= j /\ j <= lim then .ok (rangeI 0 j.toNat,[]) st1 else .stuck
  | _=>.stuck
variable {a b : Expr} {mr : Gam -> Store -> Res (List PV)} {p : Pos}
theorem rangeI_len (lo : Int) (n : Nat) : (rangeI lo n).length = n:=by unfold rangeI; rw [List.length_map,List.length_range]
theorem si_range1 (hg : Gl X "range") (hm : X.mg "range" = none) (ha : SimA X E [a] mr) (hs : starEach [a] X.env = [(false,eval a X.env)]:=by rfl) : SimI X E tg (.Call (.Name "range" p) [a] [] pos) (mRange1 mr):=⟨fun Γ σ H ρ st P R' R G h k=>by
  refine WI.of (pi_range1 hg hm pa_w hs) (ha.use' R G h.bind fun ps st1 H1 ρ1 vs eq x1 R1 G1 r1 h1=>?_)
  split at h1
  · rename_i j
    split at h1
    · rename_i hj
      obtain ⟨v,rfl,rv⟩:=repL_one r1
      cases rv
      have hl : (lim : Int) = 1000000:=rfl
      refine ⟨j,rfl,by omega,by omega,k (rangeI 0 j.toNat,[]) st1 H1 ρ1 _ (by simp only [mRange1,eq,Res.bind,if_pos hj]) x1 R1 G1 (wOk_nil _) ?_ src_range (h1 H1 ρ1 (Ext.refl _ _) R1)⟩
      show (rangeI 0 j.toNat).length <= sizeLine
      rw [rangeI_len]
      exact le_lim (by omega)
    · exact h1.elim
  · exact h1.elim⟩
def enumT : Nat -> List PV -> List PV
  | _,[]=>[]
  | n,x :: xs=>.tup [.int n,x] :: enumT (n + 1) xs
theorem enumT_len : ∀ (n : Nat) (xs : List PV),(enumT n xs).length = xs.length
  | _,[]=>rfl
  | n,x :: xs=>by rw [enumT,List.length_cons,enumT_len (n + 1) xs,List.length_cons]
theorem enumT_get : ∀ {n : Nat} {xs : List PV} {i : Nat} {p : PV},(enumT n xs)[i]? = some p -> ∃ x,p = .tup [.int (n + i : Nat),x] /\ xs[i]? = some x
  | n,[],i,p,h=>by simp [enumT] at h
  | n,x :: xs,0,p,h=>by
    simp [enumT] at h
    exact ⟨x,h.symm,rfl⟩
  | n,x :: xs,i + 1,p,h=>by
    rw [enumT,List.getElem?_cons_succ] at h
    obtain ⟨y,e1,e2⟩:=enumT_get h
    exact ⟨y,by rw [e1,show n + 1 + i = n + (i + 1) by omega],by simpa using e2⟩
def mEnum (mr : Gam -> Store -> Res (List PV)) : MI:=fun Γ st=>(mr Γ st).bind fun ps st1=>match ps with
  | [p]=>match srcOf st1 p with
    | some (xs,w)=>if xs.length <= lim then .ok (enumT 0 xs,w) st1 else .stuck
    | none=>.stuck
  | _=>.stuck
theorem src_enum {K : PySem.W.Frag} {H : Hp} {ρ : Tk} {t : Bool} {a : Addr} {xs : List PV} {w : Wt} (h : ∀ H2 ρ2 st2,Ext H ρ H2 ρ2 -> Rel H2 ρ2 st2 -> wOk w st2 -> ∃ vs,SqK K t H2 a vs /\ RepL H2 ρ2 xs vs) : Src (Ite K t a) (enumT 0 xs) w H ρ:=by
  refine ⟨fun H2 ρ2 st2 x R ok=>?_,fun H2 ρ2 st2 x R ok i hi=>?_,fun H2 ρ2 st2 x R ok i p hp y H3 hy=>?_⟩
  · obtain ⟨vs,s,r⟩:=h H2 ρ2 st2 x R ok
    exact ⟨vs,s,by rw [enumT_len,r.length]; exact Nat.le_refl _⟩
  · obtain ⟨vs,s,r⟩:=h H2 ρ2 st2 x R ok
    rw [enumT_len,r.length] at hi
    exact ⟨vs,vs[i],s,List.getElem?_eq_getElem hi⟩
  · obtain ⟨vs,s,r⟩:=h H2 ρ2 st2 x R ok
    obtain ⟨q,u,hn,rfl,rfl,hv⟩:=hy
    have e1:=hv vs s
    obtain ⟨xp,rfl,p1⟩:=enumT_get hp
    have sm : Same H2 (upd H2 q (.tup [.int i,u])):=same_new hn
    exact ⟨sm,q,[.int i,u],rfl,upd_same,R.fresh hn,RepL.cons (by rw [Nat.zero_add]; rfl) (RepL.cons ((r.i p1 e1).ext (Ext.same sm)) RepL.nil)⟩
theorem si_enum {elts : List Expr} {kt : Nat} {tp : Pos} (hg : Gl X "enumerate") (hm : X.mg "enumerate" = none) (ha : SimA X E [a] mr) (hs : starEach [a] X.env = [(false,eval a X.env)]:=by rfl) :
    SimI X E (.Tuple elts kt tp) (.Call (.Name "enumerate" p) [a] [] pos) (mEnum mr):=⟨fun Γ σ H ρ st P R' R G h k=>by
  have hb : Acc X.mg E H ρ _ (mr Γ st):=Acc.bind h
  have main : ∀ t1 : Bool,(∀ p st1,mr Γ st = .ok [p] st1 -> (t1 = true <-> ∃ ys,p = .tup ys)) -> WI X (.Tuple elts kt tp) (.Call (.Name "enumerate" p) [a] [] pos) σ H R':=fun t1 ht=>by
    refine WI.of (pi_enum t1 hg hm pa_w hs) (ha.use' R G hb fun ps st1 H1 ρ1 vs eq x1 R1 G1 r1 h1=>?_)
    split at h1
    · rename_i p'
      split at h1
      · rename_i xs w e1
        split at h1
        · rename_i hl
          obtain ⟨v,rfl,rv⟩:=repL_one r1
          obtain ⟨ok1,b1,a1,rfl,z1,z1',sq1⟩:=src_at (K:=X.K) R1 rv e1
          have g1:=ht _ _ eq
          have eb1 : b1 = t1:=by
            cases b1 with
            | true=>exact (g1.mpr (z1 rfl)).symm
            | false=>
              cases t1 with
              | false=>rfl
              | true=>obtain ⟨ys,e⟩:=g1.mp rfl; exact absurd e (z1' rfl ys)
          subst eb1
          obtain ⟨vs1,s1,_⟩:=sq1 H1 ρ1 st1 (Ext.refl _ _) R1 ok1
          refine ⟨a1,vs1,rfl,s1,k (enumT 0 xs,w) st1 H1 ρ1 _ (by simp only [mEnum,eq,Res.bind,e1,if_pos hl]) x1 R1 G1 ok1 ?_ (src_enum sq1) (h1 H1 ρ1 (Ext.refl _ _) R1)⟩
          show (enumT 0 xs).length <= sizeLine
          rw [enumT_len]
          exact le_lim hl
        · exact h1.elim
      · exact h1.elim
    · exact h1.elim
  have tt : ∀ p : PV,∃ t : Bool,t = true <-> ∃ ys,p = .tup ys:=fun p=>by
    cases p with
    | tup ys=>exact ⟨true,fun _=>⟨ys,rfl⟩,fun _=>rfl⟩
    | _=>exact ⟨false,⟨fun z=>(by cases z),fun ⟨_,z⟩=>(by cases z)⟩⟩
  by_cases hz : ∃ p st1,mr Γ st = .ok [p] st1
  · obtain ⟨p0,st0,e0⟩:=hz
    obtain ⟨t1,g1⟩:=tt p0
    refine main t1 fun p st1 e=>?_
    rw [e0] at e; cases e
    exact g1
  · exact main true fun p st1 e=>absurd ⟨p,st1,e⟩ hz⟩
end
end Sm
namespace Sm
open PySem PySem.Spec L2
abbrev ML:=Gam -> Store -> Res (List PV)
structure SimN (X : Cx) (E : XK) (e : Expr) (m : ML) : Prop where
  run : ∀ (Γ : Gam) (σ : St) (H : Hp) (ρ : Tk) (st : Store) (P : List PV -> Store -> Hp -> Tk -> Prop) (Q : VK),Rel H ρ st -> EnvR H ρ Γ σ -> Acc X.mg E H ρ P (m Γ st) ->
    (∀ ps st1 H1 ρ1 a vs,m Γ st = .ok ps st1 -> Ext H ρ H1 ρ1 -> Rel H1 ρ1 st1 -> a ∈ ρ1.hid -> H a = none -> H1 a = some (.lst vs) -> RepL H1 ρ1 ps vs -> Q (.ref a) H1) -> WE X e σ H Q
def mVal (m : ML) : ME:=fun Γ st=>(m Γ st).bind fun ps st1=>.ok (.lst ps) st1
def mTrk (m : ML) : ME:=fun Γ st=>(m Γ st).bind fun ps st1=>.ok (.ref st1.length) (st1 ++ [.lst ps])
section
variable {H0 H : Hp} {ρ0 ρ : Tk} {st : Store} {a : Addr} {ps : List PV} {vs : List V}
theorem out_val (R0 : Rel H0 ρ0 st) (x : Ext H0 ρ0 H ρ) {st1 : Store} (R : Rel H ρ st1) (hm : a ∈ ρ.hid) (hn : H0 a = none) (ha : H a = some (.lst vs)) (r : RepL H ρ ps vs) :
    Ext H0 ρ0 H ⟨ρ.tr,ρ0.hid⟩ /\ Rel H ⟨ρ.tr,ρ0.hid⟩ st1 /\ Rep H ⟨ρ.tr,ρ0.hid⟩ (.lst ps) (.ref a):=
  ⟨x.unhide,R.unhide x.hidM,a,vs,rfl,ha,(fun z=>by
    rcases z with z | z
    · exact R.ap a hm z
    · obtain ⟨o,e,_⟩:=R0.hd a z
      rw [hn] at e; cases e),r.unhide x.hidM⟩
mutual
theorem Rep.trk {b : Addr} {hs : List Addr} (hb : b ∈ ρ.hid) (hh : ∀ c,c ∈ hs -> c ∈ ρ.hid) : ∀ {p : PV} {v : V},Rep H ρ p v -> Rep H ⟨ρ.tr ++ [b],hs⟩ p v
  | .non,_,r=>r
  | .bl _,_,r=>r
  | .int _,_,r=>r
  | .str _,_,r=>r
  | .tup ps,v,⟨c,vs,e,s,n,r⟩=>⟨c,vs,e,s,fun z=>by
      rcases z with z | z
      · rcases List.mem_append.mp z with z | z
        · exact n (.inl z)
        · have : c = b:=by simpa using z
          subst this; exact n (.inr hb)
      · exact n (.inr (hh _ z)),RepL.trk hb hh r⟩
  | .lst ps,v,⟨c,vs,e,s,n,r⟩=>⟨c,vs,e,s,fun z=>by
      rcases z with z | z
      · rcases List.mem_append.mp z with z | z
        · exact n (.inl z)
        · have : c = b:=by simpa using z
          subst this; exact n (.inr hb)
      · exact n (.inr (hh _ z)),RepL.trk hb hh r⟩
  | .fro ps,v,⟨c,vs,e,s,n,r⟩=>⟨c,vs,e,s,fun z=>by
      rcases z with z | z
      · rcases List.mem_append.mp z with z | z
        · exact n (.inl z)
        · have : c = b:=by simpa using z
          subst this; exact n (.inr hb)
      · exact n (.inr (hh _ z)),RepL.trk hb hh r⟩
  | .ref i,v,⟨c,e,e2⟩=>⟨c,by show (ρ.tr ++ [b])[i]? = some c; rw [List.getElem?_append_left (List.getElem?_eq_some_iff.mp e).1]; exact e,e2⟩
  | .dic,v,⟨c,e,s,n⟩=>⟨c,e,s,fun z=>by
      rcases z with z | z
      · rcases List.mem_append.mp z with z | z
        · exact n (.inl z)
        · have : c = b:=by simpa using z
          subst this; exact n (.inr hb)
      · exact n (.inr (hh _ z))⟩
theorem RepL.trk {b : Addr} {hs : List Addr} (hb : b ∈ ρ.hid) (hh : ∀ c,c ∈ hs -> c ∈ ρ.hid) : ∀ {ps : List PV} {vs : List V},RepL H ρ ps vs -> RepL H ⟨ρ.tr ++ [b],hs⟩ ps vs
  | [],_,r=>r
  | p :: ps,_,⟨v,t,e,r1,r2⟩=>⟨v,t,e,Rep.trk hb hh r1,RepL.trk hb hh r2⟩
end
theorem out_trk (R0 : Rel H0 ρ0 st) (x : Ext H0 ρ0 H ρ) {st1 : Store} (R : Rel H ρ st1) (hm : a ∈ ρ.hid) (hn : H0 a = none) (ha : H a = some (.lst vs)) (r : RepL H ρ ps vs) :
    Ext H0 ρ0 H ⟨ρ.tr ++ [a],ρ0.hid⟩ /\ Rel H ⟨ρ.tr ++ [a],ρ0.hid⟩ (st1 ++ [.lst ps]) /\ Rep H ⟨ρ.tr ++ [a],ρ0.hid⟩ (.ref st1.length) (.ref a):=by
  have na0 : a ∉ ρ0.hid:=fun z=>by
    obtain ⟨o,e,_⟩:=R0.hd a z
    rw [hn] at e; cases e
  refine ⟨⟨x.pre.trans (List.prefix_append _ _),fun _ h=>h,fun _ h=>.inl h,x.keep,fun b hb=>?_,x.old,x.frz⟩,⟨?_,?_,fun b hb=>R.hd b (x.hidM b hb),fun b hb z=>?_,fun i b c h1 h2=>?_⟩,a,?_,rfl⟩
  · rcases List.mem_append.mp hb with z | z
    · exact x.new b z
    · have : b = a:=by simpa using z
      subst this; exact .inr hn
  · show (ρ.tr ++ [a]).length = _
    rw [List.length_append,List.length_append,R.len]; rfl
  · show (ρ.tr ++ [a]).Nodup
    refine List.nodup_append.mpr ⟨R.nd,by simp,fun b hb c hc e=>?_⟩
    have : c = a:=by simpa using hc
    subst this; subst e
    exact R.ap b hm hb
  · rcases List.mem_append.mp z with z | z
    · exact R.ap b (x.hidM b hb) z
    · have : b = a:=by simpa using z
      subst this; exact na0 hb
  · have h1 : (ρ.tr ++ [a])[i]? = some b:=h1
    by_cases hi : i < st1.length
    · rw [List.getElem?_append_left (by rw [R.len]; exact hi)] at h1
      rw [List.getElem?_append_left hi] at h2
      have q:=R.cell i b c h1 h2
      cases c with
      | lst qs=>
        obtain ⟨us,e1,e2⟩:=q
        exact ⟨us,e1,e2.trk hm x.hidM⟩
      | dic qs=>
        obtain ⟨us,e1,e2⟩:=q
        exact ⟨us,e1,e2.1,e2.2.trk hm x.hidM⟩
      | dtp qs=>
        obtain ⟨us,e1,e2⟩:=q
        exact ⟨us,e1,e2.1,e2.2.trk hm x.hidM⟩
      | frd qs=>
        obtain ⟨us,e1,e2⟩:=q
        exact ⟨us,e1,e2.1,e2.2.trk hm x.hidM⟩
      | obj C qs=>
        obtain ⟨us,e1,e2⟩:=q
        exact ⟨us,e1,e2.1,e2.2.trk hm x.hidM⟩
    · rw [List.getElem?_append_right (by rw [R.len]; omega)] at h1
      rw [List.getElem?_append_right (by omega)] at h2
      have e0 : i - st1.length = 0:=by
        rcases Nat.eq_zero_or_pos (i - st1.length) with z | z
        · exact z
        · rw [List.getElem?_eq_none (by simp; omega)] at h2; cases h2
      rw [R.len,e0] at h1
      rw [e0] at h2
      simp at h1 h2
      subst h1; subst h2
      exact ⟨vs,ha,r.trk hm x.hidM⟩
  · show (ρ.tr ++ [a])[st1.length]? = some a
    rw [<- R.len,List.getElem?_append_right (Nat.le_refl _),Nat.sub_self]; rfl
end
section
variable {X : Cx} {E : XK} {pos : Pos} {e : Expr} {m : ML}
theorem se_val (h : SimN X E e m) : SimE X E e (mVal m):=⟨fun Γ σ H ρ st Q R G hq=>h.run Γ σ H ρ st _ Q R G hq.bind fun ps st1 H1 ρ1 a vs eq x R1 hm hn ha r=>by
  obtain ⟨x2,R2,r2⟩:=out_val R x R1 hm hn ha r
  unfold mVal at hq
  rw [eq] at hq
  exact hq _ _ x2 R2 _ r2⟩
theorem se_trk (h : SimN X E e m) : SimE X E e (mTrk m):=⟨fun Γ σ H ρ st Q R G hq=>h.run Γ σ H ρ st _ Q R G hq.bind fun ps st1 H1 ρ1 a vs eq x R1 hm hn ha r=>by
  obtain ⟨x2,R2,r2⟩:=out_trk R x R1 hm hn ha r
  unfold mTrk at hq
  rw [eq] at hq
  exact hq _ _ x2 R2 _ r2⟩
variable {es : List Expr} {mr : Gam -> Store -> Res (List PV)} {a b : Expr} {ma mb : ME}
theorem new_at {H1 : Hp} {ρ1 : Tk} {st1 : Store} {H : Hp} {ρ : Tk} {Q : VK} {ps : List PV} {vs : List V} (x : Ext H ρ H1 ρ1) (R1 : Rel H1 ρ1 st1) (r : RepL H1 ρ1 ps vs)
    (k : ∀ H1 ρ1 a vs,Ext H ρ H1 ρ1 -> Rel H1 ρ1 st1 -> a ∈ ρ1.hid -> H a = none -> H1 a = some (.lst vs) -> RepL H1 ρ1 ps vs -> Q (.ref a) H1) : ∀ p,H1 p = none -> Q (.ref p) (upd H1 p (.lst vs)):=fun p hp=>by
  refine k _ (ρ1.hide p) p vs (x.trans (Ext.hide hp)) (R1.hide hp) List.mem_cons_self ?_ upd_same (r.hide hp)
  cases e : H p with
  | none=>rfl
  | some o=>
    obtain ⟨o',e'⟩:=x.old p o e
    rw [hp] at e'; cases e'
def mLstN (mr : Gam -> Store -> Res (List PV)) : ML:=fun Γ st=>(mr Γ st).bind fun ps st1=>if ps.length <= lim then .ok ps st1 else .stuck
theorem sn_lst (h : SimA X E es mr) : SimN X E (.List es pos) (mLstN mr):=
  ⟨fun Γ σ H ρ st P Q R G hq k=>WE.of (pe_lst pa_w) (h.use' R G hq.bind fun ps st1 H1 ρ1 vs eq x1 R1 G1 r1 h1=>by
    by_cases hl : ps.length <= lim
    · refine ⟨by rw [<- r1.length]; exact le_lim hl,new_at x1 R1 r1 fun H2 ρ2 a us=>k ps st1 H2 ρ2 a us ?_⟩
      unfold mLstN
      rw [eq]
      exact if_pos hl
    · rw [if_neg hl] at h1; exact h1.elim)⟩
def mListN (ma : ME) : ML:=fun Γ st=>(ma Γ st).bind fun p st1=>match seqOf st1 p with
  | some xs=>.ok xs st1
  | none=>.stuck
theorem sn_list {p : Pos} (ha : SimE X E a ma) (hg : Gl X "list") (hm : X.mg "list" = none) (he : starEach [a] X.env = (false,eval a X.env) :: starEach [] X.env:=by rfl) : SimN X E (.Call (.Name "list" p) [a] [] pos) (mListN ma):=
  ⟨fun Γ σ H ρ st P Q R G hq k=>WE.of (pe_callTy call_list_of hg hm boot_list (pa_cons pe_w pa_nil he) (by decide) (by decide) he rfl) (ha.use' R G hq.bind fun q st1 H1 ρ1 v eq x1 R1 G1 r1 h1=>by
    split at h1
    · rename_i xs e
      obtain ⟨t,b,vs,rfl,hq2,ra⟩:=seq_at (K:=X.K) R1 r1 e
      refine ⟨b,vs,rfl,sqK_or hq2,new_at x1 R1 ra fun H2 ρ2 a us=>k xs st1 H2 ρ2 a us ?_⟩
      unfold mListN
      rw [eq]
      show (match seqOf st1 q with | some xs=>Res.ok xs st1 | none=>.stuck) = _
      rw [e]
    · exact h1.elim)⟩
def oAddN (st : Store) (p q : PV) : Res (List PV):=match lstOf st p,lstOf st q with
  | some xs,some ys=>if xs.length + ys.length <= lim then .ok (xs ++ ys) st else .stuck
  | _,_=>.stuck
def oRepN (st : Store) (p q : PV) : Res (List PV):=match lstOf st p,q with
  | some xs,.int b=>if -(2 ^ 63) <= b /\ b < 2 ^ 63 /\ xs.length * b.toNat <= lim then .ok (List.replicate b.toNat xs).flatten st else .stuck
  | _,_=>.stuck
def mRepN (ma mb : ME) : ML:=fun Γ st=>(ma Γ st).bind fun x st1=>(mb Γ st1).bind fun y st2=>oRepN st2 x y
theorem sn_rep (ha : SimE X E a ma) (hb : SimE X E b mb) : SimN X E (.BinOp a .Mult b pos) (mRepN ma mb):=
  ⟨fun Γ σ H ρ st P Q R G hq k=>WE.of (pe_op op_rep pe_w pe_w) (ha.use' R G hq.bind fun p st1 H1 ρ1 v e1 x1 R1 G1 r1 h1=>hb.use' R1 G1 h1.bind fun q st2 H2 ρ2 u e2 x2 R2 G2 r2 h2=>by
    unfold oRepN at h2
    split at h2
    · rename_i xs bb f1
      split at h2
      · rename_i hl
        cases r2
        obtain ⟨c,vs,rfl,hc,rc⟩:=lst_at R2 (r1.ext x2) f1
        refine ⟨c,bb,vs,rfl,rfl,hc,hl.1,hl.2.1,by rw [<- rc.length]; exact le_lim hl.2.2,new_at (x1.trans x2) R2 (rc.rep _) fun H3 ρ3 a ws=>k _ st2 H3 ρ3 a ws ?_⟩
        unfold mRepN oRepN
        rw [e1]
        show (mb Γ st1).bind _ = _
        rw [e2]
        show (match lstOf st2 p,PV.int bb with | some xs,.int b=>if -(2 ^ 63) <= b /\ b < 2 ^ 63 /\ xs.length * b.toNat <= lim then Res.ok (List.replicate b.toNat xs).flatten st2 else .stuck | _,_=>.stuck) = _
        rw [f1]
        exact if_pos hl
      · exact h2.elim
    · exact h2.elim)⟩
end
end Sm
namespace Sm
open PySem PySem.Spec L2
def capG (cap : List (Option Nat)) (Γ : Gam) : Gam:=cap.map fun c=>c.bind fun j=>(Γ[j]?).join
theorem EnvR.cap {H : Hp} {ρ : Tk} {Γ : Gam} {σ : St} (h : EnvR H ρ Γ σ) (cap : List (Option Nat)) : EnvR H ρ (capG cap Γ) (capOf cap σ):=by
  refine ⟨by unfold capG capOf; rw [List.length_map,List.length_map],fun i p e=>?_⟩
  unfold capG at e
  unfold capOf
  rw [List.getElem?_map] at e ⊢
  cases q : cap[i]? with
  | none=>rw [q] at e; cases e
  | some c=>
    rw [q] at e
    cases c with
    | none=>cases e
    | some j=>
      have e' : (Γ[j]?).join = some p:=Option.some.inj e
      cases r : Γ[j]? with
      | none=>rw [r] at e'; cases e'
      | some o=>
        rw [r] at e'
        have : o = some p:=e'
        subst this
        obtain ⟨v,e1,e2⟩:=h.2 j p r
        exact ⟨v,by show some ((σ[j]?).join) = some (some v); rw [e1]; rfl,e2⟩
def FreeT (cap : List (Option Nat)) (ga : GA) : Prop:=∀ Γ p Γ1,ga p (capG cap Γ) = some Γ1 -> Γ1.length = (capG cap Γ).length /\ ∀ (i : Nat) (q : PV),(capG cap Γ)[i]? = some (some q) -> Γ1[i]? = some (some q)
theorem capG_none {cap : List (Option Nat)} {i : Nat} (h : cap[i]? = some none) (Γ : Gam) : (capG cap Γ)[i]? = some none:=by
  unfold capG
  rw [List.getElem?_map,h]; rfl
theorem free_name {cap : List (Option Nat)} {i : Nat} (h : cap[i]? = some none:=by rfl) : FreeT cap (gaName i):=fun Γ p Γ1 e=>by
  cases e
  refine ⟨List.length_set ..,fun j q hj=>?_⟩
  rw [List.getElem?_set_ne fun z=>?_]
  · exact hj
  · subst z; rw [capG_none h] at hj; cases hj
open Classical in
def compG (ga : GA) (mt : MT) (me : ME) (w : Wt) (Γ0 : Gam) : List PV -> Store -> Res (List PV)
  | [],st=>if wOk w st then .ok [] st else .stuck
  | x :: xs,st=>if wOk w st then (match ga x Γ0 with
    | none=>.stuck
    | some Γ1=>(mt Γ1 st).bind fun b st1=>if b = true then (me Γ1 st1).bind fun y st2=>(compG ga mt me w Γ0 xs st2).bind fun ys st3=>.ok (y :: ys) st3 else compG ga mt me w Γ0 xs st1) else .stuck
def noX {α : Type} : Res α -> Res α
  | .exc _ _=>.stuck
  | r=>r
def mCompN (cap : List (Option Nat)) (ga : GA) (mi : MI) (mt : MT) (me : ME) : ML:=fun Γ st=>(mi Γ st).bind fun iw st1=>noX (compG ga mt me iw.2 (capG cap Γ) iw.1 st1)
structure SimTs (X : Cx) (ifs : List Expr) (m : MT) : Prop where
  run : ∀ (Γ : Gam) (σ : St) (H : Hp) (ρ : Tk) (st : Store) (P : Bool -> Store -> Hp -> Tk -> Prop) (Q : Bool -> Hp -> Prop),Rel H ρ st -> EnvR H ρ Γ σ -> Acc X.mg E0 H ρ P (m Γ st) ->
    (∀ b st1 H1 ρ1,m Γ st = .ok b st1 -> Ext H ρ H1 ρ1 -> Rel H1 ρ1 st1 -> EnvR H1 ρ1 Γ σ -> Q b H1) -> ∃ t,PTs X ifs t /\ t σ H Q
def mTrue : MT:=fun _ st=>.ok true st
theorem sts_nil {X : Cx} : SimTs X [] mTrue:=⟨fun Γ σ H ρ st P Q R G h k=>⟨_,pts_nil,k true st H ρ rfl (Ext.refl _ _) R G⟩⟩
theorem sts_one {X : Cx} {c : Expr} {m : MT} (hc : SimT X E0 c m) : SimTs X [c] m:=⟨fun Γ σ H ρ st P Q R G h k=>⟨_,pts_one pt_w,hc.use' R G h fun b st1 H1 ρ1 e x1 R1 G1 p=>k b st1 H1 ρ1 e x1 R1 G1⟩⟩
theorem acc_noX {α : Type} {mg : Str -> Option Value} {E E' : XK} {H : Hp} {ρ : Tk} {P : α -> Store -> Hp -> Tk -> Prop} {r : Res α} (h : Acc mg E H ρ P (noX r)) : Acc mg E' H ρ P r:=by
  cases r with
  | ok a st=>exact h
  | exc x st=>exact h.elim
  | stuck=>exact h
theorem Res.assoc {α β γ : Type} (r : Res α) (f : α -> Store -> Res β) (g : β -> Store -> Res γ) : (r.bind f).bind g = r.bind fun a st=>(f a st).bind g:=by cases r <;> rfl
theorem Acc.assoc {α β γ : Type} {mg : Str -> Option Value} {E : XK} {H : Hp} {ρ : Tk} {P : γ -> Store -> Hp -> Tk -> Prop} {r : Res α} {f : α -> Store -> Res β} {g : β -> Store -> Res γ} (h : Acc mg E H ρ P ((r.bind f).bind g)) : Acc mg E H ρ P (r.bind fun a st=>(f a st).bind g):=by
  rw [<- Res.assoc]; exact h
theorem EnvR.le {H : Hp} {ρ : Tk} {Γ Γ' : Gam} {σ : St} (h : EnvR H ρ Γ' σ) (hl : Γ.length = σ.length) (k : ∀ (i : Nat) (q : PV),Γ[i]? = some (some q) -> Γ'[i]? = some (some q)) : EnvR H ρ Γ σ:=⟨hl,fun i p e=>h.2 i p (k i p e)⟩
section
variable {X : Cx} {E : XK} {pos : Pos} {tg iter elt : Expr} {ifs : List Expr} {N N' : List Str} {sc scE : Scope} {cap : List (Option Nat)} {ga : GA} {mi : MI} {mt : MT} {me : ME}
def aE (X : Cx) (N' : List Str) (sc : Scope) (e : Expr) : TE:=fun σ H Q=>∀ cl C s0 H0 ex,WE (blkC X N' sc cl C s0 H0 ex) e σ H Q
def aG (X : Cx) (N' : List Str) (sc : Scope) (tg : Expr) : TG:=fun v σ H Q=>∀ cl C s0 H0 ex,WGx (blkC X N' sc cl C s0 H0 ex) tg v σ H Q
def aT (X : Cx) (N' : List Str) (sc : Scope) (ifs : List Expr) : TT:=fun σ H Q=>∀ cl C s0 H0 ex,∃ t,PTs (blkC X N' sc cl C s0 H0 ex) ifs t /\ t σ H Q
theorem comp_body {Γ : Gam} {σ : St} {H1 : Hp} {ρ1 : Tk} {st1 : Store} {J : It} {items : List PV} {w : Wt} {Q : VK} {P : List PV -> Store -> Hp -> Tk -> Prop} (hg : ∀ cl C s0 H0 ex,SimG (blkC X N' sc cl C s0 H0 ex) tg ga) (he : ∀ cl C s0 H0 ex,SimE (blkC X N' sc cl C s0 H0 ex) E0 elt me) (ht : ∀ cl C s0 H0 ex,SimTs (blkC X N' sc cl C s0 H0 ex) ifs mt)
    (hf : FreeT cap ga) (R1 : Rel H1 ρ1 st1) (G1 : EnvR H1 ρ1 Γ σ) (src : Src J items w H1 ρ1) (hlen : items.length <= sizeLine) (h : Acc X.mg E0 H1 ρ1 P (compG ga mt me w (capG cap Γ) items st1))
    (k : ∀ ys st2 H2 ρ2 acc vs,compG ga mt me w (capG cap Γ) items st1 = .ok ys st2 -> Ext H1 ρ1 H2 ρ2 -> Rel H2 ρ2 st2 -> acc ∈ ρ2.hid -> H1 acc = none -> H2 acc = some (.lst vs) -> RepL H2 ρ2 ys vs -> Q (.ref acc) H2) : compBodyT J cap (aG X N' sc tg) (aT X N' sc ifs) (aE X N' sc elt) σ H1 Q:=by
  intro acc hacc
  let W : Nat -> Nat -> List V -> St -> Hp -> Prop:=fun i m vs σ' H'=>m = items.length - i /\ i <= items.length /\ vs.length <= i /\ ∃ ρ' st' ys,Ext H1 ρ1 H' ρ' /\ acc ∈ ρ'.hid /\ Rel H' ρ' st' /\ EnvR H' ρ' (capG cap Γ) σ' /\ H' acc = some (.lst vs) /\ RepL H' ρ' ys vs /\
    compG ga mt me w (capG cap Γ) items st1 = (compG ga mt me w (capG cap Γ) (items.drop i) st').bind fun zs st3=>.ok (ys ++ zs) st3
  refine ⟨W,⟨_,rfl,Nat.zero_le _,Nat.le_refl _,ρ1.hide acc,st1,[],Ext.hide hacc,List.mem_cons_self,R1.hide hacc,(G1.cap cap).hide hacc,upd_same,rfl,?_⟩,?_⟩
  · rw [List.drop_zero]
    cases r : compG ga mt me w (capG cap Γ) items st1 with
    | ok zs st3=>rfl
    | exc x st3=>rfl
    | stuck=>rfl
  rintro i m vs σ' H' ⟨hm,hi,hvl,ρ',st',ys,x,hmem,R',G',ha,ry,hq⟩
  have hA : Acc X.mg E0 H1 ρ1 P ((compG ga mt me w (capG cap Γ) (items.drop i) st').bind fun zs st3=>.ok (ys ++ zs) st3):=by rw [<- hq]; exact h
  refine ⟨ha,?_⟩
  by_cases hlt : i < items.length
  · right
    have hd : items.drop i = items[i] :: items.drop (i + 1):=List.drop_eq_getElem_cons hlt
    rw [hd,compG] at hA hq
    by_cases hw : wOk w st'
    · rw [if_pos hw] at hA hq
      refine ⟨src.go H' _ st' x R' hw i hlt,by omega,fun y H2 hy=>?_⟩
      obtain ⟨sm,ry2⟩:=src.yld H' _ st' x R' hw i _ (List.getElem?_eq_getElem hlt) y H2 hy
      cases eg : ga items[i] (capG cap Γ) with
      | none=>rw [eg] at hA; exact hA.elim
      | some Γ1=>
        rw [eg] at hA hq
        have x2 : Ext H' ρ' H2 ρ':=Ext.same sm
        have R2:=R'.same sm
        intro cl C s0 H0 ex
        refine (hg cl C s0 H0 ex).run (capG cap Γ) Γ1 σ' H2 ρ' _ y _ (G'.ext x2) ry2 eg fun σ3 G3=>?_
        intro cl C s0 H0 ex
        have hA2:=Acc.later hA (x.trans x2)
        refine (ht cl C s0 H0 ex).run Γ1 σ3 H2 ρ' st' _ _ R2 G3 (Acc.bind (Acc.assoc hA2)) fun b st4 H4 ρ4 e4 x4 R4 G4=>?_
        simp only [e4,Res.bind] at hA hq
        have G0 : ∀ {H'' : Hp} {ρ'' : Tk},EnvR H'' ρ'' Γ1 σ3 -> EnvR H'' ρ'' (capG cap Γ) σ3:=fun {H'' ρ''} g=>g.le (by
          rw [<- G3.1]
          exact (hf Γ _ Γ1 eg).1.symm) (hf Γ _ Γ1 eg).2
        have x14 : Ext H1 ρ1 H4 ρ4:=x.trans (x2.trans x4)
        have hm4 : acc ∈ ρ4.hid:=x4.hidM acc hmem
        have na : acc ∉ ρ'.tr:=R'.ap acc hmem
        have ha4 : H4 acc = some (.lst vs):=x4.keep acc _ (sm acc _ ha) na
        have ry4 : RepL H4 ρ4 ys vs:=ry.ext (x2.trans x4)
        cases b with
        | false=>
          rw [if_neg Bool.false_ne_true] at hA hq ⊢
          exact ⟨_,show items.length - (i + 1) < m by omega,rfl,hlt,by omega,ρ4,st4,ys,x14,hm4,R4,G0 G4,ha4,ry4,hq⟩
        | true=>
          rw [if_pos rfl] at hA hq ⊢
          intro cl C s0 H0 ex
          have hA4:=Acc.later hA x14
          refine (he cl C s0 H0 ex).use' R4 G4 (Acc.bind (Acc.assoc hA4)) fun z st5 H5 ρ5 zv e5 x5 R5 G5 r5 h5=>?_
          simp only [e5,Res.bind] at hA hq
          have hm5 : acc ∈ ρ5.hid:=x5.hidM acc hm4
          have ha5 : H5 acc = some (.lst vs):=x5.keep acc _ ha4 (R4.ap acc hm4)
          have x15 : Ext H1 ρ1 H5 ρ5:=x14.trans x5
          refine ⟨ha5,_,show items.length - (i + 1) < m by omega,rfl,hlt,by rw [List.length_append]; simp; omega,ρ5,st5,ys ++ [z],x15.put0 hacc,hm5,R5.rehide hm5,(G0 G5).rehide hm5,upd_same,((ry4.ext x5).append (RepL.cons r5 RepL.nil)).rehide hm5,?_⟩
          refine hq.trans ?_
          cases rr : compG ga mt me w (capG cap Γ) (items.drop (i + 1)) st5 with
          | ok zs st6=>
            show Res.ok (ys ++ z :: zs) st6 = Res.ok ((ys ++ [z]) ++ zs) st6
            rw [List.append_assoc]; rfl
          | exc x6 st6=>rfl
          | stuck=>rfl
    · rw [if_neg hw] at hA; exact hA.elim
  · left
    have ei : i = items.length:=by omega
    subst ei
    rw [List.drop_length,compG] at hA hq
    by_cases hw : wOk w st'
    · rw [if_pos hw] at hA hq
      refine ⟨src.stop H' _ st' x R' hw,?_⟩
      have hq : compG ga mt me w (capG cap Γ) items st1 = .ok (ys ++ []) st':=hq
      rw [List.append_nil] at hq
      exact k ys st' H' ρ' acc vs hq x R' hmem hacc ha ry
    · rw [if_neg hw] at hA; exact hA.elim
theorem comp_run {Γ : Gam} {σ : St} {H : Hp} {ρ : Tk} {st : Store} {Q : VK} {P : List PV -> Store -> Hp -> Tk -> Prop} (hi : SimI X E tg iter mi) (hg : ∀ cl C s0 H0 ex,SimG (blkC X N' sc cl C s0 H0 ex) tg ga) (he : ∀ cl C s0 H0 ex,SimE (blkC X N' sc cl C s0 H0 ex) E0 elt me) (ht : ∀ cl C s0 H0 ex,SimTs (blkC X N' sc cl C s0 H0 ex) ifs mt)
    (hf : FreeT cap ga) (R : Rel H ρ st) (G : EnvR H ρ Γ σ) (h : Acc X.mg E H ρ P (mCompN cap ga mi mt me Γ st)) (k : ∀ ps st2 H2 ρ2 a vs,mCompN cap ga mi mt me Γ st = .ok ps st2 -> Ext H ρ H2 ρ2 -> Rel H2 ρ2 st2 -> a ∈ ρ2.hid -> H a = none -> H2 a = some (.lst vs) -> RepL H2 ρ2 ps vs -> Q (.ref a) H2) : tCompT cap (WI X tg iter) (aG X N' sc tg) (aT X N' sc ifs) (aE X N' sc elt) σ H Q:=by
  refine hi.run Γ σ H ρ st _ _ R G h.bind fun iw st1 H1 ρ1 J eq x1 R1 G1 ok hl src h1=>?_
  refine comp_body hg he ht hf R1 G1 src hl (acc_noX (E':=E0) h1) fun ys st2 H2 ρ2 acc vs eq2 x2 R2 hm hn ha ry=>?_
  refine k ys st2 H2 ρ2 acc vs ?_ (x1.trans x2) R2 hm ?_ ha ry
  · unfold mCompN
    rw [eq]
    show noX _ = _
    rw [eq2]; rfl
  cases e : H acc with
  | none=>rfl
  | some o=>
    obtain ⟨o',e'⟩:=x1.old acc o e
    rw [hn] at e'; cases e'
theorem pg_a {N' : List Str} {sc : Scope} {tg : Expr} : ∀ cl C s0 H0 ex,PG (blkC X N' sc cl C s0 H0 ex) tg (aG X N' sc tg):=fun cl C s0 H0 ex pins s σ H v u Q I r h=>pg_x pins s σ H v u Q I r (h cl C s0 H0 ex)
theorem pe_a {N' : List Str} {sc : Scope} {e : Expr} : ∀ cl C s0 H0 ex,PE (blkC X N' sc cl C s0 H0 ex) e (aE X N' sc e):=fun cl C s0 H0 ex pins s σ H Q I h=>h cl C s0 H0 ex pins s I
theorem pts_a {N' : List Str} {sc : Scope} {ifs : List Expr} : ∀ cl C s0 H0 ex,PTs (blkC X N' sc cl C s0 H0 ex) ifs (aT X N' sc ifs):=fun cl C s0 H0 ex pins s σ H Q I h=>by
  obtain ⟨t,a,b⟩:=h cl C s0 H0 ex
  exact a pins s σ H Q I b
theorem sn_comp (cap : List (Option Nat)) (N' : List Str) (hcalm : X.calm = true) (hi : SimI X E tg iter mi) (hg : ∀ cl C s0 H0 ex,SimG (blkC X N' sc cl C s0 H0 ex) tg ga) (he : ∀ cl C s0 H0 ex,SimE (blkC X N' sc cl C s0 H0 ex) E0 elt me) (ht : ∀ cl C s0 H0 ex,SimTs (blkC X N' sc cl C s0 H0 ex) ifs mt)
    (hf : FreeT cap ga) (hN : X.N = N:=by rfl) (hE : X.env.scope = scE:=by rfl) (hc : compOkC N N' sc scE cap = true:=by kernel_rfl) (hs : ∀ x,foldedSetIterable iter X.env x = pure x:=by intro _; rfl) :
    SimN X E (.ListComp elt [⟨tg,iter,ifs,0⟩] sc pos) (mCompN cap ga mi mt me):=
  ⟨fun Γ σ H ρ st P Q R G h k=>WE.of (pe_compT hcalm pi_w pg_a pe_a pts_a hN hE hc hs) (comp_run hi hg he ht hf R G h k)⟩
end
end Sm
namespace Sm
open PySem PySem.Spec L2
inductive SR where
  | nx (Γ : Gam) (st : Store) | rt (v : PV) (st : Store) | bk (Γ : Gam) (st : Store) | ct (Γ : Gam) (st : Store) | exc (x : Exc) (st : Store) | stuck
abbrev MS:=Gam -> Store -> SR
def Res.sbind {α : Type} (r : Res α) (f : α -> Store -> SR) : SR:=match r with
  | .ok a st=>f a st
  | .exc x st=>.exc x st
  | .stuck=>.stuck
def AccS (mg : Str -> Option Value) (E : XK) (D : Ends) (H : Hp) (ρ : Tk) : SR -> Prop
  | .nx Γ st=>∀ σ' H' ρ',Ext H ρ H' ρ' -> Rel H' ρ' st -> EnvR H' ρ' Γ σ' -> D.nx σ' H'
  | .bk Γ st=>∀ σ' H' ρ',Ext H ρ H' ρ' -> Rel H' ρ' st -> EnvR H' ρ' Γ σ' -> D.bk σ' H'
  | .ct Γ st=>∀ σ' H' ρ',Ext H ρ H' ρ' -> Rel H' ρ' st -> EnvR H' ρ' Γ σ' -> D.ct σ' H'
  | .rt p st=>∀ v H' ρ',Ext H ρ H' ρ' -> Rel H' ρ' st -> Rep H' ρ' p v -> D.rt v H'
  | .exc x st=>∀ C dv H' ρ',mg x.cls = some (.ref C) -> Ext H ρ H' ρ' -> Rel H' ρ' st -> XFs H' ρ' x.fs dv -> E (.ref C) dv H'
  | .stuck=>False
section
variable {α : Type} {mg : Str -> Option Value} {E : XK} {D : Ends} {H H1 : Hp} {ρ ρ1 : Tk}
theorem AccS.later {r : SR} (h : AccS mg E D H ρ r) (x : Ext H ρ H1 ρ1) : AccS mg E D H1 ρ1 r:=by
  cases r with
  | nx Γ st=>exact fun σ' H' ρ' x'=>h σ' H' ρ' (x.trans x')
  | bk Γ st=>exact fun σ' H' ρ' x'=>h σ' H' ρ' (x.trans x')
  | ct Γ st=>exact fun σ' H' ρ' x'=>h σ' H' ρ' (x.trans x')
  | rt p st=>exact fun v H' ρ' x'=>h v H' ρ' (x.trans x')
  | exc y st=>exact fun C dv H' ρ' m x'=>h C dv H' ρ' m (x.trans x')
  | stuck=>exact h
theorem AccS.bind {r : Res α} {f : α -> Store -> SR} (h : AccS mg E D H ρ (r.sbind f)) : Acc mg E H ρ (fun a st1 H1 ρ1=>AccS mg E D H1 ρ1 (f a st1)) r:=by
  cases r with
  | ok a st=>exact fun H' ρ' x' R'=>AccS.later (show AccS mg E D H ρ (f a st) from h) x'
  | exc e st=>exact h
  | stuck=>exact h
end
theorem Res.sassoc {α β : Type} (r : Res α) (f : α -> Store -> Res β) (g : β -> Store -> SR) : (r.bind f).sbind g = r.sbind fun a st=>(f a st).sbind g:=by cases r <;> rfl
theorem AccS.assoc {α β : Type} {mg : Str -> Option Value} {E : XK} {D : Ends} {H : Hp} {ρ : Tk} {r : Res α} {f : α -> Store -> Res β} {g : β -> Store -> SR} (h : AccS mg E D H ρ ((r.bind f).sbind g)) : AccS mg E D H ρ (r.sbind fun a st=>(f a st).sbind g):=by
  rw [<- Res.sassoc]; exact h
structure SimS (X : Cx) (E : XK) (s : Stmt) (m : MS) : Prop where
  run : ∀ (Γ : Gam) (σ : St) (H : Hp) (ρ : Tk) (st : Store) (D : Ends),Rel H ρ st -> EnvR H ρ Γ σ -> AccS X.mg E D H ρ (m Γ st) -> WS X s D σ H
structure SimB (X : Cx) (E : XK) (ss : List Stmt) (m : MS) : Prop where
  run : ∀ (Γ : Gam) (σ : St) (H : Hp) (ρ : Tk) (st : Store) (D : Ends),Rel H ρ st -> EnvR H ρ Γ σ -> AccS X.mg E D H ρ (m Γ st) -> WB X ss D σ H
section
variable {X : Cx} {E : XK} {pos : Pos} {e : Expr} {m : ME}
def mNext : MS:=fun Γ st=>.nx Γ st
def mSeqS (m1 m2 : MS) : MS:=fun Γ st=>match m1 Γ st with
  | .nx Γ1 st1=>m2 Γ1 st1
  | r=>r
theorem sb_nil : SimB X E [] mNext:=⟨fun Γ σ H ρ st D R G h=>WB.of pss_nil (h σ H ρ (Ext.refl _ _) R G)⟩
theorem sb_cons {s : Stmt} {rest : List Stmt} {m1 m2 : MS} (h1 : SimS X E s m1) (h2 : SimB X E rest m2) : SimB X E (s :: rest) (mSeqS m1 m2):=
  ⟨fun Γ σ H ρ st D R G h=>WB.of (pss_cons ps_w pss_w) (h1.run Γ σ H ρ st _ R G (by
    unfold mSeqS at h
    cases r : m1 Γ st with
    | nx Γ1 st1=>rw [r] at h; exact fun σ' H' ρ' x' R' G'=>h2.run Γ1 σ' H' ρ' st1 D R' G' (AccS.later h x')
    | bk Γ1 st1=>rw [r] at h; exact h
    | ct Γ1 st1=>rw [r] at h; exact h
    | rt p st1=>rw [r] at h; exact h
    | exc x st1=>rw [r] at h; exact h
    | stuck=>rw [r] at h; exact h))⟩
theorem sb_one {s : Stmt} {m1 : MS} (h1 : SimS X E s m1) : SimB X E [s] m1:=⟨fun Γ σ H ρ st D R G h=>WB.of (pss_one ps_w) (h1.run Γ σ H ρ st D R G h)⟩
def mExpr (m : ME) : MS:=fun Γ st=>(m Γ st).sbind fun _ st1=>.nx Γ st1
theorem ss_expr (he : SimE X E e m) (hs : swapsWith e none pos.line X.env = pure false:=by rfl) : SimS X E (.Expr e pos) (mExpr m):=
  ⟨fun Γ σ H ρ st D R G h=>WS.of (ps_expr pe_w hs) (he.use R G h.bind fun p st1 H1 ρ1 v x1 R1 G1 r1 h1=>h1 σ H1 ρ1 (Ext.refl _ _) R1 G1)⟩
def mRet (m : ME) : MS:=fun Γ st=>(m Γ st).sbind fun p st1=>.rt p st1
theorem ss_ret (he : SimE X E e m) : SimS X E (.Return (some e) pos) (mRet m):=
  ⟨fun Γ σ H ρ st D R G h=>WS.of (ps_ret pe_w) (he.use R G h.bind fun p st1 H1 ρ1 v x1 R1 G1 r1 h1=>h1 v H1 ρ1 (Ext.refl _ _) R1 r1)⟩
def mSet (i : Nat) (m : ME) : MS:=fun Γ st=>(m Γ st).sbind fun p st1=>.nx (Γ.set i (some p)) st1
theorem ss_set (i : Nat) {x : Str} {pos' : Pos} (hN : X.N.Nodup) (he : SimE X E e m) (hi : X.N[i]? = some x:=by rfl) (hx : Loc X.env.scope x:=by first | exact Or.inl rfl | exact Or.inr rfl) (hs : swapsWith e (some (.Name x pos')) pos.line X.env = pure false:=by rfl) (hf : X.fn x = true \/ X.env.scope.names.lookup x = some .local:=by first | exact .inl rfl | exact .inr rfl) :
    SimS X E (.Assign [.Name x pos'] e pos) (mSet i m):=
  ⟨fun Γ σ H ρ st D R G h=>WS.of (ps_set hN hi hx pe_w hs hf) (he.use R G h.bind fun p st1 H1 ρ1 v x1 R1 G1 r1 h1=>h1 _ H1 ρ1 (Ext.refl _ _) R1 (G1.set r1 i))⟩
section
variable {tg iter elt : Expr} {ifs : List Expr} {N N' : List Str} {sc scE : Scope} {ga : GA} {mi : MI} {mt : MT} {me : ME}
theorem ss_compV (cap : List (Option Nat)) (N' : List Str) (i : Nat) {x : Str} {px cpos : Pos} (hnd : X.N.Nodup) (hcalm : X.calm = true) (hi : SimI X E tg iter mi) (hg : ∀ cl C s0 H0 ex,SimG (blkC X N' sc cl C s0 H0 ex) tg ga) (he : ∀ cl C s0 H0 ex,SimE (blkC X N' sc cl C s0 H0 ex) E0 elt me) (ht : ∀ cl C s0 H0 ex,SimTs (blkC X N' sc cl C s0 H0 ex) ifs mt)
    (hf : FreeT cap ga) (hix : X.N[i]? = some x:=by rfl) (hx : Loc X.env.scope x:=by first | exact Or.inl rfl | exact Or.inr rfl) (hsw : swapsWith (.ListComp elt [⟨tg,iter,ifs,0⟩] sc cpos) (some (.Name x px)) pos.line X.env = pure true:=by rfl)
    (hN : X.N = N:=by rfl) (hE : X.env.scope = scE:=by rfl) (hc : compOkC N N' sc scE cap = true:=by kernel_rfl) (hs : ∀ x,foldedSetIterable iter X.env x = pure x:=by intro _; rfl) (hfn : X.fn x = true \/ X.env.scope.names.lookup x = some .local:=by first | exact .inl rfl | exact .inr rfl) :
    SimS X E (.Assign [.Name x px] (.ListComp elt [⟨tg,iter,ifs,0⟩] sc cpos) pos) (mSet i (mVal (mCompN cap ga mi mt me))):=
  ⟨fun Γ σ H ρ st D R G h=>WS.of (ps_compT hnd hix hx hcalm pi_w pg_a pe_a pts_a hsw hN hE hc hs hfn) (comp_run hi hg he ht hf R G (AccS.bind (by unfold mSet mVal at h; exact AccS.assoc h)) fun ps st1 H1 ρ1 a vs eq x R1 hm hn ha r=>by
    obtain ⟨x2,R2,r2⟩:=out_val R x R1 hm hn ha r
    simp only [mSet,mVal,eq,Res.bind,Res.sbind] at h
    exact h _ _ _ x2 R2 ((G.ext x2).set r2 i))⟩
theorem ss_compT (cap : List (Option Nat)) (N' : List Str) (i : Nat) {x : Str} {px cpos : Pos} (hnd : X.N.Nodup) (hcalm : X.calm = true) (hi : SimI X E tg iter mi) (hg : ∀ cl C s0 H0 ex,SimG (blkC X N' sc cl C s0 H0 ex) tg ga) (he : ∀ cl C s0 H0 ex,SimE (blkC X N' sc cl C s0 H0 ex) E0 elt me) (ht : ∀ cl C s0 H0 ex,SimTs (blkC X N' sc cl C s0 H0 ex) ifs mt)
    (hf : FreeT cap ga) (hix : X.N[i]? = some x:=by rfl) (hx : Loc X.env.scope x:=by first | exact Or.inl rfl | exact Or.inr rfl) (hsw : swapsWith (.ListComp elt [⟨tg,iter,ifs,0⟩] sc cpos) (some (.Name x px)) pos.line X.env = pure true:=by rfl)
    (hN : X.N = N:=by rfl) (hE : X.env.scope = scE:=by rfl) (hc : compOkC N N' sc scE cap = true:=by kernel_rfl) (hs : ∀ x,foldedSetIterable iter X.env x = pure x:=by intro _; rfl) (hfn : X.fn x = true \/ X.env.scope.names.lookup x = some .local:=by first | exact .inl rfl | exact .inr rfl) :
    SimS X E (.Assign [.Name x px] (.ListComp elt [⟨tg,iter,ifs,0⟩] sc cpos) pos) (mSet i (mTrk (mCompN cap ga mi mt me))):=
  ⟨fun Γ σ H ρ st D R G h=>WS.of (ps_compT hnd hix hx hcalm pi_w pg_a pe_a pts_a hsw hN hE hc hs hfn) (comp_run hi hg he ht hf R G (AccS.bind (by unfold mSet mTrk at h; exact AccS.assoc h)) fun ps st1 H1 ρ1 a vs eq x R1 hm hn ha r=>by
    obtain ⟨x2,R2,r2⟩:=out_trk R x R1 hm hn ha r
    simp only [mSet,mTrk,eq,Res.bind,Res.sbind] at h
    exact h _ _ _ x2 R2 ((G.ext x2).set r2 i))⟩
end
def setIx (st : Store) (o i p : PV) : Option Store:=match o,i with
  | .ref k,.int j=>match st[k]? with
    | some (.lst xs)=>(ixN xs.length j).map fun n=>st.set k (.lst (xs.set n p))
    | _=>none
  | _,_=>none
def mSetIx (mo mi m : ME) : MS:=fun Γ st=>(m Γ st).sbind fun p st1=>(mo Γ st1).sbind fun o st2=>(mi Γ st2).sbind fun i st3=>match setIx st3 o i p with
  | some st4=>.nx Γ st4
  | none=>.stuck
theorem set_run {H : Hp} {ρ : Tk} {st st' : Store} {o i p : PV} {x y z : V} (R : Rel H ρ st) (ro : Rep H ρ o x) (ri : Rep H ρ i y) (rp : Rep H ρ p z) (e : setIx st o i p = some st') :
    ∃ a vs k j,x = .ref a /\ y = .int k /\ H a = some (.lst vs) /\ ixN vs.length k = some j /\ Ext H ρ (upd H a (.lst (vs.set j z))) ρ /\ Rel (upd H a (.lst (vs.set j z))) ρ st':=by
  unfold setIx at e
  split at e
  · rename_i k j
    split at e
    · rename_i xs hs
      cases ej : ixN xs.length j with
      | none=>rw [ej] at e; cases e
      | some n=>
        rw [ej] at e
        have e : st.set k (.lst (xs.set n p)) = st':=Option.some.inj e
        subst e
        obtain ⟨a,ea,rfl⟩:=ro
        cases ri
        obtain ⟨b,vs,f1,f2,f3⟩:=R.lst hs
        rw [ea] at f1; cases f1
        exact ⟨a,vs,j,n,rfl,rfl,f2,by rw [<- f3.length]; exact ej,Ext.put (List.mem_of_getElem? ea) f2,R.put ea f2 (f3.set rp n)⟩
    · cases e
  · cases e
theorem ss_sub {o i : Expr} {mo mi : ME} {tpos : Pos} (he : SimE X E e m) (ho : SimE X E o mo) (hi : SimE X E i mi)
    (ha : ∀ v,assign (.Subscript o i tpos) X.env v = (do
      let ov <- holding [v] (eval o X.env)
      let iv <- holding [v,ov] (eval i X.env)
      standAt tpos
      holding [v,ov,iv] (setItem ov iv v)
      release [v,ov,iv] []):=by intro _; rfl)
    (hs : swapsWithSole [.Subscript o i tpos] e pos.line X.env = pure false:=by rfl) (hw : swappedStores [.Subscript o i tpos] e X.env = pure none:=by rfl) (h1 : (assignEach [.Subscript o i tpos] X.env).map (·.2) = [assign (.Subscript o i tpos) X.env]:=by rfl) :
    SimS X E (.Assign [.Subscript o i tpos] e pos) (mSetIx mo mi m):=
  ⟨fun Γ σ H ρ st D R G h=>WS.of (ps_asg pe_w (pg_sub pe_w pe_w set_list ha) hs hw h1) (he.use R G h.bind fun p st1 H1 ρ1 z x1 R1 G1 r1 h1=>ho.use R1 G1 h1.bind fun ov st2 H2 ρ2 x x2 R2 G2 r2 h2=>hi.use R2 G2 h2.bind fun iv st3 H3 ρ3 y x3 R3 G3 r3 h3=>by
    cases es : setIx st3 ov iv p with
    | none=>rw [es] at h3; exact h3.elim
    | some st4=>
      rw [es] at h3
      obtain ⟨a,vs,k,j,rfl,rfl,f1,f2,x4,R4⟩:=set_run R3 (r2.ext x3) r3 (r1.ext (x2.trans x3)) es
      exact ⟨a,vs,k,j,rfl,rfl,f1,f2,h3 σ _ ρ3 x4 R4 (G3.ext x4)⟩)⟩
def mIfS (mt : MT) (ma mb : MS) : MS:=fun Γ st=>(mt Γ st).sbind fun b st1=>if b = true then ma Γ st1 else mb Γ st1
theorem ss_if {c : Expr} {a b : List Stmt} {mt : MT} {ma mb : MS} (hc : SimT X E c mt) (ha : SimB X E a ma) (hb : SimB X E b mb) : SimS X E (.If c a b pos) (mIfS mt ma mb):=
  ⟨fun Γ σ H ρ st D R G h=>WS.of (ps_if pt_w pss_w pss_w) (hc.use R G h.bind fun k st1 H1 ρ1 x1 R1 G1 h1=>by
    cases k with
    | true=>rw [if_pos rfl] at h1 ⊢; exact ha.run Γ σ H1 ρ1 st1 D R1 G1 h1
    | false=>rw [if_neg Bool.false_ne_true] at h1 ⊢; exact hb.run Γ σ H1 ρ1 st1 D R1 G1 h1)⟩
open Classical in
def forG (ga : GA) (body : MS) (w : Wt) : List PV -> Gam -> Store -> SR
  | [],Γ,st=>if wOk w st then .nx Γ st else .stuck
  | x :: xs,Γ,st=>if wOk w st then (match ga x Γ with
    | none=>.stuck
    | some Γ1=>match body Γ1 st with
      | .nx Γ2 st2=>forG ga body w xs Γ2 st2
      | .ct Γ2 st2=>forG ga body w xs Γ2 st2
      | .bk Γ2 st2=>.nx Γ2 st2
      | .rt v st2=>.rt v st2
      | .exc x st2=>.exc x st2
      | .stuck=>.stuck) else .stuck
def mFor (ga : GA) (mi : MI) (body : MS) : MS:=fun Γ st=>(mi Γ st).sbind fun iw st1=>forG ga body iw.2 iw.1 Γ st1
theorem ss_for {tg iter : Expr} {bd : List Stmt} {ga : GA} {mi : MI} {body : MS} (hp : PassesOwn (model X.prog X.w) X.A X.env X.xe) (hc : X.calm = true) (hi : SimI X E tg iter mi) (hg : SimG X tg ga) (hb : SimB X E bd body)
    (hs : ∀ x,foldedSetIterable iter X.env x = pure x:=by intro _; rfl) : SimS X E (.For tg iter bd [] pos) (mFor ga mi body):=
  ⟨fun Γ σ H ρ st D R G h=>WS.of (ps_for hp hc pi_w pg_x pss_w hs) (hi.run Γ σ H ρ st _ _ R G h.bind fun iw st1 H1 ρ1 J eq x1 R1 G1 ok hl src h1=>by
    let W : Nat -> Nat -> St -> Hp -> Prop:=fun i m σ' H'=>m = iw.1.length - i /\ i <= iw.1.length /\ ∃ Γ' ρ' st',Ext H1 ρ1 H' ρ' /\ Rel H' ρ' st' /\ EnvR H' ρ' Γ' σ' /\ AccS X.mg E D H' ρ' (forG ga body iw.2 (iw.1.drop i) Γ' st')
    refine ⟨W,⟨_,rfl,Nat.zero_le _,Γ,ρ1,st1,Ext.refl _ _,R1,G1,by rw [List.drop_zero]; exact h1⟩,?_⟩
    rintro i m σ' H' ⟨hm,hi',Γ',ρ',st',x,R',G',hA⟩
    by_cases hlt : i < iw.1.length
    · right
      have hd : iw.1.drop i = iw.1[i] :: iw.1.drop (i + 1):=List.drop_eq_getElem_cons hlt
      rw [hd,forG] at hA
      by_cases hw : wOk iw.2 st'
      · rw [if_pos hw] at hA
        refine ⟨src.go H' ρ' st' x R' hw i hlt,fun σ2 H2=>W (i + 1) (iw.1.length - (i + 1)) σ2 H2,fun σ2 H2 z=>⟨_,by omega,z⟩,fun y H2 hy=>?_⟩
        obtain ⟨sm,ry⟩:=src.yld H' ρ' st' x R' hw i _ (List.getElem?_eq_getElem hlt) y H2 hy
        have x2 : Ext H' ρ' H2 ρ':=Ext.same sm
        cases eg : ga iw.1[i] Γ' with
        | none=>rw [eg] at hA; exact hA.elim
        | some Γ1=>
          rw [eg] at hA
          refine hg.run Γ' Γ1 σ' H2 ρ' _ y _ (G'.ext x2) ry eg fun σ3 G3=>?_
          have hA2:=AccS.later hA x2
          simp only at hA2
          refine hb.run Γ1 σ3 H2 ρ' st' _ (R'.same sm) G3 ?_
          have again : ∀ {Γ2 : Gam} {st2 : Store},AccS X.mg E D H2 ρ' (forG ga body iw.2 (iw.1.drop (i + 1)) Γ2 st2) -> ∀ σ' H'' ρ'',Ext H2 ρ' H'' ρ'' -> Rel H'' ρ'' st2 -> EnvR H'' ρ'' Γ2 σ' -> W (i + 1) (iw.1.length - (i + 1)) σ' H'':=fun {Γ2 st2} a σ4 H4 ρ4 x4 R4 G4=>
            ⟨rfl,hlt,Γ2,ρ4,st2,x.trans (x2.trans x4),R4,G4,AccS.later a x4⟩
          cases rb : body Γ1 st' with
          | nx Γ2 st2=>rw [rb] at hA2; exact again hA2
          | ct Γ2 st2=>rw [rb] at hA2; exact again hA2
          | bk Γ2 st2=>rw [rb] at hA2; exact hA2
          | rt v st2=>rw [rb] at hA2; exact hA2
          | exc y st2=>rw [rb] at hA2; exact hA2
          | stuck=>rw [rb] at hA2; exact hA2.elim
      · rw [if_neg hw] at hA; exact hA.elim
    · left
      have ei : i = iw.1.length:=by omega
      subst ei
      rw [List.drop_length,forG] at hA
      by_cases hw : wOk iw.2 st'
      · rw [if_pos hw] at hA
        exact ⟨src.stop H' ρ' st' x R' hw,hA σ' H' ρ' (Ext.refl _ _) R' G'⟩
      · rw [if_neg hw] at hA; exact hA.elim)⟩
def whileG (mt : MT) (body : MS) : Nat -> Gam -> Store -> SR
  | 0,_,_=>.stuck
  | n + 1, Γ, st => (mt Γ st).sbind fun b st1 => if b = true then (match body Γ st1 with
      | .nx Γ2 st2=>whileG mt body n Γ2 st2
      | .ct Γ2 st2=>whileG mt body n Γ2 st2
      | .bk Γ2 st2=>.nx Γ2 st2
      | .rt v st2=>.rt v st2
      | .exc x st2=>.exc x st2
      | .stuck=>.stuck) else .nx Γ st1
theorem ss_while (n : Nat) {c : Expr} {bd : List Stmt} {mt : MT} {body : MS} (hp : PassesOwn (model X.prog X.w) X.A X.env X.xe) (hc : SimT X E c mt) (hb : SimB X E bd body) : SimS X E (.While c bd [] pos) (whileG mt body n):=
  ⟨fun Γ σ H ρ st D R G h=>WS.of (ps_while hp pt_w pss_w) (by
    let W : Nat -> St -> Hp -> Prop:=fun m σ' H'=>∃ Γ' ρ' st',Rel H' ρ' st' /\ EnvR H' ρ' Γ' σ' /\ AccS X.mg E D H' ρ' (whileG mt body m Γ' st')
    refine ⟨W,⟨n,Γ,ρ,st,R,G,h⟩,?_⟩
    rintro m σ' H' ⟨Γ',ρ',st',R',G',hA⟩
    cases m with
    | zero=>exact hA.elim
    | succ m=>
      rw [whileG] at hA
      refine hc.use R' G' hA.bind fun b st1 H1 ρ1 x1 R1 G1 h1=>?_
      cases b with
      | false=>rw [if_neg Bool.false_ne_true] at h1 ⊢; exact h1 σ' H1 ρ1 (Ext.refl _ _) R1 G1
      | true=>
        rw [if_pos rfl] at h1 ⊢
        refine ⟨fun σ2 H2=>W m σ2 H2,fun σ2 H2 z=>⟨m,Nat.lt_succ_self _,z⟩,hb.run Γ' σ' H1 ρ1 st1 _ R1 G1 ?_⟩
        have again : ∀ {Γ2 : Gam} {st2 : Store},AccS X.mg E D H1 ρ1 (whileG mt body m Γ2 st2) -> ∀ σ' H'' ρ'',Ext H1 ρ1 H'' ρ'' -> Rel H'' ρ'' st2 -> EnvR H'' ρ'' Γ2 σ' -> W m σ' H'':=fun {Γ2 st2} a σ4 H4 ρ4 x4 R4 G4=>⟨Γ2,ρ4,st2,R4,G4,AccS.later a x4⟩
        cases rb : body Γ' st1 with
        | nx Γ2 st2=>rw [rb] at h1; exact again h1
        | ct Γ2 st2=>rw [rb] at h1; exact again h1
        | bk Γ2 st2=>rw [rb] at h1; exact h1
        | rt v st2=>rw [rb] at h1; exact h1
        | exc y st2=>rw [rb] at h1; exact h1
        | stuck=>rw [rb] at h1; exact h1.elim)⟩
def mRaise (x : Str) (m : ME) : MS:=fun Γ st=>(m Γ st).sbind fun _ st1=>.exc ⟨x,none⟩ st1
theorem ss_raise {x : Str} {C : Addr} {np cpos : Pos} (hcalm : X.calm = true) (RO : RaiseD X E) (hg : Gl X x) (hm : X.mg x = some (.ref C)) (q : PySem.W.excIn X.K C bmVE "ValueError.__new__" = true) (he : SimE X E e m)
    (hdb : (x == ("__debug__" : Str)) = false:=by decide) (hst : starEach [e] X.env = [(false,eval e X.env)]:=by rfl) : SimS X E (.Raise (some (.Call (.Name x np) [e] [] cpos)) none pos) (mRaise x m):=
  ⟨fun Γ σ H ρ st D R G h=>WS.of (ps_raiseD hcalm RO hg hm q (pa_cons pe_w pa_nil (by rw [hst]; rfl)) hdb hst) (he.use R G h.bind fun p st1 H1 ρ1 v x1 R1 G1 r1 h1=>⟨Nat.le_trans (show 1 <= lim by decide) lim_le,h1 C none H1 ρ1 hm (Ext.refl _ _) R1 rfl⟩)⟩
end
end Sm
namespace Sm
open PySem PySem.Spec L2
def WM (X : Cx) (id : String) : V -> List V -> Hp -> VK -> Prop:=fun x xs H Q=>∀ (pins : List (Addr × Obj)) (s : Shared) (σ : St) (v : Value) (us : List Value),Inv X pins σ H s -> RelV x v -> Vals xs us -> wpAny (model X.prog X.w) X.A (call (.builtin id) (v :: us)) (EP X pins σ Q) X.xe s
theorem mt_w {X : Cx} {id : String} : MtR X id (WM X id):=fun pins s σ _ _ _ v us _ I r rs h=>h pins s σ v us I r rs
theorem WM.of {X : Cx} {id : String} {r : V -> List V -> Hp -> VK -> Prop} {x : V} {xs : List V} {H : Hp} {Q : VK} (h : MtR X id r) (q : r x xs H Q) : WM X id x xs H Q:=fun pins s σ v us I r1 r2=>h pins s σ H x xs v us Q I r1 r2 q
abbrev MF:=Store -> PV -> List PV -> Res PV
structure MtS (X : Cx) (E : XK) (id : String) (o : MF) : Prop where
  run : ∀ (H : Hp) (ρ : Tk) (st : Store) (p : PV) (ps : List PV) (x : V) (xs : List V) (Q : VK),Rel H ρ st -> Rep H ρ p x -> RepL H ρ ps xs -> Acc X.mg E H ρ (QV Q) (o st p ps) -> WM X id x xs H Q
section
variable {X : Cx} {E : XK} {o e : Expr} {es : List Expr} {mo : ME} {mr : Gam -> Store -> Res (List PV)} {name : Str} {apos cpos : Pos} {T id : String} {f : MF}
def mBM (f : MF) (mo : ME) (mr : Gam -> Store -> Res (List PV)) : ME:=fun Γ st=>(mo Γ st).bind fun p st1=>match listOf st1 p with
  | some _=>(mr Γ st1).bind fun ps st2=>f st2 p ps
  | none=>.stuck
theorem se_bm (pa : PlainAttrs "list") (slot : Slot "list" name id) (hty : typeOf (.builtin id) = pure (.type "method_descriptor")) (hm : MtS X E id f) (ho : SimE X E o mo) (ha : SimA X E (e :: es) mr)
    (hbase : attributeBase o name X.env (eval o X.env) = eval o X.env:=by rfl)
    (hfew : ((backTo cpos (starEach (e :: es) X.env)).all (fun x=>!x.1) && (backToKw cpos (keywordEach [] X.env)).all (fun x=>x.1.isSome)
      && decide ((e :: es).length + ([] : List Keyword).length + (if ([] : List Keyword).isEmpty then 0 else 1) < 30)) = true:=by rfl)
    (hline : (apos.endLine == cpos.line) = true:=by rfl) (hs : starEach (e :: es) X.env = (false,eval e X.env) :: starEach es X.env:=by rfl) (hplain : (backTo cpos (starEach es X.env)).any (·.1) = false:=by rfl) :
    SimE X E (.Call (.Attribute o name apos) (e :: es) [] cpos) (mBM f mo mr):=
  ⟨fun Γ σ H ρ st Q R G h=>WE.of (pe_bm pa slot hty mt_w pe_w pa_w hbase hfew hline hs hplain) (ho.use R G h.bind fun p st1 H1 ρ1 v x1 R1 G1 r1 h1=>by
    split at h1
    · rename_i ys el
      obtain ⟨a,vs,rfl,hr,_⟩:=list_at R1 r1 el
      exact ⟨.inl ⟨rfl,vs,.inl hr⟩,ha.use R1 G1 h1.bind fun ps st2 H2 ρ2 us x2 R2 G2 r2 h2=>hm.run H2 ρ2 st2 p ps _ us Q R2 (r1.ext x2) r2 h2⟩
    · exact h1.elim)⟩
theorem se_bm0 (pa : PlainAttrs "list") (slot : Slot "list" name id) (hty : typeOf (.builtin id) = pure (.type "method_descriptor")) (hm : MtS X E id f) (ho : SimE X E o mo)
    (hbase : attributeBase o name X.env (eval o X.env) = eval o X.env:=by rfl) (hline : (apos.endLine == cpos.line) = true:=by rfl) : SimE X E (.Call (.Attribute o name apos) [] [] cpos) (mBM f mo mNil):=
  ⟨fun Γ σ H ρ st Q R G h=>WE.of (pe_bm0 pa slot hty mt_w pe_w hbase hline) (ho.use R G h.bind fun p st1 H1 ρ1 v x1 R1 G1 r1 h1=>by
    split at h1
    · rename_i ys el
      obtain ⟨a,vs,rfl,hr,_⟩:=list_at R1 r1 el
      exact ⟨.inl ⟨rfl,vs,.inl hr⟩,hm.run H1 ρ1 st1 p [] _ [] Q R1 r1 rfl h1⟩
    · exact h1.elim)⟩
def chg (st : Store) (p : PV) (g : List PV -> Option (PV × List PV)) : Res PV:=match p with
  | .ref i=>match st[i]? with
    | some (.lst xs)=>match g xs with
      | some (r,ys)=>.ok r (st.set i (.lst ys))
      | none=>.stuck
    | _=>.stuck
  | _=>.stuck
theorem chg_run {mg : Str -> Option Value} {H : Hp} {ρ : Tk} {st : Store} {p : PV} {x : V} {g : List PV -> Option (PV × List PV)} {Q : VK} (R : Rel H ρ st) (rp : Rep H ρ p x) (h : Acc mg E H ρ (QV Q) (chg st p g)) :
    ∃ a xs vs r ys,x = .ref a /\ H a = some (.lst vs) /\ RepL H ρ xs vs /\ g xs = some (r,ys) /\ ∀ us v,RepL H ρ ys us -> Rep H ρ r v -> Q v (upd H a (.lst us)):=by
  unfold chg at h
  split at h
  · rename_i i
    split at h
    · rename_i xs hs
      split at h
      · rename_i r ys hg
        obtain ⟨a,ea,rfl⟩:=rp
        obtain ⟨b,vs,f1,f2,f3⟩:=R.lst hs
        rw [ea] at f1; cases f1
        refine ⟨a,xs,vs,r,ys,rfl,f2,f3,hg,fun us v ru rv=>?_⟩
        have x:=Ext.put (o':=.lst us) (List.mem_of_getElem? ea) f2
        exact h _ ρ x (R.put ea f2 ru) v (rv.ext x)
      · exact h.elim
    · exact h.elim
  · exact h.elim
def mtAppend : MF:=fun st p ps=>match ps with
  | [y]=>chg st p fun xs=>if xs.length < lim then some (.non,xs ++ [y]) else none
  | _=>.stuck
theorem ms_append : MtS X E "list.append" mtAppend:=⟨fun H ρ st p ps x xs Q R rp rs h=>by
  unfold mtAppend at h
  split at h
  · obtain ⟨v,rfl,r⟩:=repL_one rs
    obtain ⟨a,ys,vs,r0,zs,rfl,f1,f2,f3,k⟩:=chg_run R rp h
    split at f3
    · rename_i hl
      cases f3
      exact WM.of mt_append ⟨a,vs,v,rfl,rfl,f1,by rw [<- f2.length]; exact Nat.lt_of_lt_of_le hl lim_le,k _ _ (f2.append (RepL.cons r RepL.nil)) rfl⟩
    · cases f3
  · exact h.elim⟩
def mtExtend : MF:=fun st p ps=>match ps with
  | [q]=>match lstOf st q with
    | some ys=>chg st p fun xs=>if xs.length + ys.length <= lim then some (.non,xs ++ ys) else none
    | none=>.stuck
  | _=>.stuck
theorem ms_extend : MtS X E "list.extend" mtExtend:=⟨fun H ρ st p ps x xs Q R rp rs h=>by
  unfold mtExtend at h
  split at h
  · obtain ⟨v,rfl,r⟩:=repL_one rs
    split at h
    · rename_i ws ew
      obtain ⟨b,us,rfl,hb,rb⟩:=lst_at R r ew
      obtain ⟨a,ys,vs,r0,zs,rfl,f1,f2,f3,k⟩:=chg_run R rp h
      split at f3
      · rename_i hl
        cases f3
        exact WM.of mt_extend ⟨a,b,vs,us,rfl,rfl,f1,hb,by rw [<- f2.length,<- rb.length]; exact le_lim hl,k _ _ (f2.append rb) rfl⟩
      · cases f3
    · exact h.elim
  · exact h.elim⟩
def mtInsert : MF:=fun st p ps=>match ps with
  | [.int i,y]=>chg st p fun xs=>if 0 <= i /\ i <= xs.length /\ xs.length <= 1000 then some (.non,xs.take i.toNat ++ y :: xs.drop i.toNat) else none
  | _=>.stuck
def mtPop : MF:=fun st p ps=>match ps with
  | []=>chg st p fun xs=>(xs[xs.length - 1]?).map fun y=>(y,xs.dropLast)
  | [.int i]=>if -(2 ^ 63) <= i /\ i < 2 ^ 63 then chg st p fun xs=>(ixN xs.length i).bind fun k=>(xs[k]?).map fun y=>(y,xs.eraseIdx k) else .stuck
  | _=>.stuck
theorem RepL.dropLast {H : Hp} {ρ : Tk} {ps : List PV} {vs : List V} (r : RepL H ρ ps vs) : RepL H ρ ps.dropLast vs.dropLast:=by
  rw [List.dropLast_eq_take,List.dropLast_eq_take,r.length]
  exact r.take _
theorem RepL.eraseIdx {H : Hp} {ρ : Tk} {ps : List PV} {vs : List V} (r : RepL H ρ ps vs) (k : Nat) : RepL H ρ (ps.eraseIdx k) (vs.eraseIdx k):=by
  rw [List.eraseIdx_eq_take_drop_succ,List.eraseIdx_eq_take_drop_succ]
  exact (r.take _).append (r.drop _)
theorem ms_pop : MtS X E "list.pop" mtPop:=⟨fun H ρ st p ps x xs Q R rp rs h=>by
  unfold mtPop at h
  split at h
  · cases rs
    obtain ⟨a,ys,vs,r0,zs,rfl,f1,f2,f3,k⟩:=chg_run R rp h
    cases e : ys[ys.length - 1]? with
    | none=>rw [e] at f3; cases f3
    | some y=>
      rw [e] at f3
      cases f3
      obtain ⟨v,e1,e2⟩:=f2.get e
      rw [f2.length] at e1
      exact WM.of mt_pop ⟨a,vs,v,rfl,rfl,f1,e1,k _ _ f2.dropLast e2⟩
  · rename_i i
    split at h
    · rename_i hi
      obtain ⟨v,rfl,r⟩:=repL_one rs
      cases r
      obtain ⟨a,ys,vs,r0,zs,rfl,f1,f2,f3,k⟩:=chg_run R rp h
      cases e : ixN ys.length i with
      | none=>rw [e] at f3; cases f3
      | some j=>
        rw [e] at f3
        have f3 : (ys[j]?).map (fun y=>(y,ys.eraseIdx j)) = some (r0,zs):=f3
        cases e2 : ys[j]? with
        | none=>rw [e2] at f3; cases f3
        | some y=>
          rw [e2] at f3
          cases f3
          obtain ⟨v,e3,e4⟩:=f2.get e2
          exact WM.of mt_popAt ⟨a,vs,i,j,v,rfl,rfl,f1,hi.1,hi.2,by rw [<- f2.length]; exact (ixN_seq e).1,e3,k _ _ (f2.eraseIdx j) e4⟩
    · exact h.elim
  · exact h.elim⟩
theorem se_append (ho : SimE X E o mo) (ha : SimA X E [e] mr) (hbase : attributeBase o "append" X.env (eval o X.env) = eval o X.env:=by rfl)
    (hfew : ((backTo cpos (starEach [e] X.env)).all (fun x=>!x.1) && (backToKw cpos (keywordEach [] X.env)).all (fun x=>x.1.isSome) && decide ([e].length + ([] : List Keyword).length + (if ([] : List Keyword).isEmpty then 0 else 1) < 30)) = true:=by rfl)
    (hline : (apos.endLine == cpos.line) = true:=by rfl) (hs : starEach [e] X.env = (false,eval e X.env) :: starEach [] X.env:=by rfl) : SimE X E (.Call (.Attribute o "append" apos) [e] [] cpos) (mBM mtAppend mo mr):=
  se_bm PySem.F.plainAttrs_list PySem.F.slot_list_append PySem.F.type_list_append ms_append ho ha hbase hfew hline hs
theorem se_extend (ho : SimE X E o mo) (ha : SimA X E [e] mr) (hbase : attributeBase o "extend" X.env (eval o X.env) = eval o X.env:=by rfl)
    (hfew : ((backTo cpos (starEach [e] X.env)).all (fun x=>!x.1) && (backToKw cpos (keywordEach [] X.env)).all (fun x=>x.1.isSome) && decide ([e].length + ([] : List Keyword).length + (if ([] : List Keyword).isEmpty then 0 else 1) < 30)) = true:=by rfl)
    (hline : (apos.endLine == cpos.line) = true:=by rfl) (hs : starEach [e] X.env = (false,eval e X.env) :: starEach [] X.env:=by rfl) : SimE X E (.Call (.Attribute o "extend" apos) [e] [] cpos) (mBM mtExtend mo mr):=
  se_bm PySem.F.plainAttrs_list PySem.F.slot_list_extend PySem.F.type_list_extend ms_extend ho ha hbase hfew hline hs
end
end Sm
namespace Sm
open PySem PySem.Spec L2
mutual
def fz (n : Nat) (st : Store) : Nat -> PV -> Option PV
  | 0,_=>none
  | _ + 1,.non=>some .non
  | _ + 1,.bl b=>some (.bl b)
  | _ + 1,.int i=>some (.int i)
  | _ + 1,.str x=>some (.str x)
  | k + 1,.tup xs=>(fzL n st k xs).map .tup
  | k + 1,.lst xs=>(fzL n st k xs).map .lst
  | k + 1,.fro xs=>(fzL n st k xs).map .fro
  | _ + 1,.dic=>some .dic
  | k + 1,.ref i=>if i < n then some (.ref i) else match st[i]? with
    | some (.lst xs)=>(fzL n st k xs).map .lst
    | _=>none
def fzL (n : Nat) (st : Store) : Nat -> List PV -> Option (List PV)
  | _,[]=>some []
  | k,x :: xs=>(fz n st k x).bind fun y=>(fzL n st k xs).map (y :: ·)
end
theorem fz_good {n : Nat} {st : Store} : ∀ {m k : Nat} {p : PV},good m p = true -> m < k -> fz n st k p = some p:=by
  intro m
  induction m with
  | zero=>
    intro k p g hk
    obtain ⟨k,rfl⟩ : ∃ j,k = j + 1:=⟨k - 1,by omega⟩
    cases p with
    | tup _=>cases g
    | lst _=>cases g
    | fro _=>cases g
    | ref _=>cases g
    | dic=>cases g
    | _=>rw [fz]
  | succ m ih=>
    intro k p g hk
    obtain ⟨k,rfl⟩ : ∃ j,k = j + 1:=⟨k - 1,by omega⟩
    have hL : ∀ xs : List PV,xs.all (good m) = true -> fzL n st k xs = some xs:=by
      intro xs
      induction xs with
      | nil=>intro _; rw [fzL]
      | cons x xs ihx=>
        intro g
        rw [List.all_cons,Bool.and_eq_true] at g
        rw [fzL,ih g.1 (by omega),ihx g.2]; rfl
    cases p with
    | tup xs=>rw [fz,hL xs g]; rfl
    | lst xs=>rw [fz,hL xs g]; rfl
    | fro xs=>rw [fz,hL xs g]; rfl
    | ref _=>cases g
    | dic=>cases g
    | _=>rw [fz]
section
variable {H : Hp} {ρ : Tk} {st : Store} {tr0 rest hs : List Addr}
theorem fz_rep (R : Rel H ρ st) (ht : ρ.tr = tr0 ++ rest) (hh : ∀ a,a ∈ hs -> a ∈ ρ.hid) : ∀ (k : Nat) {p p' : PV} {v : V},Rep H ρ p v -> fz tr0.length st k p = some p' -> Rep H ⟨tr0,hs⟩ p' v:=by
  have out : ∀ a,a ∉ ρ -> a ∉ (⟨tr0,hs⟩ : Tk):=fun a n z=>by
    rcases z with z | z
    · exact n (.inl (by rw [ht]; exact List.mem_append_left _ z))
    · exact n (.inr (hh a z))
  intro k
  induction k with
  | zero=>intro p p' v r e; rw [fz] at e; cases e
  | succ k ih=>
    have hL : ∀ {ps ps' : List PV} {vs : List V},RepL H ρ ps vs -> fzL tr0.length st k ps = some ps' -> RepL H ⟨tr0,hs⟩ ps' vs:=by
      intro ps
      induction ps with
      | nil=>intro ps' vs r e; rw [fzL] at e; cases e; exact r
      | cons x xs ihx=>
        intro ps' vs r e
        obtain ⟨v,t,rfl,r1,r2⟩:=r
        rw [fzL] at e
        cases e1 : fz tr0.length st k x with
        | none=>rw [e1] at e; cases e
        | some y=>
          rw [e1] at e
          have e : (fzL tr0.length st k xs).map (y :: ·) = some ps':=e
          cases e2 : fzL tr0.length st k xs with
          | none=>rw [e2] at e; cases e
          | some ys=>
            rw [e2] at e
            cases e
            exact ⟨v,t,rfl,ih r1 e1,ihx r2 e2⟩
    intro p p' v r e
    cases p with
    | non=>rw [fz] at e; cases e; exact r
    | bl b=>rw [fz] at e; cases e; exact r
    | int i=>rw [fz] at e; cases e; exact r
    | str x=>rw [fz] at e; cases e; exact r
    | tup xs=>
      rw [fz] at e
      obtain ⟨a,vs,e1,ha,na,ra⟩:=r
      cases e2 : fzL tr0.length st k xs with
      | none=>rw [e2] at e; cases e
      | some ys=>rw [e2] at e; cases e; exact ⟨a,vs,e1,ha,out a na,hL ra e2⟩
    | lst xs=>
      rw [fz] at e
      obtain ⟨a,vs,e1,ha,na,ra⟩:=r
      cases e2 : fzL tr0.length st k xs with
      | none=>rw [e2] at e; cases e
      | some ys=>rw [e2] at e; cases e; exact ⟨a,vs,e1,ha,out a na,hL ra e2⟩
    | fro xs=>
      rw [fz] at e
      obtain ⟨a,vs,e1,ha,na,ra⟩:=r
      cases e2 : fzL tr0.length st k xs with
      | none=>rw [e2] at e; cases e
      | some ys=>rw [e2] at e; cases e; exact ⟨a,vs,e1,ha,out a na,hL ra e2⟩
    | dic=>
      rw [fz] at e
      cases e
      obtain ⟨a,e1,ha,na⟩:=r
      exact ⟨a,e1,ha,out a na⟩
    | ref i=>
      rw [fz] at e
      obtain ⟨a,ea,rfl⟩:=r
      by_cases hi : i < tr0.length
      · rw [if_pos hi] at e
        cases e
        rw [ht,List.getElem?_append_left hi] at ea
        exact ⟨a,ea,rfl⟩
      · rw [if_neg hi] at e
        split at e
        · rename_i xs hs'
          obtain ⟨b,vs,f1,f2,f3⟩:=R.lst hs'
          rw [ea] at f1; cases f1
          cases e2 : fzL tr0.length st k xs with
          | none=>rw [e2] at e; cases e
          | some ys=>
            rw [e2] at e; cases e
            refine ⟨a,vs,rfl,f2,fun z=>?_,hL f3 e2⟩
            rcases z with z | z
            · have z : a ∈ tr0:=z
              obtain ⟨j,hj,ej⟩:=List.getElem_of_mem z
              have g1 : ρ.tr[j]? = some a:=by rw [ht,List.getElem?_append_left hj,List.getElem?_eq_getElem hj,ej]
              have l1:=List.getElem?_eq_some_iff.mp g1
              have l2:=List.getElem?_eq_some_iff.mp ea
              have:=nodup_inj R.nd l1.1 l2.1 (l1.2.trans l2.2.symm)
              omega
            · exact R.ap a (hh a z) (List.mem_of_getElem? ea)
        · cases e
mutual
def bel (n : Nat) : PV -> Prop
  | .tup xs=>belL n xs
  | .lst xs=>belL n xs
  | .fro xs=>belL n xs
  | .ref i=>i < n
  | _=>True
def belL (n : Nat) : List PV -> Prop
  | []=>True
  | x :: xs=>bel n x /\ belL n xs
end
mutual
theorem Rep.bel : ∀ {p : PV} {v : V},Rep H ρ p v -> bel ρ.tr.length p
  | .non,_,_=>by simp [Sm.bel]
  | .bl _,_,_=>by simp [Sm.bel]
  | .int _,_,_=>by simp [Sm.bel]
  | .str _,_,_=>by simp [Sm.bel]
  | .tup ps,_,⟨_,_,_,_,_,r⟩=>by rw [Sm.bel]; exact RepL.bel r
  | .lst ps,_,⟨_,_,_,_,_,r⟩=>by rw [Sm.bel]; exact RepL.bel r
  | .fro ps,_,⟨_,_,_,_,_,r⟩=>by rw [Sm.bel]; exact RepL.bel r
  | .ref i,_,⟨_,e,_⟩=>by rw [Sm.bel]; exact (List.getElem?_eq_some_iff.mp e).1
  | .dic,_,_=>by simp [Sm.bel]
theorem RepL.bel : ∀ {ps : List PV} {vs : List V},RepL H ρ ps vs -> belL ρ.tr.length ps
  | [],_,_=>by simp [belL]
  | p :: ps,_,⟨_,_,_,r1,r2⟩=>by rw [belL]; exact ⟨Rep.bel r1,RepL.bel r2⟩
end
mutual
theorem Rep.less (ht : ρ.tr = tr0 ++ rest) (hh : ∀ a,a ∈ hs -> a ∈ ρ.hid) : ∀ {p : PV} {v : V},Sm.bel tr0.length p -> Rep H ρ p v -> Rep H ⟨tr0,hs⟩ p v
  | .non,_,_,r=>r
  | .bl _,_,_,r=>r
  | .int _,_,_,r=>r
  | .str _,_,_,r=>r
  | .tup ps,_,b,⟨a,vs,e,ha,na,r⟩=>⟨a,vs,e,ha,fun z=>na (z.imp (fun z=>by rw [ht]; exact List.mem_append_left _ z) (hh a)),RepL.less ht hh (by rw [Sm.bel] at b; exact b) r⟩
  | .lst ps,_,b,⟨a,vs,e,ha,na,r⟩=>⟨a,vs,e,ha,fun z=>na (z.imp (fun z=>by rw [ht]; exact List.mem_append_left _ z) (hh a)),RepL.less ht hh (by rw [Sm.bel] at b; exact b) r⟩
  | .fro ps,_,b,⟨a,vs,e,ha,na,r⟩=>⟨a,vs,e,ha,fun z=>na (z.imp (fun z=>by rw [ht]; exact List.mem_append_left _ z) (hh a)),RepL.less ht hh (by rw [Sm.bel] at b; exact b) r⟩
  | .ref i,_,b,⟨a,e,e2⟩=>⟨a,by rw [Sm.bel] at b; rw [ht,List.getElem?_append_left b] at e; exact e,e2⟩
  | .dic,_,_,⟨a,e,ha,na⟩=>⟨a,e,ha,fun z=>na (z.imp (fun z=>by rw [ht]; exact List.mem_append_left _ z) (hh a))⟩
theorem RepL.less (ht : ρ.tr = tr0 ++ rest) (hh : ∀ a,a ∈ hs -> a ∈ ρ.hid) : ∀ {ps : List PV} {vs : List V},belL tr0.length ps -> RepL H ρ ps vs -> RepL H ⟨tr0,hs⟩ ps vs
  | [],_,_,r=>r
  | p :: ps,_,b,⟨v,t,e,r1,r2⟩=>by
    rw [belL] at b
    exact ⟨v,t,e,Rep.less ht hh b.1 r1,RepL.less ht hh b.2 r2⟩
end
end
theorem rel_back {H H' : Hp} {ρ ρ' : Tk} {st st' : Store} (R : Rel H ρ st) (x : Ext H ρ H' ρ') (R' : Rel H' ρ' st') (hp : st <+: st') : Ext H ρ H' ρ /\ Rel H' ρ st:=by
  obtain ⟨rest,ht⟩:=x.pre
  obtain ⟨more,hm⟩:=hp
  refine ⟨⟨List.prefix_refl _,fun _ h=>h,fun _ h=>.inl h,x.keep,fun _ h=>.inl h,x.old,x.frz⟩,R.len,R.nd,fun a ha=>let ⟨o,e,n⟩:=R.hd a ha; ⟨o,x.keep a o e (R.ap a ha),n⟩,R.ap,fun i a c h1 h2=>?_⟩
  have hi : i < st.length:=(List.getElem?_eq_some_iff.mp h2).1
  have q:=R'.cell i a c (by rw [<- ht,List.getElem?_append_left (List.getElem?_eq_some_iff.mp h1).1]; exact h1) (by rw [<- hm,List.getElem?_append_left hi]; exact h2)
  have q0:=R.cell i a c h1 h2
  cases c with
  | lst ps=>
    obtain ⟨vs,e1,e2⟩:=q
    obtain ⟨us,_,f2⟩:=q0
    exact ⟨vs,e1,RepL.less (ρ:=ρ') (tr0:=ρ.tr) (hs:=ρ.hid) ht.symm x.hidM f2.bel e2⟩
  | dic ps=>
    obtain ⟨vs,e1,e2⟩:=q
    obtain ⟨us,_,f2⟩:=q0
    exact ⟨vs,e1,e2.1,RepL.less (ρ:=ρ') (tr0:=ρ.tr) (hs:=ρ.hid) ht.symm x.hidM f2.2.bel e2.2⟩
  | dtp ps=>
    obtain ⟨vs,e1,e2⟩:=q
    obtain ⟨us,_,f2⟩:=q0
    exact ⟨vs,e1,e2.1,RepL.less (ρ:=ρ') (tr0:=ρ.tr) (hs:=ρ.hid) ht.symm x.hidM f2.2.bel e2.2⟩
  | frd ps=>
    obtain ⟨vs,e1,e2⟩:=q
    obtain ⟨us,_,f2⟩:=q0
    exact ⟨vs,e1,e2.1,RepL.less (ρ:=ρ') (tr0:=ρ.tr) (hs:=ρ.hid) ht.symm x.hidM f2.2.bel e2.2⟩
  | obj C ps=>
    obtain ⟨vs,e1,e2⟩:=q
    obtain ⟨us,_,f2⟩:=q0
    exact ⟨vs,e1,e2.1,RepL.less (ρ:=ρ') (tr0:=ρ.tr) (hs:=ρ.hid) ht.symm x.hidM f2.2.bel e2.2⟩
abbrev FN:=List PV -> Store -> Res PV
open Classical in
def fin (st : Store) (v : PV) (st' : Store) : Res PV:=if st <+: st' then okO st (fz st.length st' 16 v) else .ok v st'
open Classical in
def finX (st : Store) (x : Exc) (st' : Store) : Res PV:=if st <+: st' then (match x.fs with
  | none=>.exc x st
  | some (n,p)=>match fz st.length st' 16 p with
    | some q=>.exc ⟨x.cls,some (n,q)⟩ st
    | none=>.stuck) else .exc x st'
def callF (body : MS) (nl : Nat) : FN:=fun ps st=>match body (ps.map some ++ List.replicate (nl - ps.length) none) st with
  | .rt v st'=>fin st v st'
  | .nx _ st'=>fin st .non st'
  | .exc x st'=>finX st x st'
  | _=>.stuck
theorem fin_acc {mg : Str -> Option Value} {E : XK} {H : Hp} {ρ : Tk} {st st' : Store} {Q : VK} {p : PV} (R : Rel H ρ st) (h : Acc mg E H ρ (QV Q) (fin st p st')) : ∀ v H' ρ',Ext H ρ H' ρ' -> Rel H' ρ' st' -> Rep H' ρ' p v -> Q v H':=fun v H' ρ' x R' r=>by
  unfold fin at h
  by_cases hp : st <+: st'
  · rw [if_pos hp] at h
    cases e : fz st.length st' 16 p with
    | none=>rw [e] at h; exact h.elim
    | some q=>
      rw [e] at h
      obtain ⟨x2,R2⟩:=rel_back R x R' hp
      obtain ⟨rest,ht⟩:=x.pre
      rw [<- R.len] at e
      exact h H' ρ x2 R2 v (fz_rep (tr0:=ρ.tr) (hs:=ρ.hid) R' ht.symm x.hidM 16 r e)
  · rw [if_neg hp] at h
    exact h H' ρ' x R' v r
def spF (mg : Str -> Option Value) (n : Nat) (F : FN) : Sp:=fun vs H Q E=>vs.length = n /\ ∃ ρ st ps,Rel H ρ st /\ RepL H ρ ps vs /\ Acc mg E H ρ (QV Q) (F ps st)
theorem start_env {H : Hp} {ρ : Tk} {N : List Str} {ps : List PV} {vs : List V} (r : RepL H ρ ps vs) : EnvR H ρ (ps.map some ++ List.replicate (N.length - ps.length) none) (L2.start N vs):=by
  have hl:=r.length
  unfold L2.start
  refine ⟨by simp [hl],fun i p e=>?_⟩
  by_cases hi : i < ps.length
  · rw [List.getElem?_append_left (by simpa using hi),List.getElem?_map] at e
    rw [List.getElem?_append_left (by simp; omega),List.getElem?_map]
    cases q : ps[i]? with
    | none=>rw [q] at e; cases e
    | some p'=>
      rw [q] at e
      cases e
      obtain ⟨v,e1,e2⟩:=r.get q
      exact ⟨v,by rw [e1]; rfl,e2⟩
  · rw [List.getElem?_append_right (by simpa using hi),List.getElem?_replicate] at e
    split at e <;> cases e
section
variable {P : Program} {w : World} {K : PySem.W.Frag} {mg : Str -> Option Value} {base : Heap}
theorem fun_ok {x qual : Str} {st : Stmt} {f : Addr} {fd : FuncData} {N ps : List Str} {k : Nat} {m : MS} (F : Fun K x qual st f fd) (S : FnScope N ps (defScope st))
    (hb : ∀ (cdv : Value) (A : Around) (outer : List PySem.Env) (s : Shared) (H : Hp) (E : XK),Room k (A.deeper (PyProof.Rows.envOfC qual (defScope st) s.heap.objs.size f cdv)) -> SimB (cxD P w K mg base N qual (defScope st) f cdv A outer s H E) E (defBody st) m) :
    FnOk P w K mg base (CXD P w) (k + 1) f fd ps (spF mg ps.length (callF m N.length)):=by
  refine Fun.okD F S (fun vs H Q E h=>h.1) fun cdv A outer s H vs Q E hr hsp=>⟨_,pss_w,?_⟩
  obtain ⟨hl,ρ,st0,pvs,R,rl,hA⟩:=hsp
  refine (hb cdv A outer s H E hr).run _ (L2.start N vs) H ρ st0 _ R (start_env rl) ?_
  unfold callF at hA
  cases rr : m (pvs.map some ++ List.replicate (N.length - pvs.length) none) st0 with
  | rt v st1=>rw [rr] at hA; exact fin_acc R hA
  | nx Γ st1=>rw [rr] at hA; exact fun σ' H' ρ' x' R' G'=>fin_acc R hA .non H' ρ' x' R' rfl
  | bk Γ st1=>rw [rr] at hA; exact hA.elim
  | ct Γ st1=>rw [rr] at hA; exact hA.elim
  | stuck=>rw [rr] at hA; exact hA.elim
  | exc y st1=>
    rw [rr] at hA
    have hA : Acc mg E H ρ (QV Q) (finX st0 y st1):=hA
    intro C dv H' ρ' hm x' R' hf
    unfold finX at hA
    by_cases hp : st0 <+: st1
    · rw [if_pos hp] at hA
      obtain ⟨x2,R2⟩:=rel_back R x' R' hp
      obtain ⟨cls,fs⟩:=y
      cases fs with
      | none=>exact hA C dv H' ρ hm x2 R2 hf
      | some np=>
        obtain ⟨nm,p⟩:=np
        simp only at hA
        cases e : fz st0.length st1 16 p with
        | none=>rw [e] at hA; exact hA.elim
        | some q=>
          rw [e] at hA
          obtain ⟨rest,ht⟩:=x'.pre
          rw [<- R.len] at e
          obtain ⟨dx,v,e1,e2,e3,e4⟩:=hf
          refine hA C dv H' ρ hm x2 R2 ⟨dx,v,e1,e2,fun z=>e3 (z.imp (fun z=>by rw [<- ht]; exact List.mem_append_left _ z) (x'.hidM dx)),fz_rep (tr0:=ρ.tr) (hs:=ρ.hid) R' ht.symm x'.hidM 16 e4 e⟩
    · rw [if_neg hp] at hA
      exact hA C dv H' ρ' hm x' R' hf
end
theorem fun_ok2 {P : Program} {w : World} {K : PySem.W.Frag} {mg : Str -> Option Value} {base : Heap} {x qual : Str} {st : Stmt} {f : Addr} {fd : FuncData} {N ps : List Str} {k n nl : Nat} {m : MS} {FF : FN} (F : Fun K x qual st f fd) (S : FnScope N ps (defScope st)) (hn : ps.length = n) (hnl : N.length = nl) (hF : FF = callF m nl)
    (hb : ∀ (cdv : Value) (A : Around) (outer : List PySem.Env) (s : Shared) (H : Hp) (E : XK),Room k (A.deeper (PyProof.Rows.envOfC qual (defScope st) s.heap.objs.size f cdv)) -> SimB (cxD P w K mg base N qual (defScope st) f cdv A outer s H E) E (defBody st) m) :
    FnOk P w K mg base (CXD P w) (k + 1) f fd ps (spF mg n FF):=by
  subst hn; subst hnl; subst hF
  exact fun_ok F S hb
structure DefS (P : Program) (w : World) (K : PySem.W.Frag) (mg : Str -> Option Value) (base : Heap) (k : Nat) (x : Str) (n : Nat) (F : FN) : Prop where
  ex : ∃ (f : Addr) (fd : FuncData) (ps : List Str),FnOk P w K mg base (CXD P w) k f fd ps (spF mg n F) /\ mg x = some (.ref f) /\ PySem.W.keepIn K (.ref f) = true /\ Binds K fd ps [] /\ ps.length = n
def mCallF (n : Nat) (F : FN) (mr : Gam -> Store -> Res (List PV)) : ME:=fun Γ st=>(mr Γ st).bind fun ps st1=>if ps.length = n then F ps st1 else .stuck
section
variable {X : Cx} {E : XK} {k n : Nat} {x : Str} {F : FN} {p pos : Pos} {e : Expr} {es : List Expr} {mr : Gam -> Store -> Res (List PV)}
theorem se_call (D : DefS X.prog X.w X.K X.mg X.base k x n F) (hr : Room k X.A) (hx : Passes (CXD X.prog X.w) X E) (hg : Gl X x) (ha : SimA X E (e :: es) mr) (hdb : (x == ("__debug__" : Str)) = false:=by decide)
    (he : starEach (e :: es) X.env = (false,eval e X.env) :: starEach es X.env:=by rfl) (hpl : (backTo pos (starEach es X.env)).any (·.1) = false:=by rfl) : SimE X E (.Call (.Name x p) (e :: es) [] pos) (mCallF n F mr):=by
  obtain ⟨f,fd,ps,hF,hm,hk,hb,hl⟩:=D.ex
  exact ⟨fun Γ σ H ρ st Q R G h=>WE.of (pe_call hF hr hg hm hk hb .nil hx pa_w hdb he hpl) (ha.use R G h.bind fun qs st1 H1 ρ1 vs x1 R1 G1 r1 h1=>by
    by_cases hq : qs.length = n
    · rw [if_pos hq] at h1
      show spF X.mg n F (vs ++ []) H1 Q E
      rw [List.append_nil]
      exact ⟨by rw [<- r1.length]; exact hq,ρ1,st1,qs,R1,r1,h1⟩
    · rw [if_neg hq] at h1; exact h1.elim)⟩
end
end Sm
namespace Sm
open PySem PySem.Spec L2
@[simp] theorem bind_ok {α β : Type} (a : α) (st : Store) (f : α -> Store -> Res β) : (Res.ok a st).bind f = f a st:=rfl
@[simp] theorem bind_stuck {α β : Type} (f : α -> Store -> Res β) : (Res.stuck : Res α).bind f = .stuck:=rfl
@[simp] theorem bind_exc {α β : Type} (x : Exc) (st : Store) (f : α -> Store -> Res β) : (Res.exc x st : Res α).bind f = .exc x st:=rfl
@[simp] theorem sbind_ok {α : Type} (a : α) (st : Store) (f : α -> Store -> SR) : (Res.ok a st).sbind f = f a st:=rfl
@[simp] theorem sbind_stuck {α : Type} (f : α -> Store -> SR) : (Res.stuck : Res α).sbind f = .stuck:=rfl
@[simp] theorem sbind_exc {α : Type} (x : Exc) (st : Store) (f : α -> Store -> SR) : (Res.exc x st : Res α).sbind f = .exc x st:=rfl
@[simp] theorem mVar_eq (i : Nat) (Γ : Gam) (st : Store) : mVar i Γ st = (match Γ[i]? with | some (some p)=>.ok p st | _=>.stuck):=rfl
@[simp] theorem mC_eq (p : PV) (Γ : Gam) (st : Store) : mC p Γ st = .ok p st:=rfl
@[simp] theorem mOp_eq (o : OP) (a b : ME) (Γ : Gam) (st : Store) : mOp o a b Γ st = (a Γ st).bind fun x st1=>(b Γ st1).bind fun y st2=>o st2 x y:=rfl
@[simp] theorem asB_bl (b : Bool) (st : Store) : asB (.bl b) st = .ok b st:=rfl
@[simp] theorem toB_eq (m : ME) (Γ : Gam) (st : Store) : toB m Γ st = (m Γ st).bind asB:=rfl
def selB {α : Type} (x : PV) (A B : Res α) : Res α:=match x with
  | .bl true=>A
  | .bl false=>B
  | _=>.stuck
@[simp] theorem selB_bl {α : Type} (b : Bool) (A B : Res α) : selB (.bl b) A B = if b = true then A else B:=by cases b <;> rfl
@[simp] theorem mChain_eq (o o' : OP) (a b c : ME) (Γ : Gam) (st : Store) : mChain o o' a b c Γ st = (a Γ st).bind fun x st1=>(b Γ st1).bind fun y st2=>(o st2 x y).bind fun k st3=>selB k ((c Γ st3).bind fun z st4=>o' st4 y z) (.ok (.bl false) st3):=by
  unfold mChain
  refine congrArg _ (funext fun x=>funext fun st1=>congrArg _ (funext fun y=>funext fun st2=>congrArg _ (funext fun k=>funext fun st3=>?_)))
  cases k with
  | bl b=>cases b <;> rfl
  | _=>rfl
@[simp] theorem mAnd_eq (a b : ME) (Γ : Gam) (st : Store) : mAnd a b Γ st = (a Γ st).bind fun x st1=>selB x (b Γ st1) (.ok (.bl false) st1):=by
  unfold mAnd
  refine congrArg _ (funext fun x=>funext fun st1=>?_)
  cases x with
  | bl b=>cases b <;> rfl
  | _=>rfl
@[simp] theorem mOr_eq (a b : ME) (Γ : Gam) (st : Store) : mOr a b Γ st = (a Γ st).bind fun x st1=>selB x (.ok (.bl true) st1) (b Γ st1):=by
  unfold mOr
  refine congrArg _ (funext fun x=>funext fun st1=>?_)
  cases x with
  | bl b=>cases b <;> rfl
  | _=>rfl
@[simp] theorem mNot_eq (a : ME) (Γ : Gam) (st : Store) : mNot a Γ st = (a Γ st).bind fun x st1=>(match x with | .bl k=>.ok (.bl (!k)) st1 | _=>.stuck):=rfl
@[simp] theorem mNeg_eq (a : ME) (Γ : Gam) (st : Store) : mNeg a Γ st = (a Γ st).bind fun x st1=>(match x with | .int k=>.ok (.int (-k)) st1 | _=>.stuck):=rfl
@[simp] theorem tAndM_eq (a b : MT) (Γ : Gam) (st : Store) : tAndM a b Γ st = (a Γ st).bind fun k st1=>if k = true then b Γ st1 else .ok false st1:=rfl
@[simp] theorem tOrM_eq (a b : MT) (Γ : Gam) (st : Store) : tOrM a b Γ st = (a Γ st).bind fun k st1=>if k = true then .ok true st1 else b Γ st1:=rfl
@[simp] theorem tNotM_eq (a : MT) (Γ : Gam) (st : Store) : tNotM a Γ st = (a Γ st).bind fun k st1=>.ok (!k) st1:=rfl
@[simp] theorem mNil_eq (Γ : Gam) (st : Store) : mNil Γ st = .ok [] st:=rfl
@[simp] theorem mCons_eq (m : ME) (mr : ML) (Γ : Gam) (st : Store) : mCons m mr Γ st = (m Γ st).bind fun p st1=>(mr Γ st1).bind fun ps st2=>.ok (p :: ps) st2:=rfl
@[simp] theorem mTup_eq (mr : ML) (Γ : Gam) (st : Store) : mTup mr Γ st = (mr Γ st).bind fun ps st1=>if ps.length <= lim then .ok (.tup ps) st1 else .stuck:=rfl
@[simp] theorem mLst_eq (mr : ML) (Γ : Gam) (st : Store) : mLst mr Γ st = (mr Γ st).bind fun ps st1=>if ps.length <= lim then .ok (.lst ps) st1 else .stuck:=rfl
@[simp] theorem mLstN_eq (mr : ML) (Γ : Gam) (st : Store) : mLstN mr Γ st = (mr Γ st).bind fun ps st1=>if ps.length <= lim then .ok ps st1 else .stuck:=rfl
@[simp] theorem mSl_eq (m : ME) (l h : Gam -> Store -> Res (Option Int)) (Γ : Gam) (st : Store) : mSl m l h Γ st = (m Γ st).bind fun p st1=>(l Γ st1).bind fun lo st2=>(h Γ st2).bind fun hi st3=>oSl st3 p lo hi:=rfl
@[simp] theorem mNoPart_eq (Γ : Gam) (st : Store) : mNoPart Γ st = .ok none st:=rfl
@[simp] theorem mPart_eq (m : ME) (Γ : Gam) (st : Store) : mPart m Γ st = (m Γ st).bind fun p st1=>(match p with | .int i=>.ok (some i) st1 | _=>.stuck):=rfl
@[simp] theorem mCall_eq (o : CF) (mr : ML) (Γ : Gam) (st : Store) : mCall o mr Γ st = (mr Γ st).bind fun ps st1=>o st1 ps:=rfl
@[simp] theorem mIsI_eq (T : String) (m : ME) (Γ : Gam) (st : Store) : mIsI T m Γ st = (m Γ st).bind fun p st1=>if frzd st1 p = true then .stuck else .ok (.bl (isI T (dpv st1 p))) st1:=rfl
@[simp] theorem frzd_non (st : Store) : frzd st .non = false:=rfl
@[simp] theorem frzd_bl (st : Store) (b : Bool) : frzd st (.bl b) = false:=rfl
@[simp] theorem frzd_int (st : Store) (b : Int) : frzd st (.int b) = false:=rfl
@[simp] theorem frzd_str (st : Store) (b : Str) : frzd st (.str b) = false:=rfl
@[simp] theorem frzd_tup (st : Store) (b : List PV) : frzd st (.tup b) = false:=rfl
@[simp] theorem frzd_lst (st : Store) (b : List PV) : frzd st (.lst b) = false:=rfl
@[simp] theorem frzd_fro (st : Store) (b : List PV) : frzd st (.fro b) = false:=rfl
@[simp] theorem frzd_dic (st : Store) : frzd st .dic = false:=rfl
@[simp] theorem frzd_ref (st : Store) (i : Nat) : frzd st (.ref i) = (match st[i]? with | some (.frd _)=>true | some (.obj _ _)=>true | _=>false):=rfl
@[simp] theorem dpv_non (st : Store) : dpv st .non = .non:=rfl
@[simp] theorem dpv_bl (st : Store) (b : Bool) : dpv st (.bl b) = (.bl b):=rfl
@[simp] theorem dpv_int (st : Store) (b : Int) : dpv st (.int b) = (.int b):=rfl
@[simp] theorem dpv_str (st : Store) (b : Str) : dpv st (.str b) = (.str b):=rfl
@[simp] theorem dpv_tup (st : Store) (b : List PV) : dpv st (.tup b) = (.tup b):=rfl
@[simp] theorem dpv_lst (st : Store) (b : List PV) : dpv st (.lst b) = (.lst b):=rfl
@[simp] theorem dpv_fro (st : Store) (b : List PV) : dpv st (.fro b) = (.fro b):=rfl
@[simp] theorem dpv_dc (st : Store) : dpv st .dic = .dic:=rfl
@[simp] theorem dpv_r (st : Store) (i : Nat) : dpv st (.ref i) = (match st[i]? with | some (.dic _)=>.dic | some (.dtp _)=>.dic | _=>.ref i):=rfl
@[simp] theorem mVal_eq (m : ML) (Γ : Gam) (st : Store) : mVal m Γ st = (m Γ st).bind fun ps st1=>.ok (.lst ps) st1:=rfl
@[simp] theorem mTrk_eq (m : ML) (Γ : Gam) (st : Store) : mTrk m Γ st = (m Γ st).bind fun ps st1=>.ok (.ref st1.length) (st1 ++ [.lst ps]):=rfl
@[simp] theorem mCompN_eq (cap : List (Option Nat)) (ga : GA) (mi : MI) (mt : MT) (me : ME) (Γ : Gam) (st : Store) : mCompN cap ga mi mt me Γ st = (mi Γ st).bind fun iw st1=>noX (compG ga mt me iw.2 (capG cap Γ) iw.1 st1):=rfl
@[simp] theorem mTrue_eq (Γ : Gam) (st : Store) : mTrue Γ st = .ok true st:=rfl
@[simp] theorem mCallF_eq (n : Nat) (F : FN) (mr : ML) (Γ : Gam) (st : Store) : mCallF n F mr Γ st = (mr Γ st).bind fun ps st1=>if ps.length = n then F ps st1 else .stuck:=rfl
@[simp] theorem mNext_eq (Γ : Gam) (st : Store) : mNext Γ st = .nx Γ st:=rfl
@[simp] theorem mSeqS_eq (a b : MS) (Γ : Gam) (st : Store) : mSeqS a b Γ st = (match a Γ st with | .nx Γ1 st1=>b Γ1 st1 | r=>r):=rfl
@[simp] theorem mExpr_eq (m : ME) (Γ : Gam) (st : Store) : mExpr m Γ st = (m Γ st).sbind fun _ st1=>.nx Γ st1:=rfl
@[simp] theorem mRet_eq (m : ME) (Γ : Gam) (st : Store) : mRet m Γ st = (m Γ st).sbind fun p st1=>.rt p st1:=rfl
@[simp] theorem mSet_eq (i : Nat) (m : ME) (Γ : Gam) (st : Store) : mSet i m Γ st = (m Γ st).sbind fun p st1=>.nx (Γ.set i (some p)) st1:=rfl
@[simp] theorem mIfS_eq (c : MT) (a b : MS) (Γ : Gam) (st : Store) : mIfS c a b Γ st = (c Γ st).sbind fun k st1=>if k = true then a Γ st1 else b Γ st1:=rfl
@[simp] theorem mFor_eq (ga : GA) (mi : MI) (b : MS) (Γ : Gam) (st : Store) : mFor ga mi b Γ st = (mi Γ st).sbind fun iw st1=>forG ga b iw.2 iw.1 Γ st1:=rfl
@[simp] theorem mSeq_eq (m : ME) (Γ : Gam) (st : Store) : mSeq m Γ st = (m Γ st).bind fun p st1=>(match srcOf st1 p with | some (xs,w)=>if xs.length <= lim then .ok (xs,w) st1 else .stuck | none=>.stuck):=rfl
@[simp] theorem mRange1_eq (mr : ML) (Γ : Gam) (st : Store) : mRange1 mr Γ st = (mr Γ st).bind fun ps st1=>(match ps with | [.int j]=>if -(lim : Int) <= j /\ j <= lim then .ok (rangeI 0 j.toNat,[]) st1 else .stuck | _=>.stuck):=rfl
@[simp] theorem mEnum_eq (mr : ML) (Γ : Gam) (st : Store) : mEnum mr Γ st = (mr Γ st).bind fun ps st1=>(match ps with | [p]=>(match srcOf st1 p with | some (xs,w)=>if xs.length <= lim then .ok (enumT 0 xs,w) st1 else .stuck | none=>.stuck) | _=>.stuck):=rfl
@[simp] theorem mBM_eq (f : MF) (mo : ME) (mr : ML) (Γ : Gam) (st : Store) : mBM f mo mr Γ st = (mo Γ st).bind fun p st1=>(match listOf st1 p with | some _=>(mr Γ st1).bind fun ps st2=>f st2 p ps | none=>.stuck):=rfl
@[simp] theorem mSetIx_eq (mo mi m : ME) (Γ : Gam) (st : Store) : mSetIx mo mi m Γ st = (m Γ st).sbind fun p st1=>(mo Γ st1).sbind fun o st2=>(mi Γ st2).sbind fun i st3=>(match setIx st3 o i p with | some st4=>.nx Γ st4 | none=>.stuck):=rfl
@[simp] theorem mRaise_eq (x : Str) (m : ME) (Γ : Gam) (st : Store) : mRaise x m Γ st = (m Γ st).sbind fun _ st1=>.exc ⟨x,none⟩ st1:=rfl
@[simp] theorem gaName_eq (i : Nat) (p : PV) (Γ : Gam) : gaName i p Γ = some (Γ.set i (some p)):=rfl
@[simp] theorem gaNil_eq (Γ : Gam) : gaNil [] Γ = some Γ:=rfl
@[simp] theorem gaCons_eq (g : GA) (gs : GAs) (p : PV) (r : List PV) (Γ : Gam) : gaCons g gs (p :: r) Γ = (g p Γ).bind (gs r):=rfl
@[simp] theorem gaTup_eq (gs : GAs) (ps : List PV) (Γ : Gam) : gaTup gs (.tup ps) Γ = gs ps Γ:=rfl
@[simp] theorem noX_ok {α : Type} (a : α) (st : Store) : noX (Res.ok a st) = .ok a st:=rfl
@[simp] theorem noX_stuck {α : Type} : noX (Res.stuck : Res α) = .stuck:=rfl
@[simp] theorem okO_some {α : Type} (st : Store) (a : α) : okO st (some a) = .ok a st:=rfl
@[simp] theorem okO_none {α : Type} (st : Store) : okO st (none : Option α) = .stuck:=rfl
@[simp] theorem oI_eq (g : Int -> Int -> PV) (st : Store) (a b : Int) : oI g st (.int a) (.int b) = .ok (g a b) st:=rfl
@[simp] theorem oAdd_int (st : Store) (a b : Int) : oAdd st (.int a) (.int b) = .ok (.int (a + b)) st:=rfl
@[simp] theorem oAdd_tup (st : Store) (a b : List PV) : oAdd st (.tup a) (.tup b) = if a.length + b.length <= lim then .ok (.tup (a ++ b)) st else .stuck:=rfl
@[simp] theorem oMul_int (st : Store) (a b : Int) : oMul st (.int a) (.int b) = if (-(2 ^ 64) < a /\ a < 2 ^ 64) \/ (-(2 ^ 64) < b /\ b < 2 ^ 64) then .ok (.int (a * b)) st else .stuck:=rfl
@[simp] theorem oMul_tup (st : Store) (xs : List PV) (b : Int) : oMul st (.tup xs) (.int b) = if xs ≠ [] /\ 1 <= b /\ xs.length * b.toNat <= 4096 then .ok (.tup (List.replicate b.toNat xs).flatten) st else .stuck:=rfl
@[simp] theorem oMod_int (st : Store) (a b : Int) : oMod st (.int a) (.int b) = if 0 < b then .ok (.int (a % b)) st else .stuck:=rfl
@[simp] theorem oDiv_int (st : Store) (a b : Int) : oDiv st (.int a) (.int b) = if 0 < b /\ b < 1073741824 then .ok (.int (a / b)) st else .stuck:=rfl
@[simp] theorem oPow_int (st : Store) (a b : Int) : oPow st (.int a) (.int b) = if 0 <= b /\ b <= 1000000 /\ a.natAbs < 2 ^ 64 then .ok (.int (a ^ b.toNat)) st else .stuck:=rfl
@[simp] theorem oLt_int (st : Store) (a b : Int) : oLt st (.int a) (.int b) = .ok (.bl (decide (a < b))) st:=rfl
@[simp] theorem oEq_int (st : Store) (a b : Int) : oEq st (.int a) (.int b) = .ok (.bl (a == b)) st:=rfl
@[simp] theorem oNe_int (st : Store) (a b : Int) : oNe st (.int a) (.int b) = .ok (.bl (!(a == b))) st:=rfl
@[simp] theorem oEq_bl (st : Store) (a b : Bool) : oEq st (.bl a) (.bl b) = .ok (.bl (a == b)) st:=rfl
@[simp] theorem oNe_bl (st : Store) (a b : Bool) : oNe st (.bl a) (.bl b) = .ok (.bl (!(a == b))) st:=rfl
@[simp] theorem oEq_str (st : Store) (a b : Str) : oEq st (.str a) (.str b) = .ok (.bl (a == b)) st:=rfl
@[simp] theorem oNe_str (st : Store) (a b : Str) : oNe st (.str a) (.str b) = .ok (.bl (!(a == b))) st:=rfl
@[simp] theorem oIs_non (st : Store) (p : PV) : oIs st p .non = .ok (.bl (isNon p)) st:=rfl
@[simp] theorem oIs_bl (st : Store) (a b : Bool) : oIs st (.bl a) (.bl b) = .ok (.bl (a == b)) st:=rfl
@[simp] theorem oIsNot_non (st : Store) (p : PV) : oIsNot st p .non = .ok (.bl (!isNon p)) st:=rfl
@[simp] theorem oIsNot_bl (st : Store) (a b : Bool) : oIsNot st (.bl a) (.bl b) = .ok (.bl (a != b)) st:=rfl
@[simp] theorem lstOf_lst (st : Store) (xs : List PV) : lstOf st (.lst xs) = some xs:=rfl
@[simp] theorem listOf_lst (st : Store) (xs : List PV) : listOf st (.lst xs) = some xs:=rfl
@[simp] theorem listOf_fro (st : Store) (xs : List PV) : listOf st (.fro xs) = some xs:=rfl
@[simp] theorem seqOf_lst (st : Store) (xs : List PV) : seqOf st (.lst xs) = some xs:=rfl
@[simp] theorem seqOf_fro (st : Store) (xs : List PV) : seqOf st (.fro xs) = some xs:=rfl
@[simp] theorem seqOf_tup (st : Store) (xs : List PV) : seqOf st (.tup xs) = some xs:=rfl
@[simp] theorem srcOf_lst (st : Store) (xs : List PV) : srcOf st (.lst xs) = some (xs,[]):=rfl
@[simp] theorem srcOf_fro (st : Store) (xs : List PV) : srcOf st (.fro xs) = some (xs,[]):=rfl
@[simp] theorem srcOf_tup (st : Store) (xs : List PV) : srcOf st (.tup xs) = some (xs,[]):=rfl
@[simp] theorem oIx_tup (st : Store) (xs : List PV) (i : Int) : oIx st (.tup xs) (.int i) = okO st (atI xs i):=rfl
@[simp] theorem oIx_lst (st : Store) (xs : List PV) (i : Int) : oIx st (.lst xs) (.int i) = okO st (atI xs i):=rfl
@[simp] theorem oIx_fro (st : Store) (xs : List PV) (i : Int) : oIx st (.fro xs) (.int i) = okO st (atI xs i):=rfl
@[simp] theorem oSl_tup (st : Store) (xs : List PV) (l h : Option Int) : oSl st (.tup xs) l h = .ok (.tup (cut xs l h)) st:=rfl
@[simp] theorem oSl_lst (st : Store) (xs : List PV) (l h : Option Int) : oSl st (.lst xs) l h = .ok (.lst (cut xs l h)) st:=rfl
@[simp] theorem oSl_fro (st : Store) (xs : List PV) (l h : Option Int) : oSl st (.fro xs) l h = .ok (.lst (cut xs l h)) st:=rfl
@[simp] theorem cLen_tup (st : Store) (xs : List PV) : cLen st [.tup xs] = .ok (.int xs.length) st:=rfl
@[simp] theorem cLen_lst (st : Store) (xs : List PV) : cLen st [.lst xs] = .ok (.int xs.length) st:=rfl
@[simp] theorem cLen_fro (st : Store) (xs : List PV) : cLen st [.fro xs] = .ok (.int xs.length) st:=rfl
@[simp] theorem cTuple_tup (st : Store) (xs : List PV) : cTuple st [.tup xs] = .ok (.tup xs) st:=rfl
@[simp] theorem cTuple_lst (st : Store) (xs : List PV) : cTuple st [.lst xs] = .ok (.tup xs) st:=rfl
@[simp] theorem cBls_lst (g : List Bool -> PV) (st : Store) (bs : List Bool) : cBls g st [.lst (bs.map .bl)] = .ok (g bs) st:=by
  simp only [cBls,seqOf_lst,Option.bind_some,bls_map]
@[simp] theorem cInts_lst (g : List Int -> Option PV) (st : Store) (ns : List Int) : cInts g st [.lst (ns.map .int)] = okO st (g ns):=by
  simp only [cInts,seqOf_lst,Option.bind_some,ints_map]
@[simp] theorem cInts_tup (g : List Int -> Option PV) (st : Store) (ns : List Int) : cInts g st [.tup (ns.map .int)] = okO st (g ns):=by
  simp only [cInts,seqOf_tup,Option.bind_some,ints_map]
@[simp] theorem wOk_nil' (st : Store) : wOk [] st = True:=by simp [wOk]
@[simp] theorem fin_bl (st : Store) (b : Bool) : fin st (.bl b) st = .ok (.bl b) st:=by simp [fin,fz]
@[simp] theorem fin_int (st : Store) (b : Int) : fin st (.int b) st = .ok (.int b) st:=by simp [fin,fz]
@[simp] theorem fin_non (st : Store) : fin st .non st = .ok .non st:=by simp [fin,fz]
@[simp] theorem fin_str (st : Store) (b : Str) : fin st (.str b) st = .ok (.str b) st:=by simp [fin,fz]
theorem fin_good {st : Store} {v : PV} (g : good 12 v = true) : fin st v st = .ok v st:=by
  simp only [fin,List.prefix_rfl,if_true,fz_good g (by decide : 12 < 16),okO_some]
theorem fin_goodA {st more : Store} {v : PV} (g : good 12 v = true) : fin st v (st ++ more) = .ok v st:=by
  simp only [fin,List.prefix_append,if_true,fz_good g (by decide : 12 < 16),okO_some]
theorem lim_eq : lim = 1000000:=rfl
theorem compG_on {α : Type} (g f : α -> PV) {ga : GA} {me : ME} {w : Wt} {Γ0 : Gam} {st : Store} (hw : wOk w st) {ys : List α} (h : ∀ y ∈ ys,∃ Γ1,ga (g y) Γ0 = some Γ1 /\ me Γ1 st = .ok (f y) st) : compG ga mTrue me w Γ0 (ys.map g) st = .ok (ys.map f) st:=by
  induction ys with
  | nil=>simp [compG,hw]
  | cons y ys ih=>
    obtain ⟨Γ1,h1,h2⟩:=h y List.mem_cons_self
    have ih:=ih fun z hz=>h z (List.mem_cons_of_mem _ hz)
    rw [List.map_cons,compG,if_pos hw,h1]
    simp [h2,ih]
theorem compG_onF {α : Type} (g f : α -> PV) (t : α -> Bool) {ga : GA} {mt : MT} {me : ME} {w : Wt} {Γ0 : Gam} {st : Store} (hw : wOk w st) {ys : List α} (h : ∀ y ∈ ys,∃ Γ1,ga (g y) Γ0 = some Γ1 /\ mt Γ1 st = .ok (t y) st /\ (t y = true -> me Γ1 st = .ok (f y) st)) : compG ga mt me w Γ0 (ys.map g) st = .ok ((ys.filter t).map f) st:=by
  induction ys with
  | nil=>simp [compG,hw]
  | cons y ys ih=>
    obtain ⟨Γ1,h1,h2,h3⟩:=h y List.mem_cons_self
    have ih:=ih fun z hz=>h z (List.mem_cons_of_mem _ hz)
    rw [List.map_cons,compG,if_pos hw,h1]
    simp only [h2,bind_ok,ih]
    cases tx : t y with
    | true=>simp [h3 tx,tx,ih]
    | false=>simp [tx]
@[simp] theorem cBls_map {α : Type} (g : List Bool -> PV) (st : Store) (ys : List α) (b : α -> Bool) : cBls g st [.lst (ys.map fun y=>.bl (b y))] = .ok (g (ys.map b)) st:=by
  rw [show (ys.map fun y=>PV.bl (b y)) = (ys.map b).map .bl by rw [List.map_map]; rfl,cBls_lst]
@[simp] theorem cInts_map {α : Type} (g : List Int -> Option PV) (st : Store) (ys : List α) (b : α -> Int) : cInts g st [.lst (ys.map fun y=>.int (b y))] = okO st (g (ys.map b)):=by
  rw [show (ys.map fun y=>PV.int (b y)) = (ys.map b).map .int by rw [List.map_map]; rfl,cInts_lst]
theorem forG_inv {α : Type} (g : α -> PV) {xs : List α} (I : Nat -> Gam -> Store -> Prop) {ga : GA} {body : MS} {w : Wt} (hw : ∀ i Γ st,I i Γ st -> wOk w st)
    (h : ∀ (i : Nat) x Γ st,xs[i]? = some x -> I i Γ st -> ∃ Γ1,ga (g x) Γ = some Γ1 /\ ∃ Γ2 st2,body Γ1 st = .nx Γ2 st2 /\ I (i + 1) Γ2 st2) {Γ : Gam} {st : Store} (h0 : I 0 Γ st) : ∃ Γ' st',forG ga body w (xs.map g) Γ st = .nx Γ' st' /\ I xs.length Γ' st':=by
  induction xs generalizing I Γ st with
  | nil=>exact ⟨Γ,st,by simp [forG,hw 0 Γ st h0],h0⟩
  | cons x xs ih=>
    obtain ⟨Γ1,h1,Γ2,st2,e2,i2⟩:=h 0 x Γ st rfl h0
    obtain ⟨Γ',st',e3,i3⟩:=ih (fun i=>I (i + 1)) (fun i Γ st z=>hw (i + 1) Γ st z) (fun i y Γ st hy z=>h (i + 1) y Γ st (by simpa using hy) z) i2
    refine ⟨Γ',st',?_,i3⟩
    rw [List.map_cons,forG,if_pos (hw 0 Γ st h0),h1]
    simp only [e2]
    exact e3
theorem forG_invL {α : Type} (g : α -> PV) {xs : List α} (I : List α -> Gam -> Store -> Prop) {ga : GA} {body : MS} {w : Wt} (hw : ∀ pre Γ st,I pre Γ st -> wOk w st)
    (h : ∀ pre x post Γ st,xs = pre ++ x :: post -> I pre Γ st -> ∃ Γ1,ga (g x) Γ = some Γ1 /\ ∃ Γ2 st2,body Γ1 st = .nx Γ2 st2 /\ I (pre ++ [x]) Γ2 st2) {Γ : Gam} {st : Store} (h0 : I [] Γ st) : ∃ Γ' st',forG ga body w (xs.map g) Γ st = .nx Γ' st' /\ I xs Γ' st':=by
  have key : ∀ (post pre : List α) (Γ : Gam) (st : Store),xs = pre ++ post -> I pre Γ st -> ∃ Γ' st',forG ga body w (post.map g) Γ st = .nx Γ' st' /\ I xs Γ' st':=by
    intro post
    induction post with
    | nil=>intro pre Γ st e i; exact ⟨Γ,st,by simp [forG,hw pre Γ st i],by rw [e,List.append_nil]; exact i⟩
    | cons x post ih=>
      intro pre Γ st e i
      obtain ⟨Γ1,h1,Γ2,st2,e2,i2⟩:=h pre x post Γ st e i
      obtain ⟨Γ',st',e3,i3⟩:=ih (pre ++ [x]) Γ2 st2 (by rw [e]; simp) i2
      refine ⟨Γ',st',?_,i3⟩
      rw [List.map_cons,forG,if_pos (hw pre Γ st i),h1]
      simp only [e2]
      exact e3
  exact key xs [] Γ st rfl h0
theorem enumT_map {α : Type} (f : α -> PV) : ∀ (n : Nat) (xs : List α),enumT n (xs.map f) = (xs.zipIdx n).map fun z=>.tup [.int (z.2 : Nat),f z.1]
  | n,[]=>rfl
  | n,x :: xs=>by rw [List.map_cons,enumT,enumT_map f (n + 1) xs]; rfl
theorem atI_map {α : Type} (f : α -> PV) (xs : List α) (i : Int) : atI (xs.map f) i = (atI xs i).map f:=by
  unfold atI
  rw [List.length_map]
  cases ixN xs.length i with
  | none=>rfl
  | some j=>simp [List.getElem?_map]
theorem atI_get {α : Type} {xs : List α} {i : Nat} {x : α} (h : xs[i]? = some x) : atI xs (i : Int) = some x:=by
  have hl:=(List.getElem?_eq_some_iff.mp h).1
  unfold atI ixN
  rw [if_pos (by omega),if_pos (by omega)]
  simpa using h
theorem cut_map {α : Type} (f : α -> PV) (xs : List α) (l h : Option Int) : cut (xs.map f) l h = (cut xs l h).map f:=by
  unfold cut
  rw [List.length_map,<- List.map_drop,<- List.map_take]
theorem rangeI0 (n : Nat) : rangeI 0 n = (List.range n).map fun (k : Nat)=>PV.int (k : Int):=by
  unfold rangeI
  refine List.map_congr_left fun k _=>?_
  rw [Int.zero_add]
@[simp] theorem tr_get {α : Type} (st l : List α) (c : α) : (st ++ c :: l)[st.length]? = some c:=by
  rw [List.getElem?_append_right (Nat.le_refl _),Nat.sub_self]; rfl
@[simp] theorem tr_get1 {α : Type} (st l : List α) (c d : α) : (st ++ c :: d :: l)[st.length + 1]? = some d:=by
  rw [List.getElem?_append_right (by omega)]
  rw [show st.length + 1 - st.length = 1 by omega]; rfl
@[simp] theorem tr_set {α : Type} (st l : List α) (c d : α) : (st ++ c :: l).set st.length d = st ++ d :: l:=by
  rw [List.set_append_right _ _ (Nat.le_refl _),Nat.sub_self]; rfl
@[simp] theorem tr_set1 {α : Type} (st l : List α) (c c' d : α) : (st ++ c :: c' :: l).set (st.length + 1) d = st ++ c :: d :: l:=by
  rw [List.set_append_right _ _ (by omega),show st.length + 1 - st.length = 1 by omega]; rfl
@[simp] theorem chg_ref (st : Store) (i : Nat) (g : List PV -> Option (PV × List PV)) : chg st (.ref i) g = (match st[i]? with | some (.lst xs)=>(match g xs with | some (r,ys)=>.ok r (st.set i (.lst ys)) | none=>.stuck) | _=>.stuck):=rfl
@[simp] theorem lstOf_r (st : Store) (i : Nat) : lstOf st (.ref i) = (match st[i]? with | some (.lst xs)=>some xs | _=>none):=rfl
@[simp] theorem listOf_r (st : Store) (i : Nat) : listOf st (.ref i) = (match st[i]? with | some (.lst xs)=>some xs | _=>none):=rfl
@[simp] theorem seqOf_r (st : Store) (i : Nat) : seqOf st (.ref i) = (match st[i]? with | some (.lst xs)=>some xs | _=>none):=rfl
@[simp] theorem srcOf_r (st : Store) (i : Nat) : srcOf st (.ref i) = (match st[i]? with | some (.lst xs)=>some (xs,[(i,.lst xs)]) | _=>none):=rfl
@[simp] theorem mtAppend_eq (st : Store) (p y : PV) : mtAppend st p [y] = chg st p fun xs=>if xs.length < lim then some (.non,xs ++ [y]) else none:=rfl
@[simp] theorem cTuple_r (st : Store) (i : Nat) : cTuple st [.ref i] = (match st[i]? with | some (.lst xs)=>.ok (.tup xs) st | _=>.stuck):=by
  unfold cTuple; simp only [seqOf_r]
  cases st[i]? with
  | none=>rfl
  | some c=>cases c <;> rfl
@[simp] theorem cLen_r (st : Store) (i : Nat) : cLen st [.ref i] = (match st[i]? with | some (.lst xs)=>.ok (.int xs.length) st | _=>.stuck):=by
  unfold cLen; simp only [seqOf_r]
  cases st[i]? with
  | none=>rfl
  | some c=>cases c <;> rfl
@[simp] theorem oIx_r (st : Store) (i : Nat) (j : Int) : oIx st (.ref i) (.int j) = (match st[i]? with | some (.lst xs)=>okO st (atI xs j) | _=>.stuck):=by
  unfold oIx; simp only [seqOf_r]
  cases st[i]? with
  | none=>rfl
  | some c=>cases c <;> rfl
@[simp] theorem setIx_r (st : Store) (k : Nat) (j : Int) (p : PV) : setIx st (.ref k) (.int j) p = (match st[k]? with | some (.lst xs)=>(ixN xs.length j).map fun n=>st.set k (.lst (xs.set n p)) | _=>none):=rfl
theorem cut_front {α : Type} (xs : List α) (k : Nat) : cut xs none (some (k : Int)) = xs.take k:=by
  unfold cut
  rw [HT.sIx_none,HT.sIx_nat,List.drop_zero,Nat.sub_zero]
  rcases Nat.le_total k xs.length with h | h
  · rw [Nat.min_eq_left h]
  · rw [Nat.min_eq_right h,List.take_length,List.take_of_length_le h]
theorem cut_back {α : Type} (xs : List α) (k : Nat) : cut xs (some (k : Int)) none = xs.drop k:=by
  unfold cut
  rw [HT.sIx_none,HT.sIx_nat]
  rcases Nat.le_total k xs.length with h | h
  · rw [Nat.min_eq_left h,List.take_of_length_le (by rw [List.length_drop]; omega)]
  · rw [Nat.min_eq_right h,List.drop_length,List.drop_of_length_le h]; simp
end Sm
namespace Sm
open PySem PySem.Spec L2
theorem getD_some {α : Type} {l : List α} {j : Nat} (h : j < l.length) (d : α) : l[j]? = some (l.getD j d):=by
  rw [List.getD,List.getElem?_eq_getElem h]; rfl
def ListAt (st : Store) (V : PV) (xs : List PV) : Prop:=V = .lst xs \/ V = .fro xs \/ ∃ i,V = .ref i /\ st[i]? = some (.lst xs)
theorem ListAt.ix {st : Store} {V : PV} {xs : List PV} (h : ListAt st V xs) (j : Int) : oIx st V (.int j) = okO st (atI xs j):=by
  rcases h with rfl | rfl | ⟨i,rfl,e⟩
  · rfl
  · rfl
  · rw [oIx_r,e]
theorem ListAt.len {st : Store} {V : PV} {xs : List PV} (h : ListAt st V xs) : cLen st [V] = .ok (.int xs.length) st:=by
  rcases h with rfl | rfl | ⟨i,rfl,e⟩
  · rfl
  · rfl
  · rw [cLen_r,e]
theorem ListAt.src {st : Store} {V : PV} {xs : List PV} (h : ListAt st V xs) : ∃ w,srcOf st V = some (xs,w) /\ wOk w st:=by
  rcases h with rfl | rfl | ⟨i,rfl,e⟩
  · exact ⟨[],rfl,by simp⟩
  · exact ⟨[],rfl,by simp⟩
  · exact ⟨[(i,.lst xs)],by rw [srcOf_r,e],by simp [wOk,e]⟩
theorem compG_inv {α : Type} (g : α -> PV) {xs : List α} (I : Nat -> List PV -> Store -> Prop) {ga : GA} {me : ME} {w : Wt} {Γ0 : Gam} (hw : ∀ i out st,I i out st -> wOk w st)
    (h : ∀ (i : Nat) x out st,xs[i]? = some x -> I i out st -> ∃ Γ1,ga (g x) Γ0 = some Γ1 /\ ∃ v st2,me Γ1 st = .ok v st2 /\ I (i + 1) (out ++ [v]) st2) {st : Store} (h0 : I 0 [] st) : ∃ out st',compG ga mTrue me w Γ0 (xs.map g) st = .ok out st' /\ I xs.length out st':=by
  have key : ∀ (ys : List α) (k : Nat) (pre : List PV) (st : Store),(∀ i,ys[i]? = xs[k + i]?) -> k + ys.length = xs.length -> I k pre st -> ∃ out st',compG ga mTrue me w Γ0 (ys.map g) st = .ok out st' /\ I xs.length (pre ++ out) st':=by
    intro ys
    induction ys with
    | nil=>
      intro k pre st e e2 i
      refine ⟨[],st,by simp [compG,hw k pre st i],?_⟩
      rw [List.append_nil,<- e2]; exact i
    | cons y ys ih=>
      intro k pre st e e2 i
      have e0 : xs[k]? = some y:=by have:=e 0; simpa using this.symm
      obtain ⟨Γ1,h1,v,st2,h2,i2⟩:=h k y pre st e0 i
      obtain ⟨out,st',h3,i3⟩:=ih (k + 1) (pre ++ [v]) st2 (fun i=>by
        have:=e (i + 1)
        rw [List.getElem?_cons_succ] at this
        rw [this]; congr 1; omega) (by rw [<- e2,List.length_cons]; omega) i2
      refine ⟨v :: out,st',?_,by simpa using i3⟩
      rw [List.map_cons,compG,if_pos (hw k pre st i),h1]
      simp [mTrue,h2,h3]
  obtain ⟨out,st',h1,h2⟩:=key xs 0 [] st (fun i=>by simp) (by simp) h0
  exact ⟨out,st',h1,by simpa using h2⟩
@[simp] theorem mListN_eq (ma : ME) (Γ : Gam) (st : Store) : mListN ma Γ st = (ma Γ st).bind fun p st1=>match seqOf st1 p with | some xs=>.ok xs st1 | none=>.stuck:=rfl
@[simp] theorem mRepN_eq (ma mb : ME) (Γ : Gam) (st : Store) : mRepN ma mb Γ st = (ma Γ st).bind fun x st1=>(mb Γ st1).bind fun y st2=>oRepN st2 x y:=rfl
theorem ixN_nat {n k : Nat} (h : k < n) : ixN n (k : Int) = some k:=by
  unfold ixN
  rw [if_pos (by omega),if_pos (by omega)]
  simp
theorem peqL_self : ∀ {xs : List PV},(∀ x ∈ xs,peq x x = true) -> peqL xs xs = true
  | [],_=>rfl
  | x :: xs,h=>by
    rw [peqL,h x List.mem_cons_self,peqL_self fun y hy=>h y (List.mem_cons_of_mem _ hy)]; rfl
theorem peq_self : ∀ {n : Nat} {p : PV},good n p = true -> peq p p = true
  | n,.non,_=>rfl
  | n,.bl b,_=>by simp [peq]
  | n,.int b,_=>by simp [peq]
  | n,.str b,_=>by simp [peq]
  | n,.ref _,g=>by cases n <;> simp [good] at g
  | n,.dic,g=>by cases n <;> simp [good] at g
  | 0,.tup _,g=>by simp [good] at g
  | 0,.lst _,g=>by simp [good] at g
  | 0,.fro _,g=>by simp [good] at g
  | n + 1,.tup xs,g=>by
    rw [peq]; refine peqL_self fun x hx=>peq_self (n:=n) ?_
    simp [good] at g; exact g x hx
  | n + 1,.lst xs,g=>by
    rw [peq]; refine peqL_self fun x hx=>peq_self (n:=n) ?_
    simp [good] at g; exact g x hx
  | n + 1,.fro xs,g=>by
    rw [peq]; refine peqL_self fun x hx=>peq_self (n:=n) ?_
    simp [good] at g; exact g x hx
end Sm
namespace Sm
open PySem PySem.Spec L2
section
variable {X : Cx} {E : XK} {a b : Expr} {ma mb : ME} {pos : Pos}
end
end Sm
namespace Sm
open PySem PySem.Spec L2
def callK (body : MS) (nl : Nat) : FN:=fun ps st=>match body (ps.map some ++ List.replicate (nl - ps.length) none) st with
  | .rt v st'=>.ok v st'
  | .nx _ st'=>.ok .non st'
  | .exc x st'=>.exc x st'
  | _=>.stuck
section
variable {P : Program} {w : World} {K : PySem.W.Frag} {mg : Str -> Option Value} {base : Heap}
theorem fun_okK {x qual : Str} {st : Stmt} {f : Addr} {fd : FuncData} {N ps : List Str} {k : Nat} {m : MS} (F : Fun K x qual st f fd) (S : FnScope N ps (defScope st))
    (hb : ∀ (cdv : Value) (A : Around) (outer : List PySem.Env) (s : Shared) (H : Hp) (E : XK),Room k (A.deeper (PyProof.Rows.envOfC qual (defScope st) s.heap.objs.size f cdv)) -> SimB (cxD P w K mg base N qual (defScope st) f cdv A outer s H E) E (defBody st) m) :
    FnOk P w K mg base (CXD P w) (k + 1) f fd ps (spF mg ps.length (callK m N.length)):=by
  refine Fun.okD F S (fun vs H Q E h=>h.1) fun cdv A outer s H vs Q E hr hsp=>⟨_,pss_w,?_⟩
  obtain ⟨hl,ρ,st0,pvs,R,rl,hA⟩:=hsp
  refine (hb cdv A outer s H E hr).run _ (L2.start N vs) H ρ st0 _ R (start_env rl) ?_
  unfold callK at hA
  cases rr : m (pvs.map some ++ List.replicate (N.length - pvs.length) none) st0 with
  | rt v st1=>rw [rr] at hA; exact fun v H' ρ' x R' r=>hA H' ρ' x R' v r
  | nx Γ st1=>rw [rr] at hA; exact fun σ' H' ρ' x' R' G'=>hA H' ρ' x' R' .non rfl
  | bk Γ st1=>rw [rr] at hA; exact hA.elim
  | ct Γ st1=>rw [rr] at hA; exact hA.elim
  | stuck=>rw [rr] at hA; exact hA.elim
  | exc y st1=>rw [rr] at hA; exact hA
end
theorem fun_ok2K {P : Program} {w : World} {K : PySem.W.Frag} {mg : Str -> Option Value} {base : Heap} {x qual : Str} {st : Stmt} {f : Addr} {fd : FuncData} {N ps : List Str} {k n nl : Nat} {m : MS} {FF : FN} (F : Fun K x qual st f fd) (S : FnScope N ps (defScope st)) (hn : ps.length = n) (hnl : N.length = nl) (hF : FF = callK m nl)
    (hb : ∀ (cdv : Value) (A : Around) (outer : List PySem.Env) (s : Shared) (H : Hp) (E : XK),Room k (A.deeper (PyProof.Rows.envOfC qual (defScope st) s.heap.objs.size f cdv)) -> SimB (cxD P w K mg base N qual (defScope st) f cdv A outer s H E) E (defBody st) m) :
    FnOk P w K mg base (CXD P w) (k + 1) f fd ps (spF mg n FF):=by
  subst hn; subst hnl; subst hF
  exact fun_okK F S hb
end Sm
namespace Sm
open PySem PySem.Spec PyProof.Rows L2
section
variable {X : Cx} {E : XK} {pos : Pos} {a b : Expr} {ma mb : ME}
end
end Sm
namespace Sm
open PySem PySem.Spec L2
section
variable {X : Cx} {E : XK} {pos : Pos} {e : Expr} {m : ME}
end
section
end
section
variable {X : Cx} {E : XK} {pos dpos : Pos} {e1 e2 e3 i : Expr} {m1 m2 m3 mi : ME} {k1 k2 k3 : Str} {j1 j2 j3 : Nat} {q1 q2 q3 : Pos}
end
section
variable {X : Cx} {E : XK} {pos : Pos} {e : Expr} {m : ME}
end
theorem room_u1 {k : Nat} {A : Around} (r : Room k A) : A.units + 9 < cLine:=by have:=r.un; omega
end Sm
namespace Sm
open PySem PySem.Spec L2
section
variable {X : Cx} {E : XK}
end
end Sm
namespace Sm
open PySem PySem.Spec L2
section
variable {H0 H : Hp} {ρ0 ρ : Tk} {st : Store} {a : Addr} {ps : List (Key × PV)} {vs : List (Key × V)}
end
section
variable {X : Cx} {E : XK} {pos dpos apos cpos : Pos} {e e1 e2 e3 i o f : Expr} {m m1 m2 m3 mi mo mf : ME} {k1 k2 k3 : Str} {j1 j2 j3 : Nat} {q1 q2 q3 : Pos}
end
end Sm
namespace Sm
open PySem PySem.Spec L2
section
variable {X : Cx} {E : XK} {pos dpos tpos : Pos} {e i o k : Expr} {m mi mo mk : ME}
end
end Sm
namespace Sm
open PySem PySem.Spec L2
section
variable {X : Cx} {E : XK} {pos dpos tpos : Pos} {e i o k : Expr} {m mi mo mk : ME} {tg : Expr}
end
end Sm
namespace Sm
open PySem PySem.Spec L2
section
variable {X : Cx} {E : XK}
end
end Sm
namespace Sm
open PySem PySem.Spec PyProof.Rows L2
section
variable {X : Cx} {E : XK}
end
end Sm
namespace Sm
open PySem PySem.Spec L2
section
variable {X : Cx} {E : XK} {pos apos tp : Pos} {e : Expr} {m : ME} {elts : List Expr} {kt : Nat}
end
end Sm
namespace Sm
open PySem PySem.Spec L2
def mapO (f : PV -> Option HK) : List PV -> Option (List HK)
  | []=>some []
  | p :: ps=>match f p,mapO f ps with
    | some k,some l=>some (k :: l)
    | _,_=>none
def hkOf : Nat -> PV -> Option HK
  | _,.int i=>some (.int i)
  | _,.str x=>some (.str x)
  | d + 1,.tup ps=>(mapO (hkOf d) ps).map .tup
  | _,_=>none
theorem hkOf_rep {H : Hp} {ρ : Tk} : ∀ (d : Nat) {p : PV} {k : HK} {v : V},hkOf d p = some k -> Rep H ρ p v -> KAt H k v /\ Dp d k:=by
  intro d
  induction d with
  | zero=>
    intro p k v e r
    cases p with
    | int i=>cases e; exact ⟨r,trivial⟩
    | str i=>cases e; exact ⟨r,trivial⟩
    | _=>cases e
  | succ d ih=>
    intro p k v e r
    cases p with
    | int i=>cases e; exact ⟨r,trivial⟩
    | str i=>cases e; exact ⟨r,trivial⟩
    | tup ps=>
      obtain ⟨a,vs,rfl,ha,_,rl⟩:=r
      have key : ∀ {ps : List PV} {l : List HK} {vs : List V},mapO (hkOf d) ps = some l -> RepL H ρ ps vs -> KAtL H l vs /\ ∀ k ∈ l,Dp d k:=by
        intro ps
        induction ps with
        | nil=>intro l vs e r; cases e; exact ⟨r,fun k hk=>nomatch hk⟩
        | cons p ps ihp=>
          intro l vs e ⟨v,t,e1,r1,r2⟩
          unfold mapO at e
          split at e
          · rename_i k l' e2 e3
            cases e
            obtain ⟨h1,h2⟩:=ih e2 r1
            obtain ⟨h3,h4⟩:=ihp e3 r2
            exact ⟨⟨v,t,e1,h1,h3⟩,fun x hx=>by rcases List.mem_cons.mp hx with rfl | hx; exact h2; exact h4 x hx⟩
          · cases e
      unfold hkOf at e
      cases z : mapO (hkOf d) ps with
      | none=>rw [z] at e; cases e
      | some l=>
        rw [z] at e
        cases e
        obtain ⟨h1,h2⟩:=key z rl
        exact ⟨⟨a,vs,rfl,ha,h1⟩,h2⟩
    | _=>cases e
def keyN : PV -> Option HK
  | .tup ps=>hkOf 5 (.tup ps)
  | _=>none
theorem keyN_rep {H : Hp} {ρ : Tk} {p : PV} {k : HK} {v : V} (e : keyN p = some k) (r : Rep H ρ p v) : ∃ b,v = .ref b /\ KR H k b:=by
  cases p with
  | tup ps=>
    have h:=hkOf_rep 5 e r
    obtain ⟨b,vs,rfl,_⟩:=r
    exact ⟨b,rfl,h⟩
  | _=>cases e
def putT (kvs : List (HK × PV)) (k : HK) (v : PV) : List (HK × PV):=
  if (kvs.any fun kv=>decide (kv.1 = k)) = true then kvs.map (fun kv=>if kv.1 = k then (kv.1,v) else kv) else kvs ++ [(k,v)]
theorem repT_put {H : Hp} {ρ : Tk} {kvs : List (HK × PV)} {vs : List (HK × V)} (r : RepD H ρ kvs vs) (k : HK) {p : PV} {v : V} (rp : Rep H ρ p v) : RepD H ρ (putT kvs k p) (putK vs k v):=by
  have ha : (kvs.any fun kv=>decide (kv.1 = k)) = vs.any fun kv=>decide (kv.1 = k):=by
    have e1 : (kvs.any fun kv=>decide (kv.1 = k)) = (kvs.map Prod.fst).any fun x=>decide (x = k):=by rw [List.any_map]; rfl
    have e2 : (vs.any fun kv=>decide (kv.1 = k)) = (vs.map Prod.fst).any fun x=>decide (x = k):=by rw [List.any_map]; rfl
    rw [e1,e2,r.1]
  unfold putT putK
  rw [<- ha]
  by_cases q : (kvs.any fun kv=>decide (kv.1 = k)) = true
  · rw [if_pos q,if_pos q]
    have key : ∀ (kvs : List (HK × PV)) (vs : List (HK × V)),RepD H ρ kvs vs -> RepD H ρ (kvs.map fun kv=>if kv.1 = k then (kv.1,p) else kv) (vs.map fun kv=>if kv.1 = k then (kv.1,v) else kv):=by
      intro kvs
      induction kvs with
      | nil=>
        intro vs r
        cases vs with
        | nil=>exact r
        | cons _ _=>have:=r.length; cases this
      | cons a kvs ih=>
        intro vs r
        cases vs with
        | nil=>have:=r.length; cases this
        | cons b vs=>
          obtain ⟨r1,x,t,e,r2,r3⟩:=r
          obtain ⟨e1,e2⟩:=List.cons.inj (show b.1 :: vs.map Prod.fst = a.1 :: kvs.map Prod.fst from r1)
          obtain ⟨e3,e4⟩:=List.cons.inj (show b.2 :: vs.map Prod.snd = x :: t from e)
          subst e3; subst e4
          obtain ⟨i1,i2⟩:=ih vs ⟨e2,r3⟩
          rw [List.map_cons,List.map_cons]
          by_cases z : a.1 = k
          · have zb : b.1 = k:=e1.trans z
            rw [if_pos z,if_pos zb]
            exact ⟨by rw [List.map_cons,List.map_cons,i1]; show b.1 :: _ = a.1 :: _; rw [e1],RepL.cons rp i2⟩
          · have zb : ¬ b.1 = k:=fun h=>z (e1.symm.trans h)
            rw [if_neg z,if_neg zb]
            exact ⟨by rw [List.map_cons,List.map_cons,i1]; show b.1 :: _ = a.1 :: _; rw [e1],RepL.cons r2 i2⟩
    exact key kvs vs r
  · rw [if_neg q,if_neg q]
    refine ⟨?_,?_⟩
    · rw [List.map_append,List.map_append,r.1]; rfl
    · rw [List.map_append,List.map_append]
      exact r.2.append (RepL.cons rp RepL.nil)
section
variable {X : Cx} {E : XK} {pos dpos tpos : Pos} {e i o k : Expr} {m mi mo mk : ME}
def dtpOf (st : Store) : PV -> Option (List (HK × PV))
  | .ref i=>match st[i]? with
    | some (.dtp kvs)=>some kvs
    | _=>none
  | _=>none
theorem dtpOf_at {H : Hp} {ρ : Tk} {st : Store} {p : PV} {v : V} {kvs : List (HK × PV)} (R : Rel H ρ st) (r : Rep H ρ p v) (e : dtpOf st p = some kvs) : ∃ i a vs,p = .ref i /\ v = .ref a /\ ρ.tr[i]? = some a /\ st[i]? = some (.dtp kvs) /\ H a = some (.dT vs) /\ RepD H ρ kvs vs:=by
  cases p with
  | ref i=>
    obtain ⟨a,ea,rfl⟩:=r
    unfold dtpOf at e
    cases z : st[i]? with
    | none=>simp only [z] at e; cases e
    | some c=>
      simp only [z] at e
      cases c with
      | dtp kvs'=>
        cases e
        obtain ⟨b,vs,eb,hb,rd⟩:=R.dtp z
        rw [ea] at eb
        cases eb
        exact ⟨i,a,vs,rfl,rfl,ea,z,hb,rd⟩
      | lst xs=>cases e
      | dic xs=>cases e
      | frd xs=>cases e
      | obj C xs=>cases e
  | _=>cases e
def dputT (st : Store) (p q v : PV) : Option Store:=match p with
  | .ref n=>match dtpOf st (.ref n),keyN q with
    | some kvs,some k=>if kvs.length < lim then some (st.set n (.dtp (putT kvs k v))) else none
    | _,_=>none
  | _=>none
def mDPutT (mo mi m : ME) : MS:=fun Γ st=>(m Γ st).sbind fun v st1=>(mo Γ st1).sbind fun p st2=>(mi Γ st2).sbind fun q st3=>match dputT st3 p q v with
  | some st4=>.nx Γ st4
  | none=>.stuck
theorem ss_dputT (hu : X.A.units + 9 < cLine) (he : SimE X E e m) (ho : SimE X E o mo) (hi : SimE X E i mi) (hs : swapsWith e (some (.Subscript o i tpos)) pos.line X.env = pure false:=by rfl) : SimS X E (.Assign [.Subscript o i tpos] e pos) (mDPutT mo mi m):=
  ⟨fun Γ σ H ρ st D R G h=>WS.of (ps_dput hu pe_w pe_w pe_w hs) (he.use R G h.bind fun v st1 H1 ρ1 z x1 R1 G1 r1 h1=>ho.use R1 G1 h1.bind fun p st2 H2 ρ2 x x2 R2 G2 r2 h2=>hi.use R2 G2 h2.bind fun q st3 H3 ρ3 y x3 R3 G3 r3 h3=>by
    cases es : dputT st3 p q v with
    | none=>rw [es] at h3; exact h3.elim
    | some st4=>
      rw [es] at h3
      unfold dputT at es
      split at es
      · rename_i n
        split at es
        · rename_i kvs k e1 e2
          split at es
          · rename_i hl
            cases es
            obtain ⟨n',a,vs,en,rfl,ea,hsx,hb,rd⟩:=dtpOf_at R3 (r2.ext x3) e1
            cases en
            obtain ⟨b,rfl,hbt⟩:=keyN_rep e2 r3
            have x4 : Ext H3 ρ3 (upd H3 a (.dT (putK vs k z))) ρ3:=Ext.put (List.mem_of_getElem? ea) hb
            have rz:=(r1.ext (x2.trans x3)).ext x4
            have R4 : Rel (upd H3 a (.dT (putK vs k z))) ρ3 (st3.set n (.dtp (putT kvs k v))):=R3.putC ea hb ⟨_,upd_same,repT_put (rd.ext x4) k rz⟩
            refine ⟨a,_,rfl,DPut.t hb hbt (by rw [<- rd.length]; exact Nat.lt_of_lt_of_le hl lim_le),h3 σ _ ρ3 x4 R4 (G3.ext x4)⟩
          · cases es
        · cases es
      · cases es)⟩
def valT (kvs : List (HK × PV)) (k : HK) : Option PV:=(kvs.find? fun kv=>decide (kv.1 = k)).map (·.2)
theorem repT_val {H : Hp} {ρ : Tk} (k : HK) : ∀ {kvs : List (HK × PV)} {vs : List (HK × V)},RepD H ρ kvs vs -> (valT kvs k = none /\ valV vs k = none) \/ ∃ p v,valT kvs k = some p /\ valV vs k = some v /\ Rep H ρ p v
  | [],[],_=>.inl ⟨rfl,rfl⟩
  | [],b :: vs,r=>by have:=r.length; cases this
  | a :: kvs,[],r=>by have:=r.length; cases this
  | a :: kvs,b :: vs,r=>by
    obtain ⟨r1,x,t,e,r2,r3⟩:=r
    obtain ⟨e1,e2⟩:=List.cons.inj (show b.1 :: vs.map Prod.fst = a.1 :: kvs.map Prod.fst from r1)
    obtain ⟨e3,e4⟩:=List.cons.inj (show b.2 :: vs.map Prod.snd = x :: t from e)
    subst e3; subst e4
    unfold valT valV
    rw [List.find?_cons,List.find?_cons]
    by_cases z : a.1 = k
    · have zb : b.1 = k:=e1.trans z
      rw [decide_eq_true z,decide_eq_true zb]
      exact .inr ⟨a.2,b.2,rfl,rfl,r2⟩
    · have zb : ¬ b.1 = k:=fun h=>z (e1.symm.trans h)
      rw [decide_eq_false z,decide_eq_false zb]
      exact repT_val k ⟨e2,r3⟩
def oInT (neg : Bool) : OP:=fun st p q=>match dtpOf st q,keyN p with
  | some kvs,some k=>.ok (.bl ((valT kvs k).isSome != neg)) st
  | _,_=>.stuck
theorem os_notinT (hu : X.A.units + 9 < cLine) : OpS X E (compareOp .NotIn) (oInT true):=⟨fun H ρ st p q x y Q R rp rq h=>by
  unfold oInT at h
  split at h
  · rename_i kvs k e1 e2
    obtain ⟨n,a,vs,rfl,rfl,_,_,hb,rd⟩:=dtpOf_at R rq e1
    obtain ⟨b,rfl,kr⟩:=keyN_rep e2 rp
    intro pins s σ v u I rv ru
    cases ru
    refine d_notIn hu I (DGet.t hb kr) rv fun s' I'=>⟨.bl _,H,I',rfl,?_⟩
    have : (valV vs k).isSome = (valT kvs k).isSome:=by
      rcases repT_val k rd with ⟨a1,a2⟩ | ⟨p,v,a1,a2,_⟩ <;> rw [a1,a2] <;> rfl
    rw [this]
    have hh : ((valT kvs k).isSome != true) = !(valT kvs k).isSome:=by cases (valT kvs k).isSome <;> rfl
    rw [hh] at h
    exact now R h rfl
  · exact h.elim⟩
end
end Sm
namespace Sm
open PySem PySem.Spec L2
section
variable {H0 H : Hp} {ρ0 ρ : Tk} {st : Store} {a : Addr} {ps : List (HK × PV)} {vs : List (HK × V)}
theorem out_trkT (R0 : Rel H0 ρ0 st) (x : Ext H0 ρ0 H ρ) {st1 : Store} (R : Rel H ρ st1) (hm : a ∈ ρ.hid) (hn : H0 a = none) (ha : H a = some (.dT vs)) (r : RepD H ρ ps vs) :
    Ext H0 ρ0 H ⟨ρ.tr ++ [a],ρ0.hid⟩ /\ Rel H ⟨ρ.tr ++ [a],ρ0.hid⟩ (st1 ++ [.dtp ps]) /\ Rep H ⟨ρ.tr ++ [a],ρ0.hid⟩ (.ref st1.length) (.ref a):=by
  have na0 : a ∉ ρ0.hid:=fun z=>by
    obtain ⟨o,e,_⟩:=R0.hd a z
    rw [hn] at e; cases e
  refine ⟨⟨x.pre.trans (List.prefix_append _ _),fun _ h=>h,fun _ h=>.inl h,x.keep,fun b hb=>?_,x.old,x.frz⟩,⟨?_,?_,fun b hb=>R.hd b (x.hidM b hb),fun b hb z=>?_,fun i b c h1 h2=>?_⟩,a,?_,rfl⟩
  · rcases List.mem_append.mp hb with z | z
    · exact x.new b z
    · have : b = a:=by simpa using z
      subst this; exact .inr hn
  · show (ρ.tr ++ [a]).length = _
    rw [List.length_append,List.length_append,R.len]; rfl
  · show (ρ.tr ++ [a]).Nodup
    refine List.nodup_append.mpr ⟨R.nd,by simp,fun b hb c hc e=>?_⟩
    have : c = a:=by simpa using hc
    subst this; subst e
    exact R.ap b hm hb
  · rcases List.mem_append.mp z with z | z
    · exact R.ap b (x.hidM b hb) z
    · have : b = a:=by simpa using z
      subst this; exact na0 hb
  · have h1 : (ρ.tr ++ [a])[i]? = some b:=h1
    by_cases hi : i < st1.length
    · rw [List.getElem?_append_left (by rw [R.len]; exact hi)] at h1
      rw [List.getElem?_append_left hi] at h2
      have q:=R.cell i b c h1 h2
      cases c with
      | lst qs=>
        obtain ⟨us,e1,e2⟩:=q
        exact ⟨us,e1,e2.trk hm x.hidM⟩
      | dic qs=>
        obtain ⟨us,e1,e2⟩:=q
        exact ⟨us,e1,e2.1,e2.2.trk hm x.hidM⟩
      | dtp qs=>
        obtain ⟨us,e1,e2⟩:=q
        exact ⟨us,e1,e2.1,e2.2.trk hm x.hidM⟩
      | frd qs=>
        obtain ⟨us,e1,e2⟩:=q
        exact ⟨us,e1,e2.1,e2.2.trk hm x.hidM⟩
      | obj C qs=>
        obtain ⟨us,e1,e2⟩:=q
        exact ⟨us,e1,e2.1,e2.2.trk hm x.hidM⟩
    · rw [List.getElem?_append_right (by rw [R.len]; omega)] at h1
      rw [List.getElem?_append_right (by omega)] at h2
      have e0 : i - st1.length = 0:=by
        rcases Nat.eq_zero_or_pos (i - st1.length) with z | z
        · exact z
        · rw [List.getElem?_eq_none (by simp; omega)] at h2; cases h2
      rw [R.len,e0] at h1
      rw [e0] at h2
      simp at h1 h2
      subst h1; subst h2
      exact ⟨vs,ha,r.1,r.2.trk hm x.hidM⟩
  · show (ρ.tr ++ [a])[st1.length]? = some a
    rw [<- R.len,List.getElem?_append_right (Nat.le_refl _),Nat.sub_self]; rfl
end
section
variable {X : Cx} {E : XK} {k e : Expr} {mk m : ME} {dpos : Pos}
def disT (st : Store) (pv pk : PV) : Res PV:=match keyN pk with
  | some ks=>.ok (.ref st.length) (st ++ [.dtp [(ks,pv)]])
  | none=>.stuck
def mDisp1T (mk m : ME) : ME:=fun Γ st=>(mk Γ st).bind fun pk st1=>(m Γ st1).bind fun pv st2=>disT st2 pv pk
theorem se_disp1T (hu : X.A.units + 9 < cLine) (hk : SimE X E k mk) (he : SimE X E e m) : SimE X E (.Dict [some k] [e] dpos) (mDisp1T mk m):=by
  refine ⟨fun Γ σ H ρ st Q R G h=>WE.of (pe_disp1T (by omega) pe_w pe_w) ?_⟩
  intro p hp
  have x0 : Ext H ρ (upd H p (.dT [])) (ρ.hide p):=Ext.hide hp
  refine hk.use' (R.hide hp) (G.hide hp) (h.bind.later x0) fun a1 st1 H1 ρ1 v1 f1 x1 R1 G1 r1 _=>?_
  have h:=h
  unfold mDisp1T at h
  rw [f1] at h
  have h : Acc X.mg E H ρ (QV Q) ((m Γ st1).bind fun pv st2=>disT st2 pv a1):=h
  refine he.use' R1 G1 (h.bind.later (x0.trans x1)) fun a2 st2 H2 ρ2 v2 f2 x2 R2 G2 r2 _=>?_
  rw [f2] at h
  have h : Acc X.mg E H ρ (QV Q) (disT st2 a2 a1):=h
  unfold disT at h
  split at h
  · rename_i ks ek
    obtain ⟨b,rfl,kr⟩:=keyN_rep ek (r1.ext x2)
    have xe : Ext (upd H p (.dT [])) (ρ.hide p) H2 ρ2:=x1.trans x2
    have pt0 : p ∉ (ρ.hide p).tr:=fun z=>R.fresh hp (.inl z)
    have hp3 : H2 p = some (.dT []):=xe.keep p _ upd_same pt0
    have ph3 : p ∈ ρ2.hid:=xe.hidM p List.mem_cons_self
    refine ⟨ks,b,v2,rfl,kr,hp3,?_⟩
    have y : Ext H ρ (upd H2 p (.dT [(ks,v2)])) ρ2:=(x0.trans xe).put0 hp
    have g2:=r2.rehide (o:=.dT [(ks,v2)]) ph3
    obtain ⟨x5,R5,r5⟩:=out_trkT (ps:=[(ks,a2)]) R y (R2.rehide ph3) ph3 hp upd_same ⟨rfl,RepL.cons g2 RepL.nil⟩
    exact h _ _ x5 R5 _ r5
  · exact h.elim
@[simp] theorem mDisp1T_eq (Γ : Gam) (st : Store) : mDisp1T mk m Γ st = (mk Γ st).bind fun pk st1=>(m Γ st1).bind fun pv st2=>disT st2 pv pk:=rfl
end
end Sm
namespace Sm
open PySem PySem.Spec L2
section
variable {X : Cx} {E : XK}
end
end Sm
namespace Sm
open PySem PySem.Spec L2
section
variable {X : Cx} {E : XK} {a : Expr} {ma : ME} {pos : Pos}
end
end Sm
namespace Sm
open PySem PySem.Spec PyProof.Rows L2
section
variable {X : Cx} {E : XK}
end
end Sm
namespace Sm
open PySem PySem.Spec L2 SeqAt
section
variable {X : Cx} {E : XK}
variable {o : Expr} {mo : ME} {apos cpos : Pos}
end
end Sm
namespace Sm
open PySem PySem.Spec L2 SeqAt
section
variable {X : Cx} {E : XK}
variable {e o i : Expr} {m mo mi : ME} {pos tpos : Pos}
end
end Sm
namespace L2
open PySem PySem.Spec PyProof.Rows
end L2
namespace Sm
open PySem PySem.Spec PyProof.Rows L2
section
variable {X : Cx} {E : XK} {pos : Pos} {e : Expr} {m : ME}
end
end Sm
namespace Sm
open PySem PySem.Spec PyProof.Rows L2
section
variable {X : Cx} {E : XK} {tg : Expr} {a b c : Expr} {mr : ML} {p pos : Pos}
end
end Sm
namespace Sm
open PySem PySem.Spec L2
section
variable {X : Cx} {E : XK} {o : Expr} {mo : ME} {apos cpos : Pos} {to : TE}
end
end Sm
namespace Sm
open PySem PySem.Spec L2
section
variable {X : Cx}
end
end Sm
namespace Sm
open PySem PySem.Spec L2
section
variable {H : Hp} {ρ : Tk}
end
section
variable {X : Cx} {E : XK} {o e : Expr} {es : List Expr} {mo m : ME} {mr : Gam -> Store -> Res (List PV)} {C : Addr} {f : Str} {pos pos' apos p : Pos}
end
end Sm
namespace Sm
open PySem PySem.Spec L2
section
variable {X : Cx} {E : XK}
end
end Sm
namespace Sm
open PySem PySem.Spec L2
section
variable {X : Cx} {E : XK} {pos : Pos} {e : Expr} {m : ME}
end
section
end
end Sm
namespace Sm
open PySem PySem.Spec L2
section
variable {X : Cx} {E : XK}
end
end Sm
namespace Sm
open PySem PySem.Spec L2
section
variable {X : Cx} {pins pins' : List (Addr × Obj)} {E : XK} {σ : St} {H : Hp} {s : Shared}
end
section
variable {X : Cx} {body : List Stmt} {mb : MS} {cn n : Str} {i : Nat} {CC : Addr} {np hpos pos : Pos} {b₀ : Stmt} {suite : List Stmt} {ts : Addr -> TS} {Γ : Gam} {σ : St} {H : Hp} {ρ : Tk} {st : Store} {D : Ends}
end
section
variable {X : Cx} {E : XK}
end
end Sm
namespace Sm
open PySem PySem.Spec PyProof.Rows L2
section
variable {X : Cx} {E : XK}
end
end Sm
namespace Sm
open PySem PySem.Spec L2
structure KR (b : Bool) : Prop where
  h : b = true
section
variable {X : Cx} {E : XK} {pos : Pos} {tg iter elt : Expr} {ifs : List Expr} {sc : Scope} {ga : GA} {mi : MI} {mt : MT} {me : ME} {cap : List (Option Nat)} {i : Nat} {x : Str} {px cpos : Pos}
end
end Sm
namespace Sm
open PySem PySem.Spec L2
structure AtS (K : PySem.W.Frag) (mg : Str -> Option Value) (name : Str) (st : Stmt) (ps : List Str) (f : Addr) (fd : FuncData) : Prop where
  F : Fun K name name st f fd
  m : mg name = some (.ref f)
  b : Binds K fd ps []
theorem atS_mk {K : PySem.W.Frag} {mg : Str -> Option Value} {h : Heap} {name : Str} {st : Stmt} {ps : List Str} {f : Addr} {oc : Value} {od an : Option Addr} {osl : Array (Option Value)} {kV doc pm cdv ct : Value} (X : K.In h) (G : h.Ns mainGlobals mg)
    (a : PySem.W.nsIn K mainGlobals name = some (some (.ref f))) (l : K.lookup f = some ⟨oc,od,.func (PySem.W.fnOf name name (defArgs st) (defBody st) (defScope st) .none kV doc pm an cdv ct),osl⟩) (c : PySem.W.codeIn K cdv name = true) (k : PySem.W.keepIn K (.ref f) = true)
    (b : ∀ (kV doc pm : Value) (an : Option Addr) (cdv ct : Value) (us : List Value),us.length = ps.length -> bindArgs (PySem.W.fnOf name name (defArgs st) (defBody st) (defScope st) .none kV doc pm an cdv ct) ⟨us,[]⟩ = pure (ps.zip us)) :
    AtS K mg name st ps f (PySem.W.fnOf name name (defArgs st) (defBody st) (defScope st) .none kV doc pm an cdv ct):=
  have F:=fun_mk (st:=st) l c k
  ⟨F,PySem.W.mg_of X G a,F.binds b⟩
theorem AtS.def {P : Program} {w : World} {K : PySem.W.Frag} {mg : Str -> Option Value} {base : Heap} {name : Str} {st : Stmt} {ps : List Str} {f : Addr} {fd : FuncData} {k n : Nat} {F : FN} (a : AtS K mg name st ps f fd) (hn : ps.length = n) (G : FnOk P w K mg base (CXD P w) k f fd ps (spF mg n F)) : DefS P w K mg base k name n F:=
  ⟨f,fd,ps,G,a.m,a.F.kp,a.b,hn⟩
def FL (K : PySem.W.Frag) (x ql : Str) (s : Stmt) (f : Addr) : Prop:=∃ (oc : Value) (od : Option Addr) (kV dc pm : Value) (an : Option Addr) (cd ct : Value) (sl : Array (Option Value)),K.lookup f = some ⟨oc,od,.func (PySem.W.fnOf x ql (defArgs s) (defBody s) (defScope s) .none kV dc pm an cd ct),sl⟩ /\ PySem.W.codeIn K cd ql = true /\ PySem.W.keepIn K (.ref f) = true
theorem FL.fn {K : PySem.W.Frag} {x ql : Str} {s : Stmt} {f : Addr} (h : FL K x ql s f) : ∃ fd,Fun K x ql s f fd:=let ⟨_,_,_,_,_,_,_,_,_,l,c,k⟩:=h; ⟨_,fun_mk l c k⟩
def FA (K : PySem.W.Frag) (x : Str) (s : Stmt) (f : Addr) : Prop:=PySem.W.nsIn K mainGlobals x = some (some (.ref f)) /\ FL K x x s f
theorem FA.mk {K : PySem.W.Frag} {x : Str} {s : Stmt} {f : Addr} {oc : Value} {od an : Option Addr} {sl : Array (Option Value)} {kV dc pm cd ct : Value} (a : PySem.W.nsIn K mainGlobals x = some (some (.ref f))) (l : K.lookup f = some ⟨oc,od,.func (PySem.W.fnOf x x (defArgs s) (defBody s) (defScope s) .none kV dc pm an cd ct),sl⟩) (c : PySem.W.codeIn K cd x = true) (k : PySem.W.keepIn K (.ref f) = true) : FA K x s f:=⟨a,_,_,_,_,_,_,_,_,_,l,c,k⟩
theorem ln1 {α : Type} {l : List α} (h : l.length = 1) : ∃ a,l = [a]:=match l,h with | [_],_=>⟨_,rfl⟩
theorem ln2 {α : Type} {l : List α} (h : l.length = 2) : ∃ a b,l = [a,b]:=match l,h with | [_,_],_=>⟨_,_,rfl⟩
theorem ln3 {α : Type} {l : List α} (h : l.length = 3) : ∃ a b c,l = [a,b,c]:=match l,h with | [_,_,_],_=>⟨_,_,_,rfl⟩
theorem ln4 {α : Type} {l : List α} (h : l.length = 4) : ∃ a b c d,l = [a,b,c,d]:=match l,h with | [_,_,_,_],_=>⟨_,_,_,_,rfl⟩
theorem ln5 {α : Type} {l : List α} (h : l.length = 5) : ∃ a b c d e,l = [a,b,c,d,e]:=match l,h with | [_,_,_,_,_],_=>⟨_,_,_,_,_,rfl⟩
theorem ln6 {α : Type} {l : List α} (h : l.length = 6) : ∃ a b c d e f,l = [a,b,c,d,e,f]:=match l,h with | [_,_,_,_,_,_],_=>⟨_,_,_,_,_,_,rfl⟩
theorem ln7 {α : Type} {l : List α} (h : l.length = 7) : ∃ a b c d e f g,l = [a,b,c,d,e,f,g]:=match l,h with | [_,_,_,_,_,_,_],_=>⟨_,_,_,_,_,_,_,rfl⟩
theorem FL.bd {K : PySem.W.Frag} {x ql : Str} {s : Stmt} {f : Addr} {ps : List Str} (h : FL K x ql s f)
    (b : ∀ (kV doc pm : Value) (an : Option Addr) (cdv ct : Value) (us : List Value),us.length = ps.length -> bindArgs (PySem.W.fnOf x ql (defArgs s) (defBody s) (defScope s) .none kV doc pm an cdv ct) ⟨us,[]⟩ = pure (ps.zip us)) : ∃ fd,Fun K x ql s f fd /\ Binds K fd ps []:=
  let ⟨_,F⟩:=h.fn
  ⟨_,F,F.binds b⟩
theorem atS2 {K : PySem.W.Frag} {mg : Str -> Option Value} {h : Heap} {name : Str} {st : Stmt} {f : Addr} (ps : List Str) (X : K.In h) (G : h.Ns mainGlobals mg) (a : FA K name st f)
    (b : ∀ (kV doc pm : Value) (an : Option Addr) (cdv ct : Value) (us : List Value),us.length = ps.length -> bindArgs (PySem.W.fnOf name name (defArgs st) (defBody st) (defScope st) .none kV doc pm an cdv ct) ⟨us,[]⟩ = pure (ps.zip us):=by
      intro _ _ _ _ _ _ us hl
      first | (obtain ⟨_,rfl⟩:=ln1 hl; rfl) | (obtain ⟨_,_,rfl⟩:=ln2 hl; rfl) | (obtain ⟨_,_,_,rfl⟩:=ln3 hl; rfl) | (obtain ⟨_,_,_,_,rfl⟩:=ln4 hl; rfl) | (obtain ⟨_,_,_,_,_,rfl⟩:=ln5 hl; rfl) | (obtain ⟨_,_,_,_,_,_,rfl⟩:=ln6 hl; rfl) | (obtain ⟨_,_,_,_,_,_,_,rfl⟩:=ln7 hl; rfl)) : ∃ fd,AtS K mg name st ps f fd:=
  let ⟨a,l⟩:=a
  let ⟨_,F,B⟩:=l.bd b
  ⟨_,F,PySem.W.mg_of X G a,B⟩
theorem AtS.d {K : PySem.W.Frag} {mg : Str -> Option Value} {name : Str} {st : Stmt} {ps : List Str} {f : Addr} {fd : FuncData} {k n : Nat} {F : FN} (a : AtS K mg name st ps f fd) (P : Program) (w : World) (base : Heap) (hn : ps.length = n) (G : FnOk P w K mg base (CXD P w) k f fd ps (spF mg n F)) : DefS P w K mg base k name n F:=a.def hn G
def noL (K : PySem.W.Frag) : Bool:=K.all fun p=>match p.2.data with
  | .seq _ _=>(match p.2.cls with
    | .type n=>!(n == ("list" : Str))
    | _=>true)
  | _=>true
theorem lookup_mem {K : PySem.W.Frag} {a : Addr} {o : Obj} (h : K.lookup a = some o) : (a,o) ∈ K:=by
  induction K with
  | nil=>cases h
  | cons p K ih=>
    obtain ⟨b,u⟩:=p
    rw [List.lookup_cons] at h
    cases e : a == b with
    | true=>
      rw [e] at h
      have : a = b:=by simpa using e
      subst this
      cases h
      exact List.mem_cons_self
    | false=>
      rw [e] at h
      exact List.mem_cons_of_mem _ (ih h)
theorem noL_no {K : PySem.W.Frag} {a : Addr} {o : Obj} {its : Array Value} {n : Nat} (hL : noL K = true) (h : K.lookup a = some o) (hc : o.cls = .type "list") (hd : o.data = .seq its n) : False:=by
  have:=List.all_eq_true.mp hL _ (lookup_mem h)
  simp [hc,hd] at this
theorem repL_ints {H : Hp} {ρ : Tk} : ∀ ns : List Int,RepL H ρ (ns.map .int) (ns.map V.int)
  | []=>rfl
  | n :: ns=>⟨_,_,rfl,rfl,repL_ints ns⟩
theorem rel_nil (H : Hp) : Rel H Tk.nil []:=⟨rfl,List.nodup_nil,fun a h=>(by cases h),fun a h=>(by cases h),fun i a c h=>(by simp [Tk.nil] at h)⟩
def spLawS (K : PySem.W.Frag) : Sp:=fun vs H Q _=>∃ (a : Addr) (ns : List Int),vs = [.ref a] /\ SqL K H a (ns.map V.int) /\ ns.length <= 63 /\ ∀ H',Q (.bl true) H'
theorem law_imp {P : Program} {w : World} {K : PySem.W.Frag} {mg : Str -> Option Value} {base : Heap} {CX : CXT} {k : Nat} {f : Addr} {fd : FuncData} {ps : List Str} {FL : FN} (hL : noL K = true) (F : FnOk P w K mg base CX k f fd ps (spF mg 1 FL)) (hlaw : ∀ ns : List Int,ns.length <= 63 -> ∃ st',FL [.fro (ns.map .int)] [] = .ok (.bl true) st') : FnOk P w K mg base CX k f fd ps (spLawS K):=F.imp fun vs H Q E ⟨a,ns,e,hS,hl,hQ⟩=>by
  subst e
  obtain ⟨st',hF⟩:=hlaw ns hl
  have hR : Rd H a (.lst (ns.map V.int)):=by
    rcases hS with h | ⟨o,its,n,h1,h2,h3,h4,_⟩
    · exact h
    · exact (noL_no hL h1 h2 h4).elim
  refine ⟨rfl,Tk.nil,[],[.fro (ns.map .int)],rel_nil H,⟨_,_,rfl,⟨a,_,rfl,hR,Tk.not_nil a,repL_ints ns⟩,rfl⟩,?_⟩
  rw [hF]
  intro H' ρ' x R v r
  have e : v = .bl true:=r
  subst e
  exact hQ H'
theorem cxd_none {P : Program} {w : World} {H : Hp} {s : Shared} {e : Value} {s' : Shared} (h : CXD P w [] H s (fun _ _ _=>False) e s') : False:=by
  obtain ⟨_,_,_,_,_,_,_,_,_,z⟩:=h
  exact z
theorem walkS {l : PySem.W.OpenLaw} {k : Nat} {q : Program} {loose : List Str} {XP : (Str -> Option Value) -> Heap -> Prop} {YP : World -> Heap -> Prop} {d : DefRec} {K : Params -> PySem.W.Frag} (hn : l.most = some 63) (hr : Room k callerA) (hdf : d.params.defaults = [])
    (hY : ∀ (w : World) (h : Heap),YP w h -> (K w.params).In h)
    (F : ∀ (w : World) (mg : Str -> Option Value) (fa : Addr) (h : Heap),(K w.params).In h -> h.Ns mainGlobals mg -> mg d.name = some (.ref fa) ->
      ∃ fd : FuncData,(∀ (s : Shared) (u : Value),BindsTo s fd ⟨[u],[]⟩ [("script",u)]) /\ ∀ base : Heap,(K w.params).In base -> base.Ns mainGlobals mg -> FnOk l.prog w (K w.params) mg base (CXD l.prog w) k fa fd ["script"] (spLawS (K w.params))) :
    PySem.W.WalkO q loose XP YP l.row.toRowW d [] (fun f vs=>PySem.call f vs):=
  L2.walk_of (n:=63) (k:=k) (x := "script") (CX:=fun w=>CXD l.prog w) (sp:=fun w=>spLawS (K w.params)) hn (by decide) hdf hr hY F (fun _ _ a ns hl _ hS=>⟨a,ns,rfl,hS,hl,fun _=>rfl⟩) fun _ _ _ _ _ z=>cxd_none z
end Sm
namespace Lw
open PySem PySem.Spec L2 Sm
def top (i : Nat) : Stmt:=PySem.Challenge.pw_lendwharf_k13_whole_by_all_rows_of_deeds.main.body.getD i (.Pass ⟨0,0,0,0⟩)
abbrev s_is_whole : Stmt:=top 6
abbrev s_is_between : Stmt:=top 7
abbrev s_is_row : Stmt:=top 10
abbrev s_is_table : Stmt:=top 11
abbrev s_is_house : Stmt:=top 12
abbrev s_rights : Stmt:=top 13
abbrev s_raised : Stmt:=top 15
abbrev s_made_some : Stmt:=top 18
abbrev s_lent_or_used_some : Stmt:=top 19
abbrev s_was_lent_some : Stmt:=top 20
abbrev s_has_root : Stmt:=top 21
abbrev s_rooted_houses : Stmt:=top 22
abbrev s_rootless_houses : Stmt:=top 23
abbrev s_comes_about : Stmt:=top 24
abbrev s_does_come_about : Stmt:=top 25
abbrev s_need_comes_about : Stmt:=top 26
abbrev s_open_places : Stmt:=top 27
abbrev s_rest_behind : Stmt:=top 28
abbrev s_next_place : Stmt:=top 29
abbrev s_step_at : Stmt:=top 30
abbrev s_steps : Stmt:=top 31
abbrev s__law_b_draw : Stmt:=top 33
abbrev s__law_b_rights : Stmt:=top 34
abbrev s__law_b_one_more : Stmt:=top 35
abbrev s__law_b_reached : Stmt:=top 36
abbrev s__law_b_place : Stmt:=top 37
abbrev s_law : Stmt:=top 38
structure Txt (mg : Str -> Option Value) : Prop where
  b_all : mg "all" = none
  b_any : mg "any" = none
  b_bool : mg "bool" = none
  b_enumerate : mg "enumerate" = none
  b_int : mg "int" = none
  b_isinstance : mg "isinstance" = none
  b_len : mg "len" = none
  b_list : mg "list" = none
  b_range : mg "range" = none
  b_sum : mg "sum" = none
  b_tuple : mg "tuple" = none
  c_MOST_HOUSES : ∃ t,mg "MOST_HOUSES" = some (.int 8 t)
  c_MOST_STEPS : ∃ t,mg "MOST_STEPS" = some (.int 300 t)
section
variable {P : Program} {w : World} {K : PySem.W.Frag} {mg : Str -> Option Value} {base : Heap}
def m_is_whole : MS:=(mRet (mAnd (mIsI "int" (mVar 0)) (mNot (mIsI "bool" (mVar 0)))))
def F_is_whole : FN:=callF m_is_whole 1
theorem sc_is_whole : FnScope ["thing"] ["thing"] (defScope s_is_whole):=⟨rfl,rfl,rfl,by decide +kernel,rfl,by decide +kernel,by decide +kernel⟩
theorem ok_is_whole {f : Addr} {fd : FuncData} (F : Fun K "is_whole" "is_whole" s_is_whole f fd) (T : Txt mg)   : FnOk P w K mg base (CXD P w) 1 f fd ["thing"] (spF mg 1 F_is_whole):=by
  refine fun_ok2 (k:=0) (m:=m_is_whole) F sc_is_whole rfl rfl rfl fun cdv A outer s H E hr=>?_
  exact (sb_one (ss_ret (se_and (se_isi (T := "int") (by decide) (se_var 0) rfl T.b_isinstance rfl T.b_int boot_int) (se_one (se_not (se_isi (T := "bool") (by decide) (se_var 0) rfl T.b_isinstance rfl T.b_bool boot_bool))))))
def m_is_between : MS:=(mRet (mAnd (mCallF 1 F_is_whole (mCons (mVar 0) mNil)) (mChain (oI fun a b=>.bl (decide (a <= b))) (oI fun a b=>.bl (decide (a <= b))) (mVar 1) (mVar 0) (mVar 2))))
def F_is_between : FN:=callF m_is_between 3
theorem sc_is_between : FnScope ["thing", "least", "most"] ["thing", "least", "most"] (defScope s_is_between):=⟨rfl,rfl,rfl,by decide +kernel,rfl,by decide +kernel,by decide +kernel⟩
theorem ok_is_between {f : Addr} {fd : FuncData} (F : Fun K "is_between" "is_between" s_is_between f fd) (T : Txt mg)  (D_is_whole : DefS P w K mg base 1 "is_whole" 1 F_is_whole) : FnOk P w K mg base (CXD P w) 2 f fd ["thing", "least", "most"] (spF mg 3 F_is_between):=by
  refine fun_ok2 (k:=1) (m:=m_is_between) F sc_is_between rfl rfl rfl fun cdv A outer s H E hr=>?_
  exact (sb_one (ss_ret (se_and (se_call D_is_whole (hr.mono (by decide)) pass_onD rfl (sa_cons (se_var 0) sa_nil)) (se_one (se_chain os_le os_le (se_var 1) (se_var 0) (se_var 2))))))
def e_is_row_1 : ME:=(mAnd (mCallF 1 F_is_whole (mCons (mVar 0) mNil)) (mOp (oI fun a b=>.bl (decide (b <= a))) (mVar 0) (mC (.int 0))))
def m_is_row : MS := (mSeqS (mIfS (tOrM (tNotM (toB (mIsI "tuple" (mVar 0)))) (toB (mOp oNe (mCall cLen (mCons (mVar 0) mNil)) (mOp oAdd (mVar 1) (mC (.int 1)))))) (mRet (mC (.bl false))) mNext)
    (mRet (mCall (cBls fun ns=>.bl (ns.all id)) (mCons (mVal (mCompN [none] (gaName 0) (mSeq (mVar 0)) mTrue e_is_row_1)) mNil))))
def F_is_row : FN:=callF m_is_row 2
theorem sc_is_row : FnScope ["thing", "n"] ["thing", "n"] (defScope s_is_row):=⟨rfl,rfl,rfl,by decide +kernel,rfl,by decide +kernel,by decide +kernel⟩
theorem ok_is_row {f : Addr} {fd : FuncData} (F : Fun K "is_row" "is_row" s_is_row f fd) (T : Txt mg)  (D_is_whole : DefS P w K mg base 1 "is_whole" 1 F_is_whole) : FnOk P w K mg base (CXD P w) 2 f fd ["thing", "n"] (spF mg 2 F_is_row):=by
  refine fun_ok2 (k:=1) (m:=m_is_row) F sc_is_row rfl rfl rfl fun cdv A outer s H E hr=>?_
  exact (sb_cons (ss_if (SimW.t (sw_or (st_not (st_val (se_isi (T := "tuple") (by decide) (se_var 0) rfl T.b_isinstance rfl T.b_tuple boot_tuple))) (sw_or1 (st_cmp (os_ne hr.units) (se_callB cs_len rfl T.b_len PySem.boot_len (sa_cons (se_var 0) sa_nil)) (se_op os_add (se_var 1) se_int))))) (sb_one (ss_ret se_bl)) sb_nil)
    (sb_one (ss_ret (se_callB (cs_all rfl) rfl T.b_all boot_all (sa_cons (se_val (sn_comp [none] ["part"] rfl (si_seq (se_var 0)) (fun _ _ _ _ _=>(sg_name (i:=0) (show (["part"] : List Str).Nodup by decide +kernel))) (fun _ _ _ _ _=>(se_and (se_call D_is_whole (hr.mono (by decide)) pass00D rfl (sa_cons (se_var 0) sa_nil)) (se_one (se_cmp os_ge (se_var 0) se_int)))) (fun _ _ _ _ _=>sts_nil) free_name)) sa_nil)))))
def e_is_table_1 : ME:=(mCallF 2 F_is_row (mCons (mVar 0) (mCons (mCall cLen (mCons (mVar 1) mNil)) mNil)))
def m_is_table : MS := (mSeqS (mIfS (tOrM (tNotM (toB (mIsI "tuple" (mVar 0)))) (tNotM (toB (mChain (oI fun a b => .bl (decide (a <= b))) (oI fun a b => .bl (decide (a <= b))) (mC (.int 1)) (mCall cLen (mCons (mVar 0) mNil)) (mC (.int 8)))))) (mRet (mC (.bl false))) mNext)
    (mRet (mCall (cBls fun ns=>.bl (ns.all id)) (mCons (mVal (mCompN [none,some 0] (gaName 0) (mSeq (mVar 0)) mTrue e_is_table_1)) mNil))))
def F_is_table : FN:=callF m_is_table 1
theorem sc_is_table : FnScope ["thing"] ["thing"] (defScope s_is_table):=⟨rfl,rfl,rfl,by decide +kernel,rfl,by decide +kernel,by decide +kernel⟩
theorem ok_is_table {f : Addr} {fd : FuncData} (F : Fun K "is_table" "is_table" s_is_table f fd) (T : Txt mg)  (D_is_row : DefS P w K mg base 2 "is_row" 2 F_is_row) : FnOk P w K mg base (CXD P w) 3 f fd ["thing"] (spF mg 1 F_is_table):=by
  refine fun_ok2 (k:=2) (m:=m_is_table) F sc_is_table rfl rfl rfl fun cdv A outer s H E hr=>?_
  exact (sb_cons (ss_if (SimW.t (sw_or (st_not (st_val (se_isi (T := "tuple") (by decide) (se_var 0) rfl T.b_isinstance rfl T.b_tuple boot_tuple))) (sw_or1 (st_not (st_chain os_le os_le se_int (se_callB cs_len rfl T.b_len PySem.boot_len (sa_cons (se_var 0) sa_nil)) (se_gint rfl T.c_MOST_HOUSES.choose_spec)))))) (sb_one (ss_ret se_bl)) sb_nil)
    (sb_one (ss_ret (se_callB (cs_all rfl) rfl T.b_all boot_all (sa_cons (se_val (sn_comp [none,some 0] ["row", "thing"] rfl (si_seq (se_var 0)) (fun _ _ _ _ _=>(sg_name (i:=0) (show (["row", "thing"] : List Str).Nodup by decide +kernel))) (fun _ _ _ _ _=>(se_call D_is_row (hr.mono (by decide)) pass00D rfl (sa_cons (se_var 0) (sa_cons (se_callB cs_len rfl T.b_len PySem.boot_len (sa_cons (se_var 1) sa_nil)) sa_nil)))) (fun _ _ _ _ _=>sts_nil) free_name)) sa_nil)))))
def m_is_house : MS:=(mRet (mCallF 3 F_is_between (mCons (mVar 1) (mCons (mC (.int 0)) (mCons (mOp (oI fun a b=>.int (a - b)) (mCall cLen (mCons (mVar 0) mNil)) (mC (.int 1))) mNil)))))
def F_is_house : FN:=callF m_is_house 2
theorem sc_is_house : FnScope ["table", "thing"] ["table", "thing"] (defScope s_is_house):=⟨rfl,rfl,rfl,by decide +kernel,rfl,by decide +kernel,by decide +kernel⟩
theorem ok_is_house {f : Addr} {fd : FuncData} (F : Fun K "is_house" "is_house" s_is_house f fd) (T : Txt mg)  (D_is_between : DefS P w K mg base 2 "is_between" 3 F_is_between) : FnOk P w K mg base (CXD P w) 3 f fd ["table", "thing"] (spF mg 2 F_is_house):=by
  refine fun_ok2 (k:=2) (m:=m_is_house) F sc_is_house rfl rfl rfl fun cdv A outer s H E hr=>?_
  exact (sb_one (ss_ret (se_call D_is_between (hr.mono (by decide)) pass_onD rfl (sa_cons (se_var 1) (sa_cons se_int (sa_cons (se_op os_sub (se_callB cs_len rfl T.b_len PySem.boot_len (sa_cons (se_var 0) sa_nil)) se_int) sa_nil))))))
def e_rights_1 : ME:=(mOp oIx (mVar 0) (mVar 1))
def m_rights : MS := (mSeqS (mIfS (tNotM (toB (mCallF 2 F_is_house (mCons (mVar 0) (mCons (mVar 1) mNil))))) (mRaise "NoHouse" (mC (.str "no house of this table"))) mNext)
    (mSeqS (mSet 2 (mCall (cInts fun ns=>some (.int ns.sum)) (mCons (mVal (mCompN [none,some 1] (gaName 0) (mSeq (mVar 0)) mTrue e_rights_1)) mNil)))
    (mSeqS (mSet 3 (mOp oIx (mVar 0) (mVar 1)))
    (mSeqS (mSet 4 (mOp (oI fun a b=>.int (a - b)) (mCall (cInts fun ns=>some (.int ns.sum)) (mCons (mVar 3) mNil)) (mOp oIx (mVar 3) (mVar 1))))
    (mRet (mOp (oI fun a b=>.int (a - b)) (mVar 2) (mVar 4)))))))
def F_rights : FN:=callF m_rights 5
theorem sc_rights : FnScope ["table", "house", "gained", "own", "spent"] ["table", "house"] (defScope s_rights):=⟨rfl,rfl,rfl,by decide +kernel,rfl,by decide +kernel,by decide +kernel⟩
theorem ok_rights {f : Addr} {fd : FuncData} (F : Fun K "rights" "rights" s_rights f fd) (T : Txt mg) (C_NoHouse : ∃ C,mg "NoHouse" = some (.ref C) /\ PySem.W.excIn K C bmVE "ValueError.__new__" = true) (D_is_house : DefS P w K mg base 3 "is_house" 2 F_is_house) : FnOk P w K mg base (CXD P w) 4 f fd ["table", "house"] (spF mg 2 F_rights):=by
  refine fun_ok2 (k:=3) (m:=m_rights) F sc_rights rfl rfl rfl fun cdv A outer s H E hr=>?_
  exact (sb_cons (ss_if (st_not (st_val (se_call D_is_house (hr.mono (by decide)) pass_onD rfl (sa_cons (se_var 0) (sa_cons (se_var 1) sa_nil))))) (sb_one (ss_raise rfl raiseDok rfl C_NoHouse.choose_spec.1 C_NoHouse.choose_spec.2 se_str)) sb_nil)
    (sb_cons (ss_set 2 sc_rights.nd (se_callB (cs_sum rfl) rfl T.b_sum boot_sum (sa_cons (se_val (sn_comp [none,some 1] ["row", "house"] rfl (si_seq (se_var 0)) (fun _ _ _ _ _=>(sg_name (i:=0) (show (["row", "house"] : List Str).Nodup by decide +kernel))) (fun _ _ _ _ _=>(se_ix (se_var 0) (se_var 1))) (fun _ _ _ _ _=>sts_nil) free_name)) sa_nil)))
    (sb_cons (ss_set 3 sc_rights.nd (se_ix (se_var 0) (se_var 1)))
    (sb_cons (ss_set 4 sc_rights.nd (se_op os_sub (se_callB (cs_sum rfl) rfl T.b_sum boot_sum (sa_cons (se_var 3) sa_nil)) (se_ix (se_var 3) (se_var 1))))
    (sb_one (ss_ret (se_op os_sub (se_var 2) (se_var 4))))))))
def m_raised : MS := (mSeqS (mSet 4 (mOp oIx (mVar 0) (mVar 1)))
    (mSeqS (mSet 5 (mOp oAdd (mOp oAdd (mSl (mVar 4) mNoPart (mPart (mVar 2))) (mTup (mCons (mOp oAdd (mOp oIx (mVar 4) (mVar 2)) (mVar 3)) mNil))) (mSl (mVar 4) (mPart (mOp oAdd (mVar 2) (mC (.int 1)))) mNoPart)))
    (mRet (mOp oAdd (mOp oAdd (mSl (mVar 0) mNoPart (mPart (mVar 1))) (mTup (mCons (mVar 5) mNil))) (mSl (mVar 0) (mPart (mOp oAdd (mVar 1) (mC (.int 1)))) mNoPart)))))
def F_raised : FN:=callF m_raised 6
theorem sc_raised : FnScope ["table", "house", "place", "k", "row", "higher"] ["table", "house", "place", "k"] (defScope s_raised):=⟨rfl,rfl,rfl,by decide +kernel,rfl,by decide +kernel,by decide +kernel⟩
theorem ok_raised {f : Addr} {fd : FuncData} (F : Fun K "raised" "raised" s_raised f fd) (T : Txt mg)   : FnOk P w K mg base (CXD P w) 1 f fd ["table", "house", "place", "k"] (spF mg 4 F_raised):=by
  refine fun_ok2 (k:=0) (m:=m_raised) F sc_raised rfl rfl rfl fun cdv A outer s H E hr=>?_
  exact (sb_cons (ss_set 4 sc_raised.nd (se_ix (se_var 0) (se_var 1)))
    (sb_cons (ss_set 5 sc_raised.nd (se_op os_add (se_op os_add (se_slice (se_var 4) so_none (so_some (se_var 2))) (se_tup (sa_cons (se_op os_add (se_ix (se_var 4) (se_var 2)) (se_var 3)) sa_nil))) (se_slice (se_var 4) (so_some (se_op os_add (se_var 2) se_int)) so_none)))
    (sb_one (ss_ret (se_op os_add (se_op os_add (se_slice (se_var 0) so_none (so_some (se_var 1))) (se_tup (sa_cons (se_var 5) sa_nil))) (se_slice (se_var 0) (so_some (se_op os_add (se_var 1) se_int)) so_none))))))
def m_made_some : MS:=(mRet (mOp (oI fun a b=>.bl (decide (b < a))) (mOp oIx (mOp oIx (mVar 0) (mVar 1)) (mVar 1)) (mC (.int 0))))
def F_made_some : FN:=callF m_made_some 2
theorem sc_made_some : FnScope ["table", "house"] ["table", "house"] (defScope s_made_some):=⟨rfl,rfl,rfl,by decide +kernel,rfl,by decide +kernel,by decide +kernel⟩
theorem ok_made_some {f : Addr} {fd : FuncData} (F : Fun K "made_some" "made_some" s_made_some f fd) (T : Txt mg)   : FnOk P w K mg base (CXD P w) 1 f fd ["table", "house"] (spF mg 2 F_made_some):=by
  refine fun_ok2 (k:=0) (m:=m_made_some) F sc_made_some rfl rfl rfl fun cdv A outer s H E hr=>?_
  exact (sb_one (ss_ret (se_cmp os_gt (se_ix (se_ix (se_var 0) (se_var 1)) (se_var 1)) se_int)))
def m_lent_or_used_some : MS := (mSeqS (mSet 2 (mOp oIx (mVar 0) (mVar 1)))
    (mRet (mOp (oI fun a b=>.bl (decide (b < a))) (mCall (cInts fun ns=>some (.int ns.sum)) (mCons (mVar 2) mNil)) (mOp oIx (mVar 2) (mVar 1)))))
def F_lent_or_used_some : FN:=callF m_lent_or_used_some 3
theorem sc_lent_or_used_some : FnScope ["table", "house", "row"] ["table", "house"] (defScope s_lent_or_used_some):=⟨rfl,rfl,rfl,by decide +kernel,rfl,by decide +kernel,by decide +kernel⟩
theorem ok_lent_or_used_some {f : Addr} {fd : FuncData} (F : Fun K "lent_or_used_some" "lent_or_used_some" s_lent_or_used_some f fd) (T : Txt mg)   : FnOk P w K mg base (CXD P w) 1 f fd ["table", "house"] (spF mg 2 F_lent_or_used_some):=by
  refine fun_ok2 (k:=0) (m:=m_lent_or_used_some) F sc_lent_or_used_some rfl rfl rfl fun cdv A outer s H E hr=>?_
  exact (sb_cons (ss_set 2 sc_lent_or_used_some.nd (se_ix (se_var 0) (se_var 1)))
    (sb_one (ss_ret (se_cmp os_gt (se_callB (cs_sum rfl) rfl T.b_sum boot_sum (sa_cons (se_var 2) sa_nil)) (se_ix (se_var 2) (se_var 1))))))
def e_was_lent_some_1 : ME:=(mOp (oI fun a b=>.bl (decide (b < a))) (mOp oIx (mOp oIx (mVar 2) (mVar 0)) (mVar 1)) (mC (.int 0)))
def t_was_lent_some_1 : MT:=(toB (mOp oNe (mVar 0) (mVar 1)))
def m_was_lent_some : MS:=(mRet (mCall (cBls fun ns=>.bl (ns.any id)) (mCons (mVal (mCompN [none,some 1,some 0] (gaName 0) (mSeq (mVar 2)) t_was_lent_some_1 e_was_lent_some_1)) mNil)))
def F_was_lent_some : FN:=callF m_was_lent_some 3
theorem sc_was_lent_some : FnScope ["table", "house", "lenders"] ["table", "house", "lenders"] (defScope s_was_lent_some):=⟨rfl,rfl,rfl,by decide +kernel,rfl,by decide +kernel,by decide +kernel⟩
theorem ok_was_lent_some {f : Addr} {fd : FuncData} (F : Fun K "was_lent_some" "was_lent_some" s_was_lent_some f fd) (T : Txt mg)   : FnOk P w K mg base (CXD P w) 1 f fd ["table", "house", "lenders"] (spF mg 3 F_was_lent_some):=by
  refine fun_ok2 (k:=0) (m:=m_was_lent_some) F sc_was_lent_some rfl rfl rfl fun cdv A outer s H E hr=>?_
  exact (sb_one (ss_ret (se_callB (cs_any rfl) rfl T.b_any boot_any (sa_cons (se_val (sn_comp [none,some 1,some 0] ["lender", "house", "table"] rfl (si_seq (se_var 2)) (fun _ _ _ _ _=>(sg_name (i:=0) (show (["lender", "house", "table"] : List Str).Nodup by decide +kernel))) (fun _ _ _ _ _=>(se_cmp os_gt (se_ix (se_ix (se_var 2) (se_var 0)) (se_var 1)) se_int)) (fun _ _ _ _ _=>(sts_one (st_cmp (os_ne hr.units) (se_var 0) (se_var 1)))) free_name)) sa_nil))))
def m_has_root : MS:=(mRet (mOr (mCallF 2 F_made_some (mCons (mVar 0) (mCons (mVar 1) mNil))) (mCallF 3 F_was_lent_some (mCons (mVar 0) (mCons (mVar 1) (mCons (mVar 2) mNil))))))
def F_has_root : FN:=callF m_has_root 3
theorem sc_has_root : FnScope ["table", "house", "ahead"] ["table", "house", "ahead"] (defScope s_has_root):=⟨rfl,rfl,rfl,by decide +kernel,rfl,by decide +kernel,by decide +kernel⟩
theorem ok_has_root {f : Addr} {fd : FuncData} (F : Fun K "has_root" "has_root" s_has_root f fd) (T : Txt mg)  (D_made_some : DefS P w K mg base 1 "made_some" 2 F_made_some) (D_was_lent_some : DefS P w K mg base 1 "was_lent_some" 3 F_was_lent_some) : FnOk P w K mg base (CXD P w) 2 f fd ["table", "house", "ahead"] (spF mg 3 F_has_root):=by
  refine fun_ok2 (k:=1) (m:=m_has_root) F sc_has_root rfl rfl rfl fun cdv A outer s H E hr=>?_
  exact (sb_one (ss_ret (se_or (se_call D_made_some (hr.mono (by decide)) pass_onD rfl (sa_cons (se_var 0) (sa_cons (se_var 1) sa_nil))) (se_one (se_call D_was_lent_some (hr.mono (by decide)) pass_onD rfl (sa_cons (se_var 0) (sa_cons (se_var 1) (sa_cons (se_var 2) sa_nil))))))))
def e_rooted_houses_1 : ME:=(mVar 0)
def t_rooted_houses_1 : MT:=(toB (mOp (oIn true) (mVar 0) (mVar 1)))
def e_rooted_houses_2 : ME:=(mVar 0)
def t_rooted_houses_2 : MT:=(toB (mCallF 3 F_has_root (mCons (mVar 1) (mCons (mVar 0) (mCons (mVar 2) mNil)))))
def b_rooted_houses_1 : MS := (mSeqS (mSet 3 (mVal (mCompN [none, some 1] (gaName 0) (mRange1 (mCons (mCall cLen (mCons (mVar 0) mNil)) mNil)) t_rooted_houses_1 e_rooted_houses_1)))
    (mSeqS (mSet 4 (mVal (mCompN [none,some 0,some 1] (gaName 0) (mSeq (mVar 3)) t_rooted_houses_2 e_rooted_houses_2)))
    (mSeqS (mExpr (mBM mtExtend (mVar 1) (mCons (mVar 4) mNil)))
    (mSet 2 (mOp (oI fun a b=>.bl (decide (b < a))) (mCall cLen (mCons (mVar 4) mNil)) (mC (.int 0)))))))
def w_rooted_houses_1 : MT:=(toB (mVar 2))
def m_rooted_houses : MS := (mSeqS (mSet 1 (mTrk (mLstN mNil)))
    (mSeqS (mSet 2 (mC (.bl true)))
    (mSeqS (whileG w_rooted_houses_1 b_rooted_houses_1 100000)
    (mRet (mVar 1)))))
def F_rooted_houses : FN:=callF m_rooted_houses 5
theorem sc_rooted_houses : FnScope ["table", "roots", "grows", "others", "found"] ["table"] (defScope s_rooted_houses):=⟨rfl,rfl,rfl,by decide +kernel,rfl,by decide +kernel,by decide +kernel⟩
theorem ok_rooted_houses {f : Addr} {fd : FuncData} (F : Fun K "rooted_houses" "rooted_houses" s_rooted_houses f fd) (T : Txt mg)  (D_has_root : DefS P w K mg base 2 "has_root" 3 F_has_root) : FnOk P w K mg base (CXD P w) 3 f fd ["table"] (spF mg 1 F_rooted_houses):=by
  refine fun_ok2 (k:=2) (m:=m_rooted_houses) F sc_rooted_houses rfl rfl rfl fun cdv A outer s H E hr=>?_
  exact (sb_cons (ss_set 1 sc_rooted_houses.nd (se_trk (sn_lst sa_nil)))
    (sb_cons (ss_set 2 sc_rooted_houses.nd se_bl)
    (sb_cons (ss_while 100000 PassesOwn.leaving (st_val (se_var 2)) (sb_cons (by first | exact ss_compV [none,some 1] ["house", "roots"] 3 sc_rooted_houses.nd rfl (si_range1 rfl T.b_range (sa_cons (se_callB cs_len rfl T.b_len PySem.boot_len (sa_cons (se_var 0) sa_nil)) sa_nil)) (fun _ _ _ _ _=>(sg_name (i:=0) (show (["house", "roots"] : List Str).Nodup by decide +kernel))) (fun _ _ _ _ _=>(se_var 0)) (fun _ _ _ _ _=>(sts_one (st_cmp (os_notin hr.units) (se_var 0) (se_var 1)))) free_name | exact ss_set 3 sc_rooted_houses.nd (se_val (sn_comp [none,some 1] ["house", "roots"] rfl (si_range1 rfl T.b_range (sa_cons (se_callB cs_len rfl T.b_len PySem.boot_len (sa_cons (se_var 0) sa_nil)) sa_nil)) (fun _ _ _ _ _=>(sg_name (i:=0) (show (["house", "roots"] : List Str).Nodup by decide +kernel))) (fun _ _ _ _ _=>(se_var 0)) (fun _ _ _ _ _=>(sts_one (st_cmp (os_notin hr.units) (se_var 0) (se_var 1)))) free_name)))
    (sb_cons (by first | exact ss_compV [none,some 0,some 1] ["house", "table", "roots"] 4 sc_rooted_houses.nd rfl (si_seq (se_var 3)) (fun _ _ _ _ _=>(sg_name (i:=0) (show (["house", "table", "roots"] : List Str).Nodup by decide +kernel))) (fun _ _ _ _ _=>(se_var 0)) (fun _ _ _ _ _=>(sts_one (st_val (se_call D_has_root (hr.mono (by decide)) pass00D rfl (sa_cons (se_var 1) (sa_cons (se_var 0) (sa_cons (se_var 2) sa_nil))))))) free_name | exact ss_set 4 sc_rooted_houses.nd (se_val (sn_comp [none,some 0,some 1] ["house", "table", "roots"] rfl (si_seq (se_var 3)) (fun _ _ _ _ _=>(sg_name (i:=0) (show (["house", "table", "roots"] : List Str).Nodup by decide +kernel))) (fun _ _ _ _ _=>(se_var 0)) (fun _ _ _ _ _=>(sts_one (st_val (se_call D_has_root (hr.mono (by decide)) pass00D rfl (sa_cons (se_var 1) (sa_cons (se_var 0) (sa_cons (se_var 2) sa_nil))))))) free_name)))
    (sb_cons (ss_expr (se_extend (se_var 1) (sa_cons (se_var 4) sa_nil)))
    (sb_one (ss_set 2 sc_rooted_houses.nd (se_cmp os_gt (se_callB cs_len rfl T.b_len PySem.boot_len (sa_cons (se_var 4) sa_nil)) se_int)))))))
    (sb_one (ss_ret (se_var 1))))))
def e_rootless_houses_1 : ME:=(mVar 0)
def t_rootless_houses_1 : MT:=(toB (mOp (oIn true) (mVar 0) (mVar 1)))
def e_rootless_houses_2 : ME:=(mCallF 2 F_lent_or_used_some (mCons (mVar 1) (mCons (mVar 0) mNil)))
def m_rootless_houses : MS := (mSeqS (mSet 1 (mCallF 1 F_rooted_houses (mCons (mVar 0) mNil)))
    (mSeqS (mSet 2 (mVal (mCompN [none,some 1] (gaName 0) (mRange1 (mCons (mCall cLen (mCons (mVar 0) mNil)) mNil)) t_rootless_houses_1 e_rootless_houses_1)))
    (mSeqS (mIfS (toB (mCall (cBls fun ns=>.bl (ns.any id)) (mCons (mVal (mCompN [none,some 0] (gaName 0) (mSeq (mVar 2)) mTrue e_rootless_houses_2)) mNil))) (mRet (mVar 2)) mNext)
    (mRet (mLst mNil)))))
def F_rootless_houses : FN:=callF m_rootless_houses 3
theorem sc_rootless_houses : FnScope ["table", "roots", "others"] ["table"] (defScope s_rootless_houses):=⟨rfl,rfl,rfl,by decide +kernel,rfl,by decide +kernel,by decide +kernel⟩
theorem ok_rootless_houses {f : Addr} {fd : FuncData} (F : Fun K "rootless_houses" "rootless_houses" s_rootless_houses f fd) (T : Txt mg)  (D_rooted_houses : DefS P w K mg base 3 "rooted_houses" 1 F_rooted_houses) (D_lent_or_used_some : DefS P w K mg base 1 "lent_or_used_some" 2 F_lent_or_used_some) : FnOk P w K mg base (CXD P w) 4 f fd ["table"] (spF mg 1 F_rootless_houses):=by
  refine fun_ok2 (k:=3) (m:=m_rootless_houses) F sc_rootless_houses rfl rfl rfl fun cdv A outer s H E hr=>?_
  exact (sb_cons (ss_set 1 sc_rootless_houses.nd (se_call D_rooted_houses (hr.mono (by decide)) pass_onD rfl (sa_cons (se_var 0) sa_nil)))
    (sb_cons (by first | exact ss_compV [none,some 1] ["house", "roots"] 2 sc_rootless_houses.nd rfl (si_range1 rfl T.b_range (sa_cons (se_callB cs_len rfl T.b_len PySem.boot_len (sa_cons (se_var 0) sa_nil)) sa_nil)) (fun _ _ _ _ _=>(sg_name (i:=0) (show (["house", "roots"] : List Str).Nodup by decide +kernel))) (fun _ _ _ _ _=>(se_var 0)) (fun _ _ _ _ _=>(sts_one (st_cmp (os_notin hr.units) (se_var 0) (se_var 1)))) free_name | exact ss_set 2 sc_rootless_houses.nd (se_val (sn_comp [none,some 1] ["house", "roots"] rfl (si_range1 rfl T.b_range (sa_cons (se_callB cs_len rfl T.b_len PySem.boot_len (sa_cons (se_var 0) sa_nil)) sa_nil)) (fun _ _ _ _ _=>(sg_name (i:=0) (show (["house", "roots"] : List Str).Nodup by decide +kernel))) (fun _ _ _ _ _=>(se_var 0)) (fun _ _ _ _ _=>(sts_one (st_cmp (os_notin hr.units) (se_var 0) (se_var 1)))) free_name)))
    (sb_cons (ss_if (st_val (se_callB (cs_any rfl) rfl T.b_any boot_any (sa_cons (se_val (sn_comp [none,some 0] ["house", "table"] rfl (si_seq (se_var 2)) (fun _ _ _ _ _=>(sg_name (i:=0) (show (["house", "table"] : List Str).Nodup by decide +kernel))) (fun _ _ _ _ _=>(se_call D_lent_or_used_some (hr.mono (by decide)) pass00D rfl (sa_cons (se_var 1) (sa_cons (se_var 0) sa_nil)))) (fun _ _ _ _ _=>sts_nil) free_name)) sa_nil))) (sb_one (ss_ret (se_var 2))) sb_nil)
    (sb_one (ss_ret (se_lst sa_nil))))))
def b_comes_about_1 : MS:=(mIfS (toB (mOp oLt (mCallF 2 F_rights (mCons (mVar 0) (mCons (mVar 1) mNil))) (mC (.int 0)))) (mRet (mTup (mCons (mC (.str "short")) (mCons (mVar 1) mNil)))) mNext)
def m_comes_about : MS := (mSeqS (mFor (gaName 1) (mRange1 (mCons (mCall cLen (mCons (mVar 0) mNil)) mNil)) b_comes_about_1)
    (mSeqS (mSet 2 (mCallF 1 F_rootless_houses (mCons (mVar 0) mNil)))
    (mSeqS (mIfS (toB (mOp (oI fun a b=>.bl (decide (b < a))) (mCall cLen (mCons (mVar 2) mNil)) (mC (.int 0)))) (mRet (mTup (mCons (mC (.str "rootless")) (mCons (mVar 2) mNil)))) mNext)
    (mRet (mTup (mCons (mC (.str "comes")) (mCons (mCallF 1 F_rooted_houses (mCons (mVar 0) mNil)) mNil)))))))
def F_comes_about : FN:=callF m_comes_about 3
theorem sc_comes_about : FnScope ["table", "house", "rootless"] ["table"] (defScope s_comes_about):=⟨rfl,rfl,rfl,by decide +kernel,rfl,by decide +kernel,by decide +kernel⟩
theorem ok_comes_about {f : Addr} {fd : FuncData} (F : Fun K "comes_about" "comes_about" s_comes_about f fd) (T : Txt mg)  (D_rights : DefS P w K mg base 4 "rights" 2 F_rights) (D_rootless_houses : DefS P w K mg base 4 "rootless_houses" 1 F_rootless_houses) (D_rooted_houses : DefS P w K mg base 3 "rooted_houses" 1 F_rooted_houses) : FnOk P w K mg base (CXD P w) 5 f fd ["table"] (spF mg 1 F_comes_about):=by
  refine fun_ok2 (k:=4) (m:=m_comes_about) F sc_comes_about rfl rfl rfl fun cdv A outer s H E hr=>?_
  exact (sb_cons (ss_for PassesOwn.leaving rfl (si_range1 rfl T.b_range (sa_cons (se_callB cs_len rfl T.b_len PySem.boot_len (sa_cons (se_var 0) sa_nil)) sa_nil)) (sg_name (i:=1) sc_comes_about.nd) (sb_one (ss_if (st_cmp (os_lt hr.units) (se_call D_rights (hr.mono (by decide)) pass_onD rfl (sa_cons (se_var 0) (sa_cons (se_var 1) sa_nil))) se_int) (sb_one (ss_ret (se_tup (sa_cons se_str (sa_cons (se_var 1) sa_nil))))) sb_nil)))
    (sb_cons (ss_set 2 sc_comes_about.nd (se_call D_rootless_houses (hr.mono (by decide)) pass_onD rfl (sa_cons (se_var 0) sa_nil)))
    (sb_cons (ss_if (st_cmp os_gt (se_callB cs_len rfl T.b_len PySem.boot_len (sa_cons (se_var 2) sa_nil)) se_int) (sb_one (ss_ret (se_tup (sa_cons se_str (sa_cons (se_var 2) sa_nil))))) sb_nil)
    (sb_one (ss_ret (se_tup (sa_cons se_str (sa_cons (se_call D_rooted_houses (hr.mono (by decide)) pass_onD rfl (sa_cons (se_var 0) sa_nil)) sa_nil))))))))
def m_does_come_about : MS:=(mRet (mAnd (mCallF 1 F_is_table (mCons (mVar 0) mNil)) (mOp oEq (mOp oIx (mCallF 1 F_comes_about (mCons (mVar 0) mNil)) (mC (.int 0))) (mC (.str "comes")))))
def F_does_come_about : FN:=callF m_does_come_about 1
theorem sc_does_come_about : FnScope ["thing"] ["thing"] (defScope s_does_come_about):=⟨rfl,rfl,rfl,by decide +kernel,rfl,by decide +kernel,by decide +kernel⟩
theorem ok_does_come_about {f : Addr} {fd : FuncData} (F : Fun K "does_come_about" "does_come_about" s_does_come_about f fd) (T : Txt mg)  (D_is_table : DefS P w K mg base 3 "is_table" 1 F_is_table) (D_comes_about : DefS P w K mg base 5 "comes_about" 1 F_comes_about) : FnOk P w K mg base (CXD P w) 6 f fd ["thing"] (spF mg 1 F_does_come_about):=by
  refine fun_ok2 (k:=5) (m:=m_does_come_about) F sc_does_come_about rfl rfl rfl fun cdv A outer s H E hr=>?_
  exact (sb_one (ss_ret (se_and (se_call D_is_table (hr.mono (by decide)) pass_onD rfl (sa_cons (se_var 0) sa_nil)) (se_one (se_cmp (os_eq hr.units) (se_ix (se_call D_comes_about (hr.mono (by decide)) pass_onD rfl (sa_cons (se_var 0) sa_nil)) se_int) se_str)))))
def m_need_comes_about : MS:=(mIfS (tNotM (toB (mCallF 1 F_does_come_about (mCons (mVar 0) mNil)))) (mRaise "NoTable" (mC (.str "no table that comes about"))) mNext)
def F_need_comes_about : FN:=callF m_need_comes_about 1
theorem sc_need_comes_about : FnScope ["thing"] ["thing"] (defScope s_need_comes_about):=⟨rfl,rfl,rfl,by decide +kernel,rfl,by decide +kernel,by decide +kernel⟩
theorem ok_need_comes_about {f : Addr} {fd : FuncData} (F : Fun K "need_comes_about" "need_comes_about" s_need_comes_about f fd) (T : Txt mg) (C_NoTable : ∃ C,mg "NoTable" = some (.ref C) /\ PySem.W.excIn K C bmVE "ValueError.__new__" = true) (D_does_come_about : DefS P w K mg base 6 "does_come_about" 1 F_does_come_about) : FnOk P w K mg base (CXD P w) 7 f fd ["thing"] (spF mg 1 F_need_comes_about):=by
  refine fun_ok2 (k:=6) (m:=m_need_comes_about) F sc_need_comes_about rfl rfl rfl fun cdv A outer s H E hr=>?_
  exact (sb_one (ss_if (st_not (st_val (se_call D_does_come_about (hr.mono (by decide)) pass_onD rfl (sa_cons (se_var 0) sa_nil)))) (sb_one (ss_raise rfl raiseDok rfl C_NoTable.choose_spec.1 C_NoTable.choose_spec.2 se_str)) sb_nil))
def e_open_places_1 : ME:=(mTup (mCons (mVar 1) (mCons (mVar 0) mNil)))
def t_open_places_1 : MT:=(tAndM (toB (mOp oNe (mVar 0) (mVar 1))) (toB (mOp (oI fun a b=>.bl (decide (b < a))) (mOp oIx (mVar 2) (mVar 0)) (mC (.int 0)))))
def b_open_places_1 : MS:=(mIfS (toB (mCallF 2 F_made_some (mCons (mVar 0) (mCons (mVar 2) mNil)))) (mExpr (mBM mtExtend (mVar 1) (mCons (mVal (mCompN [none,some 2,some 3] (gaName 0) (mRange1 (mCons (mCall cLen (mCons (mVar 3) mNil)) mNil)) t_open_places_1 e_open_places_1)) mNil))) mNext)
def m_open_places : MS := (mSeqS (mSet 1 (mTrk (mLstN mNil)))
    (mSeqS (mFor (gaTup (gaCons (gaName 2) (gaCons (gaName 3) gaNil))) (mEnum (mCons (mVar 0) mNil)) b_open_places_1)
    (mRet (mVar 1))))
def F_open_places : FN:=callF m_open_places 4
theorem sc_open_places : FnScope ["rest", "places", "house", "row"] ["rest"] (defScope s_open_places):=⟨rfl,rfl,rfl,by decide +kernel,rfl,by decide +kernel,by decide +kernel⟩
theorem ok_open_places {f : Addr} {fd : FuncData} (F : Fun K "open_places" "open_places" s_open_places f fd) (T : Txt mg)  (D_made_some : DefS P w K mg base 1 "made_some" 2 F_made_some) : FnOk P w K mg base (CXD P w) 2 f fd ["rest"] (spF mg 1 F_open_places):=by
  refine fun_ok2 (k:=1) (m:=m_open_places) F sc_open_places rfl rfl rfl fun cdv A outer s H E hr=>?_
  exact (sb_cons (ss_set 1 sc_open_places.nd (se_trk (sn_lst sa_nil)))
    (sb_cons (ss_for PassesOwn.leaving rfl (si_enum rfl T.b_enumerate (sa_cons (se_var 0) sa_nil)) (sg_tup rfl (sgs_cons (sg_name (i:=2) sc_open_places.nd) (sgs_cons (sg_name (i:=3) sc_open_places.nd) sgs_nil))) (sb_one (ss_if (st_val (se_call D_made_some (hr.mono (by decide)) pass_onD rfl (sa_cons (se_var 0) (sa_cons (se_var 2) sa_nil)))) (sb_one (ss_expr (se_extend (se_var 1) (sa_cons (se_val (sn_comp [none,some 2,some 3] ["place", "house", "row"] rfl (si_range1 rfl T.b_range (sa_cons (se_callB cs_len rfl T.b_len PySem.boot_len (sa_cons (se_var 3) sa_nil)) sa_nil)) (fun _ _ _ _ _=>(sg_name (i:=0) (show (["place", "house", "row"] : List Str).Nodup by decide +kernel))) (fun _ _ _ _ _=>(se_tup (sa_cons (se_var 1) (sa_cons (se_var 0) sa_nil)))) (fun _ _ _ _ _=>(sts_one (SimW.t (sw_and (st_cmp (os_ne hr.units) (se_var 0) (se_var 1)) (sw_and1 (st_cmp os_gt (se_ix (se_var 2) (se_var 0)) se_int)))))) free_name)) sa_nil)))) sb_nil)))
    (sb_one (ss_ret (se_var 1)))))
def m_rest_behind : MS := (mSeqS (mSet 3 (mCallF 4 F_raised (mCons (mCallF 4 F_raised (mCons (mVar 0) (mCons (mVar 1) (mCons (mVar 1) (mCons (mNeg (mC (.int 1))) mNil))))) (mCons (mVar 1) (mCons (mVar 2) (mCons (mNeg (mC (.int 1))) mNil))))))
    (mSeqS (mIfS (toB (mOp oEq (mVar 2) (mCall cLen (mCons (mVar 0) mNil)))) (mRet (mVar 3)) mNext)
    (mRet (mCallF 4 F_raised (mCons (mVar 3) (mCons (mVar 2) (mCons (mVar 2) (mCons (mC (.int 1)) mNil))))))))
def F_rest_behind : FN:=callF m_rest_behind 4
theorem sc_rest_behind : FnScope ["rest", "house", "place", "behind"] ["rest", "house", "place"] (defScope s_rest_behind):=⟨rfl,rfl,rfl,by decide +kernel,rfl,by decide +kernel,by decide +kernel⟩
theorem ok_rest_behind {f : Addr} {fd : FuncData} (F : Fun K "rest_behind" "rest_behind" s_rest_behind f fd) (T : Txt mg)  (D_raised : DefS P w K mg base 1 "raised" 4 F_raised) : FnOk P w K mg base (CXD P w) 2 f fd ["rest", "house", "place"] (spF mg 3 F_rest_behind):=by
  refine fun_ok2 (k:=1) (m:=m_rest_behind) F sc_rest_behind rfl rfl rfl fun cdv A outer s H E hr=>?_
  exact (sb_cons (ss_set 3 sc_rest_behind.nd (se_call D_raised (hr.mono (by decide)) pass_onD rfl (sa_cons (se_call D_raised (hr.mono (by decide)) pass_onD rfl (sa_cons (se_var 0) (sa_cons (se_var 1) (sa_cons (se_var 1) (sa_cons (se_neg se_int) sa_nil))))) (sa_cons (se_var 1) (sa_cons (se_var 2) (sa_cons (se_neg se_int) sa_nil))))))
    (sb_cons (ss_if (st_cmp (os_eq hr.units) (se_var 2) (se_callB cs_len rfl T.b_len PySem.boot_len (sa_cons (se_var 0) sa_nil))) (sb_one (ss_ret (se_var 3))) sb_nil)
    (sb_one (ss_ret (se_call D_raised (hr.mono (by decide)) pass_onD rfl (sa_cons (se_var 3) (sa_cons (se_var 2) (sa_cons (se_var 2) (sa_cons se_int sa_nil)))))))))
def b_next_place_1 : MS:=(mIfS (toB (mOp oEq (mCall cLen (mCons (mCallF 1 F_rootless_houses (mCons (mCallF 3 F_rest_behind (mCons (mVar 0) (mCons (mVar 1) (mCons (mVar 2) mNil)))) mNil)) mNil)) (mC (.int 0)))) (mRet (mTup (mCons (mVar 1) (mCons (mVar 2) mNil)))) mNext)
def m_next_place : MS := (mSeqS (mFor (gaTup (gaCons (gaName 1) (gaCons (gaName 2) gaNil))) (mSeq (mCallF 1 F_open_places (mCons (mVar 0) mNil))) b_next_place_1)
    (mRet (mC .non)))
def F_next_place : FN:=callF m_next_place 3
theorem sc_next_place : FnScope ["rest", "house", "place"] ["rest"] (defScope s_next_place):=⟨rfl,rfl,rfl,by decide +kernel,rfl,by decide +kernel,by decide +kernel⟩
theorem ok_next_place {f : Addr} {fd : FuncData} (F : Fun K "next_place" "next_place" s_next_place f fd) (T : Txt mg)  (D_open_places : DefS P w K mg base 2 "open_places" 1 F_open_places) (D_rootless_houses : DefS P w K mg base 4 "rootless_houses" 1 F_rootless_houses) (D_rest_behind : DefS P w K mg base 2 "rest_behind" 3 F_rest_behind) : FnOk P w K mg base (CXD P w) 5 f fd ["rest"] (spF mg 1 F_next_place):=by
  refine fun_ok2 (k:=4) (m:=m_next_place) F sc_next_place rfl rfl rfl fun cdv A outer s H E hr=>?_
  exact (sb_cons (ss_for PassesOwn.leaving rfl (si_seq (se_call D_open_places (hr.mono (by decide)) pass_onD rfl (sa_cons (se_var 0) sa_nil))) (sg_tup rfl (sgs_cons (sg_name (i:=1) sc_next_place.nd) (sgs_cons (sg_name (i:=2) sc_next_place.nd) sgs_nil))) (sb_one (ss_if (st_cmp (os_eq hr.units) (se_callB cs_len rfl T.b_len PySem.boot_len (sa_cons (se_call D_rootless_houses (hr.mono (by decide)) pass_onD rfl (sa_cons (se_call D_rest_behind (hr.mono (by decide)) pass_onD rfl (sa_cons (se_var 0) (sa_cons (se_var 1) (sa_cons (se_var 2) sa_nil)))) sa_nil)) sa_nil)) se_int) (sb_one (ss_ret (se_tup (sa_cons (se_var 1) (sa_cons (se_var 2) sa_nil))))) sb_nil)))
    (sb_one (ss_ret se_non)))
def m_step_at : MS := (mSeqS (mIfS (toB (mOp oEq (mVar 2) (mCall cLen (mCons (mVar 0) mNil)))) (mRet (mTup (mCons (mC (.str "use")) (mCons (mVar 1) (mCons (mC (.int 1)) mNil))))) mNext)
    (mRet (mTup (mCons (mC (.str "lend")) (mCons (mVar 1) (mCons (mVar 2) (mCons (mC (.int 1)) mNil)))))))
def F_step_at : FN:=callF m_step_at 3
theorem sc_step_at : FnScope ["rest", "house", "place"] ["rest", "house", "place"] (defScope s_step_at):=⟨rfl,rfl,rfl,by decide +kernel,rfl,by decide +kernel,by decide +kernel⟩
theorem ok_step_at {f : Addr} {fd : FuncData} (F : Fun K "step_at" "step_at" s_step_at f fd) (T : Txt mg)   : FnOk P w K mg base (CXD P w) 1 f fd ["rest", "house", "place"] (spF mg 3 F_step_at):=by
  refine fun_ok2 (k:=0) (m:=m_step_at) F sc_step_at rfl rfl rfl fun cdv A outer s H E hr=>?_
  exact (sb_cons (ss_if (st_cmp (os_eq hr.units) (se_var 2) (se_callB cs_len rfl T.b_len PySem.boot_len (sa_cons (se_var 0) sa_nil))) (sb_one (ss_ret (se_tup (sa_cons se_str (sa_cons (se_var 1) (sa_cons se_int sa_nil)))))) sb_nil)
    (sb_one (ss_ret (se_tup (sa_cons se_str (sa_cons (se_var 1) (sa_cons (se_var 2) (sa_cons se_int sa_nil))))))))
def e_steps_1 : ME:=(mCall (cInts fun ns=>some (.int ns.sum)) (mCons (mVar 0) mNil))
def b_steps_1 : MS:=(mExpr (mBM mtExtend (mVar 1) (mCons (mOp oMul (mLst (mCons (mTup (mCons (mC (.str "make")) (mCons (mVar 2) (mCons (mC (.int 1)) mNil)))) mNil)) (mOp oIx (mVar 3) (mVar 2))) mNil)))
def b_steps_2 : MS := (mSeqS (mExpr (mBM mtAppend (mVar 1) (mCons (mCallF 3 F_step_at (mCons (mVar 4) (mCons (mOp oIx (mVar 5) (mC (.int 0))) (mCons (mOp oIx (mVar 5) (mC (.int 1))) mNil)))) mNil)))
    (mSeqS (mSet 4 (mCallF 3 F_rest_behind (mCons (mVar 4) (mCons (mOp oIx (mVar 5) (mC (.int 0))) (mCons (mOp oIx (mVar 5) (mC (.int 1))) mNil)))))
    (mSet 5 (mCallF 1 F_next_place (mCons (mVar 4) mNil)))))
def w_steps_2 : MT:=(toB (mOp oIsNot (mVar 5) (mC .non)))
def m_steps : MS := (mSeqS (mExpr (mCallF 1 F_need_comes_about (mCons (mVar 0) mNil)))
    (mSeqS (mIfS (toB (mOp (oI fun a b=>.bl (decide (b < a))) (mCall (cInts fun ns=>some (.int ns.sum)) (mCons (mVal (mCompN [none] (gaName 0) (mSeq (mVar 0)) mTrue e_steps_1)) mNil)) (mC (.int 300)))) (mRaise "TooMany" (mC (.str "more steps than are told"))) mNext)
    (mSeqS (mSet 1 (mTrk (mLstN mNil)))
    (mSeqS (mFor (gaTup (gaCons (gaName 2) (gaCons (gaName 3) gaNil))) (mEnum (mCons (mVar 0) mNil)) b_steps_1)
    (mSeqS (mSet 4 (mVar 0))
    (mSeqS (mSet 5 (mCallF 1 F_next_place (mCons (mVar 4) mNil)))
    (mSeqS (whileG w_steps_2 b_steps_2 100000)
    (mRet (mVar 1)))))))))
def F_steps : FN:=callK m_steps 6
theorem sc_steps : FnScope ["table", "told", "house", "row", "rest", "at"] ["table"] (defScope s_steps):=⟨rfl,rfl,rfl,by decide +kernel,rfl,by decide +kernel,by decide +kernel⟩
theorem ok_steps {f : Addr} {fd : FuncData} (F : Fun K "steps" "steps" s_steps f fd) (T : Txt mg) (C_TooMany : ∃ C,mg "TooMany" = some (.ref C) /\ PySem.W.excIn K C bmVE "ValueError.__new__" = true) (D_need_comes_about : DefS P w K mg base 7 "need_comes_about" 1 F_need_comes_about) (D_next_place : DefS P w K mg base 5 "next_place" 1 F_next_place) (D_step_at : DefS P w K mg base 1 "step_at" 3 F_step_at) (D_rest_behind : DefS P w K mg base 2 "rest_behind" 3 F_rest_behind) : FnOk P w K mg base (CXD P w) 8 f fd ["table"] (spF mg 1 F_steps):=by
  refine fun_ok2K (k:=7) (m:=m_steps) F sc_steps rfl rfl rfl fun cdv A outer s H E hr=>?_
  exact (sb_cons (ss_expr (se_call D_need_comes_about (hr.mono (by decide)) pass_onD rfl (sa_cons (se_var 0) sa_nil)))
    (sb_cons (ss_if (st_cmp os_gt (se_callB (cs_sum rfl) rfl T.b_sum boot_sum (sa_cons (se_val (sn_comp [none] ["row"] rfl (si_seq (se_var 0)) (fun _ _ _ _ _=>(sg_name (i:=0) (show (["row"] : List Str).Nodup by decide +kernel))) (fun _ _ _ _ _=>(se_callB (cs_sum rfl) rfl T.b_sum boot_sum (sa_cons (se_var 0) sa_nil))) (fun _ _ _ _ _=>sts_nil) free_name)) sa_nil)) (se_gint rfl T.c_MOST_STEPS.choose_spec)) (sb_one (ss_raise rfl raiseDok rfl C_TooMany.choose_spec.1 C_TooMany.choose_spec.2 se_str)) sb_nil)
    (sb_cons (ss_set 1 sc_steps.nd (se_trk (sn_lst sa_nil)))
    (sb_cons (ss_for PassesOwn.leaving rfl (si_enum rfl T.b_enumerate (sa_cons (se_var 0) sa_nil)) (sg_tup rfl (sgs_cons (sg_name (i:=2) sc_steps.nd) (sgs_cons (sg_name (i:=3) sc_steps.nd) sgs_nil))) (sb_one (ss_expr (se_extend (se_var 1) (sa_cons (se_op os_mul (se_lst (sa_cons (se_tup (sa_cons se_str (sa_cons (se_var 2) (sa_cons se_int sa_nil)))) sa_nil)) (se_ix (se_var 3) (se_var 2))) sa_nil)))))
    (sb_cons (ss_set 4 sc_steps.nd (se_var 0))
    (sb_cons (ss_set 5 sc_steps.nd (se_call D_next_place (hr.mono (by decide)) pass_onD rfl (sa_cons (se_var 4) sa_nil)))
    (sb_cons (ss_while 100000 PassesOwn.leaving (st_cmp os_isnot (se_var 5) se_non) (sb_cons (ss_expr (se_append (se_var 1) (sa_cons (se_call D_step_at (hr.mono (by decide)) pass_onD rfl (sa_cons (se_var 4) (sa_cons (se_ix (se_var 5) se_int) (sa_cons (se_ix (se_var 5) se_int) sa_nil)))) sa_nil)))
    (sb_cons (ss_set 4 sc_steps.nd (se_call D_rest_behind (hr.mono (by decide)) pass_onD rfl (sa_cons (se_var 4) (sa_cons (se_ix (se_var 5) se_int) (sa_cons (se_ix (se_var 5) se_int) sa_nil)))))
    (sb_one (ss_set 5 sc_steps.nd (se_call D_next_place (hr.mono (by decide)) pass_onD rfl (sa_cons (se_var 4) sa_nil)))))))
    (sb_one (ss_ret (se_var 1))))))))))
def b__law_b_draw_1 : MS:=(mSet 2 (mOp oMod (mOp oAdd (mOp oAdd (mOp oMul (mVar 2) (mC (.int 69621))) (mOp oMod (mVar 3) (mC (.int 998244353)))) (mC (.int 1))) (mC (.int 1000000007))))
def m__law_b_draw : MS := (mSeqS (mIfS (toB (mOp oLt (mVar 1) (mCall cLen (mCons (mVar 0) mNil)))) (mRet (mOp oMod (mOp oIx (mVar 0) (mVar 1)) (mOp oPow (mC (.int 10)) (mC (.int 40))))) mNext)
    (mSeqS (mSet 2 (mOp oMul (mC (.int 1000003)) (mOp oAdd (mVar 1) (mC (.int 1)))))
    (mSeqS (mFor (gaName 3) (mSeq (mSl (mVar 0) mNoPart (mPart (mC (.int 7))))) b__law_b_draw_1)
    (mSeqS (mSet 2 (mOp oMod (mOp oMul (mVar 2) (mVar 2)) (mC (.int 1000000007))))
    (mSeqS (mSet 2 (mOp oMod (mOp oMul (mOp oAdd (mVar 2) (mOp oMul (mOp oMul (mC (.int 7919)) (mVar 1)) (mVar 1))) (mC (.int 48271))) (mC (.int 2147483647))))
    (mRet (mOp oDiv (mOp oMod (mOp oMul (mVar 2) (mVar 2)) (mC (.int 2147483647))) (mC (.int 8)))))))))
def F__law_b_draw : FN:=callF m__law_b_draw 4
theorem sc__law_b_draw : FnScope ["script", "k", "mixed", "cell"] ["script", "k"] (defScope s__law_b_draw):=⟨rfl,rfl,rfl,by decide +kernel,rfl,by decide +kernel,by decide +kernel⟩
theorem ok__law_b_draw {f : Addr} {fd : FuncData} (F : Fun K "_law_b_draw" "_law_b_draw" s__law_b_draw f fd) (T : Txt mg)   : FnOk P w K mg base (CXD P w) 1 f fd ["script", "k"] (spF mg 2 F__law_b_draw):=by
  refine fun_ok2 (k:=0) (m:=m__law_b_draw) F sc__law_b_draw rfl rfl rfl fun cdv A outer s H E hr=>?_
  exact (sb_cons (ss_if (st_cmp (os_lt hr.units) (se_var 1) (se_callB cs_len rfl T.b_len PySem.boot_len (sa_cons (se_var 0) sa_nil))) (sb_one (ss_ret (se_op os_mod (se_ix (se_var 0) (se_var 1)) (se_op os_pow se_int se_int)))) sb_nil)
    (sb_cons (ss_set 2 sc__law_b_draw.nd (se_op os_mul se_int (se_op os_add (se_var 1) se_int)))
    (sb_cons (ss_for PassesOwn.leaving rfl (si_seq (se_slice (se_var 0) so_none (so_some se_int))) (sg_name (i:=3) sc__law_b_draw.nd) (sb_one (ss_set 2 sc__law_b_draw.nd (se_op os_mod (se_op os_add (se_op os_add (se_op os_mul (se_var 2) se_int) (se_op os_mod (se_var 3) se_int)) se_int) se_int))))
    (sb_cons (ss_set 2 sc__law_b_draw.nd (se_op os_mod (se_op os_mul (se_var 2) (se_var 2)) se_int))
    (sb_cons (ss_set 2 sc__law_b_draw.nd (se_op os_mod (se_op os_mul (se_op os_add (se_var 2) (se_op os_mul (se_op os_mul se_int (se_var 1)) (se_var 1))) se_int) se_int))
    (sb_one (ss_ret (se_op os_div (se_op os_mod (se_op os_mul (se_var 2) (se_var 2)) se_int) se_int))))))))
def b__law_b_rights_1 : MS := (mSeqS (mSet 3 (mOp oAdd (mVar 3) (mOp oIx (mOp oIx (mVar 0) (mVar 4)) (mVar 1))))
    (mIfS (toB (mOp oNe (mVar 4) (mVar 1))) (mSet 3 (mOp (oI fun a b=>.int (a - b)) (mVar 3) (mOp oIx (mOp oIx (mVar 0) (mVar 1)) (mVar 4)))) mNext))
def m__law_b_rights : MS := (mSeqS (mSet 2 (mCall cLen (mCons (mVar 0) mNil)))
    (mSeqS (mSet 3 (mC (.int 0)))
    (mSeqS (mFor (gaName 4) (mRange1 (mCons (mVar 2) mNil)) b__law_b_rights_1)
    (mRet (mOp (oI fun a b=>.int (a - b)) (mVar 3) (mOp oIx (mOp oIx (mVar 0) (mVar 1)) (mVar 2)))))))
def F__law_b_rights : FN:=callF m__law_b_rights 5
theorem sc__law_b_rights : FnScope ["table", "house", "n", "total", "other"] ["table", "house"] (defScope s__law_b_rights):=⟨rfl,rfl,rfl,by decide +kernel,rfl,by decide +kernel,by decide +kernel⟩
theorem ok__law_b_rights {f : Addr} {fd : FuncData} (F : Fun K "_law_b_rights" "_law_b_rights" s__law_b_rights f fd) (T : Txt mg)   : FnOk P w K mg base (CXD P w) 1 f fd ["table", "house"] (spF mg 2 F__law_b_rights):=by
  refine fun_ok2 (k:=0) (m:=m__law_b_rights) F sc__law_b_rights rfl rfl rfl fun cdv A outer s H E hr=>?_
  exact (sb_cons (ss_set 2 sc__law_b_rights.nd (se_callB cs_len rfl T.b_len PySem.boot_len (sa_cons (se_var 0) sa_nil)))
    (sb_cons (ss_set 3 sc__law_b_rights.nd se_int)
    (sb_cons (ss_for PassesOwn.leaving rfl (si_range1 rfl T.b_range (sa_cons (se_var 2) sa_nil)) (sg_name (i:=4) sc__law_b_rights.nd) (sb_cons (ss_set 3 sc__law_b_rights.nd (se_op os_add (se_var 3) (se_ix (se_ix (se_var 0) (se_var 4)) (se_var 1))))
    (sb_one (ss_if (st_cmp (os_ne hr.units) (se_var 4) (se_var 1)) (sb_one (ss_set 3 sc__law_b_rights.nd (se_op os_sub (se_var 3) (se_ix (se_ix (se_var 0) (se_var 1)) (se_var 4))))) sb_nil))))
    (sb_one (ss_ret (se_op os_sub (se_var 3) (se_ix (se_ix (se_var 0) (se_var 1)) (se_var 2))))))))
def e__law_b_one_more_1 : ME:=(mTrk (mListN (mVar 0)))
def e__law_b_one_more_2 : ME:=(mCall cTuple (mCons (mVar 0) mNil))
def m__law_b_one_more : MS := (mSeqS (mSet 3 (mTrk (mCompN [none] (gaName 0) (mSeq (mVar 0)) mTrue e__law_b_one_more_1)))
    (mSeqS (mSetIx (mOp oIx (mVar 3) (mVar 1)) (mVar 2) (mOp oAdd (mOp oIx (mOp oIx (mVar 3) (mVar 1)) (mVar 2)) (mC (.int 1))))
    (mRet (mCall cTuple (mCons (mVal (mCompN [none] (gaName 0) (mSeq (mVar 3)) mTrue e__law_b_one_more_2)) mNil)))))
def F__law_b_one_more : FN:=callF m__law_b_one_more 4
theorem sc__law_b_one_more : FnScope ["table", "i", "j", "rows"] ["table", "i", "j"] (defScope s__law_b_one_more):=⟨rfl,rfl,rfl,by decide +kernel,rfl,by decide +kernel,by decide +kernel⟩
theorem ok__law_b_one_more {f : Addr} {fd : FuncData} (F : Fun K "_law_b_one_more" "_law_b_one_more" s__law_b_one_more f fd) (T : Txt mg)   : FnOk P w K mg base (CXD P w) 1 f fd ["table", "i", "j"] (spF mg 3 F__law_b_one_more):=by
  refine fun_ok2 (k:=0) (m:=m__law_b_one_more) F sc__law_b_one_more rfl rfl rfl fun cdv A outer s H E hr=>?_
  exact (sb_cons (by first | exact ss_compT [none] ["row"] 3 sc__law_b_one_more.nd rfl (si_seq (se_var 0)) (fun _ _ _ _ _=>(sg_name (i:=0) (show (["row"] : List Str).Nodup by decide +kernel))) (fun _ _ _ _ _=>(se_trk (sn_list (se_var 0) rfl T.b_list))) (fun _ _ _ _ _=>sts_nil) free_name | exact ss_set 3 sc__law_b_one_more.nd (se_trk (sn_comp [none] ["row"] rfl (si_seq (se_var 0)) (fun _ _ _ _ _=>(sg_name (i:=0) (show (["row"] : List Str).Nodup by decide +kernel))) (fun _ _ _ _ _=>(se_trk (sn_list (se_var 0) rfl T.b_list))) (fun _ _ _ _ _=>sts_nil) free_name)))
    (sb_cons (ss_sub (se_op os_add (se_ix (se_ix (se_var 3) (se_var 1)) (se_var 2)) se_int) (se_ix (se_var 3) (se_var 1)) (se_var 2))
    (sb_one (ss_ret (se_callT cs_tuple rfl T.b_tuple boot_tuple (sa_cons (se_val (sn_comp [none] ["row"] rfl (si_seq (se_var 3)) (fun _ _ _ _ _=>(sg_name (i:=0) (show (["row"] : List Str).Nodup by decide +kernel))) (fun _ _ _ _ _=>(se_callT cs_tuple rfl T.b_tuple boot_tuple (sa_cons (se_var 0) sa_nil))) (fun _ _ _ _ _=>sts_nil) free_name)) sa_nil))))))
def e__law_b_reached_1 : ME:=(mCall cTuple (mCons (mOp oMul (mLst (mCons (mC (.int 0)) mNil)) (mOp oAdd (mVar 1) (mC (.int 1)))) mNil))
def b__law_b_reached_3 : MS := (mIfS (tAndM (toB (mOp oLt (mOp oIx (mOp oIx (mVar 5) (mVar 6)) (mVar 8)) (mOp oIx (mOp oIx (mVar 0) (mVar 6)) (mVar 8)))) (tOrM (toB (mOp oEq (mVar 8) (mVar 6))) (toB (mOp (oI fun a b => .bl (decide (b < a))) (mVar 7) (mC (.int 0)))))) (mSeqS (mSet 9 (mCallF 3 F__law_b_one_more (mCons (mVar 5) (mCons (mVar 6) (mCons (mVar 8) mNil)))))
    (mIfS (toB (mOp (oInT true) (mVar 9) (mVar 3))) (mSeqS (mDPutT (mVar 3) (mVar 9) (mC (.bl true)))
    (mExpr (mBM mtAppend (mVar 4) (mCons (mVar 9) mNil)))) mNext)) mNext)
def b__law_b_reached_2 : MS := (mSeqS (mSet 7 (mCallF 2 F__law_b_rights (mCons (mVar 5) (mCons (mVar 6) mNil))))
    (mFor (gaName 8) (mRange1 (mCons (mOp oAdd (mVar 1) (mC (.int 1))) mNil)) b__law_b_reached_3))
def b__law_b_reached_1 : MS := (mSeqS (mSet 5 (mBM mtPop (mVar 4) mNil))
    (mFor (gaName 6) (mRange1 (mCons (mVar 1) mNil)) b__law_b_reached_2))
def w__law_b_reached_1 : MT:=(toB (mOp oNe (mVar 4) (mLst mNil)))
def m__law_b_reached : MS := (mSeqS (mSet 1 (mCall cLen (mCons (mVar 0) mNil)))
    (mSeqS (mSet 2 (mCall cTuple (mCons (mVal (mCompN [none,some 1] (gaName 0) (mRange1 (mCons (mVar 1) mNil)) mTrue e__law_b_reached_1)) mNil)))
    (mSeqS (mSet 3 (mDisp1T (mVar 2) (mC (.bl true))))
    (mSeqS (mSet 4 (mTrk (mLstN (mCons (mVar 2) mNil))))
    (mSeqS (whileG w__law_b_reached_1 b__law_b_reached_1 100000)
    (mRet (mVar 3)))))))
def F__law_b_reached : FN:=callK m__law_b_reached 10
theorem sc__law_b_reached : FnScope ["table", "n", "start", "seen", "waits", "here", "i", "has", "j", "there"] ["table"] (defScope s__law_b_reached):=⟨rfl,rfl,rfl,by decide +kernel,rfl,by decide +kernel,by decide +kernel⟩
theorem ok__law_b_reached {f : Addr} {fd : FuncData} (F : Fun K "_law_b_reached" "_law_b_reached" s__law_b_reached f fd) (T : Txt mg)  (D__law_b_rights : DefS P w K mg base 1 "_law_b_rights" 2 F__law_b_rights) (D__law_b_one_more : DefS P w K mg base 1 "_law_b_one_more" 3 F__law_b_one_more) : FnOk P w K mg base (CXD P w) 2 f fd ["table"] (spF mg 1 F__law_b_reached):=by
  refine fun_ok2K (k:=1) (m:=m__law_b_reached) F sc__law_b_reached rfl rfl rfl fun cdv A outer s H E hr=>?_
  exact (sb_cons (ss_set 1 sc__law_b_reached.nd (se_callB cs_len rfl T.b_len PySem.boot_len (sa_cons (se_var 0) sa_nil)))
    (sb_cons (ss_set 2 sc__law_b_reached.nd (se_callT cs_tuple rfl T.b_tuple boot_tuple (sa_cons (se_val (sn_comp [none,some 1] ["house", "n"] rfl (si_range1 rfl T.b_range (sa_cons (se_var 1) sa_nil)) (fun _ _ _ _ _=>(sg_name (i:=0) (show (["house", "n"] : List Str).Nodup by decide +kernel))) (fun _ _ _ _ _=>(se_callT cs_tuple rfl T.b_tuple boot_tuple (sa_cons (se_op os_mul (se_lst (sa_cons se_int sa_nil)) (se_op os_add (se_var 1) se_int)) sa_nil))) (fun _ _ _ _ _=>sts_nil) free_name)) sa_nil)))
    (sb_cons (ss_set 3 sc__law_b_reached.nd (se_disp1T (room_u1 hr) (se_var 2) se_bl))
    (sb_cons (ss_set 4 sc__law_b_reached.nd (se_trk (sn_lst (sa_cons (se_var 2) sa_nil))))
    (sb_cons (ss_while 100000 PassesOwn.leaving (st_cmp (os_ne hr.units) (se_var 4) (se_lst sa_nil)) (sb_cons (ss_set 5 sc__law_b_reached.nd (se_bm0 PySem.F.plainAttrs_list PySem.F.slot_list_pop PySem.F.type_list_pop ms_pop (se_var 4)))
    (sb_one (ss_for PassesOwn.leaving rfl (si_range1 rfl T.b_range (sa_cons (se_var 1) sa_nil)) (sg_name (i:=6) sc__law_b_reached.nd) (sb_cons (ss_set 7 sc__law_b_reached.nd (se_call D__law_b_rights (hr.mono (by decide)) pass_onD rfl (sa_cons (se_var 5) (sa_cons (se_var 6) sa_nil))))
    (sb_one (ss_for PassesOwn.leaving rfl (si_range1 rfl T.b_range (sa_cons (se_op os_add (se_var 1) se_int) sa_nil)) (sg_name (i:=8) sc__law_b_reached.nd) (sb_one (ss_if (SimW.t (sw_and (st_cmp (os_lt hr.units) (se_ix (se_ix (se_var 5) (se_var 6)) (se_var 8)) (se_ix (se_ix (se_var 0) (se_var 6)) (se_var 8))) (sw_and1 (SimW.t (sw_or (st_cmp (os_eq hr.units) (se_var 8) (se_var 6)) (sw_or1 (st_cmp os_gt (se_var 7) se_int))))))) (sb_cons (ss_set 9 sc__law_b_reached.nd (se_call D__law_b_one_more (hr.mono (by decide)) pass_onD rfl (sa_cons (se_var 5) (sa_cons (se_var 6) (sa_cons (se_var 8) sa_nil)))))
    (sb_one (ss_if (st_cmp (os_notinT (room_u1 hr)) (se_var 9) (se_var 3)) (sb_cons (ss_dputT (room_u1 hr) se_bl (se_var 3) (se_var 9))
    (sb_one (ss_expr (se_append (se_var 4) (sa_cons (se_var 9) sa_nil))))) sb_nil))) sb_nil)))))))))
    (sb_one (ss_ret (se_var 3))))))))
def m__law_b_place : MS := (mSeqS (mIfS (toB (mOp oEq (mOp oIx (mVar 1) (mC (.int 0))) (mC (.str "make")))) (mRet (mOp oIx (mVar 1) (mC (.int 1)))) mNext)
    (mSeqS (mIfS (toB (mOp oEq (mOp oIx (mVar 1) (mC (.int 0))) (mC (.str "lend")))) (mRet (mOp oIx (mVar 1) (mC (.int 2)))) mNext)
    (mRet (mVar 0))))
def F__law_b_place : FN:=callF m__law_b_place 2
theorem sc__law_b_place : FnScope ["n", "deed"] ["n", "deed"] (defScope s__law_b_place):=⟨rfl,rfl,rfl,by decide +kernel,rfl,by decide +kernel,by decide +kernel⟩
theorem ok__law_b_place {f : Addr} {fd : FuncData} (F : Fun K "_law_b_place" "_law_b_place" s__law_b_place f fd) (T : Txt mg)   : FnOk P w K mg base (CXD P w) 1 f fd ["n", "deed"] (spF mg 2 F__law_b_place):=by
  refine fun_ok2 (k:=0) (m:=m__law_b_place) F sc__law_b_place rfl rfl rfl fun cdv A outer s H E hr=>?_
  exact (sb_cons (ss_if (st_cmp (os_eq hr.units) (se_ix (se_var 1) se_int) se_str) (sb_one (ss_ret (se_ix (se_var 1) se_int))) sb_nil)
    (sb_cons (ss_if (st_cmp (os_eq hr.units) (se_ix (se_var 1) se_int) se_str) (sb_one (ss_ret (se_ix (se_var 1) se_int))) sb_nil)
    (sb_one (ss_ret (se_var 0)))))
def e_law_1 : ME:=(mTrk (mRepN (mLst (mCons (mC (.int 0)) mNil)) (mOp oAdd (mVar 1) (mC (.int 1)))))
def b_law_1 : MS := (mSeqS (mSet 5 (mCallF 2 F__law_b_draw (mCons (mVar 0) (mCons (mOp oAdd (mC (.int 1)) (mVar 4)) mNil))))
    (mSeqS (mSet 6 (mOp oMod (mVar 5) (mVar 2)))
    (mSeqS (mSet 7 (mOp oMod (mOp oDiv (mVar 5) (mC (.int 3))) (mOp oAdd (mVar 2) (mC (.int 1)))))
    (mSetIx (mOp oIx (mVar 3) (mVar 6)) (mVar 7) (mOp oAdd (mOp oIx (mOp oIx (mVar 3) (mVar 6)) (mVar 7)) (mC (.int 1)))))))
def e_law_2 : ME:=(mCall cTuple (mCons (mVar 0) mNil))
def e_law_3 : ME:=(mCall cTuple (mCons (mOp oMul (mLst (mCons (mC (.int 0)) mNil)) (mOp oAdd (mVar 1) (mC (.int 1)))) mNil))
def e_law_4 : ME:=(mCall (cInts fun ns=>some (.int ns.sum)) (mCons (mVar 0) mNil))
def b_law_2 : MS := (mSeqS (mSet 11 (mCallF 3 F__law_b_one_more (mCons (mVar 11) (mCons (mOp oIx (mVar 13) (mC (.int 1))) (mCons (mCallF 2 F__law_b_place (mCons (mVar 2) (mCons (mVar 13) mNil))) mNil)))))
    (mIfS (toB (mOp (oInT true) (mVar 11) (mVar 9))) (mRet (mC (.bl false))) mNext))
def m_law : MS := (mSeqS (mSet 1 (mCallF 2 F__law_b_draw (mCons (mVar 0) (mCons (mC (.int 0)) mNil))))
    (mSeqS (mSet 2 (mOp oAdd (mC (.int 1)) (mOp oMod (mVar 1) (mC (.int 3)))))
    (mSeqS (mSet 3 (mTrk (mCompN [none,some 2] (gaName 0) (mRange1 (mCons (mVar 2) mNil)) mTrue e_law_1)))
    (mSeqS (mFor (gaName 4) (mRange1 (mCons (mOp oMod (mOp oDiv (mVar 1) (mC (.int 3))) (mC (.int 5))) mNil)) b_law_1)
    (mSeqS (mIfS (tAndM (toB (mOp (oI fun a b=>.bl (decide (b < a))) (mVar 2) (mC (.int 1)))) (toB (mOp oEq (mOp oMod (mOp oDiv (mVar 1) (mC (.int 15))) (mC (.int 2))) (mC (.int 0))))) (mSeqS (mSet 6 (mOp oMod (mOp oDiv (mVar 1) (mC (.int 30))) (mVar 2)))
    (mSeqS (mSet 7 (mOp oMod (mOp oAdd (mOp oAdd (mVar 6) (mC (.int 1))) (mOp oMod (mOp oDiv (mVar 1) (mC (.int 90))) (mOp (oI fun a b=>.int (a - b)) (mVar 2) (mC (.int 1))))) (mVar 2)))
    (mSeqS (mSetIx (mOp oIx (mVar 3) (mVar 6)) (mVar 7) (mOp oAdd (mOp oIx (mOp oIx (mVar 3) (mVar 6)) (mVar 7)) (mC (.int 1))))
    (mSetIx (mOp oIx (mVar 3) (mVar 7)) (mVar 6) (mOp oAdd (mOp oIx (mOp oIx (mVar 3) (mVar 7)) (mVar 6)) (mC (.int 1))))))) mNext)
    (mSeqS (mSet 8 (mCall cTuple (mCons (mVal (mCompN [none] (gaName 0) (mSeq (mVar 3)) mTrue e_law_2)) mNil)))
    (mSeqS (mSet 9 (mCallF 1 F__law_b_reached (mCons (mVar 8) mNil)))
    (mSeqS (mSet 10 (mCallF 1 F_comes_about (mCons (mVar 8) mNil)))
    (mSeqS (mIfS (toB (mOp (oInT true) (mVar 8) (mVar 9))) (mRet (mOr (mOp oEq (mOp oIx (mVar 10) (mC (.int 0))) (mC (.str "short"))) (mOp oEq (mOp oIx (mVar 10) (mC (.int 0))) (mC (.str "rootless"))))) mNext)
    (mSeqS (mIfS (toB (mOp oNe (mOp oIx (mVar 10) (mC (.int 0))) (mC (.str "comes")))) (mRet (mC (.bl false))) mNext)
    (mSeqS (mSet 11 (mCall cTuple (mCons (mVal (mCompN [none,some 2] (gaName 0) (mRange1 (mCons (mVar 2) mNil)) mTrue e_law_3)) mNil)))
    (mSeqS (mSet 12 (mCallF 1 F_steps (mCons (mVar 8) mNil)))
    (mSeqS (mIfS (toB (mOp oNe (mCall cLen (mCons (mVar 12) mNil)) (mCall (cInts fun ns=>some (.int ns.sum)) (mCons (mVal (mCompN [none] (gaName 0) (mSeq (mVar 8)) mTrue e_law_4)) mNil)))) (mRet (mC (.bl false))) mNext)
    (mSeqS (mFor (gaName 13) (mSeq (mVar 12)) b_law_2)
    (mRet (mOp oEq (mVar 11) (mVar 8)))))))))))))))))
def F_law : FN:=callF m_law 14
theorem sc_law : FnScope ["script", "draw", "n", "rows", "k", "cell", "i", "j", "table", "seen", "found", "here", "told", "deed"] ["script"] (defScope s_law):=⟨rfl,rfl,rfl,by decide +kernel,rfl,by decide +kernel,by decide +kernel⟩
theorem ok_law {f : Addr} {fd : FuncData} (F : Fun K "law" "law" s_law f fd) (T : Txt mg)  (D__law_b_draw : DefS P w K mg base 1 "_law_b_draw" 2 F__law_b_draw) (D__law_b_reached : DefS P w K mg base 2 "_law_b_reached" 1 F__law_b_reached) (D_comes_about : DefS P w K mg base 5 "comes_about" 1 F_comes_about) (D_steps : DefS P w K mg base 8 "steps" 1 F_steps) (D__law_b_one_more : DefS P w K mg base 1 "_law_b_one_more" 3 F__law_b_one_more) (D__law_b_place : DefS P w K mg base 1 "_law_b_place" 2 F__law_b_place) : FnOk P w K mg base (CXD P w) 9 f fd ["script"] (spF mg 1 F_law):=by
  refine fun_ok2 (k:=8) (m:=m_law) F sc_law rfl rfl rfl fun cdv A outer s H E hr=>?_
  exact (sb_cons (ss_set 1 sc_law.nd (se_call D__law_b_draw (hr.mono (by decide)) pass_onD rfl (sa_cons (se_var 0) (sa_cons se_int sa_nil))))
    (sb_cons (ss_set 2 sc_law.nd (se_op os_add se_int (se_op os_mod (se_var 1) se_int)))
    (sb_cons (by first | exact ss_compT [none,some 2] ["house", "n"] 3 sc_law.nd rfl (si_range1 rfl T.b_range (sa_cons (se_var 2) sa_nil)) (fun _ _ _ _ _=>(sg_name (i:=0) (show (["house", "n"] : List Str).Nodup by decide +kernel))) (fun _ _ _ _ _=>(se_trk (sn_rep (se_lst (sa_cons se_int sa_nil)) (se_op os_add (se_var 1) se_int)))) (fun _ _ _ _ _=>sts_nil) free_name | exact ss_set 3 sc_law.nd (se_trk (sn_comp [none,some 2] ["house", "n"] rfl (si_range1 rfl T.b_range (sa_cons (se_var 2) sa_nil)) (fun _ _ _ _ _=>(sg_name (i:=0) (show (["house", "n"] : List Str).Nodup by decide +kernel))) (fun _ _ _ _ _=>(se_trk (sn_rep (se_lst (sa_cons se_int sa_nil)) (se_op os_add (se_var 1) se_int)))) (fun _ _ _ _ _=>sts_nil) free_name)))
    (sb_cons (ss_for PassesOwn.leaving rfl (si_range1 rfl T.b_range (sa_cons (se_op os_mod (se_op os_div (se_var 1) se_int) se_int) sa_nil)) (sg_name (i:=4) sc_law.nd) (sb_cons (ss_set 5 sc_law.nd (se_call D__law_b_draw (hr.mono (by decide)) pass_onD rfl (sa_cons (se_var 0) (sa_cons (se_op os_add se_int (se_var 4)) sa_nil))))
    (sb_cons (ss_set 6 sc_law.nd (se_op os_mod (se_var 5) (se_var 2)))
    (sb_cons (ss_set 7 sc_law.nd (se_op os_mod (se_op os_div (se_var 5) se_int) (se_op os_add (se_var 2) se_int)))
    (sb_one (ss_sub (se_op os_add (se_ix (se_ix (se_var 3) (se_var 6)) (se_var 7)) se_int) (se_ix (se_var 3) (se_var 6)) (se_var 7)))))))
    (sb_cons (ss_if (SimW.t (sw_and (st_cmp os_gt (se_var 2) se_int) (sw_and1 (st_cmp (os_eq hr.units) (se_op os_mod (se_op os_div (se_var 1) se_int) se_int) se_int)))) (sb_cons (ss_set 6 sc_law.nd (se_op os_mod (se_op os_div (se_var 1) se_int) (se_var 2)))
    (sb_cons (ss_set 7 sc_law.nd (se_op os_mod (se_op os_add (se_op os_add (se_var 6) se_int) (se_op os_mod (se_op os_div (se_var 1) se_int) (se_op os_sub (se_var 2) se_int))) (se_var 2)))
    (sb_cons (ss_sub (se_op os_add (se_ix (se_ix (se_var 3) (se_var 6)) (se_var 7)) se_int) (se_ix (se_var 3) (se_var 6)) (se_var 7))
    (sb_one (ss_sub (se_op os_add (se_ix (se_ix (se_var 3) (se_var 7)) (se_var 6)) se_int) (se_ix (se_var 3) (se_var 7)) (se_var 6)))))) sb_nil)
    (sb_cons (ss_set 8 sc_law.nd (se_callT cs_tuple rfl T.b_tuple boot_tuple (sa_cons (se_val (sn_comp [none] ["row"] rfl (si_seq (se_var 3)) (fun _ _ _ _ _=>(sg_name (i:=0) (show (["row"] : List Str).Nodup by decide +kernel))) (fun _ _ _ _ _=>(se_callT cs_tuple rfl T.b_tuple boot_tuple (sa_cons (se_var 0) sa_nil))) (fun _ _ _ _ _=>sts_nil) free_name)) sa_nil)))
    (sb_cons (ss_set 9 sc_law.nd (se_call D__law_b_reached (hr.mono (by decide)) pass_onD rfl (sa_cons (se_var 8) sa_nil)))
    (sb_cons (ss_set 10 sc_law.nd (se_call D_comes_about (hr.mono (by decide)) pass_onD rfl (sa_cons (se_var 8) sa_nil)))
    (sb_cons (ss_if (st_cmp (os_notinT (room_u1 hr)) (se_var 8) (se_var 9)) (sb_one (ss_ret (se_or (se_cmp (os_eq hr.units) (se_ix (se_var 10) se_int) se_str) (se_one (se_cmp (os_eq hr.units) (se_ix (se_var 10) se_int) se_str))))) sb_nil)
    (sb_cons (ss_if (st_cmp (os_ne hr.units) (se_ix (se_var 10) se_int) se_str) (sb_one (ss_ret se_bl)) sb_nil)
    (sb_cons (ss_set 11 sc_law.nd (se_callT cs_tuple rfl T.b_tuple boot_tuple (sa_cons (se_val (sn_comp [none,some 2] ["house", "n"] rfl (si_range1 rfl T.b_range (sa_cons (se_var 2) sa_nil)) (fun _ _ _ _ _=>(sg_name (i:=0) (show (["house", "n"] : List Str).Nodup by decide +kernel))) (fun _ _ _ _ _=>(se_callT cs_tuple rfl T.b_tuple boot_tuple (sa_cons (se_op os_mul (se_lst (sa_cons se_int sa_nil)) (se_op os_add (se_var 1) se_int)) sa_nil))) (fun _ _ _ _ _=>sts_nil) free_name)) sa_nil)))
    (sb_cons (ss_set 12 sc_law.nd (se_call D_steps (hr.mono (by decide)) pass_onD rfl (sa_cons (se_var 8) sa_nil)))
    (sb_cons (ss_if (st_cmp (os_ne hr.units) (se_callB cs_len rfl T.b_len PySem.boot_len (sa_cons (se_var 12) sa_nil)) (se_callB (cs_sum rfl) rfl T.b_sum boot_sum (sa_cons (se_val (sn_comp [none] ["row"] rfl (si_seq (se_var 8)) (fun _ _ _ _ _=>(sg_name (i:=0) (show (["row"] : List Str).Nodup by decide +kernel))) (fun _ _ _ _ _=>(se_callB (cs_sum rfl) rfl T.b_sum boot_sum (sa_cons (se_var 0) sa_nil))) (fun _ _ _ _ _=>sts_nil) free_name)) sa_nil))) (sb_one (ss_ret se_bl)) sb_nil)
    (sb_cons (ss_for PassesOwn.leaving rfl (si_seq (se_var 12)) (sg_name (i:=13) sc_law.nd) (sb_cons (ss_set 11 sc_law.nd (se_call D__law_b_one_more (hr.mono (by decide)) pass_onD rfl (sa_cons (se_var 11) (sa_cons (se_ix (se_var 13) se_int) (sa_cons (se_call D__law_b_place (hr.mono (by decide)) pass_onD rfl (sa_cons (se_var 2) (sa_cons (se_var 13) sa_nil))) sa_nil)))))
    (sb_one (ss_if (st_cmp (os_notinT (room_u1 hr)) (se_var 11) (se_var 9)) (sb_one (ss_ret se_bl)) sb_nil))))
    (sb_one (ss_ret (se_cmp (os_eq hr.units) (se_var 11) (se_var 8))))))))))))))))))
end
end Lw
namespace Lw
open PySem PySem.Spec L2 Sm
theorem emod_lt (a : Int) {b : Int} (h : 0 < b) : 0 <= a % b /\ a % b < b:=⟨Int.emod_nonneg a (by omega),Int.emod_lt_of_pos a h⟩
def rowV (r : List Int) : PV:=.tup (r.map .int)
def tabV (tb : List (List Int)) : PV:=.tup (tb.map rowV)
theorem all_id {α : Type} (xs : List α) (p : α -> Bool) : (xs.map p).all id = xs.all p:=by
  rw [List.all_map]; rfl
structure Wt' (n : Nat) (tb : List (List Int)) : Prop where
  len : tb.length = n
  row : ∀ r ∈ tb,r.length = n + 1
  nn : ∀ r ∈ tb,∀ x ∈ r,(0 : Int) <= x
  n1 : 1 <= n
  n8 : n <= 8
def upto (n : Nat) (f : Nat -> Int) : Int:=((List.range n).map f).sum
theorem upto_succ (n : Nat) (f : Nat -> Int) : upto (n + 1) f = upto n f + f n:=by
  unfold upto
  rw [List.range_succ,List.map_append,List.sum_append]
  simp
theorem upto_congr {n : Nat} {f g : Nat -> Int} (h : ∀ i,i < n -> f i = g i) : upto n f = upto n g:=by
  induction n with
  | zero=>rfl
  | succ n ih=>rw [upto_succ,upto_succ,ih fun i hi=>h i (by omega),h n (by omega)]
theorem upto_add (n : Nat) (f g : Nat -> Int) : upto n (fun i=>f i + g i) = upto n f + upto n g:=by
  induction n with
  | zero=>rfl
  | succ n ih=>rw [upto_succ,upto_succ,upto_succ,ih]; omega
theorem upto_sub (n : Nat) (f g : Nat -> Int) : upto n (fun i=>f i - g i) = upto n f - upto n g:=by
  induction n with
  | zero=>rfl
  | succ n ih=>rw [upto_succ,upto_succ,upto_succ,ih]; omega
theorem upto_zero (n : Nat) : upto n (fun _=>0) = 0:=by
  induction n with
  | zero=>rfl
  | succ n ih=>rw [upto_succ,ih]; rfl
theorem upto_swap (n m : Nat) (f : Nat -> Nat -> Int) : upto n (fun i=>upto m (f i)) = upto m (fun j=>upto n fun i=>f i j):=by
  induction n with
  | zero=>exact (upto_zero m).symm
  | succ n ih=>
    rw [upto_succ,ih,<- upto_add]
    exact upto_congr fun i _=>(upto_succ _ _).symm
theorem upto_nonneg {n : Nat} {f : Nat -> Int} (h : ∀ i,i < n -> 0 <= f i) : 0 <= upto n f:=by
  induction n with
  | zero=>exact Int.le_refl _
  | succ n ih=>rw [upto_succ]; have:=ih fun i hi=>h i (by omega); have:=h n (by omega); omega
theorem map_getD {α β : Type} (l : List α) (d : α) (f : α -> β) : l.map f = (List.range l.length).map fun i=>f (l.getD i d):=by
  refine List.ext_getElem? fun i=>?_
  rw [List.getElem?_map,List.getElem?_map]
  by_cases hi : i < l.length
  · rw [List.getElem?_range hi,getD_some hi d]; rfl
  · rw [List.getElem?_eq_none (by omega),List.getElem?_eq_none (by rw [List.length_range]; omega)]; rfl
theorem zipIdx_map {α β : Type} (l : List α) (d : α) (f : α × Nat -> β) : l.zipIdx.map f = (List.range l.length).map fun i=>f (l.getD i d,i):=by
  refine List.ext_getElem? fun i=>?_
  rw [List.getElem?_map,List.getElem?_map,List.getElem?_zipIdx]
  by_cases hi : i < l.length
  · rw [List.getElem?_range hi,getD_some hi d]; simp
  · rw [List.getElem?_eq_none (by omega),List.getElem?_eq_none (by rw [List.length_range]; omega)]; rfl
theorem sum_upto (r : List Int) : r.sum = upto r.length fun j=>r.getD j 0:=by
  have:=map_getD r 0 id
  rw [List.map_id] at this
  rw [upto]
  conv=>lhs; rw [this]
  rfl
def ent (tb : List (List Int)) (i j : Nat) : Int:=(tb.getD i []).getD j 0
def Sz (n : Nat) (tb : List (List Int)) : Prop:=tb.length = n /\ ∀ r ∈ tb,r.length = n + 1
theorem Wt'.sz {n : Nat} {tb : List (List Int)} (w : Wt' n tb) : Sz n tb:=⟨w.len,w.row⟩
theorem Sz.row {n i : Nat} {tb : List (List Int)} (z : Sz n tb) (hi : i < n) : tb[i]? = some (tb.getD i []) /\ (tb.getD i []).length = n + 1:=by
  have e:=getD_some (show i < tb.length by rw [z.1]; exact hi) []
  exact ⟨e,z.2 _ (List.mem_of_getElem? e)⟩
theorem Sz.cell {n i j : Nat} {tb : List (List Int)} (z : Sz n tb) (hi : i < n) (hj : j <= n) : (tb.getD i [])[j]? = some (ent tb i j):=getD_some (by rw [(z.row hi).2]; omega) 0
theorem tab_ext {n : Nat} {t1 t2 : List (List Int)} (z1 : Sz n t1) (z2 : Sz n t2) (h : ∀ i j,i < n -> j <= n -> ent t1 i j = ent t2 i j) : t1 = t2:=by
  refine List.ext_getElem? fun i=>?_
  by_cases hi : i < n
  · rw [(z1.row hi).1,(z2.row hi).1]
    congr 1
    refine List.ext_getElem? fun j=>?_
    by_cases hj : j <= n
    · rw [z1.cell hi hj,z2.cell hi hj,h i j hi hj]
    · rw [List.getElem?_eq_none (by rw [(z1.row hi).2]; omega),List.getElem?_eq_none (by rw [(z2.row hi).2]; omega)]
  · rw [List.getElem?_eq_none (by rw [z1.1]; omega),List.getElem?_eq_none (by rw [z2.1]; omega)]
theorem Wt'.ent_nn {n i j : Nat} {tb : List (List Int)} (w : Wt' n tb) (hi : i < n) (hj : j <= n) : 0 <= ent tb i j:=w.nn _ (List.mem_of_getElem? (w.sz.row hi).1) _ (List.mem_of_getElem? (w.sz.cell hi hj))
theorem Wt'.of_ent {n : Nat} {tb : List (List Int)} (z : Sz n tb) (h1 : 1 <= n) (h8 : n <= 8) (h : ∀ i j,i < n -> j <= n -> 0 <= ent tb i j) : Wt' n tb:=by
  refine ⟨z.1,z.2,fun r hr x hx=>?_,h1,h8⟩
  obtain ⟨i,hi,e⟩:=List.mem_iff_getElem.mp hr
  obtain ⟨j,hj,e2⟩:=List.mem_iff_getElem.mp hx
  have hl:=z.2 r hr
  have:=h i j (by rw [<- z.1]; exact hi) (by omega)
  have e3 : tb.getD i [] = r:=by rw [List.getD,List.getElem?_eq_getElem hi,e]; rfl
  have e4 : r.getD j 0 = x:=by rw [List.getD,List.getElem?_eq_getElem hj,e2]; rfl
  unfold ent at this
  rw [e3,e4] at this
  exact this
theorem is_whole_int (i : Int) (st : Store) : F_is_whole [.int i] st = .ok (.bl true) st:=by
  simp [F_is_whole,callF,m_is_whole,isI,tyN]
theorem is_between_ok (a b c : Int) (st : Store) : F_is_between [.int a,.int b,.int c] st = .ok (.bl (decide (b <= a) && decide (a <= c))) st:=by
  by_cases h : b <= a <;> simp [F_is_between,callF,m_is_between,is_whole_int,h]
theorem is_house_ok {V : PV} {n : Nat} {st : Store} (hV : cLen st [V] = .ok (.int n) st) (i : Int) : F_is_house [V,.int i] st = .ok (.bl (decide (0 <= i) && decide (i < n))) st:=by
  have e : decide (i <= (n : Int) - 1) = decide (i < (n : Int)):=by
    rw [decide_eq_decide]; omega
  simp [F_is_house,callF,m_is_house,hV,is_between_ok,e]
theorem is_house_yes {V : PV} {n i : Nat} {st : Store} (hV : cLen st [V] = .ok (.int n) st) (hi : i < n) : F_is_house [V,.int i] st = .ok (.bl true) st:=by
  rw [is_house_ok hV]
  simp; omega
def intV (k : Nat) : PV:=.int (k : Int)
theorem fz_ints {n r : Nat} {S : Store} {hs : List Int} (hr : n <= r) (h : S[r]? = some (.lst (hs.map .int))) : fz n S 16 (.ref r) = some (.lst (hs.map .int)):=by
  have hg : good 12 (.lst (hs.map .int)) = true:=by simp [good]
  have:=fz_good (n:=n) (st:=S) (k:=16) hg (by decide)
  rw [fz,if_neg (by omega),h]
  simpa [fz] using this
def rightsF (tb : List (List Int)) (h : Nat) : Int:=upto tb.length (fun o=>ent tb o h) - ((tb.getD h []).sum - ent tb h h)
theorem rightsF_eq {n h : Nat} {tb : List (List Int)} (z : Sz n tb) (hh : h < n) : rightsF tb h = upto n (fun o=>ent tb o h) - (upto n (fun j=>ent tb h j) + ent tb h n - ent tb h h):=by
  unfold rightsF
  rw [z.1,sum_upto (tb.getD h []),(z.row hh).2,upto_succ]
  rfl
theorem rights_ok {n h : Nat} {tb : List (List Int)} (z : Sz n tb) (hn : n <= 100) (hh : h < n) (st : Store) : F_rights [tabV tb,.int h] st = .ok (.int (rightsF tb h)) st:=by
  have hH:=is_house_yes (V:=tabV tb) (n:=n) (i:=h) (st:=st) (by simp [tabV,z.1]) hh
  have hc : compG (gaName 0) mTrue e_rights_1 [] (capG [none,some 1] [some (tabV tb),some (.int h),none,none,none]) (tb.map rowV) st = .ok (tb.map fun r=>.int (r.getD h 0)) st:=by
    refine compG_on _ _ (by simp) fun r hr=>⟨_,rfl,?_⟩
    have e:=atI_get (getD_some (show h < r.length by rw [z.2 r hr]; omega) 0)
    simp [capG,e_rights_1,rowV,atI_map,e]
  have e1:=atI_get (z.row hh).1
  have e2:=atI_get (z.cell hh (Nat.le_of_lt hh))
  have hs : (tb.map fun r=>r.getD h 0).sum = upto n fun o=>ent tb o h:=by
    rw [map_getD tb [] fun r=>r.getD h 0,z.1]; rfl
  have hl : tb.length <= 1000000:=by rw [z.1]; omega
  unfold rightsF
  rw [z.1,<- hs]
  obtain ⟨r,hr⟩ : ∃ r,tb.getD h [] = r:=⟨_,rfl⟩
  obtain ⟨x,hx⟩ : ∃ x,ent tb h h = x:=⟨_,rfl⟩
  rw [hr] at e1 e2 ⊢
  rw [hx] at e2 ⊢
  obtain ⟨q,hq⟩ : ∃ q,(tb.map fun r=>r.getD h 0) = q:=⟨_,rfl⟩
  have hq2 : (tb.map fun r=>PV.int (r.getD h 0)) = q.map .int:=by rw [<- hq,List.map_map]; rfl
  rw [hq2] at hc
  rw [hq]
  unfold tabV at hH hc ⊢
  simp [F_rights,callF,m_rights,hH,hc,hl,lim_eq,atI_map,e1,rowV,e2]
theorem cell_ix {n i j : Nat} {tb : List (List Int)} (z : Sz n tb) (hi : i < n) (hj : j <= n) (st : Store) : oIx st (tabV tb) (.int i) = .ok (rowV (tb.getD i [])) st /\ oIx st (rowV (tb.getD i [])) (.int j) = .ok (.int (ent tb i j)) st:=by
  constructor
  · unfold tabV; rw [oIx_tup,atI_map,atI_get (z.row hi).1]; rfl
  · unfold rowV; rw [oIx_tup,atI_map,atI_get (z.cell hi hj)]; rfl
def madeF (tb : List (List Int)) (h : Nat) : Bool:=decide (0 < ent tb h h)
theorem made_ok {n h : Nat} {tb : List (List Int)} (z : Sz n tb) (hh : h < n) (st : Store) : F_made_some [tabV tb,.int h] st = .ok (.bl (madeF tb h)) st:=by
  obtain ⟨c1,c2⟩:=cell_ix z hh (Nat.le_of_lt hh) st
  unfold madeF
  generalize ent tb h h = x at *
  generalize tb.getD h [] = r at *
  simp [F_made_some,callF,m_made_some,c1,c2]
def busyF (tb : List (List Int)) (h : Nat) : Bool:=decide (ent tb h h < (tb.getD h []).sum)
theorem busy_ok {n h : Nat} {tb : List (List Int)} (z : Sz n tb) (hh : h < n) (st : Store) : F_lent_or_used_some [tabV tb,.int h] st = .ok (.bl (busyF tb h)) st:=by
  obtain ⟨c1,c2⟩:=cell_ix z hh (Nat.le_of_lt hh) st
  unfold busyF
  generalize ent tb h h = x at *
  generalize tb.getD h [] = r at *
  have c3 : cInts (fun ns=>some (.int ns.sum)) st [rowV r] = .ok (.int r.sum) st:=by unfold rowV; rw [cInts_tup]; rfl
  simp [F_lent_or_used_some,callF,m_lent_or_used_some,c1,c2,c3]
def lentF (tb : List (List Int)) (h : Nat) (ls : List Nat) : Bool:=ls.any fun o=>decide (o ≠ h) && decide (0 < ent tb o h)
theorem any_id {α : Type} (xs : List α) (p : α -> Bool) : (xs.map p).any id = xs.any p:=by
  rw [List.any_map]; rfl
theorem lent_ok {n h : Nat} {tb : List (List Int)} (z : Sz n tb) (hh : h < n) {ls : List Nat} (hl : ∀ o ∈ ls,o < n) (hll : ls.length <= 1000) {V : PV} {st : Store} (hV : ListAt st V (ls.map intV)) : F_was_lent_some [tabV tb,.int h,V] st = .ok (.bl (lentF tb h ls)) st:=by
  obtain ⟨w,hsrc,hw⟩:=hV.src
  have hc : compG (gaName 0) t_was_lent_some_1 e_was_lent_some_1 w (capG [none,some 1,some 0] [some (tabV tb),some (.int h),some V]) (ls.map intV) st = .ok ((ls.filter fun o=>decide (o ≠ h)).map fun o=>.bl (decide (0 < ent tb o h))) st:=by
    refine compG_onF _ _ _ hw fun o ho=>⟨_,rfl,?_,fun ht=>?_⟩
    · simp [capG,t_was_lent_some_1,intV]
      by_cases e : o = h
      · simp [e]
      · have : ¬ ((o : Int) = h):=by omega
        simp [e,this]
    · obtain ⟨c1,c2⟩:=cell_ix z (hl o ho) (Nat.le_of_lt hh) st
      generalize ent tb o h = x at *
      generalize tb.getD o [] = r at *
      simp [capG,e_was_lent_some_1,intV,c1,c2]
  have hll' : (ls.map intV).length <= 1000000:=by rw [List.length_map]; omega
  have hlf : lentF tb h ls = ((ls.filter fun o=>decide (o ≠ h)).map fun o=>decide (0 < ent tb o h)).any id:=by
    rw [any_id,List.any_filter]; rfl
  rw [hlf]
  generalize ls.map intV = ov at *
  generalize ls.filter (fun o=>decide (o ≠ h)) = fs at *
  simp [F_was_lent_some,callF,m_was_lent_some,hsrc,hll',lim_eq,hc,-List.any_map]
def rootsF (tb : List (List Int)) (h : Nat) (ls : List Nat) : Bool:=madeF tb h || lentF tb h ls
theorem root_ok {n h : Nat} {tb : List (List Int)} (z : Sz n tb) (hh : h < n) {ls : List Nat} (hl : ∀ o ∈ ls,o < n) (hll : ls.length <= 1000) {V : PV} {st : Store} (hV : ListAt st V (ls.map intV)) : F_has_root [tabV tb,.int h,V] st = .ok (.bl (rootsF tb h ls)) st:=by
  have h1:=made_ok z hh st
  have h2:=lent_ok z hh hl hll hV
  unfold rootsF
  cases hm : madeF tb h with
  | true=>rw [hm] at h1; simp [F_has_root,callF,m_has_root,h1]
  | false=>rw [hm] at h1; simp [F_has_root,callF,m_has_root,h1,h2]
theorem in_ints (hs : List Int) (x : Int) : ((hs.map PV.int).any fun y=>peq y (.int x)) = decide (x ∈ hs):=by
  rw [List.any_map,Bool.eq_iff_iff,List.any_eq_true,decide_eq_true_iff]
  constructor
  · rintro ⟨y,hy,e⟩
    have : y = x:=by simpa [peq] using e
    rw [<- this]; exact hy
  · intro h
    exact ⟨x,h,by simp [peq]⟩
theorem in_ok {hs : List Int} {V : PV} {st : Store} (hV : ListAt st V (hs.map .int)) (x : Int) (b : Bool) : oIn b st (.int x) V = .ok (.bl (decide (x ∈ hs) != b)) st:=by
  have hq : seqOf st V = some (hs.map .int):=by
    rcases hV with rfl | rfl | ⟨i,rfl,e⟩
    · rfl
    · rfl
    · rw [seqOf_r,e]
  have hd : der st (.int x) = .int x:=rfl
  have g1 : good dep (.int x) = true:=rfl
  have g2 : (hs.map PV.int).all (good dep) = true:=by simp [good,dep]
  unfold oIn
  rw [hq,hd]
  simp only [g1,g2,and_self,if_true,in_ints]
def busyR (n : Nat) (tb : List (List Int)) (h : Nat) : Bool:=(List.range (n + 1)).any fun j=>decide (j ≠ h) && decide (0 < ent tb h j)
theorem upto_le {n j : Nat} {f : Nat -> Int} (hf : ∀ i,i < n -> 0 <= f i) (hj : j < n) : f j <= upto n f:=by
  induction n with
  | zero=>exact absurd hj (Nat.not_lt_zero _)
  | succ n ih=>
    rw [upto_succ]
    have hn0:=hf n (Nat.lt_succ_self n)
    by_cases e : j = n
    · subst e
      have:=upto_nonneg (f:=f) (n:=j) fun i hi=>hf i (Nat.lt_succ_of_lt hi)
      omega
    · have:=ih (fun i hi=>hf i (Nat.lt_succ_of_lt hi)) (by omega)
      omega
theorem upto_but {n h : Nat} (f : Nat -> Int) (hh : h < n) : upto n f = f h + upto n fun j=>if j ≠ h then f j else 0:=by
  induction n with
  | zero=>exact absurd hh (Nat.not_lt_zero _)
  | succ n ih=>
    rw [upto_succ,upto_succ]
    by_cases e : n = h
    · subst e
      rw [if_neg (by simp),upto_congr (f:=f) (g:=fun j=>if j ≠ n then f j else 0) fun i hi=>by rw [if_pos (by omega)]]
      omega
    · rw [if_pos e,ih (by omega)]
      omega
theorem upto_pos {n h : Nat} {f : Nat -> Int} (hf : ∀ i,i < n -> 0 <= f i) (hh : h < n) : f h < upto n f <-> ∃ j,j < n /\ j ≠ h /\ 0 < f j:=by
  have e:=upto_but f hh
  have hg : ∀ i,i < n -> 0 <= (fun j=>if j ≠ h then f j else 0) i:=fun i hi=>by
    show 0 <= if i ≠ h then f i else 0
    split
    · exact hf i hi
    · exact Int.le_refl _
  constructor
  · intro q
    refine Classical.byContradiction fun hno=>?_
    have : upto n (fun j=>if j ≠ h then f j else 0) = upto n fun _=>0:=upto_congr fun i hi=>by
      by_cases ei : i = h
      · rw [if_neg (by simp [ei])]
      · rw [if_pos ei]
        have h1:=hf i hi
        have h2 : ¬ 0 < f i:=fun q=>hno ⟨i,hi,ei,q⟩
        omega
    rw [upto_zero] at this
    omega
  · rintro ⟨j,hj,hne,hp⟩
    have:=upto_le hg hj
    simp only [if_pos hne] at this
    omega
theorem busy_eq {n h : Nat} {tb : List (List Int)} (w : Wt' n tb) (hh : h < n) : busyR n tb h = busyF tb h:=by
  have hs : (tb.getD h []).sum = upto (n + 1) fun j=>ent tb h j:=by
    rw [sum_upto,(w.sz.row hh).2]; rfl
  have hp:=(upto_pos (n:=n + 1) (h:=h) (f:=fun j=>ent tb h j) (fun i hi=>w.ent_nn hh (by omega)) (by omega))
  unfold busyR busyF
  rw [hs,Bool.eq_iff_iff,List.any_eq_true,decide_eq_true_iff,hp]
  constructor
  · rintro ⟨j,hj,q⟩
    simp at q
    exact ⟨j,List.mem_range.mp hj,q.1,q.2⟩
  · rintro ⟨j,hj,a,b⟩
    exact ⟨j,List.mem_range.mpr hj,by simp [a,b]⟩
theorem modN (x : Int) {n : Nat} (h : 1 <= n) : ∃ k : Nat,k < n /\ x % (n : Int) = (k : Int):=by
  have:=emod_lt x (b:=(n : Int)) (by omega)
  exact ⟨(x % (n : Int)).toNat,by omega,by omega⟩
def kn3 (tb : List (List Int)) (i : Nat) (bs : List Bool) (j : Nat) : List Bool:=if bs.getD i false = true /\ i ≠ j /\ 0 < ent tb i j then bs.set j true else bs
def kn2 (n : Nat) (tb : List (List Int)) (bs : List Bool) (i : Nat) : List Bool:=(List.range n).foldl (kn3 tb i) bs
def kn1 (n : Nat) (tb : List (List Int)) (bs : List Bool) (_ : Nat) : List Bool:=(List.range n).foldl (kn2 n tb) bs
def knInit (n : Nat) (tb : List (List Int)) : List Bool:=(List.range n).map (madeF tb)
def knownF (n : Nat) (tb : List (List Int)) : List Bool:=(List.range n).foldl (kn1 n tb) (knInit n tb)
theorem fold_len {α β : Type} {f : List α -> β -> List α} (h : ∀ bs x,(f bs x).length = bs.length) : ∀ (xs : List β) (bs : List α),(xs.foldl f bs).length = bs.length
  | [],_=>rfl
  | x :: xs,bs=>by rw [List.foldl_cons,fold_len h xs,h]
theorem kn3_len (tb : List (List Int)) (i : Nat) (bs : List Bool) (j : Nat) : (kn3 tb i bs j).length = bs.length:=by
  unfold kn3; split <;> simp
theorem kn2_len (n : Nat) (tb : List (List Int)) (bs : List Bool) (i : Nat) : (kn2 n tb bs i).length = bs.length:=fold_len (kn3_len tb i) _ _
theorem kn1_len (n : Nat) (tb : List (List Int)) (bs : List Bool) (t : Nat) : (kn1 n tb bs t).length = bs.length:=fold_len (kn2_len n tb) _ _
inductive Rc (n : Nat) (tb : List (List Int)) : Nat -> Prop
  | made {h : Nat} : h < n -> madeF tb h = true -> Rc n tb h
  | lent {o h : Nat} : Rc n tb o -> h < n -> 0 < ent tb o h -> Rc n tb h
theorem Rc.lt {n h : Nat} {tb : List (List Int)} (r : Rc n tb h) : h < n:=by cases r <;> assumption
theorem fold_inv {α β : Type} {f : β -> α -> β} {P : β -> Prop} : ∀ {xs : List α} {b : β},(∀ b x,x ∈ xs -> P b -> P (f b x)) -> P b -> P (xs.foldl f b)
  | [],_,_,h=>h
  | x :: xs,b,hs,h=>fold_inv (xs:=xs) (fun b y hy=>hs b y (List.mem_cons_of_mem _ hy)) (hs b x List.mem_cons_self h)
theorem fold_hit {α β : Type} {f : β -> α -> β} {P Q : β -> Prop} (hP : ∀ b y,P b -> P (f b y)) (hQ : ∀ b y,Q b -> Q (f b y)) {x : α} (hx : ∀ b,P b -> Q (f b x)) : ∀ {xs : List α} {b : β},x ∈ xs -> P b -> Q (xs.foldl f b)
  | [],_,hm,_=>by cases hm
  | y :: ys,b,hm,hb=>by
    rw [List.foldl_cons]
    rcases List.mem_cons.mp hm with rfl | hm
    · exact fold_inv (fun b y _=>hQ b y) (hx b hb)
    · exact fold_hit hP hQ hx hm (hP b y hb)
def Cl (n : Nat) (tb : List (List Int)) (mem : Nat -> Bool) : Prop:=∀ o h,o < n -> h < n -> o ≠ h -> 0 < ent tb o h -> mem o = true -> mem h = true
def cnt (n : Nat) (mem : Nat -> Bool) : Int:=upto n fun h=>if mem h = true then 1 else 0
theorem cnt_le (n : Nat) (mem : Nat -> Bool) : cnt n mem <= n:=by
  unfold cnt
  induction n with
  | zero=>exact Int.le_refl _
  | succ n ih=>rw [upto_succ]; split <;> omega
theorem cnt_lt {n : Nat} {m1 m2 : Nat -> Bool} (hm : ∀ h,h < n -> m1 h = true -> m2 h = true) {h : Nat} (hh : h < n) (h1 : m1 h = false) (h2 : m2 h = true) : cnt n m1 + 1 <= cnt n m2:=by
  have e:=upto_sub n (fun h=>if m2 h = true then (1 : Int) else 0) (fun h=>if m1 h = true then 1 else 0)
  have l:=upto_le (n:=n) (j:=h) (f:=fun h=>(if m2 h = true then (1 : Int) else 0) - (if m1 h = true then 1 else 0)) (fun i hi=>by
    have:=hm i hi
    cases a : m1 i <;> cases b : m2 i <;> simp_all) hh
  simp only [h1,h2] at l
  unfold cnt
  simp at l
  omega
theorem turns_close {X : Type} (n : Nat) (tb : List (List Int)) (mem : X -> Nat -> Bool) (f : X -> Nat -> X) (Inv : X -> Prop) (hi : ∀ x t,Inv x -> Inv (f x t))
    (mono : ∀ x t h,Inv x -> h < n -> mem x h = true -> mem (f x t) h = true)
    (push : ∀ x t o h,Inv x -> o < n -> h < n -> o ≠ h -> 0 < ent tb o h -> mem x o = true -> mem (f x t) h = true)
    (stay : ∀ x t,Inv x -> Cl n tb (mem x) -> ∀ h,h < n -> mem (f x t) h = true -> mem x h = true) (x0 : X) (h0 : Inv x0) : Cl n tb (mem ((List.range n).foldl f x0)):=by
  have key : ∀ t : Nat,Inv ((List.range t).foldl f x0) /\ (Cl n tb (mem ((List.range t).foldl f x0)) \/ (t : Int) <= cnt n (mem ((List.range t).foldl f x0))):=by
    intro t
    induction t with
    | zero=>
      refine ⟨h0,.inr ?_⟩
      exact upto_nonneg fun i _=>by split <;> omega
    | succ t ih=>
      rw [List.range_succ,List.foldl_append,List.foldl_cons,List.foldl_nil]
      obtain ⟨iv,ih⟩:=ih
      generalize (List.range t).foldl f x0 = x at *
      refine ⟨hi x t iv,?_⟩
      rcases Classical.em (Cl n tb (mem x)) with c | c
      · refine .inl fun o h ho hh hne he hm=>?_
        exact mono x t h iv hh (c o h ho hh hne he (stay x t iv c o ho hm))
      · rcases ih with ih | ih
        · exact absurd ih c
        · refine .inr ?_
          have : ∃ o h,o < n /\ h < n /\ o ≠ h /\ 0 < ent tb o h /\ mem x o = true /\ mem x h = false:=by
            refine Classical.byContradiction fun q=>c fun o h ho hh hne he hm=>?_
            cases e : mem x h with
            | true=>rfl
            | false=>exact absurd ⟨o,h,ho,hh,hne,he,hm,e⟩ q
          obtain ⟨o,h,ho,hh,hne,he,hm,hf⟩:=this
          have:=cnt_lt (fun h hh=>mono x t h iv hh) hh hf (push x t o h iv ho hh hne he hm)
          push_cast
          omega
  obtain ⟨iv,h | h⟩:=key n
  · exact h
  · intro o k ho hk hne he hm
    generalize (List.range n).foldl f x0 = x at *
    cases e : mem x k with
    | true=>rfl
    | false=>
      have:=cnt_lt (m1:=mem x) (m2:=fun _=>true) (fun _ _ _=>rfl) hk e rfl
      have h2:=cnt_le n fun _=>true
      omega
theorem set_get {bs : List Bool} {j h : Nat} : ((bs.set j true).getD h false = true) <-> (h = j /\ j < bs.length) \/ bs.getD h false = true:=by
  rw [List.getD,List.getElem?_set]
  by_cases e : j = h
  · subst e
    by_cases l : j < bs.length
    · simp [l]
    · simp [l,List.getD]
  · rw [if_neg e]
    constructor
    · intro q; exact .inr q
    · rintro (⟨q,_⟩ | q)
      · exact absurd q.symm e
      · exact q
theorem kn3_mono {tb : List (List Int)} {i j h : Nat} {bs : List Bool} (q : bs.getD h false = true) : (kn3 tb i bs j).getD h false = true:=by
  unfold kn3
  split
  · exact set_get.mpr (.inr q)
  · exact q
theorem kn2_mono {n : Nat} {tb : List (List Int)} {i h : Nat} {bs : List Bool} (q : bs.getD h false = true) : (kn2 n tb bs i).getD h false = true:=fold_inv (P:=fun bs : List Bool=>bs.getD h false = true) (fun _ _ _ q=>kn3_mono q) q
theorem kn1_mono {n : Nat} {tb : List (List Int)} {t h : Nat} {bs : List Bool} (q : bs.getD h false = true) : (kn1 n tb bs t).getD h false = true:=fold_inv (P:=fun bs : List Bool=>bs.getD h false = true) (fun _ _ _ q=>kn2_mono q) q
theorem known_closed (n : Nat) (tb : List (List Int)) : Cl n tb fun h=>(knownF n tb).getD h false:=by
  refine turns_close n tb (fun (bs : List Bool) h=>bs.getD h false) (kn1 n tb) (fun bs=>bs.length = n) (fun x t hx=>by rw [kn1_len]; exact hx) (fun x t h _ _ q=>kn1_mono q) (fun x t o h hx ho hh hne he hm=>?_) (fun x t hx c h hh hm=>?_) _ (by simp [knInit])
  · show (kn1 n tb x t).getD h false = true
    refine fold_hit (P:=fun bs : List Bool=>bs.length = n /\ bs.getD o false = true) (Q:=fun bs : List Bool=>bs.getD h false = true) (fun bs y q=>⟨by rw [kn2_len]; exact q.1,kn2_mono q.2⟩) (fun bs y q=>kn2_mono q) (x:=o) (fun bs q=>?_) (List.mem_range.mpr ho) ⟨hx,hm⟩
    refine fold_hit (P:=fun bs : List Bool=>bs.length = n /\ bs.getD o false = true) (Q:=fun bs : List Bool=>bs.getD h false = true) (fun bs y q=>⟨by rw [kn3_len]; exact q.1,kn3_mono q.2⟩) (fun bs y q=>kn3_mono q) (x:=h) (fun bs q=>?_) (List.mem_range.mpr hh) q
    unfold kn3
    rw [if_pos ⟨q.2,hne,he⟩]
    exact set_get.mpr (.inl ⟨rfl,by rw [q.1]; exact hh⟩)
  · have : ∀ g,g < n -> (kn1 n tb x t).getD g false = true -> x.getD g false = true:=by
      refine fold_inv (P:=fun bs : List Bool=>∀ g,g < n -> bs.getD g false = true -> x.getD g false = true) (fun bs i hi hb=>?_) fun g _ q=>q
      refine fold_inv (P:=fun bs : List Bool=>∀ g,g < n -> bs.getD g false = true -> x.getD g false = true) (fun bs j hj hb g hg q=>?_) hb
      unfold kn3 at q
      split at q
      · rename_i cc
        rcases set_get.mp q with ⟨rfl,_⟩ | q
        · exact c i g (List.mem_range.mp hi) hg cc.2.1 cc.2.2 (hb i (List.mem_range.mp hi) cc.1)
        · exact hb g hg q
      · exact hb g hg q
    exact this h hh hm
theorem known_rc (n : Nat) (tb : List (List Int)) {h : Nat} (hh : h < n) : (knownF n tb).getD h false = true <-> Rc n tb h:=by
  constructor
  · have : ∀ g,g < n -> (knownF n tb).getD g false = true -> Rc n tb g:=by
      refine fold_inv (P:=fun bs : List Bool=>∀ g,g < n -> bs.getD g false = true -> Rc n tb g) (fun bs t _ hb=>?_) fun g hg q=>?_
      · refine fold_inv (P:=fun bs : List Bool=>∀ g,g < n -> bs.getD g false = true -> Rc n tb g) (fun bs i hi hb=>?_) hb
        refine fold_inv (P:=fun bs : List Bool=>∀ g,g < n -> bs.getD g false = true -> Rc n tb g) (fun bs j hj hb g hg q=>?_) hb
        unfold kn3 at q
        split at q
        · rename_i cc
          rcases set_get.mp q with ⟨rfl,_⟩ | q
          · exact .lent (hb i (List.mem_range.mp hi) cc.1) hg cc.2.2
          · exact hb g hg q
        · exact hb g hg q
      · unfold knInit at q
        rw [List.getD,List.getElem?_map,List.getElem?_range hg] at q
        exact .made hg (by simpa using q)
    exact this h hh
  · intro r
    induction r with
    | made hl hm=>
      refine fold_inv (P:=fun bs : List Bool=>bs.getD _ false = true) (fun bs t _ q=>kn1_mono q) ?_
      unfold knInit
      rw [List.getD,List.getElem?_map,List.getElem?_range hl]
      simpa using hm
    | @lent o g r hl he ih=>
      by_cases e : o = g
      · subst e; exact ih r.lt
      · exact known_closed n tb o g r.lt hl e he (ih r.lt)
def RdOk (n : Nat) (fs : List Nat) : Prop:=(∀ x ∈ fs,x < n) /\ fs.Nodup
theorem nodup_len : ∀ {n : Nat} {fs : List Nat},(∀ x ∈ fs,x < n) -> fs.Nodup -> fs.length <= n
  | 0,[],_,_=>Nat.le_refl _
  | 0,x :: _,h,_=>absurd (h x List.mem_cons_self) (Nat.not_lt_zero _)
  | n + 1,fs,h,d=>by
    by_cases hm : n ∈ fs
    · have h1 : (fs.erase n).length <= n:=nodup_len (fun x hx=>by
        have h2:=(d.mem_erase_iff).mp hx
        have:=h x h2.2
        omega) (d.erase n)
      rw [List.length_erase_of_mem hm] at h1
      omega
    · have:=nodup_len (n:=n) (fs:=fs) (fun x hx=>by
        have:=h x hx
        have : x ≠ n:=fun e=>hm (e ▸ hx)
        omega) d
      omega
theorem RdOk.len {n : Nat} {fs : List Nat} (h : RdOk n fs) : fs.length <= n:=nodup_len h.1 h.2
def AhN (tb : List (List Int)) (fs : List Nat) : Prop:=∀ k,k < fs.length -> madeF tb (fs.getD k 0) = true \/ ∃ o ∈ fs.take k,0 < ent tb o (fs.getD k 0)
theorem AhN.snoc {tb : List (List Int)} {fs : List Nat} {h : Nat} (a : AhN tb fs) (ha : madeF tb h = true \/ ∃ o ∈ fs,0 < ent tb o h) : AhN tb (fs ++ [h]):=by
  intro k hk
  rw [List.length_append,List.length_singleton] at hk
  by_cases e : k < fs.length
  · have:=a k e
    rw [List.take_append_of_le_length (by omega)]
    rw [show (fs ++ [h]).getD k 0 = fs.getD k 0 by rw [List.getD,List.getD,List.getElem?_append_left e]]
    exact this
  · have : k = fs.length:=by omega
    subst this
    rw [show (fs ++ [h]).getD fs.length 0 = h by simp [List.getD]]
    rw [List.take_left]
    exact ha
def intsN (fs : List Nat) : List Int:=fs.map fun k : Nat=>(k : Int)
def rdS (st : Store) (fs : List Nat) : Store:=st ++ [Cell.lst (fs.map intV)]
theorem rdS_at (st : Store) (fs : List Nat) : (rdS st fs)[st.length]? = some (.lst (fs.map intV)):=by unfold rdS; simp
theorem intsN_map (fs : List Nat) : (intsN fs).map PV.int = fs.map intV:=by unfold intsN; rw [List.map_map]; rfl
theorem intsN_mem {fs : List Nat} {h : Nat} : (h : Int) ∈ intsN fs <-> h ∈ fs:=by
  unfold intsN
  rw [List.mem_map]
  constructor
  · rintro ⟨k,hk,e⟩
    have : k = h:=by omega
    rw [<- this]; exact hk
  · intro q; exact ⟨h,q,rfl⟩
def othF (n : Nat) (fs : List Nat) : List Nat:=(List.range n).filter fun h=>!decide (h ∈ fs)
def fndF (n : Nat) (tb : List (List Int)) (fs : List Nat) : List Nat:=(othF n fs).filter fun h=>rootsF tb h fs
structure GdR (n : Nat) (tb : List (List Int)) (fs : List Nat) : Prop where
  rd : RdOk n fs
  ah : AhN tb fs
  rc : ∀ h ∈ fs,Rc n tb h
theorem AhN.more {tb : List (List Int)} : ∀ {ds fs : List Nat},AhN tb fs -> (∀ h ∈ ds,madeF tb h = true \/ ∃ o ∈ fs,0 < ent tb o h) -> AhN tb (fs ++ ds)
  | [],fs,a,_=>by rw [List.append_nil]; exact a
  | d :: ds,fs,a,h=>by
    rw [show fs ++ d :: ds = (fs ++ [d]) ++ ds by simp]
    refine AhN.more (a.snoc (h d List.mem_cons_self)) fun g hg=>?_
    rcases h g (List.mem_cons_of_mem _ hg) with q | ⟨o,ho,q⟩
    · exact .inl q
    · exact .inr ⟨o,List.mem_append_left _ ho,q⟩
theorem fnd_mem {n : Nat} {tb : List (List Int)} {fs : List Nat} {h : Nat} (q : h ∈ fndF n tb fs) : h < n /\ h ∉ fs /\ (madeF tb h = true \/ ∃ o ∈ fs,0 < ent tb o h):=by
  obtain ⟨q1,q2⟩:=List.mem_filter.mp q
  obtain ⟨q3,q4⟩:=List.mem_filter.mp q1
  refine ⟨List.mem_range.mp q3,by simpa using q4,?_⟩
  unfold rootsF lentF at q2
  rw [Bool.or_eq_true] at q2
  rcases q2 with q2 | q2
  · exact .inl q2
  · obtain ⟨o,ho,e⟩:=List.any_eq_true.mp q2
    rw [Bool.and_eq_true] at e
    exact .inr ⟨o,ho,by simpa using e.2⟩
theorem GdR.step {n : Nat} {tb : List (List Int)} {fs : List Nat} (g : GdR n tb fs) : GdR n tb (fs ++ fndF n tb fs):=by
  refine ⟨⟨fun x hx=>?_,?_⟩,g.ah.more fun h q=>(fnd_mem q).2.2,fun h hx=>?_⟩
  · rcases List.mem_append.mp hx with hx | hx
    · exact g.rd.1 x hx
    · exact (fnd_mem hx).1
  · refine List.nodup_append.mpr ⟨g.rd.2,(List.nodup_range.filter _).filter _,fun a ha b hb e=>?_⟩
    subst e
    exact (fnd_mem hb).2.1 ha
  · rcases List.mem_append.mp hx with hx | hx
    · exact g.rc h hx
    · obtain ⟨h1,_,h2 | ⟨o,ho,he⟩⟩:=fnd_mem hx
      · exact .made h1 h2
      · exact .lent (g.rc o ho) h1 he
theorem GdR.closed {n : Nat} {tb : List (List Int)} {fs : List Nat} (g : GdR n tb fs) (hc : fndF n tb fs = []) {h : Nat} (hh : h < n) : h ∈ fs <-> Rc n tb h:=by
  refine ⟨g.rc h,fun r=>?_⟩
  have hno : ∀ k,k < n -> k ∉ fs -> rootsF tb k fs = false:=fun k hk hm=>by
    cases e : rootsF tb k fs with
    | false=>rfl
    | true=>
      have : k ∈ fndF n tb fs:=List.mem_filter.mpr ⟨List.mem_filter.mpr ⟨List.mem_range.mpr hk,by simp [hm]⟩,e⟩
      rw [hc] at this
      cases this
  induction r with
  | @made k hl hm=>
    refine Classical.byContradiction fun q=>?_
    have:=hno k hl q
    unfold rootsF at this
    rw [hm] at this
    cases this
  | @lent o k r hl he ih=>
    refine Classical.byContradiction fun q=>?_
    have:=hno k hl q
    unfold rootsF lentF at this
    rw [Bool.or_eq_false_iff,List.any_eq_false] at this
    have ho:=ih r.lt
    have hne : o ≠ k:=fun e=>q (e ▸ ho)
    exact this.2 o ho (by simp [hne,he])
theorem rt_turn {n : Nat} {tb : List (List Int)} (z : Sz n tb) (hn : n <= 100) (st : Store) (fs : List Nat) (r : RdOk n fs) (b a c : Option PV) : b_rooted_houses_1 [some (tabV tb),some (.ref st.length),b,a,c] (rdS st fs) = .nx [some (tabV tb),some (.ref st.length),some (.bl (decide (0 < (fndF n tb fs).length))),some (.lst ((othF n fs).map intV)),some (.lst ((fndF n tb fs).map intV))] (rdS st (fs ++ fndF n tb fs)):=by
  have hn1 : -1000000 <= (n : Int) /\ (n : Int) <= 1000000:=by omega
  have hql:=r.len
  have hS:=rdS_at st fs
  have hat : ListAt (rdS st fs) (.ref st.length) ((intsN fs).map .int):=.inr (.inr ⟨_,rfl,by rw [intsN_map]; exact hS⟩)
  have hat2 : ListAt (rdS st fs) (.ref st.length) (fs.map intV):=.inr (.inr ⟨_,rfl,hS⟩)
  have hln : cLen (rdS st fs) [tabV tb] = .ok (.int n) (rdS st fs):=by simp [tabV,z.1]
  have hc1 : compG (gaName 0) t_rooted_houses_1 e_rooted_houses_1 [] (capG [none,some 1] [some (tabV tb),some (.ref st.length),b,a,c]) (rangeI 0 n) (rdS st fs) = .ok ((othF n fs).map intV) (rdS st fs):=by
    rw [rangeI0]
    refine compG_onF _ _ _ (by simp) fun j hj=>⟨_,rfl,?_,fun ht=>?_⟩
    · have hin:=in_ok hat (j : Int) true
      by_cases q : j ∈ fs
      · have q' : (j : Int) ∈ intsN fs:=intsN_mem.mpr q
        generalize rdS st fs = S at *
        simp -implicitDefEqProofs [capG,t_rooted_houses_1,hin,q,q']
      · have q' : ¬ (j : Int) ∈ intsN fs:=fun z=>q (intsN_mem.mp z)
        generalize rdS st fs = S at *
        simp -implicitDefEqProofs [capG,t_rooted_houses_1,hin,q,q']
    · simp [capG,e_rooted_houses_1,intV]
  have hol : (othF n fs).length <= n:=by
    have:=List.length_filter_le (fun h=>!decide (h ∈ fs)) (List.range n)
    rw [List.length_range] at this
    exact this
  have hon : ∀ h ∈ othF n fs,h < n:=fun h hh=>List.mem_range.mp (List.mem_filter.mp hh).1
  have hc2 : compG (gaName 0) t_rooted_houses_2 e_rooted_houses_2 [] (capG [none,some 0,some 1] [some (tabV tb),some (.ref st.length),b,some (.lst ((othF n fs).map intV)),c]) ((othF n fs).map intV) (rdS st fs) = .ok ((fndF n tb fs).map intV) (rdS st fs):=by
    unfold fndF
    refine compG_onF _ _ _ (by simp) fun j hj=>⟨_,rfl,?_,fun ht=>?_⟩
    · have hr:=root_ok z (h:=j) (hon j hj) r.1 (by omega) hat2
      generalize rootsF tb j fs = rb at *
      generalize rdS st fs = S at *
      generalize (othF n fs).map intV = ov at *
      simp -implicitDefEqProofs [capG,t_rooted_houses_2,intV,hr]
    · simp [capG,e_rooted_houses_2,intV]
  have hfl : (fndF n tb fs).length <= n:=Nat.le_trans (List.length_filter_le _ _) hol
  have hset : (rdS st fs).set st.length (.lst (fs.map intV ++ (fndF n tb fs).map intV)) = rdS st (fs ++ fndF n tb fs):=by
    unfold rdS
    rw [List.map_append]
    simp
  have l1 : ((othF n fs).map intV).length <= 1000000:=by rw [List.length_map]; omega
  have l2 : (fs.map intV).length + ((fndF n tb fs).map intV).length <= 1000000:=by rw [List.length_map,List.length_map]; omega
  have l3 : ((fndF n tb fs).map intV).length = (fndF n tb fs).length:=List.length_map _
  generalize rdS st (fs ++ fndF n tb fs) = S2 at *
  generalize rdS st fs = S at *
  generalize (othF n fs).map intV = ov at *
  generalize (fndF n tb fs).length = fl at *
  generalize (fndF n tb fs).map intV = fv at *
  generalize fs.map intV = xv at *
  rw [l3] at l2
  simp -implicitDefEqProofs [b_rooted_houses_1,hln,hn1,lim_eq,hc1,l1,hc2,hS,mtExtend,chg,l2,l3,hset]
theorem rt_while {n : Nat} {tb : List (List Int)} (z : Sz n tb) (hn : n <= 100) (st : Store) : ∀ (m fuel : Nat) (fs : List Nat) (a c : Option PV),GdR n tb fs -> n <= fs.length + m -> m + 2 <= fuel -> ∃ fs' b' a' c',GdR n tb fs' /\ fndF n tb fs' = [] /\ whileG w_rooted_houses_1 b_rooted_houses_1 fuel [some (tabV tb),some (.ref st.length),some (.bl true),a,c] (rdS st fs) = .nx [some (tabV tb),some (.ref st.length),b',a',c'] (rdS st fs')
  | m,0,_,_,_,_,_,h=>absurd h (by omega)
  | m,1,_,_,_,_,_,h=>absurd h (by omega)
  | m,k + 2,fs,a,c,g,hm,hf=>by
    have ht:=rt_turn z hn st fs g.rd (some (.bl true)) a c
    have w1 : ∀ S,w_rooted_houses_1 [some (tabV tb),some (.ref st.length),some (.bl true),a,c] S = .ok true S:=fun S=>by simp [w_rooted_houses_1]
    by_cases e : fndF n tb fs = []
    · refine ⟨fs,some (.bl false),some (.lst ((othF n fs).map intV)),some (.lst ((fndF n tb fs).map intV)),g,e,?_⟩
      rw [whileG,w1]
      simp only [sbind_ok,if_true,ht]
      rw [whileG]
      have w2 : ∀ S,w_rooted_houses_1 [some (tabV tb),some (.ref st.length),some (.bl (decide (0 < (fndF n tb fs).length))),some (.lst ((othF n fs).map intV)),some (.lst ((fndF n tb fs).map intV))] S = .ok false S:=fun S=>by simp [w_rooted_houses_1,e]
      rw [w2]
      simp [e]
    · have hp : 0 < (fndF n tb fs).length:=List.length_pos_iff.mpr e
      have g':=g.step
      have hl':=g'.rd.len
      rw [List.length_append] at hl'
      cases m with
      | zero=>omega
      | succ m=>
        obtain ⟨fs',b',a',c',h1,h2,h3⟩:=rt_while z hn st m (k + 1) (fs ++ fndF n tb fs) (some (.lst ((othF n fs).map intV))) (some (.lst ((fndF n tb fs).map intV))) g' (by rw [List.length_append]; omega) (by omega)
        refine ⟨fs',b',a',c',h1,h2,?_⟩
        rw [whileG,w1]
        rw [decide_eq_true hp] at ht
        simp only [sbind_ok,if_true,ht]
        exact h3
theorem rooted_run {n : Nat} {tb : List (List Int)} (z : Sz n tb) (hn : n <= 100) (st : Store) : ∃ fs,GdR n tb fs /\ fndF n tb fs = [] /\ m_rooted_houses [some (tabV tb),none,none,none,none] st = .rt (.ref st.length) (rdS st fs):=by
  obtain ⟨fs,b',a',c',g,e,h⟩:=rt_while z hn st n 100000 [] none none ⟨⟨fun x hx=>(by cases hx),List.nodup_nil⟩,fun k hk=>absurd hk (Nat.not_lt_zero _),fun x hx=>(by cases hx)⟩ (by simp) (by omega)
  refine ⟨fs,g,e,?_⟩
  have hS : st ++ [Cell.lst []] = rdS st []:=rfl
  generalize rdS st fs = S2 at *
  generalize rdS st [] = S1 at *
  simp -implicitDefEqProofs [m_rooted_houses,lim_eq,hS,h]
theorem rooted_ok {n : Nat} {tb : List (List Int)} (z : Sz n tb) (hn : n <= 100) (st : Store) : ∃ fs,GdR n tb fs /\ fndF n tb fs = [] /\ F_rooted_houses [tabV tb] st = .ok (.lst (fs.map intV)) st:=by
  obtain ⟨fs,g,e,h⟩:=rooted_run z hn st
  refine ⟨fs,g,e,?_⟩
  have hfz:=fz_ints (n:=st.length) (r:=st.length) (S:=rdS st fs) (hs:=intsN fs) (Nat.le_refl _) (by rw [intsN_map]; exact rdS_at _ _)
  rw [intsN_map] at hfz
  have hpre : st <+: rdS st fs:=List.prefix_append _ _
  generalize rdS st fs = S2 at *
  show callF m_rooted_houses 5 [tabV tb] st = _
  unfold callF
  rw [show (([tabV tb] : List PV).map some ++ List.replicate (5 - [tabV tb].length) none) = [some (tabV tb),none,none,none,none] from rfl,h]
  show Sm.fin st (.ref st.length) S2 = _
  unfold Sm.fin
  rw [if_pos hpre,hfz]
  rfl
theorem rc_dec {n : Nat} {tb : List (List Int)} {fs : List Nat} (g : GdR n tb fs) (hc : fndF n tb fs = []) : ((List.range n).all fun h=>(knownF n tb).getD h false || !busyF tb h) = (List.range n).all fun h=>decide (h ∈ fs) || !busyF tb h:=by
  rw [Bool.eq_iff_iff,List.all_eq_true,List.all_eq_true]
  have hh : ∀ h,h ∈ List.range n -> (decide (h ∈ fs) || !busyF tb h) = ((knownF n tb).getD h false || !busyF tb h):=fun h hm=>by
    have hlt:=List.mem_range.mp hm
    congr 1
    rw [Bool.eq_iff_iff,decide_eq_true_iff,g.closed hc hlt,known_rc n tb hlt]
  constructor <;> intro q x hx
  · rw [hh x hx]; exact q x hx
  · rw [<- hh x hx]; exact q x hx
def reachF (n : Nat) (tb : List (List Int)) : Bool:=(List.range n).all fun h=>(knownF n tb).getD h false || !busyF tb h
theorem oth_busy {n : Nat} {tb : List (List Int)} {fs : List Nat} (g : GdR n tb fs) (hc : fndF n tb fs = []) : (othF n fs).any (busyF tb) = !reachF n tb:=by
  unfold reachF
  rw [rc_dec g hc]
  unfold othF
  rw [List.any_filter,List.any_eq_not_all_not]
  congr 2
  funext h
  rw [Bool.not_and,Bool.not_not]
theorem forG_first {α : Type} (g : α -> PV) (J : Gam -> Prop) (Pd : α -> Bool) (v : α -> PV) {ga : GA} {body : MS} {w : Wt} {st : Store} (hw : wOk w st) : ∀ {xs : List α},(∀ x ∈ xs,∀ Γ,J Γ -> ∃ Γ1,ga (g x) Γ = some Γ1 /\ (Pd x = true -> ∃ Γ2,J Γ2 /\ body Γ1 st = .nx Γ2 st) /\ (Pd x = false -> body Γ1 st = .rt (v x) st)) ->
    ∀ Γ,J Γ -> (xs.all Pd = true -> ∃ Γ',J Γ' /\ forG ga body w (xs.map g) Γ st = .nx Γ' st) /\ (xs.all Pd = false -> ∃ x ∈ xs,Pd x = false /\ forG ga body w (xs.map g) Γ st = .rt (v x) st)
  | [],_,Γ,hJ=>⟨fun _=>⟨Γ,hJ,by simp [forG,hw]⟩,fun h=>by simp at h⟩
  | x :: xs,h,Γ,hJ=>by
    obtain ⟨Γ1,h1,h2,h3⟩:=h x List.mem_cons_self Γ hJ
    rw [List.map_cons,forG,if_pos hw,h1]
    cases px : Pd x with
    | false=>
      refine ⟨fun z=>by simp [px] at z,fun _=>⟨x,List.mem_cons_self,px,?_⟩⟩
      simp only [h3 px]
    | true=>
      obtain ⟨Γ2,j2,e2⟩:=h2 px
      have ih:=forG_first g J Pd v (ga:=ga) (body:=body) hw (xs:=xs) (fun y hy=>h y (List.mem_cons_of_mem _ hy)) Γ2 j2
      simp only [e2,List.all_cons,px,Bool.true_and]
      exact ⟨ih.1,fun q=>by
        obtain ⟨y,hy,p,e⟩:=ih.2 q
        exact ⟨y,List.mem_cons_of_mem _ hy,p,e⟩⟩
def comesB (n : Nat) (tb : List (List Int)) : Bool:=((List.range n).all fun h=>decide (0 <= rightsF tb h)) && reachF n tb
theorem rootless_houses_okF {n : Nat} {tb : List (List Int)} (z : Sz n tb) (hn : n <= 100) (st : Store) : ∃ us : List Nat,us.length <= n /\ (us = [] <-> reachF n tb = true) /\ F_rootless_houses [tabV tb] st = .ok (.lst (us.map intV)) st:=by
  obtain ⟨fs,g,hc,e⟩:=rooted_ok z hn st
  have hn1 : -1000000 <= (n : Int) /\ (n : Int) <= 1000000:=by omega
  have hln : cLen st [tabV tb] = .ok (.int n) st:=by simp [tabV,z.1]
  have hat : ListAt st (.lst (fs.map intV)) ((intsN fs).map .int):=.inl (by rw [intsN_map])
  have hc1 : compG (gaName 0) t_rootless_houses_1 e_rootless_houses_1 [] (capG [none,some 1] [some (tabV tb),some (.lst (fs.map intV)),none]) (rangeI 0 n) st = .ok ((othF n fs).map intV) st:=by
    rw [rangeI0]
    refine compG_onF _ _ _ (by simp) fun j hj=>⟨_,rfl,?_,fun ht=>?_⟩
    · have hin:=in_ok hat (j : Int) true
      by_cases q : j ∈ fs
      · have q' : (j : Int) ∈ intsN fs:=intsN_mem.mpr q
        generalize fs.map intV = fv at *
        simp -implicitDefEqProofs [capG,t_rootless_houses_1,hin,q,q']
      · have q' : ¬ (j : Int) ∈ intsN fs:=fun z=>q (intsN_mem.mp z)
        generalize fs.map intV = fv at *
        simp -implicitDefEqProofs [capG,t_rootless_houses_1,hin,q,q']
    · simp [capG,e_rootless_houses_1,intV]
  have hol : (othF n fs).length <= n:=by
    have:=List.length_filter_le (fun h=>!decide (h ∈ fs)) (List.range n)
    rw [List.length_range] at this
    exact this
  have hon : ∀ h ∈ othF n fs,h < n:=fun h hh=>List.mem_range.mp (List.mem_filter.mp hh).1
  have hob:=oth_busy g hc
  have hc2 : compG (gaName 0) mTrue e_rootless_houses_2 [] (capG [none,some 0] [some (tabV tb),some (.lst (fs.map intV)),some (.lst ((othF n fs).map intV))]) ((othF n fs).map intV) st = .ok (((othF n fs).map (busyF tb)).map .bl) st:=by
    rw [List.map_map]
    refine compG_on _ _ (by simp) fun j hj=>⟨_,rfl,?_⟩
    have hb:=busy_ok z (hon j hj) st
    show _ = Res.ok (PV.bl (busyF tb j)) st
    generalize busyF tb j = rb at *
    simp -implicitDefEqProofs [capG,e_rootless_houses_2,intV,hb]
  have ha : (othF n fs).any (busyF tb) = ((othF n fs).map (busyF tb)).any id:=(any_id _ _).symm
  have l1 : ((othF n fs).map intV).length <= 1000000:=by rw [List.length_map]; omega
  have hgd : fin st (.lst ((othF n fs).map intV)) st = .ok (.lst ((othF n fs).map intV)) st:=fin_good (by simp [good,intV])
  have hgn : fin st (.lst []) st = .ok (.lst []) st:=fin_good (by simp [good])
  cases hr : reachF n tb with
  | true=>
    refine ⟨[],by simp,by simp,?_⟩
    rw [hr,ha] at hob
    rw [List.map_nil]
    generalize (othF n fs).map (busyF tb) = bs at *
    generalize (othF n fs).map intV = ov at *
    have hob : bs.any id = false:=hob
    simp -implicitDefEqProofs [F_rootless_houses,callF,m_rootless_houses,e,hln,hn1,lim_eq,hc1,l1,hc2,hob,hgn]
  | false=>
    rw [hr] at hob
    refine ⟨othF n fs,hol,⟨fun q=>?_,fun q=>by cases q⟩,?_⟩
    · rw [q] at hob; cases hob
    · rw [ha] at hob
      have hob : ((othF n fs).map (busyF tb)).any id = true:=hob
      generalize (othF n fs).map (busyF tb) = bs at *
      generalize (othF n fs).map intV = ov at *
      simp -implicitDefEqProofs [F_rootless_houses,callF,m_rootless_houses,e,hln,hn1,lim_eq,hc1,l1,hc2,hob,hgd]
theorem comes_ok13 {n : Nat} {tb : List (List Int)} (z : Sz n tb) (hn : n <= 100) (st : Store) : ∃ (s : Str) (v : PV),F_comes_about [tabV tb] st = .ok (.tup [.str s,v]) st /\ ((comesB n tb = true /\ s = "comes") \/ (comesB n tb = false /\ (s = "short" \/ s = "rootless"))):=by
  have hn1 : -1000000 <= (n : Int) /\ (n : Int) <= 1000000:=by omega
  have hln : ∀ S,cLen S [tabV tb] = .ok (.int n) S:=fun S=>by simp [tabV,z.1]
  have L:=forG_first (fun k : Nat=>PV.int (k : Int)) (fun Γ=>∃ a,Γ = [some (tabV tb),a,none]) (fun h=>decide (0 <= rightsF tb h)) (fun h=>.tup [.str "short",.int h]) (ga:=gaName 1) (body:=b_comes_about_1) (w:=[]) (st:=st) (by simp) (xs:=List.range n) (fun h hh Γ ⟨a,e⟩=>by
    subst e
    have hr:=rights_ok z hn (List.mem_range.mp hh) st
    refine ⟨_,rfl,fun hp=>⟨[some (tabV tb),some (.int h),none],⟨_,rfl⟩,?_⟩,fun hp=>?_⟩
    · have hnn : 0 <= rightsF tb h:=by simpa using hp
      have : ¬ (rightsF tb h < 0):=by omega
      generalize rightsF tb h = x at *
      simp -implicitDefEqProofs [b_comes_about_1,hr,this]
    · have hnn : ¬ 0 <= rightsF tb h:=by simpa using hp
      have : rightsF tb h < 0:=by omega
      generalize rightsF tb h = x at *
      simp -implicitDefEqProofs [b_comes_about_1,hr,this,lim_eq])
  have L:=L [some (tabV tb),none,none] ⟨_,rfl⟩
  rw [<- rangeI0] at L
  unfold comesB
  cases ha : (List.range n).all fun h=>decide (0 <= rightsF tb h) with
  | false=>
    obtain ⟨h,hh,hp,e⟩:=L.2 ha
    refine ⟨"short",.int h,?_,.inr ⟨Bool.false_and _,.inl rfl⟩⟩
    have hg : fin st (.tup [.str "short",.int h]) st = .ok (.tup [.str "short",.int h]) st:=fin_good (by simp [good])
    simp -implicitDefEqProofs [F_comes_about,callF,m_comes_about,hln,hn1,lim_eq,e,hg]
  | true=>
    obtain ⟨Γ',⟨a,rfl⟩,e⟩:=L.1 ha
    obtain ⟨us,hl,hne,e1⟩:=rootless_houses_okF z hn st
    cases hr : reachF n tb with
    | true=>
      have hu:=hne.mpr hr
      subst hu
      obtain ⟨fs,g,hc,e2⟩:=rooted_ok z hn st
      refine ⟨"comes",.lst (fs.map intV),?_,.inl ⟨rfl,rfl⟩⟩
      have hg : fin st (.tup [.str "comes",.lst (fs.map intV)]) st = .ok (.tup [.str "comes",.lst (fs.map intV)]) st:=fin_good (by simp [good,intV])
      rw [List.map_nil] at e1
      generalize fs.map intV = fv at *
      simp -implicitDefEqProofs [F_comes_about,callF,m_comes_about,hln,hn1,lim_eq,e,e1,e2,hg]
    | false=>
      have hu : us ≠ []:=fun q=>by rw [hne.mp q] at hr; cases hr
      refine ⟨"rootless",.lst (us.map intV),?_,.inr ⟨rfl,.inr rfl⟩⟩
      have hp : 0 < (us.map intV).length:=by rw [List.length_map]; exact List.length_pos_iff.mpr hu
      have hg : fin st (.tup [.str "rootless",.lst (us.map intV)]) st = .ok (.tup [.str "rootless",.lst (us.map intV)]) st:=fin_good (by simp [good,intV])
      generalize us.map intV = uv at *
      simp -implicitDefEqProofs [F_comes_about,callF,m_comes_about,hln,hn1,lim_eq,e,e1,hp,hg]
theorem comes_okF {n : Nat} {tb : List (List Int)} (z : Sz n tb) (hn : n <= 100) (st : Store) : ∃ (s : Str) (v : PV),F_comes_about [tabV tb] st = .ok (.tup [.str s,v]) st /\ (s == (Str.ofString "comes")) = comesB n tb:=by
  obtain ⟨s,v,e,⟨h,rfl⟩ | ⟨h,rfl | rfl⟩⟩:=comes_ok13 z hn st
  · exact ⟨_,v,e,by rw [h]; decide +kernel⟩
  · exact ⟨_,v,e,by rw [h]; decide +kernel⟩
  · exact ⟨_,v,e,by rw [h]; decide +kernel⟩
theorem is_row_ok (r : List Int) (n : Int) (st : Store) (hl : r.length <= lim) : F_is_row [rowV r,.int n] st = .ok (.bl (decide ((r.length : Int) = n + 1) && r.all fun i=>decide (0 <= i))) st:=by
  have hc : compG (gaName 0) mTrue e_is_row_1 [] (capG [none] [some (rowV r),some (.int n)]) (r.map .int) st = .ok (r.map fun i=>.bl (decide (0 <= i))) st:=by
    refine compG_on _ _ (by simp) fun i hi=>⟨_,rfl,?_⟩
    simp [capG,e_is_row_1,is_whole_int]
  unfold rowV at hc ⊢
  by_cases h : (r.length : Int) = n + 1 <;> simp [F_is_row,callF,m_is_row,isI,tyN,hc,h,hl,all_id]
theorem is_table_ok {n : Nat} {tb : List (List Int)} (w : Wt' n tb) (st : Store) : F_is_table [tabV tb] st = .ok (.bl true) st:=by
  have h1:=w.n1
  have h8:=w.n8
  have hc : compG (gaName 0) mTrue e_is_table_1 [] (capG [none,some 0] [some (tabV tb)]) (tb.map rowV) st = .ok (tb.map fun _=>.bl true) st:=by
    refine compG_on _ _ (by simp) fun r hr=>⟨_,rfl,?_⟩
    have e:=w.row r hr
    have e2:=is_row_ok r tb.length st (by rw [e,lim_eq]; omega)
    simp [capG,e_is_table_1,tabV,e2]
    rw [w.len,e]
    exact ⟨by omega,w.nn r hr⟩
  unfold tabV at hc ⊢
  have h1' : (1 : Int) <= n:=by omega
  have h8' : (n : Int) <= 8:=by omega
  have hl : n <= 1000000:=by omega
  simp [F_is_table,callF,m_is_table,isI,tyN,hc,w.len,all_id,h1',h8',lim_eq,hl]
def dstep (m x : Int) : Int:=(m * 69621 + x % 998244353 + 1) % 1000000007
def dM (k : Nat) (pre : List Int) : Int:=pre.foldl dstep (1000003 * (k + 1))
theorem dM_snoc (k : Nat) (pre : List Int) (x : Int) : dM k (pre ++ [x]) = (dM k pre * 69621 + x % 998244353 + 1) % 1000000007:=by
  unfold dM
  rw [List.foldl_append,List.foldl_cons,List.foldl_nil,dstep]
theorem dM_nil (k : Nat) : dM k [] = 1000003 * (k + 1):=by
  unfold dM
  rw [List.foldl_nil]
theorem dM_bd (k : Nat) (hk : k <= 1000) (l : List Int) : 0 <= dM k l /\ dM k l < 10000000000:=by
  rcases List.eq_nil_or_concat l with rfl | ⟨pre,x,rfl⟩
  · rw [dM_nil]; omega
  · rw [List.concat_eq_append,dM_snoc]
    have:=emod_lt (dM k pre * 69621 + x % 998244353 + 1) (b:=1000000007) (by decide)
    omega
def drawF (k : Nat) (m : Int) : Int:=((m * m % 1000000007 + 7919 * k * k) * 48271 % 2147483647) * ((m * m % 1000000007 + 7919 * k * k) * 48271 % 2147483647) % 2147483647 / 8
def drawI (ns : List Int) (k : Nat) : Int:=match ns[k]? with
  | some x=>x % 10000000000000000000000000000000000000000
  | none=>drawF k (dM k (ns.take 7))
theorem draw_ok (ns : List Int) (k : Nat) (st : Store) (hk : k <= 1000) : F__law_b_draw [.fro (ns.map .int),.int k] st = .ok (.int (drawI ns k)) st:=by
  by_cases h : k < ns.length
  · have h' : (k : Int) < ns.length:=by omega
    have e : ns[k]? = some ns[k]:=List.getElem?_eq_getElem h
    simp [F__law_b_draw,callF,m__law_b_draw,h,atI_map,atI_get e,drawI]
  · have h' : ¬ ((k : Int) < ns.length):=by omega
    have hn : ns[k]? = none:=List.getElem?_eq_none (by omega)
    have hcut : cut ns none (some 7) = ns.take 7:=cut_front ns 7
    have hl : (ns.take 7).length <= lim:=by
      rw [List.length_take,lim_eq]
      omega
    have hd : drawI ns k = drawF k (dM k (ns.take 7)):=by
      unfold drawI; rw [hn]
    rw [hd]
    generalize ns.take 7 = fr at hcut hl ⊢
    obtain ⟨Γ',st',e1,c,rfl,eΓ⟩:=forG_invL (g:=PV.int) (xs:=fr) (ga:=gaName 3)
      (body:=b__law_b_draw_1) (w:=[])
      (Γ:=[some (.fro (ns.map .int)),some (.int k),some (.int (1000003 * (k + 1))),none]) (st:=st)
      (fun pre Γ st'=>∃ (c : Option PV),st' = st /\ Γ = [some (.fro (ns.map .int)),some (.int k),some (.int (dM k pre)),c])
      (fun i Γ st' _=>by simp)
      (fun pre x post Γ st' hx ⟨c,e,eΓ⟩=>by
        subst e; subst eΓ
        refine ⟨_,rfl,[some (.fro (ns.map .int)),some (.int k),some (.int (dM k (pre ++ [x]))),some (.int x)],st',?_,some (.int x),rfl,rfl⟩
        rw [dM_snoc]
        simp [b__law_b_draw_1])
      ⟨none,rfl,by rw [dM_nil]⟩
    subst eΓ
    obtain ⟨hm0,hm1⟩:=dM_bd k hk fr
    generalize dM k fr = m at hm0 hm1 e1 ⊢
    have hb1 : -18446744073709551616 < m /\ m < 18446744073709551616:=by omega
    unfold drawF
    obtain ⟨q,hq⟩ : ∃ q,m * m % 1000000007 = q:=⟨_,rfl⟩
    rw [hq]
    obtain ⟨r,hr⟩ : ∃ r : Int,(q + 7919 * k * k) * 48271 % 2147483647 = r:=⟨_,rfl⟩
    have hr2:=emod_lt ((q + 7919 * k * k) * 48271) (b:=2147483647) (by omega)
    rw [hr] at hr2 ⊢
    have hb2 : -18446744073709551616 < r /\ r < 18446744073709551616:=by omega
    have hk1 : -18446744073709551616 < (k : Int) /\ (k : Int) < 18446744073709551616:=by omega
    simp only [F__law_b_draw,callF,m__law_b_draw]
    simp -implicitDefEqProofs [h,hl,cut_map,hcut,e1,hb1,hq,hk1,hr,hb2]
def stockF (n : Nat) (tb : List (List Int)) : Int:=upto n (fun o=>ent tb o o) - upto n (fun o=>ent tb o n)
theorem rights_sum {n : Nat} {tb : List (List Int)} (z : Sz n tb) : upto n (rightsF tb) = stockF n tb:=by
  rw [upto_congr fun h hh=>rightsF_eq z hh,upto_sub,upto_sub,upto_add,upto_swap n n fun h o=>ent tb o h,stockF]
  omega
def zRow (n : Nat) : List Int:=List.replicate (n + 1) 0
theorem zTab_wt {n : Nat} (h1 : 1 <= n) (h8 : n <= 8) : Wt' n (List.replicate n (zRow n)):=by
  refine ⟨by simp,fun r hr=>?_,fun r hr x hx=>?_,h1,h8⟩
  · rw [List.eq_of_mem_replicate hr]; simp [zRow]
  · rw [List.eq_of_mem_replicate hr] at hx
    rw [List.eq_of_mem_replicate hx]
    exact Int.le_refl _
def putT (tb : List (List Int)) (i j : Nat) (x : Int) : List (List Int):=tb.set i ((tb.getD i []).set j x)
theorem ent_put {n i j : Nat} {tb : List (List Int)} (z : Sz n tb) (hi : i < n) (hj : j <= n) (x : Int) (a b : Nat) : ent (putT tb i j x) a b = if a = i /\ b = j then x else ent tb a b:=by
  unfold ent putT
  have hl:=(z.row hi).2
  by_cases ha : a = i
  · subst ha
    rw [show (tb.set a ((tb.getD a []).set j x)).getD a [] = (tb.getD a []).set j x by rw [List.getD,List.getElem?_set_self (by rw [z.1]; exact hi)]; rfl]
    by_cases hb : b = j
    · subst hb
      rw [if_pos ⟨rfl,rfl⟩,List.getD,List.getElem?_set_self (by omega)]; rfl
    · rw [if_neg (fun q=>hb q.2),List.getD,List.getElem?_set_ne (fun q=>hb q.symm)]; rfl
  · rw [if_neg (fun q=>ha q.1)]
    rw [show (tb.set i ((tb.getD i []).set j x)).getD a [] = tb.getD a [] by rw [List.getD,List.getElem?_set_ne (fun q=>ha q.symm)]; rfl]
theorem upto_delta (n i : Nat) (k : Int) : upto n (fun o=>if o = i then k else 0) = if i < n then k else 0:=by
  induction n with
  | zero=>rfl
  | succ n ih=>
    rw [upto_succ,ih]
    by_cases e : n = i
    · subst e; simp
    · rw [if_neg e]
      by_cases h : i < n
      · rw [if_pos h,if_pos (by omega)]; omega
      · rw [if_neg h,if_neg (by omega)]; omega
theorem putT_sz {n i j : Nat} {tb : List (List Int)} (z : Sz n tb) (hi : i < n) (x : Int) : Sz n (putT tb i j x):=by
  unfold putT
  refine ⟨by rw [List.length_set]; exact z.1,fun r hr=>?_⟩
  rcases List.mem_or_eq_of_mem_set hr with hr | rfl
  · exact z.2 r hr
  · rw [List.length_set]; exact (z.row hi).2
theorem rights_put {n i j : Nat} {tb : List (List Int)} (z : Sz n tb) (hi : i < n) (hj : j <= n) (k : Int) {h : Nat} (hh : h < n) :
    rightsF (putT tb i j (ent tb i j + k)) h = rightsF tb h + (if h = j then k else 0) - (if h = i then k else 0) + (if h = i /\ j = i then k else 0):=by
  have z':=putT_sz (j:=j) z hi (ent tb i j + k)
  have he : ∀ a b,ent (putT tb i j (ent tb i j + k)) a b = ent tb a b + if a = i /\ b = j then k else 0:=fun a b=>by
    rw [ent_put z hi hj]
    split
    · rename_i q; rw [q.1,q.2]
    · omega
  rw [rightsF_eq z' hh,rightsF_eq z hh]
  have c1 : upto n (fun o=>ent (putT tb i j (ent tb i j + k)) o h) = upto n (fun o=>ent tb o h) + if h = j then k else 0:=by
    rw [upto_congr (g:=fun o=>ent tb o h + if o = i then (if h = j then k else 0) else 0) fun o _=>by
      rw [he]
      by_cases q1 : o = i <;> by_cases q2 : h = j <;> simp [q1,q2],upto_add,upto_delta,if_pos hi]
  have c2 : upto n (fun b=>ent (putT tb i j (ent tb i j + k)) h b) + ent (putT tb i j (ent tb i j + k)) h n = upto n (fun b=>ent tb h b) + ent tb h n + if h = i then k else 0:=by
    rw [<- upto_succ,<- upto_succ,upto_congr (g:=fun b=>ent tb h b + if b = j then (if h = i then k else 0) else 0) fun b _=>by
      rw [he]
      by_cases q1 : h = i <;> by_cases q2 : b = j <;> simp [q1,q2],upto_add,upto_delta,if_pos (by omega)]
  rw [c1,c2,he]
  by_cases q1 : h = i <;> by_cases q2 : j = i <;> by_cases q3 : h = j <;> simp [q1,q2,q3] <;> omega
structure Ca (n : Nat) (tb : List (List Int)) : Prop where
  nn : ∀ h,h < n -> 0 <= rightsF tb h
  bz : ∀ h,h < n -> busyF tb h = true -> Rc n tb h
theorem Ca.comes {n : Nat} {tb : List (List Int)} (c : Ca n tb) : comesB n tb = true:=by
  unfold comesB reachF
  rw [Bool.and_eq_true,List.all_eq_true,List.all_eq_true]
  refine ⟨fun h hh=>by simp [c.nn h (List.mem_range.mp hh)],fun h hh=>?_⟩
  have hh:=List.mem_range.mp hh
  cases hb : busyF tb h with
  | false=>simp
  | true=>rw [(known_rc n tb hh).mpr (c.bz h hh hb)]; rfl
theorem Rc.mono {n : Nat} {t1 t2 : List (List Int)} (h : ∀ a b,a < n -> b < n -> ent t1 a b <= ent t2 a b) {g : Nat} (r : Rc n t1 g) : Rc n t2 g:=by
  induction r with
  | @made k hl hm=>
    refine .made hl ?_
    unfold madeF at *
    have:=h k k hl hl
    simp at hm
    simp; omega
  | @lent o k r hl he ih=>
    have:=h o k r.lt hl
    exact .lent ih hl (by omega)
theorem busy_iff {n : Nat} {tb : List (List Int)} (w : Wt' n tb) {h : Nat} (hh : h < n) : busyF tb h = true <-> ∃ j,j <= n /\ j ≠ h /\ 0 < ent tb h j:=by
  rw [<- busy_eq w hh]
  unfold busyR
  rw [List.any_eq_true]
  constructor
  · rintro ⟨j,hj,q⟩
    simp at q
    exact ⟨j,by have:=List.mem_range.mp hj; omega,q.1,q.2⟩
  · rintro ⟨j,hj,q1,q2⟩
    exact ⟨j,List.mem_range.mpr (by omega),by simp [q1,q2]⟩
theorem Ca.rc_of {n : Nat} {tb : List (List Int)} (w : Wt' n tb) (c : Ca n tb) {i : Nat} (hi : i < n) (hr : 1 <= rightsF tb i) : Rc n tb i:=by
  rw [rightsF_eq w.sz hi] at hr
  have hrow : ent tb i i <= upto n (fun j=>ent tb i j):=upto_le (fun j hj=>w.ent_nn hi (Nat.le_of_lt hj)) hi
  have hnn:=w.ent_nn hi (Nat.le_refl n)
  have : ∃ o,o < n /\ 0 < ent tb o i:=by
    refine Classical.byContradiction fun q=>?_
    have : upto n (fun o=>ent tb o i) = upto n fun _=>0:=upto_congr fun o ho=>by
      have h1:=w.ent_nn ho (Nat.le_of_lt hi)
      have h2 : ¬ 0 < ent tb o i:=fun z=>q ⟨o,ho,z⟩
      omega
    rw [upto_zero] at this
    omega
  obtain ⟨o,ho,he⟩:=this
  by_cases e : o = i
  · subst e
    exact .made hi (by unfold madeF; simp [he])
  · exact .lent (c.bz o ho ((busy_iff w ho).mpr ⟨i,Nat.le_of_lt hi,fun z=>e z.symm,he⟩)) hi he
theorem Ca.make {n i : Nat} {tb : List (List Int)} (w : Wt' n tb) (c : Ca n tb) (hi : i < n) {k : Int} (hk : 0 <= k) (w' : Wt' n (putT tb i i (ent tb i i + k))) : Ca n (putT tb i i (ent tb i i + k)):=by
  have hle : ∀ a b,ent tb a b <= ent (putT tb i i (ent tb i i + k)) a b:=fun a b=>by
    rw [ent_put w.sz hi (Nat.le_of_lt hi)]
    split
    · rename_i q; rw [q.1,q.2]; omega
    · omega
  refine ⟨fun h hh=>?_,fun h hh hb=>?_⟩
  · rw [rights_put w.sz hi (Nat.le_of_lt hi) k hh]
    have:=c.nn h hh
    by_cases q : h = i <;> simp [q] at * <;> omega
  · obtain ⟨j,hj,q1,q2⟩:=(busy_iff w' hh).mp hb
    rw [ent_put w.sz hi (Nat.le_of_lt hi)] at q2
    rw [if_neg (fun q=>q1 (by omega))] at q2
    exact (c.bz h hh ((busy_iff w hh).mpr ⟨j,hj,q1,q2⟩)).mono fun a b _ _=>hle a b
theorem Ca.give {n i j : Nat} {tb : List (List Int)} (w : Wt' n tb) (c : Ca n tb) (hi : i < n) (hj : j <= n) (hne : j ≠ i) {k : Int} (hk : 0 <= k) (hr : k <= rightsF tb i) (hr1 : 1 <= rightsF tb i) (w' : Wt' n (putT tb i j (ent tb i j + k))) : Ca n (putT tb i j (ent tb i j + k)):=by
  have hle : ∀ a b,ent tb a b <= ent (putT tb i j (ent tb i j + k)) a b:=fun a b=>by
    rw [ent_put w.sz hi hj]
    split
    · rename_i q; rw [q.1,q.2]; omega
    · omega
  refine ⟨fun h hh=>?_,fun h hh hb=>?_⟩
  · rw [rights_put w.sz hi hj k hh]
    have:=c.nn h hh
    by_cases q : h = i
    · subst q
      rw [if_neg (fun z=>hne z.symm),if_pos rfl,if_neg (fun z=>hne z.2)]
      omega
    · by_cases q2 : h = j
      · rw [if_pos q2,if_neg q,if_neg (fun z=>q z.1)]; omega
      · rw [if_neg q2,if_neg q,if_neg (fun z=>q z.1)]; omega
  · by_cases q : h = i
    · subst q
      exact (c.rc_of w hi hr1).mono fun a b _ _=>hle a b
    · obtain ⟨b,hb1,q1,q2⟩:=(busy_iff w' hh).mp hb
      rw [ent_put w.sz hi hj,if_neg (fun z=>q z.1)] at q2
      exact (c.bz h hh ((busy_iff w hh).mpr ⟨b,hb1,q1,q2⟩)).mono fun a b _ _=>hle a b
theorem Ca.zero {n : Nat} (h1 : 1 <= n) (h8 : n <= 8) (w : Wt' n (List.replicate n (zRow n))) : Ca n (List.replicate n (zRow n)):=by
  have he : ∀ a b,a < n -> b <= n -> ent (List.replicate n (zRow n)) a b = 0:=fun a b ha hb=>by
    unfold ent zRow
    rw [show (List.replicate n (List.replicate (n + 1) (0 : Int))).getD a [] = List.replicate (n + 1) 0 by rw [List.getD,List.getElem?_replicate,if_pos ha]; rfl]
    rw [List.getD,List.getElem?_replicate,if_pos (by omega)]; rfl
  refine ⟨fun h hh=>?_,fun h hh hb=>?_⟩
  · rw [rightsF_eq w.sz hh,upto_congr (g:=fun _=>0) fun o ho=>he o h ho (Nat.le_of_lt hh),upto_congr (f:=fun j=>ent (List.replicate n (zRow n)) h j) (g:=fun _=>0) fun o ho=>he h o hh (Nat.le_of_lt ho),upto_zero,he h n hh (Nat.le_refl n),he h h hh (Nat.le_of_lt hh)]
    omega
  · obtain ⟨j,hj,_,q⟩:=(busy_iff w hh).mp hb
    rw [he h j hh hj] at q
    omega
theorem set_cut {α : Type} (xs : List α) (i : Nat) (x : α) (h : i < xs.length) : xs.take i ++ [x] ++ xs.drop (i + 1) = xs.set i x:=by
  rw [List.set_eq_take_append_cons_drop,if_pos h,List.append_assoc]; rfl
theorem raised_ok {n i j : Nat} {tb : List (List Int)} (z : Sz n tb) (hn : n <= 100) (hi : i < n) (hj : j <= n) (k : Int) (st : Store) : F_raised [tabV tb,.int i,.int j,.int k] st = .ok (tabV (putT tb i j (ent tb i j + k))) st:=by
  have c0:=cell_ix z hi hj st
  have hrl:=(z.row hi).2
  have g1 : rowV ((tb.getD i []).set j (ent tb i j + k)) = .tup (((tb.getD i []).take j).map .int ++ [.int (ent tb i j + k)] ++ ((tb.getD i []).drop (j + 1)).map .int):=by
    unfold rowV
    rw [<- set_cut _ _ _ (by omega),List.map_append,List.map_append]; rfl
  have g2 : tabV (putT tb i j (ent tb i j + k)) = .tup ((tb.take i).map rowV ++ [rowV ((tb.getD i []).set j (ent tb i j + k))] ++ (tb.drop (i + 1)).map rowV):=by
    unfold tabV putT
    rw [<- set_cut _ _ _ (by rw [z.1]; exact hi),List.map_append,List.map_append]; rfl
  have c3 : cut ((tb.getD i []).map PV.int) none (some (j : Int)) = ((tb.getD i []).take j).map .int:=by rw [cut_map,cut_front]
  have c4 : cut ((tb.getD i []).map PV.int) (some ((j : Int) + 1)) none = ((tb.getD i []).drop (j + 1)).map .int:=by rw [cut_map]; exact congrArg _ (cut_back _ (j + 1))
  have c5 : cut (tb.map rowV) none (some (i : Int)) = (tb.take i).map rowV:=by rw [cut_map,cut_front]
  have c6 : cut (tb.map rowV) (some ((i : Int) + 1)) none = (tb.drop (i + 1)).map rowV:=by rw [cut_map]; exact congrArg _ (cut_back _ (i + 1))
  have l3 : (((tb.getD i []).take j).map PV.int).length = j:=by rw [List.length_map,List.length_take,hrl]; omega
  have l4 : (((tb.getD i []).drop (j + 1)).map PV.int).length = n - j:=by rw [List.length_map,List.length_drop,hrl]; omega
  have l5 : ((tb.take i).map rowV).length = i:=by rw [List.length_map,List.length_take,z.1]; omega
  have l6 : ((tb.drop (i + 1)).map rowV).length = n - (i + 1):=by rw [List.length_map,List.length_drop,z.1]
  have b1 : j + 1 <= 1000000:=by omega
  have b2 : j + 1 + (n - j) <= 1000000:=by omega
  have b3 : i + 1 <= 1000000:=by omega
  have b4 : i + 1 + (n - (i + 1)) <= 1000000:=by omega
  have hf : fin st (tabV (putT tb i j (ent tb i j + k))) st = .ok (tabV (putT tb i j (ent tb i j + k))) st:=fin_good (by simp [good,tabV,rowV])
  obtain ⟨c1,c2⟩:=c0
  have q1 : oSl st (rowV (tb.getD i [])) none (some (j : Int)) = .ok (.tup (((tb.getD i []).take j).map .int)) st:=by unfold rowV; rw [oSl_tup,c3]
  have q2 : oSl st (rowV (tb.getD i [])) (some ((j : Int) + 1)) none = .ok (.tup (((tb.getD i []).drop (j + 1)).map .int)) st:=by unfold rowV; rw [oSl_tup,c4]
  have q3 : oSl st (tabV tb) none (some (i : Int)) = .ok (.tup ((tb.take i).map rowV)) st:=by unfold tabV; rw [oSl_tup,c5]
  have q4 : oSl st (tabV tb) (some ((i : Int) + 1)) none = .ok (.tup ((tb.drop (i + 1)).map rowV)) st:=by unfold tabV; rw [oSl_tup,c6]
  rw [g2] at hf ⊢
  rw [g1] at hf ⊢
  generalize ent tb i j = x at *
  generalize ((tb.getD i []).take j).map PV.int = v3 at *
  generalize ((tb.getD i []).drop (j + 1)).map PV.int = v4 at *
  generalize (tb.take i).map rowV = v5 at *
  generalize (tb.drop (i + 1)).map rowV = v6 at *
  generalize rowV (tb.getD i []) = rv at *
  generalize tabV tb = T at *
  simp -implicitDefEqProofs at hf
  simp -implicitDefEqProofs [F_raised,callF,m_raised,c1,c2,q1,q2,q3,q4,lim_eq,l3,l4,l5,l6,b1,b2,b3,b4,hf]
structure TabLike (st : Store) (V : PV) (n : Nat) (tb : List (List Int)) : Prop where
  len : cLen st [V] = .ok (.int n) st
  row : ∀ i,i < n -> ∃ R,oIx st V (.int i) = .ok R st /\ ∀ j,j <= n -> oIx st R (.int j) = .ok (.int (ent tb i j)) st
theorem TabLike.tab {n : Nat} {tb : List (List Int)} (z : Sz n tb) (st : Store) : TabLike st (tabV tb) n tb:=
  ⟨by simp [tabV,z.1],fun i hi=>⟨_,(cell_ix z hi (Nat.zero_le n) st).1,fun j hj=>(cell_ix z hi hj st).2⟩⟩
def lrF (tb : List (List Int)) (h i : Nat) : Int:=upto i fun o=>ent tb o h - if o ≠ h then ent tb h o else 0
theorem lrights_ok {st : Store} {V : PV} {n h : Nat} {tb : List (List Int)} (T : TabLike st V n tb) (hn : n <= 100) (hh : h < n) : F__law_b_rights [V,.int h] st = .ok (.int (lrF tb h n - ent tb h n)) st:=by
  have hn1 : -1000000 <= (n : Int) /\ (n : Int) <= 1000000:=by omega
  obtain ⟨Rh,h1,h2⟩:=T.row h hh
  have hln:=T.len
  obtain ⟨Γ',st',e,c',rfl,rfl⟩:=forG_inv (g:=fun k : Nat=>PV.int (k : Int)) (xs:=List.range n) (ga:=gaName 4) (body:=b__law_b_rights_1) (w:=[]) (Γ:=[some V,some (.int h),some (.int n),some (.int 0),none]) (st:=st)
    (fun i Γ st'=>∃ c',Γ = [some V,some (.int h),some (.int n),some (.int (lrF tb h i)),c'] /\ st' = st)
    (fun _ _ _ _=>by simp)
    (fun i o Γ st' hx ⟨c',e1,e2⟩=>by
      subst e1; subst e2
      have hin : i < n:=by simpa using (List.getElem?_eq_some_iff.mp hx).1
      have hxi : o = i:=by
        rw [List.getElem?_range hin] at hx
        exact (Option.some.inj hx).symm
      subst hxi
      obtain ⟨Ro,g1,g2⟩:=T.row o hin
      have g2:=g2 h (Nat.le_of_lt hh)
      have h2:=h2 o (Nat.le_of_lt hin)
      refine ⟨_,rfl,[some V,some (.int h),some (.int n),some (.int (lrF tb h (o + 1))),some (.int o)],st',?_,_,rfl,rfl⟩
      unfold lrF
      rw [upto_succ]
      generalize (upto o fun o=>ent tb o h - if o ≠ h then ent tb h o else 0) = x at *
      generalize ent tb o h = y at *
      generalize ent tb h o = y2 at *
      by_cases q : o = h
      · subst q
        simp -implicitDefEqProofs [b__law_b_rights_1,g1,g2]
      · have q' : ¬ ((o : Int) = h):=by omega
        have eqn : x + (y - y2) = x + y - y2:=by omega
        simp -implicitDefEqProofs [b__law_b_rights_1,g1,g2,q,q',h1,h2,eqn])
    ⟨none,rfl,rfl⟩
  rw [List.length_range] at e
  rw [<- rangeI0] at e
  have h2:=h2 n (Nat.le_refl n)
  generalize lrF tb h n = x at *
  generalize ent tb h n = y at *
  simp -implicitDefEqProofs [F__law_b_rights,callF,m__law_b_rights,hln,hn1,lim_eq,e,h1,h2]
theorem lr_eq {n h : Nat} {tb : List (List Int)} (z : Sz n tb) (hh : h < n) : lrF tb h n - ent tb h n = rightsF tb h:=by
  rw [rightsF_eq z hh]
  unfold lrF
  rw [upto_sub,upto_but (fun j=>ent tb h j) hh]
  omega
def rb2 (n : Nat) (tb : List (List Int)) (h pl : Nat) : List (List Int):=putT (putT tb h h (ent tb h h + (-1))) h pl (ent (putT tb h h (ent tb h h + (-1))) h pl + (-1))
def restB (n : Nat) (tb : List (List Int)) (h pl : Nat) : List (List Int):=if pl = n then rb2 n tb h pl else putT (rb2 n tb h pl) pl pl (ent (rb2 n tb h pl) pl pl + 1)
structure Op (n : Nat) (tb : List (List Int)) (h pl : Nat) : Prop where
  hh : h < n
  hp : pl <= n
  ne : pl ≠ h
  d : 0 < ent tb h h
  o : 0 < ent tb h pl
section
variable {n : Nat} {tb : List (List Int)} {h pl : Nat}
theorem rb_sz (z : Sz n tb) (hh : h < n) (hp : pl <= n) : Sz n (restB n tb h pl):=by
  have z2 : Sz n (rb2 n tb h pl):=putT_sz (putT_sz z hh _) hh _
  unfold restB
  split
  · exact z2
  · exact putT_sz z2 (by omega) _
theorem rb_ent (z : Sz n tb) (hh : h < n) (hp : pl <= n) (hne : pl ≠ h) (a b : Nat) : ent (restB n tb h pl) a b = ent tb a b - (if a = h /\ b = h then 1 else 0) - (if a = h /\ b = pl then 1 else 0) + (if pl < n /\ a = pl /\ b = pl then 1 else 0):=by
  have z1:=putT_sz (j:=h) z hh (ent tb h h + (-1))
  have e1 : ∀ a b,ent (putT tb h h (ent tb h h + (-1))) a b = ent tb a b - (if a = h /\ b = h then 1 else 0):=fun a b=>by
    rw [ent_put z hh (Nat.le_of_lt hh)]
    split
    · rename_i q; rw [q.1,q.2]; omega
    · omega
  have z2 : Sz n (rb2 n tb h pl):=putT_sz z1 hh _
  have e2 : ∀ a b,ent (rb2 n tb h pl) a b = ent tb a b - (if a = h /\ b = h then 1 else 0) - (if a = h /\ b = pl then 1 else 0):=fun a b=>by
    unfold rb2
    rw [ent_put z1 hh hp]
    by_cases q : a = h /\ b = pl
    · rw [if_pos q,if_pos q,q.1,q.2,e1]; omega
    · rw [if_neg q,if_neg q,e1]; omega
  unfold restB
  by_cases hn : pl = n
  · rw [if_pos hn,e2,if_neg (show ¬ (pl < n /\ a = pl /\ b = pl) by omega)]; omega
  · rw [if_neg hn,ent_put z2 (by omega) hp]
    by_cases q : a = pl /\ b = pl
    · rw [if_pos q,if_pos (show pl < n /\ a = pl /\ b = pl from ⟨by omega,q⟩),q.1,q.2,e2]
    · rw [if_neg q,if_neg (show ¬ (pl < n /\ a = pl /\ b = pl) from fun y=>q y.2),e2]; omega
theorem rb_rights (z : Sz n tb) (hh : h < n) (hp : pl <= n) (hne : pl ≠ h) {g : Nat} (hg : g < n) : rightsF (restB n tb h pl) g = rightsF tb g:=by
  have z1:=putT_sz (j:=h) z hh (ent tb h h + (-1))
  have z2 : Sz n (rb2 n tb h pl):=putT_sz z1 hh _
  have r1:=rights_put z hh (Nat.le_of_lt hh) (-1) hg
  have r2 : rightsF (rb2 n tb h pl) g = _:=rights_put z1 hh hp (-1) hg
  rw [r1] at r2
  unfold restB
  by_cases hn : pl = n
  · rw [if_pos hn,r2]
    have : ¬ g = pl:=by omega
    by_cases a : g = h <;> simp [a,this,hne] <;> omega
  · rw [if_neg hn,rights_put z2 (by omega) hp 1 hg,r2]
    by_cases a : g = h <;> by_cases b : g = pl <;> simp [a,b,hne] <;> omega
theorem rb_wt (w : Wt' n tb) (o : Op n tb h pl) : Wt' n (restB n tb h pl):=Wt'.of_ent (rb_sz w.sz o.hh o.hp) w.n1 w.n8 fun i j hi hj=>by
  rw [rb_ent w.sz o.hh o.hp o.ne]
  have h1:=w.ent_nn hi hj
  have h2:=o.d
  have h3:=o.o
  have h4:=o.ne
  by_cases a : i = h /\ j = h
  · rw [if_pos a,if_neg (show ¬ (i = h /\ j = pl) by omega),a.1,a.2]
    split <;> omega
  · rw [if_neg a]
    by_cases b : i = h /\ j = pl
    · rw [if_pos b,b.1,b.2]
      split <;> omega
    · rw [if_neg b]
      split <;> omega
theorem rb_row (w : Wt' n tb) (o : Op n tb h pl) {a b : Nat} (ha : a ≠ h) : ent tb a b <= ent (restB n tb h pl) a b:=by
  rw [rb_ent w.sz o.hh o.hp o.ne,if_neg (fun q=>ha q.1),if_neg (fun q=>ha q.1)]
  split <;> omega
theorem rb_pl (w : Wt' n tb) (o : Op n tb h pl) (hpl : pl < n) : 0 < ent (restB n tb h pl) pl pl:=by
  rw [rb_ent w.sz o.hh o.hp o.ne,if_neg (fun q=>o.ne q.1),if_neg (fun q=>o.ne q.1),if_pos ⟨hpl,rfl,rfl⟩]
  have:=w.ent_nn hpl o.hp
  omega
theorem rb_h (w : Wt' n tb) (o : Op n tb h pl) {b : Nat} (h1 : b ≠ h) (h2 : b ≠ pl) : ent (restB n tb h pl) h b = ent tb h b:=by
  rw [rb_ent w.sz o.hh o.hp o.ne,if_neg (fun q=>h1 q.2),if_neg (fun q=>h2 q.2),if_neg (fun q=>h2 q.2.2)]; omega
theorem made_of {t : List (List Int)} {g : Nat} (hg : g < n) (he : 0 < ent t g g) : Rc n t g:=.made hg (by unfold madeF; simp [he])
theorem made_ent {t : List (List Int)} {g : Nat} (m : madeF t g = true) : 0 < ent t g g:=by unfold madeF at m; simpa using m
theorem rb_keep (w : Wt' n tb) (o : Op n tb h pl) (hR : Rc n (restB n tb h pl) h) {g : Nat} (r : Rc n tb g) : Rc n (restB n tb h pl) g:=by
  induction r with
  | @made g hg m=>
    by_cases e : g = h
    · rw [e]; exact hR
    · have:=made_ent m
      have:=rb_row w o (a:=g) (b:=g) e
      exact made_of hg (by omega)
  | @lent a g r hg he ih=>
    by_cases e : a = h
    · subst e
      by_cases e1 : g = a
      · rw [e1]; exact hR
      · by_cases e2 : g = pl
        · rw [e2]; exact made_of (by omega) (rb_pl w o (by omega))
        · exact .lent ih hg (by rw [rb_h w o e1 e2]; exact he)
    · have:=rb_row w o (a:=a) (b:=g) e
      exact .lent ih hg (by omega)
theorem rb_keep2 (w : Wt' n tb) (o : Op n tb h pl) (hnb : ∀ j,j <= n -> j ≠ h -> ¬ 0 < ent (restB n tb h pl) h j) {g : Nat} (r : Rc n tb g) : g = h \/ Rc n (restB n tb h pl) g:=by
  induction r with
  | @made g hg m=>
    by_cases e : g = h
    · exact .inl e
    · have:=made_ent m
      have:=rb_row w o (a:=g) (b:=g) e
      exact .inr (made_of hg (by omega))
  | @lent a g r hg he ih=>
    by_cases e1 : g = h
    · exact .inl e1
    · right
      by_cases e : a = h
      · subst e
        by_cases e2 : g = pl
        · rw [e2]; exact made_of (by omega) (rb_pl w o (by omega))
        · exact absurd (by rw [rb_h w o e1 e2]; exact he) (hnb g (Nat.le_of_lt hg) e1)
      · have:=rb_row w o (a:=a) (b:=g) e
        exact .lent (ih.resolve_left e) hg (by omega)
inductive Av (n : Nat) (tb : List (List Int)) (h : Nat) (x : Option Nat) : Nat -> Prop
  | src {g : Nat} : g < n -> g ≠ h -> (0 < ent tb g g \/ x = some g) -> Av n tb h x g
  | ed {a g : Nat} : Av n tb h x a -> a ≠ h -> g < n -> 0 < ent tb a g -> Av n tb h x g
theorem Av.rc (w : Wt' n tb) (o : Op n tb h pl) {x : Option Nat} (hx : x = none \/ x = some pl) {g : Nat} (r : Av n tb h x g) : Rc n (restB n tb h pl) g:=by
  induction r with
  | @src g hg ne c=>
    rcases c with c | c
    · have:=rb_row w o (a:=g) (b:=g) ne
      exact made_of hg (by omega)
    · rcases hx with hx | hx
      · rw [hx] at c; cases c
      · rw [hx] at c; cases c
        exact made_of hg (rb_pl w o hg)
  | @ed a g r ne hg he ih=>
    have:=rb_row w o (a:=a) (b:=g) ne
    exact .lent ih hg (by omega)
theorem rc_av {g : Nat} (r : Rc n tb g) : g = h \/ Av n tb h none g \/ ∃ q,q < n /\ q ≠ h /\ 0 < ent tb h q /\ Av n tb h (some q) g:=by
  induction r with
  | @made g hg m=>
    by_cases e : g = h
    · exact .inl e
    · exact .inr (.inl (.src hg e (.inl (made_ent m))))
  | @lent a g r hg he ih=>
    by_cases e1 : g = h
    · exact .inl e1
    · by_cases e : a = h
      · subst e
        exact .inr (.inr ⟨g,hg,e1,he,.src hg e1 (.inr rfl)⟩)
      · rcases ih with z | z | ⟨q,q1,q2,q3,z⟩
        · exact absurd z e
        · exact .inr (.inl (.ed z e hg he))
        · exact .inr (.inr ⟨q,q1,q2,q3,.ed z e hg he⟩)
theorem ex_source (w : Wt' n tb) {g : Nat} (r : Rc n tb g) (hb : busyF tb g = true) : ∃ h,h < n /\ busyF tb h = true /\ 0 < ent tb h h:=by
  induction r with
  | @made g hg m=>exact ⟨g,hg,hb,made_ent m⟩
  | @lent a g r hg he ih=>
    by_cases e : a = g
    · subst e; exact ⟨a,hg,hb,he⟩
    · exact ih ((busy_iff w r.lt).mpr ⟨g,Nat.le_of_lt hg,fun z=>e z.symm,he⟩)
theorem rb_busy (w : Wt' n tb) (o : Op n tb h pl) {g : Nat} (hg : g < n) (b : busyF (restB n tb h pl) g = true) : busyF tb g = true:=by
  obtain ⟨j,hj,hne,he⟩:=(busy_iff (rb_wt w o) hg).mp b
  refine (busy_iff w hg).mpr ⟨j,hj,hne,?_⟩
  rw [rb_ent w.sz o.hh o.hp o.ne,if_neg (show ¬ (pl < n /\ g = pl /\ j = pl) by omega)] at he
  split at he <;> split at he <;> omega
theorem ex_step (w : Wt' n tb) (c : Ca n tb) (hb : ∃ g,g < n /\ busyF tb g = true) : ∃ h pl,Op n tb h pl /\ Ca n (restB n tb h pl):=by
  obtain ⟨g,hg,hgb⟩:=hb
  obtain ⟨h,hh,hbz,hd⟩:=ex_source w (c.bz g hg hgb) hgb
  obtain ⟨pl,hp,hne,he⟩:=(busy_iff w hh).mp hbz
  have fin : ∀ pl,Op n tb h pl -> Rc n (restB n tb h pl) h -> ∃ h pl,Op n tb h pl /\ Ca n (restB n tb h pl):=fun pl o hR=>
    ⟨h,pl,o,fun g hg=>by rw [rb_rights w.sz o.hh o.hp o.ne hg]; exact c.nn g hg,fun g hg b=>rb_keep w o hR (c.bz g hg (rb_busy w o hg b))⟩
  have o : Op n tb h pl:=⟨hh,hp,hne,hd,he⟩
  by_cases h2 : 2 <= ent tb h h
  · refine fin pl o (made_of hh ?_)
    rw [rb_ent w.sz o.hh o.hp o.ne,if_pos ⟨rfl,rfl⟩,if_neg (show ¬ (h = h /\ h = pl) from fun q=>hne q.2.symm),if_neg (show ¬ (pl < n /\ h = pl /\ h = pl) from fun q=>hne q.2.1.symm)]
    omega
  · by_cases hb' : busyF (restB n tb h pl) h = true
    · have w':=rb_wt w o
      have hdz : ent (restB n tb h pl) h h = 0:=by
        rw [rb_ent w.sz o.hh o.hp o.ne,if_pos ⟨rfl,rfl⟩,if_neg (show ¬ (h = h /\ h = pl) from fun q=>hne q.2.symm),if_neg (show ¬ (pl < n /\ h = pl /\ h = pl) from fun q=>hne q.2.1.symm)]
        omega
      have hr : 0 <= rightsF (restB n tb h pl) h:=by rw [rb_rights w.sz o.hh o.hp o.ne hh]; exact c.nn h hh
      have : ∃ a,a < n /\ 0 < ent (restB n tb h pl) a h:=by
        refine Classical.byContradiction fun q=>?_
        have hc : upto n (fun a=>ent (restB n tb h pl) a h) = upto n fun _=>0:=upto_congr fun a ha=>by
          have h1:=w'.ent_nn ha (Nat.le_of_lt hh)
          have h2 : ¬ 0 < ent (restB n tb h pl) a h:=fun z=>q ⟨a,ha,z⟩
          omega
        rw [upto_zero] at hc
        unfold rightsF at hr
        rw [w'.len,hc] at hr
        unfold busyF at hb'
        rw [decide_eq_true_eq] at hb'
        omega
      obtain ⟨a,ha,hae⟩:=this
      have hah : a ≠ h:=fun z=>by rw [z,hdz] at hae; omega
      have hat : 0 < ent tb a h:=by
        rw [rb_ent w.sz o.hh o.hp o.ne,if_neg (fun q=>hah q.1),if_neg (fun q=>hah q.1),if_neg (show ¬ (pl < n /\ a = pl /\ h = pl) from fun q=>hne q.2.2.symm)] at hae
        omega
      have hr:=c.bz a ha ((busy_iff w ha).mpr ⟨h,Nat.le_of_lt hh,fun z=>hah z.symm,hat⟩)
      rcases rc_av (h:=h) hr with z | z | ⟨q,q1,q2,q3,z⟩
      · exact absurd z hah
      · exact fin pl o (Av.rc w o (.inl rfl) (.ed z hah hh hat))
      · have oq : Op n tb h q:=⟨hh,Nat.le_of_lt q1,q2,hd,q3⟩
        exact fin q oq (Av.rc w oq (.inr rfl) (.ed z hah hh hat))
    · refine ⟨h,pl,o,fun g hg=>by rw [rb_rights w.sz o.hh o.hp o.ne hg]; exact c.nn g hg,fun g hg b=>?_⟩
      have hgh : g ≠ h:=fun z=>hb' (z ▸ b)
      refine (rb_keep2 w o (fun j hj hjh z=>hb' ((busy_iff (rb_wt w o) hh).mpr ⟨j,hj,hjh,z⟩)) (c.bz g hg (rb_busy w o hg b))).resolve_left hgh
end
theorem rest_ok {n h pl : Nat} {tb : List (List Int)} (z : Sz n tb) (hn : n <= 100) (hh : h < n) (hp : pl <= n) (st : Store) : F_rest_behind [tabV tb,.int h,.int pl] st = .ok (tabV (restB n tb h pl)) st:=by
  have z1:=putT_sz (j:=h) z hh (ent tb h h + (-1))
  have z2 : Sz n (rb2 n tb h pl):=putT_sz z1 hh _
  have e1:=raised_ok z hn hh (Nat.le_of_lt hh) (-1) st
  have e2 : F_raised [tabV (putT tb h h (ent tb h h + (-1))),.int h,.int pl,.int (-1)] st = .ok (tabV (rb2 n tb h pl)) st:=raised_ok z1 hn hh hp (-1) st
  have hl : cLen st [tabV tb] = .ok (.int n) st:=by unfold tabV; simp [z.1]
  have g2 : fin st (tabV (rb2 n tb h pl)) st = .ok (tabV (rb2 n tb h pl)) st:=fin_good (by simp [good,tabV,rowV])
  by_cases q : pl = n
  · have er : restB n tb h pl = rb2 n tb h pl:=by unfold restB; rw [if_pos q]
    rw [er]
    clear er z1 z2
    subst q
    generalize tabV (rb2 pl tb h pl) = T2 at *
    generalize tabV (putT tb h h (ent tb h h + (-1))) = T1 at *
    generalize tabV tb = T at *
    simp -implicitDefEqProofs [F_rest_behind,callF,m_rest_behind,e1,e2,hl,g2]
  · have hpl : pl < n:=by omega
    have er : restB n tb h pl = putT (rb2 n tb h pl) pl pl (ent (rb2 n tb h pl) pl pl + 1):=by unfold restB; rw [if_neg q]
    have e3:=raised_ok z2 hn hpl hp 1 st
    rw [<- er] at e3
    have g3 : fin st (tabV (restB n tb h pl)) st = .ok (tabV (restB n tb h pl)) st:=fin_good (by simp [good,tabV,rowV])
    have q' : ((pl : Int) == (n : Int)) = false:=by rw [beq_eq_false_iff_ne]; omega
    have q2 : ¬ (pl : Int) = (n : Int):=by omega
    clear er z1 z2
    generalize tabV (restB n tb h pl) = T3 at *
    generalize tabV (rb2 n tb h pl) = T2 at *
    generalize tabV (putT tb h h (ent tb h h + (-1))) = T1 at *
    generalize tabV tb = T at *
    simp -implicitDefEqProofs [F_rest_behind,callF,m_rest_behind,e1,e2,e3,hl,q',q,g3]
def opRow (n : Nat) (tb : List (List Int)) (h : Nat) : List (Nat × Nat):=if madeF tb h = true then ((List.range (n + 1)).filter fun pl=>decide (pl ≠ h) && decide (0 < ent tb h pl)).map fun pl=>(h,pl) else []
def openU (n : Nat) (tb : List (List Int)) : Nat -> List (Nat × Nat)
  | 0=>[]
  | k + 1=>openU n tb k ++ opRow n tb k
def plV (z : Nat × Nat) : PV:=.tup [.int z.1,.int z.2]
theorem opRow_len (n : Nat) (tb : List (List Int)) (h : Nat) : (opRow n tb h).length <= n + 1:=by
  unfold opRow
  split
  · rw [List.length_map]
    exact Nat.le_trans (List.length_filter_le _ _) (by rw [List.length_range]; exact Nat.le_refl _)
  · simp
theorem openU_len (n : Nat) (tb : List (List Int)) : ∀ k,(openU n tb k).length <= k * (n + 1)
  | 0=>by simp [openU]
  | k + 1=>by
    have:=openU_len n tb k
    have:=opRow_len n tb k
    rw [openU,List.length_append,Nat.succ_mul]; omega
theorem openU_mem {n : Nat} {tb : List (List Int)} {z : Nat × Nat} : ∀ {k : Nat},k <= n -> (z ∈ openU n tb k <-> z.1 < k /\ Op n tb z.1 z.2)
  | 0,_=>by simp [openU]
  | k + 1,hk=>by
    rw [openU,List.mem_append,openU_mem (by omega)]
    constructor
    · rintro (⟨a,b⟩ | a)
      · exact ⟨by omega,b⟩
      · unfold opRow at a
        split at a
        · rename_i m
          obtain ⟨pl,hpl,rfl⟩:=List.mem_map.mp a
          obtain ⟨h1,h2⟩:=List.mem_filter.mp hpl
          simp at h2
          have:=List.mem_range.mp h1
          exact ⟨by show k < k + 1; omega,⟨by show k < n; omega,by show pl <= n; omega,h2.1,made_ent m,h2.2⟩⟩
        · cases a
    · rintro ⟨a,b⟩
      by_cases e : z.1 < k
      · exact .inl ⟨e,b⟩
      · right
        have e : z.1 = k:=by omega
        have hd:=b.d
        rw [e] at hd
        unfold opRow
        rw [if_pos (show madeF tb k = true by unfold madeF; simp [hd])]
        refine List.mem_map.mpr ⟨z.2,List.mem_filter.mpr ⟨List.mem_range.mpr (by have:=b.hp; omega),?_⟩,by rw [<- e]⟩
        have h1:=b.ne
        have h2:=b.o
        rw [e] at h1 h2
        simp [h1,h2]
theorem open_turn {n h : Nat} {tb : List (List Int)} (z : Sz n tb) (hn : n <= 8) (hh : h < n) {os : List (Nat × Nat)} (hl : os.length <= 100) {st : Store} {p : Nat} (hp : st[p]? = some (.lst (os.map plV))) :
    b_open_places_1 [some (tabV tb),some (.ref p),some (.int h),some (rowV (tb.getD h []))] st = .nx [some (tabV tb),some (.ref p),some (.int h),some (rowV (tb.getD h []))] (st.set p (.lst ((os ++ opRow n tb h).map plV))):=by
  have e1:=made_ok z hh st
  cases hm : madeF tb h with
  | false=>
    rw [hm] at e1
    have er : opRow n tb h = []:=by unfold opRow; rw [if_neg (by rw [hm]; exact Bool.false_ne_true)]
    have es : st.set p (.lst (os.map plV)) = st:=by
      refine List.ext_getElem? fun i=>?_
      by_cases q : p = i
      · subst q; rw [List.getElem?_set_self (List.getElem?_eq_some_iff.mp hp).1,hp]
      · rw [List.getElem?_set_ne q]
    rw [er,List.append_nil,es]
    generalize tabV tb = T at *
    generalize rowV (tb.getD h []) = r at *
    simp -implicitDefEqProofs [b_open_places_1,e1]
  | true=>
    rw [hm] at e1
    have er : opRow n tb h = ((List.range (n + 1)).filter fun pl=>decide (pl ≠ h) && decide (0 < ent tb h pl)).map fun pl=>(h,pl):=by unfold opRow; rw [if_pos hm]
    have hc : compG (gaName 0) t_open_places_1 e_open_places_1 [] (capG [none,some 2,some 3] [some (tabV tb),some (.ref p),some (.int h),some (rowV (tb.getD h []))]) (rangeI 0 (n + 1)) st = .ok ((opRow n tb h).map plV) st:=by
      rw [rangeI0,er,List.map_map]
      refine compG_onF (fun k : Nat=>PV.int (k : Int)) _ (fun pl=>decide (pl ≠ h) && decide (0 < ent tb h pl)) (by simp) fun pl hpl=>⟨_,rfl,?_,fun _=>?_⟩
      · have hpl':=List.mem_range.mp hpl
        have c:=(cell_ix z hh (show pl <= n by omega) st).2
        generalize tabV tb = T at *
        generalize rowV (tb.getD h []) = r at *
        by_cases e : pl = h
        · subst e; simp [capG,t_open_places_1]
        · have : ((pl : Int) == (h : Int)) = false:=by rw [beq_eq_false_iff_ne]; omega
          simp [capG,t_open_places_1,this,e,c]
      · generalize tabV tb = T at *
        generalize rowV (tb.getD h []) = r at *
        simp [capG,e_open_places_1,plV,lim_eq]
    have hlr : cLen st [rowV (tb.getD h [])] = .ok (.int ((n : Int) + 1)) st:=by
      have:=(z.row hh).2
      generalize tb.getD h [] = r at *
      unfold rowV
      simp [this]
    have hll : (os.map plV).length + ((opRow n tb h).map plV).length <= 1000000:=by
      have:=opRow_len n tb h
      rw [List.length_map,List.length_map]; omega
    have hmm : (os ++ opRow n tb h).map plV = os.map plV ++ (opRow n tb h).map plV:=List.map_append
    have hr : -1000000 <= (n : Int) + 1 /\ (n : Int) + 1 <= 1000000:=by omega
    have ht : ((n : Int) + 1).toNat = n + 1:=by omega
    rw [hmm]
    clear er
    generalize tabV tb = T at *
    generalize rowV (tb.getD h []) = r at *
    generalize os.map plV = ov at *
    generalize (opRow n tb h).map plV = rv at *
    simp -implicitDefEqProofs [b_open_places_1,e1,hlr,lim_eq,hr,ht,hc,mtExtend,chg,hp,hll,-cLen_r]
theorem open_ok {n : Nat} {tb : List (List Int)} (z : Sz n tb) (hn : n <= 8) (st : Store) : F_open_places [tabV tb] st = .ok (.lst ((openU n tb n).map plV)) st:=by
  obtain ⟨Γ',S',e,b2,b3,rfl,hS,hpre⟩:=forG_inv (g:=fun k : Nat=>PV.tup [.int k,rowV (tb.getD k [])]) (xs:=List.range n) (ga:=gaTup (gaCons (gaName 2) (gaCons (gaName 3) gaNil))) (body:=b_open_places_1) (w:=[]) (Γ:=[some (tabV tb),some (.ref st.length),none,none]) (st:=st ++ [.lst []])
    (fun i Γ st'=>∃ b2 b3 : Option PV,Γ = [some (tabV tb),some (.ref st.length),b2,b3] /\ st'[st.length]? = some (.lst ((openU n tb i).map plV)) /\ st' = st ++ [.lst ((openU n tb i).map plV)])
    (fun _ _ _ _=>by simp)
    (fun i x Γ st' hx ⟨b2,b3,g1,g2,g3⟩=>by
      subst g1
      have hin : i < n:=by simpa using (List.getElem?_eq_some_iff.mp hx).1
      have hxi : x = i:=by
        rw [List.getElem?_range hin] at hx
        exact (Option.some.inj hx).symm
      subst hxi
      have hl:=openU_len n tb x
      have hb : x * (n + 1) <= 8 * 9:=Nat.mul_le_mul (by omega) (by omega)
      have e:=open_turn z hn hin (by omega) g2
      refine ⟨_,rfl,_,_,e,_,_,rfl,?_,?_⟩
      · rw [List.getElem?_set_self (List.getElem?_eq_some_iff.mp g2).1]; rfl
      · rw [g3]
        show _ = st ++ [Cell.lst ((openU n tb (x + 1)).map plV)]
        rw [List.set_append_right _ _ (Nat.le_refl _),Nat.sub_self]; rfl)
    ⟨_,_,rfl,by simp [openU],rfl⟩
  rw [List.length_range] at hS hpre
  have en : enumT 0 (tb.map rowV) = (List.range n).map fun k : Nat=>PV.tup [.int k,rowV (tb.getD k [])]:=by
    rw [enumT_map,zipIdx_map tb [],z.1]
  have hl : (tb.map rowV).length <= 1000000:=by rw [List.length_map,z.1]; omega
  have hfin : fin st (.ref st.length) S' = .ok (.lst ((openU n tb n).map plV)) st:=by
    have hp : st <+: S':=by rw [hpre]; exact List.prefix_append _ _
    have hg : good 12 (.lst ((openU n tb n).map plV)) = true:=by simp [good,plV]
    have hz:=fz_good (n:=st.length) (st:=S') (k:=16) hg (by decide)
    unfold fin
    rw [if_pos hp,fz,if_neg (by omega),hS]
    rw [fz] at hz
    show okO st ((fzL st.length S' 15 ((openU n tb n).map plV)).map PV.lst) = _
    rw [hz]
    rfl
  rw [<- en] at e
  unfold tabV at *
  generalize tb.map rowV = T at *
  clear hpre hS en
  simp -implicitDefEqProofs [F_open_places,callF,m_open_places,hl,lim_eq,e,hfin]
theorem Ca.of_reach {n : Nat} {tb : List (List Int)} (nn : ∀ h,h < n -> 0 <= rightsF tb h) (r : reachF n tb = true) : Ca n tb:=by
  refine ⟨nn,fun h hh hb=>?_⟩
  unfold reachF at r
  have:=List.all_eq_true.mp r h (List.mem_range.mpr hh)
  rw [hb,Bool.not_true,Bool.or_false] at this
  exact (known_rc n tb hh).mp this
theorem Ca.reach {n : Nat} {tb : List (List Int)} (c : Ca n tb) : reachF n tb = true:=by
  have:=c.comes
  unfold comesB at this
  exact (Bool.and_eq_true _ _ ▸ this).2
def NP (n : Nat) (tb : List (List Int)) (v : PV) : Prop:=(v = .non /\ ∀ g,g < n -> busyF tb g = false) \/ ∃ h pl,v = plV (h,pl) /\ Op n tb h pl /\ Ca n (restB n tb h pl)
theorem next_ok {n : Nat} {tb : List (List Int)} (w : Wt' n tb) (c : Ca n tb) (st : Store) : ∃ v,NP n tb v /\ F_next_place [tabV tb] st = .ok v st:=by
  have h8:=w.n8
  have e1:=open_ok w.sz h8 st
  have key:=forG_first (g:=plV) (J:=fun Γ=>∃ a b : Option PV,Γ = [some (tabV tb),a,b]) (Pd:=fun z=>!reachF n (restB n tb z.1 z.2)) (v:=plV) (ga:=gaTup (gaCons (gaName 1) (gaCons (gaName 2) gaNil))) (body:=b_next_place_1) (w:=[]) (st:=st) (by simp) (xs:=openU n tb n)
    (fun z hz Γ ⟨a,b,g⟩=>by
      subst g
      obtain ⟨_,o⟩:=(openU_mem (Nat.le_refl n)).mp hz
      have e2:=rest_ok w.sz (by omega) o.hh o.hp st
      obtain ⟨us,ul,uz,e3⟩:=rootless_houses_okF (rb_sz w.sz o.hh o.hp) (by omega) st
      have hlen : (us.map intV).length = us.length:=List.length_map _
      refine ⟨[some (tabV tb),some (.int z.1),some (.int z.2)],rfl,fun hr=>⟨[some (tabV tb),some (.int z.1),some (.int z.2)],⟨_,_,rfl⟩,?_⟩,fun hr=>?_⟩
      · have hne : us ≠ []:=fun q=>by rw [uz.mp q] at hr; cases hr
        have hpos : 0 < us.length:=List.length_pos_iff.mpr hne
        have hz0 : ¬ us.length = 0:=by omega
        clear uz hr
        generalize us.map intV = uv at *
        generalize tabV (restB n tb z.1 z.2) = T2 at *
        generalize tabV tb = T at *
        generalize us.length = l at *
        simp -implicitDefEqProofs [b_next_place_1,e2,e3,hlen,hz0]
      · have hnil : us = []:=uz.mpr (by cases q : reachF n (restB n tb z.1 z.2) with
          | true=>rfl
          | false=>rw [q] at hr; cases hr)
        subst hnil
        clear uz hr
        unfold plV
        generalize tabV (restB n tb z.1 z.2) = T2 at *
        generalize tabV tb = T at *
        simp -implicitDefEqProofs [b_next_place_1,e2,e3,lim_eq])
    [some (tabV tb),none,none] ⟨_,_,rfl⟩
  obtain ⟨k1,k2⟩:=key
  have hol : ((openU n tb n).map plV).length <= 1000000:=by
    have:=openU_len n tb n
    have : n * (n + 1) <= 8 * 9:=Nat.mul_le_mul h8 (by omega)
    rw [List.length_map]; omega
  cases ha : (openU n tb n).all fun z=>!reachF n (restB n tb z.1 z.2) with
  | true=>
    obtain ⟨Γ',⟨a,b,rfl⟩,e⟩:=k1 ha
    have hnb : ∀ g,g < n -> busyF tb g = false:=fun g hg=>by
      cases hb : busyF tb g with
      | false=>rfl
      | true=>
        obtain ⟨h,pl,o,c'⟩:=ex_step w c ⟨g,hg,hb⟩
        have:=List.all_eq_true.mp ha (h,pl) ((openU_mem (Nat.le_refl n)).mpr ⟨o.hh,o⟩)
        rw [c'.reach] at this
        cases this
    refine ⟨.non,.inl ⟨rfl,hnb⟩,?_⟩
    clear k1 k2 ha hnb
    generalize (openU n tb n).map plV = ov at *
    generalize tabV tb = T at *
    simp -implicitDefEqProofs [F_next_place,callF,m_next_place,e1,hol,lim_eq,e]
  | false=>
    obtain ⟨z,hz,hr,e⟩:=k2 ha
    obtain ⟨_,o⟩:=(openU_mem (Nat.le_refl n)).mp hz
    have hr : reachF n (restB n tb z.1 z.2) = true:=by simpa using hr
    refine ⟨plV z,.inr ⟨z.1,z.2,rfl,o,Ca.of_reach (fun g hg=>by rw [rb_rights w.sz o.hh o.hp o.ne hg]; exact c.nn g hg) hr⟩,?_⟩
    have hf : fin st (plV z) st = .ok (plV z) st:=fin_good (by simp [good,plV])
    clear k1 k2 ha hz
    generalize plV z = pv at *
    generalize (openU n tb n).map plV = ov at *
    generalize tabV tb = T at *
    simp -implicitDefEqProofs [F_next_place,callF,m_next_place,e1,hol,lim_eq,e,hf]
theorem oMul_lst (st : Store) (xs : List PV) (b : Int) : oMul st (.lst xs) (.int b) = if -(2 ^ 63) <= b /\ b < 2 ^ 63 /\ xs.length * b.toNat <= lim then .ok (.lst (List.replicate b.toNat xs).flatten) st else .stuck:=rfl
theorem reps (x : PV) : ∀ j : Nat,(List.replicate j [x]).flatten = List.replicate j x
  | 0=>rfl
  | j + 1=>by rw [List.replicate_succ,List.flatten_cons,reps x j,List.replicate_succ]; rfl
def offF (n : Nat) (tb : List (List Int)) : Int:=(upto n fun g=>upto n fun a=>ent tb a g) - stockF n tb
theorem upto2_delta (n x y : Nat) (k : Int) : (upto n fun g=>upto n fun a=>if a = x /\ g = y then k else 0) = if x < n /\ y < n then k else 0:=by
  rw [upto_congr (g:=fun g=>if g = y then (if x < n then k else 0) else 0) fun g _=>by
    by_cases e : g = y
    · rw [if_pos e,<- upto_delta n x k]; exact upto_congr fun a _=>by simp [e]
    · rw [if_neg e,upto_congr (g:=fun _=>0) fun a _=>by simp [e],upto_zero],upto_delta]
  by_cases a : x < n <;> by_cases b : y < n <;> simp [a,b]
theorem off_step {n h pl : Nat} {tb : List (List Int)} (w : Wt' n tb) (o : Op n tb h pl) : offF n (restB n tb h pl) = offF n tb - 1:=by
  have hs : stockF n (restB n tb h pl) = stockF n tb:=by
    rw [<- rights_sum (rb_sz w.sz o.hh o.hp),<- rights_sum w.sz]
    exact upto_congr fun g hg=>rb_rights w.sz o.hh o.hp o.ne hg
  unfold offF
  rw [hs,upto_congr (g:=fun g=>(upto n fun a=>ent tb a g) - (upto n fun a=>if a = h /\ g = h then 1 else 0) - (upto n fun a=>if a = h /\ g = pl then 1 else 0) + (upto n fun a=>if a = pl /\ g = pl then (if pl < n then 1 else 0) else 0)) fun g hg=>by
    rw [<- upto_sub,<- upto_sub,<- upto_add]
    exact upto_congr fun a _=>by
      rw [rb_ent w.sz o.hh o.hp o.ne]
      by_cases q : a = pl /\ g = pl <;> by_cases r : pl < n <;> simp [q,r],upto_add,upto_sub,upto_sub,upto2_delta,upto2_delta,upto2_delta,if_pos ⟨o.hh,o.hh⟩]
  have:=o.hh
  by_cases r : pl < n
  · rw [if_pos ⟨o.hh,r⟩,if_pos ⟨r,r⟩,if_pos r]; omega
  · rw [if_neg (fun q=>r q.2),if_neg (fun q=>r q.2)]; omega
theorem off_row {n : Nat} {tb : List (List Int)} (w : Wt' n tb) : offF n tb = upto n fun g=>(tb.getD g []).sum - ent tb g g:=by
  unfold offF
  rw [<- rights_sum w.sz,<- upto_sub]
  refine upto_congr fun g hg=>?_
  unfold rightsF
  rw [w.len]; omega
theorem row_nn {n g : Nat} {tb : List (List Int)} (w : Wt' n tb) (hg : g < n) : 0 <= (tb.getD g []).sum - ent tb g g:=by
  have h1:=rightsF_eq w.sz hg
  unfold rightsF at h1
  rw [w.len] at h1
  have h2 : ent tb g g <= upto n (fun j=>ent tb g j):=upto_le (fun j hj=>w.ent_nn hg (Nat.le_of_lt hj)) hg
  have h3:=w.ent_nn hg (Nat.le_refl n)
  omega
theorem off_nn {n : Nat} {tb : List (List Int)} (w : Wt' n tb) : 0 <= offF n tb:=by
  rw [off_row w]
  exact upto_nonneg fun g hg=>row_nn w hg
theorem off_zero {n : Nat} {tb : List (List Int)} (w : Wt' n tb) (h : ∀ g,g < n -> busyF tb g = false) : offF n tb = 0:=by
  rw [off_row w,upto_congr (g:=fun _=>0) fun g hg=>by
    have h1:=h g hg
    unfold busyF at h1
    rw [decide_eq_false_iff_not] at h1
    have:=row_nn w hg
    omega,upto_zero]
def stV (n : Nat) (z : Nat × Nat) : PV:=if z.2 = n then .tup [.str "use",.int z.1,.int 1] else .tup [.str "lend",.int z.1,.int z.2,.int 1]
inductive Pth (n : Nat) : List (List Int) -> List (Nat × Nat) -> Prop
  | nil {tb : List (List Int)} : (∀ g,g < n -> busyF tb g = false) -> Pth n tb []
  | cons {tb : List (List Int)} {h pl : Nat} {ps : List (Nat × Nat)} : Op n tb h pl -> Pth n (restB n tb h pl) ps -> Pth n tb ((h,pl) :: ps)
theorem step_at_ok {n h pl : Nat} {tb : List (List Int)} (z : Sz n tb) (st : Store) : F_step_at [tabV tb,.int h,.int pl] st = .ok (stV n (h,pl)) st:=by
  have hl : cLen st [tabV tb] = .ok (.int n) st:=by unfold tabV; simp [z.1]
  unfold stV
  by_cases q : pl = n
  · rw [if_pos q]
    have g : fin st (.tup [.str "use",.int h,.int 1]) st = .ok (.tup [.str "use",.int h,.int 1]) st:=fin_good (by simp [good])
    subst q
    generalize tabV tb = T at *
    simp -implicitDefEqProofs [F_step_at,callF,m_step_at,hl,lim_eq,g]
  · rw [if_neg q]
    have g : fin st (.tup [.str "lend",.int h,.int pl,.int 1]) st = .ok (.tup [.str "lend",.int h,.int pl,.int 1]) st:=fin_good (by simp [good])
    have q' : ((pl : Int) == (n : Int)) = false:=by rw [beq_eq_false_iff_ne]; omega
    generalize tabV tb = T at *
    simp -implicitDefEqProofs [F_step_at,callF,m_step_at,hl,lim_eq,q',q,g]
theorem steps_while {n p : Nat} {T b2 b3 : Option PV} : ∀ (m fuel : Nat) (tb : List (List Int)) (told : List PV) (st : Store) (v : PV),Wt' n tb -> Ca n tb -> NP n tb v -> offF n tb = m -> m + 1 <= fuel -> st[p]? = some (.lst told) -> told.length + m <= 1000 ->
    ∃ (ps : List (Nat × Nat)) (tb' : List (List Int)) (v' : PV),Pth n tb ps /\ ps.length = m /\ whileG w_steps_2 b_steps_2 fuel [T,some (.ref p),b2,b3,some (tabV tb),some v] st = .nx [T,some (.ref p),b2,b3,some (tabV tb'),some v'] (st.set p (.lst (told ++ ps.map (stV n))))
  | m,0,_,_,_,_,_,_,_,_,h,_,_=>absurd h (by omega)
  | m,fuel + 1,tb,told,st,v,w,c,np,hm,hf,hp,hl=>by
    rcases np with ⟨rfl,hb⟩ | ⟨h,pl,rfl,o,c'⟩
    · have h0:=off_zero w hb
      have m0 : m = 0:=by omega
      subst m0
      refine ⟨[],tb,.non,.nil hb,rfl,?_⟩
      have es : st.set p (.lst (told ++ ([] : List (Nat × Nat)).map (stV n))) = st:=by
        rw [List.map_nil,List.append_nil]
        refine List.ext_getElem? fun i=>?_
        by_cases q : p = i
        · subst q; rw [List.getElem?_set_self (List.getElem?_eq_some_iff.mp hp).1,hp]
        · rw [List.getElem?_set_ne q]
      have w1 : w_steps_2 [T,some (.ref p),b2,b3,some (tabV tb),some .non] st = .ok false st:=by
        generalize tabV tb = TT at *
        simp [w_steps_2,isNon]
      rw [es,whileG,w1]
      rfl
    · have hs:=off_step w o
      have hn:=off_nn (rb_wt w o)
      cases m with
      | zero=>omega
      | succ m=>
        have e1:=step_at_ok (h:=h) (pl:=pl) w.sz st
        obtain ⟨x,hx⟩ : ∃ x,stV n (h,pl) = x:=⟨_,rfl⟩
        rw [hx] at e1
        obtain ⟨S2,hS2⟩ : ∃ S2,st.set p (.lst (told ++ [x])) = S2:=⟨_,rfl⟩
        have e2:=rest_ok w.sz (by have:=w.n8; omega) o.hh o.hp S2
        obtain ⟨v2,np2,e3⟩:=next_ok (rb_wt w o) c' S2
        have hp2 : S2[p]? = some (.lst (told ++ [x])):=by rw [<- hS2,List.getElem?_set_self (List.getElem?_eq_some_iff.mp hp).1]
        obtain ⟨ps,tb',v',h1,h2,h3⟩:=steps_while (T:=T) (b2:=b2) (b3:=b3) m fuel (restB n tb h pl) (told ++ [x]) S2 v2 (rb_wt w o) c' np2 (by omega) (by omega) hp2 (by rw [List.length_append]; simp; omega)
        refine ⟨(h,pl) :: ps,tb',v',.cons o h1,by rw [List.length_cons,h2],?_⟩
        have w1 : w_steps_2 [T,some (.ref p),b2,b3,some (tabV tb),some (plV (h,pl))] st = .ok true st:=by
          unfold plV
          generalize tabV tb = TT at *
          simp [w_steps_2,isNon]
        have a0 : ∀ S : Store,oIx S (plV (h,pl)) (.int 0) = .ok (.int h) S:=fun S=>rfl
        have a1 : ∀ S : Store,oIx S (plV (h,pl)) (.int 1) = .ok (.int pl) S:=fun S=>rfl
        have hl' : told.length < 1000000:=by omega
        have eb : b_steps_2 [T,some (.ref p),b2,b3,some (tabV tb),some (plV (h,pl))] st = .nx [T,some (.ref p),b2,b3,some (tabV (restB n tb h pl)),some v2] S2:=by
          clear h3 w1 np2
          generalize tabV (restB n tb h pl) = T2 at *
          generalize tabV tb = TT at *
          generalize plV (h,pl) = pv at *
          simp -implicitDefEqProofs [b_steps_2,e1,e2,e3,a0,a1,hp,mtAppend,chg,hl',lim_eq,hS2]
        rw [whileG,w1]
        simp only [sbind_ok,if_true,eb]
        rw [h3,<- hS2,List.set_set,List.map_cons,hx,List.append_assoc]
        rfl
theorem does_ok {n : Nat} {tb : List (List Int)} (w : Wt' n tb) (st : Store) : F_does_come_about [tabV tb] st = .ok (.bl (comesB n tb)) st:=by
  have h8:=w.n8
  obtain ⟨s,v,e,hs⟩:=comes_okF w.sz (by omega) st
  have ht:=is_table_ok w st
  rw [<- hs]
  generalize tabV tb = T at *
  simp -implicitDefEqProofs [F_does_come_about,callF,m_does_come_about,ht,e,atI,ixN]
theorem need_comes_ok {n : Nat} {tb : List (List Int)} (w : Wt' n tb) (c : Ca n tb) (st : Store) : F_need_comes_about [tabV tb] st = .ok .non st:=by
  have e:=does_ok w st
  rw [c.comes] at e
  generalize tabV tb = T at *
  simp -implicitDefEqProofs [F_need_comes_about,callF,m_need_comes_about,e]
theorem map_getD14 {α β : Type} (l : List α) (d : α) (f : α -> β) : l.map f = (List.range l.length).map fun i=>f (l.getD i d):=by
  refine List.ext_getElem? fun i=>?_
  rw [List.getElem?_map,List.getElem?_map]
  by_cases h : i < l.length
  · rw [List.getElem?_range h,List.getElem?_eq_getElem h]
    simp [List.getD,List.getElem?_eq_getElem h]
  · rw [List.getElem?_eq_none (by omega),List.getElem?_eq_none (by rw [List.length_range]; omega)]; rfl
def totF (n : Nat) (tb : List (List Int)) : Int:=upto n fun g=>(tb.getD g []).sum
theorem tot_sum {n : Nat} {tb : List (List Int)} (z : Sz n tb) : (tb.map List.sum).sum = totF n tb:=by
  rw [map_getD14 tb [] List.sum,z.1]; rfl
theorem tot_ok {n : Nat} {tb : List (List Int)} (z : Sz n tb) (hn : n <= 8) (me : ME) (hme : me = (mCall (cInts fun ns=>some (.int ns.sum)) (mCons (mVar 0) mNil))) (Γ : Gam) (st : Store) : compG (gaName 0) mTrue me [] (capG [none] Γ) (tb.map rowV) st = .ok ((tb.map List.sum).map .int) st:=by
  subst hme
  rw [List.map_map]
  refine compG_on _ _ (by simp) fun r hr=>⟨_,rfl,?_⟩
  have hl : (r.map PV.int).length <= 1000000:=by rw [List.length_map,z.2 r hr]; omega
  unfold rowV
  simp [capG]
theorem make_turn {n h : Nat} {tb : List (List Int)} (w : Wt' n tb) (hh : h < n) (hd : ent tb h h <= 300) {told : List PV} (hl : told.length <= 1000) {st : Store} {p : Nat} (hp : st[p]? = some (.lst told)) (b4 b5 : Option PV) :
    b_steps_1 [some (tabV tb),some (.ref p),some (.int h),some (rowV (tb.getD h [])),b4,b5] st = .nx [some (tabV tb),some (.ref p),some (.int h),some (rowV (tb.getD h [])),b4,b5] (st.set p (.lst (told ++ List.replicate (ent tb h h).toNat (.tup [.str "make",.int h,.int 1])))):=by
  have c:=(cell_ix w.sz hh (Nat.le_of_lt hh) st).2
  have h0:=w.ent_nn hh (Nat.le_of_lt hh)
  have e1 : oMul st (.lst [.tup [.str "make",.int h,.int 1]]) (.int (ent tb h h)) = .ok (.lst (List.replicate (ent tb h h).toNat (.tup [.str "make",.int h,.int 1]))) st:=by
    rw [oMul_lst,if_pos ⟨by omega,by omega,by rw [lim_eq]; simp; omega⟩,reps]
  have hll : told.length + (List.replicate (ent tb h h).toNat (PV.tup [.str "make",.int h,.int 1])).length <= 1000000:=by rw [List.length_replicate]; omega
  generalize List.replicate (ent tb h h).toNat (PV.tup [.str "make",.int h,.int 1]) = mk at *
  generalize ent tb h h = d at *
  generalize tabV tb = T at *
  generalize rowV (tb.getD h []) = r at *
  simp -implicitDefEqProofs [b_steps_1,c,lim_eq,e1,mtExtend,chg,hp,hll,-oIx_r]
theorem tot_off {n : Nat} {tb : List (List Int)} (w : Wt' n tb) : totF n tb = upto n (fun g=>ent tb g g) + offF n tb:=by
  rw [off_row w,<- upto_add]
  exact upto_congr fun g _=>by omega
def mkV (h : Nat) : PV:=.tup [.str "make",.int h,.int 1]
def mkU (tb : List (List Int)) : Nat -> List PV
  | 0=>[]
  | i + 1=>mkU tb i ++ List.replicate (ent tb i i).toNat (mkV i)
theorem mkU_len {n : Nat} {tb : List (List Int)} (hdn : ∀ g,g < n -> 0 <= ent tb g g) : ∀ i,i <= n -> ((mkU tb i).length : Int) = upto i (fun g=>ent tb g g)
  | 0,_=>by simp [mkU,upto]
  | i + 1,h=>by
    have:=mkU_len hdn i (by omega)
    have h2:=hdn i (by omega)
    rw [mkU,List.length_append,List.length_replicate,upto_succ]
    push_cast
    omega
theorem upto_mono {n : Nat} {f : Nat -> Int} (hf : ∀ g,g < n -> 0 <= f g) : ∀ m x,x <= m -> m <= n -> upto x f <= upto m f:=fun m x hm=>by
  induction hm with
  | refl=>intro _; exact Int.le_refl _
  | @step m hm ih=>intro h2; rw [upto_succ]; have:=ih (by omega); have:=hf m (by omega); omega
theorem steps_ok {n : Nat} {tb : List (List Int)} (w : Wt' n tb) (c : Ca n tb) (ht : totF n tb <= 300) (st : Store) : ∃ ps : List (Nat × Nat),Pth n tb ps /\ (mkU tb n ++ ps.map (stV n)).length <= 300 /\ F_steps [tabV tb] st = .ok (.ref st.length) (st ++ [.lst (mkU tb n ++ ps.map (stV n))]):=by
  have h8:=w.n8
  have e0:=need_comes_ok w c st
  have hoff:=off_nn w
  have hto:=tot_off w
  have hdn : ∀ g,g < n -> 0 <= ent tb g g:=fun g hg=>w.ent_nn hg (Nat.le_of_lt hg)
  have hd : ∀ g,g < n -> ent tb g g <= 300:=fun g hg=>by
    have:=upto_le (f:=fun g=>ent tb g g) hdn hg
    have : ent tb g g <= upto n (fun g=>ent tb g g):=this
    omega
  have e1:=tot_ok w.sz h8 e_steps_1 rfl
  have et:=tot_sum w.sz
  obtain ⟨Γ',S1,e2,b2,b3,rfl,rfl⟩:=forG_inv (g:=fun k : Nat=>PV.tup [.int k,rowV (tb.getD k [])]) (xs:=List.range n) (ga:=gaTup (gaCons (gaName 2) (gaCons (gaName 3) gaNil))) (body:=b_steps_1) (w:=[]) (Γ:=[some (tabV tb),some (.ref st.length),none,none,none,none]) (st:=st ++ [.lst []])
    (fun i Γ st'=>∃ (b2 b3 : Option PV),Γ = [some (tabV tb),some (.ref st.length),b2,b3,none,none] /\ st' = st ++ [.lst (mkU tb i)])
    (fun _ _ _ _=>by simp)
    (fun i x Γ st' hx ⟨b2,b3,g1,g4⟩=>by
      subst g1; subst g4
      have hin : i < n:=by simpa using (List.getElem?_eq_some_iff.mp hx).1
      have hxi : x = i:=by
        rw [List.getElem?_range hin] at hx
        exact (Option.some.inj hx).symm
      subst hxi
      have hle:=upto_mono hdn n x (Nat.le_of_lt hin) (Nat.le_refl n)
      have hll:=mkU_len hdn x (Nat.le_of_lt hin)
      have e:=make_turn w hin (hd x hin) (told:=mkU tb x) (by omega) (st:=st ++ [.lst (mkU tb x)]) (p:=st.length) (by simp) none none
      refine ⟨_,rfl,_,_,e,_,_,rfl,?_⟩
      rw [List.set_append_right _ _ (Nat.le_refl _),Nat.sub_self]; rfl)
    ⟨_,_,rfl,rfl⟩
  rw [List.length_range] at e2
  have hl:=mkU_len hdn n (Nat.le_refl n)
  obtain ⟨v,np,e3⟩:=next_ok w c (st ++ [.lst (mkU tb n)])
  obtain ⟨m,hm⟩ : ∃ m : Nat,offF n tb = m:=⟨(offF n tb).toNat,by omega⟩
  obtain ⟨ps,tb',v',l',g',e4⟩:=steps_while (T:=some (tabV tb)) (b2:=b2) (b3:=b3) (p:=st.length) m 100000 tb (mkU tb n) (st ++ [.lst (mkU tb n)]) v w c np hm (by omega) (by simp) (by omega)
  refine ⟨ps,l',by rw [List.length_append,List.length_map]; omega,?_⟩
  have es : (st ++ [Cell.lst (mkU tb n)]).set st.length (.lst (mkU tb n ++ ps.map (stV n))) = st ++ [.lst (mkU tb n ++ ps.map (stV n))]:=by rw [List.set_append_right _ _ (Nat.le_refl _),Nat.sub_self]; rfl
  rw [es] at e4
  have en : enumT 0 (tb.map rowV) = (List.range n).map fun k : Nat=>PV.tup [.int k,rowV (tb.getD k [])]:=by
    rw [enumT_map,zipIdx_map tb [],w.len]
  have hlr : (tb.map rowV).length <= 1000000:=by rw [List.length_map,w.len]; omega
  have ht' : ¬ (300 < totF n tb):=by omega
  rw [<- en] at e2
  generalize tabV tb' = Tq at *
  unfold tabV at *
  generalize hsums : tb.map List.sum = ss at *
  generalize totF n tb = tt at *
  generalize tb.map rowV = T at *
  generalize st ++ [Cell.lst (mkU tb n ++ ps.map (stV n))] = S3 at *
  generalize st ++ [Cell.lst (mkU tb n)] = S2 at *
  simp -implicitDefEqProofs [F_steps,callK,m_steps,e0,hlr,lim_eq,e1,et,ht',e2,e3,e4]
abbrev Sp2:=Nat × Option Nat
def spV (n : Nat) (x : Sp2) : PV:=match x.2 with
  | none=>mkV x.1
  | some pl=>stV n (x.1,pl)
def okV (n : Nat) (x : Sp2) : Prop:=x.1 < n /\ ∀ pl,x.2 = some pl -> pl <= n /\ pl ≠ x.1
def stR (R : List (List Int)) (x : Sp2) : List (List Int):=putT R x.1 (x.2.getD x.1) (ent R x.1 (x.2.getD x.1) + 1)
def bump (H : Nat -> Int) (a : Nat) (k : Int) : Nat -> Int:=fun b=>if b = a then H b + k else H b
def stH (n : Nat) (H : Nat -> Int) (x : Sp2) : Nat -> Int:=match x.2 with
  | none=>bump H x.1 1
  | some pl=>if pl = n then bump H x.1 (-1) else bump (bump H x.1 (-1)) pl 1
def okS (n : Nat) (H : Nat -> Int) (x : Sp2) : Prop:=okV n x /\ (x.2 ≠ none -> 1 <= H x.1)
def OkL (n : Nat) : (Nat -> Int) -> List Sp2 -> Prop
  | _,[]=>True
  | H,x :: xs=>okS n H x /\ OkL n (stH n H x) xs
def mkL (tb : List (List Int)) : Nat -> List Sp2
  | 0=>[]
  | i + 1=>mkL tb i ++ List.replicate (ent tb i i).toNat (i,none)
theorem mkL_V (n : Nat) (tb : List (List Int)) : ∀ i,(mkL tb i).map (spV n) = mkU tb i
  | 0=>rfl
  | i + 1=>by
    rw [mkL,mkU,List.map_append,mkL_V n tb i,List.map_replicate]; rfl
theorem okl_app {n : Nat} : ∀ (xs ys : List Sp2) (H : Nat -> Int),OkL n H (xs ++ ys) <-> OkL n H xs /\ OkL n (xs.foldl (stH n) H) ys
  | [],ys,H=>by simp [OkL]
  | x :: xs,ys,H=>by
    show okS n H x /\ OkL n (stH n H x) (xs ++ ys) <-> _
    rw [okl_app xs ys]
    show _ <-> (okS n H x /\ OkL n (stH n H x) xs) /\ _
    rw [and_assoc]; rfl
theorem mk_ok {n : Nat} : ∀ (xs : List Sp2),(∀ x ∈ xs,x.2 = none /\ x.1 < n) -> ∀ (H : Nat -> Int),OkL n H xs
  | [],_,_=>trivial
  | x :: xs,h,H=>⟨⟨⟨(h x List.mem_cons_self).2,fun pl e=>by rw [(h x List.mem_cons_self).1] at e; cases e⟩,fun z=>absurd (h x List.mem_cons_self).1 z⟩,mk_ok xs (fun y hy=>h y (List.mem_cons_of_mem _ hy)) _⟩
def cntM (xs : List Sp2) (a : Nat) : Int:=(xs.countP fun x=>decide (x.1 = a) : Nat)
theorem mk_fold {n : Nat} : ∀ (xs : List Sp2),(∀ x ∈ xs,x.2 = none /\ x.1 < n) -> ∀ (R : List (List Int)) (H : Nat -> Int),Sz n R ->
    Sz n (xs.foldl stR R) /\ (∀ a b,ent (xs.foldl stR R) a b = ent R a b + if a = b then cntM xs a else 0) /\ ∀ a,xs.foldl (stH n) H a = H a + cntM xs a
  | [],_,R,H,z=>⟨z,fun a b=>by simp [cntM],fun a=>by simp [cntM]⟩
  | x :: xs,h,R,H,z=>by
    obtain ⟨x1,x2⟩:=x
    obtain ⟨e,hx⟩:=h _ List.mem_cons_self
    have e : x2 = none:=e
    subst e
    have hx : x1 < n:=hx
    have z1 : Sz n (stR R (x1,none)):=putT_sz z hx _
    obtain ⟨i1,i2,i3⟩:=mk_fold xs (fun y hy=>h y (List.mem_cons_of_mem _ hy)) (stR R (x1,none)) (stH n H (x1,none)) z1
    have hc : ∀ a,cntM ((x1,none) :: xs) a = cntM xs a + if x1 = a then 1 else 0:=fun a=>by
      unfold cntM
      rw [List.countP_cons]
      by_cases q : x1 = a <;> simp [q]
    refine ⟨i1,fun a b=>?_,fun a=>?_⟩
    · show ent (xs.foldl stR (stR R (x1,none))) a b = _
      rw [i2,hc]
      have : ent (stR R (x1,none)) a b = if a = x1 /\ b = x1 then ent R x1 x1 + 1 else ent R a b:=ent_put z hx (Nat.le_of_lt hx) _ a b
      rw [this]
      by_cases q1 : a = b
      · subst q1
        by_cases q2 : a = x1
        · subst q2; simp; omega
        · have q3 : ¬ (x1 = a):=fun w=>q2 w.symm
          simp [q2,q3]
      · have : ¬ (a = x1 /\ b = x1):=fun w=>q1 (w.1.trans w.2.symm)
        simp [q1,this]
    · show xs.foldl (stH n) (stH n H (x1,none)) a = _
      rw [i3,hc]
      show bump H x1 1 a + cntM xs a = _
      unfold bump
      by_cases q : a = x1
      · subst q; simp; omega
      · have q3 : ¬ (x1 = a):=fun w=>q w.symm
        simp [q,q3]
theorem mkL_mem {tb : List (List Int)} : ∀ i,∀ x ∈ mkL tb i,x.2 = none /\ x.1 < i
  | 0,x,hx=>by cases hx
  | i + 1,x,hx=>by
    rcases List.mem_append.mp hx with hx | hx
    · have:=mkL_mem i x hx; exact ⟨this.1,by omega⟩
    · rw [List.eq_of_mem_replicate hx]; exact ⟨rfl,Nat.lt_succ_self i⟩
theorem mkL_cnt {n : Nat} {tb : List (List Int)} (hdn : ∀ g,g < n -> 0 <= ent tb g g) : ∀ i,i <= n -> ∀ a,cntM (mkL tb i) a = if a < i then ent tb a a else 0
  | 0,_,a=>by simp [mkL,cntM]
  | i + 1,h,a=>by
    have ih:=mkL_cnt hdn i (by omega) a
    have : cntM (mkL tb (i + 1)) a = cntM (mkL tb i) a + if i = a then ((ent tb i i).toNat : Int) else 0:=by
      unfold cntM
      rw [mkL,List.countP_append]
      by_cases q : i = a
      · have : (List.replicate (ent tb i i).toNat ((i,none) : Sp2)).countP (fun x=>decide (x.1 = a)) = (ent tb i i).toNat:=by
          rw [List.countP_eq_length.mpr fun x hx=>by rw [List.eq_of_mem_replicate hx]; simp [q],List.length_replicate]
        rw [this,if_pos q]; push_cast; rfl
      · have : (List.replicate (ent tb i i).toNat ((i,none) : Sp2)).countP (fun x=>decide (x.1 = a)) = 0:=by
          rw [List.countP_eq_zero]
          intro x hx
          rw [List.eq_of_mem_replicate hx]; simp [q]
        rw [this,if_neg q]; simp
    rw [this,ih]
    have hd:=hdn i (by omega)
    by_cases q : i = a
    · subst q
      rw [if_neg (by omega),if_pos rfl,if_pos (by omega)]; omega
    · rw [if_neg q]
      by_cases q2 : a < i
      · rw [if_pos q2,if_pos (by omega)]; omega
      · rw [if_neg q2,if_neg (by omega)]; omega
def psL (ps : List (Nat × Nat)) : List Sp2:=ps.map fun z=>(z.1,some z.2)
theorem psL_V (n : Nat) (ps : List (Nat × Nat)) : (psL ps).map (spV n) = ps.map (stV n):=by
  unfold psL; rw [List.map_map]; rfl
theorem pth_fold {n : Nat} {tb : List (List Int)} {rest : List (List Int)} {ps : List (Nat × Nat)} (P : Pth n rest ps) : Wt' n rest -> ∀ (R : List (List Int)) (H : Nat -> Int),Sz n R -> (∀ a,a < n -> H a = ent rest a a) -> (∀ a b,a < n -> b <= n -> b ≠ a -> ent R a b = ent tb a b - ent rest a b) -> (∀ a,a < n -> ent R a a = ent tb a a) ->
    OkL n H (psL ps) /\ Sz n ((psL ps).foldl stR R) /\ ∀ a b,a < n -> b <= n -> ent ((psL ps).foldl stR R) a b = ent tb a b:=by
  induction P with
  | @nil rest hb=>
    intro w R H z hH hR hD
    refine ⟨trivial,z,fun a b ha hb'=>?_⟩
    show ent R a b = _
    by_cases q : b = a
    · subst q; exact hD b ha
    · rw [hR a b ha hb' q]
      have h1:=hb a ha
      rw [<- busy_eq w ha] at h1
      unfold busyR at h1
      rw [List.any_eq_false] at h1
      have:=h1 b (List.mem_range.mpr (by omega))
      simp only [Bool.and_eq_true,decide_eq_true_eq,not_and] at this
      have h2:=this q
      have h3:=w.ent_nn ha hb'
      omega
  | @cons rest h pl ps o _ ih=>
    intro w R H z hH hR hD
    have hh:=o.hh
    have hp:=o.hp
    have hne:=o.ne
    have re:=fun a b=>rb_ent w.sz hh hp hne a b
    have z1 : Sz n (stR R (h,some pl)):=putT_sz z hh _
    have e1 : ∀ a b,ent (stR R (h,some pl)) a b = if a = h /\ b = pl then ent R h pl + 1 else ent R a b:=fun a b=>ent_put z hh hp _ a b
    obtain ⟨i1,i2,i3⟩:=ih (rb_wt w o) (stR R (h,some pl)) (stH n H (h,some pl)) z1 (fun a ha=>by
      rw [re a a]
      show (if pl = n then bump H h (-1) else bump (bump H h (-1)) pl 1) a = _
      by_cases q : pl = n
      · rw [if_pos q]
        unfold bump
        by_cases q2 : a = h
        · subst q2; rw [if_pos rfl,hH a ha,if_pos ⟨rfl,rfl⟩,if_neg (fun w=>hne w.2.symm),if_neg (fun w=>by omega)]; omega
        · rw [if_neg q2,hH a ha,if_neg (fun w=>q2 w.1),if_neg (fun w=>q2 w.1),if_neg (fun w=>by omega)]; omega
      · rw [if_neg q]
        unfold bump
        by_cases q2 : a = h
        · subst q2
          rw [if_neg (fun w=>hne w.symm),if_pos rfl,hH a ha,if_pos ⟨rfl,rfl⟩,if_neg (fun w=>hne w.2.symm),if_neg (fun w=>hne w.2.1.symm)]; omega
        · by_cases q3 : a = pl
          · subst q3
            rw [if_pos rfl,if_neg q2,hH a ha,if_neg (fun w=>q2 w.1),if_neg (fun w=>q2 w.1),if_pos ⟨by omega,rfl,rfl⟩]; omega
          · rw [if_neg q3,if_neg q2,hH a ha,if_neg (fun w=>q2 w.1),if_neg (fun w=>q2 w.1),if_neg (fun w=>q3 w.2.1)]; omega)
      (fun a b ha hb q=>by
        rw [e1,re a b]
        by_cases q1 : a = h /\ b = pl
        · obtain ⟨rfl,rfl⟩:=q1
          rw [if_pos ⟨rfl,rfl⟩,hR a b ha hb q,if_neg (fun w=>q w.2),if_pos ⟨rfl,rfl⟩,if_neg (fun w=>q (w.2.2.trans w.2.1.symm))]; omega
        · rw [if_neg q1,hR a b ha hb q,if_neg (fun w=>q (w.2.trans w.1.symm)),if_neg q1,if_neg (fun w=>q (w.2.2.trans w.2.1.symm))]; omega)
      (fun a ha=>by
        rw [e1,if_neg (fun w=>hne (w.2.symm.trans w.1)),hD a ha])
    refine ⟨⟨⟨⟨hh,fun pl' e=>?_⟩,fun _=>?_⟩,i1⟩,i2,i3⟩
    · have : pl = pl':=Option.some.inj e
      subst this
      exact ⟨hp,hne⟩
    · show 1 <= H h
      rw [hH h hh]; have:=o.d; omega
theorem all_ok {n : Nat} {tb : List (List Int)} (w : Wt' n tb) {ps : List (Nat × Nat)} (P : Pth n tb ps) : OkL n (fun _=>0) (mkL tb n ++ psL ps) /\ (mkL tb n ++ psL ps).foldl stR (List.replicate n (zRow n)) = tb:=by
  have w0:=zTab_wt w.n1 w.n8
  have hdn : ∀ g,g < n -> 0 <= ent tb g g:=fun g hg=>w.ent_nn hg (Nat.le_of_lt hg)
  obtain ⟨i1,i2,i3⟩:=mk_fold (mkL tb n) (mkL_mem n) (List.replicate n (zRow n)) (fun _=>0) w0.sz
  have hc:=mkL_cnt hdn n (Nat.le_refl n)
  have hz : ∀ a b,ent (List.replicate n (zRow n)) a b = 0:=fun a b=>by
    unfold ent
    by_cases ha : a < n
    · have e : (List.replicate n (zRow n)).getD a [] = zRow n:=by simp [List.getD,ha]
      rw [e]
      by_cases hb : b < n + 1
      · simp [zRow,List.getD,List.getElem?_replicate,hb]
      · simp [zRow,List.getD,List.getElem?_replicate,hb]
    · have e : (List.replicate n (zRow n)).getD a [] = []:=by simp [List.getD,ha]
      rw [e]; rfl
  obtain ⟨j1,j2,j3⟩:=pth_fold (tb:=tb) P w ((mkL tb n).foldl stR (List.replicate n (zRow n))) ((mkL tb n).foldl (stH n) fun _=>0) i1
    (fun a ha=>by rw [i3,hc,if_pos ha]; omega)
    (fun a b ha hb q=>by rw [i2,hz,if_neg (fun z=>q z.symm)]; omega)
    (fun a ha=>by rw [i2,hz,if_pos rfl,hc,if_pos ha]; omega)
  refine ⟨(okl_app _ _ _).mpr ⟨mk_ok _ (mkL_mem n) _,j1⟩,?_⟩
  rw [List.foldl_append]
  exact tab_ext j2 w.sz j3
inductive RT (n : Nat) (tb : List (List Int)) : List (List Int) -> Prop
  | bare : RT n tb (List.replicate n (zRow n))
  | more {R : List (List Int)} {i j : Nat} (r : RT n tb R) (hi : i < n) (hj : j <= n) (hl : ent R i j < ent tb i j) (hr : j = i \/ 0 < rightsF R i) : RT n tb (putT R i j (ent R i j + 1))
theorem ent_bare (n a b : Nat) : ent (List.replicate n (zRow n)) a b = 0:=by
  unfold ent
  by_cases ha : a < n
  · have e : (List.replicate n (zRow n)).getD a [] = zRow n:=by simp [List.getD,ha]
    rw [e]
    by_cases hb : b < n + 1
    · simp [zRow,List.getD,List.getElem?_replicate,hb]
    · simp [zRow,List.getD,List.getElem?_replicate,hb]
  · have e : (List.replicate n (zRow n)).getD a [] = []:=by simp [List.getD,ha]
    rw [e]; rfl
theorem put1_wt {n i j : Nat} {R : List (List Int)} (w : Wt' n R) (hi : i < n) (hj : j <= n) : Wt' n (putT R i j (ent R i j + 1)):=
  Wt'.of_ent (putT_sz w.sz hi _) w.n1 w.n8 fun a b ha hb=>by
    rw [ent_put w.sz hi hj]
    split
    · have:=w.ent_nn hi hj; omega
    · exact w.ent_nn ha hb
theorem RT.ok {n : Nat} {tb R : List (List Int)} (w : Wt' n tb) (r : RT n tb R) : Wt' n R /\ Ca n R /\ ∀ i j,i < n -> j <= n -> ent R i j <= ent tb i j:=by
  induction r with
  | bare=>exact ⟨zTab_wt w.n1 w.n8,Ca.zero w.n1 w.n8 (zTab_wt w.n1 w.n8),fun i j hi hj=>by rw [ent_bare]; exact w.ent_nn hi hj⟩
  | @more R i j r hi hj hl hr ih=>
    obtain ⟨w1,c1,l1⟩:=ih
    have w2:=put1_wt w1 hi hj
    refine ⟨w2,?_,fun a b ha hb=>?_⟩
    · by_cases q : j = i
      · subst q
        exact c1.make w1 hi (by omega) w2
      · have hr : 0 < rightsF R i:=by rcases hr with h | h; exact absurd h q; exact h
        exact c1.give w1 hi hj q (by omega) (by omega) (by omega) w2
    · rw [ent_put w1.sz hi hj]
      split
      · rename_i h; rw [h.1,h.2]; omega
      · exact l1 a b ha hb
theorem rights_st {n : Nat} {R : List (List Int)} (z : Sz n R) {x : Sp2} (o : okV n x) {g : Nat} (hg : g < n) : rightsF (stR R x) g = stH n (rightsF R) x g:=by
  obtain ⟨a,p⟩:=x
  cases p with
  | none=>
    show rightsF (putT R a a (ent R a a + 1)) g = bump (rightsF R) a 1 g
    rw [rights_put z o.1 (Nat.le_of_lt o.1) 1 hg]
    unfold bump
    by_cases q : g = a <;> simp [q]
  | some pl=>
    obtain ⟨h1,h2⟩:=o.2 pl rfl
    have o1 : a < n:=o.1
    show rightsF (putT R a pl (ent R a pl + 1)) g = (if pl = n then bump (rightsF R) a (-1) else bump (bump (rightsF R) a (-1)) pl 1) g
    have h2 : pl ≠ a:=h2
    rw [rights_put z o1 h1 1 hg]
    unfold bump
    by_cases q : pl = n
    · rw [if_pos q]
      by_cases q1 : g = a
      · subst q1
        have : ¬ g = pl:=by omega
        simp [this,h2]; omega
      · have : ¬ g = pl:=by omega
        simp [q1,this]
    · rw [if_neg q]
      by_cases q1 : g = a
      · subst q1
        have : ¬ g = pl:=fun e=>h2 e.symm
        simp [this,h2]; omega
      · by_cases q2 : g = pl
        · subst q2
          simp [q1]
        · simp [q1,q2]
theorem st_le {n : Nat} {R : List (List Int)} (z : Sz n R) {x : Sp2} (o : okV n x) (a b : Nat) : Sz n (stR R x) /\ ent R a b <= ent (stR R x) a b:=by
  obtain ⟨h,p⟩:=x
  have o1 : h < n:=o.1
  have hp : p.getD h <= n:=by
    cases p with
    | none=>exact Nat.le_of_lt o1
    | some pl=>exact (o.2 pl rfl).1
  refine ⟨putT_sz z o1 _,?_⟩
  show _ <= ent (putT R h (p.getD h) (ent R h (p.getD h) + 1)) a b
  rw [ent_put z o1 hp]
  split
  · rename_i e; rw [e.1,e.2]; omega
  · exact Int.le_refl _
theorem okl_le {n : Nat} : ∀ (xs : List Sp2) (H : Nat -> Int) (R : List (List Int)),OkL n H xs -> Sz n R -> ∀ a b,ent R a b <= ent (xs.foldl stR R) a b
  | [],_,_,_,_,_,_=>Int.le_refl _
  | x :: xs,H,R,⟨h1,h2⟩,z,a,b=>Int.le_trans (st_le z h1.1 a b).2 (okl_le xs (stH n H x) (stR R x) h2 (st_le z h1.1 a b).1 a b)
theorem okl_rt {n : Nat} {tb : List (List Int)} (w : Wt' n tb) : ∀ (xs : List Sp2) (H : Nat -> Int) (R : List (List Int)),OkL n H xs -> RT n tb R -> (∀ g,g < n -> H g = rightsF R g) -> (∀ a b,a < n -> b <= n -> ent (xs.foldl stR R) a b <= ent tb a b) -> ∀ k,k <= xs.length -> RT n tb ((xs.take k).foldl stR R)
  | [],_,R,_,r,_,_,k,_=>by simpa using r
  | x :: xs,H,R,⟨h1,h2⟩,r,hH,hle,k,hk=>by
    cases k with
    | zero=>simpa using r
    | succ k=>
      obtain ⟨wR,_,_⟩:=r.ok w
      have o1 : x.1 < n:=h1.1.1
      have hp : x.2.getD x.1 <= n:=by
        cases e : x.2 with
        | none=>exact Nat.le_of_lt o1
        | some pl=>exact (h1.1.2 pl e).1
      have z1:=(st_le wR.sz h1.1 0 0).1
      have e0 : ent (stR R x) x.1 (x.2.getD x.1) = ent R x.1 (x.2.getD x.1) + 1:=by
        show ent (putT R x.1 (x.2.getD x.1) (ent R x.1 (x.2.getD x.1) + 1)) _ _ = _
        rw [ent_put wR.sz o1 hp,if_pos ⟨rfl,rfl⟩]
      have r1 : RT n tb (stR R x):=by
        refine .more r o1 hp ?_ ?_
        · have h3:=okl_le xs (stH n H x) (stR R x) h2 z1 x.1 (x.2.getD x.1)
          have h4:=hle x.1 (x.2.getD x.1) o1 hp
          have h5 : ent (xs.foldl stR (stR R x)) x.1 (x.2.getD x.1) <= ent tb x.1 (x.2.getD x.1):=h4
          omega
        · cases e : x.2 with
          | none=>exact .inl rfl
          | some pl=>
            have:=h1.2 (by rw [e]; simp)
            rw [hH x.1 o1] at this
            exact .inr (by omega)
      rw [List.take_succ_cons]
      exact okl_rt w xs (stH n H x) (stR R x) h2 r1 (fun g hg=>by
        rw [rights_st wR.sz h1.1 hg]
        obtain ⟨a,p⟩:=x
        cases p with
        | none=>
          show bump H a 1 g = bump (rightsF R) a 1 g
          unfold bump; rw [hH g hg]
        | some pl=>
          show (if pl = n then bump H a (-1) else bump (bump H a (-1)) pl 1) g = (if pl = n then bump (rightsF R) a (-1) else bump (bump (rightsF R) a (-1)) pl 1) g
          split <;> (unfold bump; rw [hH g hg])) hle k (by simpa using hk)
theorem rights_bare {n g : Nat} (hg : g < n) : rightsF (List.replicate n (zRow n)) g = 0:=by
  have z : Sz n (List.replicate n (zRow n)):=⟨by simp,fun r hr=>by rw [List.eq_of_mem_replicate hr]; simp [zRow]⟩
  rw [rightsF_eq z hg]
  have e : ∀ f : Nat -> Int,(∀ a,f a = 0) -> upto n f = 0:=fun f hf=>by
    unfold upto
    have key : ∀ l : List Nat,(l.map f).sum = 0:=fun l=>by
      induction l with
      | nil=>rfl
      | cons a l ih=>rw [List.map_cons,List.sum_cons,ih,hf a]; rfl
    exact key _
  rw [e _ fun a=>ent_bare n a g,e _ fun a=>ent_bare n g a,ent_bare,ent_bare]
  rfl
theorem steps_rt {n : Nat} {tb : List (List Int)} (w : Wt' n tb) {ps : List (Nat × Nat)} (P : Pth n tb ps) (k : Nat) (hk : k <= (mkL tb n ++ psL ps).length) : RT n tb (((mkL tb n ++ psL ps).take k).foldl stR (List.replicate n (zRow n))):=by
  obtain ⟨h1,h2⟩:=all_ok w P
  refine okl_rt w _ (fun _=>0) _ h1 .bare (fun g hg=>(rights_bare hg).symm) (fun a b ha hb=>?_) k hk
  rw [h2]; exact Int.le_refl _
theorem Wt'.set0 {n i j : Nat} {tb : List (List Int)} (w : Wt' n tb) (hi : i < n) {x : Int} (hx : 0 <= x) : Wt' n (tb.set i ((tb.getD i []).set j x)):=by
  have hr:=(w.sz.row hi).1
  have hm:=List.mem_of_getElem? hr
  generalize tb.getD i [] = r at *
  refine ⟨by rw [List.length_set]; exact w.len,fun q hq=>?_,fun q hq y hy=>?_,w.n1,w.n8⟩
  · rcases List.mem_or_eq_of_mem_set hq with hq | rfl
    · exact w.row q hq
    · rw [List.length_set]; exact w.row r hm
  · rcases List.mem_or_eq_of_mem_set hq with hq | rfl
    · exact w.nn q hq y hy
    · rcases List.mem_or_eq_of_mem_set hy with hy | rfl
      · exact w.nn r hm y hy
      · exact hx
structure RowsAt (n : Nat) (S : Store) (p q : Nat) (tb : List (List Int)) : Prop where
  l : S[p]? = some (.lst ((List.range n).map fun k=>PV.ref (q + k)))
  r : ∀ k,k < n -> S[q + k]? = some (.lst ((tb.getD k []).map .int))
  d : p < q \/ q + n <= p
theorem RowsAt.ix {n p q i : Nat} {S : Store} {tb : List (List Int)} (R : RowsAt n S p q tb) (hi : i < n) : oIx S (.ref p) (.int i) = .ok (.ref (q + i)) S:=by
  have : ListAt S (.ref p) _:=.inr (.inr ⟨_,rfl,R.l⟩)
  rw [this.ix,Sm.atI_get (show ((List.range n).map fun k=>PV.ref (q + k))[i]? = some (.ref (q + i)) by rw [List.getElem?_map,List.getElem?_range hi]; rfl)]
  rfl
theorem RowsAt.cell {n p q i j : Nat} {S : Store} {tb : List (List Int)} (R : RowsAt n S p q tb) (z : Sz n tb) (hi : i < n) (hj : j <= n) : oIx S (.ref (q + i)) (.int j) = .ok (.int (ent tb i j)) S:=by
  have : ListAt S (.ref (q + i)) _:=.inr (.inr ⟨_,rfl,R.r i hi⟩)
  rw [this.ix,atI_map,Sm.atI_get (z.cell hi hj)]; rfl
theorem put_okE {n p q i j : Nat} {S : Store} {tb : List (List Int)} (R : RowsAt n S p q tb) (w : Wt' n tb) {x : Int} (hx : 0 <= x) (hi : i < n) (hj : j <= n) (mo mi mj mv : ME) (Γ : Gam) (hv : mv Γ S = .ok (.int x) S) (ho : mo Γ S = .ok (.ref p) S) (hmi : mi Γ S = .ok (.int i) S) (hmj : mj Γ S = .ok (.int j) S) :
    ∃ S',RowsAt n S' p q (tb.set i ((tb.getD i []).set j x)) /\ Wt' n (tb.set i ((tb.getD i []).set j x)) /\ (∀ t,(t < q \/ q + n <= t) -> S'[t]? = S[t]?) /\ mSetIx (mOp oIx mo mi) mj mv Γ S = .nx Γ S':=by
  have hl:=(w.sz.row hi).2
  have hr:=R.r i hi
  have hil:=(List.getElem?_eq_some_iff.mp hr).1
  refine ⟨S.set (q + i) (.lst (((tb.getD i []).set j x).map .int)),⟨?_,fun k hk=>?_,R.d⟩,w.set0 hi hx,fun t ht=>?_,?_⟩
  · rw [List.getElem?_set_ne (by have:=R.d; omega)]
    exact R.l
  · by_cases e : k = i
    · subst e
      have hkl : k < tb.length:=by rw [w.len]; exact hk
      generalize (tb.getD k []).set j x = row
      rw [List.getElem?_set_self hil,List.getD,List.getElem?_set_self hkl]; rfl
    · rw [List.getElem?_set_ne (by omega),R.r k hk,List.getD,List.getD,List.getElem?_set_ne (fun z=>e z.symm)]
  · rw [List.getElem?_set_ne (by omega)]
  · have x1:=R.ix hi
    have x2 : setIx S (.ref (q + i)) (.int j) (.int x) = some (S.set (q + i) (.lst (((tb.getD i []).set j x).map .int))):=by
      unfold setIx
      simp only [hr,List.length_map,ixN_nat (show j < (tb.getD i []).length by omega),Option.map_some]
      rw [List.map_set]
    generalize S.set (q + i) (.lst (((tb.getD i []).set j x).map .int)) = S2 at *
    simp -implicitDefEqProofs [hv,ho,hmi,x1,hmj,x2,-setIx_r]
theorem rows_mk13 {n : Nat} {S cells : Store} {tb : List (List Int)} (hl : cells.length = n) (hc : ∀ k,k < n -> cells[k]? = some (.lst ((tb.getD k []).map .int))) : RowsAt n (S ++ cells ++ [.lst ((List.range n).map fun k=>PV.ref (S.length + k))]) (S.length + n) S.length tb:=by
  refine ⟨?_,fun k hk=>?_,by omega⟩
  · rw [List.getElem?_append_right (by rw [List.length_append]; omega)]
    rw [List.length_append,hl,Nat.sub_self]; rfl
  · rw [List.getElem?_append_left (by rw [List.length_append]; omega),List.getElem?_append_right (by omega),Nat.add_sub_cancel_left]
    exact hc k hk
theorem trows13 (tb : List (List Int)) (Γ : Gam) (S : Store) : compG (gaName 0) mTrue e__law_b_one_more_1 [] (capG [none] Γ) (tb.map rowV) S = .ok ((List.range tb.length).map fun k=>.ref (S.length + k)) (S ++ tb.map fun r=>Cell.lst (r.map .int)):=by
  obtain ⟨out,st',e,rfl,rfl⟩:=compG_inv (g:=rowV) (xs:=tb) (ga:=gaName 0) (me:=e__law_b_one_more_1) (w:=[]) (Γ0:=capG [none] Γ) (st:=S)
    (fun i out st'=>out = (List.range i).map (fun k=>PV.ref (S.length + k)) /\ st' = S ++ (tb.take i).map fun r=>Cell.lst (r.map .int))
    (fun i out st' _=>by simp)
    (fun i r out st' hr ⟨e1,e2⟩=>by
      subst e1; subst e2
      have hil:=(List.getElem?_eq_some_iff.mp hr).1
      have hlen : (S ++ (tb.take i).map fun r=>Cell.lst (r.map .int)).length = S.length + i:=by
        rw [List.length_append,List.length_map,List.length_take,Nat.min_eq_left (by omega)]
      have e3 : tb.take (i + 1) = tb.take i ++ [r]:=by
        rw [List.take_add_one,hr]; rfl
      refine ⟨_,rfl,.ref (S.length + i),S ++ (tb.take (i + 1)).map fun r=>Cell.lst (r.map .int),?_,?_,rfl⟩
      · rw [e3,List.map_append,<- List.append_assoc,<- hlen]
        generalize S ++ (tb.take i).map (fun r=>Cell.lst (r.map .int)) = T
        simp -implicitDefEqProofs [capG,e__law_b_one_more_1,rowV]
      · rw [List.range_succ,List.map_append]; rfl)
    ⟨rfl,by simp⟩
  rw [e,List.take_length]
theorem tups13 {n p q : Nat} {S : Store} {tb : List (List Int)} (me : ME) (hme : me = (mCall cTuple (mCons (mVar 0) mNil))) (R : RowsAt n S p q tb) (w : Wt' n tb) {wt : Wt} (hw : wOk wt S) (Γ : Gam) : compG (gaName 0) mTrue me wt (capG [none] Γ) ((List.range n).map fun k=>PV.ref (q + k)) S = .ok (tb.map rowV) S:=by
  have e : tb.map rowV = (List.range n).map fun k=>rowV (tb.getD k []):=by
    apply List.ext_getElem?
    intro i
    by_cases h : i < n
    · have:=(w.sz.row h).1
      rw [List.getElem?_map,List.getElem?_map,List.getElem?_range h,this]; rfl
    · rw [List.getElem?_eq_none (by rw [List.length_map,w.len]; omega),List.getElem?_eq_none (by simp; omega)]
  rw [e]
  refine compG_on (fun k : Nat=>PV.ref (q + k)) (fun k=>rowV (tb.getD k [])) hw fun k hk=>⟨_,rfl,?_⟩
  have hk : k < n:=List.mem_range.mp hk
  have hc:=R.r k hk
  subst hme
  have h8:=w.n8
  have hl:=(w.sz.row hk).2
  have hlen : ((tb.getD k []).map PV.int).length <= 1000000:=by rw [List.length_map,hl]; omega
  unfold rowV
  generalize (tb.getD k []).map PV.int = rv at *
  simp -implicitDefEqProofs [capG,hc,hlen,lim_eq]
theorem more_ok {n i j : Nat} {tb : List (List Int)} (w : Wt' n tb) (hi : i < n) (hj : j <= n) (st : Store) : F__law_b_one_more [tabV tb,.int i,.int j] st = .ok (tabV (putT tb i j (ent tb i j + 1))) st:=by
  have h8:=w.n8
  have ht:=trows13 tb [some (tabV tb),some (.int i),some (.int j),none] st
  have hcl : (tb.map fun r=>Cell.lst (r.map .int)).length = n:=by rw [List.length_map,w.len]
  have R:=rows_mk13 (S:=st) (cells:=tb.map fun r=>Cell.lst (r.map .int)) (tb:=tb) (n:=n) hcl (fun i hi=>by rw [List.getElem?_map,(w.sz.row hi).1]; rfl)
  rw [w.len] at ht
  obtain ⟨S0,hS0⟩ : ∃ S0,st ++ (tb.map fun r=>Cell.lst (r.map .int)) ++ [.lst ((List.range n).map fun k=>PV.ref (st.length + k))] = S0:=⟨_,rfl⟩
  rw [hS0] at R
  have c1:=R.ix hi
  have c2:=R.cell w.sz hi hj
  have hnn:=w.ent_nn hi hj
  obtain ⟨S2,R2,w2,f2,e2⟩:=put_okE R w (x:=ent tb i j + 1) (by omega) hi hj (mVar 3) (mVar 1) (mVar 2) (mOp oAdd (mOp oIx (mOp oIx (mVar 3) (mVar 1)) (mVar 2)) (mC (.int 1))) [some (tabV tb),some (.int i),some (.int j),some (.ref (st.length + n))] (by
    generalize tabV tb = T at *
    simp -implicitDefEqProofs [c1,c2,-oIx_r]) rfl rfl rfl
  have pf : st <+: S2:=by
    have hl0 : st.length <= S2.length:=by
      have:=(List.getElem?_eq_some_iff.mp R2.l).1
      omega
    refine ⟨S2.drop st.length,?_⟩
    conv=>rhs; rw [<- List.take_append_drop st.length S2]
    congr 1
    apply List.ext_getElem?
    intro t
    by_cases h : t < st.length
    · rw [List.getElem?_take_of_lt h,f2 t (.inl h),<- hS0,List.append_assoc,List.getElem?_append_left h]
    · rw [List.getElem?_eq_none (by omega),List.getElem?_eq_none (by rw [List.length_take]; omega)]
  obtain ⟨mr,hm⟩:=pf
  have e4 : fin st (tabV (putT tb i j (ent tb i j + 1))) S2 = .ok (tabV (putT tb i j (ent tb i j + 1))) st:=by rw [<- hm]; exact fin_goodA (by simp [good,tabV,rowV])
  have hsrc : srcOf st (tabV tb) = some (tb.map rowV,[]):=rfl
  have hll : (tb.map rowV).length <= 1000000:=by rw [List.length_map,w.len]; omega
  have hl2 : ListAt S2 (.ref (st.length + n)) ((List.range n).map fun k=>PV.ref (st.length + k)):=.inr (.inr ⟨_,rfl,R2.l⟩)
  obtain ⟨wt,hs2,hw2⟩ : ∃ wt,srcOf S2 (.ref (st.length + n)) = some (((List.range n).map fun k=>PV.ref (st.length + k)),wt) /\ wOk wt S2:=hl2.src
  have hl3 : ((List.range n).map fun k=>PV.ref (st.length + k)).length <= 1000000:=by simp; omega
  have e3:=tups13 e__law_b_one_more_2 rfl R2 w2 hw2 [some (tabV tb),some (.int i),some (.int j),some (.ref (st.length + n))]
  have ep : tb.set i ((tb.getD i []).set j (ent tb i j + 1)) = putT tb i j (ent tb i j + 1):=rfl
  rw [ep] at e3
  have hl4 : ((putT tb i j (ent tb i j + 1)).map rowV).length <= 1000000:=by rw [List.length_map,<- ep,w2.len]; omega
  have et : tabV (putT tb i j (ent tb i j + 1)) = .tup ((putT tb i j (ent tb i j + 1)).map rowV):=rfl
  rw [et] at e4 ⊢
  rw [List.append_assoc] at hS0
  generalize (tb.map fun r=>Cell.lst (r.map .int)) = cells at *
  generalize ((List.range n).map fun k=>PV.ref (st.length + k)) = refs at *
  generalize tb.map rowV = tv at *
  generalize (putT tb i j (ent tb i j + 1)).map rowV = T' at *
  generalize tabV tb = T at *
  have s1 : mSet 3 (mTrk (mCompN [none] (gaName 0) (mSeq (mVar 0)) mTrue e__law_b_one_more_1)) [some T,some (.int i),some (.int j),none] st = .nx [some T,some (.int i),some (.int j),some (.ref (st.length + n))] S0:=by
    simp -implicitDefEqProofs [hsrc,hll,lim_eq,ht,hcl,hS0,-srcOf_r]
  have step : m__law_b_one_more [some T,some (.int i),some (.int j),none] st = .rt (.tup T') S2:=by
    unfold m__law_b_one_more
    rw [mSeqS_eq,s1]
    show mSeqS _ _ _ _ = _
    rw [mSeqS_eq,e2]
    show mRet _ _ _ = _
    simp -implicitDefEqProofs [hs2,hl3,lim_eq,e3,hl4,-srcOf_r]
  show callF m__law_b_one_more 4 _ st = _
  unfold callF
  rw [show (([T,.int i,.int j] : List PV).map some ++ List.replicate (4 - [T,.int i,.int j].length) none) = [some T,some (.int i),some (.int j),none] from rfl,step]
  exact e4
def tabK (R : List (List Int)) : HK:=.tup (R.map fun r=>.tup (r.map .int))
theorem mapO_map {α : Type} {f : PV -> Option HK} {g : α -> PV} {h : α -> HK} (e : ∀ x,f (g x) = some (h x)) : ∀ xs : List α,mapO f (xs.map g) = some (xs.map h)
  | []=>rfl
  | x :: xs=>by rw [List.map_cons,mapO,e x,mapO_map e xs]; rfl
theorem keyN_tab (R : List (List Int)) : keyN (tabV R) = some (tabK R):=by
  have h1 : ∀ r : List Int,hkOf 4 (rowV r) = some (.tup (r.map .int)):=fun r=>by
    show (mapO (hkOf 3) (r.map PV.int)).map HK.tup = _
    rw [mapO_map (h:=HK.int) fun x=>rfl]; rfl
  show (mapO (hkOf 4) (R.map rowV)).map HK.tup = _
  rw [mapO_map (h:=fun r=>HK.tup (r.map .int)) h1]; rfl
theorem tabK_inj {A B : List (List Int)} (h : tabK A = tabK B) : A = B:=by
  have h:=HK.tup.inj h
  have f1 : ∀ a b : List Int,HK.tup (a.map .int) = HK.tup (b.map .int) -> a = b:=fun a b e=>List.map_inj_right (fun x y=>HK.int.inj) |>.mp (HK.tup.inj e)
  exact (List.map_inj_right fun x y=>f1 x y).mp h
def seenV (ks : List (List (List Int))) : List (HK × PV):=ks.map fun R=>(tabK R,.bl true)
theorem seen_has (ks : List (List (List Int))) (R : List (List Int)) : (valT (seenV ks) (tabK R)).isSome = decide (R ∈ ks):=by
  unfold valT seenV
  rw [Option.isSome_map]
  by_cases h : R ∈ ks
  · rw [decide_eq_true h,List.find?_isSome]
    exact ⟨_,List.mem_map.mpr ⟨R,h,rfl⟩,by simp⟩
  · rw [decide_eq_false h]
    cases z : (ks.map fun R=>(tabK R,PV.bl true)).find? fun kv=>decide (kv.1 = tabK R) with
    | none=>rfl
    | some kv=>
      have h1:=List.mem_of_find?_eq_some z
      have h2:=List.find?_some z
      obtain ⟨A,hA,rfl⟩:=List.mem_map.mp h1
      have h2 : tabK A = tabK R:=by simpa using h2
      exact absurd (tabK_inj h2 ▸ hA) h
theorem seen_put {ks : List (List (List Int))} {R : List (List Int)} (h : R ∉ ks) : Sm.putT (seenV ks) (tabK R) (.bl true) = seenV (ks ++ [R]):=by
  have hn : ¬ ((seenV ks).any fun kv=>decide (kv.1 = tabK R)) = true:=fun z=>by
    obtain ⟨kv,h1,h2⟩:=List.any_eq_true.mp z
    obtain ⟨A,hA,rfl⟩:=List.mem_map.mp h1
    have h2 : tabK A = tabK R:=by simpa using h2
    exact h (tabK_inj h2 ▸ hA)
  unfold Sm.putT
  rw [if_neg hn]
  unfold seenV
  rw [List.map_append]; rfl
def subR : List Int -> List (List Int)
  | []=>[[]]
  | t :: ts=>(List.range (t.toNat + 1)).flatMap fun k : Nat=>(subR ts).map fun l=>(k : Int) :: l
def subT : List (List Int) -> List (List (List Int))
  | []=>[[]]
  | r :: rs=>(subR r).flatMap fun a=>(subT rs).map fun l=>a :: l
theorem two_pow (k : Nat) : k + 1 <= 2 ^ k:=by
  induction k with
  | zero=>exact Nat.le_refl _
  | succ k ih=>rw [Nat.pow_succ]; omega
theorem flat_len {α β : Type} (f : α -> List β) (m : Nat) (h : ∀ a,(f a).length = m) : ∀ l : List α,(l.flatMap f).length = l.length * m
  | []=>by simp
  | a :: l=>by rw [List.flatMap_cons,List.length_append,flat_len f m h l,h a,List.length_cons,Nat.succ_mul]; omega
theorem sum_nn13 : ∀ {ts : List Int},(∀ x ∈ ts,0 <= x) -> 0 <= ts.sum
  | [],_=>Int.le_refl _
  | t :: ts,h=>by
    rw [List.sum_cons]
    have:=h t (by simp)
    have:=sum_nn13 (ts:=ts) fun x hx=>h x (List.mem_cons_of_mem _ hx)
    omega
theorem subR_len : ∀ {ts : List Int},(∀ x ∈ ts,0 <= x) -> (subR ts).length <= 2 ^ ts.sum.toNat
  | [],_=>Nat.le_refl _
  | t :: ts,h=>by
    have h0:=h t (by simp)
    have ih:=subR_len (ts:=ts) fun x hx=>h x (List.mem_cons_of_mem _ hx)
    have hs : 0 <= ts.sum:=sum_nn13 fun x hx=>h x (List.mem_cons_of_mem _ hx)
    rw [subR,flat_len _ (subR ts).length (fun a=>by rw [List.length_map]),List.length_range,List.sum_cons,show (t + ts.sum).toNat = t.toNat + ts.sum.toNat by omega,Nat.pow_add]
    exact Nat.mul_le_mul (two_pow _) ih
theorem subT_len : ∀ {tb : List (List Int)},(∀ r ∈ tb,∀ x ∈ r,0 <= x) -> (subT tb).length <= 2 ^ (tb.map List.sum).sum.toNat
  | [],_=>Nat.le_refl _
  | r :: rs,h=>by
    have h0:=h r (by simp)
    have ih:=subT_len (tb:=rs) fun x hx=>h x (List.mem_cons_of_mem _ hx)
    have hs0 : 0 <= r.sum:=sum_nn13 h0
    have hs : 0 <= (rs.map List.sum).sum:=sum_nn13 fun x hx=>by
      obtain ⟨q,hq,rfl⟩:=List.mem_map.mp hx
      exact sum_nn13 (h q (List.mem_cons_of_mem _ hq))
    rw [subT,flat_len _ (subT rs).length (fun a=>by rw [List.length_map]),List.map_cons,List.sum_cons,show (r.sum + (rs.map List.sum).sum).toNat = r.sum.toNat + (rs.map List.sum).sum.toNat by omega,Nat.pow_add]
    exact Nat.mul_le_mul (subR_len h0) ih
theorem subR_mem : ∀ {ts as : List Int},as.length = ts.length -> (∀ j,j < ts.length -> 0 <= as.getD j 0 /\ as.getD j 0 <= ts.getD j 0) -> as ∈ subR ts
  | [],[],_,_=>by simp [subR]
  | t :: ts,a :: as,hl,h=>by
    have h0:=h 0 (by simp)
    have h0 : 0 <= a /\ a <= t:=by simpa using h0
    have ih:=subR_mem (ts:=ts) (as:=as) (by simpa using hl) fun j hj=>by
      have:=h (j + 1) (by simpa using hj)
      simpa using this
    rw [subR,List.mem_flatMap]
    exact ⟨a.toNat,by simp; omega,List.mem_map.mpr ⟨as,ih,by rw [show ((a.toNat : Nat) : Int) = a by omega]⟩⟩
  | [],_ :: _,hl,_=>by simp at hl
  | _ :: _,[],hl,_=>by simp at hl
theorem subT_mem : ∀ {tb R : List (List Int)},R.length = tb.length -> (∀ i,i < tb.length -> R.getD i [] ∈ subR (tb.getD i [])) -> R ∈ subT tb
  | [],[],_,_=>by simp [subT]
  | r :: rs,a :: as,hl,h=>by
    have h0:=h 0 (by simp)
    have ih:=subT_mem (tb:=rs) (R:=as) (by simpa using hl) fun j hj=>by
      have:=h (j + 1) (by simpa using hj)
      simpa using this
    rw [subT,List.mem_flatMap]
    exact ⟨a,by simpa using h0,List.mem_map.mpr ⟨as,ih,rfl⟩⟩
  | [],_ :: _,hl,_=>by simp at hl
  | _ :: _,[],hl,_=>by simp at hl
theorem len_sub {α : Type} : ∀ {l a : List α},l.Nodup -> (∀ x ∈ l,x ∈ a) -> l.length <= a.length
  | [],_,_,_=>Nat.zero_le _
  | x :: l,a,nd,h=>by
    classical
    obtain ⟨h1,h2⟩:=List.nodup_cons.mp nd
    have hx:=h x (by simp)
    have:=len_sub (l:=l) (a:=a.erase x) h2 fun y hy=>(List.mem_erase_of_ne (show y ≠ x from fun e=>h1 (by rw [<- e]; exact hy))).mpr (h y (List.mem_cons_of_mem _ hy))
    rw [List.length_erase_of_mem hx] at this
    have:=List.length_pos_of_mem hx
    rw [List.length_cons]; omega
theorem rt_few {n : Nat} {tb : List (List Int)} (w : Wt' n tb) (h6 : (tb.map List.sum).sum <= 6) {ks : List (List (List Int))} (nd : ks.Nodup) (h : ∀ R ∈ ks,RT n tb R) : ks.length <= 64:=by
  have h1:=len_sub nd (a:=subT tb) fun R hR=>by
    obtain ⟨wR,_,le⟩:=(h R hR).ok w
    refine subT_mem (by rw [wR.len,w.len]) fun i hi=>?_
    rw [w.len] at hi
    refine subR_mem (by rw [(wR.sz.row hi).2,(w.sz.row hi).2]) fun j hj=>?_
    rw [(w.sz.row hi).2] at hj
    exact ⟨wR.ent_nn hi (by omega),le i j hi (by omega)⟩
  have h2:=subT_len w.nn
  have h3 : 2 ^ (tb.map List.sum).sum.toNat <= 2 ^ 6:=Nat.pow_le_pow_right (by decide) (by omega)
  omega
abbrev Tb:=List (List Int)
abbrev bT (n : Nat) : Tb:=List.replicate n (zRow n)
abbrev nx1 (R : Tb) (i j : Nat) : Tb:=putT R i j (ent R i j + 1)
def Cz (n : Nat) (tb : Tb) (ks : List Tb) (R : Tb) : Prop:=∀ i j,i < n -> j <= n -> ent R i j < ent tb i j -> (j = i \/ 0 < rightsF R i) -> nx1 R i j ∈ ks
structure Sx (n : Nat) (tb : Tb) (ks ws : List Tb) (h : Option Tb) : Prop where
  nd : ks.Nodup
  nw : ws.Nodup
  rt : ∀ R ∈ ks,RT n tb R
  wk : ∀ R ∈ ws,R ∈ ks
  b0 : bT n ∈ ks
  hk : ∀ R,h = some R -> R ∈ ks
  cl : ∀ R ∈ ks,R ∉ ws -> h ≠ some R -> Cz n tb ks R
theorem Cz.mono {n : Nat} {tb R : Tb} {ks ks' : List Tb} (c : Cz n tb ks R) (h : ∀ T ∈ ks,T ∈ ks') : Cz n tb ks' R:=fun i j hi hj a b=>h _ (c i j hi hj a b)
theorem Sx.add {n : Nat} {tb R T : Tb} {ks ws : List Tb} (X : Sx n tb ks ws (some R)) (hT : T ∉ ks) (rT : RT n tb T) : Sx n tb (ks ++ [T]) (ws ++ [T]) (some R) where
  nd:=by
    rw [List.nodup_append]
    exact ⟨X.nd,by simp,fun a ha b hb e=>hT (by rw [<- List.mem_singleton.mp hb,<- e]; exact ha)⟩
  nw:=by
    rw [List.nodup_append]
    exact ⟨X.nw,by simp,fun a ha b hb e=>hT (by rw [<- List.mem_singleton.mp hb,<- e]; exact X.wk a ha)⟩
  rt:=fun A hA=>by
    rcases List.mem_append.mp hA with h | h
    · exact X.rt A h
    · rw [List.mem_singleton.mp h]; exact rT
  wk:=fun A hA=>by
    rcases List.mem_append.mp hA with h | h
    · exact List.mem_append_left _ (X.wk A h)
    · exact List.mem_append_right _ h
  b0:=List.mem_append_left _ X.b0
  hk:=fun A hA=>List.mem_append_left _ (X.hk A hA)
  cl:=fun A hA hn hne=>by
    rcases List.mem_append.mp hA with h | h
    · exact (X.cl A h (fun q=>hn (List.mem_append_left _ q)) hne).mono fun T hT=>List.mem_append_left _ hT
    · exact absurd (List.mem_append_right _ h) hn
@[simp] theorem mDPutT_eq (mo mi m : ME) (Γ : Gam) (st : Store) : mDPutT mo mi m Γ st = (m Γ st).sbind fun v st1=>(mo Γ st1).sbind fun p st2=>(mi Γ st2).sbind fun q st3=>match dputT st3 p q v with
  | some st4=>.nx Γ st4
  | none=>.stuck:=rfl
theorem inT_ok {S : Store} {D : Nat} {ks : List Tb} (h : S[D]? = some (.dtp (seenV ks))) (T : Tb) : oInT true S (tabV T) (.ref D) = .ok (.bl (!decide (T ∈ ks))) S:=by
  unfold oInT
  have h1 : dtpOf S (.ref D) = some (seenV ks):=by simp only [dtpOf,h]
  simp only [h1,keyN_tab,seen_has]
  cases decide (T ∈ ks) <;> rfl
theorem putN_ok {S : Store} {D : Nat} {ks : List Tb} (h : S[D]? = some (.dtp (seenV ks))) {T : Tb} (hT : T ∉ ks) (hl : ks.length < 1000) : dputT S (.ref D) (tabV T) (.bl true) = some (S.set D (.dtp (seenV (ks ++ [T])))):=by
  unfold dputT
  have h1 : dtpOf S (.ref D) = some (seenV ks):=by simp only [dtpOf,h]
  have h2 : (seenV ks).length < lim:=by unfold seenV; rw [List.length_map,lim_eq]; omega
  simp only [h1,keyN_tab,if_pos h2,seen_put hT]
abbrev rcΓ (tb : Tb) (n D W : Nat) (h i a j t : Option PV) : Gam:=[some (tabV tb),some (.int n),some (tabV (bT n)),some (.ref D),some (.ref W),h,i,a,j,t]
theorem b3_ok {n i j D W : Nat} {tb R : Tb} {ks ws : List Tb} {S : Store} (w : Wt' n tb) (X : Sx n tb ks ws (some R)) (hD : S[D]? = some (.dtp (seenV ks))) (hW : S[W]? = some (.lst (ws.map tabV))) (hne : D ≠ W) (hl : ks.length <= 500) (hi : i < n) (hj : j <= n) (t : Option PV) :
    ∃ S' ks' ws' t',S'[D]? = some (.dtp (seenV ks')) /\ S'[W]? = some (.lst (ws'.map tabV)) /\ Sx n tb ks' ws' (some R) /\ ks'.length + ws.length = ks.length + ws'.length /\ (∀ T ∈ ks,T ∈ ks') /\ (∀ T ∈ ws,T ∈ ws') /\ (R ∉ ws -> R ∉ ws') /\ (ent R i j < ent tb i j -> (j = i \/ 0 < rightsF R i) -> nx1 R i j ∈ ks') /\ ks'.length <= ks.length + 1 /\
      b__law_b_reached_3 (rcΓ tb n D W (some (tabV R)) (some (.int i)) (some (.int (rightsF R i))) (some (.int j)) t) S = .nx (rcΓ tb n D W (some (tabV R)) (some (.int i)) (some (.int (rightsF R i))) (some (.int j)) t') S':=by
  have hRk:=X.hk R rfl
  have rR:=X.rt R hRk
  obtain ⟨wR,_,_⟩:=rR.ok w
  obtain ⟨r1,r2⟩:=cell_ix wR.sz hi hj S
  obtain ⟨q1,q2⟩:=cell_ix w.sz hi hj S
  have test : (tAndM (toB (mOp oLt (mOp oIx (mOp oIx (mVar 5) (mVar 6)) (mVar 8)) (mOp oIx (mOp oIx (mVar 0) (mVar 6)) (mVar 8)))) (tOrM (toB (mOp oEq (mVar 8) (mVar 6))) (toB (mOp (oI fun a b=>.bl (decide (b < a))) (mVar 7) (mC (.int 0)))))) (rcΓ tb n D W (some (tabV R)) (some (.int i)) (some (.int (rightsF R i))) (some (.int j)) t) S = .ok (decide (ent R i j < ent tb i j /\ (j = i \/ 0 < rightsF R i))) S:=by
    have ej : ((j : Int) = (i : Int)) <-> j = i:=by omega
    unfold rcΓ
    generalize tabV (bT n) = bv at *
    generalize rowV (R.getD i []) = rv at *
    generalize rowV (tb.getD i []) = tv at *
    generalize tabV R = RV at *
    generalize tabV tb = TV at *
    generalize ent R i j = x at *
    generalize ent tb i j = y at *
    generalize rightsF R i = z at *
    by_cases c1 : x < y
    · by_cases c2 : j = i
      · subst c2
        simp -implicitDefEqProofs [r1,r2,q1,q2,c1,-oIx_r]
      · have c2' : ¬ (j : Int) = (i : Int):=fun h=>c2 (ej.mp h)
        by_cases c3 : 0 < z <;> simp -implicitDefEqProofs [r1,r2,q1,q2,c1,c2,c2',c3,-oIx_r]
    · simp -implicitDefEqProofs [r1,r2,q1,q2,c1,-oIx_r]
  by_cases c : ent R i j < ent tb i j /\ (j = i \/ 0 < rightsF R i)
  · rw [decide_eq_true c] at test
    have e1:=more_ok wR hi hj S
    have rT : RT n tb (nx1 R i j):=.more rR hi hj c.1 c.2
    have e2:=inT_ok hD (nx1 R i j)
    by_cases hT : nx1 R i j ∈ ks
    · refine ⟨S,ks,ws,some (tabV (nx1 R i j)),hD,hW,X,rfl,fun _ h=>h,fun _ h=>h,fun h=>h,fun _ _=>hT,by omega,?_⟩
      rw [decide_eq_true hT] at e2
      unfold b__law_b_reached_3
      rw [mIfS_eq,test,sbind_ok,if_pos rfl]
      unfold rcΓ
      generalize tabV (bT n) = bv at *
      generalize tabV (nx1 R i j) = NV at *
      generalize tabV R = RV at *
      generalize tabV tb = TV at *
      generalize rightsF R i = z at *
      simp -implicitDefEqProofs [e1,e2]
    · have e3:=putN_ok hD hT (by omega)
      rw [decide_eq_false hT] at e2
      have hDl : D < S.length:=(List.getElem?_eq_some_iff.mp hD).1
      have hWl : W < S.length:=(List.getElem?_eq_some_iff.mp hW).1
      have hW2 : (S.set D (.dtp (seenV (ks ++ [nx1 R i j]))))[W]? = some (.lst (ws.map tabV)):=by rw [List.getElem?_set_ne hne]; exact hW
      have hwl : ws.length <= ks.length:=len_sub X.nw X.wk
      refine ⟨(S.set D (.dtp (seenV (ks ++ [nx1 R i j])))).set W (.lst ((ws ++ [nx1 R i j]).map tabV)),ks ++ [nx1 R i j],ws ++ [nx1 R i j],some (tabV (nx1 R i j)),?_,?_,X.add hT rT,?_,fun _ h=>List.mem_append_left _ h,fun _ h=>List.mem_append_left _ h,fun h q=>?_,fun _ _=>List.mem_append_right _ (by simp),by simp,?_⟩
      · rw [List.getElem?_set_ne (Ne.symm hne),List.getElem?_set_self hDl]
      · rw [List.getElem?_set_self (by rw [List.length_set]; exact hWl)]
      · simp; omega
      · rcases List.mem_append.mp q with q | q
        · exact h q
        · have:=List.mem_singleton.mp q
          exact hT (by rw [<- this]; exact hRk)
      · unfold b__law_b_reached_3
        rw [mIfS_eq,test,sbind_ok,if_pos rfl]
        have hwm : (ws.map tabV).length < 1000000:=by rw [List.length_map]; omega
        have em : (ws ++ [nx1 R i j]).map tabV = ws.map tabV ++ [tabV (nx1 R i j)]:=by rw [List.map_append]; rfl
        rw [em]
        generalize ws.map tabV = wv at *
        unfold rcΓ
        generalize S.set D (Cell.dtp (seenV (ks ++ [nx1 R i j]))) = S2 at *
        generalize tabV (bT n) = bv at *
        generalize tabV (nx1 R i j) = NV at *
        generalize tabV R = RV at *
        generalize tabV tb = TV at *
        generalize rightsF R i = z at *
        simp -implicitDefEqProofs [e1,e2,e3,hW2,chg,hwm,lim_eq]
  · rw [decide_eq_false c] at test
    refine ⟨S,ks,ws,t,hD,hW,X,rfl,fun _ h=>h,fun _ h=>h,fun h=>h,fun a b=>absurd ⟨a,b⟩ c,by omega,?_⟩
    unfold b__law_b_reached_3
    rw [mIfS_eq,test,sbind_ok]
    rfl
theorem b2_ok {n i D W : Nat} {tb R : Tb} {ks ws : List Tb} {S : Store} (w : Wt' n tb) (X : Sx n tb ks ws (some R)) (hD : S[D]? = some (.dtp (seenV ks))) (hW : S[W]? = some (.lst (ws.map tabV))) (hne : D ≠ W) (hl : ks.length <= 300) (hi : i < n) (a j t : Option PV) :
    ∃ S' ks' ws' a' j' t',S'[D]? = some (.dtp (seenV ks')) /\ S'[W]? = some (.lst (ws'.map tabV)) /\ Sx n tb ks' ws' (some R) /\ ks'.length + ws.length = ks.length + ws'.length /\ (∀ T ∈ ks,T ∈ ks') /\ (R ∉ ws -> R ∉ ws') /\ (∀ j,j <= n -> ent R i j < ent tb i j -> (j = i \/ 0 < rightsF R i) -> nx1 R i j ∈ ks') /\ ks'.length <= ks.length + 9 /\
      b__law_b_reached_2 (rcΓ tb n D W (some (tabV R)) (some (.int i)) a j t) S = .nx (rcΓ tb n D W (some (tabV R)) (some (.int i)) a' j' t') S':=by
  have h8:=w.n8
  obtain ⟨wR,_,_⟩:=(X.rt R (X.hk R rfl)).ok w
  have er:=lrights_ok (TabLike.tab wR.sz S) (by omega) hi
  rw [lr_eq wR.sz hi] at er
  obtain ⟨Γ',S',e,ks',ws',j',t',rfl,h1,h2,h3,h4,h5,h6,h7,h9⟩:=forG_inv (g:=fun k : Nat=>PV.int (k : Int)) (xs:=List.range (n + 1)) (ga:=gaName 8) (body:=b__law_b_reached_3) (w:=[]) (Γ:=rcΓ tb n D W (some (tabV R)) (some (.int i)) (some (.int (rightsF R i))) j t) (st:=S)
    (fun m Γ st'=>∃ ks' ws' j' t',Γ = rcΓ tb n D W (some (tabV R)) (some (.int i)) (some (.int (rightsF R i))) j' t' /\ st'[D]? = some (.dtp (seenV ks')) /\ st'[W]? = some (.lst (ws'.map tabV)) /\ Sx n tb ks' ws' (some R) /\ ks'.length + ws.length = ks.length + ws'.length /\ (∀ T ∈ ks,T ∈ ks') /\ (R ∉ ws -> R ∉ ws') /\ (∀ j,j < m -> j <= n -> ent R i j < ent tb i j -> (j = i \/ 0 < rightsF R i) -> nx1 R i j ∈ ks') /\ ks'.length <= ks.length + m)
    (fun _ _ _ _=>by simp)
    (fun m x Γ st' hx ⟨ks',ws',j',t',g1,h1,h2,h3,h4,h5,h6,h7,h9⟩=>by
      subst g1
      have hm : m < n + 1:=by simpa using (List.getElem?_eq_some_iff.mp hx).1
      have hxm : x = m:=by
        rw [List.getElem?_range hm] at hx
        exact (Option.some.inj hx).symm
      subst hxm
      obtain ⟨S2,k2,w2,t2,a1,a2,a3,a4,a5,a6,a7,a8,a9,a10⟩:=b3_ok w h3 h1 h2 hne (by omega) hi (show x <= n by omega) t'
      refine ⟨_,rfl,_,S2,a10,k2,w2,_,t2,rfl,a1,a2,a3,by omega,fun T hT=>a5 T (h5 T hT),fun hR=>a7 (h6 hR),fun y hy hyn c1 c2=>?_,by omega⟩
      by_cases q : y = x
      · subst q; exact a8 c1 c2
      · exact a5 _ (h7 y (by omega) hyn c1 c2))
    ⟨ks,ws,_,_,rfl,hD,hW,X,rfl,fun _ h=>h,fun h=>h,fun y hy=>absurd hy (Nat.not_lt_zero _),by omega⟩
  rw [<- rangeI0] at e
  rw [List.length_range] at h7 h9
  refine ⟨S',ks',ws',some (.int (rightsF R i)),j',t',h1,h2,h3,h4,h5,h6,fun y hy=>h7 y (by omega) hy,by omega,?_⟩
  have hb : -1000000 <= (n : Int) + 1 /\ (n : Int) + 1 <= 1000000:=by omega
  have hb2 : ((n : Int) + 1).toNat = n + 1:=by omega
  unfold rcΓ at e ⊢
  generalize tabV (bT n) = bv at *
  generalize tabV R = RV at *
  generalize tabV tb = TV at *
  generalize rightsF R i = z at *
  simp -implicitDefEqProofs [b__law_b_reached_2,er,hb,hb2,lim_eq,e]
theorem b1_ok {n D W : Nat} {tb R : Tb} {ks ws : List Tb} {S : Store} (w : Wt' n tb) (X : Sx n tb ks (ws ++ [R]) none) (hD : S[D]? = some (.dtp (seenV ks))) (hW : S[W]? = some (.lst ((ws ++ [R]).map tabV))) (hne : D ≠ W) (hl : ks.length <= 64) (h i a j t : Option PV) :
    ∃ S' ks' ws' h' i' a' j' t',S'[D]? = some (.dtp (seenV ks')) /\ S'[W]? = some (.lst (ws'.map tabV)) /\ Sx n tb ks' ws' none /\ ks'.length + ws.length = ks.length + ws'.length /\
      b__law_b_reached_1 (rcΓ tb n D W h i a j t) S = .nx (rcΓ tb n D W h' i' a' j' t') S':=by
  have h8:=w.n8
  have hWl : W < S.length:=(List.getElem?_eq_some_iff.mp hW).1
  have nw:=X.nw
  rw [List.nodup_append] at nw
  have hRw : R ∉ ws:=fun q=>nw.2.2 R q R (by simp) rfl
  have X0 : Sx n tb ks ws (some R):=⟨X.nd,nw.1,X.rt,fun T hT=>X.wk T (List.mem_append_left _ hT),X.b0,fun T e=>by cases e; exact X.wk R (List.mem_append_right _ (by simp)),fun T hT hn hne=>X.cl T hT (fun q=>by
    rcases List.mem_append.mp q with q | q
    · exact hn q
    · exact hne (by rw [List.mem_singleton.mp q])) (by simp)⟩
  have hD1 : (S.set W (.lst (ws.map tabV)))[D]? = some (.dtp (seenV ks)):=by rw [List.getElem?_set_ne (Ne.symm hne)]; exact hD
  have hW1 : (S.set W (.lst (ws.map tabV)))[W]? = some (.lst (ws.map tabV)):=List.getElem?_set_self hWl
  have s1 : mSet 5 (mBM mtPop (mVar 4) mNil) (rcΓ tb n D W h i a j t) S = .nx (rcΓ tb n D W (some (tabV R)) i a j t) (S.set W (.lst (ws.map tabV))):=by
    rw [List.map_append] at hW
    have hd : (ws.map tabV ++ [tabV R]).dropLast = ws.map tabV:=by simp
    have hlst : (ws.map tabV ++ [tabV R])[(ws.map tabV ++ [tabV R]).length - 1]? = some (tabV R):=by simp
    have hW : S[W]? = some (.lst (ws.map tabV ++ [tabV R])):=hW
    generalize ws.map tabV = wv at *
    unfold rcΓ
    generalize tabV (bT n) = bv at *
    generalize tabV R = RV at *
    generalize tabV tb = TV at *
    simp -implicitDefEqProofs [mtPop,chg,hW]
  obtain ⟨Γ',S',e,ks',ws',i',a',j',t',rfl,h1,h2,h3,h4,h5,h6,h7,h9⟩:=forG_inv (g:=fun k : Nat=>PV.int (k : Int)) (xs:=List.range n) (ga:=gaName 6) (body:=b__law_b_reached_2) (w:=[]) (Γ:=rcΓ tb n D W (some (tabV R)) i a j t) (st:=S.set W (.lst (ws.map tabV)))
    (fun m Γ st'=>∃ ks' ws' i' a' j' t',Γ = rcΓ tb n D W (some (tabV R)) i' a' j' t' /\ st'[D]? = some (.dtp (seenV ks')) /\ st'[W]? = some (.lst (ws'.map tabV)) /\ Sx n tb ks' ws' (some R) /\ ks'.length + ws.length = ks.length + ws'.length /\ (∀ T ∈ ks,T ∈ ks') /\ (R ∉ ws -> R ∉ ws') /\ (∀ i,i < m -> ∀ j,j <= n -> ent R i j < ent tb i j -> (j = i \/ 0 < rightsF R i) -> nx1 R i j ∈ ks') /\ ks'.length <= ks.length + 9 * m)
    (fun _ _ _ _=>by simp)
    (fun m x Γ st' hx ⟨ks',ws',i',a',j',t',g1,h1,h2,h3,h4,h5,h6,h7,h9⟩=>by
      subst g1
      have hm : m < n:=by simpa using (List.getElem?_eq_some_iff.mp hx).1
      have hxm : x = m:=by
        rw [List.getElem?_range hm] at hx
        exact (Option.some.inj hx).symm
      subst hxm
      obtain ⟨S2,k2,w2,a2,j2,t2,b1,b2,b3,b4,b5,b6,b7,b8,b9⟩:=b2_ok w h3 h1 h2 hne (by omega) hm a' j' t'
      refine ⟨_,rfl,_,S2,b9,k2,w2,_,a2,j2,t2,rfl,b1,b2,b3,by omega,fun T hT=>b5 T (h5 T hT),fun hR=>b6 (h6 hR),fun y hy z hz c1 c2=>?_,by omega⟩
      by_cases q : y = x
      · subst q; exact b7 z hz c1 c2
      · exact b5 _ (h7 y (by omega) z hz c1 c2))
    ⟨ks,ws,_,_,_,_,rfl,hD1,hW1,X0,rfl,fun _ h=>h,fun h=>h,fun y hy=>absurd hy (Nat.not_lt_zero _),by omega⟩
  rw [<- rangeI0] at e
  rw [List.length_range] at h7 h9
  refine ⟨S',ks',ws',some (tabV R),i',a',j',t',h1,h2,⟨h3.nd,h3.nw,h3.rt,h3.wk,h3.b0,(fun T e=>nomatch e),fun T hT hn _=>?_⟩,h4,?_⟩
  · by_cases q : T = R
    · subst q; exact fun i j hi hj c1 c2=>h7 i hi j hj c1 c2
    · exact h3.cl T hT hn (by simpa using fun e=>q e.symm)
  · have hb : -1000000 <= (n : Int) /\ (n : Int) <= 1000000:=by omega
    unfold b__law_b_reached_1
    rw [mSeqS_eq,s1]
    show mFor _ _ _ _ _ = _
    unfold rcΓ at e ⊢
    generalize tabV (bT n) = bv at *
    generalize tabV R = RV at *
    generalize tabV tb = TV at *
    simp -implicitDefEqProofs [hb,lim_eq,e]
theorem waits_ok {S : Store} {W : Nat} {ws : List Tb} (hW : S[W]? = some (.lst (ws.map tabV))) : oNe S (.ref W) (.lst []) = .ok (.bl (!ws.isEmpty)) S:=by
  have hg : good dep (.lst (ws.map tabV)) = true:=by simp [good,dep,tabV,rowV]
  have hd : der S (.ref W) = .lst (ws.map tabV):=by simp only [der,hW]
  have h0 : good dep (der S (.lst [])) = true:=rfl
  unfold oNe
  rw [hd,if_pos ⟨hg,h0⟩]
  cases ws with
  | nil=>rfl
  | cons a l=>rfl
theorem while13 {n D W : Nat} {tb : Tb} (w : Wt' n tb) (h6 : (tb.map List.sum).sum <= 6) (hne : D ≠ W) : ∀ (m fuel : Nat) (ks ws : List Tb) (S : Store) (h i a j t : Option PV),Sx n tb ks ws none -> S[D]? = some (.dtp (seenV ks)) -> S[W]? = some (.lst (ws.map tabV)) -> 64 + ws.length = ks.length + m -> m < fuel ->
    ∃ S' ks' h' i' a' j' t',S'[D]? = some (.dtp (seenV ks')) /\ Sx n tb ks' [] none /\ whileG w__law_b_reached_1 b__law_b_reached_1 fuel (rcΓ tb n D W h i a j t) S = .nx (rcΓ tb n D W h' i' a' j' t') S':=by
  intro m
  induction m with
  | zero=>
    intro fuel ks ws S h i a j t X hD hW hm hf
    have hk:=rt_few w h6 X.nd X.rt
    have hw0 : ws = []:=List.length_eq_zero_iff.mp (by omega)
    subst hw0
    obtain ⟨fuel,rfl⟩ : ∃ f,fuel = f + 1:=⟨fuel - 1,by omega⟩
    have tw:=waits_ok hW
    refine ⟨S,ks,h,i,a,j,t,hD,X,?_⟩
    have tt : w__law_b_reached_1 (rcΓ tb n D W h i a j t) S = .ok false S:=by
      unfold rcΓ
      generalize tabV (bT n) = bv at *
      generalize tabV tb = TV at *
      simp -implicitDefEqProofs [w__law_b_reached_1,tw]
    rw [whileG,tt]
    rfl
  | succ m ih=>
    intro fuel ks ws S h i a j t X hD hW hm hf
    have hk:=rt_few w h6 X.nd X.rt
    obtain ⟨fuel,rfl⟩ : ∃ f,fuel = f + 1:=⟨fuel - 1,by omega⟩
    have tw:=waits_ok hW
    by_cases hw0 : ws = []
    · subst hw0
      refine ⟨S,ks,h,i,a,j,t,hD,X,?_⟩
      have tt : w__law_b_reached_1 (rcΓ tb n D W h i a j t) S = .ok false S:=by
        unfold rcΓ
        generalize tabV (bT n) = bv at *
        generalize tabV tb = TV at *
        simp -implicitDefEqProofs [w__law_b_reached_1,tw]
      rw [whileG,tt]
      rfl
    · have tt : w__law_b_reached_1 (rcΓ tb n D W h i a j t) S = .ok true S:=by
        have : ws.isEmpty = false:=by cases ws with | nil=>exact absurd rfl hw0 | cons _ _=>rfl
        rw [this] at tw
        unfold rcΓ
        generalize tabV (bT n) = bv at *
        generalize tabV tb = TV at *
        simp -implicitDefEqProofs [w__law_b_reached_1,tw]
      obtain ⟨v,R,rfl⟩ : ∃ v R,ws = v ++ [R]:=⟨ws.dropLast,ws.getLast hw0,(List.dropLast_concat_getLast hw0).symm⟩
      obtain ⟨S',ks',ws',h',i',a',j',t',b1,b2,b3,b4,b5⟩:=b1_ok w X hD hW hne hk h i a j t
      rw [List.length_append,List.length_singleton] at hm
      obtain ⟨S2,k2,h2,i2,a2,j2,t2,c1,c2,c3⟩:=ih fuel ks' ws' S' h' i' a' j' t' b3 b1 b2 (by omega) (by omega)
      refine ⟨S2,k2,h2,i2,a2,j2,t2,c1,c2,?_⟩
      rw [whileG,tt,sbind_ok,if_pos rfl,b5]
      exact c3
theorem Sx.all {n : Nat} {tb : Tb} {ks : List Tb} (X : Sx n tb ks [] none) {R : Tb} (r : RT n tb R) : R ∈ ks:=by
  induction r with
  | bare=>exact X.b0
  | more r hi hj hl hr ih=>exact X.cl _ ih (by simp) (by simp) _ _ hi hj hl hr
theorem bare13 (n : Nat) (hn : n <= 8) (me : ME) (hme : me = (mCall cTuple (mCons (mOp oMul (mLst (mCons (mC (.int 0)) mNil)) (mOp oAdd (mVar 1) (mC (.int 1)))) mNil))) (i : Nat) (Γ : Gam) (h0 : Γ[i]? = some (some (.int n))) (S : Store) : compG (gaName 0) mTrue me [] (capG [none,some i] Γ) (rangeI 0 n) S = .ok ((bT n).map rowV) S:=by
  rw [rangeI0,show (bT n).map rowV = (List.range n).map fun _=>rowV (zRow n) by rw [List.map_replicate,List.map_const',List.length_range]]
  refine compG_on (fun k : Nat=>PV.int (k : Int)) (fun _=>rowV (zRow n)) (by simp) fun k hk=>⟨_,rfl,?_⟩
  subst hme
  have e1 : ((n : Int) + 1).toNat = n + 1:=by omega
  have e2 : (n : Int) + 1 < 2 ^ 63:=by omega
  have e3 : -(2 ^ 63) <= (n : Int) + 1:=by omega
  have e4 : n + 1 <= 1000000:=by omega
  have e5 : (List.replicate (n + 1) [PV.int 0]).flatten = (zRow n).map PV.int:=by rw [reps]; unfold zRow; rw [List.map_replicate]
  have em:=oMul_lst S [.int 0] ((n : Int) + 1)
  rw [e1,e5,if_pos ⟨e3,e2,by simp [lim_eq]; omega⟩] at em
  have hz : ((zRow n).map PV.int).length <= 1000000:=by simp [zRow]; omega
  unfold rowV
  generalize (zRow n).map PV.int = zv at *
  simp -implicitDefEqProofs [capG,h0,em,hz,lim_eq]
theorem reached_ok {n : Nat} {tb : Tb} (w : Wt' n tb) (h6 : (tb.map List.sum).sum <= 6) (S : Store) : ∃ D S' ks,D = S.length /\ S'[D]? = some (.dtp (seenV ks)) /\ (∀ R,R ∈ ks <-> RT n tb R) /\ F__law_b_reached [tabV tb] S = .ok (.ref D) S':=by
  have h8:=w.n8
  have hb:=bare13 n h8 e__law_b_reached_1 rfl 1 [some (tabV tb),some (.int n),none,none,none,none,none,none,none,none] rfl S
  have hln : cLen S [tabV tb] = .ok (.int n) S:=by simp [tabV,w.len]
  have hn1 : -1000000 <= (n : Int) /\ (n : Int) <= 1000000:=by omega
  have hbl : ((bT n).map rowV).length <= 1000000:=by simp; omega
  have dz : disT S (.bl true) (tabV (bT n)) = .ok (.ref S.length) (S ++ [.dtp (seenV [bT n])]):=by
    unfold disT
    rw [keyN_tab]; rfl
  have X0 : Sx n tb [bT n] [bT n] none:=⟨by simp,by simp,fun R hR=>by rw [List.mem_singleton.mp hR]; exact .bare,fun _ h=>h,by simp,(fun _ e=>nomatch e),fun R hR hn=>absurd hR hn⟩
  have hD : (S ++ [.dtp (seenV [bT n]),.lst [tabV (bT n)]])[S.length]? = some (.dtp (seenV [bT n])):=by simp
  have hW : (S ++ [.dtp (seenV [bT n]),.lst [tabV (bT n)]])[S.length + 1]? = some (.lst ([bT n].map tabV)):=by
    rw [List.getElem?_append_right (by omega)]; simp
  obtain ⟨S',ks,h',i',a',j',t',c1,c2,c3⟩:=while13 w h6 (show S.length ≠ S.length + 1 by omega) 64 100000 [bT n] [bT n] _ none none none none none X0 hD hW (by simp) (by omega)
  refine ⟨S.length,S',ks,rfl,c1,fun R=>⟨c2.rt R,fun r=>c2.all r⟩,?_⟩
  have et : tabV (bT n) = .tup ((bT n).map rowV):=rfl
  have step : m__law_b_reached [some (tabV tb),none,none,none,none,none,none,none,none,none] S = .rt (.ref S.length) S':=by
    unfold rcΓ at c3
    generalize hk : seenV [bT n] = sv at *
    rw [et] at c3 dz
    generalize (bT n).map rowV = bv at *
    generalize tabV tb = TV at *
    simp -implicitDefEqProofs [m__law_b_reached,hln,hn1,lim_eq,hb,hbl,dz,c3]
  show callK m__law_b_reached 10 _ S = _
  unfold callK
  rw [show (([tabV tb] : List PV).map some ++ List.replicate (10 - [tabV tb].length) none) = [some (tabV tb),none,none,none,none,none,none,none,none,none] from rfl,step]
def tot (tb : Tb) : Int:=(tb.map List.sum).sum
theorem sum_set13 : ∀ (l : List Int) (i : Nat) (x : Int),i < l.length -> (l.set i x).sum = l.sum - l.getD i 0 + x
  | [],i,x,h=>by simp at h
  | a :: l,0,x,_=>by simp; omega
  | a :: l,i + 1,x,h=>by
    have:=sum_set13 l i x (by simpa using h)
    simp only [List.set_cons_succ,List.sum_cons,this]
    simp; omega
theorem tot_put {n i j : Nat} {tb : Tb} (z : Sz n tb) (hi : i < n) (hj : j <= n) : tot (nx1 tb i j) = tot tb + 1:=by
  obtain ⟨r1,r2⟩:=z.row hi
  have h1 : i < (tb.map List.sum).length:=by rw [List.length_map,z.1]; exact hi
  have e : (nx1 tb i j).map List.sum = (tb.map List.sum).set i ((tb.getD i []).set j (ent tb i j + 1)).sum:=by
    show (tb.set i _).map List.sum = _
    rw [List.map_set]
  unfold tot
  rw [e,sum_set13 _ _ _ h1,sum_set13 _ _ _ (by rw [r2]; omega)]
  have : (tb.map List.sum).getD i 0 = (tb.getD i []).sum:=by
    rw [List.getD_eq_getElem?_getD,List.getElem?_map,r1]; rfl
  rw [this]
  show (tb.map List.sum).sum - (tb.getD i []).sum + ((tb.getD i []).sum - ent tb i j + (ent tb i j + 1)) = _
  omega
theorem tot_bare (n : Nat) : tot (bT n) = 0:=by
  unfold tot
  rw [List.map_replicate]
  have rep0 : ∀ k : Nat,(List.replicate k (0 : Int)).sum = 0:=fun k=>by
    induction k with
    | zero=>rfl
    | succ k ih=>rw [List.replicate_succ,List.sum_cons,ih]; rfl
  have h0 : (zRow n).sum = 0:=by unfold zRow; exact rep0 _
  rw [h0]; exact rep0 _
theorem zrows13 (n : Nat) (hn8 : n <= 8) (Γ : Gam) (h0 : Γ[2]? = some (some (.int n))) (S : Store) : compG (gaName 0) mTrue e_law_1 [] (capG [none,some 2] Γ) (rangeI 0 n) S = .ok ((List.range n).map fun k=>.ref (S.length + k)) (S ++ List.replicate n (Cell.lst ((zRow n).map .int))):=by
  rw [rangeI0]
  obtain ⟨out,st',e,rfl,rfl⟩:=compG_inv (g:=fun k : Nat=>PV.int (k : Int)) (xs:=List.range n) (ga:=gaName 0) (me:=e_law_1) (w:=[]) (Γ0:=capG [none,some 2] Γ) (st:=S)
    (fun i out st'=>out = (List.range i).map (fun k=>PV.ref (S.length + k)) /\ st' = S ++ List.replicate i (Cell.lst ((zRow n).map .int)))
    (fun i out st' _=>by simp)
    (fun i r out st' hr ⟨e1,e2⟩=>by
      subst e1; subst e2
      have hlen : (S ++ List.replicate i (Cell.lst ((zRow n).map .int))).length = S.length + i:=by simp
      refine ⟨_,rfl,.ref (S.length + i),S ++ List.replicate (i + 1) (Cell.lst ((zRow n).map .int)),?_,?_,rfl⟩
      · rw [List.replicate_succ',<- List.append_assoc,<- hlen]
        generalize S ++ List.replicate i (Cell.lst ((zRow n).map .int)) = T
        have hz : (zRow n).map PV.int = List.replicate (n + 1) (.int 0):=by simp [zRow]
        rw [hz]
        have b1 : -9223372036854775808 <= (n : Int) + 1 /\ (n : Int) + 1 < 9223372036854775808 /\ n + 1 <= 1000000:=by omega
        simp -implicitDefEqProofs [capG,h0,e_law_1,oRepN,lim_eq,b1]
      · rw [List.range_succ,List.map_append]; rfl)
    ⟨rfl,by simp⟩
  rw [e,List.length_range]
abbrev g13 (ns : List Int) (d n : Int) (q k c i j T sn f h tl dd : Option PV) : Gam:=[some (.fro (ns.map .int)),some (.int d),some (.int n),q,k,c,i,j,T,sn,f,h,tl,dd]
theorem up13 {n p q i j : Nat} {S : Store} {tb : Tb} (R : RowsAt n S p q tb) (w : Wt' n tb) (hi : i < n) (hj : j <= n) (mi mj : ME) (Γ : Gam) (h3 : mVar 3 Γ S = .ok (.ref p) S) (hmi : ∀ S,mi Γ S = .ok (.int i) S) (hmj : ∀ S,mj Γ S = .ok (.int j) S) :
    ∃ S',RowsAt n S' p q (nx1 tb i j) /\ Wt' n (nx1 tb i j) /\ mSetIx (mOp oIx (mVar 3) mi) mj (mOp oAdd (mOp oIx (mOp oIx (mVar 3) mi) mj) (mC (.int 1))) Γ S = .nx Γ S':=by
  have c1:=R.ix hi
  have c2:=R.cell w.sz hi hj
  have hnn:=w.ent_nn hi hj
  obtain ⟨S2,R2,w2,_,e2⟩:=put_okE R w (x:=ent tb i j + 1) (by omega) hi hj (mVar 3) mi mj (mOp oAdd (mOp oIx (mOp oIx (mVar 3) mi) mj) (mC (.int 1))) Γ (by
    simp -implicitDefEqProofs only [mOp_eq,h3,hmi,hmj,bind_ok,c1,c2,mC_eq,oAdd_int]) h3 (hmi S) (hmj S)
  exact ⟨S2,R2,w2,e2⟩
theorem turn13 {ns : List Int} {d : Int} {n p q k : Nat} {S : Store} {tb : Tb} (R : RowsAt n S p q tb) (w : Wt' n tb) (hk : k <= 100) (c i j T sn f h tl dd : Option PV) :
    ∃ S' tb' c' i' j',RowsAt n S' p q tb' /\ Wt' n tb' /\ tot tb' = tot tb + 1 /\ b_law_1 (g13 ns d n (some (.ref p)) (some (.int k)) c i j T sn f h tl dd) S = .nx (g13 ns d n (some (.ref p)) (some (.int k)) c' i' j' T sn f h tl dd) S':=by
  have hd:=draw_ok ns (1 + k) S (by omega)
  rw [show ((1 + k : Nat) : Int) = 1 + (k : Int) by push_cast; rfl] at hd
  obtain ⟨a,ha,ea⟩:=modN (drawI ns (1 + k)) (n:=n) w.n1
  obtain ⟨b,hb,eb⟩:=modN (drawI ns (1 + k) / 3) (n:=n + 1) (by omega)
  rw [show ((n + 1 : Nat) : Int) = (n : Int) + 1 by push_cast; rfl] at eb
  have hn0 : (0 : Int) < (n : Int):=by have:=w.n1; omega
  have hn1 : (0 : Int) < (n : Int) + 1:=by omega
  have s1 : ∀ Y : MS,(mSeqS (mSet 5 (mCallF 2 F__law_b_draw (mCons (mVar 0) (mCons (mOp oAdd (mC (.int 1)) (mVar 4)) mNil))))
    (mSeqS (mSet 6 (mOp oMod (mVar 5) (mVar 2)))
    (mSeqS (mSet 7 (mOp oMod (mOp oDiv (mVar 5) (mC (.int 3))) (mOp oAdd (mVar 2) (mC (.int 1))))) Y))) (g13 ns d n (some (.ref p)) (some (.int k)) c i j T sn f h tl dd) S = Y (g13 ns d n (some (.ref p)) (some (.int k)) (some (.int (drawI ns (1 + k)))) (some (.int a)) (some (.int b)) T sn f h tl dd) S:=fun Y=>by
    unfold g13
    generalize ns.map PV.int = nv at *
    generalize drawI ns (1 + k) = x at *
    have hnn : 0 < n:=w.n1
    simp -implicitDefEqProofs [hd,hn0,hn1,hnn,ea,eb]
  obtain ⟨S2,R2,w2,e2⟩:=up13 R w ha (show b <= n by omega) (mVar 6) (mVar 7) (g13 ns d n (some (.ref p)) (some (.int k)) (some (.int (drawI ns (1 + k)))) (some (.int a)) (some (.int b)) T sn f h tl dd) rfl (fun _=>rfl) (fun _=>rfl)
  refine ⟨S2,nx1 tb a b,some (.int (drawI ns (1 + k))),some (.int a),some (.int b),R2,w2,tot_put w.sz ha (by omega),?_⟩
  unfold b_law_1
  rw [s1,e2]
theorem tabs13 {n p q : Nat} {S : Store} {tb : Tb} (R : RowsAt n S p q tb) (w : Wt' n tb) {wt : Wt} (hw : wOk wt S) (Γ : Gam) : compG (gaName 0) mTrue e_law_2 wt (capG [none] Γ) ((List.range n).map fun k=>PV.ref (q + k)) S = .ok (tb.map rowV) S:=tups13 e_law_2 rfl R w hw Γ
theorem table13 (ns : List Int) : ∃ (n : Nat) (d : Int) (tb : Tb) (S : Store) (p : Nat) (k c i j : Option PV),Wt' n tb /\ n <= 3 /\ tot tb <= 6 /\ ∀ Y : MS,(mSeqS (mSet 1 (mCallF 2 F__law_b_draw (mCons (mVar 0) (mCons (mC (.int 0)) mNil))))
    (mSeqS (mSet 2 (mOp oAdd (mC (.int 1)) (mOp oMod (mVar 1) (mC (.int 3)))))
    (mSeqS (mSet 3 (mTrk (mCompN [none,some 2] (gaName 0) (mRange1 (mCons (mVar 2) mNil)) mTrue e_law_1)))
    (mSeqS (mFor (gaName 4) (mRange1 (mCons (mOp oMod (mOp oDiv (mVar 1) (mC (.int 3))) (mC (.int 5))) mNil)) b_law_1)
    (mSeqS (mIfS (tAndM (toB (mOp (oI fun a b=>.bl (decide (b < a))) (mVar 2) (mC (.int 1)))) (toB (mOp oEq (mOp oMod (mOp oDiv (mVar 1) (mC (.int 15))) (mC (.int 2))) (mC (.int 0))))) (mSeqS (mSet 6 (mOp oMod (mOp oDiv (mVar 1) (mC (.int 30))) (mVar 2)))
    (mSeqS (mSet 7 (mOp oMod (mOp oAdd (mOp oAdd (mVar 6) (mC (.int 1))) (mOp oMod (mOp oDiv (mVar 1) (mC (.int 90))) (mOp (oI fun a b=>.int (a - b)) (mVar 2) (mC (.int 1))))) (mVar 2)))
    (mSeqS (mSetIx (mOp oIx (mVar 3) (mVar 6)) (mVar 7) (mOp oAdd (mOp oIx (mOp oIx (mVar 3) (mVar 6)) (mVar 7)) (mC (.int 1))))
    (mSetIx (mOp oIx (mVar 3) (mVar 7)) (mVar 6) (mOp oAdd (mOp oIx (mOp oIx (mVar 3) (mVar 7)) (mVar 6)) (mC (.int 1))))))) mNext)
    (mSeqS (mSet 8 (mCall cTuple (mCons (mVal (mCompN [none] (gaName 0) (mSeq (mVar 3)) mTrue e_law_2)) mNil))) Y)))))) [some (.fro (ns.map .int)),none,none,none,none,none,none,none,none,none,none,none,none,none] [] = Y (g13 ns d n (some (.ref p)) k c i j (some (tabV tb)) none none none none none) S:=by
  have hd:=draw_ok ns 0 [] (by omega)
  rw [show ((0 : Nat) : Int) = 0 from rfl] at hd
  generalize drawI ns 0 = d at *
  obtain ⟨a,ha,ea⟩:=modN d (n:=3) (by omega)
  rw [show ((3 : Nat) : Int) = 3 from rfl] at ea
  obtain ⟨n,hn⟩ : ∃ n : Nat,1 + (a : Int) = n:=⟨1 + a,by push_cast; rfl⟩
  have hn1 : 1 <= n:=by omega
  have hn3 : n <= 3:=by omega
  obtain ⟨m,hm,em⟩:=modN (d / 3) (n:=5) (by omega)
  rw [show ((5 : Nat) : Int) = 5 from rfl] at em
  have hz:=zrows13 n (by omega) [some (.fro (ns.map .int)),some (.int d),some (.int n),none,none,none,none,none,none,none,none,none,none,none] rfl []
  have hcl : (List.replicate n (Cell.lst ((zRow n).map PV.int))).length = n:=by simp
  have R0:=rows_mk13 (S:=[]) (cells:=List.replicate n (Cell.lst ((zRow n).map PV.int))) (tb:=bT n) (n:=n) hcl (fun k hk=>by rw [List.getElem?_replicate,if_pos hk]; simp [bT,List.getD,hk])
  obtain ⟨S0,hS0⟩ : ∃ S0,[] ++ List.replicate n (Cell.lst ((zRow n).map PV.int)) ++ [.lst ((List.range n).map fun k=>PV.ref (([] : Store).length + k))] = S0:=⟨_,rfl⟩
  rw [hS0] at R0
  have w0:=zTab_wt hn1 (show n <= 8 by omega)
  have t0 : mSet 3 (mTrk (mCompN [none,some 2] (gaName 0) (mRange1 (mCons (mVar 2) mNil)) mTrue e_law_1)) [some (.fro (ns.map .int)),some (.int d),some (.int n),none,none,none,none,none,none,none,none,none,none,none] [] = .nx (g13 ns d n (some (.ref n)) none none none none none none none none none none) S0:=by
    have hb : -1000000 <= (n : Int) /\ (n : Int) <= 1000000:=by omega
    rw [List.append_assoc] at hS0
    unfold g13
    generalize List.replicate n (Cell.lst ((zRow n).map PV.int)) = cells at *
    generalize ((List.range n).map fun k=>PV.ref (([] : Store).length + k)) = refs at *
    generalize ns.map PV.int = nv at *
    simp -implicitDefEqProofs at hS0
    simp -implicitDefEqProofs [hb,lim_eq,hz,hcl,hS0]
  obtain ⟨Γ1,S1,e1,tb1,k1,c1,i1,j1,rfl,R1,w1,t1⟩:=forG_inv (g:=fun k : Nat=>PV.int (k : Int)) (xs:=List.range m) (ga:=gaName 4) (body:=b_law_1) (w:=[]) (Γ:=g13 ns d n (some (.ref n)) none none none none none none none none none none) (st:=S0)
    (fun l Γ st'=>∃ tb k c i j,Γ = g13 ns d n (some (.ref n)) k c i j none none none none none none /\ RowsAt n st' n 0 tb /\ Wt' n tb /\ tot tb = l)
    (fun _ _ _ _=>by simp)
    (fun l x Γ st' hx ⟨tb,k,c,i,j,g1,R,w,t⟩=>by
      subst g1
      have hxm : x < m:=by have:=List.mem_of_getElem? hx; simpa using this
      obtain ⟨S2,t2,c2,i2,j2,R2,w2,e2,e3⟩:=turn13 (ns:=ns) (d:=d) (k:=x) R w (by omega) c i j none none none none none none
      exact ⟨_,rfl,_,S2,e3,t2,_,c2,i2,j2,rfl,R2,w2,by rw [e2,t]; push_cast; rfl⟩)
    ⟨bT n,none,none,none,none,rfl,by simpa using R0,w0,tot_bare n⟩
  rw [<- rangeI0] at e1
  rw [List.length_range] at t1
  have mid : ∃ S2 tb2 i2 j2,RowsAt n S2 n 0 tb2 /\ Wt' n tb2 /\ tot tb2 <= 6 /\ mIfS (tAndM (toB (mOp (oI fun a b=>.bl (decide (b < a))) (mVar 2) (mC (.int 1)))) (toB (mOp oEq (mOp oMod (mOp oDiv (mVar 1) (mC (.int 15))) (mC (.int 2))) (mC (.int 0))))) (mSeqS (mSet 6 (mOp oMod (mOp oDiv (mVar 1) (mC (.int 30))) (mVar 2)))
    (mSeqS (mSet 7 (mOp oMod (mOp oAdd (mOp oAdd (mVar 6) (mC (.int 1))) (mOp oMod (mOp oDiv (mVar 1) (mC (.int 90))) (mOp (oI fun a b=>.int (a - b)) (mVar 2) (mC (.int 1))))) (mVar 2)))
    (mSeqS (mSetIx (mOp oIx (mVar 3) (mVar 6)) (mVar 7) (mOp oAdd (mOp oIx (mOp oIx (mVar 3) (mVar 6)) (mVar 7)) (mC (.int 1))))
    (mSetIx (mOp oIx (mVar 3) (mVar 7)) (mVar 6) (mOp oAdd (mOp oIx (mOp oIx (mVar 3) (mVar 7)) (mVar 6)) (mC (.int 1))))))) mNext (g13 ns d n (some (.ref n)) k1 c1 i1 j1 none none none none none none) S1 = .nx (g13 ns d n (some (.ref n)) k1 c1 i2 j2 none none none none none none) S2:=by
    by_cases q : 1 < n /\ d / 15 % 2 = 0
    · obtain ⟨q1,q2⟩:=q
      have q1' : (1 : Int) < (n : Int):=by omega
      obtain ⟨x,hx,ex⟩:=modN (d / 30) (n:=n) hn1
      obtain ⟨y,hy,ey⟩:=modN (d / 90) (n:=n - 1) (by omega)
      rw [show ((n - 1 : Nat) : Int) = (n : Int) - 1 by omega] at ey
      obtain ⟨z,hz,ez⟩:=modN ((x : Int) + 1 + y) (n:=n) hn1
      have p0 : (0 : Int) < (n : Int):=by omega
      have p1 : (0 : Int) < (n : Int) - 1:=by omega
      obtain ⟨S2,R2,w2,e2⟩:=up13 R1 w1 hx (show z <= n by omega) (mVar 6) (mVar 7) (g13 ns d n (some (.ref n)) k1 c1 (some (.int x)) (some (.int z)) none none none none none none) rfl (fun _=>rfl) (fun _=>rfl)
      obtain ⟨S3,R3,w3,e3⟩:=up13 R2 w2 hz (show x <= n by omega) (mVar 7) (mVar 6) (g13 ns d n (some (.ref n)) k1 c1 (some (.int x)) (some (.int z)) none none none none none none) rfl (fun _=>rfl) (fun _=>rfl)
      refine ⟨S3,_,some (.int x),some (.int z),R3,w3,?_,?_⟩
      · rw [tot_put w2.sz hz (by omega),tot_put w1.sz hx (by omega),t1]; omega
      · have tt : (tAndM (toB (mOp (oI fun a b=>.bl (decide (b < a))) (mVar 2) (mC (.int 1)))) (toB (mOp oEq (mOp oMod (mOp oDiv (mVar 1) (mC (.int 15))) (mC (.int 2))) (mC (.int 0))))) (g13 ns d n (some (.ref n)) k1 c1 i1 j1 none none none none none none) S1 = .ok true S1:=by
          unfold g13
          generalize ns.map PV.int = nv at *
          simp -implicitDefEqProofs [q1',q1,q2]
        have t6 : mSet 6 (mOp oMod (mOp oDiv (mVar 1) (mC (.int 30))) (mVar 2)) (g13 ns d n (some (.ref n)) k1 c1 i1 j1 none none none none none none) S1 = .nx (g13 ns d n (some (.ref n)) k1 c1 (some (.int x)) j1 none none none none none none) S1:=by
          unfold g13
          generalize ns.map PV.int = nv at *
          simp -implicitDefEqProofs [p0,show 0 < n from hn1,ex]
        have t7 : mSet 7 (mOp oMod (mOp oAdd (mOp oAdd (mVar 6) (mC (.int 1))) (mOp oMod (mOp oDiv (mVar 1) (mC (.int 90))) (mOp (oI fun a b=>.int (a - b)) (mVar 2) (mC (.int 1))))) (mVar 2)) (g13 ns d n (some (.ref n)) k1 c1 (some (.int x)) j1 none none none none none none) S1 = .nx (g13 ns d n (some (.ref n)) k1 c1 (some (.int x)) (some (.int z)) none none none none none none) S1:=by
          unfold g13
          generalize ns.map PV.int = nv at *
          simp -implicitDefEqProofs [p0,p1,show 0 < n from hn1,q1,q1',ey,ez]
        rw [mIfS_eq,tt,sbind_ok,if_pos rfl,mSeqS_eq,t6]
        show mSeqS _ _ _ _ = _
        rw [mSeqS_eq,t7]
        show mSeqS _ _ _ _ = _
        rw [mSeqS_eq,e2]
        exact e3
    · refine ⟨S1,tb1,i1,j1,R1,w1,by rw [t1]; omega,?_⟩
      have tt : (tAndM (toB (mOp (oI fun a b=>.bl (decide (b < a))) (mVar 2) (mC (.int 1)))) (toB (mOp oEq (mOp oMod (mOp oDiv (mVar 1) (mC (.int 15))) (mC (.int 2))) (mC (.int 0))))) (g13 ns d n (some (.ref n)) k1 c1 i1 j1 none none none none none none) S1 = .ok false S1:=by
        unfold g13
        generalize ns.map PV.int = nv at *
        by_cases q1 : 1 < n
        · have q1' : (1 : Int) < (n : Int):=by omega
          have q2 : ¬ d / 15 % 2 = 0:=fun z=>q ⟨q1,z⟩
          simp -implicitDefEqProofs [q1',q1,q2]
        · have q1' : ¬ (1 : Int) < (n : Int):=by omega
          simp -implicitDefEqProofs [q1',q1]
      rw [mIfS_eq,tt,sbind_ok]
      rfl
  obtain ⟨S2,tb2,i2,j2,R2,w2,t2,e2⟩:=mid
  refine ⟨n,d,tb2,S2,n,k1,c1,i2,j2,w2,hn3,t2,fun Y=>?_⟩
  have hl2 : ListAt S2 (.ref n) ((List.range n).map fun k=>PV.ref (0 + k)):=.inr (.inr ⟨_,rfl,R2.l⟩)
  obtain ⟨wt,hs2,hw2⟩:=hl2.src
  have hl3 : ((List.range n).map fun k=>PV.ref (0 + k)).length <= 1000000:=by simp; omega
  have e3:=tabs13 R2 w2 hw2 (g13 ns d n (some (.ref n)) k1 c1 i2 j2 none none none none none none)
  have hl4 : (tb2.map rowV).length <= 1000000:=by rw [List.length_map,w2.len]; omega
  have t8 : mSet 8 (mCall cTuple (mCons (mVal (mCompN [none] (gaName 0) (mSeq (mVar 3)) mTrue e_law_2)) mNil)) (g13 ns d n (some (.ref n)) k1 c1 i2 j2 none none none none none none) S2 = .nx (g13 ns d n (some (.ref n)) k1 c1 i2 j2 (some (tabV tb2)) none none none none none) S2:=by
    have et : tabV tb2 = .tup (tb2.map rowV):=rfl
    rw [et]
    unfold g13 at e3 ⊢
    generalize ((List.range n).map fun k=>PV.ref (0 + k)) = refs at *
    generalize tb2.map rowV = tv at *
    generalize ns.map PV.int = nv at *
    simp -implicitDefEqProofs [hs2,hl3,lim_eq,e3,hl4,-srcOf_r]
  have t1' : mSet 1 (mCallF 2 F__law_b_draw (mCons (mVar 0) (mCons (mC (.int 0)) mNil))) [some (.fro (ns.map .int)),none,none,none,none,none,none,none,none,none,none,none,none,none] [] = .nx [some (.fro (ns.map .int)),some (.int d),none,none,none,none,none,none,none,none,none,none,none,none] []:=by
    generalize ns.map PV.int = nv at *
    simp -implicitDefEqProofs [hd]
  have t2' : mSet 2 (mOp oAdd (mC (.int 1)) (mOp oMod (mVar 1) (mC (.int 3)))) [some (.fro (ns.map .int)),some (.int d),none,none,none,none,none,none,none,none,none,none,none,none] [] = .nx [some (.fro (ns.map .int)),some (.int d),some (.int n),none,none,none,none,none,none,none,none,none,none,none] []:=by
    generalize ns.map PV.int = nv at *
    simp -implicitDefEqProofs [ea,hn]
  have t4' : mFor (gaName 4) (mRange1 (mCons (mOp oMod (mOp oDiv (mVar 1) (mC (.int 3))) (mC (.int 5))) mNil)) b_law_1 (g13 ns d n (some (.ref n)) none none none none none none none none none none) S0 = .nx (g13 ns d n (some (.ref n)) k1 c1 i1 j1 none none none none none none) S1:=by
    have hb : -1000000 <= (m : Int) /\ (m : Int) <= 1000000:=by omega
    unfold g13 at e1 ⊢
    generalize ns.map PV.int = nv at *
    simp -implicitDefEqProofs [em,hb,lim_eq,e1]
  rw [mSeqS_eq,t1']
  show mSeqS _ _ _ _ = _
  rw [mSeqS_eq,t2']
  show mSeqS _ _ _ _ = _
  rw [mSeqS_eq,t0]
  show mSeqS _ _ _ _ = _
  rw [mSeqS_eq,t4']
  show mSeqS _ _ _ _ = _
  rw [mSeqS_eq,e2]
  show mSeqS _ _ _ _ = _
  rw [mSeqS_eq,t8]
theorem pth_len {n : Nat} {tb : Tb} {ps : List (Nat × Nat)} (P : Pth n tb ps) : Wt' n tb -> (ps.length : Int) = offF n tb:=by
  induction P with
  | nil h=>intro w; rw [off_zero w h]; rfl
  | cons o _ ih=>
    intro w
    rw [List.length_cons]
    have:=ih (rb_wt w o)
    rw [off_step w o] at this
    push_cast
    omega
theorem ne13 : ¬ (Str.ofString "use" = Str.ofString "make") /\ ¬ (Str.ofString "use" = Str.ofString "lend") /\ ¬ (Str.ofString "lend" = Str.ofString "make") /\ ¬ (Str.ofString "rootless" = Str.ofString "short"):=by decide +kernel
theorem ne13b : (Str.ofString "rootless" == Str.ofString "short") = false:=by decide +kernel
theorem neI13 (st : Store) (a : Int) : oNe st (.int a) (.int a) = .ok (.bl false) st:=by simp [oNe,der,good,dep,peq]
theorem intsOf13 (ns : List Int) : intsOf (ns.map PV.int) = some ns:=by
  induction ns with
  | nil=>rfl
  | cons x ns ih=>rw [List.map_cons,intsOf,ih]; rfl
theorem place_ok {n : Nat} (x : Sp2) (st : Store) : F__law_b_place [.int n,spV n x] st = .ok (.int ((x.2.getD x.1 : Nat) : Int)) st:=by
  obtain ⟨a,p⟩:=x
  cases p with
  | none=>simp -implicitDefEqProofs [F__law_b_place,callF,m__law_b_place,spV,mkV,atI,ixN,oEq,der,good,dep,peq,fin,fz]
  | some pl=>
    by_cases q : pl = n
    · subst q
      simp -implicitDefEqProofs [F__law_b_place,callF,m__law_b_place,spV,stV,ne13,atI,ixN,oEq,der,good,dep,peq,fin,fz]
    · simp -implicitDefEqProofs [F__law_b_place,callF,m__law_b_place,spV,stV,q,ne13,atI,ixN,oEq,der,good,dep,peq,fin,fz]
theorem deed1_ok {n : Nat} (x : Sp2) (st : Store) : oIx st (spV n x) (.int 1) = .ok (.int ((x.1 : Nat) : Int)) st:=by
  obtain ⟨a,p⟩:=x
  cases p with
  | none=>simp [spV,mkV,atI,ixN]
  | some pl=>by_cases q : pl = n <;> simp [spV,stV,q,atI,ixN]
theorem okl_at {n : Nat} : ∀ (xs : List Sp2) (H : Nat -> Int),OkL n H xs -> ∀ {m : Nat} {x : Sp2},xs[m]? = some x -> okV n x
  | [],_,_,m,x,h=>by simp at h
  | y :: xs,H,⟨h1,h2⟩,0,x,h=>by
    have : y = x:=by simpa using h
    subst this; exact h1.1
  | y :: xs,H,⟨h1,h2⟩,m + 1,x,h=>okl_at xs _ h2 (by simpa using h)
theorem sp_le {n : Nat} {x : Sp2} (o : okV n x) : x.2.getD x.1 <= n:=by
  cases e : x.2 with
  | none=>exact Nat.le_of_lt o.1
  | some pl=>exact (o.2 pl e).1
theorem law13 {n : Nat} {d : Int} {tb : Tb} {ns : List Int} (w : Wt' n tb) (hn3 : n <= 3) (h6 : tot tb <= 6) (S : Store) (p : Nat) (k c i j : Option PV) : ∃ S',(mSeqS (mSet 9 (mCallF 1 F__law_b_reached (mCons (mVar 8) mNil)))
    (mSeqS (mSet 10 (mCallF 1 F_comes_about (mCons (mVar 8) mNil)))
    (mSeqS (mIfS (toB (mOp (oInT true) (mVar 8) (mVar 9))) (mRet (mOr (mOp oEq (mOp oIx (mVar 10) (mC (.int 0))) (mC (.str "short"))) (mOp oEq (mOp oIx (mVar 10) (mC (.int 0))) (mC (.str "rootless"))))) mNext)
    (mSeqS (mIfS (toB (mOp oNe (mOp oIx (mVar 10) (mC (.int 0))) (mC (.str "comes")))) (mRet (mC (.bl false))) mNext)
    (mSeqS (mSet 11 (mCall cTuple (mCons (mVal (mCompN [none,some 2] (gaName 0) (mRange1 (mCons (mVar 2) mNil)) mTrue e_law_3)) mNil)))
    (mSeqS (mSet 12 (mCallF 1 F_steps (mCons (mVar 8) mNil)))
    (mSeqS (mIfS (toB (mOp oNe (mCall cLen (mCons (mVar 12) mNil)) (mCall (cInts fun ns=>some (.int ns.sum)) (mCons (mVal (mCompN [none] (gaName 0) (mSeq (mVar 8)) mTrue e_law_4)) mNil)))) (mRet (mC (.bl false))) mNext)
    (mSeqS (mFor (gaName 13) (mSeq (mVar 12)) b_law_2)
    (mRet (mOp oEq (mVar 11) (mVar 8))))))))))) (g13 ns d n (some (.ref p)) k c i j (some (tabV tb)) none none none none none) S = .rt (.bl true) S':=by
  have h8:=w.n8
  obtain ⟨D,S1,ks,hDS,hD,hks,e1⟩:=reached_ok w h6 S
  obtain ⟨s,v,e2,hs⟩:=comes_ok13 w.sz (by omega) S1
  have t1 : mSet 9 (mCallF 1 F__law_b_reached (mCons (mVar 8) mNil)) (g13 ns d n (some (.ref p)) k c i j (some (tabV tb)) none none none none none) S = .nx (g13 ns d n (some (.ref p)) k c i j (some (tabV tb)) (some (.ref D)) none none none none) S1:=by
    unfold g13
    generalize ns.map PV.int = nv at *
    generalize tabV tb = TV at *
    simp -implicitDefEqProofs [e1]
  have t2 : mSet 10 (mCallF 1 F_comes_about (mCons (mVar 8) mNil)) (g13 ns d n (some (.ref p)) k c i j (some (tabV tb)) (some (.ref D)) none none none none) S1 = .nx (g13 ns d n (some (.ref p)) k c i j (some (tabV tb)) (some (.ref D)) (some (.tup [.str s,v])) none none none) S1:=by
    unfold g13
    generalize ns.map PV.int = nv at *
    generalize tabV tb = TV at *
    simp -implicitDefEqProofs [e2]
  have hin:=inT_ok hD tb
  rw [mSeqS_eq,t1]
  show ∃ S',mSeqS _ _ _ _ = _
  rw [mSeqS_eq,t2]
  show ∃ S',mSeqS _ _ _ _ = _
  rcases hs with ⟨hc,rfl⟩ | ⟨hc,hs⟩
  · have ca : Ca n tb:=by
      unfold comesB at hc
      rw [Bool.and_eq_true] at hc
      exact Ca.of_reach (fun h hh=>by simpa using List.all_eq_true.mp hc.1 h (List.mem_range.mpr hh)) hc.2
    have htot : totF n tb <= 300:=by rw [<- tot_sum w.sz]; show tot tb <= 300; omega
    obtain ⟨ps,P,hl,e3⟩:=steps_ok w ca htot S1
    obtain ⟨o1,o2⟩:=all_ok w P
    have hX : (mkU tb n ++ ps.map (stV n)) = (mkL tb n ++ psL ps).map (spV n):=by rw [List.map_append,mkL_V,psL_V]
    rw [hX] at e3 hl
    have hlen : (((mkL tb n ++ psL ps).map (spV n)).length : Int) = tot tb:=by
      rw [<- hX,List.length_append,List.length_map]
      push_cast
      rw [mkU_len (fun g hg=>w.ent_nn hg (Nat.le_of_lt hg)) n (Nat.le_refl n),pth_len P w,<- tot_off w,<- tot_sum w.sz]
      rfl
    have hmem : ∀ m,m <= (mkL tb n ++ psL ps).length -> ((mkL tb n ++ psL ps).take m).foldl stR (bT n) ∈ ks:=fun m hm=>(hks _).mpr (steps_rt w P m hm)
    have hrt : ∀ m,m <= (mkL tb n ++ psL ps).length -> RT n tb (((mkL tb n ++ psL ps).take m).foldl stR (bT n)):=fun m hm=>steps_rt w P m hm
    have htb : tb ∈ ks:=by
      have:=hmem _ (Nat.le_refl _)
      rw [List.take_length] at this
      rw [show (mkL tb n ++ psL ps).foldl stR (bT n) = tb from o2] at this
      exact this
    rw [decide_eq_true htb] at hin
    generalize hxs : mkL tb n ++ psL ps = xs at *
    have t3 : mIfS (toB (mOp (oInT true) (mVar 8) (mVar 9))) (mRet (mOr (mOp oEq (mOp oIx (mVar 10) (mC (.int 0))) (mC (.str "short"))) (mOp oEq (mOp oIx (mVar 10) (mC (.int 0))) (mC (.str "rootless"))))) mNext (g13 ns d n (some (.ref p)) k c i j (some (tabV tb)) (some (.ref D)) (some (.tup [.str "comes",v])) none none none) S1 = .nx (g13 ns d n (some (.ref p)) k c i j (some (tabV tb)) (some (.ref D)) (some (.tup [.str "comes",v])) none none none) S1:=by
      unfold g13
      generalize ns.map PV.int = nv at *
      generalize tabV tb = TV at *
      simp -implicitDefEqProofs [hin]
    have t4 : mIfS (toB (mOp oNe (mOp oIx (mVar 10) (mC (.int 0))) (mC (.str "comes")))) (mRet (mC (.bl false))) mNext (g13 ns d n (some (.ref p)) k c i j (some (tabV tb)) (some (.ref D)) (some (.tup [.str "comes",v])) none none none) S1 = .nx (g13 ns d n (some (.ref p)) k c i j (some (tabV tb)) (some (.ref D)) (some (.tup [.str "comes",v])) none none none) S1:=by
      unfold g13
      generalize ns.map PV.int = nv at *
      generalize tabV tb = TV at *
      simp -implicitDefEqProofs [atI,ixN,oNe,der,good,dep,peq]
    have hb:=bare13 n h8 e_law_3 rfl 2 (g13 ns d n (some (.ref p)) k c i j (some (tabV tb)) (some (.ref D)) (some (.tup [.str "comes",v])) none none none) rfl S1
    have t5 : mSet 11 (mCall cTuple (mCons (mVal (mCompN [none,some 2] (gaName 0) (mRange1 (mCons (mVar 2) mNil)) mTrue e_law_3)) mNil)) (g13 ns d n (some (.ref p)) k c i j (some (tabV tb)) (some (.ref D)) (some (.tup [.str "comes",v])) none none none) S1 = .nx (g13 ns d n (some (.ref p)) k c i j (some (tabV tb)) (some (.ref D)) (some (.tup [.str "comes",v])) (some (tabV (bT n))) none none) S1:=by
      have hn1 : -1000000 <= (n : Int) /\ (n : Int) <= 1000000:=by omega
      have hbl : ((bT n).map rowV).length <= 1000000:=by simp; omega
      have et : tabV (bT n) = .tup ((bT n).map rowV):=rfl
      rw [et]
      unfold g13 at hb ⊢
      generalize ns.map PV.int = nv at *
      generalize (bT n).map rowV = bv at *
      generalize tabV tb = TV at *
      simp -implicitDefEqProofs [hn1,lim_eq,hb,hbl]
    obtain ⟨S2,hS2⟩ : ∃ S2,S1 ++ [Cell.lst (xs.map (spV n))] = S2:=⟨_,rfl⟩
    rw [hS2] at e3
    have t6 : mSet 12 (mCallF 1 F_steps (mCons (mVar 8) mNil)) (g13 ns d n (some (.ref p)) k c i j (some (tabV tb)) (some (.ref D)) (some (.tup [.str "comes",v])) (some (tabV (bT n))) none none) S1 = .nx (g13 ns d n (some (.ref p)) k c i j (some (tabV tb)) (some (.ref D)) (some (.tup [.str "comes",v])) (some (tabV (bT n))) (some (.ref S1.length)) none) S2:=by
      unfold g13
      generalize ns.map PV.int = nv at *
      generalize tabV (bT n) = bv at *
      generalize tabV tb = TV at *
      simp -implicitDefEqProofs [e3]
    have hD2 : S2[D]? = some (.dtp (seenV ks)):=by rw [<- hS2,List.getElem?_append_left (List.getElem?_eq_some_iff.mp hD).1]; exact hD
    have hL2 : S2[S1.length]? = some (.lst (xs.map (spV n))):=by rw [<- hS2]; simp
    have hl2 : ListAt S2 (.ref S1.length) (xs.map (spV n)):=.inr (.inr ⟨_,rfl,hL2⟩)
    have hto:=tot_ok w.sz h8 e_law_4 rfl (g13 ns d n (some (.ref p)) k c i j (some (tabV tb)) (some (.ref D)) (some (.tup [.str "comes",v])) (some (tabV (bT n))) (some (.ref S1.length)) none) S2
    have t7 : mIfS (toB (mOp oNe (mCall cLen (mCons (mVar 12) mNil)) (mCall (cInts fun ns=>some (.int ns.sum)) (mCons (mVal (mCompN [none] (gaName 0) (mSeq (mVar 8)) mTrue e_law_4)) mNil)))) (mRet (mC (.bl false))) mNext (g13 ns d n (some (.ref p)) k c i j (some (tabV tb)) (some (.ref D)) (some (.tup [.str "comes",v])) (some (tabV (bT n))) (some (.ref S1.length)) none) S2 = .nx (g13 ns d n (some (.ref p)) k c i j (some (tabV tb)) (some (.ref D)) (some (.tup [.str "comes",v])) (some (tabV (bT n))) (some (.ref S1.length)) none) S2:=by
      have hlen2 : cLen S2 [.ref S1.length] = .ok (.int (tot tb)) S2:=by rw [hl2.len,hlen]
      have hsrc : srcOf S2 (tabV tb) = some (tb.map rowV,[]):=rfl
      have hll : (tb.map rowV).length <= 1000000:=by rw [List.length_map,w.len]; omega
      have hci : intsOf ((tb.map List.sum).map PV.int) = some (tb.map List.sum):=intsOf13 _
      have hsl : ((tb.map List.sum).map PV.int).length <= 1000000:=by rw [List.length_map,List.length_map,w.len]; omega
      unfold g13 at hto ⊢
      unfold tot at hlen2
      generalize ns.map PV.int = nv at *
      generalize tabV (bT n) = bv at *
      generalize tb.map rowV = tv at *
      generalize tb.map List.sum = sv at *
      generalize tabV tb = TV at *
      simp -implicitDefEqProofs [hlen2,hsrc,hll,lim_eq,hto,hci,hsl,neI13,-srcOf_r,-cLen_r]
    obtain ⟨wt,hs2,hw2⟩:=hl2.src
    obtain ⟨Γ3,S3,e4,c13,rfl,rfl⟩:=forG_inv (g:=spV n) (xs:=xs) (ga:=gaName 13) (body:=b_law_2) (w:=wt) (Γ:=g13 ns d n (some (.ref p)) k c i j (some (tabV tb)) (some (.ref D)) (some (.tup [.str "comes",v])) (some (tabV (bT n))) (some (.ref S1.length)) none) (st:=S2)
      (fun m Γ st'=>∃ c13,Γ = g13 ns d n (some (.ref p)) k c i j (some (tabV tb)) (some (.ref D)) (some (.tup [.str "comes",v])) (some (tabV ((xs.take m).foldl stR (bT n)))) (some (.ref S1.length)) c13 /\ st' = S2)
      (fun _ _ st ⟨_,_,e⟩=>by rw [e]; exact hw2)
      (fun m x Γ st' hx ⟨c13,g1,g2⟩=>by
        subst g1
        subst g2
        have hm : m < xs.length:=(List.getElem?_eq_some_iff.mp hx).1
        obtain ⟨wR,_,_⟩:=(hrt m (by omega)).ok w
        have hmem2:=hmem (m + 1) (by omega)
        have etk : xs.take (m + 1) = xs.take m ++ [x]:=by rw [List.take_add_one,hx]; rfl
        rw [etk,List.foldl_append] at hmem2
        have ox:=okl_at xs _ o1 hx
        have m1:=more_ok wR ox.1 (sp_le ox) st'
        have m2:=place_ok (n:=n) x st'
        have m3:=deed1_ok (n:=n) x st'
        have m4:=inT_ok hD2 (((xs.take m) ++ [x]).foldl stR (bT n))
        rw [List.foldl_append,decide_eq_true hmem2] at m4
        have m4 : oInT true st' (tabV (stR ((xs.take m).foldl stR (bT n)) x)) (.ref D) = .ok (.bl (!true)) st':=m4
        have m1 : F__law_b_one_more [tabV ((xs.take m).foldl stR (bT n)),.int x.1,.int ((x.2.getD x.1 : Nat) : Int)] st' = .ok (tabV (stR ((xs.take m).foldl stR (bT n)) x)) st':=m1
        refine ⟨_,rfl,g13 ns d n (some (.ref p)) k c i j (some (tabV tb)) (some (.ref D)) (some (.tup [.str "comes",v])) (some (tabV (stR ((xs.take m).foldl stR (bT n)) x))) (some (.ref S1.length)) (some (spV n x)),st',?_,some (spV n x),by rw [etk,List.foldl_append]; rfl,rfl⟩
        show b_law_2 (g13 ns d n (some (.ref p)) k c i j (some (tabV tb)) (some (.ref D)) (some (.tup [.str "comes",v])) (some (tabV ((xs.take m).foldl stR (bT n)))) (some (.ref S1.length)) (some (spV n x))) st' = _
        unfold g13
        generalize ns.map PV.int = nv at *
        generalize tabV (stR ((xs.take m).foldl stR (bT n)) x) = hv at *
        generalize tabV ((xs.take m).foldl stR (bT n)) = gv at *
        generalize tabV tb = TV at *
        generalize spV n x = dv at *
        simp -implicitDefEqProofs [b_law_2,m1,m2,m3,m4,-oIx_r])
      ⟨none,rfl,rfl⟩
    rw [List.take_length,show xs.foldl stR (bT n) = tb from o2] at e4
    refine ⟨S3,?_⟩
    rw [mSeqS_eq,t3]
    show mSeqS _ _ _ _ = _
    rw [mSeqS_eq,t4]
    show mSeqS _ _ _ _ = _
    rw [mSeqS_eq,t5]
    show mSeqS _ _ _ _ = _
    rw [mSeqS_eq,t6]
    show mSeqS _ _ _ _ = _
    rw [mSeqS_eq,t7]
    show mSeqS _ _ _ _ = _
    have hx3 : (xs.map (spV n)).length <= 1000000:=by omega
    have t8 : mFor (gaName 13) (mSeq (mVar 12)) b_law_2 (g13 ns d n (some (.ref p)) k c i j (some (tabV tb)) (some (.ref D)) (some (.tup [.str "comes",v])) (some (tabV (bT n))) (some (.ref S1.length)) none) S3 = .nx (g13 ns d n (some (.ref p)) k c i j (some (tabV tb)) (some (.ref D)) (some (.tup [.str "comes",v])) (some (tabV tb)) (some (.ref S1.length)) c13) S3:=by
      unfold g13 at e4 ⊢
      generalize ns.map PV.int = nv at *
      generalize tabV (bT n) = bv at *
      generalize tabV tb = TV at *
      generalize xs.map (spV n) = xv at *
      simp -implicitDefEqProofs [hs2,hx3,lim_eq,e4,-srcOf_r]
    rw [mSeqS_eq,t8]
    show mRet _ _ _ = _
    have heq : oEq S3 (tabV tb) (tabV tb) = .ok (.bl true) S3:=by
      have g : good dep (tabV tb) = true:=by simp [good,dep,tabV,rowV]
      have hd : der S3 (tabV tb) = tabV tb:=rfl
      unfold oEq
      rw [hd,if_pos ⟨g,g⟩,peq_self g]
    unfold g13
    generalize ns.map PV.int = nv at *
    generalize tabV tb = TV at *
    simp -implicitDefEqProofs [heq]
  · have htb : tb ∉ ks:=fun h=>by
      have:=((hks tb).mp h).ok w
      rw [this.2.1.comes] at hc
      cases hc
    rw [decide_eq_false htb] at hin
    refine ⟨S1,?_⟩
    have t3 : mIfS (toB (mOp (oInT true) (mVar 8) (mVar 9))) (mRet (mOr (mOp oEq (mOp oIx (mVar 10) (mC (.int 0))) (mC (.str "short"))) (mOp oEq (mOp oIx (mVar 10) (mC (.int 0))) (mC (.str "rootless"))))) mNext (g13 ns d n (some (.ref p)) k c i j (some (tabV tb)) (some (.ref D)) (some (.tup [.str s,v])) none none none) S1 = .rt (.bl true) S1:=by
      unfold g13
      generalize ns.map PV.int = nv at *
      generalize tabV tb = TV at *
      rcases hs with rfl | rfl
      · simp -implicitDefEqProofs [hin,atI,ixN,oEq,der,good,dep,peq,mOr,ne13b]
      · simp -implicitDefEqProofs [hin,atI,ixN,oEq,der,good,dep,peq,mOr,ne13b]
    rw [mSeqS_eq,t3]
theorem law_true (ns : List Int) : ∃ st',F_law [.fro (ns.map .int)] [] = .ok (.bl true) st':=by
  obtain ⟨n,d,tb,S,p,k,c,i,j,w,hn3,h6,hY⟩:=table13 ns
  obtain ⟨S',e⟩:=law13 (d:=d) (ns:=ns) w hn3 h6 S p k c i j
  have step : m_law [some (.fro (ns.map .int)),none,none,none,none,none,none,none,none,none,none,none,none,none] [] = .rt (.bl true) S':=by
    unfold m_law
    rw [hY,e]
  refine ⟨[],?_⟩
  show callF m_law 14 _ [] = _
  unfold callF
  rw [show (([PV.fro (ns.map .int)] : List PV).map some ++ List.replicate (14 - [PV.fro (ns.map .int)].length) none) = [some (.fro (ns.map .int)),none,none,none,none,none,none,none,none,none,none,none,none,none] from rfl,step]
  simp [fin,fz]
theorem law_all : ∀ ns : List Int,ns.length <= 63 -> ∃ st',F_law [.fro (ns.map .int)] [] = .ok (.bl true) st':=fun ns _=>law_true ns
end Lw
namespace Lw
open PySem PySem.Spec L2 Sm
theorem all_mk {l : PySem.W.OpenLaw} {w : World} {K : PySem.W.Frag} {h : Heap} {mg : Str -> Option Value} {fa f1 f2 f3 f4 f5 f6 f7 f8 f9 f10 f11 f12 f13 f14 f15 f16 f17 f18 f19 f20 f21 f22 f23 f24 f25 f26 f27 : Addr} (X : K.In h) (G : h.Ns mainGlobals mg) (hfa : mg "law" = some (.ref fa))
    {od27 an27 : Option Addr} {sl27 : Array (Option Value)} {oc27 kV27 dc27 pm27 cd27 ct27 : Value}
    {e_NoHouse e_NoTable e_TooMany : Addr}
    {t_MOST_HOUSES : Tok}
    {t_MOST_STEPS : Tok}
    (a27 : PySem.W.nsIn K mainGlobals "law" = some (some (.ref f27)))
    (l27 : K.lookup f27 = some ⟨oc27,od27,.func (PySem.W.fnOf "law" "law" (defArgs s_law) (defBody s_law) (defScope s_law) .none kV27 dc27 pm27 an27 cd27 ct27),sl27⟩)
    (c27 : PySem.W.codeIn K cd27 "law" = true)
    (k27 : PySem.W.keepIn K (.ref f27) = true)
    (z_all : PySem.W.nsIn K mainGlobals "all" = some none)
    (z_any : PySem.W.nsIn K mainGlobals "any" = some none)
    (z_bool : PySem.W.nsIn K mainGlobals "bool" = some none)
    (z_enumerate : PySem.W.nsIn K mainGlobals "enumerate" = some none)
    (z_int : PySem.W.nsIn K mainGlobals "int" = some none)
    (z_isinstance : PySem.W.nsIn K mainGlobals "isinstance" = some none)
    (z_len : PySem.W.nsIn K mainGlobals "len" = some none)
    (z_list : PySem.W.nsIn K mainGlobals "list" = some none)
    (z_range : PySem.W.nsIn K mainGlobals "range" = some none)
    (z_sum : PySem.W.nsIn K mainGlobals "sum" = some none)
    (z_tuple : PySem.W.nsIn K mainGlobals "tuple" = some none)
    (v_MOST_HOUSES : PySem.W.nsIn K mainGlobals "MOST_HOUSES" = some (some (.int 8 t_MOST_HOUSES)))
    (v_MOST_STEPS : PySem.W.nsIn K mainGlobals "MOST_STEPS" = some (some (.int 300 t_MOST_STEPS)))
    (n_NoHouse : PySem.W.nsIn K mainGlobals "NoHouse" = some (some (.ref e_NoHouse)))
    (n_NoTable : PySem.W.nsIn K mainGlobals "NoTable" = some (some (.ref e_NoTable)))
    (n_TooMany : PySem.W.nsIn K mainGlobals "TooMany" = some (some (.ref e_TooMany)))
    (h1 : FA K "is_whole" s_is_whole f1)
    (h2 : FA K "is_between" s_is_between f2)
    (h3 : FA K "is_row" s_is_row f3)
    (h4 : FA K "is_table" s_is_table f4)
    (h5 : FA K "is_house" s_is_house f5)
    (h6 : FA K "rights" s_rights f6)
    (h7 : FA K "raised" s_raised f7)
    (h8 : FA K "made_some" s_made_some f8)
    (h9 : FA K "lent_or_used_some" s_lent_or_used_some f9)
    (h10 : FA K "was_lent_some" s_was_lent_some f10)
    (h11 : FA K "has_root" s_has_root f11)
    (h12 : FA K "rooted_houses" s_rooted_houses f12)
    (h13 : FA K "rootless_houses" s_rootless_houses f13)
    (h14 : FA K "comes_about" s_comes_about f14)
    (h15 : FA K "does_come_about" s_does_come_about f15)
    (h16 : FA K "need_comes_about" s_need_comes_about f16)
    (h17 : FA K "open_places" s_open_places f17)
    (h18 : FA K "rest_behind" s_rest_behind f18)
    (h19 : FA K "next_place" s_next_place f19)
    (h20 : FA K "step_at" s_step_at f20)
    (h21 : FA K "steps" s_steps f21)
    (h22 : FA K "_law_b_draw" s__law_b_draw f22)
    (h23 : FA K "_law_b_rights" s__law_b_rights f23)
    (h24 : FA K "_law_b_one_more" s__law_b_one_more f24)
    (h25 : FA K "_law_b_reached" s__law_b_reached f25)
    (h26 : FA K "_law_b_place" s__law_b_place f26)
    (x_NoHouse : PySem.W.excIn K e_NoHouse bmVE "ValueError.__new__" = true)
    (x_NoTable : PySem.W.excIn K e_NoTable bmVE "ValueError.__new__" = true)
    (x_TooMany : PySem.W.excIn K e_TooMany bmVE "ValueError.__new__" = true)
    (hL : noL K = true) :
    ∃ fd : FuncData,(∀ (s : Shared) (v : Value),BindsTo s fd ⟨[v],[]⟩ [("script",v)]) /\ ∀ base : Heap,K.In base -> base.Ns mainGlobals mg -> FnOk l.prog w K mg base (CXD l.prog w) 9 fa fd ["script"] (spLawS K):=by
  have e:=hfa.symm.trans (PySem.W.mg_of X G a27)
  cases e
  have T : Txt mg:=⟨PySem.W.mg_none_of X G z_all,PySem.W.mg_none_of X G z_any,PySem.W.mg_none_of X G z_bool,PySem.W.mg_none_of X G z_enumerate,PySem.W.mg_none_of X G z_int,PySem.W.mg_none_of X G z_isinstance,PySem.W.mg_none_of X G z_len,PySem.W.mg_none_of X G z_list,PySem.W.mg_none_of X G z_range,PySem.W.mg_none_of X G z_sum,PySem.W.mg_none_of X G z_tuple,⟨_,PySem.W.mg_of X G v_MOST_HOUSES⟩,⟨_,PySem.W.mg_of X G v_MOST_STEPS⟩⟩
  have C_NoHouse : ∃ C,mg "NoHouse" = some (.ref C) /\ PySem.W.excIn K C bmVE "ValueError.__new__" = true:=⟨_,PySem.W.mg_of X G n_NoHouse,x_NoHouse⟩
  have C_NoTable : ∃ C,mg "NoTable" = some (.ref C) /\ PySem.W.excIn K C bmVE "ValueError.__new__" = true:=⟨_,PySem.W.mg_of X G n_NoTable,x_NoTable⟩
  have C_TooMany : ∃ C,mg "TooMany" = some (.ref C) /\ PySem.W.excIn K C bmVE "ValueError.__new__" = true:=⟨_,PySem.W.mg_of X G n_TooMany,x_TooMany⟩
  obtain ⟨_,A1⟩:=atS2 ["thing"] X G h1
  obtain ⟨_,A2⟩:=atS2 ["thing", "least", "most"] X G h2
  obtain ⟨_,A3⟩:=atS2 ["thing", "n"] X G h3
  obtain ⟨_,A4⟩:=atS2 ["thing"] X G h4
  obtain ⟨_,A5⟩:=atS2 ["table", "thing"] X G h5
  obtain ⟨_,A6⟩:=atS2 ["table", "house"] X G h6
  obtain ⟨_,A7⟩:=atS2 ["table", "house", "place", "k"] X G h7
  obtain ⟨_,A8⟩:=atS2 ["table", "house"] X G h8
  obtain ⟨_,A9⟩:=atS2 ["table", "house"] X G h9
  obtain ⟨_,A10⟩:=atS2 ["table", "house", "lenders"] X G h10
  obtain ⟨_,A11⟩:=atS2 ["table", "house", "ahead"] X G h11
  obtain ⟨_,A12⟩:=atS2 ["table"] X G h12
  obtain ⟨_,A13⟩:=atS2 ["table"] X G h13
  obtain ⟨_,A14⟩:=atS2 ["table"] X G h14
  obtain ⟨_,A15⟩:=atS2 ["thing"] X G h15
  obtain ⟨_,A16⟩:=atS2 ["thing"] X G h16
  obtain ⟨_,A17⟩:=atS2 ["rest"] X G h17
  obtain ⟨_,A18⟩:=atS2 ["rest", "house", "place"] X G h18
  obtain ⟨_,A19⟩:=atS2 ["rest"] X G h19
  obtain ⟨_,A20⟩:=atS2 ["rest", "house", "place"] X G h20
  obtain ⟨_,A21⟩:=atS2 ["table"] X G h21
  obtain ⟨_,A22⟩:=atS2 ["script", "k"] X G h22
  obtain ⟨_,A23⟩:=atS2 ["table", "house"] X G h23
  obtain ⟨_,A24⟩:=atS2 ["table", "i", "j"] X G h24
  obtain ⟨_,A25⟩:=atS2 ["table"] X G h25
  obtain ⟨_,A26⟩:=atS2 ["n", "deed"] X G h26
  have A27:=atS_mk (st:=s_law) (ps:=["script"]) X G a27 l27 c27 k27 fun _ _ _ _ _ _ us hl=>match us,hl with | [_],_=>rfl
  refine ⟨PySem.W.fnOf "law" "law" (defArgs s_law) (defBody s_law) (defScope s_law) .none kV27 dc27 pm27 an27 cd27 ct27,fun s v=>.of_eq rfl,fun base kb nb=>?_⟩
  have D_is_whole:=A1.d l.prog w base rfl (ok_is_whole A1.F T    )
  have D_is_between:=A2.d l.prog w base rfl (ok_is_between A2.F T   D_is_whole )
  have D_is_row:=A3.d l.prog w base rfl (ok_is_row A3.F T   D_is_whole )
  have D_is_table:=A4.d l.prog w base rfl (ok_is_table A4.F T   D_is_row )
  have D_is_house:=A5.d l.prog w base rfl (ok_is_house A5.F T   D_is_between )
  have D_rights:=A6.d l.prog w base rfl (ok_rights A6.F T  C_NoHouse D_is_house )
  have D_raised:=A7.d l.prog w base rfl (ok_raised A7.F T    )
  have D_made_some:=A8.d l.prog w base rfl (ok_made_some A8.F T    )
  have D_lent_or_used_some:=A9.d l.prog w base rfl (ok_lent_or_used_some A9.F T    )
  have D_was_lent_some:=A10.d l.prog w base rfl (ok_was_lent_some A10.F T    )
  have D_has_root:=A11.d l.prog w base rfl (ok_has_root A11.F T   D_made_some D_was_lent_some )
  have D_rooted_houses:=A12.d l.prog w base rfl (ok_rooted_houses A12.F T   D_has_root )
  have D_rootless_houses:=A13.d l.prog w base rfl (ok_rootless_houses A13.F T   D_rooted_houses D_lent_or_used_some )
  have D_comes_about:=A14.d l.prog w base rfl (ok_comes_about A14.F T   D_rights D_rootless_houses D_rooted_houses )
  have D_does_come_about:=A15.d l.prog w base rfl (ok_does_come_about A15.F T   D_is_table D_comes_about )
  have D_need_comes_about:=A16.d l.prog w base rfl (ok_need_comes_about A16.F T  C_NoTable D_does_come_about )
  have D_open_places:=A17.d l.prog w base rfl (ok_open_places A17.F T   D_made_some )
  have D_rest_behind:=A18.d l.prog w base rfl (ok_rest_behind A18.F T   D_raised )
  have D_next_place:=A19.d l.prog w base rfl (ok_next_place A19.F T   D_open_places D_rootless_houses D_rest_behind )
  have D_step_at:=A20.d l.prog w base rfl (ok_step_at A20.F T    )
  have D_steps:=A21.d l.prog w base rfl (ok_steps A21.F T  C_TooMany D_need_comes_about D_next_place D_step_at D_rest_behind )
  have D__law_b_draw:=A22.d l.prog w base rfl (ok__law_b_draw A22.F T    )
  have D__law_b_rights:=A23.d l.prog w base rfl (ok__law_b_rights A23.F T    )
  have D__law_b_one_more:=A24.d l.prog w base rfl (ok__law_b_one_more A24.F T    )
  have D__law_b_reached:=A25.d l.prog w base rfl (ok__law_b_reached A25.F T   D__law_b_rights D__law_b_one_more )
  have D__law_b_place:=A26.d l.prog w base rfl (ok__law_b_place A26.F T    )
  exact law_imp hL (ok_law A27.F T   D__law_b_draw D__law_b_reached D_comes_about D_steps D__law_b_one_more D__law_b_place ) law_all
end Lw
theorem PySem.W.Fast.tw15010906960258222607 : True := trivial
theorem PySem.W.Fast.tw11057710993981331627 : True := trivial
theorem PySem.W.Fast.tw6725224464561406926 : True := trivial
theorem PySem.W.Fast.tw6169130383675632600 : True := trivial
theorem PySem.W.Fast.tw9448493686985383095 : True := trivial
theorem PySem.W.Fast.tw14779677039055989257 : True := trivial
theorem PySem.W.Fast.tw13861398692701549878 : True := trivial
theorem PySem.W.Fast.te3359973084798271613 : True := trivial
open PySem PySem.W PyProof.Rows Sm
set_option maxRecDepth 100000 in
set_option maxHeartbeats 0 in
theorem PySem.Challenge.cw_lendwharf_k13_whole_by_all_rows_of_deeds_holds : PySem.Challenge.rw_lendwharf_k13_whole_by_all_rows_of_deeds.Holds := by
  w_on; o_law; k_head; (case hw=>w_witness2)
  k_fill
  refine Sm.walkS (l:=PySem.Challenge.rw_lendwharf_k13_whole_by_all_rows_of_deeds) (k:=9) rfl ⟨rfl,by decide,by decide⟩ rfl (fun w h Y=>PySem.W.kIn_of Y) ?F
  case F=>
    intro w mg fa h KX G hmg
    refine' Lw.all_mk KX G hmg ..
    any_goals k_is
    any_goals exact FA.mk (by k_is) (by k_is) (by k_is) (by k_is)
    any_goals k_exc
    all_goals first | rfl | decide
