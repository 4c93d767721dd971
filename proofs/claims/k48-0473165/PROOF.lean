import PyProof.Rows.All
import Wide.All
import OpenK.AllK
import Wide.FinOn
import Lean
import PyProof.EqAt
import PyProof.EqKinds
import PyProof.TupleCall
import PyProof.ZipIter
import PyProof.Draws
import PyProof.SumAny
import PyProof.EnumMake
import PyProof.WalkInts
import PyProof.ExcArgsOwn
import PyProof.ExcAttrAll.ValueError
import PyProof.NsDelKeeps
import KE.KTryMore
import OpenK.KOwn
import PyProof.ListMulRoad
import PyProof.FactsAll.tuple_2
import PyProof.NeKinds
import PyProof.Rows.RuleIs
import PyProof.ExcInit
import PyProof.ExcClass3
import OpenK.KCls
import PyProof.InstStoreFacts
import OpenK.KMake
import PyProof.DictRoads
import PyProof.Rows.CountFlat
import PyProof.ListRange
import PyProof.Rows.SetFrom
import PyProof.CollectStr
import PyProof.Rows.TupMore
import PyProof.AttrMissHeap
import KE.KDictOf
import PyProof.DictWalks
import KE.KSortTup
import PyProof.DictItemsLoops
import KE.KDictList
import PyProof.CallStr
import PyProof.StrWalks
import PyProof.StrOps
import PyProof.StrCalls2
import KE.KRevIter
import PyProof.Rows.StrOrd
import PyProof.Rows.StrNews
import PyProof.JoinWalk
import PyProof.CollectIter
import PyProof.Conv_int
import PyProof.FactsAll.str
import PyProof.Conv_int_bool
import PySem.Challenge.RW_lendwharf_k48_first_come_first_served
open Lean Parser Command in
local macro_rules|`(command|def $i:declId $s:optDeclSig $v:declVal)=>`(command|noncomputable def $i $s:optDeclSig $v:declVal)
open Lean Parser Command in
local macro_rules|`(command|abbrev $i:declId $s:optDeclSig $v:declVal)=>`(command|noncomputable abbrev $i $s:optDeclSig $v:declVal)
set_option Elab.async false
set_option linter.all false
set_option maxRecDepth 100000
set_option maxHeartbeats 4000000
open List renaming getElem?_eq_some_iff -> O0, length_map -> O1, getElem?_eq_getElem -> O2, getD_eq_getElem?_getD -> O3, mem_cons_of_mem -> O4, getElem?_append_left -> O6, length_append -> O7, mem_cons_self -> O9, size_toArray -> D0, map_cons -> D3, mem_append -> D4, getElem?_append_right -> D5, mem_map -> D7, mem_cons -> D8, map_append -> E3, length_cons -> E4, getElem?_set_ne -> E5, mem_of_getElem? -> E6, map_map -> E7, getElem?_set_self -> F0, map_congr_left -> F3, getElem?_map -> F4, all_eq_true -> F5, length_range -> F6, getElem_mem -> F7, mem_append_right -> G6, append_nil -> G7, getElem?_eq_none -> G8, sum_cons -> G9, nodup_cons -> L5, length_set -> L6, mem_range -> M0, mem_append_left -> M6, append_assoc -> N4
open PySem.Heap renaming get?_push_of_some -> O5, lt_size -> D9, get?_push_size -> E8, size_push -> L7, get?_update_other -> M7, get?_update_self -> N0
open Nat renaming le_refl -> O8, lt_of_lt_of_le -> E2, ne_of_lt -> F8, le_trans -> F9, sub_self -> L0, zero_le -> M9
open Bool renaming false_ne_true -> E9, and_eq_true -> L8, false_eq_true -> L9
open PySem renaming Value -> aA, Addr -> aB, Shared -> aC, wpAny_bind -> aD, wpAny -> aF, Expr -> aH, model -> aI, World -> aJ, Stmt -> aK, eval -> aL, Program -> aM, starEach -> aN, cLine -> aO, FuncData -> aP, Around -> aQ, compareOp -> aR, mainGlobals -> aS, IsPair -> aU, binaryOp -> aV, bootBuiltins -> aW, backTo -> aX, wpAny_field -> aY, sysModules -> aZ, wpAny_holding -> aa, rawInt -> ae, cellsFrom -> af, wpAny_call_entry -> ag, wpAny_rule -> ah, wpAny_mono -> ak, NameKind -> ao, Paired -> aq, assignEach -> ar, pyNext -> au, foldedSetIterable -> av, wpAny_truthy_bool -> aw, holding -> ay, wpAny_seqItems -> az, call_meets -> bA, wpAny_newObj_type -> bB, attributeBase -> bC, wpAny_passesOwn -> bD, sliceBounds -> bF, valueAt -> bG, behindInMarks -> bH, wpAny_setField_rec -> bI, wpAny_pyIter_tuple -> bJ, wpAny_isInstance -> bK, codeAny_mono -> bL, wpAny_typeOf -> bM
noncomputable section
theorem bN {c:Prop}{h:Decidable c}(B:c){α:Sort _}{t e:α}:ite c t e=t:=if_pos B
theorem bO {c:Prop}{h:Decidable c}(B:¬c){α:Sort _}{t e:α}:ite c t e=e:=if_neg B
theorem bP {p:Prop}[i:Decidable p](h:¬p):decide p=false:=decide_eq_false h
theorem bQ {p:Prop}[i:Decidable p](h:p):decide p=true:=decide_eq_true h
namespace L2
open PySem PySem.Spec PyProof.Rows
variable {h:Heap} {a b it dx:aB} {α:Type} {es:Array DictEntry} {k t' n:Nat} {Q:Unit->aC->Prop} {us:List aA} {u:aA} {g':Array GenState} {d':Drawn} {ch fp:List aB} {M:Model} {A:aQ} {E:aA->aC->Prop} {c tg l:aH} {K:PySem.W.Frag} {g:Int->Int->Int} {op:Operator} {f:aA->aA->Sem aA} {mA mg:Str->Option aA} {fd:aP} {ps:List Str}
section
abbrev Key:=Sum Int Str
def Q3c:Key->aA->Bool
 | .inl k,v=>Value.isInt k v
 | .inr x,v=>Value.isStrOf x v
def Qx4 (w:aJ):Key->Int
 | .inl k=>hashInt k
 | .inr x=>hashStr w x
theorem Jv:∀ {k:Key} {v:aA},Q3c k v=true->(∃ i t,k=Sum.inl i/\v=Value.int i t)\/(∃ x t,k=Sum.inr x/\v=Value.str x t)
 | .inl i,v,h=>by
  obtain ⟨t,e⟩:=Value.isInt_shape (k:=i) (v:=v) h;exact .inl ⟨i,t,rfl,e⟩
 | .inr x,v,h=>by
  obtain ⟨t,e⟩:=Value.isStrOf_shape (x:=x) (v:=v) h;exact .inr ⟨x,t,rfl,e⟩
theorem yr (i:Int) (t:Tok):Q3c (.inl i) (.int i t)=true:=by simp [Q3c,Value.isInt]
theorem yq (x:Str) (t:Tok):Q3c (.inr x) (.str x t)=true:=by simp [Q3c,Value.isStrOf]
theorem Qqj (a b:Int):decide ((Sum.inl a:Key)=Sum.inl b)=(a == b):=by
 by_cases e:a=b
 ·subst e; simp
 ·have h:¬ (Sum.inl a:Key)=Sum.inl b:=fun q=>e (Sum.inl.inj q)
  rw [bP h];exact (beq_eq_false_iff_ne.mpr e).symm
theorem Qqg (a b:Str):decide ((Sum.inr a:Key)=Sum.inr b)=decide (a=b):=by
 by_cases e:a=b
 ·subst e; simp
 ·have h:¬ (Sum.inr a:Key)=Sum.inr b:=fun q=>e (Sum.inr.inj q)
  rw [bP h,bP e]
theorem Qqi (a:Int) (b:Str):decide ((Sum.inl a:Key)=Sum.inr b)=false:=bP (fun q=>nomatch q)
theorem Qqh (a:Str) (b:Int):decide ((Sum.inr a:Key)=Sum.inl b)=false:=bP (fun q=>nomatch q)
def Zm (prog:aM) (w:aJ):PySem.KeyKind prog w Key where
 is:=Q3c
 hash:=Qx4 w
 inj:=fun v a b ha hb=>by
  rcases Jv ha with ⟨i,t,rfl,rfl⟩ | ⟨x,t,rfl,rfl⟩
  ·rcases Jv hb with ⟨j,u,rfl,e⟩ | ⟨y,u,rfl,e⟩
   ·injection e with e1 _; rw [e1]
   ·exact nomatch e
  ·rcases Jv hb with ⟨j,u,rfl,e⟩ | ⟨y,u,rfl,e⟩
   ·exact nomatch e
   ·injection e with e1 _; rw [e1]
 byValue:=fun k v h=>by
  rcases Jv h with ⟨i,t,rfl,rfl⟩ | ⟨x,t,rfl,rfl⟩ <;> rfl
 pyHash:=fun hv h=>by
  rcases Jv hv with ⟨i,t,rfl,rfl⟩ | ⟨x,t,rfl,rfl⟩
  ·exact wpAny_pyHash_int h
  ·exact wpAny_pyHash_str h
 eqBool:=fun hu hv h=>by
  rcases Jv hu with ⟨i,t,rfl,rfl⟩ | ⟨x,t,rfl,rfl⟩
  ·rcases Jv hv with ⟨j,u,rfl,rfl⟩ | ⟨y,u,rfl,rfl⟩
   ·rw [Qqj] at h; exact wpAny_eqBool_int h
   ·rw [Qqi] at h; exact SeqAt.EqAt.int_str i t y u _ _ _ _ h
  ·rcases Jv hv with ⟨j,u,rfl,rfl⟩ | ⟨y,u,rfl,rfl⟩
   ·rw [Qqh] at h; exact SeqAt.EqAt.str_int x t j u _ _ _ _ h
   ·rw [Qqg] at h; exact wpAny_eqBool_str h
 «strs»:=fun k x t v h=>by
  rcases Jv h with ⟨i,u,rfl,e⟩ | ⟨y,u,rfl,e⟩
  ·exact nomatch e
  ·injection e with e1 _
   subst e1;cases v <;> rfl
inductive HK where
 | int (i:Int) | str (x:Str) | tup (l:List HK)
variable {xs:List (HK × aA × aA)}
instance:DecidableEq HK:=fun _ _=>Classical.propDecidable _
mutual
def KIs (h:Heap):HK->aA->Prop
 | .int i,v=>∃ t,v=.int i t
 | .str x,v=>∃ t,v=.str x t
 | .tup l,v=>∃ a items,v=.ref a/\IsTup h a items/\KIsL h l items.toList
def KIsL (h:Heap):List HK->List aA->Prop
 | [],vs=>vs=[]
 | k :: l,vs=>∃ v r,vs=v :: r/\KIs h k v/\KIsL h l r
end
def Dp:Nat->HK->Prop
 | _,.int _=>True
 | _,.str _=>True
 | 0,.tup _=>False
 | d + 1,.tup l=>∀ k∈l,Dp d k
theorem KIsL.len :∀ {l:List HK} {vs:List aA},KIsL h l vs->l.length=vs.length
 | [],_,r=>by cases r; rfl
 | k :: l,_,⟨v,r,e,_,q⟩=>by subst e; rw [E4,E4,q.len]
theorem KIsL.get :∀ {l:List HK} {vs:List aA},KIsL h l vs->∀ (j:Nat) (h1:j < l.length) (h2:j < vs.length),KIs h l[j] vs[j]
 | [],_,_,j,h1,_=>by simp at h1
 | k :: l,_,⟨v,r,e,q,t⟩,0,h1,h2=>by subst e; exact q
 | k :: l,_,⟨v,r,e,q,t⟩,j + 1,h1,h2=>by subst e; exact t.get j (by simpa using h1) (by simpa using h2)
theorem KIsL.of {h':Heap}:∀ {l:List HK} {vs:List aA},KIsL h l vs->(∀ k v,k∈l->KIs h k v->KIs h' k v)->KIsL h' l vs
 | [],_,r,_=>r
 | k :: l,_,⟨v,r,e,q,t⟩,f=>⟨v,r,e,f k v (by simp) q,t.of fun k v B=>f k v (O4 _ B)⟩
theorem KIs.keep {h':Heap} (B:∀ a its,IsTup h a its->IsTup h' a its):∀ (d:Nat) {k:HK} {v:aA},Dp d k->KIs h k v->KIs h' k v
 | d,.int _,_,_,r=>r
 | d,.str _,_,_,r=>r
 | 0,.tup _,_,p,_=>p.elim
 | d + 1,.tup l,_,p,⟨a,its,e,i,r⟩=>⟨a,its,e,B a its i,r.of fun k v I=>KIs.keep B d (p k I)⟩
theorem Qcs {x y:Array aA} (p:IsTup h a x) (q:IsTup h a y):x=y:=by
 obtain ⟨o,h1,h2,n,J⟩:=p;obtain ⟨o',I,g2,O,B⟩:=q;rw [h1] at I; cases I;rw [J] at B; cases B; rfl
theorem KIs.inj :∀ (d:Nat) {x y:HK} {v:aA},Dp d x->Dp d y->KIs h x v->KIs h y v->x=y:=by
 intro d
 induction d with
 | zero=>
  intro x y v dx B p q;cases x with
  | tup l=>exact dx.elim
  | int i=>
   obtain ⟨t,rfl⟩:=p;cases y with
   | tup l=>exact B.elim
   | int j=>obtain ⟨u,e⟩:=q; cases e; rfl
   | str j=>obtain ⟨u,e⟩:=q; cases e
  | str i=>
   obtain ⟨t,rfl⟩:=p;cases y with
   | tup l=>exact B.elim
   | int j=>obtain ⟨u,e⟩:=q; cases e
   | str j=>obtain ⟨u,e⟩:=q; cases e; rfl
 | succ d O=>
  intro x y v dx B p q;cases x with
  | int i=>
   obtain ⟨t,rfl⟩:=p;cases y with
   | tup l=>obtain ⟨_,_,e,_⟩:=q; cases e
   | int j=>obtain ⟨u,e⟩:=q; cases e; rfl
   | str j=>obtain ⟨u,e⟩:=q; cases e
  | str i=>
   obtain ⟨t,rfl⟩:=p;cases y with
   | tup l=>obtain ⟨_,_,e,_⟩:=q; cases e
   | int j=>obtain ⟨u,e⟩:=q; cases e
   | str j=>obtain ⟨u,e⟩:=q; cases e; rfl
  | tup l=>
   obtain ⟨a,its,rfl,U,p2⟩:=p;cases y with
   | int j=>obtain ⟨u,e⟩:=q; cases e
   | str j=>obtain ⟨u,e⟩:=q; cases e
   | tup m=>
    obtain ⟨b,J,e,Y,I⟩:=q;cases e;have e:=Qcs U Y;subst e;have l1:=p2.len;have l2:=I.len;congr 1;refine List.ext_getElem (by omega) fun j h1 h2=>?_
    exact O (dx _ (F7 h1)) (B _ (F7 h2)) (p2.get j h1 (by omega)) (I.get j h2 (by omega))
theorem Qkh [DecidableEq α] (d:α) (xs ys:List α):((List.range (min xs.length ys.length)).all (fun j=>decide (xs.getD j d=ys.getD j d)) && xs.length == ys.length)=decide (xs=ys):=by
 rw [Bool.eq_iff_iff];simp only [L8,F5,M0,decide_eq_true_eq,beq_iff_eq];constructor
 ·rintro ⟨h,e⟩;refine List.ext_getElem e fun i h1 h2=>?_
  have:=h i (by omega);simpa [O3,h1,h2] using this
 ·rintro rfl;simp
section
variable {prog:aM} {w:aJ}
mutual
def hkH (prog:aM) (w:aJ):HK->Int
 | .int i=>(Zm prog w).hash (.inl i)
 | .str x=>(Zm prog w).hash (.inr x)
 | .tup l=>reduceHash (Builtin.Tuple.tupleHashOf (hkHL prog w l))
def hkHL (prog:aM) (w:aJ):List HK->List Int
 | []=>[]
 | k :: l=>hkH prog w k :: hkHL prog w l
end
mutual
def hkD:HK->Nat
 | .int _=>1
 | .str _=>1
 | .tup l=>hkDL l + 1
def hkDL:List HK->Nat
 | []=>0
 | k :: l=>hkD k + hkDL l
end
theorem Qfy (l:List HK):hkHL prog w l=l.map (hkH prog w):=by
 induction l with
 | nil=>rfl
 | cons k l B=>rw [hkHL,B]; rfl
theorem Qfz (l m:List HK):hkDL (l ++ m)=hkDL l + hkDL m:=by
 induction l with
 | nil=>simp [hkDL]
 | cons k l B=>rw [List.cons_append,hkDL,hkDL,B]; omega
variable {A:aQ} {E:aA->aC->Prop}
theorem Qkg (xs ys:List HK):((List.range (min xs.length ys.length)).all (fun j=>decide (xs.getD j (.int 0)=ys.getD j (.int 0))) && xs.length == ys.length)=decide (xs=ys):=Qkh (.int 0) xs ys
theorem Q0c:∀ (d:Nat) {A:aQ} {s:aC} {k:HK} {v:aA} {Q:Int->aC->Prop},Dp d k->A.units + d < aO->KIs s.heap k v->Q (hkH prog w k) { s with toks:=s.toks + hkD k } ->
  aF (aI prog w) A (pyHash v) Q E s:=by
 intro d
 induction d with
 | zero=>
  intro A s k v Q Z hu r q;cases k with
  | tup l=>exact Z.elim
  | int i=>obtain ⟨t,rfl⟩:=r; exact (Zm prog w).pyHash (k:=.inl i) (yr i t) q
  | str i=>obtain ⟨t,rfl⟩:=r; exact (Zm prog w).pyHash (k:=.inr i) (yq i t) q
 | succ d ih=>
  intro A s k v Q Z hu r q;cases k with
  | int i=>obtain ⟨t,rfl⟩:=r; exact (Zm prog w).pyHash (k:=.inl i) (yr i t) q
  | str i=>obtain ⟨t,rfl⟩:=r; exact (Zm prog w).pyHash (k:=.inr i) (yq i t) q
  | tup ks=>
   obtain ⟨a,Y,rfl,⟨o,ho,hc,n,hd⟩,hi⟩:=r;have hT:s.TypeIs (.ref a) "tuple" := ⟨o,ho,hc⟩;have O:A.units < aO:=by omega
   unfold pyHash;unfold pyHashByItsType;have nb:¬ (some (Value.builtin "tuple.__hash__") == some Value.none)=true:=by rw [beq_builtin_none]; exact E9
   have sp {Q:Option aA->aC->Prop} (h:Q (some (.builtin "tuple.__hash__")) s):aF (aI prog w) A (specialOf (.ref a) "__hash__") Q E s:=wpAny_specialOf hT F.slot_tuple_hash.lookup h;refine aD (wpAny_cRoomFor_or (.inr O) (aD (sp ?_)));show aF _ _ (if (some (Value.builtin "tuple.__hash__") == some Value.none)=true then _ else _) _ _ _;rw [bO nb];refine aD (sp (aD (wpAny_callSpecialIfBoundUnlessNone?_slot hT F.slot_tuple_hash (ag F.slot_tuple_hash hT F.entry_tuple_hash ?_ (F.args_tuple_hash_1 _)))));show aF _ A.in1 (Builtin.Tuple.tupleItemsOf (.ref a) >>= _) _ _ s;refine aD (wpAny_tupleItemsOf ho hd (aD ?_));rw [<- Array.forIn_toList];have U:A.in1.units + d < aO:=by show A.units + 1 + d < aO; omega
   refine wpAny_forIn_list _ (fun rest (b:Array Int) s'=>∃ B I,ks=B ++ I/\KIsL s.heap I rest/\b.toList=B.map (hkH prog w)/\s'={ s with toks:=s.toks + hkDL B }) _ ?_ ?_ _ _ ⟨[],ks,rfl,hi,rfl,rfl⟩
   ·rintro x rest b s' ⟨B,I,rfl,J,hb,rfl⟩;cases I with
    | nil=>cases J
    | cons k I=>
     obtain ⟨v,r,e,h1,h2⟩:=J;cases e;refine aD (ih (s:={ s with toks:=s.toks + hkDL B }) (Z k (by simp)) U h1 ?_);exact wpAny_pure ⟨B ++ [k],I,by simp,h2,by simp [hb],by simp [Qfz,hkDL,Nat.add_assoc]⟩
   ·rintro b s' ⟨B,I,rfl,J,hb,rfl⟩;cases I with
    | cons k I=>obtain ⟨_,_,e,_⟩:=J; cases e
    | nil=>
     rw [G7] at q;show aF _ _ (retInt (Builtin.Tuple.tupleHashOf b.toList)) _ _ _;rw [hb,<- Qfy];refine wpAny_ret_mkInt ?_;have q:Q (reduceHash (Builtin.Tuple.tupleHashOf (hkHL prog w B))) { s with toks:=s.toks + (hkDL B + 1) }:=q;generalize Builtin.Tuple.tupleHashOf (hkHL prog w B)=z at *;show aF _ _ (if (decide (-(2:Int) ^ 63<=z) && decide (z < 2 ^ 63))=true then _ else _) Q E _;unfold reduceHash at q
     split
     ·rename_i hr;rw [bN hr] at q;exact wpAny_pure (by simpa [Nat.add_assoc] using q)
     ·rename_i hr;rw [bO hr] at q;exact aD (ah (wpAny_pure (by simpa [Nat.add_assoc] using q)))
theorem Qm4:∀ (d:Nat) {A:aQ} {s:aC} {x y:HK} {u v:aA},Dp d x->Dp d y->A.units + d < aO->KIs s.heap x u->KIs s.heap y v->SeqAt.EqAt A s u v (decide (x=y)):=by
 intro d;have J:∀ {A:aQ} {s:aC} {x y:HK} {u v:aA},(∀ l,x≠.tup l)->(∀ l,y≠.tup l)->KIs s.heap x u->KIs s.heap y v->SeqAt.EqAt A s u v (decide (x=y)):=by
  intro A s x y u v nx ny p q;cases x with
  | tup l=>exact absurd rfl (nx l)
  | int i=>
   obtain ⟨t,rfl⟩:=p;cases y with
   | tup l=>exact absurd rfl (ny l)
   | int j=>
    obtain ⟨t',rfl⟩:=q;have:=SeqAt.EqAt.int_int (A:=A) (s:=s) i t j t'
    rwa [show (i == j)=decide (HK.int i=HK.int j) by by_cases e:i=j <;> simp [e]] at this
   | str j=>
    obtain ⟨t',rfl⟩:=q;rw [bP (by simp)];exact SeqAt.EqAt.int_str _ _ _ _
  | str i=>
   obtain ⟨t,rfl⟩:=p;cases y with
   | tup l=>exact absurd rfl (ny l)
   | int j=>
    obtain ⟨t',rfl⟩:=q;rw [bP (by simp)];exact SeqAt.EqAt.str_int _ _ _ _
   | str j=>
    obtain ⟨t',rfl⟩:=q;have:=SeqAt.EqAt.str_str (A:=A) (s:=s) i t j t'
    rwa [show (i == j)=decide (HK.str i=HK.str j) by by_cases e:i=j <;> simp [e]] at this
 induction d with
 | zero=>
  intro A s x y u v dx Y hu p q;exact J (fun l e=>by subst e; exact dx) (fun l e=>by subst e; exact Y) p q
 | succ d ih=>
  intro A s x y u v dx Y hu p q;have I:A.units < aO:=by omega
  cases x with
  | tup l=>
   obtain ⟨a,its,rfl,Z,p2⟩:=p;cases y with
   | int j=>
    obtain ⟨t',rfl⟩:=q;rw [bP (by simp)];exact SeqAt.EqAt.tuple_int _ _ Z I
   | str j=>
    obtain ⟨t',rfl⟩:=q;rw [bP (by simp)];exact SeqAt.EqAt.tuple_str _ _ Z I
   | tup m=>
    obtain ⟨b,B,rfl,O,U⟩:=q
    by_cases e:a=b
    ·subst e;have e:=KIs.inj (d + 1) (h:=s.heap) dx Y ⟨a,its,rfl,Z,p2⟩ ⟨a,B,rfl,O,U⟩;rw [bQ e];exact SeqAt.EqAt.same _
    ·have l1:=p2.len;have l2:=U.len;have he:∀ j (h1:j < its.size) (h2:j < B.size),SeqAt.EqAt A.in1 s its[j] B[j] (decide (l.getD j (.int 0)=m.getD j (.int 0))):=fun j h1 h2=>by
      have k1:j < l.length:=by rw [l1,Array.length_toList]; exact h1
      have k2:j < m.length:=by rw [l2,Array.length_toList]; exact h2
      have e1:l.getD j (.int 0)=l[j]:=by rw [O3,O2 k1]; rfl
      have e2:m.getD j (.int 0)=m[j]:=by rw [O3,O2 k2]; rfl
      rw [e1,e2];exact ih (dx _ (F7 k1)) (Y _ (F7 k2)) (by show A.units + 1 + d < aO; omega) (p2.get j k1 (by simpa using h1)) (U.get j k2 (by simpa using h2))
     have rc:=SeqAt.RcAt.tuples Z O I he;have s1:its.size=l.length:=by rw [l1,Array.length_toList]
     have s2:B.size=m.length:=by rw [l2,Array.length_toList]
     rw [s1,s2,Qkg] at rc;exact SeqAt.EqAt.of_refs e (by simpa using rc)
  | int i=>
   cases y with
   | tup m=>
    obtain ⟨t',rfl⟩:=p;obtain ⟨b,B,rfl,O,U⟩:=q;rw [bP (by simp)];exact SeqAt.EqAt.int_tuple _ _ O I
   | _=>exact J (by simp) (by simp) p q
  | str i=>
   cases y with
   | tup m=>
    obtain ⟨t',rfl⟩:=p;obtain ⟨b,B,rfl,O,U⟩:=q;rw [bP (by simp)];exact SeqAt.EqAt.str_tuple _ _ O I
   | _=>exact J (by simp) (by simp) p q
theorem Q1t:∀ (d:Nat) {A:aQ} {s:aC} {k:HK} {v:aA} {Q:Bool->aC->Prop} (m:Nat),d < m->Dp d k->KIs s.heap k v->Q true s->aF (aI prog w) A (eqIsQuiet m v) Q E s:=by
 intro d;have B:∀ {A:aQ} {s:aC} {v:aA} {Q:Bool->aC->Prop} (m:Nat),carriedByValue v=true->Q true s->aF (aI prog w) A (eqIsQuiet m v) Q E s:=by
  intro A s v Q m hv q;rw [eqIsQuiet_byValue m hv];exact wpAny_pure q
 induction d with
 | zero=>
  intro A s k v Q m hm O r q;cases k with
  | tup l=>exact O.elim
  | int i=>obtain ⟨t,rfl⟩:=r; exact B m rfl q
  | str i=>obtain ⟨t,rfl⟩:=r; exact B m rfl q
 | succ d ih=>
  intro A s k v Q m hm O r q;cases k with
  | int i=>obtain ⟨t,rfl⟩:=r; exact B m rfl q
  | str i=>obtain ⟨t,rfl⟩:=r; exact B m rfl q
  | tup ks=>
   obtain ⟨a,J,rfl,⟨o,Z,hc,n,hd⟩,hi⟩:=r;have hT:s.TypeIs (.ref a) "tuple" := ⟨o,Z,hc⟩;obtain ⟨m,rfl⟩:∃ m',m=m' + 1:=⟨m - 1,by omega⟩;unfold eqIsQuiet;refine aD (wpAny_specialOf hT F.slot_tuple_eq.lookup ?_);show aF _ _ (isInstance (.ref a) (.type "tuple") >>= _) _ _ s;refine aD (bK hT isSubtype_tuple_tuple ?_);simp only [Bool.not_true,L9,if_false];refine aD (az Z hd (aD ?_));show aF _ _ (forIn J _ _) _ _ s;rw [<- Array.forIn_toList];refine wpAny_forIn_list _ (fun rest r s'=>r.1=none/\s'=s/\∃ l,KIsL s.heap l rest/\∀ k∈l,k∈ks) _ ?_ ?_ _ _ ⟨rfl,rfl,ks,hi,fun _ h=>h⟩
   ·rintro v rest r s' ⟨U,rfl,l,Y,I⟩;cases l with
    | nil=>cases Y
    | cons k l=>
     obtain ⟨v',r',e,h1,h2⟩:=Y;cases e;refine aD (ih m (by omega) (O k (I k (by simp))) h1 ?_);simp only [Bool.not_true,L9,if_false];exact wpAny_pure ⟨rfl,rfl,l,h2,fun x hx=>I x (O4 _ hx)⟩
   ·rintro ⟨r1,r2⟩ s' ⟨U,rfl,_⟩;simp only at U;subst U;exact wpAny_pure q
def nk (prog:aM) (w:aJ):HeapKind prog w HK where
 is:=fun h k a=>KIs h k (.ref a)/\Dp 5 k
 hash:=hkH prog w
 draws:=hkD
 room:=fun A=>A.units + 5 < aO
 inj:=fun hx hy=>KIs.inj 5 hx.2 hy.2 hx.1 hy.1
 keeps:=fun {h h' k a d o es ep} x ho hd hs=>⟨KIs.keep (fun b its ⟨ob,h1,h2,n,h3⟩=>⟨ob,(hs.2 b fun e=>by
  subst e;rw [ho] at h1; cases h1;rw [hd] at h3; cases h3).trans h1,h2,n,h3⟩) 5 x.2 x.1,x.2⟩
 pyHash:=fun hu hk h=>Q0c 5 hk.2 hu hk.1 h
 eqBool:=fun hu hx hy h=>Qm4 5 hx.2 hy.2 hu hx.1 hy.1 prog w _ _ h
 quiet:=fun hk h=>Q1t 5 8 (by decide) hk.2 hk.1 h
end
section
variable {prog:aM} {w:aJ}
def vE (prog:aM) (w:aJ) (x:HK × aA × aA):DictEntry:=⟨hkH prog w x.1,x.2.1,x.2.2⟩
theorem Q0m (B:es.toList=xs.map (vE prog w)) (j:Nat):es[j]?=(xs[j]?).map (vE prog w):=by
 rw [<- Array.getElem?_toList,B,F4]
theorem jq (B:es.toList=xs.map (vE prog w)):es.size=xs.length:=by
 rw [<- Array.length_toList,B,O1]
theorem Qme (B:(xs.map (·.1)).Nodup) {i j:Nat} {k:HK} {p q:aA × aA} (h1:xs[i]?=some (k,p)) (h2:xs[j]?=some (k,q)):i=j:=by
 have I:=(O0.mp h1).1;have J:=(O0.mp h2).1;refine (List.getElem_inj (xs:=xs.map (·.1)) (i:=i) (j:=j) (h₀:=by simpa using I) (h₁:=by simpa using J) B).mp ?_;rw [List.getElem_map,List.getElem_map,(O0.mp h1).2,(O0.mp h2).2]
variable {A:aQ} {E:aA->aC->Prop} {s:aC} {d:aB} {o:Obj} {es:Array DictEntry} {ep:Nat} {xs:List (HK × aA × aA)} {k:HK} {key:aA}
theorem Q3x {stored:List aA} {Q:Bool->aC->Prop} (B:KIs s.heap k key/\Dp 5 k) (U:∀ v∈stored,∃ I,KIs s.heap I v/\Dp 5 I) (h:Q false s):aF (aI prog w) A (tableMayTell key stored) Q E s:=by
 unfold tableMayTell
 by_cases q:stored.isEmpty=true
 ·rw [bN q]; exact wpAny_pure h
 rw [bO q];refine aD (Q1t 5 8 (by decide) B.2 B.1 ?_);simp only [Bool.not_true,L9,if_false];refine aD (wpAny_forIn_list _ (fun rest r s'=>(s'=s/\r=(none,()))/\∀ v∈rest,∃ I,KIs s.heap I v/\Dp 5 I) _ ?_ ?_ _ _ ⟨⟨rfl,rfl⟩,U⟩)
 ·rintro v rest r s' ⟨⟨rfl,rfl⟩,Y⟩;obtain ⟨I,J,O⟩:=Y v O9;refine aD (Q1t 5 8 (by decide) O J ?_);simp only [Bool.not_true,L9,if_false];exact wpAny_pure ⟨⟨rfl,rfl⟩,fun u Z=>Y u (O4 _ Z)⟩
 ·rintro r s' ⟨⟨rfl,rfl⟩,_⟩;exact wpAny_pure h
def vSeen (prog:aM) (w:aJ) (es:Array DictEntry) (xs:List (HK × aA × aA)) (k:HK) (rest:List Nat) (hit:Option Nat):Prop:=
 ∃ i,rest=(List.range' i (es.size - i)).filter (fun i=>(es[i]?.map (·.hash)) == some (hkH prog w k))/\i<=es.size /\
  ((hit=none/\∀ j p,j < i->xs[j]?≠some (k,p))\/∃ j p,hit=some j/\j < i/\xs[j]?=some (k,p))
theorem vSeen.start:vSeen prog w es xs k (placesWithHash es.size (fun i=>es[i]?.map (·.hash)) (hkH prog w k)) none:=
 ⟨0,by rw [placesWithHash,List.range_eq_range',Nat.sub_zero],M9 _,.inl ⟨rfl,fun _ _ h=>absurd h (Nat.not_lt_zero _)⟩⟩
theorem vSeen.step (he:es.toList=xs.map (vE prog w)) {x:Nat} {rest:List Nat} {B:Option Nat} (h:vSeen prog w es xs k (x :: rest) B) :
  ∃ O Y v,xs[x]?=some (O,Y,v)/\es[x]?=some ⟨hkH prog w O,Y,v⟩/\hkH prog w O=hkH prog w k/\(B=none\/∃ j p,B=some j/\j < x/\xs[j]?=some (k,p))/\(O≠k->vSeen prog w es xs k rest B)/\(O=k->vSeen prog w es xs k rest (some x)):=by
 obtain ⟨i,hr,hi,hH⟩:=h;have hsz:=jq he;obtain ⟨h1,h2,h3,h4,h5⟩:=filter_range'_cons _ _ _ _ _ hr.symm;have a1:x < es.size:=by omega
 obtain ⟨⟨O,Y,v⟩,hx⟩:∃ y,xs[x]?=some y:=⟨_,O2 (by omega)⟩;have Z:es[x]?=some ⟨hkH prog w O,Y,v⟩:=by rw [Q0m he x,hx]; rfl
 have hh:hkH prog w O=hkH prog w k:=by
  rw [Z] at h3;simpa using h3
 have J:rest=(List.range' (x + 1) (es.size - (x + 1))).filter (fun i=>(es[i]?.map (·.hash)) == some (hkH prog w k)):=by rw [h5]; congr 2; omega
 have has:∀ (j:Nat) (p:aA × aA),xs[j]?=some (k,p)->((es[j]?.map (·.hash)) == some (hkH prog w k))=true:=fun j p hj=>by
  rw [Q0m he j,hj]; simp [vE]
 have a2:(B=none/\∀ j p,j < x->xs[j]?≠some (k,p))\/∃ j p,B=some j/\j < x/\xs[j]?=some (k,p):=by
  rcases hH with ⟨h0,U⟩ | ⟨j,p,q1,q2,q3⟩
  ·refine .inl ⟨h0,fun j p hj I=>?_⟩
   by_cases z:j < i
   ·exact U j p z I
   ·have:=h4 j (by omega) hj;rw [has j p I] at this;cases this
  ·exact .inr ⟨j,p,q1,by omega,q3⟩
 refine ⟨O,Y,v,hx,Z,hh,a2.imp (·.1) id,fun a3=>⟨x + 1,J,a1,?_⟩,fun e=>⟨x + 1,J,a1,.inr ⟨x,(Y,v),rfl,Nat.lt_succ_self x,by rw [hx,e]⟩⟩⟩
 rcases a2 with ⟨h0,U⟩ | ⟨j,p,q1,q2,q3⟩
 ·refine .inl ⟨h0,fun j p hj I=>?_⟩
  by_cases z:j < x
  ·exact U j p z I
  ·have e:j=x:=by omega
   rw [e,hx] at I;cases I;exact a3 rfl
 ·exact .inr ⟨j,p,q1,by omega,q3⟩
theorem vSeen.fin (O:es.toList=xs.map (vE prog w)) {B:Option Nat} (h:vSeen prog w es xs k [] B):(B=none/\∀ (j:Nat) (p:aA × aA),xs[j]?≠some (k,p))\/∃ (j:Nat) (p:aA × aA),B=some j/\xs[j]?=some (k,p):=by
 obtain ⟨i,hr,hi,Z⟩:=h;have hsz:=jq O;rcases Z with ⟨Y,J⟩ | ⟨j,p,q1,q2,U⟩
 ·refine .inl ⟨Y,fun j p I=>?_⟩
  by_cases z:j < i
  ·exact J j p z I
  ·have a1:=(O0.mp I).1;have:=List.filter_eq_nil_iff.mp hr.symm j (List.mem_range'_1.mpr ⟨by omega,by omega⟩);rw [Q0m O j,I] at this;simp [vE] at this
 ·exact .inr ⟨j,p,q1,U⟩
theorem Q7a {Q:Option Nat->aC->Prop} (hu:A.units + 5 < aO) (I:KIs s.heap k key/\Dp 5 k) (ho:s.heap.get? d=some o) (hd:o.data=.dict es ep) (he:es.toList=xs.map (vE prog w)) (a2:∀ x∈xs,KIs s.heap x.1 x.2.1/\Dp 5 x.1) (hn:(xs.map (·.1)).Nodup)
  (a3:(∀ (j:Nat) (p:aA × aA),xs[j]?≠some (k,p))->Q none s) (O:∀ (j:Nat) (p:aA × aA),xs[j]?=some (k,p)->Q (some j) s):aF (aI prog w) A (dictFind d key (hkH prog w k)) Q E s:=by
 have a7:∀ e∈es,∃ x∈xs,e=vE prog w x:=fun e b0=>by
  have:e∈xs.map (vE prog w):=he ▸ Array.mem_toList_iff.mpr b0;obtain ⟨x,hx,rfl⟩:=D7.mp this;exact ⟨x,hx,rfl⟩
 have b2:∀ {k':HK} {kv:aA} {Q:Bool->aC->Prop},KIs s.heap k' kv->Dp 5 k'->Q (decide (k'=k)) s->aF (aI prog w) A (eqBool kv key) Q E s:=fun {k' kv Q} h1 h2 h3=>Qm4 5 h2 I.2 hu h1 I.1 prog w _ _ h3
 obtain ⟨pl,b7⟩:∃ pl,placesWithHash es.size (fun i=>es[i]?.map (·.hash)) (hkH prog w k)=pl:=⟨_,rfl⟩
 have S0:vSeen prog w es xs k pl none:=b7 ▸ vSeen.start;have a5:∀ v∈pl.filterMap (fun i=>es[i]?.map (·.key)),∃ k',KIs s.heap k' v/\Dp 5 k':=fun v hv=>by
  obtain ⟨i,_,hi⟩:=List.mem_filterMap.mp hv;cases Y:es[i]? with
  | none=>rw [Y] at hi; cases hi
  | some e=>
   rw [Y] at hi;obtain rfl:e.key=v:=by simpa using hi
   obtain ⟨x,hx,rfl⟩:=a7 e (Array.mem_of_getElem? Y);exact ⟨x.1,a2 x hx⟩
 have fin:∀ {B:Option Nat},vSeen prog w es xs k [] B->Q B s:=fun {B} h=>by
  rcases h.fin he with ⟨rfl,z⟩ | ⟨j,p,rfl,z⟩
  ·exact a3 z
  ·exact O j p z
 have plain:aF (aI prog w) A (dictWalkPlain d key (hkH prog w k) es pl) Q E s:=by
  unfold dictWalkPlain;refine aD (wpAny_forIn_list _ (fun rest b s'=>(s'=s/\b=(none,()))/\vSeen prog w es xs k rest none) _ ?_ ?_ _ _ ⟨⟨rfl,rfl⟩,S0⟩)
  ·rintro x rest b s' ⟨⟨rfl,rfl⟩,hS⟩;obtain ⟨k',kv,v,hx,a9,hh,_,h1,h2⟩:=hS.step he;rw [a9];dsimp only;rw [bN (by rw [hh]; simp)];have a4:=a2 _ (E6 hx);refine aD (wpAny_dictEpoch ho hd (aD (b2 a4.1 a4.2 (aD (wpAny_dictEpoch ho hd ?_)))));show aF _ _ (if (ep != ep)=true then _ else _) _ E _;rw [bO (by simp)]
   by_cases e:k'=k
   ·rw [bQ e];exact aD (ah (wpAny_pure (wpAny_pure (O x (kv,v) (by rw [hx,e])))))
   ·rw [bP e];exact aD (ah (wpAny_pure ⟨⟨rfl,rfl⟩,h1 e⟩))
  ·rintro b s' ⟨⟨rfl,rfl⟩,hS⟩;exact wpAny_pure (fin hS)
 have J:∀ Z:Bool,Z=false->aF (aI prog w) A (do
   if (Z && decide ((pl.filterMap fun i=>es[i]?.map (·.key)).length>=2))=true then unsupported "dict.find:order-among-keys-of-one-hash"
   let mut B:Option Nat:=none
   for i in pl do
    if let some e:=es[i]? then
     if e.hash == hkH prog w k then
      let before <- dictEpoch d (keyPart key)
      let same <- eqBool e.key key
      if (<- dictEpoch d (keyPart key)) != before then unsupported "dict.changed-during-lookup"
      if same then
       if B.isSome then unsupported "dict.find:order-among-keys-of-one-hash"
       rule "dict.find.hit"
       if (pl.filterMap fun i=>es[i]?.map (·.key)).length < 2 then return some i
       B:=some i
      else
       rule "dict.find.same-hash-other-key"
       if Z && !(0<=hkH prog w k && hkH prog w k < 32) then unsupported "dict.find:asked-again-or-not-hangs-on-the-table"
   return B) Q E s:=by
  rintro _ rfl;rw [bO (by simp)];refine aD (wpAny_forIn_list _ (fun rest b s'=>∃ B,(s'=s/\b=(none,B))/\vSeen prog w es xs k rest B) _ ?_ ?_ _ _ ⟨none,⟨rfl,rfl⟩,S0⟩)
  ·rintro x rest b s' ⟨B,⟨rfl,rfl⟩,hS⟩;obtain ⟨k',kv,v,hx,a9,hh,hj,h1,h2⟩:=hS.step he;rw [a9];dsimp only;rw [bN (by rw [hh]; simp)];have a4:=a2 _ (E6 hx);refine aD (wpAny_dictEpoch ho hd (aD (b2 a4.1 a4.2 (aD (wpAny_dictEpoch ho hd ?_)))));show aF _ _ (if (ep != ep)=true then _ else _) _ E _;rw [bO (by simp)]
   by_cases e:k'=k
   ·rw [bQ e];have h0:B=none:=by
     rcases hj with z | ⟨j,p,_,z2,z3⟩
     ·exact z
     ·exact absurd (Qme hn z3 (show xs[x]?=some (k,kv,v) by rw [hx,e])) (by omega)
    subst h0
    first | rw [bN rfl] | skip
    simp only [Option.isSome_none,L9,if_false]
    first | refine aD (wpAny_pure ?_) | skip
    refine aD (ah ?_)
    split
    ·exact wpAny_pure (wpAny_pure (O x (kv,v) (by rw [hx,e])))
    ·exact wpAny_pure ⟨some x,⟨rfl,rfl⟩,h2 e⟩
   ·rw [bP e];simp only [L9,if_false];refine aD (ah ?_)
    first | rw [bO (by simp)] | skip
    first
     | exact wpAny_pure ⟨B,⟨rfl,rfl⟩,h1 e⟩
     | exact aD (wpAny_pure (wpAny_pure ⟨B,⟨rfl,rfl⟩,h1 e⟩))
  ·rintro b s' ⟨B,⟨rfl,rfl⟩,hS⟩;exact wpAny_pure (fin hS)
 unfold dictFind
 try with_reducible refine aa ?_
 refine aD (wpAny_dictEntries ho hd ?_);dsimp only;rw [b7];have b6:∀ a,key=.ref a->¬ (es.any fun e=>e.key == key && e.hash != hkH prog w k)=true:=fun a ea z=>by
  rw [<- Array.any_toList,List.any_eq_true] at z;obtain ⟨e,b0,hc⟩:=z;obtain ⟨x,hx,rfl⟩:=a7 e (Array.mem_toList_iff.mp b0);have hc:((x.2.1 == key) && (hkH prog w x.1 != hkH prog w k))=true:=hc;rw [L8,beq_iff_eq,bne_iff_ne] at hc;have b1:=a2 x hx;rw [hc.1] at b1;exact hc.2 (by rw [KIs.inj 5 b1.2 I.2 b1.1 I.1])
 obtain ⟨st,a6⟩:∃ st,pl.filterMap (fun i=>es[i]?.map (·.key))=st:=⟨_,rfl⟩
 rw [a6] at a5;have U:=I;cases k with
 | int i=>
  obtain ⟨t,rfl⟩:=I.1;dsimp only
  by_cases c:(Value.int i t :: pl.filterMap (fun i=>es[i]?.map (·.key))).all carriedByValue=true
  ·rw [bN c]; exact plain
  ·rw [bO c]
   by_cases h1:(pl.filterMap (fun i=>es[i]?.map (·.key)) == [Value.int i t])=true
   ·rw [bN h1]; exact aD (wpAny_pure (J false rfl))
   ·rw [bO h1]; exact aD (Q3x U (by rw [a6]; exact a5) (J false rfl))
 | tup l=>
  obtain ⟨a,its,rfl,_⟩:=I.1;dsimp only
  by_cases c:(Value.ref a :: pl.filterMap (fun i=>es[i]?.map (·.key))).all carriedByValue=true
  ·rw [bN c]; exact plain
  ·rw [bO c,bO (b6 a rfl)]
   by_cases h1:(pl.filterMap (fun i=>es[i]?.map (·.key)) == [Value.ref a])=true
   ·rw [bN h1]; exact aD (wpAny_pure (J false rfl))
   ·rw [bO h1]; exact aD (Q3x U (by rw [a6]; exact a5) (J false rfl))
 | str x=>
  obtain ⟨t,rfl⟩:=I.1;dsimp only
  by_cases a8:(es.all fun e=>isExactStrKey e.key)=true
  ·rw [bN a8];unfold foundByValue;have a1:∀ (j:Nat) (y:HK × aA × aA),xs[j]?=some y->(y.2.1.isStr x=true <-> y.1=.str x):=fun j y hj=>by
    have hy:=a2 y (E6 hj);constructor
    ·intro z;obtain ⟨k',kv,v⟩:=y;cases kv with
     | str z' t'=>
      have:z'=x:=by simpa [Value.isStr] using z
      subst this;exact KIs.inj 5 hy.2 U.2 hy.1 ⟨t',rfl⟩
     | _=>simp [Value.isStr] at z
    ·intro z;have b4:=hy.1;rw [z] at b4;obtain ⟨t',e⟩:=b4;rw [e];simp [Value.isStr]
   cases hf:es.findIdx? (fun e=>e.key.isStr x) with
   | none=>
    refine wpAny_pure (a3 fun j p hj=>?_);have:=Array.findIdx?_eq_none_iff.mp hf (vE prog w (.str x,p)) (Array.mem_of_getElem? (by rw [Q0m he j,hj]; rfl));have h2:=(a1 j (.str x,p) hj).mpr rfl;have h3:p.1.isStr x=false:=this;rw [show ((HK.str x,p).2.1)=p.1 from rfl] at h2;rw [h2] at h3;cases h3
   | some i=>
    obtain ⟨b9,hi,_⟩:=Array.findIdx?_eq_some_iff_getElem.mp hf;have hsz:=jq he;obtain ⟨y,hy⟩:∃ y,xs[i]?=some y:=⟨_,O2 (by omega)⟩;have Y:es[i]?=some (vE prog w y):=by rw [Q0m he i,hy]; rfl
    have b8:es[i]=vE prog w y:=by rw [Array.getElem?_eq_getElem b9] at Y; exact Option.some.inj Y
    have b3:y.1=.str x:=(a1 i y hy).mp (by
     have:(es[i]).key.isStr x=true:=hi;rw [b8] at this;exact this)
    have b5:=a2 y (E6 hy);dsimp only;rw [Y];dsimp only;refine aD (wpAny_dictEpoch ho hd (aD (b2 b5.1 b5.2 (aD (wpAny_dictEpoch ho hd ?_)))));show aF _ _ (if (ep != ep)=true then _ else _) _ E _;rw [bO (by simp),bQ b3];exact aD (ah (wpAny_pure (O i y.2 (by rw [hy,<- b3]))))
  ·rw [bO a8]
   by_cases c:(Value.str x t :: pl.filterMap (fun i=>es[i]?.map (·.key))).all carriedByValue=true
   ·rw [bN c]; exact plain
   ·rw [bO c]
    by_cases h1:(pl.filterMap (fun i=>es[i]?.map (·.key)) == [Value.str x t])=true
    ·rw [bN h1]; exact aD (wpAny_pure (J false rfl))
    ·rw [bO h1]; exact aD (Q3x U (by rw [a6]; exact a5) (J false rfl))
def vAt (xs:List (HK × aA × aA)) (k:HK):Option (aA × aA):=(xs.find? fun x=>decide (x.1=k)).map (·.2)
def Wa (k:HK) (v:aA) (x:HK × aA × aA):HK × aA × aA:=if x.1=k then (x.1,x.2.1,v) else x
def xu (xs:List (HK × aA × aA)) (k:HK) (kv v:aA):List (HK × aA × aA):=if (vAt xs k).isSome=true then xs.map (Wa k v) else xs ++ [(k,kv,v)]
def DictV (P:aM) (w:aJ) (h:Heap) (d:aB) (xs:List (HK × aA × aA)):Prop:=
 ∃ o es ep,h.get? d=some o/\o.ExactDict/\o.data=.dict es ep/\es.toList=xs.map (vE P w)/\(∀ x∈xs,KIs h x.1 x.2.1/\Dp 5 x.1)/\(xs.map (·.1)).Nodup
theorem DictV.typeIs {P:aM} (J:DictV P w s.heap d xs):s.TypeIs (.ref d) "dict" := let ⟨o,_,_,B,I,_⟩:=J; ⟨o,B,I.1⟩
theorem Q5b (x:HK × aA × aA) (xs:List (HK × aA × aA)) (k:HK):vAt (x :: xs) k=if x.1=k then some x.2 else vAt xs k:=by
 unfold vAt
 by_cases e:x.1=k
 ·rw [List.find?_cons_of_pos (by simpa using e),bN e]; rfl
 ·rw [List.find?_cons_of_neg (by simpa using e),bO e]
theorem Q04:∀ {xs:List (HK × aA × aA)},(xs.map (·.1)).Nodup->∀ {j:Nat} {k:HK} {p:aA × aA},xs[j]?=some (k,p)->vAt xs k=some p
 | [],_,_,_,_,h=>by simp at h
 | x :: xs,B,0,k,p,h=>by
  rw [List.getElem?_cons_zero] at h;cases h;rw [Q5b,bN rfl]
 | x :: xs,B,j + 1,k,p,h=>by
  rw [List.getElem?_cons_succ] at h;rw [D3,L5] at B;rw [Q5b,bO fun e=>B.1 (by rw [e]; exact D7.mpr ⟨_,E6 h,rfl⟩)]
  exact Q04 B.2 h
theorem jr (h:∀ (j:Nat) (p:aA × aA),xs[j]?≠some (k,p)):vAt xs k=none:=by
 unfold vAt;rw [Option.map_eq_none_iff,List.find?_eq_none];intro x I e;obtain ⟨j,B⟩:=List.getElem?_of_mem I;have e:x.1=k:=of_decide_eq_true e;exact h j x.2 (by rw [B,<- e])
theorem KIs.stays {h':Heap} {v:aA} (x:KIs h k v/\Dp 5 k) (I:h.get? d=some o) (hd:o.data=.dict es ep) (hs:Heap.SameBut d h h'):KIs h' k v/\Dp 5 k:=
 ⟨KIs.keep (fun b its ⟨ob,h1,h2,n,B⟩=>⟨ob,(hs.2 b fun e=>by
  subst e;rw [I] at h1; cases h1;rw [hd] at B; cases B).trans h1,h2,n,B⟩) 5 x.2 x.1,x.2⟩
theorem Qcq {Q:Option aA->aC->Prop} (U:A.units + 5 < aO) (B:KIs s.heap k key/\Dp 5 k) (hm:DictV prog w s.heap d xs) (h:Q ((vAt xs k).map (·.2)) { s with toks:=s.toks + hkD k }):aF (aI prog w) A (dictGet d key) Q E s:=by
 obtain ⟨o,es,ep,Y,_,hd,he,J,Z⟩:=hm;unfold dictGet
 try with_reducible refine aa ?_
 refine aD (Q0c 5 B.2 U B.1 (aD (Q7a (s:={ s with toks:=s.toks + hkD k }) U B Y hd he J Z (fun I=>?_) fun j p O=>?_)))
 ·rw [jr I] at h;exact wpAny_pure h
 ·rw [Q04 Z O] at h;refine aD (wpAny_dictEntries (s:={ s with toks:=s.toks + hkD k }) Y hd ?_);rw [Q0m he j,O];exact wpAny_pure h
theorem Q5a (v:aA):∀ {xs:List (HK × aA × aA)} {j:Nat} {p:aA × aA},(xs.map (·.1)).Nodup->xs[j]?=some (k,p)->(xs.map (vE prog w)).modify j (fun e=>{ e with val:=v })=(xs.map (Wa k v)).map (vE prog w)
 | [],_,_,_,h=>by simp at h
 | x :: xs,0,p,B,h=>by
  rw [List.getElem?_cons_zero] at h;cases h;rw [D3,L5] at B;have e:xs.map (Wa k v)=xs:=(F3 fun y I=>by
   unfold Wa;exact bO fun z=>B.1 (by rw [<- z]; exact D7.mpr ⟨y,I,rfl⟩)).trans (List.map_id' xs)
  rw [D3,D3,D3,e];show _ :: _=vE prog w (if k=k then _ else _) :: _;rw [bN rfl]; rfl
 | x :: xs,j + 1,p,B,h=>by
  rw [List.getElem?_cons_succ] at h;rw [D3,L5] at B;rw [D3,D3,D3,List.modify_succ_cons,Q5a v B.2 h];have:Wa k v x=x:=by
   unfold Wa;exact bO fun z=>B.1 (by rw [z]; exact D7.mpr ⟨_,E6 h,rfl⟩)
  rw [this]
theorem Qmf (xs:List (HK × aA × aA)) (v:aA):(xs.map (Wa k v)).map (·.1)=xs.map (·.1):=by
 rw [E7];refine F3 fun x _=>?_
 show (Wa k v x).1=x.1;unfold Wa
 split <;> rfl
theorem Qkm {v:aA} {Q:Unit->aC->Prop} (hu:A.units + 5 < aO) (B:KIs s.heap k key/\Dp 5 k) (hm:DictV prog w s.heap d xs)
  (hQ:∀ h',DictV prog w h' d (xu xs k key v)->Heap.SameBut d s.heap h'->Q () { s with heap:=h',toks:=s.toks + hkD k }) (hsz:xs.length<=sizeLine):aF (aI prog w) A (dictSet d key v) Q E s:=by
 obtain ⟨o,es,ep,J,hc,hd,he,O,Y⟩:=hm;unfold dictSet
 try with_reducible refine aa ?_
 refine aD (Q0c 5 B.2 hu B.1 ?_);unfold dictSetHashed
 try with_reducible refine aa ?_
 refine aD (Q7a (s:={ s with toks:=s.toks + hkD k }) hu B J hd he O Y (fun Z=>?_) fun j p hj=>?_)
 ·have U:xu xs k key v=xs ++ [(k,key,v)]:=by unfold xu; rw [jr Z]; rfl
  refine aD (ah (wpAny_updateDictKeys (hz:=by have e:=jq he; omega) (s:={ s with toks:=s.toks + hkD k }) J hd (hQ _ ⟨_,_,ep + 1,N0 _ J (Obj.isFreed_of_dict (Obj.data_mapDictKeys hd _)),hc.mapDictKeys _,Obj.data_mapDictKeys hd _,?_,?_,?_⟩ (Heap.SameBut.update ..))))
  ·rw [U]; simp [he,vE]
  ·rw [U];intro x I;rcases D4.mp I with I | I
   ·exact KIs.stays (O x I) J hd (Heap.SameBut.update ..)
   ·rw [List.mem_singleton.mp I];exact KIs.stays B J hd (Heap.SameBut.update ..)
  ·rw [U,E3,List.nodup_append];refine ⟨Y,by simp,fun x I y hy e=>?_⟩;rw [List.mem_singleton.mp hy] at e;obtain ⟨z,hz,ez⟩:=D7.mp I;obtain ⟨j,hj⟩:=List.getElem?_of_mem hz;exact Z j z.2 (by rw [hj,show z=(z.1,z.2) from rfl,ez,e])
 ·have U:xu xs k key v=xs.map (Wa k v):=by unfold xu; rw [Q04 Y hj]; rfl
  refine aD (ah (aD (wpAny_updateDict (s:={ s with toks:=s.toks + hkD k }) J hd (wpAny_point (hQ _ ⟨_,_,ep,N0 _ J (Obj.isFreed_of_dict (Obj.data_mapDict hd _)),hc.mapDict _,Obj.data_mapDict hd _,?_,?_,?_⟩ (Heap.SameBut.update ..))))))
  ·rw [U];have:=Q5a (prog:=prog) (w:=w) v Y hj;rw [<- he] at this;obtain ⟨l⟩:=es;simpa using this
  ·rw [U];intro x I;obtain ⟨y,hy,rfl⟩:=D7.mp I;unfold Wa
   split <;> exact KIs.stays (O y hy) J hd (Heap.SameBut.update ..)
  ·rw [U,Qmf]; exact Y
theorem Qkn {Q:Bool->aC->Prop} (U:A.units + 6 < aO) (B:KIs s.heap k key/\Dp 5 k) (hd:(d == aZ)=false) (I:DictV prog w s.heap d xs) (h:Q (vAt xs k).isSome { s with toks:=s.toks + hkD k }):aF (aI prog w) A (contains (.ref d) key) Q E s:=by
 have T:=I.typeIs;have O:¬ (some (Value.builtin "dict.__contains__") == some Value.none)=true:=by rw [beq_builtin_none]; exact E9
 unfold contains
 try with_reducible refine aa ?_
 refine aD (wpAny_specialOf T slot_dict_contains.lookup ?_);show aF _ _ (if (some (Value.builtin "dict.__contains__") == some Value.none)=true then _ else _) _ E s;rw [bO O];refine aD (wpAny_callSpecialUnlessNone?_slot (name:=Str.ofString "__contains__") T slot_dict_contains (ag slot_dict_contains T entry_dict_contains ?_ (args_dict_contains _ _)));show aF _ _ (dictGet d key >>= _) _ _ s;refine aD (Qcq (A:=A.in1) (by show A.units + 1 + 5 < aO; omega) B I ?_);cases J:vAt xs k with
 | some p=>
  rw [J] at h;show aF _ _ (ret (.bool true)) _ _ _;exact wpAny_pure ⟨_,rfl,aw h⟩
 | none=>
  rw [J] at h;show aF _ _ (Builtin.Dict.pendingKey? d key >>= _) _ _ _;exact aD (wpAny_pendingKey_other hd (wpAny_pure ⟨_,rfl,aw h⟩))
theorem Qw8 {Q:aA->aC->Prop} (I:A.units + 6 < aO) (B:KIs s.heap k key/\Dp 5 k) (hd:(d == aZ)=false) (J:DictV prog w s.heap d xs) (h:Q (.bool (vAt xs k).isSome) { s with toks:=s.toks + hkD k }):aF (aI prog w) A (aR .In key (.ref d)) Q E s:=
 aD (m:=contains (.ref d) key) (Qkn I B hd J (wpAny_pure h))
theorem Qhk {Q:aA->aC->Prop} (I:A.units + 6 < aO) (B:KIs s.heap k key/\Dp 5 k) (hd:(d == aZ)=false) (J:DictV prog w s.heap d xs) (h:Q (.bool (!(vAt xs k).isSome)) { s with toks:=s.toks + hkD k }):aF (aI prog w) A (aR .NotIn key (.ref d)) Q E s:=
 aD (m:=contains (.ref d) key) (Qkn I B hd J (wpAny_pure h))
theorem Qap {p:aA × aA} {Q:aA->aC->Prop} (O:A.units + 6 < aO) (B:KIs s.heap k key/\Dp 5 k) (I:DictV prog w s.heap d xs) (J:vAt xs k=some p) (h:Q p.2 { s with toks:=s.toks + hkD k }):aF (aI prog w) A (getItem (.ref d) key) Q E s:=by
 have T:=I.typeIs;unfold getItem
 try with_reducible refine aa ?_
 refine aD (wpAny_sequenceKey T (by decide) (aD (wpAny_callSpecial?_slot (name:=Str.ofString "__getitem__") T slot_dict_getitem (ag slot_dict_getitem T entry_dict_getitem ?_ (args_dict_getitem _ _)))));show aF _ _ (dictGet d key >>= _) _ _ s;refine aD (Qcq (A:=A.in1) (by show A.units + 1 + 5 < aO; omega) B I ?_);rw [J];exact wpAny_pure ⟨p.2,rfl,wpAny_pure h⟩
theorem Qan {v:aA} {Q:Unit->aC->Prop} (Y:A.units + 6 < aO) (B:KIs s.heap k key/\Dp 5 k) (O:DictV prog w s.heap d xs)
  (U:∀ h',DictV prog w h' d (xu xs k key v)->Heap.SameBut d s.heap h'->Q () { s with heap:=h',toks:=s.toks + hkD k }) (hsz:xs.length<=sizeLine):aF (aI prog w) A (setItem (.ref d) key v) Q E s:=by
 have T:=O.typeIs;unfold setItem
 try with_reducible refine aa ?_
 refine aD (wpAny_sequenceKey T (by decide) (aD (wpAny_callSpecial?_slot (name:=Str.ofString "__setitem__") T slot_dict_setitem (ag slot_dict_setitem T entry_dict_setitem ?_ (args_dict_setitem _ _ _)))));show aF _ _ (Builtin.Dict.notOrdered "__setitem__" ⟨[.ref d,key,v],[]⟩ >>= _) _ _ s;refine aD (wpAny_notOrdered_dict T ?_);show aF _ _ (dictSet d key v >>= _) _ _ s;exact aD (Qkm (A:=A.in1) (by show A.units + 1 + 5 < aO; omega) B O (fun h' J I=>wpAny_pure ⟨.none,rfl,wpAny_pure (U h' J I)⟩) hsz)
theorem Q3y {v:aA} (hd:(d == aZ)=false):MeetsIn prog w (Builtin.«dict.setdefault» ⟨[.ref d,key,v],[]⟩) (fun A R s=>A.units + 6 < aO/\∃ k xs,(KIs s.heap k key/\Dp 5 k)/\DictV prog w s.heap d xs/\xs.length<=sizeLine /\
  (∀ p,vAt xs k=some p->R (.ok (.ret p.2)) { s with toks:=s.toks + hkD k })/\(vAt xs k=none->∀ h',DictV prog w h' d (xu xs k key v)->Heap.SameBut d s.heap h'->R (.ok (.ret v)) { s with heap:=h',toks:=s.toks + hkD k })):=
 .of_wp fun A R s ⟨hu,k,xs,I,hm,hsz,h1,h2⟩=>by
  have T:=hm.typeIs;show aF _ _ (Builtin.Dict.keyAndDefault "setdefault" ⟨[.ref d,key,v],[]⟩ >>= _) _ _ s;refine aD ?_;unfold Builtin.Dict.keyAndDefault;refine aD (wpAny_notOrdered_dict T ?_);show aF _ _ (pure (d,key,some v):Sem (aB × aA × Option aA)) _ _ s;refine wpAny_pure ?_;show aF _ _ (if (d == aZ)=true then _ else _) _ _ s;rw [bO (by rw [hd]; exact E9)];refine aD ?_;show aF _ _ (dictSetDefault d key v) _ _ s;obtain ⟨o,es,ep,U,hc,B,he,Y,hn⟩:=hm;have Z:A.in1.units + 5 < aO:=by show A.units + 1 + 5 < aO; omega
  unfold dictSetDefault
  try with_reducible refine aa ?_
  refine aD (Q0c 5 I.2 Z I.1 (aD (Q7a (s:={ s with toks:=s.toks + hkD k }) Z I U B he Y hn (fun O=>?_) fun j p hj=>?_)))
  ·have e0:xu xs k key v=xs ++ [(k,key,v)]:=by unfold xu; rw [jr O]; rfl
   refine aD (ah (aD (wpAny_updateDictKeys (hz:=by have e:=jq he; omega) (s:={ s with toks:=s.toks + hkD k }) U B (wpAny_pure (wpAny_pure ⟨v,rfl,h2 (jr O) _ ⟨_,_,ep + 1,N0 _ U (Obj.isFreed_of_dict (Obj.data_mapDictKeys B _)),hc.mapDictKeys _,Obj.data_mapDictKeys B _,?_,?_,?_⟩ (Heap.SameBut.update ..)⟩)))))
   ·rw [e0]; simp [he,vE]
   ·rw [e0];intro x J;rcases D4.mp J with J | J
    ·exact KIs.stays (Y x J) U B (Heap.SameBut.update ..)
    ·rw [List.mem_singleton.mp J];exact KIs.stays I U B (Heap.SameBut.update ..)
   ·rw [e0,E3,List.nodup_append];refine ⟨hn,by simp,fun x J y hy e=>?_⟩;rw [List.mem_singleton.mp hy] at e;obtain ⟨z,hz,ez⟩:=D7.mp J;obtain ⟨j,hj⟩:=List.getElem?_of_mem hz;exact O j z.2 (by rw [hj,show z=(z.1,z.2) from rfl,ez,e])
  ·refine aD (wpAny_dictEntries (s:={ s with toks:=s.toks + hkD k }) U B ?_);rw [Q0m he j,hj];exact aD (ah (wpAny_pure (wpAny_pure ⟨p.2,rfl,h1 p (Q04 hn hj)⟩)))
theorem Qhm (hd:(d == aZ)=false) (dflt:aA):MeetsIn prog w (Builtin.«dict.get» ⟨[.ref d,key,dflt],[]⟩) (fun A R s=>A.units + 6 < aO/\∃ k xs,(KIs s.heap k key/\Dp 5 k)/\DictV prog w s.heap d xs/\R (.ok (.ret (((vAt xs k).map (·.2)).getD dflt))) { s with toks:=s.toks + hkD k }):=
 .of_wp fun A R s ⟨O,k,xs,B,J,h⟩=>by
  show aF _ _ (dictGet d key >>= _) _ _ s;refine aD (Qcq (A:=A.in1) (by show A.units + 1 + 5 < aO; omega) B J ?_);cases I:(vAt xs k).map (·.2) with
  | some v=>rw [I] at h; exact wpAny_pure ⟨v,rfl,h⟩
  | none=>
   rw [I] at h;show aF _ _ (Builtin.Dict.missed d key >>= _) _ _ _;exact aD (wpAny_missed_other hd (wpAny_pure ⟨dflt,rfl,h⟩))
end
theorem Q6f (prog:aM) (w:aJ) (i:Int) (t:Tok):(Zm prog w).is (.inl i) (.int i t)=true:=yr i t
theorem Q6e (prog:aM) (w:aJ) (x:Str) (t:Tok):(Zm prog w).is (.inr x) (.str x t)=true:=yq x t
end
inductive V where
 | non | bl (b:Bool) | int (i:Int) | str (x:Str) | byt (b:Array UInt8) | flt (b:UInt64) | ref (a:aB) | ty (n:String)
 deriving DecidableEq
variable {v:V} {vs:List V}
def RelV:V->aA->Prop
 | .non,u=>u=Value.none
 | .bl b,u=>u=Value.bool b
 | .int i,u=>∃ t,u=Value.int i t
 | .str x,u=>∃ t,u=Value.str x t
 | .byt b,u=>∃ t,u=Value.bytes b t
 | .flt b,u=>∃ t,u=Value.float b t
 | .ref a,u=>u=Value.ref a
 | .ty n,u=>u=Value.type n
abbrev Vals:List V->List aA->Prop:=aq RelV
theorem Vals.length {xs:List V} (r:Vals xs us):xs.length=us.length:=Paired.length r
theorem Vals.get:∀ {xs:List V} {us:List aA} {i:Nat} {x:V},Vals xs us->xs[i]?=some x->∃ u,us[i]?=some u/\RelV x u
 | _,_,_,_,.nil,e=>by simp at e
 | _,_,0,_,.cons r _,e=>by simp at e; subst e; exact ⟨_,rfl,r⟩
 | _,_,i + 1,x,.cons _ t,e=>by
  obtain ⟨u,h1,h2⟩:=Vals.get (i:=i) (x:=x) t (by simpa using e);exact ⟨u,by simpa using h1,h2⟩
theorem Vals.set {x:V} (r:RelV x u):∀ {xs:List V} {us:List aA} (i:Nat),Vals xs us->Vals (xs.set i x) (us.set i u)
 | _,_,_,.nil=>.nil
 | _,_,0,.cons _ t=>.cons r t
 | _,_,i + 1,.cons q t=>.cons q (Vals.set r i t)
theorem Vals.append:∀ {xs ys:List V} {us ws:List aA},Vals xs us->Vals ys ws->Vals (xs ++ ys) (us ++ ws)
 | _,_,_,_,.nil,s=>s
 | _,_,_,_,.cons r t,s=>.cons r (Vals.append t s)
theorem Vals.take:∀ {xs:List V} {us:List aA} (n:Nat),Vals xs us->Vals (xs.take n) (us.take n)
 | _,_,0,_=>.nil
 | _,_,_ + 1,.nil=>.nil
 | _,_,n + 1,.cons r t=>.cons r (Vals.take n t)
theorem Vals.drop:∀ {xs:List V} {us:List aA} (n:Nat),Vals xs us->Vals (xs.drop n) (us.drop n)
 | _,_,0,r=>r
 | _,_,_ + 1,.nil=>.nil
 | _,_,n + 1,.cons _ t=>Vals.drop n t
def RelO:Option V->Option aA->Prop
 | some v,some u=>RelV v u
 | none,none=>True
 | _,_=>False
def KV {κ:Type}:List (κ × V)->List (κ × aA)->Prop:=aq fun (p:κ × V) (q:κ × aA)=>p.1=q.1/\RelV p.2 q.2
def kV:Key->V
 | .inl i=>.int i
 | .inr x=>.str x
inductive HO where
 | lst (xs:List V)
 | tup (xs:List V)
 | dK (kvs:List (Key × V)) | dT (kvs:List (HK × V))
 | set (S:Int->Bool) (n:Nat)
 | ins (C dx:aB) (fs:List (Str × V))
 | own (x:aB)
 | xd (fs:List (Str × V))
 | met (f x:aB)
 | rng (lo hi:Int)
 | frz (o:Obj) (u:HO)
 | tbl (ps:Array aA)
 | ext (φ:Heap->Prop)
variable {o:HO}
abbrev Hp:=aB->Option HO
variable {H:Hp}
def upd (H:Hp) (a:aB) (o:HO):Hp:=fun b=>if b=a then some o else H b
theorem Qp :upd H a o a=some o:=by unfold upd; rw [bN rfl]
theorem Q7 (h:b≠a):upd H a o b=H b:=by unfold upd; rw [bO h]
theorem Qf1 {u:HO} (h:H a=some o) (h':H b=some u) (d:o≠u):a≠b:=by
 intro e; subst e; rw [h] at h'; exact d (Option.some.inj h')
theorem Qb (h:H a=some o) (h':H b=none):a≠b:=by
 intro e; subst e; rw [h] at h'; cases h'
mutual
def KAt (H:Hp):HK->V->Prop
 | .int i,v=>v=.int i
 | .str x,v=>v=.str x
 | .tup l,v=>∃ a vs,v=.ref a/\H a=some (.tup vs)/\KAtL H l vs
def KAtL (H:Hp):List HK->List V->Prop
 | [],vs=>vs=[]
 | k :: l,vs=>∃ v r,vs=v :: r/\KAt H k v/\KAtL H l r
end
mutual
theorem KAt.keep {H H':Hp} (B:∀ b xs,H b=some (.tup xs)->H' b=some (.tup xs)):∀ {k:HK} {v:V},KAt H k v->KAt H' k v
 | .int _,_,r=>r
 | .str _,_,r=>r
 | .tup _,_,⟨a,vs,e,h,r⟩=>⟨a,vs,e,B a vs h,KAtL.keep B r⟩
theorem KAtL.keep {H H':Hp} (B:∀ b xs,H b=some (.tup xs)->H' b=some (.tup xs)):∀ {l:List HK} {vs:List V},KAtL H l vs->KAtL H' l vs
 | [],_,r=>r
 | _ :: _,_,⟨v,r,e,h,t⟩=>⟨v,r,e,KAt.keep B h,KAtL.keep B t⟩
end
def KR (H:Hp) (k:HK) (b:V):Prop:=KAt H k b/\Dp 5 k
theorem KR.keep {H':Hp} {k:HK} {b:V} (r:KR H k b) (B:∀ b xs,H b=some (.tup xs)->H' b=some (.tup xs)):KR H' k b:=⟨r.1.keep B,r.2⟩
section
variable (P:aM) (w:aJ)
def ObjOk (H:Hp) (h:Heap) (a:aB):HO->Prop
 | .lst xs=>xs.length<=sizeLine/\∃ (its:List aA) (n:Nat),Vals xs its/\h.get? a=some { cls:=.type "list",data:=.seq its.toArray n }
 | .tup xs=>xs.length<=sizeLine/\∃ its:List aA,Vals xs its/\IsTup h a its.toArray
 | .dK kvs=>kvs.length<=sizeLine/\(a == aZ)=false/\∃ vs,KV kvs vs/\h.DictOf (Zm P w) a vs
 | .dT kvs=>kvs.length<=sizeLine/\(a == aZ)=false/\∃ xs:List (HK × aA × aA),
   aq (fun (p:HK × V) (q:HK × aA × aA)=>p.1=q.1/\(∃ u,KR H p.1 u/\RelV u q.2.1)/\RelV p.2 q.2.2) kvs xs /\
   ∃ o es ep,h.get? a=some o/\o.ExactDict/\o.data=.dict es ep/\es.toList=xs.map (vE P w)/\(xs.map (·.1)).Nodup
 | .set S n=>h.SetOf (intKind P w) a S n
 | .ins C dx fs=>H dx=some (.own a)/\fs.length<=1000/\dx≠a/\h.get? a=some (PySem.W.instObj C dx) /\
   ∃ mA,h.Ns1 dx mA/\(∀ f,RelO (fs.lookup f) (mA f))/\PySem.Within mA (fs.map (·.1))
 | .own _=>∃ o,h.get? a=some o
 | .xd fs=>∃ mA,h.Ns1 a mA/\∀ f,RelO (fs.lookup f) (mA f)
 | .rng lo hi=>∃ t u v,h.get? a=some { cls:=.type "range",data:=.fields #[.int lo t,.int hi u,.int 1 v] }
 | .frz o u=>h.get? a=some o/\ObjOk H h a u
 | .tbl ps=>h.get? a=some { cls:=.none,data:=.fields ps }
 | .met f x=>h.get? a=some (PySem.W.methodObj (.ref f) (.ref x))
 | .ext φ=>φ h/\(∃ o,h.get? a=some o)/\∀ h1 h2:Heap,φ h1->(∀ o,h1.get? a=some o->h2.get? a=some o)->φ h2
def HOk (H:Hp) (h:Heap):Prop:=∀ a o,H a=some o->ObjOk P w H h a o
end
variable {P:aM} {H H':Hp} {h h':Heap} {a:aB} {o:HO}
section
variable {w:aJ}
theorem ObjOk.lt (x:ObjOk P w H h a o):a < h.objs.size:=by
 cases o with
 | lst xs=>obtain ⟨_,_,_,_,e⟩:=x; exact D9 e
 | tup xs=>obtain ⟨_,_,_,p⟩:=x; exact p.lt
 | dK kvs=>obtain ⟨_,_,_,_,o,_,_,e,_⟩:=x; exact D9 e
 | dT kvs=>obtain ⟨_,_,_,_,o,_,_,e,_⟩:=x; exact D9 e
 | set S n=>obtain ⟨o,_,_,_,e,_⟩:=x; exact D9 e
 | ins C dx fs=>obtain ⟨_,_,_,e,_⟩:=x; exact D9 e
 | own y=>obtain ⟨_,e⟩:=x; exact D9 e
 | xd fs=>obtain ⟨_,⟨_,_,_,e,_⟩,_⟩:=x; exact D9 e
 | rng lo hi=>obtain ⟨_,_,_,e⟩:=x; exact D9 e
 | frz ob u=>obtain ⟨e,_⟩:=x; exact D9 e
 | tbl ps=>exact D9 (show h.get? a=some _ from x)
 | met f y=>exact D9 (show h.get? a=some _ from x)
 | ext B=>obtain ⟨_,⟨_,e⟩,_⟩:=x; exact D9 e
theorem Paired.mapP {β:Type} {F G:α->β->Prop}:∀ {I:List α} {B:List β},aq F I B->(∀ a b,F a b->G a b)->aq G I B
 | _,_,.nil,_=>.nil
 | _,_,.cons r t,f=>.cons (f _ _ r) (Paired.mapP t f)
theorem ObjOk.stay (x:ObjOk P w H h a o) (k:∀ b u,(b=a\/H b=some (.own a))->h.get? b=some u->h'.get? b=some u)
  (J:∀ b,H b=some (.own a)->H' b=some (.own a)) (I:∀ b xs,H b=some (.tup xs)->H' b=some (.tup xs)):ObjOk P w H' h' a o:=by
 induction o with
 | lst xs=>obtain ⟨z,its,n,r,e⟩:=x; exact ⟨z,its,n,r,k _ _ (.inl rfl) e⟩
 | tup xs=>obtain ⟨z,its,r,ob,e,c⟩:=x; exact ⟨z,its,r,ob,k _ _ (.inl rfl) e,c⟩
 | dK kvs=>obtain ⟨z,y,vs,r,ob,es,ep,e,c⟩:=x; exact ⟨z,y,vs,r,ob,es,ep,k _ _ (.inl rfl) e,c⟩
 | dT kvs=>
  obtain ⟨z,y,xs,r,ob,es,ep,e,c⟩:=x;exact ⟨z,y,xs,Paired.mapP r fun p q z=>⟨z.1,(let ⟨u,a,b⟩:=z.2.1; ⟨u,a.keep I,b⟩),z.2.2⟩,ob,es,ep,k _ _ (.inl rfl) e,c⟩
 | set S n=>obtain ⟨ob,es,ep,t,e,c⟩:=x; exact ⟨ob,es,ep,t,k _ _ (.inl rfl) e,c⟩
 | ins C dx fs=>
  obtain ⟨d,z,ne,e,mA,⟨B,es,ep,U,c⟩,r⟩:=x;exact ⟨J _ d,z,ne,k _ _ (.inl rfl) e,mA,⟨B,es,ep,k _ _ (.inr d) U,c⟩,r⟩
 | own y=>obtain ⟨ob,e⟩:=x; exact ⟨ob,k _ _ (.inl rfl) e⟩
 | xd fs=>obtain ⟨mA,⟨B,es,ep,e,c⟩,r⟩:=x; exact ⟨mA,⟨B,es,ep,k _ _ (.inl rfl) e,c⟩,r⟩
 | rng lo hi=>obtain ⟨t,u,v,e⟩:=x; exact ⟨t,u,v,k _ _ (.inl rfl) e⟩
 | frz ob u O=>obtain ⟨e,q⟩:=x; exact ⟨k _ _ (.inl rfl) e,O q⟩
 | tbl ps=>
  have e:h.get? a=some { cls:=.none,data:=.fields ps }:=x;show h'.get? a=some { cls:=.none,data:=.fields ps };exact k a _ (.inl rfl) e
 | met f y=>
  have e:h.get? a=some (PySem.W.methodObj (.ref f) (.ref y)):=x;show h'.get? a=some (PySem.W.methodObj (.ref f) (.ref y));exact k a _ (.inl rfl) e
 | ext Y=>obtain ⟨p,⟨o,e⟩,st⟩:=x; exact ⟨st _ _ p fun o q=>k _ _ (.inl rfl) q,⟨o,k _ _ (.inl rfl) e⟩,st⟩
theorem HOk.lt (x:HOk P w H h) (e:H a=some o):a < h.objs.size:=(x a o e).lt
theorem HOk.fresh (x:HOk P w H h) (e:h.objs.size<=a):H a=none:=by
 cases q:H a with
 | none=>rfl
 | some u=>exact absurd (E2 (x.lt q) e) (Nat.lt_irrefl _)
theorem HOk.kept (x:HOk P w H h) (k:∀ b u,h.get? b=some u->h'.get? b=some u):HOk P w H h':=fun a o e=>
 (x a o e).stay (fun b u _ q=>k b u q) (fun _ q=>q) fun _ _ q=>q
theorem HOk.laid (x:HOk P w H h) (k:∀ b u,h.get? b=some u->h'.get? b=some u) (J:h.objs.size<=a) (new:ObjOk P w (upd H a o) h' a o):HOk P w (upd H a o) h':=fun b u e=>by
 have B:=x.fresh J
 by_cases I:b=a
 ·subst I; rw [Qp] at e; cases e; exact new
 ·rw [Q7 I] at e;exact (x b u e).stay (fun c v _ q=>k c v q) (fun c q=>by rw [Q7 (Qb q B)]; exact q) fun c xs q=>by rw [Q7 (Qb q B)]; exact q
end
def Rd (H:Hp) (a:aB) (u:HO):Prop:=H a=some u\/∃ o,H a=some (.frz o u)
theorem Rd.ok {w:aJ} {u:HO} (r:Rd H a u) (x:HOk P w H h):ObjOk P w H h a u:=by
 rcases r with r | ⟨o,r⟩
 ·exact x a u r
 ·obtain ⟨_,q⟩:=x a _ r;exact q
def Mut:Option HO->Prop
 | some (.lst _)=>True
 | some (.dK _)=>True
 | some (.dT _)=>True
 | some (.set _ _)=>True
 | some (.ins _ _ _)=>True
 | some (.ext _)=>True
 | _=>False
variable {x e:aB} {o':HO}
section
variable {w:aJ}
theorem HOk.write (ok:HOk P w H h) (O:Mut (H x)) (he:e=x\/H e=some (.own x)) (k:∀ b u,b≠e->h.get? b=some u->h'.get? b=some u) (Z:∃ u,h'.get? e=some u)
  (new:ObjOk P w (upd H x o') h' x o'):HOk P w (upd H x o') h':=fun b u q=>by
 have I:∀ c y,H c=some (.own y)->c≠x:=fun c y r z=>by subst z; rw [r] at O; exact O
 have J:∀ c xs,H c=some (.tup xs)->c≠x:=fun c xs r z=>by subst z; rw [r] at O; exact O
 by_cases Y:b=x
 ·subst Y; rw [Qp] at q; cases q; exact new
 ·rw [Q7 Y] at q
  by_cases B:b=e
  ·have q':H b=some (.own x):=by
    rcases he with z | z
    ·exact absurd (B.trans z) Y
    ·rw [B]; exact z
   rw [q] at q'; cases q';obtain ⟨v,hv⟩:=Z;exact ⟨v,by rw [B]; exact hv⟩
  ·refine (ok b u q).stay (fun c v U r=>k c v ?_ r) (fun c r=>by rw [Q7 (I c b r)]; exact r) fun c xs r=>by rw [Q7 (J c xs r)]; exact r
   rcases U with rfl | U
   ·exact B
   ·rintro rfl;rcases he with z | z
    ·exact I c b U z
    ·rw [U] at z; cases z; exact Y rfl
end
structure Un (fs ex:List aB) (H H':Hp) (h h':Heap):Prop where
 keep:∀ b o,h.get? b=some o->H b=none->b∉fs->b∉ex->h'.get? b=some o
 slot:∀ b o,h.get? b=some o->H b=none->b∈fs->b∉ex->∃ sl,h'.get? b=some { o with slots:=sl }
 free:∀ b o,h.get? b=some o->H b=none->b∉ex->H' b=none
 there:∀ b o,h.get? b=some o->b∉ex->∃ o',h'.get? b=some o'
 tups:∀ b xs,H b=some (.tup xs)->H' b=some (.tup xs)
 frzs:∀ b o u,H b=some (.frz o u)->H' b=some (.frz o u)
 tbls:∀ b ps,H b=some (.tbl ps)->∃ more,H' b=some (.tbl (ps ++ more))
variable {fs' ex ex':List aB} {H1 H2:Hp} {h1 h2:Heap}
section
variable {fs:List aB}
theorem Un.any (u:Un fs ex H H1 h h1) {ob:Obj} (q:h.get? b=some ob) (n:H b=none) (I:b∉ex):∃ J,h1.get? b=some { ob with slots:=J }:=by
 by_cases B:b∈fs
 ·exact u.slot b ob q n B I
 ·exact ⟨ob.slots,u.keep b ob q n B I⟩
theorem Un.kept (k:∀ b u,h.get? b=some u->h'.get? b=some u):Un fs ex H H h h':=
 ⟨fun b ob q _ _ _=>k b ob q,fun b ob q _ _ _=>⟨ob.slots,k b ob q⟩,fun _ _ _ n _=>n,fun b ob q _=>⟨ob,k b ob q⟩,fun _ _ q=>q,fun _ _ _ q=>q,fun _ ps q=>⟨#[],by rw [q]; simp⟩⟩
theorem Un.refl:Un fs ex H H h h:=Un.kept fun _ _ q=>q
theorem Un.laid (k:∀ b u,h.get? b=some u->h'.get? b=some u) (I:h.objs.size<=a) (B:H a=none):Un fs ex H (upd H a o) h h' where
 keep:=fun b u q _ _ _=>k b u q
 slot:=fun b u q _ _ _=>⟨u.slots,k b u q⟩
 free:=fun b u q n _=>by rw [Q7 (F8 (E2 (D9 q) I))]; exact n
 there:=fun b u q _=>⟨u,k b u q⟩
 tups:=fun b xs q=>by rw [Q7 (Qb q B)]; exact q
 frzs:=fun b u xs q=>by rw [Q7 (Qb q B)]; exact q
 tbls:=fun b ps q=>⟨#[],by rw [Q7 (Qb q B),q]; simp⟩
theorem Un.write (I:Mut (H x)) (Z:e=x\/H e=some (.own x)) (k:∀ b u,b≠e->h.get? b=some u->h'.get? b=some u) (J:∃ u,h'.get? e=some u):Un fs ex H (upd H x o) h h':=by
 have U:∀ b,H b=none->b≠x:=fun b n z=>by subst z; rw [n] at I; exact I
 have Y:∀ b,H b=none->b≠e:=fun b n z=>by
  subst z;rcases Z with r | r
  ·exact U b n r
  ·rw [n] at r; cases r
 have O:∀ b u,H b=some u->¬ Mut (some u)->b≠x:=fun b u q nm z=>by subst z; rw [q] at I; exact nm I
 refine ⟨fun b u q n _ _=>k b u (Y b n) q,fun b u q n _ _=>⟨u.slots,k b u (Y b n) q⟩,fun b u q n _=>by rw [Q7 (U b n)]; exact n,fun b u q _=>?_,
  fun b xs q=>by rw [Q7 (O b _ q fun z=>z)]; exact q,fun b u xs q=>by rw [Q7 (O b _ q fun z=>z)]; exact q,fun b ps q=>⟨#[],by rw [Q7 (O b _ q fun z=>z),q]; simp⟩⟩
 by_cases B:b=e
 ·subst B; exact J
 ·exact ⟨u,k b u B q⟩
end
def trk (h:Heap) (H:Hp):List aB:=(List.range h.objs.size).filter fun a=>(H a).isSome
def Q4u (h:Heap) (H:Hp):Heap:=PySem.W.hideAll h (trk h H)
theorem Qbw (h:Heap) (H:Hp):(Q4u h H).objs.size=h.objs.size:=PySem.W.hideAll_size _ _
theorem Qg0 {o:Obj} (e:h.get? b=some o) (n:H b=none):(Q4u h H).get? b=some o:=
 PySem.W.hideAll_get _ e fun B=>by
  have q:(H b).isSome=true:=(List.mem_filter.mp B).2;rw [n] at q; simp at q
theorem Qjd {o:Obj} (e:(Q4u h H).get? b=some o):h.get? b=some o/\H b=none:=by
 have B:h.get? b=some o:=PySem.W.of_hideAll (trk h H) e;refine ⟨B,?_⟩;cases q:H b with
 | none=>rfl
 | some x=>
  have I:b∈trk h H:=List.mem_filter.mpr ⟨M0.mpr (D9 B),by simp [q]⟩;have z:(Q4u h H).get? b=none:=PySem.W.hideAll_none (trk h H) I;rw [z] at e; cases e
def Qki (g h:Heap) (L:aB):List (aB × Obj):=(List.range h.objs.size).filterMap fun a=>if a=L\/(g.get? a).isSome=true then none else (h.get? a).map fun o=>(a,o)
def rest (g h:Heap) (L d:aB):List (aB × Obj):=(Qki g h L).filter fun p=>decide (p.1≠d)
structure Mod (K:PySem.W.Frag) (mg:Str->Option aA) (base:Heap):Prop where
 kin:K.In base
 glob:base.Ns aS mg
 blt:∃ mb,base.Ns builtinsNs mb/\∀ x:Str,x≠"__name__" -> mb x=aW x
 nolimit:base.NoLimit
structure Cx where
 prog:aM
 w:aJ
 K:PySem.W.Frag
 mg:Str->Option aA
 base:Heap
 A:aQ
 N:List Str
 s₀:aC
 H₀:Hp
 env:Env
 outer:List Env
 stack:List Env
 ex:List aB
 fn:Str->Bool
 calm:Bool
 pn:List (aB × Obj)
 xe:aA->aC->Prop
def frs (l:List Env):List aB:=l.filterMap (·.frame)
abbrev Cx.fs (X:Cx):List aB:=frs X.outer
def Vis (sc:Scope) (x:Str):Prop:=sc.names.lookup x=some .local\/sc.names.lookup x=some .cell\/sc.names.lookup x=some .free
def Loc (sc:Scope) (x:Str):Prop:=sc.names.lookup x=some .local\/sc.names.lookup x=some .cell
def Qxf (env:Env) (h:Heap) (m:Str->Option aA) (x:Str) (u:aA):Prop:=
 (env.kindOf x=some .local/\m x=some u)\/((env.kindOf x=some .cell\/env.kindOf x=some .free)/\∃ c,env.cells.lookup x=some c/\h.IsCell c (some u))
structure Cx.Ok (X:Cx):Prop where
 mod:Mod X.K X.mg X.base
 kind:X.env.scope.kind=.function
 glob:X.env.globals=aS
 blt:X.env.builtins=builtinsNs
 above:X.s₀.heap.objs.size<=X.env.locals
 inj:∀ x y c,X.env.cells.lookup x=some c->X.env.cells.lookup y=some c->x=y
 has:∀ x,(X.env.kindOf x=some .cell\/X.env.kindOf x=some .free)->∃ c,X.env.cells.lookup x=some c
 cab:∀ x c,X.fn x=true->X.env.cells.lookup x=some c->X.s₀.heap.objs.size<=c
 hd:X.calm=true->X.A.handled=none
 frames:X.A.frames=some X.stack
 stk:X.stack=X.outer\/(X.stack=X.env :: X.outer/\X.env.frame=some X.env.locals)
 exf:∀ b∈X.ex,b≠X.env.locals/\∀ x c,X.env.cells.lookup x=some c->c≠b
 bs:∀ b o,X.base.get? b=some o->X.s₀.heap.get? b=some o/\X.H₀ b=none
 bsz:X.base.objs.size<=X.s₀.heap.objs.size
 noex:∀ b o,X.base.get? b=some o->b∉X.ex
 exfs:∀ b∈X.ex,b∉X.fs
 funs:X.s₀.heap.FunFrames X.base X.outer
 frf:∀ b∈X.fs,X.H₀ b=none
structure Inv (X:Cx) (pins:List (aB × Obj)) (σ:List (Option V)) (H:Hp) (s:aC):Prop where
 ok:X.Ok
 os:s.os=X.s₀.os
 bare:AllBare s.gens
 base:Un X.fs X.ex X.H₀ H X.s₀.heap s.heap
 loc:∃ m,s.heap.Ns X.env.locals m/\∀ (i:Nat) (x:Str) (v:V),X.N[i]?=some x->σ[i]?=some (some v)->Vis X.env.scope x->∃ u,RelV v u/\Qxf X.env s.heap m x u
 cell:∀ x c,X.env.cells.lookup x=some c->∃ v,s.heap.IsCell c v
 free:H X.env.locals=none
 freeC:∀ x c,X.env.cells.lookup x=some c->H c=none
 pin:∀ p∈X.pn ++ pins,s.heap.get? p.1=some p.2/\H p.1=none/\p.1≠X.env.locals/\p.1∉X.fs/\∀ v,p.2.data≠.cell v
 hok:HOk X.prog X.w H s.heap
 len:σ.length=X.N.length
variable {X:Cx} {pins:List (aB × Obj)} {σ:List (Option V)} {s:aC}
theorem Cx.Ok.nofr (ok:X.Ok) {o:Obj} (e:X.base.get? b=some o):b∉X.fs:=fun B=>by
 have:=(ok.funs.mem B).1;rw [e] at this; cases this
theorem Inv.bs (I:Inv X pins σ H s):∀ b o,X.base.get? b=some o->s.heap.get? b=some o/\H b=none:=fun b o e=>
 ⟨I.base.keep b o (I.ok.bs b o e).1 (I.ok.bs b o e).2 (I.ok.nofr e) (I.ok.noex b o e),I.base.free b o (I.ok.bs b o e).1 (I.ok.bs b o e).2 (I.ok.noex b o e)⟩
theorem Inv.bk (I:Inv X pins σ H s):∀ b o,X.base.get? b=some o->s.heap.get? b=some o:=fun b o e=>(I.bs b o e).1
theorem Inv.mod (I:Inv X pins σ H s):Mod X.K X.mg X.base:=I.ok.mod
theorem Inv.kIn (I:Inv X pins σ H s):X.K.In s.heap:=I.ok.mod.kin.keeps I.bk
theorem Inv.lt (I:Inv X pins σ H s):X.env.locals < s.heap.objs.size:=let ⟨_,B,_⟩:=I.loc; B.lt
theorem Inv.sz (I:Inv X pins σ H s):X.s₀.heap.objs.size<=s.heap.objs.size:=F9 I.ok.above (Nat.le_of_lt I.lt)
theorem Inv.nofs (I:Inv X pins σ H s) (h:s.heap.objs.size<=a):a∉X.fs:=fun J=>by
 obtain ⟨_,o,B,_⟩:=I.ok.funs.mem J;exact absurd (E2 (D9 B) (F9 I.sz h)) (Nat.lt_irrefl _)
theorem Inv.cne (I:Inv X pins σ H s):∀ x c,X.env.cells.lookup x=some c->c≠X.env.locals:=fun x c e z=>by
 obtain ⟨v,o,O,hd⟩:=I.cell x c e;obtain ⟨m,⟨o',es,ep,B,J,_⟩,_⟩:=I.loc;rw [z,B] at O; cases O; rw [J] at hd; cases hd
theorem Inv.funs (I:Inv X pins σ H s):s.heap.FunFrames X.base X.outer:=by
 have all:∀ (l:List Env),(∀ b∈frs l,b∈X.fs)->X.s₀.heap.FunFrames X.base l->s.heap.FunFrames X.base l:=by
  intro l
  induction l with
  | nil=>intro _ _; trivial
  | cons env r Z=>
   intro hs U;obtain ⟨hk,⟨L,o,J,hn,Y,hd⟩,hr⟩:=U;have B:L∈X.fs:=hs L (by unfold frs; rw [List.filterMap_cons,J]; exact O9);obtain ⟨sl,e⟩:=I.base.slot L o Y (I.ok.frf L B) B fun z=>I.ok.exfs L z B
   exact ⟨hk,⟨L,_,J,hn,e,hd⟩,Z (fun b O=>hs b (by unfold frs; rw [List.filterMap_cons,J]; exact O4 _ O)) hr⟩
 exact all X.outer (fun _ O=>O) I.ok.funs
theorem Inv.stack (I:Inv X pins σ H s):s.heap.FunFrames X.base X.stack:=by
 rcases I.ok.stk with e | ⟨e,J⟩
 ·rw [e]; exact I.funs
 ·rw [e];obtain ⟨m,B,_⟩:=I.loc;refine .cons (by rw [I.ok.kind]; decide) J B ?_ I.funs;exact Heap.get?_none_of_le (F9 I.ok.bsz I.ok.above)
theorem Inv.stkSub (I:Inv X pins σ H s):∀ b∈frs X.stack,b∈X.env.locals :: X.fs:=fun b B=>by
 rcases I.ok.stk with e | ⟨e,J⟩
 ·rw [e] at B; exact O4 _ B
 ·rw [e] at B;unfold frs at B;rw [List.filterMap_cons,J] at B;exact B
theorem Inv.stkFree (I:Inv X pins σ H s):∀ b∈frs X.stack,H b=none:=fun b B=>by
 rcases D8.mp (I.stkSub b B) with e | B
 ·rw [e]; exact I.free
 ·obtain ⟨_,o,J,_⟩:=I.ok.funs.mem B;exact I.base.free b o J (I.ok.frf b B) fun z=>I.ok.exfs b z B
theorem Inv.step {g':Array GenState} {t':Nat} {d':Drawn} {ch:List aB} (I:Inv X pins σ H s)
  (J:∀ b∈ch,(b∈X.ex\/X.s₀.heap.objs.size<=b)/\b≠X.env.locals/\(∀ x c,X.env.cells.lookup x=some c->c≠b)/\∀ p∈X.pn ++ pins,p.1≠b)
  (keep:∀ b o,b≠X.env.locals->b∉X.fs->b∉ch->s.heap.get? b=some o->H b=none->h'.get? b=some o)
  (slot:∀ b o,b≠X.env.locals->b∈X.fs->b∉ch->s.heap.get? b=some o->H b=none->∃ sl,h'.get? b=some { o with slots:=sl }) (free:∀ b o,b∉ch->s.heap.get? b=some o->H b=none->H' b=none)
  (there:∀ b o,b∉ch->s.heap.get? b=some o->∃ o',h'.get? b=some o')
  (tups:∀ b xs,H b=some (.tup xs)->H' b=some (.tup xs)) (frzs:∀ b o u,H b=some (.frz o u)->H' b=some (.frz o u)) (tbls:∀ b ps,H b=some (.tbl ps)->∃ a2,H' b=some (.tbl (ps ++ a2)))
  (ns:∀ m,s.heap.Ns X.env.locals m->h'.Ns X.env.locals m) (hok:HOk X.prog X.w H' h') (hg:AllBare g') :
  Inv X pins σ H' { s with heap:=h',gens:=g',drawn:=d',toks:=t' }:=by
 have a1:∀ b o,X.s₀.heap.get? b=some o->b≠X.env.locals:=fun b o e=>F8 (E2 (D9 e) I.ok.above)
 have Y:∀ b o,X.s₀.heap.get? b=some o->b∉X.ex->b∉ch:=fun b o e B hb=>by
  rcases (J b hb).1 with z | z
  ·exact B z
  ·exact absurd (E2 (D9 e) z) (Nat.lt_irrefl _)
 have O:∀ x c,X.env.cells.lookup x=some c->∀ v,s.heap.IsCell c v->h'.IsCell c v:=fun x c e v ⟨o,ho,hd⟩=>by
  have U:c∉ch:=fun z=>(J c z).2.2.1 x c e rfl
  by_cases hc:c∈X.fs
  ·obtain ⟨sl,q⟩:=slot c o (I.cne x c e) hc U ho (I.freeC x c e);exact ⟨_,q,hd⟩
  ·exact ⟨o,keep c o (I.cne x c e) hc U ho (I.freeC x c e),hd⟩
 refine ⟨I.ok,I.os,hg,⟨fun b o e n hb B=>?_,fun b o e n hb B=>?_,fun b o e n B=>?_,fun b o e B=>?_,fun b xs e=>tups b xs (I.base.tups b xs e),fun b o xs e=>frzs b o xs (I.base.frzs b o xs e),fun b ps e=>?_⟩,?_,fun x c e=>?_,?_,fun x c e=>?_,fun p hp=>?_,hok,I.len⟩
 ·exact keep b o (a1 b o e) hb (Y b o e B) (I.base.keep b o e n hb B) (I.base.free b o e n B)
 ·obtain ⟨sl,Z⟩:=I.base.slot b o e n hb B;obtain ⟨a3,e2⟩:=slot b _ (a1 b o e) hb (Y b o e B) Z (I.base.free b o e n B);exact ⟨a3,e2⟩
 ·obtain ⟨o',Z⟩:=I.base.there b o e B;exact free b o' (Y b o e B) Z (I.base.free b o e n B)
 ·obtain ⟨o',Z⟩:=I.base.there b o e B;exact there b o' (Y b o e B) Z
 ·obtain ⟨m1,Z⟩:=I.base.tbls b ps e;obtain ⟨m2,e2⟩:=tbls b _ Z;exact ⟨m1 ++ m2,by rw [e2,Array.append_assoc]⟩
 ·obtain ⟨m,hn,hl⟩:=I.loc;refine ⟨m,ns m hn,fun i x v Z e2 e3=>?_⟩;obtain ⟨u,r,l⟩:=hl i x v Z e2 e3;refine ⟨u,r,?_⟩;rcases l with l | ⟨k,c,e,z⟩
  ·exact .inl l
  ·exact .inr ⟨k,c,e,O x c e _ z⟩
 ·obtain ⟨v,z⟩:=I.cell x c e;exact ⟨v,O x c e v z⟩
 ·obtain ⟨m,⟨o,_,_,ho,_⟩,_⟩:=I.loc;exact free _ o (fun z=>(J _ z).2.1 rfl) ho I.free
 ·obtain ⟨v,o,ho,hd⟩:=I.cell x c e;exact free c o (fun z=>(J c z).2.2.1 x c e rfl) ho (I.freeC x c e)
 ·obtain ⟨e,n,ne,nf,d⟩:=I.pin p hp;have U:p.1∉ch:=fun z=>(J p.1 z).2.2.2 p hp rfl
  exact ⟨keep p.1 p.2 ne nf U e n,free p.1 p.2 U e n,ne,nf,d⟩
theorem Inv.un (I:Inv X pins σ H s) (u:Un X.fs [] H H' s.heap h') (hok:HOk X.prog X.w H' h'):Inv X pins σ H' { s with heap:=h',toks:=t' }:=by
 obtain ⟨m,⟨o,es,ep,Y,r⟩,_⟩:=id I.loc;obtain ⟨sl,hL⟩:=u.any Y I.free (by simp);exact I.step (g':=s.gens) (d':=s.drawn) (ch:=[]) (fun _ z=>nomatch z) (fun b o _ O _ e n=>u.keep b o e n O (by simp)) (fun b o _ O _ e n=>u.slot b o e n O (by simp)) (fun b o _ e n=>u.free b o e n (by simp)) (fun b o _ e=>u.there b o e (by simp)) u.tups u.frzs u.tbls (fun m' hm=>by
  obtain ⟨o',J,U,B,Z⟩:=hm;rw [Y] at B; cases B;exact ⟨_,J,U,hL,Z⟩) hok I.bare
theorem Inv.call {t':Nat} {d':Drawn} (I:Inv X pins σ H s) (u:Un (frs X.stack) ch H H' s.heap h') (hok:HOk X.prog X.w H' h') (hg:AllBare g')
  (O:∀ b∈ch,(b∈X.ex\/X.s₀.heap.objs.size<=b)/\b≠X.env.locals/\(∀ x c,X.env.cells.lookup x=some c->c≠b)/\∀ p∈X.pn ++ pins,p.1≠b) :
  Inv X pins σ H' { s with heap:=h',gens:=g',drawn:=d',toks:=t' }:=by
 obtain ⟨m,⟨o,es,ep,ho,r⟩,_⟩:=id I.loc;obtain ⟨sl,U⟩:=u.any ho I.free fun z=>(O _ z).2.1 rfl
 exact I.step (ch:=ch) O (fun b o U hb B e n=>u.keep b o e n (fun z=>(D8.mp (I.stkSub b z)).elim U hb) B) (fun b o _ _ B e n=>u.any e n B) (fun b o B e n=>u.free b o e n B) (fun b o B e=>u.there b o e B) u.tups u.frzs u.tbls (fun m' hm=>by
  obtain ⟨o',Y,Z,J,r'⟩:=hm;rw [ho] at J; cases J;exact ⟨_,Y,Z,U,r'⟩) hok hg
theorem Inv.turned {t':Nat} (I:Inv X pins σ H s) (k:∀ b o,b≠it->s.heap.get? b=some o->h'.get? b=some o) (hn:H it=none) (O:it≠X.env.locals)
  (h1:it∈X.ex\/X.s₀.heap.objs.size<=it) (h2:∀ x c,X.env.cells.lookup x=some c->c≠it) (U:∀ p∈X.pn ++ pins,p.1≠it):Inv X pins σ H { s with heap:=h',toks:=t' }:=by
 have J:∀ b u,H b=some u->b≠it:=fun b u e z=>by rw [z,hn] at e; cases e
 refine I.step (g':=s.gens) (d':=s.drawn) (ch:=[it]) (fun b hb=>?_) (fun b o _ _ B e _=>k b o (fun z=>B (by simp [z])) e) (fun b o _ _ B e _=>⟨o.slots,k b o (fun z=>B (by simp [z])) e⟩) (fun _ _ _ _ n=>n)
  (fun b o B e=>⟨o,k b o (fun z=>B (by simp [z])) e⟩) (fun _ _ e=>e) (fun _ _ _ e=>e) (fun b ps e=>⟨#[],by rw [e]; simp⟩) (fun m Y=>?_) (fun b u e=>?_) I.bare
 ·have e:b=it:=by simpa using hb
  subst e;exact ⟨h1,O,h2,U⟩
 ·obtain ⟨o,es,ep,Z,r⟩:=Y;exact ⟨o,es,ep,k _ o (Ne.symm O) Z,r⟩
 ·refine (I.hok b u e).stay (fun c v B q=>k c v ?_ q) (fun _ q=>q) fun _ _ q=>q
  rcases B with z | z
  ·rw [z]; exact J b u e
  ·exact J c _ z
theorem Inv.tok (I:Inv X pins σ H s) (t:Nat):Inv X pins σ H { s with toks:=t }:=I.un (h':=s.heap) (t':=t) Un.refl I.hok
theorem Inv.kept (I:Inv X pins σ H s) (k:∀ b u,s.heap.get? b=some u->h'.get? b=some u):Inv X pins σ H { s with heap:=h',toks:=t' }:=I.un (Un.kept k) (I.hok.kept k)
theorem Inv.laid {t':Nat} (I:Inv X pins σ H s) (k:∀ b u,s.heap.get? b=some u->h'.get? b=some u) (B:s.heap.objs.size<=a) (new:ObjOk X.prog X.w (upd H a o) h' a o) :
  Inv X pins σ (upd H a o) { s with heap:=h',toks:=t' }:=I.un (Un.laid k B (I.hok.fresh B)) (I.hok.laid k B new)
theorem Inv.write {o:HO} {t':Nat} (I:Inv X pins σ H s) (O:Mut (H x)) (J:e=x\/H e=some (.own x)) (k:∀ b u,b≠e->s.heap.get? b=some u->h'.get? b=some u) (B:∃ u,h'.get? e=some u)
  (new:ObjOk X.prog X.w (upd H x o) h' x o):Inv X pins σ (upd H x o) { s with heap:=h',toks:=t' }:=I.un (Un.write O J k B) (I.hok.write O J k B new)
theorem Inv.pins_of {B:List (aB × Obj)} (I:Inv X pins σ H s) (h:∀ p∈B,s.heap.get? p.1=some p.2/\H p.1=none/\p.1≠X.env.locals/\p.1∉X.fs/\∀ v,p.2.data≠.cell v):Inv X B σ H s:=
 ⟨I.ok,I.os,I.bare,I.base,I.loc,I.cell,I.free,I.freeC,fun p J=>(D4.mp J).elim (fun z=>I.pin p (M6 _ z)) (h p),I.hok,I.len⟩
theorem Q6b {N:List Str} (B:N.Nodup) {i j:Nat} {x:Str} (a:N[i]?=some x) (b:N[j]?=some x):i=j:=by
 obtain ⟨h1,J⟩:=O0.mp a;obtain ⟨h2,I⟩:=O0.mp b;exact (List.getElem_inj B).mp (J.trans I.symm)
theorem Q2w {M:Model} {A:aQ} {E:aA->aC->Prop} {i:Nat} {x:Str} {Q:Unit->aC->Prop} (I:Inv X pins σ H s) (hN:X.N.Nodup) (hi:X.N[i]?=some x) (U:Loc X.env.scope x) (r:RelV v u)
  (h:∀ s',Inv X pins (σ.set i (some v)) H s'->(∃ a,Heap.SameBut a s.heap s'.heap/\(a=X.env.locals\/X.env.cells.lookup x=some a))->Q () s') (hf:X.fn x=true\/X.env.scope.names.lookup x=some .local:=by first | exact .inl rfl | exact .inr rfl | assumption):aF M A (storeName X.env x u) Q E s:=by
 obtain ⟨m,hn,hl⟩:=id I.loc;have a4:(X.env.scope.kind == .class || (X.env.scope.kind == .module && X.env.locals != X.env.globals))=false:=by rw [I.ok.kind]; rfl
 have a1:i < σ.length:=by rw [I.len]; exact (O0.mp hi).1
 have cne:=I.cne;have B:∀ {a:aB} {h':Heap},(∃ o,s.heap.get? a=some o/\H a=none)->Heap.SameBut a s.heap h'->HOk X.prog X.w H h':=fun {a h'} ha hs b ob e=>by
  obtain ⟨_,_,Y⟩:=ha;refine (I.hok b ob e).stay (fun c w' O q=>(hs.2 c ?_).trans q) (fun _ q=>q) fun _ _ q=>q
  rintro rfl;rcases O with rfl | O
  ·rw [Y] at e; cases e
  ·rw [Y] at O; cases O
 rcases U with hk | hk
 ·refine wpAny_storeName_local hk hn (fun h' a8 hs=>?_) a4;obtain ⟨oL,_,_,a9,_⟩:=id hn;refine h _ ⟨I.ok,I.os,I.bare,⟨fun b o e n hb U=>?_,fun b o e n hb U=>?_,I.base.free,fun b o e U=>?_,I.base.tups,I.base.frzs,I.base.tbls⟩,⟨_,a8,fun j y v' J Z e3=>?_⟩,fun y c e=>?_,I.free,I.freeC,fun p hp=>?_,B ⟨oL,a9,I.free⟩ hs,by simpa using I.len⟩ ⟨_,hs,.inl rfl⟩
  ·exact (hs.2 b (F8 (E2 (D9 e) I.ok.above))).trans (I.base.keep b o e n hb U)
  ·obtain ⟨sl,J⟩:=I.base.slot b o e n hb U;exact ⟨sl,(hs.2 b (F8 (E2 (D9 e) I.ok.above))).trans J⟩
  ·obtain ⟨o',J⟩:=I.base.there b o e U;exact ⟨o',(hs.2 b (F8 (E2 (D9 e) I.ok.above))).trans J⟩
  ·by_cases hj:j=i
   ·subst hj;rw [hi] at J; cases J;rw [F0 a1] at Z;cases Z;exact ⟨u,r,.inl ⟨hk,by simp⟩⟩
   ·rw [E5 (Ne.symm hj)] at Z;obtain ⟨u',r',q⟩:=hl j y v' J Z e3;refine ⟨u',r',?_⟩;rcases q with ⟨k,e⟩ | ⟨k,c,e,z⟩
    ·refine .inl ⟨k,?_⟩;have:y≠x:=fun e=>hj (Q6b hN J (e ▸ hi))
     simp [this,e]
    ·exact .inr ⟨k,c,e,z.sameBut hs (cne y c e)⟩
  ·obtain ⟨w',z⟩:=I.cell y c e;exact ⟨w',z.sameBut hs (cne y c e)⟩
  ·obtain ⟨e,n,ne,nf,d⟩:=I.pin p hp;exact ⟨(hs.2 p.1 ne).trans e,n,ne,nf,d⟩
 ·have a2:X.fn x=true:=by
   rcases hf with z | z
   ·exact z
   ·rw [z] at hk; cases hk
  obtain ⟨c,O⟩:=I.ok.has x (.inl hk);obtain ⟨w',z⟩:=I.cell x c O;refine wpAny_storeName_cell I.ok.kind hk O z (fun h' a5 hs=>?_);obtain ⟨oc,a7,a3⟩:=id z;refine h { s with heap:=h' } ⟨I.ok,I.os,I.bare,⟨fun b o e n hb U=>?_,fun b o e n hb U=>?_,I.base.free,fun b o e U=>?_,I.base.tups,I.base.frzs,I.base.tbls⟩,⟨m,hn.sameBut hs (Ne.symm (cne x c O)),fun j y v' J Z e3=>?_⟩,fun y c' e=>?_,I.free,I.freeC,fun p hp=>?_,B ⟨oc,a7,I.freeC x c O⟩ hs,by simpa using I.len⟩ ⟨c,hs,.inr O⟩
  ·exact (hs.2 b (F8 (E2 (D9 e) (I.ok.cab x c a2 O)))).trans (I.base.keep b o e n hb U)
  ·obtain ⟨sl,J⟩:=I.base.slot b o e n hb U;exact ⟨sl,(hs.2 b (F8 (E2 (D9 e) (I.ok.cab x c a2 O)))).trans J⟩
  ·obtain ⟨o',J⟩:=I.base.there b o e U;exact ⟨o',(hs.2 b (F8 (E2 (D9 e) (I.ok.cab x c a2 O)))).trans J⟩
  ·by_cases hj:j=i
   ·subst hj;rw [hi] at J; cases J;rw [F0 a1] at Z;cases Z;exact ⟨u,r,.inr ⟨.inl hk,c,O,a5⟩⟩
   ·rw [E5 (Ne.symm hj)] at Z;obtain ⟨u',r',q⟩:=hl j y v' J Z e3;refine ⟨u',r',?_⟩;rcases q with q | ⟨k,c',e,z'⟩
    ·exact .inl q
    ·refine .inr ⟨k,c',e,z'.sameBut hs ?_⟩;rintro rfl;exact hj (Q6b hN J (I.ok.inj _ _ _ e O ▸ hi))
  ·by_cases a6:c'=c
   ·subst a6; exact ⟨_,a5⟩
   ·obtain ⟨w2,z2⟩:=I.cell y c' e;exact ⟨w2,z2.sameBut hs a6⟩
  ·obtain ⟨e,n,ne,nf,d⟩:=I.pin p hp;refine ⟨(hs.2 p.1 ?_).trans e,n,ne,nf,d⟩;intro q;rw [q,a7] at e;have q':oc=p.2:=Option.some.inj e;exact d w' (by rw [<- q']; exact a3)
theorem Q0r {M:Model} {A:aQ} {E:aA->aC->Prop} {i:Nat} {x:Str} {Q:Unit->aC->Prop} (I:Inv X pins σ H s) (B:X.N.Nodup) (hi:X.N[i]?=some x) (O:Loc X.env.scope x) (r:RelV v u)
  (h:∀ s',Inv X pins (σ.set i (some v)) H s'->Q () s') (U:X.fn x=true\/X.env.scope.names.lookup x=some .local:=by first | exact .inl rfl | exact .inr rfl | assumption):aF M A (storeName X.env x u) Q E s:=
 Q2w I B hi O r (fun s' J _=>h s' J) U
theorem Inv.call' {s':aC} (I:Inv X pins σ H s) (J:s'.os=s.os) (u:Un (frs X.stack) ch H H' s.heap s'.heap) (hok:HOk X.prog X.w H' s'.heap) (O:AllBare s'.gens)
  (B:∀ b∈ch,(b∈X.ex\/X.s₀.heap.objs.size<=b)/\b≠X.env.locals/\(∀ x c,X.env.cells.lookup x=some c->c≠b)/\∀ p∈X.pn ++ pins,p.1≠b):Inv X pins σ H' s':=by
 obtain ⟨h',g',d',t',o'⟩:=s';have e:o'=s.os:=J;subst e;exact I.call (g':=g') (t':=t') (d':=d') u hok O B
abbrev XK:=aA->Option aB->Hp->Prop
abbrev St:=List (Option V)
abbrev VK:=V->Hp->Prop
abbrev TE:=St->Hp->VK->Prop
variable {tl:TE}
abbrev TT:=St->Hp->(Bool->Hp->Prop)->Prop
variable {tc:TT}
abbrev TA:=St->Hp->(List V->Hp->Prop)->Prop
variable {ta:TA}
structure Ends where
 nx:St->Hp->Prop
 rt:VK
 bk:St->Hp->Prop:=fun _ _=>False
 ct:St->Hp->Prop:=fun _ _=>False
abbrev TS:=Ends->St->Hp->Prop
variable {tb:TS}
def EP (X:Cx) (pins:List (aB × Obj)) (σ:St) (Q:VK) (u:aA) (s':aC):Prop:=∃ v H',Inv X pins σ H' s'/\RelV v u/\Q v H'
def TP (X:Cx) (pins:List (aB × Obj)) (σ:St) (Q:Bool->Hp->Prop) (b:Bool) (s':aC):Prop:=∃ H',Inv X pins σ H' s'/\Q b H'
def AP (X:Cx) (pins:List (aB × Obj)) (σ:St) (Q:List V->Hp->Prop) (us:List aA) (s':aC):Prop:=∃ vs H',Inv X pins σ H' s'/\Vals vs us/\Q vs H'
def SP (X:Cx) (pins:List (aB × Obj)) (D:Ends) (f:Flow) (s':aC):Prop:=
 match f with
 | .next=>∃ σ' H',Inv X pins σ' H' s'/\D.nx σ' H'
 | .brk=>∃ σ' H',Inv X pins σ' H' s'/\D.bk σ' H'
 | .cont=>∃ σ' H',Inv X pins σ' H' s'/\D.ct σ' H'
 | .ret u=>∃ v σ' H',Inv X pins σ' H' s'/\RelV v u/\D.rt v H'
def PE (X:Cx) (e:aH) (t:TE):Prop:=
 ∀ (pins:List (aB × Obj)) (s:aC) (σ:St) (H:Hp) (Q:VK),Inv X pins σ H s->t σ H Q->aF (aI X.prog X.w) X.A (aL e X.env) (EP X pins σ Q) X.xe s
def PT (X:Cx) (e:aH) (t:TT):Prop:=
 ∀ (pins:List (aB × Obj)) (s:aC) (σ:St) (H:Hp) (Q:Bool->Hp->Prop),Inv X pins σ H s->t σ H Q->aF (aI X.prog X.w) X.A (isTrue e X.env (aL e X.env)) (TP X pins σ Q) X.xe s
def PW (X:Cx) (e:aH) (t:TT):Prop:=
 ∀ (whole:Sem aA) (pins:List (aB × Obj)) (s:aC) (σ:St) (H:Hp) (Q:Bool->Hp->Prop),Inv X pins σ H s->t σ H Q->aF (aI X.prog X.w) X.A (isTrue e X.env whole) (TP X pins σ Q) X.xe s
def PA (X:Cx) (es:List aH) (t:TA):Prop:=
 ∀ (pos:Pos) (pins:List (aB × Obj)) (s:aC) (σ:St) (H:Hp) (Q:List V->Hp->Prop),Inv X pins σ H s->t σ H Q->aF (aI X.prog X.w) X.A (spliced (aX pos (aN es X.env))) (AP X pins σ Q) X.xe s
def PS (X:Cx) (st:aK) (t:TS):Prop:=
 ∀ (pins:List (aB × Obj)) (s:aC) (σ:St) (H:Hp) (D:Ends),Inv X pins σ H s->t D σ H->aF (aI X.prog X.w) X.A (exec st X.env) (SP X pins D) X.xe s
def PSs (X:Cx) (st:List aK) (t:TS):Prop:=
 ∀ (pins:List (aB × Obj)) (s:aC) (σ:St) (H:Hp) (D:Ends),Inv X pins σ H s->t D σ H->aF (aI X.prog X.w) X.A (execs st X.env) (SP X pins D) X.xe s
theorem thn {t:Sem α} {Q B:α->aC->Prop} (h:aF M A t Q E s) (I:∀ a s,Q a s->B a s):aF M A t B E s:=ak h I fun _ _ x=>x
section
variable {X:Cx}
def Qs8 (i:Nat):TE:=fun σ H Q=>∃ v,σ[i]?=some (some v)/\Q v H
def tC (v:V):TE:=fun _ H Q=>Q v H
theorem Qeh {i:Nat} {x:Str} {pos:Pos} (Z:X.N[i]?=some x) (Y:Vis X.env.scope x) (hd:(x == ("__debug__" : Str))=false:=by decide) (O:(x == ("__classdict__" : Str))=false:=by decide):PE X (.Name x pos) (Qs8 i):=by
 intro pins s σ H Q I h;obtain ⟨v,e,h⟩:=h;obtain ⟨m,hn,hl⟩:=I.loc;obtain ⟨u,r,l⟩:=hl i x v Z e Y;have fin:EP X pins σ Q u s:=⟨v,H,I,r,h⟩;rcases l with ⟨J,hm⟩ | ⟨J,c,U,B⟩
 ·exact wpAny_Name (wpAny_loadName_local I.ok.kind J hn hm fin) hd
 ·rcases J with J | J
  ·exact wpAny_Name (wpAny_loadName_cell I.ok.kind J U B fin) hd
  ·exact wpAny_Name (wpAny_loadName_free I.ok.kind J U B fin O) hd
theorem Qpc {i j pos}:PE X (.Constant (.int i) j pos) (tC (.int i)):=fun _ _ _ H _ I h=>wpAny_Constant_int ⟨.int i,H,I.tok _,⟨_,rfl⟩,h⟩
theorem Qtd {b j pos}:PE X (.Constant (.bool b) j pos) (tC (.bl b)):=fun _ _ _ H _ I h=>Constant_bool ⟨.bl b,H,I,rfl,h⟩
theorem Qpb {j pos}:PE X (.Constant .none j pos) (tC .non):=fun _ _ _ H _ I h=>Constant_none ⟨.non,H,I,rfl,h⟩
theorem Qp8 {x j pos}:PE X (.Constant (.str x) j pos) (tC (.str x)):=fun _ _ _ H _ I h=>Calls.Constant_str ⟨.str x,H,I.tok _,⟨_,rfl⟩,h⟩
def Gl (X:Cx) (x:Str):Prop:=X.env.kindOf x=some .globalImplicit
theorem Q4q {E:aA->aC->Prop} {σ:St} {x:Str} {pos:Pos} {Q:aA->aC->Prop} (I:Inv X pins σ H s) (B:Gl X x) (J:X.mg x=some u) (h:Q u s)
  (hd:(x == ("__debug__" : Str))=false:=by decide):aF (aI X.prog X.w) X.A (aL (.Name x pos) X.env) Q E s:=
 Calls.Name_function_global I.ok.kind B (Calls.loadGlobal_global (by rw [I.ok.glob]; exact I.mod.glob.keeps I.bk) J h) hd
theorem jf {E:aA->aC->Prop} {σ:St} {x:Str} {pos:Pos} {Q:aA->aC->Prop} (I:Inv X pins σ H s) (O:Gl X x) (J:X.mg x=none) (B:aW x=some u) (h:Q u s)
  (U:x≠"__name__" := by decide) (hd:(x == ("__debug__" : Str))=false:=by decide):aF (aI X.prog X.w) X.A (aL (.Name x pos) X.env) Q E s:=by
 obtain ⟨mb,h1,h2⟩:=I.mod.blt;exact Calls.Name_function_global I.ok.kind O (Calls.loadGlobal_builtin (by rw [I.ok.glob]; exact I.mod.glob.keeps I.bk) J (by rw [I.ok.blt]; exact h1.keeps I.bk) ((h2 x U).trans B) h) hd
theorem Q9m {x:Str} {pos:Pos} (B:Gl X x) (J:X.mg x=some u) (r:RelV v u) (hd:(x == ("__debug__" : Str))=false:=by decide):PE X (.Name x pos) (tC v):=
 fun _ _ _ H _ I h=>Q4q I B J ⟨v,H,I,r,h⟩ hd
theorem Qj6 {x:Str} {pos:Pos} (O:Gl X x) (J:X.mg x=none) (B:aW x=some u) (r:RelV v u) (U:x≠"__name__" := by decide) (hd:(x == ("__debug__" : Str))=false:=by decide):PE X (.Name x pos) (tC v):=
 fun _ _ _ H _ I h=>jf I O J B ⟨v,H,I,r,h⟩ U hd
variable {a b:aH} {ta tb:TE} {pos:Pos}
def tB (t:TE):TT:=fun σ H Q=>t σ H fun x H1=>∃ c,x=.bl c/\Q c H1
theorem Qnu {e:aH} {t:TE} (h:PE X e t) (Z:∀ B,isTrue e X.env B=(do let v <- B; standAt e.pos; ay [v] (truthy v)):=by intro _; rfl):PT X e (tB t):=by
 intro pins s σ H Q I J;refine isTrue_plain (thn (h pins s σ H _ I J) fun v s1 ⟨x,H1,O,U,Y⟩=>?_) (Z _)
 obtain ⟨d,rfl,q⟩:=Y;cases U;exact aw ⟨H1,O,q⟩
variable {tA tB':TT} {rest:List aH}
def Qwk (t u:TT):TT:=fun σ H Q=>t σ H fun c H1=>if c=true then u σ H1 Q else Q false H1
def tOr (t u:TT):TT:=fun σ H Q=>t σ H fun c H1=>if c=true then Q true H1 else u σ H1 Q
def Qwe (t:TT):TT:=fun σ H Q=>t σ H fun c H1=>Q (!c) H1
theorem Qih (B:PT X a tA):PW X (.BoolOp .And [a] pos) tA:=by
 intro J pins s σ H Q I h;refine isTrue_and (thn (B pins s σ H Q I h) fun c s1 e=>?_)
 cases c with
 | true=>exact isTrue_and_nil e
 | false=>exact e
theorem Qns (B:PT X a tA):PW X (.BoolOp .Or [a] pos) tA:=by
 intro J pins s σ H Q I h;refine isTrue_or (thn (B pins s σ H Q I h) fun c s1 e=>?_)
 cases c with
 | false=>exact isTrue_or_nil e
 | true=>exact e
theorem Qnt (U:PT X a tA) (Y:PW X (.BoolOp .And (b :: rest) pos) tB'):PW X (.BoolOp .And (a :: b :: rest) pos) (Qwk tA tB'):=by
 intro O pins s σ H Q I h;refine isTrue_and (thn (U pins s σ H _ I h) fun c s1 ⟨H1,B,J⟩=>?_)
 cases c with
 | true=>exact Y O pins s1 σ H1 Q B J
 | false=>exact ⟨H1,B,J⟩
theorem Qt5 (U:PT X a tA) (Y:PW X (.BoolOp .Or (b :: rest) pos) tB'):PW X (.BoolOp .Or (a :: b :: rest) pos) (tOr tA tB'):=by
 intro O pins s σ H Q I h;refine isTrue_or (thn (U pins s σ H _ I h) fun c s1 ⟨H1,B,J⟩=>?_)
 cases c with
 | true=>exact ⟨H1,B,J⟩
 | false=>exact Y O pins s1 σ H1 Q B J
theorem Qnv (B:PT X a tA):PT X (.UnaryOp .Not a pos) (Qwe tA):=by
 intro pins s σ H Q I h;exact isTrue_not (B pins s σ H (fun c H1=>Q (!c) H1) I h)
def Qsj (ta tb:TE):TE:=fun σ H Q=>ta σ H fun x H1=>∃ c,x=.bl c/\if c=true then tb σ H1 Q else Q (.bl false) H1
def Qsc (ta:TE):TE:=fun σ H Q=>ta σ H fun x H1=>∃ c,x=.bl c/\Q (.bl (!c)) H1
theorem Qp9 {op} {t:TE} (h:PE X a t):PE X (.BoolOp op [a] pos) t:=fun pins s σ H Q I B=>BoolOp_one (h pins s σ H Q I B)
theorem Qpe (O:PE X a ta) (Y:PE X (.BoolOp .And (b :: rest) pos) tb):PE X (.BoolOp .And (a :: b :: rest) pos) (Qsj ta tb):=by
 intro pins s σ H Q I h;refine BoolOp_and (thn (O pins s σ H _ I h) fun v s1 ⟨x,H1,J,U,B⟩=>?_)
 obtain ⟨c,rfl,B⟩:=B;cases U;refine aw ?_;cases c with
 | true=>exact Y pins s1 σ H1 Q J B
 | false=>exact ⟨.bl false,H1,J,rfl,B⟩
theorem Qpa (J:PE X a ta):PE X (.UnaryOp .Not a pos) (Qsc ta):=by
 intro pins s σ H Q I h;refine UnaryOp_ (thn (J pins s σ H _ I h) fun v s1 ⟨x,H1,O,U,B⟩=>?_)
 obtain ⟨c,rfl,B⟩:=B;cases U;exact not_of (aw ⟨.bl (!c),H1,O,rfl,B⟩)
def tIf (t:TT) (ta tb:TE):TE:=fun σ H Q=>t σ H fun c H1=>if c=true then ta σ H1 Q else tb σ H1 Q
theorem Qek (Y:PT X c tA) (O:PE X a ta) (U:PE X b tb):PE X (.IfExp c a b pos) (tIf tA ta tb):=by
 intro pins s σ H Q I h;refine wpAny_IfExp (thn (Y pins s σ H _ I h) fun d s1 ⟨H1,B,J⟩=>?_)
 cases d with
 | true=>exact O pins s1 σ H1 Q B J
 | false=>exact U pins s1 σ H1 Q B J
end
def SqL (K:PySem.W.Frag) (H:Hp) (a:aB) (xs:List V):Prop:=
 Rd H a (.lst xs) \/
  ∃ (o:Obj) (its:Array aA) (n:Nat),K.lookup a=some o/\o.cls=.type "list" /\ o.dict=none/\o.data=.seq its n/\its.size<=sizeLine/\Vals xs its.toList
def SqT (K:PySem.W.Frag) (H:Hp) (a:aB) (xs:List V):Prop:=
 Rd H a (.tup xs) \/
  ∃ (o:Obj) (its:Array aA) (n:Nat),K.lookup a=some o/\o.cls=.type "tuple" /\ o.data=.seq its n/\its.size<=sizeLine/\Vals xs its.toList
def Qxd:aA->Option V
 | .none=>some .non
 | .bool b=>some (.bl b)
 | .int i _=>some (.int i)
 | .str x _=>some (.str x)
 | .bytes b _=>some (.byt b)
 | .float b _=>some (.flt b)
 | .ref a=>some (.ref a)
 | .type n=>some (.ty n)
 | _=>none
theorem RelV.abs {x:V} (r:RelV x u):Qxd u=some x:=by
 cases x with
 | non=>cases r; rfl
 | bl _=>cases r; rfl
 | int _=>obtain ⟨t,rfl⟩:=r; rfl
 | str _=>obtain ⟨t,rfl⟩:=r; rfl
 | byt _=>obtain ⟨t,rfl⟩:=r; rfl
 | flt _=>obtain ⟨t,rfl⟩:=r; rfl
 | ref _=>cases r; rfl
 | ty _=>cases r; rfl
theorem RelV.inj {x y:V} (r:RelV x u) (q:RelV y u):x=y:=Option.some.inj (r.abs.symm.trans q.abs)
theorem Vals.inj:∀ {xs ys:List V} {us:List aA},Vals xs us->Vals ys us->xs=ys
 | _,_,_,.nil,.nil=>rfl
 | _,_,_,.cons r t,.cons B t'=>by rw [r.inj B,Vals.inj t t']
variable {xs ys:List V}
section
variable {σ:St}
theorem SqL.of (h:H a=some (.lst xs)):SqL K H a xs:=.inl (.inl h)
theorem SqT.of (h:H a=some (.tup xs)):SqT K H a xs:=.inl (.inl h)
theorem Inv.list (I:Inv X pins σ H s) (h:SqL X.K H a xs):∃ its:List aA,Vals xs its/\PlainL s.heap a its.toArray/\xs.length<=sizeLine:=by
 rcases h with h | ⟨o,its,n,B,J,hd,hs,hz,r⟩
 ·obtain ⟨z,its,n,r,e⟩:=h.ok I.hok;exact ⟨its,r,⟨_,n,e,rfl,rfl,rfl⟩,z⟩
 ·refine ⟨its.toList,r,⟨o,n,I.kIn a o B,J,hd,by simpa using hs⟩,?_⟩;have e:=r.length;simp only [Array.length_toList] at e;omega
theorem Inv.tuple (I:Inv X pins σ H s) (h:SqT X.K H a xs):∃ its:List aA,Vals xs its/\IsTup s.heap a its.toArray/\xs.length<=sizeLine:=by
 rcases h with h | ⟨o,its,n,B,J,hs,hz,r⟩
 ·obtain ⟨z,its,r,p⟩:=h.ok I.hok;exact ⟨its,r,p,z⟩
 ·refine ⟨its.toList,r,⟨o,I.kIn a o B,J,n,by simpa using hs⟩,?_⟩;have e:=r.length;simp only [Array.length_toList] at e;omega
theorem Inv.list_inj (I:Inv X pins σ H s) (h:SqL X.K H a xs) (h':SqL X.K H a ys):xs=ys:=by
 obtain ⟨its,r,⟨o,n,e,_,_,d⟩,_⟩:=I.list h;obtain ⟨its',J,⟨o',U,B,_,_,d'⟩,_⟩:=I.list h';rw [e] at B; cases B;rw [d] at d';injection d' with O _
 have:its=its':=by simpa using congrArg Array.toList O
 subst this;exact r.inj J
theorem Inv.tuple_inj (I:Inv X pins σ H s) (h:SqT X.K H a xs) (h':SqT X.K H a ys):xs=ys:=by
 obtain ⟨its,r,⟨o,e,_,n,d⟩,_⟩:=I.tuple h;obtain ⟨its',J,⟨o',B,_,U,d'⟩,_⟩:=I.tuple h';rw [e] at B; cases B;rw [d] at d';injection d' with O _
 have:its=its':=by simpa using congrArg Array.toList O
 subst this;exact r.inj J
end
variable {st:aK} {u:TS} {te:TE}
section
variable {rest:List aK} {t:TS} {e:aH} {pos:Pos}
def Qsd:TS:=fun D σ H=>D.nx σ H
def Qwc (t u:TS):TS:=fun D σ H=>t { D with nx:=u D } σ H
theorem Qip:PSs X [] Qsd:=fun _ _ σ H _ I h=>wpAny_execs_nil ⟨σ,H,I,h⟩
theorem Qe4 (h1:PS X st t) (h2:PSs X rest u):PSs X (st :: rest) (Qwc t u):=by
 intro pins s σ H D I h;refine wpAny_execs_cons (thn (h1 pins s σ H { D with nx:=u D } I h) fun f s1 q=>?_)
 cases f with
 | next=>
  obtain ⟨B,H',J,q⟩:=q;exact h2 pins s1 B H' D J q
 | ret v=>exact q
 | brk=>exact q
 | cont=>exact q
theorem Qin (h1:PS X st t):PSs X [st] t:=by
 intro pins s σ H D I h;refine wpAny_execs_cons (thn (h1 pins s σ H D I h) fun f s1 q=>?_)
 cases f with
 | next=>exact wpAny_execs_nil q
 | ret v=>exact q
 | brk=>exact q
 | cont=>exact q
theorem Inv.quiet {σ:St} (I:Inv X pins σ H s):interactive X.env=false:=by simp [interactive,I.ok.kind]
def Qse (te:TE):TS:=fun D σ H=>te σ H fun _ H1=>D.nx σ H1
theorem Qiq (O:PE X e te) (hs:swapsWith e none pos.line X.env=pure false:=by rfl):PS X (.Expr e pos) (Qse te):=by
 intro pins s σ H D I h;exact wpAny_Expr_any (thn (O pins s σ H _ I h) fun v s1 ⟨x,H1,B,U,J⟩=>⟨σ,H1,B,J⟩) I.quiet hs
def Qwd (te:TE):TS:=fun D σ H=>te σ H D.rt
theorem Qnx (U:PE X e te):PS X (.Return (some e) pos) (Qwd te):=by
 intro pins s σ H D I h;exact wpAny_Return_some (thn (U pins s σ H _ I h) fun v s1 ⟨x,H1,B,J,O⟩=>⟨x,σ,H1,B,J,O⟩)
def Qwh (c:TT) (t u:TS):TS:=fun D σ H=>c σ H fun b H1=>if b=true then t D σ H1 else u D σ H1
theorem Qt7 {a b:List aK} (U:PT X c tc) (O:PSs X a t) (Y:PSs X b u):PS X (.If c a b pos) (Qwh tc t u):=by
 intro pins s σ H D I h;refine wpAny_If (thn (U pins s σ H _ I h) fun d s1 ⟨H1,B,J⟩=>?_)
 cases d with
 | true=>exact O pins s1 σ H1 D B J
 | false=>exact Y pins s1 σ H1 D B J
end
abbrev TG:=V->St->Hp->(St->Hp->Prop)->Prop
abbrev TGs:=List V->St->Hp->(St->Hp->Prop)->Prop
def PG (X:Cx) (target:aH) (t:TG):Prop:=
 ∀ (pins:List (aB × Obj)) (s:aC) (σ:St) (H:Hp) (v:V) (u:aA) (Q:St->Hp->Prop),Inv X pins σ H s->RelV v u->t v σ H Q ->
  aF (aI X.prog X.w) X.A (assign target X.env u) (fun _ s'=>∃ σ' H',Inv X pins σ' H' s'/\Q σ' H') X.xe s
def PGs (X:Cx) (ts:List aH) (t:TGs):Prop:=
 ∀ (pins:List (aB × Obj)) (s:aC) (σ:St) (H:Hp) (vs:List V) (us:List aA) (Q:St->Hp->Prop),Inv X pins σ H s->Vals vs us->t vs σ H Q ->
  aF (aI X.prog X.w) X.A (assignInOrder ((ar ts X.env).map (·.2)) us) (fun _ s'=>∃ σ' H',Inv X pins σ' H' s'/\Q σ' H') X.xe s
abbrev Qhg:=V->V->V->Hp->(Hp->Prop)->Prop
def Qri (X:Cx) (t:Qhg):Prop:=
 ∀ (pins:List (aB × Obj)) (s:aC) (σ:St) (H:Hp) (o i v:V) (ov iv u:aA) (Q:Hp->Prop),Inv X pins σ H s->RelV o ov->RelV i iv->RelV v u->t o i v H Q ->
  aF (aI X.prog X.w) X.A (setItem ov iv u) (fun _ s'=>∃ H',Inv X pins σ H' s'/\Q H') X.xe s
abbrev TIp:=V->V->Hp->VK->Prop
def PIp (X:Cx) (op:Operator) (t:TIp):Prop:=
 ∀ (pins:List (aB × Obj)) (s:aC) (σ:St) (H:Hp) (x y:V) (v u:aA) (Q:VK),Inv X pins σ H s->RelV x v->RelV y u->t x y H Q ->
  aF (aI X.prog X.w) X.A (inplaceOp op v u) (EP X pins σ Q) X.xe s
section
variable {pos:Pos}
def Q6u (i:Nat):TG:=fun v σ H Q=>Q (σ.set i (some v)) H
theorem Qj2 {i:Nat} {x:Str} (B:X.N.Nodup) (hi:X.N[i]?=some x) (O:Loc X.env.scope x) (U:X.fn x=true\/X.env.scope.names.lookup x=some .local:=by first | exact .inl rfl | exact .inr rfl | assumption):PG X (.Name x pos) (Q6u i):=by
 intro pins s σ H v u Q I r h;exact wpAny_assign_Name (Q0r I B hi O r (fun s' J=>⟨_,H,J,h⟩) U)
def Qup:TGs:=fun vs σ H Q=>vs=[]/\Q σ H
def Qg4 (t:TG) (u:TGs):TGs:=fun vs σ H Q=>∃ v r,vs=v :: r/\t v σ H fun σ' H'=>u r σ' H' Q
theorem Qj0:PGs X [] Qup:=by
 intro pins s σ H vs us Q I r h;obtain ⟨e,h⟩:=h;subst e;cases r;exact assignInOrder_nil ⟨σ,H,I,h⟩
theorem Qee {e:aH} {es:List aH} {t:TG} {u:TGs} (h1:PG X e t) (h2:PGs X es u)
  (hs:(ar (e :: es) X.env).map (·.2)=assign e X.env :: (ar es X.env).map (·.2):=by rfl):PGs X (e :: es) (Qg4 t u):=by
 intro pins s σ H vs us Q I r h;obtain ⟨v,Z,U,h⟩:=h;subst U;cases r with
 | cons r J=>
  rw [hs];refine assignInOrder_cons (thn (h1 pins s σ H _ _ _ I r h) fun _ s1 ⟨B,H1,O,Y⟩=>?_)
  exact h2 pins s1 B H1 _ _ Q O J Y
def Qun (K:PySem.W.Frag) (n:Nat) (t:TGs):TG:=fun v σ H Q=>∃ a xs,v=.ref a/\SqT K H a xs/\xs.length=n/\t xs σ H Q
theorem Qp4 {es:List aH} {k:Nat} {t:TGs} {n:Nat} (hc:X.calm=true) (h:PGs X es t)
  (hn:(ar es X.env).length=n:=by rfl) (J:(ar es X.env).findIdx? (·.1)=none:=by rfl):PG X (.Tuple es k pos) (Qun X.K n t):=by
 intro pins s σ H v u Q I r B;obtain ⟨a,xs,e1,hq,Y,B⟩:=B;subst e1;cases r;obtain ⟨its,O,U,hz⟩:=I.tuple hq;refine assign_Tuple_tuple (I.ok.hd hc) U (by simp [hn,<- Y,O.length]) J fun h' Z=>?_
 have I1:Inv X pins σ H { s with heap:=h' }:=I.kept (t':=s.toks) fun b o e=>Z b o (F8 (D9 e)) e
 exact h pins _ σ H xs _ Q I1 (by simpa using O) B
def Qx8 (to ti:TE) (t:Qhg):TG:=fun v σ H Q=>to σ H fun o H1=>ti σ H1 fun i H2=>t o i v H2 fun H3=>Q σ H3
theorem Qp5 {o i:aH} {to O:TE} {t:Qhg} (ho:PE X o to) (hi:PE X i O) (hs:Qri X t)
  (ha:∀ v,assign (.Subscript o i pos) X.env v=(do
   let B <- ay [v] (aL o X.env)
   let J <- ay [v,B] (aL i X.env)
   standAt pos
   ay [v,B,J] (setItem B J v)
   release [v,B,J] []):=by intro _; rfl):PG X (.Subscript o i pos) (Qx8 to O t):=by
 intro pins s σ H v u Q I r h;rw [ha];refine aD (aa (thn (ho pins s σ H _ I h) fun B s1 ⟨x,H1,I1,r1,q1⟩=>?_))
 refine aD (aa (thn (hi pins s1 σ H1 _ I1 q1) fun J s2 ⟨y,H2,Y,Z,q2⟩=>?_))
 refine aD (wpAny_standAt (aD (aa (thn (hs pins s2 σ H2 x y v B J u _ Y r1 Z r q2) fun _ s3 ⟨H3,I3,U⟩=>?_))))
 exact wpAny_release ⟨σ,H3,I3,U⟩
def Qmt (te:TE) (g:TG):TS:=fun D σ H=>te σ H fun x H1=>g x σ H1 D.nx
theorem Qe6 {e:aH} {g:TG} (Z:PE X e te) (O:PG X tg g) (hs:swapsWithSole [tg] e pos.line X.env=pure false:=by rfl) (B:swappedStores [tg] e X.env=pure none:=by rfl)
  (h1:(ar [tg] X.env).map (·.2)=[assign tg X.env]:=by rfl):PS X (.Assign [tg] e pos) (Qmt te g):=by
 intro pins s σ H D I h;refine wpAny_Assign_stores (thn (Z pins s σ H _ I h) fun v s1 ⟨x,H1,J,U,Y⟩=>?_) hs B
 rw [h1];exact thn (O pins s1 σ H1 x v _ J U Y) fun _ s2 q=>q
theorem Qnw {i:Nat} {x:Str} {e:aH} {pos':Pos} (J:X.N.Nodup) (hi:X.N[i]?=some x) (O:Loc X.env.scope x) (he:PE X e te) (hs:swapsWith e (some (.Name x pos')) pos.line X.env=pure false:=by rfl) (hf:X.fn x=true\/X.env.scope.names.lookup x=some .local:=by first | exact .inl rfl | exact .inr rfl | assumption) :
  PS X (.Assign [.Name x pos'] e pos) (Qmt te (Q6u i)):=by
 intro pins s σ H D I h;refine wpAny_Assign_Name (thn (he pins s σ H _ I h) fun v s1 ⟨y,H1,U,Y,Z⟩=>?_) hs
 exact Q0r U J hi O Y (fun s2 B=>⟨_,H1,B,Z⟩) hf
def Qwj (i:Nat) (te:TE) (ti:TIp):TS:=fun D σ H=>∃ x,σ[i]?=some (some x)/\te σ H fun y H1=>ti x y H1 fun z H2=>D.nx (σ.set i (some z)) H2
theorem Qnz {i:Nat} {x:Str} {e:aH} {ti:TIp} {pos':Pos} (hN:X.N.Nodup) (hi:X.N[i]?=some x) (Z:Loc X.env.scope x) (he:PE X e te) (ho:PIp X op ti) (hf:X.fn x=true\/X.env.scope.names.lookup x=some .local:=by first | exact .inl rfl | exact .inr rfl | assumption) :
  PS X (.AugAssign (.Name x pos') op e pos) (Qwj i te ti):=by
 intro pins s σ H D I h;obtain ⟨v,e1,h⟩:=h;obtain ⟨m,hn,hl⟩:=I.loc;have Y:Vis X.env.scope x:=by rcases Z with k | k; exact .inl k; exact .inr (.inl k)
 obtain ⟨u,r,l⟩:=hl i x v hi e1 Y;refine wpAny_AugAssign_Name ?_;have go:aF (aI X.prog X.w) X.A (aL e X.env) (fun w O=>aF (aI X.prog X.w) X.A (inplaceOp op u w) (fun r U=>aF (aI X.prog X.w) X.A (storeName X.env x r) (fun _=>SP X pins D .next) X.xe U) X.xe O) X.xe s:=by
  refine thn (he pins s σ H _ I h) fun w s1 ⟨y,H1,I1,r1,q1⟩=>?_
  refine thn (ho pins s1 σ H1 v y u w _ I1 r r1 q1) fun z s2 ⟨zv,H2,I2,r2,q2⟩=>?_
  exact Q0r I2 hN hi Z r2 (fun s3 I3=>⟨_,H2,I3,q2⟩) hf
 rcases l with ⟨B,hm⟩ | ⟨B,c,hc,J⟩
 ·exact wpAny_loadName_local I.ok.kind B hn hm go
 ·rcases B with B | B
  ·exact wpAny_loadName_cell I.ok.kind B hc J go
  ·rcases Z with k | k
   ·have:X.env.scope.names.lookup x=some .free:=B;rw [k] at this; cases this
   ·have:X.env.scope.names.lookup x=some .free:=B;rw [k] at this; cases this
def Qsi (to ti te:TE) (tget:V->V->Hp->VK->Prop) (tip:TIp) (tset:Qhg):TS:=fun D σ H=>to σ H fun o H1=>ti σ H1 fun i H2=>tget o i H2 fun x H3=>te σ H3 fun y H4=>tip x y H4 fun z H5=>tset o i z H5 fun H6=>D.nx σ H6
def Qv8 (X:Cx) (t:V->V->Hp->VK->Prop):Prop:=
 ∀ (pins:List (aB × Obj)) (s:aC) (σ:St) (H:Hp) (o i:V) (ov iv:aA) (Q:VK),Inv X pins σ H s->RelV o ov->RelV i iv->t o i H Q ->
  aF (aI X.prog X.w) X.A (getItem ov iv) (EP X pins σ Q) X.xe s
theorem Qis {o i e:aH} {to Z:TE} {J:V->V->Hp->VK->Prop} {Y:TIp} {B:Qhg} {tpos:Pos} (ho:PE X o to) (hi:PE X i Z) (hg:Qv8 X J) (he:PE X e te) (hp:PIp X op Y) (hs:Qri X B)
  (ha:∀ O U new,augStore i O U new=(do ay [new,O,U] (setItem O U new); release [new,O,U] []; pure .next):=by intros; rfl):PS X (.AugAssign (.Subscript o i tpos) op e pos) (Qsi to Z te J Y B):=by
 intro pins s σ H D I h;refine wpAny_AugAssign_SubscriptAny (thn (ho pins s σ H _ I h) fun O s1 ⟨x1,H1,I1,r1,q1⟩=>?_) ha
 refine thn (hi pins s1 σ H1 _ I1 q1) fun U s2 ⟨x2,H2,I2,r2,q2⟩=>?_
 refine thn (hg pins s2 σ H2 x1 x2 O U _ I2 r1 r2 q2) fun old s3 ⟨x3,H3,I3,r3,q3⟩=>?_
 refine thn (he pins s3 σ H3 _ I3 q3) fun v s4 ⟨x4,H4,I4,r4,q4⟩=>?_
 refine thn (hp pins s4 σ H4 x3 x4 old v _ I4 r3 r4 q4) fun new s5 ⟨x5,H5,I5,r5,q5⟩=>?_
 exact thn (hs pins s5 σ H5 x1 x2 x5 O U new _ I5 r1 r2 r5 q5) fun _ s6 ⟨H6,I6,q6⟩=>⟨σ,H6,I6,q6⟩
def ipI (f:Int->Int->Int):TIp:=fun x y H Q=>∃ i j,x=.int i/\y=.int j/\Q (.int (f i j)) H
theorem Qqq:PIp X .Add (ipI fun i j=>i + j):=by
 intro pins s σ H x y v u Q I J U h;obtain ⟨i,j,B,O,q⟩:=h;subst B; subst O;obtain ⟨t,rfl⟩:=J;obtain ⟨t',rfl⟩:=U;exact iadd_int ⟨.int _,H,I.tok _,⟨_,rfl⟩,q⟩
end
section
variable {pos:Pos}
def Qmn (c:TT) (tb:TS):TS:=fun D σ H=>∃ W:Nat->St->Hp->Prop,(∃ m,W m σ H)/\∀ m σ H,W m σ H ->
 c σ H fun b H1=>if b=true then ∃ N:St->Hp->Prop,(∀ σ' H',N σ' H'->∃ m',m' < m/\W m' σ' H')/\tb { D with nx:=N,ct:=N,bk:=D.nx } σ H1 else D.nx σ H1
theorem Qe5 {body:List aK} (hp:PassesOwn (aI X.prog X.w) X.A X.env X.xe) (hc:PT X c tc) (hb:PSs X body tb):PS X (.While c body [] pos) (Qmn tc tb):=by
 intro pins s σ H D I h;obtain ⟨W,⟨m0,w0⟩,turn⟩:=h;refine wpAny_While (codeAny_whileLoop (fun n s'=>∃ U H',Inv X pins U H' s'/\W n U H') ?_ m0 ⟨σ,H,I,w0⟩);rintro n s1 ⟨J,H1,I1,w1⟩;refine bD hp (thn (hc pins s1 J H1 _ I1 (turn n J H1 w1)) fun b s2 ⟨H2,I2,Y⟩=>?_)
 cases b with
 | true=>
  obtain ⟨N,hN,Y⟩:=Y;rw [bN rfl];refine bD hp (thn (hb pins s2 J H2 _ I2 Y) fun f s3 Z=>?_)
  cases f with
  | next=>
   obtain ⟨B,O,I3,n3⟩:=Z;obtain ⟨m',hm,w3⟩:=hN B O n3;exact ⟨m',hm,B,O,I3,w3⟩
  | cont=>
   obtain ⟨B,O,I3,n3⟩:=Z;obtain ⟨m',hm,w3⟩:=hN B O n3;exact ⟨m',hm,B,O,I3,w3⟩
  | brk=>exact Z
  | ret v=>exact Z
 | false=>
  rw [bO E9];exact wpAny_execs_nil ⟨J,H2,I2,Y⟩
end
structure It where
 go:Nat->Hp->Prop
 yld:Nat->Hp->V->Hp->Prop
 stop:Nat->Hp->Prop
def Q2b (X:Cx) (pins:List (aB × Obj)) (H:Hp) (b:aB):Prop:=
 H b=none/\b≠X.env.locals/\b∉X.fs/\(b∈X.ex\/X.s₀.heap.objs.size<=b)/\(∀ x c,X.env.cells.lookup x=some c->c≠b)/\∀ p∈X.pn ++ pins,p.1≠b
theorem Inv.fpOk {σ:St} (I:Inv X pins σ H s) (B:s.heap.objs.size<=b) (J:H' b=none):Q2b X pins H' b:=by
 refine ⟨J,Nat.ne_of_gt (E2 I.lt B),I.nofs B,.inr (F9 I.sz B),fun x c e z=>?_,fun p O z=>?_⟩
 ·obtain ⟨v,q⟩:=I.cell x c e;exact absurd (E2 q.lt (by rw [z]; exact B)) (Nat.lt_irrefl _)
 ·exact absurd (E2 (D9 (I.pin p O).1) (by rw [z]; exact B)) (Nat.lt_irrefl _)
structure Turn (P:aM) (w:aJ) (K:PySem.W.Frag) (tg:aH) (J:It) (fp:List aB) (it:aB) (tn:Nat->Heap->Prop):Prop where
 mem:it∈fp
 obj:∀ i h,tn i h->∀ b∈fp,∃ o,h.get? b=some o/\∀ v,o.data≠.cell v
 keep:∀ i h h',tn i h->(∀ b∈fp,∀ o,h.get? b=some o->h'.get? b=some o)->tn i h'
 item:∀ (X:Cx),X.prog=P->X.w=w->X.K=K->X.calm=true->∀ (i:Nat) (pins:List (aB × Obj)) (s:aC) (σ:St) (H:Hp) (E:aA->aC->Prop),Inv X pins σ H s->(∀ b∈fp,Q2b X pins H b)->tn i s.heap->J.go i H ->
  aF (aI P w) X.A (au (.ref it)) (fun r s1=>∃ u,r=some u /\
   aF (aI P w) X.A (letOwnedTupleGo tg (.ref it) u) (fun _ s2=>∃ x H',Inv X pins σ H' s2/\RelV x u/\J.yld i H x H'/\tn (i + 1) s2.heap/\∀ b∈fp,H' b=none) E s1) E s
 done:∀ (X:Cx),X.prog=P->X.w=w->X.K=K->X.calm=true->∀ (i:Nat) (pins:List (aB × Obj)) (s:aC) (σ:St) (H:Hp) (E:aA->aC->Prop),Inv X pins σ H s->(∀ b∈fp,Q2b X pins H b)->tn i s.heap->J.stop i H ->
  aF (aI P w) X.A (au (.ref it)) (fun r s1=>r=none/\Inv X pins σ H s1) E s
 self:∀ (A:aQ) (i:Nat) (s:aC) (Q:aA->aC->Prop) (E:aA->aC->Prop),tn i s.heap->Q (.ref it) s->aF (aI P w) A (pyIter (.ref it)) Q E s
abbrev TI:=St->Hp->(It->Hp->Prop)->Prop
def PIE (X:Cx) (pins:List (aB × Obj)) (σ:St) (tg:aH) (R:It->Hp->Prop) (itv:aA) (s2:aC):Prop:=
 ∃ (it:aB) (fp:List aB) (tn:Nat->Heap->Prop) (J:It) (H':Hp),itv=.ref it/\Inv X pins σ H' s2/\Turn X.prog X.w X.K tg J fp it tn/\tn 0 s2.heap/\(∀ b∈fp,Q2b X pins H' b)/\R J H'
def PI (X:Cx) (tg iter:aH) (wi:TI):Prop:=
 ∀ (pins:List (aB × Obj)) (s:aC) (σ:St) (H:Hp) (R:It->Hp->Prop),Inv X pins σ H s->wi σ H R ->
  aF (aI X.prog X.w) X.A (aL iter X.env) (fun v s1=>aF (aI X.prog X.w) X.A (pyIter v) (PIE X pins σ tg R) X.xe s1) X.xe s
theorem Qa8 {M:Model} {A:aQ} {E:aA->aC->Prop} {tg:aH} {u:aA} {o:Obj} {n:String} {vs:Array aA} {Q:Unit->aC->Prop} (I:s.heap.get? it=some o) (O:o.cls=.type n) (hd:o.data=.fields vs)
  (J:["enumerate", "zip", "dict_itemiterator", "dict_reverseitemiterator", "odict_iterator", "itertools.zip_longest", "itertools.pairwise"].contains n=false) (B:Q () s):aF M A (letOwnedTupleGo tg (.ref it) u) Q E s:=by
 unfold letOwnedTupleGo;cases tg <;> first
  | exact wpAny_pure B
  | (cases u <;> first
    | exact wpAny_pure B
    | (refine aD (wpAny_load I ?_)
       rw [O,hd];show aF M A (if (["enumerate", "zip", "dict_itemiterator", "dict_reverseitemiterator", "odict_iterator", "itertools.zip_longest", "itertools.pairwise"].contains n && vs[0]? == some (ae _))=true then _ else _) Q E s;rw [bO (by intro h; rw [J,Bool.false_and] at h; cases h)];exact wpAny_pure B))
def Itl (K:PySem.W.Frag) (a:aB):It:=
 ⟨fun i H=>∃ xs x,SqL K H a xs/\xs[i]?=some x,fun i H x H'=>H'=H/\∀ xs,SqL K H a xs->xs[i]?=some x,fun i H=>∃ xs,SqL K H a xs/\xs.length<=i⟩
def Itt (K:PySem.W.Frag) (a:aB):It:=
 ⟨fun i H=>∃ xs x,SqT K H a xs/\xs[i]?=some x,fun i H x H'=>H'=H/\∀ xs,SqT K H a xs->xs[i]?=some x,fun i H=>∃ xs,SqT K H a xs/\xs.length<=i⟩
def Itr (lo:Int) (n:Nat):It:=⟨fun i _=>i < n,fun i H x H'=>H'=H/\x=.int (lo + i),fun i _=>n<=i⟩
theorem Qaq {w:aJ} (a it:aB):Turn P w K tg (Itl K a) [it] it (fun i h=>h.IsListIter it a i) where
 mem:=by simp
 obj:=fun i h st b B=>by
  have e:b=it:=by simpa using B
  subst e;obtain ⟨o,e,c,d⟩:=st;exact ⟨o,e,fun v z=>by rw [d] at z; cases z⟩
 keep:=fun i h h' st k=>st.at fun o e=>k it (by simp) o e
 item:=by
  intro X hP hw Y hc i pins s σ H E I J st hg;subst hP hw Y;obtain ⟨xs,x,O,hx⟩:=hg;obtain ⟨its,rv,p,hz⟩:=I.list O;obtain ⟨u,hu,ru⟩:=rv.get hx;obtain ⟨Z,f1,f2,f3,f4,U⟩:=J it (by simp);refine wpAny_pyNext_list_item st p.isList (x:=u) (by simpa using hu) fun h' st' sb=>?_
  have I1:Inv X pins σ H { s with heap:=h' }:=I.turned (t':=s.toks) (fun b o B e=>(sb.2 b B).trans e) Z f1 f3 f4 U
  obtain ⟨o,e,c,d⟩:=id st';exact ⟨u,rfl,Qa8 (s:={ s with heap:=h' }) e c d (by decide) ⟨x,H,I1,ru,⟨rfl,fun ys hy=>by rw [I.list_inj hy O]; exact hx⟩,st',fun b B=>(J b B).1⟩⟩
 done:=by
  intro X hP hw Y hc i pins s σ H E I J st hg;subst hP hw Y;obtain ⟨xs,O,hx⟩:=hg;obtain ⟨its,rv,p,hz⟩:=I.list O;obtain ⟨Z,f1,f2,f3,f4,U⟩:=J it (by simp);have hl:=rv.length;exact wpAny_pyNext_list_end (I.ok.hd hc) st p.isList (by simp; omega) fun h' eb=>⟨rfl,I.turned (t':=s.toks) (fun b o B e=>eb b o B e) Z f1 f3 f4 U⟩
 self:=fun _ _ _ _ _ st h=>wpAny_pyIter_listiter st h
theorem Q7c {w:aJ} (a it:aB):Turn P w K tg (Itt K a) [it] it (fun i h=>h.IsTupleIter it a i) where
 mem:=by simp
 obj:=fun i h st b B=>by
  have e:b=it:=by simpa using B
  subst e;obtain ⟨o,e,c,d⟩:=st;exact ⟨o,e,fun v z=>by rw [d] at z; cases z⟩
 keep:=fun i h h' st k=>st.at fun o e=>k it (by simp) o e
 item:=by
  intro X hP hw Y hc i pins s σ H E I J st hg;subst hP hw Y;obtain ⟨xs,x,O,hx⟩:=hg;obtain ⟨its,rv,p,hz⟩:=I.tuple O;obtain ⟨u,hu,ru⟩:=rv.get hx;obtain ⟨Z,f1,f2,f3,f4,U⟩:=J it (by simp);refine wpAny_pyNext_tuple_item st (show s.heap.IsTuple a its.toArray from p) (x:=u) (by simpa using hu) fun h' st' sb=>?_
  have I1:Inv X pins σ H { s with heap:=h' }:=I.turned (t':=s.toks) (fun b o B e=>(sb.2 b B).trans e) Z f1 f3 f4 U
  obtain ⟨o,e,c,d⟩:=id st';exact ⟨u,rfl,Qa8 (s:={ s with heap:=h' }) e c d (by decide) ⟨x,H,I1,ru,⟨rfl,fun ys hy=>by rw [I.tuple_inj hy O]; exact hx⟩,st',fun b B=>(J b B).1⟩⟩
 done:=by
  intro X hP hw Y hc i pins s σ H E I J st hg;subst hP hw Y;obtain ⟨xs,O,hx⟩:=hg;obtain ⟨its,rv,p,hz⟩:=I.tuple O;obtain ⟨Z,f1,f2,f3,f4,U⟩:=J it (by simp);have hl:=rv.length;exact wpAny_pyNext_tuple_end (I.ok.hd hc) st (show s.heap.IsTuple a its.toArray from p) (by simp; omega) fun h' eb=>⟨rfl,I.turned (t':=s.toks) (fun b o B e=>eb b o B e) Z f1 f3 f4 U⟩
 self:=fun _ _ _ _ _ st h=>wpAny_pyIter_tupleiter st h
theorem Q7d {w:aJ} (it:aB) (lo:Int) (n:Nat):Turn P w K tg (Itr lo n) [it] it (fun i h=>IsRangeIter h it (lo + (i:Nat) * 1) ((n:Int) - (i:Nat)) 1) where
 mem:=by simp
 obj:=fun i h st b B=>by
  have e:b=it:=by simpa using B
  subst e;exact ⟨_,st,fun v z=>by
   have z':Data.fields _=Data.cell v:=z;cases z'⟩
 keep:=fun i h h' st k=>k it (by simp) _ st
 item:=by
  intro X hP hw U hc i pins s σ H E I J st Z;subst hP hw U;obtain ⟨Y,f1,f2,f3,f4,O⟩:=J it (by simp);have W:=Walks.range (prog:=X.prog) (w:=X.w) (I.ok.hd hc) it lo 1 n;refine W.item i s _ _ Z st fun v h' tk hv st' kk=>?_
  obtain ⟨t,rfl⟩:=hv;have I1:Inv X pins σ H { s with heap:=h',toks:=tk }:=I.turned (fun b o B e=>kk b o (by simpa using B) e) Y f1 f3 f4 O
  refine ⟨_,rfl,Qa8 (s:={ s with heap:=h',toks:=tk }) (n := "range_iterator") st' rfl rfl (by decide) ⟨.int (lo + i),H,I1,⟨t,?_⟩,⟨rfl,rfl⟩,st',fun b B=>(J b B).1⟩⟩
  rw [Int.mul_one]
 done:=by
  intro X hP hw U hc i pins s σ H E I J st Z;subst hP hw U;obtain ⟨Y,f1,f2,f3,f4,O⟩:=J it (by simp);exact wpAny_pyNext_range_end (I.ok.hd hc) st (by have:n<=i:=Z; omega) fun h' eb=>⟨rfl,I.turned (t':=s.toks) (fun b o B e=>eb b o B e) Y f1 f3 f4 O⟩
 self:=fun _ _ _ _ _ st h=>wpAny_pyIter_rangeiter st h
variable {tg:aH}
def Que (K:PySem.W.Frag) (tl:TE):TI:=fun σ H R=>tl σ H fun x H1=>∃ a,x=.ref a/\(∃ xs,SqL K H1 a xs)/\R (Itl K a) H1
def Qx6 (K:PySem.W.Frag) (tl:TE):TI:=fun σ H R=>tl σ H fun x H1=>∃ a,x=.ref a/\(∃ xs,SqT K H1 a xs)/\R (Itt K a) H1
theorem Qiy (O:PE X l tl):PI X tg l (Que X.K tl):=by
 intro pins s σ H R I h;refine thn (O pins s σ H _ I h) fun v s1 ⟨x,H1,B,J,Y⟩=>?_
 obtain ⟨a,e,⟨xs,U⟩,q⟩:=Y;subst e;cases J;obtain ⟨its,rv,p,hz⟩:=B.list U;refine wpAny_pyIter_list p.isList ?_;refine ⟨s1.heap.objs.size,[s1.heap.objs.size],_,_,H1,rfl,B.kept (t':=s1.toks) fun b o e=>O5 _ e,Qaq a _,⟨_,E8 _ rfl,rfl,rfl⟩,fun b Z=>?_,q⟩
 have e:b=s1.heap.objs.size:=by simpa using Z
 subst e;exact B.fpOk (O8 _) (B.hok.fresh (O8 _))
theorem Qp3 (O:PE X l tl):PI X tg l (Qx6 X.K tl):=by
 intro pins s σ H R I h;refine thn (O pins s σ H _ I h) fun v s1 ⟨x,H1,B,J,Y⟩=>?_
 obtain ⟨a,e,⟨xs,U⟩,q⟩:=Y;subst e;cases J;obtain ⟨its,rv,p,hz⟩:=B.tuple U;refine bJ (show s1.heap.IsTuple a its.toArray from p) ?_;refine ⟨s1.heap.objs.size,[s1.heap.objs.size],_,_,H1,rfl,B.kept (t':=s1.toks) fun b o e=>O5 _ e,Q7c a _,⟨_,E8 _ rfl,rfl,rfl⟩,fun b Z=>?_,q⟩
 have e:b=s1.heap.objs.size:=by simpa using Z
 subst e;exact B.fpOk (O8 _) (B.hok.fresh (O8 _))
theorem Q5x {σ:St} {R:It->Hp->Prop} {E:aA->aC->Prop} {lo hi:Int} {t u v:Tok} {J:Nat} (I:Inv X pins σ H s) (h1:-(2 ^ 62)<=lo) (h2:lo < 2 ^ 62) (O:-(2 ^ 62)<=hi) (Y:hi < 2 ^ 62)
  (q:R (Itr lo (hi - lo).toNat) H):aF (aI X.prog X.w) X.A (pyIter (.ref s.heap.objs.size)) (PIE X pins σ tg R) E { s with heap:=s.heap.push { cls:=.type "range",data:=.fields #[.int lo t,.int hi u,.int 1 v] },toks:=J }:=by
 refine wpAny_pyIter_range (IsRange.new ..) (small_one h1 h2 O Y) ?_;have B:Inv X pins σ H { s with heap:=s.heap.push { cls:=.type "range",data:=.fields #[.int lo t,.int hi u,.int 1 v] },toks:=J }:=I.kept fun b o e=>O5 _ e
 refine ⟨(s.heap.push { cls:=.type "range",data:=.fields #[.int lo t,.int hi u,.int 1 v] }).objs.size,[(s.heap.push { cls:=.type "range",data:=.fields #[.int lo t,.int hi u,.int 1 v] }).objs.size],_,_,H,rfl,
  B.kept (t':=J) fun b o e=>O5 _ e,Q7d _ lo (hi - lo).toNat,?_,fun b hb=>?_,q⟩
 ·have Z:lo + ((0:Nat):Int) * 1=lo:=by simp
  have U:(((hi - lo).toNat:Nat):Int) - ((0:Nat):Int)=Builtin.Range.rangeSize lo hi 1:=by rw [rangeSize_one]; split <;> omega
  show IsRangeIter _ _ (lo + ((0:Nat):Int) * 1) ((((hi - lo).toNat:Nat):Int) - ((0:Nat):Int)) 1;rw [Z,U];exact E8 _ rfl
 ·have e:b=(s.heap.push { cls:=.type "range",data:=.fields #[.int lo t,.int hi u,.int 1 v] }).objs.size:=by simpa using hb
  subst e;exact B.fpOk (O8 _) (B.hok.fresh (O8 _))
def Qud (ta:TA):TI:=fun σ H R=>ta σ H fun vs H1=>∃ j:Int,vs=[.int j]/\-(2 ^ 62)<=j/\j < 2 ^ 62/\R (Itr 0 j.toNat) H1
def Quc (ta:TA):TI:=fun σ H R=>ta σ H fun vs H1=>∃ i j:Int,vs=[.int i,.int j]/\(-(2 ^ 62)<=i/\i < 2 ^ 62/\-(2 ^ 62)<=j/\j < 2 ^ 62)/\R (Itr i (j - i).toNat) H1
theorem Qb9 {a:aH} {p pos:Pos} (hg:Gl X "range") (Y:X.mg "range" = none) (O:PA X [a] ta) (hs:aN [a] X.env=[(false,aL a X.env)]:=by rfl):PI X tg (.Call (.Name "range" p) [a] [] pos) (Qud ta):=by
 intro pins s σ H R I h;refine Call_ (jf I hg Y boot_range (PyProof.Rows.callWith_type1 (thn (O pos pins s σ H _ I h) fun us s1 ⟨vs,H1,U,r1,B⟩=>?_) hs rfl))
 obtain ⟨j,e,B,Z,q⟩:=B;subst e;cases r1 with
 | cons r J=>
  cases J;obtain ⟨t,rfl⟩:=r;exact call_range_1 (Q5x U (by omega) (by omega) B Z (by simpa using q))
theorem Qb8 {a b:aH} {p pos:Pos} (hg:Gl X "range") (hm:X.mg "range" = none) (ha:PA X [a,b] ta) (hs:aN [a,b] X.env=[(false,aL a X.env),(false,aL b X.env)]:=by rfl) (B:aN [b] X.env=[(false,aL b X.env)]:=by rfl) :
  PI X tg (.Call (.Name "range" p) [a,b] [] pos) (Quc ta):=by
 intro pins s σ H R I h;refine Call_ (jf I hg hm boot_range (PyProof.Rows.callWith_type1 (thn (ha pos pins s σ H _ I h) fun us s1 ⟨vs,H1,I1,r1,O⟩=>?_) (by rw [hs,B]) (by rw [B]; rfl)))
 obtain ⟨i,j,e,⟨O,q2,U,Z⟩,q⟩:=O;subst e;cases r1 with
 | cons r J=>
  cases J with
  | cons Y J=>
   cases J;obtain ⟨t,rfl⟩:=r;obtain ⟨t',rfl⟩:=Y;exact call_range_2 (Q5x I1 O q2 U Z q)
def Qwi (wi:TI) (g:TG) (tb:TS):TS:=fun D σ H=>wi σ H fun J H1=>∃ W:Nat->Nat->St->Hp->Prop,(∃ m,W 0 m σ H1)/\∀ i m σ H,W i m σ H ->
 (J.stop i H/\D.nx σ H)\/(J.go i H/\∃ N:St->Hp->Prop,(∀ σ' H',N σ' H'->∃ m',m' < m/\W (i + 1) m' σ' H')/\∀ x H',J.yld i H x H'->g x σ H' fun σ2 H2=>tb { D with nx:=N,ct:=N,bk:=D.nx } σ2 H2)
def Q13 (fp:List aB) (h:Heap):List (aB × Obj):=fp.filterMap fun b=>(h.get? b).map fun o=>(b,o)
theorem Wf {o:Obj} (B:b∈fp) (e:h.get? b=some o):(b,o)∈Q13 fp h:=List.mem_filterMap.mpr ⟨b,B,by rw [e]; rfl⟩
theorem Qbd {p:aB × Obj} (J:p∈Q13 fp h):p.1∈fp/\h.get? p.1=some p.2:=by
 obtain ⟨b,B,e⟩:=List.mem_filterMap.mp J;cases q:h.get? b with
 | none=>rw [q] at e; cases e
 | some o=>
  rw [q] at e;have I:(b,o)=p:=Option.some.inj e;subst I;exact ⟨B,q⟩
theorem Inv.pinned {σ:St} (I:Inv X pins σ H s) (U:∀ b∈fp,Q2b X pins H b) (ho:∀ b∈fp,∃ o,s.heap.get? b=some o/\∀ v,o.data≠.cell v):Inv X (pins ++ Q13 fp s.heap) σ H s:=
 I.pins_of fun p Y=>(D4.mp Y).elim (fun z=>I.pin p (G6 _ z)) fun z=>by
  obtain ⟨J,e⟩:=Qbd z;obtain ⟨f0,O,Z,_⟩:=U p.1 J;obtain ⟨o,B,d⟩:=ho p.1 J;rw [e] at B; cases B;exact ⟨e,f0,O,Z,d⟩
theorem Inv.unpinned {pl:List (aB × Obj)} {σ:St} (I:Inv X (pins ++ pl) σ H s):Inv X pins σ H s:=I.pins_of fun p B=>I.pin p (G6 _ (M6 _ B))
theorem Qny {iter:aH} {body:List aK} {wi:TI} {g:TG} {pos:Pos} (hp:PassesOwn (aI X.prog X.w) X.A X.env X.xe) (hc:X.calm=true) (hi:PI X tg iter wi) (hg:PG X tg g) (O:PSs X body tb)
  (hs:∀ x,av iter X.env x=pure x:=by intro _; rfl):PS X (.For tg iter body [] pos) (Qwi wi g tb):=by
 intro pins s σ H D I h;refine wpAny_For (thn (hi pins s σ H _ I h) fun v s1 h1=>thn h1 fun a9 s2 h2=>?_) hs
 obtain ⟨it,fp,tn,J,H2,e,I2,T,a6,f2,W,⟨m0,w0⟩,turn⟩:=h2;subst e;have a1:∀ {H':Hp},(∀ b∈fp,H' b=none)->∀ b∈fp,Q2b X pins H' b:=fun hn b O=>⟨hn b O,(f2 b O).2⟩
 refine codeAny_forLoop_any (fun n s'=>∃ i Y H',Inv X pins Y H' s'/\tn i s'.heap/\(∀ b∈fp,H' b=none)/\W i n Y H') ?_ m0 ⟨0,σ,H2,I2,a6,fun b O=>(f2 b O).1,w0⟩
 rintro n s3 ⟨i,U,H3,I3,a4,a3,w3⟩;rcases turn i n U H3 w3 with ⟨stop,qn⟩ | ⟨go,N,hN,step⟩
 ·refine bD hp (thn (T.done X rfl rfl rfl hc i pins s3 U H3 X.xe I3 (a1 a3) a4 stop) fun r s4 ⟨hr,I4⟩=>?_)
  subst hr;exact wpAny_execs_nil ⟨U,H3,I4,qn⟩
 ·refine bD hp (thn (T.item X rfl rfl rfl hc i pins s3 U H3 X.xe I3 (a1 a3) a4 go) fun r s4 ⟨u,hr,h4⟩=>?_)
  subst hr;refine bD hp (thn h4 fun _ s5 ⟨x,H5,I5,r5,y5,a2,a7⟩=>?_);have a8:=I5.pinned (a1 a7) (T.obj _ _ a2);refine bD hp (thn (hg _ s5 U H5 x u _ a8 r5 (step x H5 y5)) fun _ s6 ⟨a5,H6,I6,q6⟩=>?_)
  refine bD hp (thn (O _ s6 a5 H6 _ I6 q6) fun f s7 q7=>?_)
  have again:∀ {B:St} {Z:Hp},Inv X (pins ++ Q13 fp s5.heap) B Z s7->N B Z->∃ m,m < n/\∃ i Y H',Inv X pins Y H' s7/\tn i s7.heap/\(∀ b∈fp,H' b=none)/\W i m Y H':=fun {B Z} I7 n7=>by
   obtain ⟨m',hm,w7⟩:=hN B Z n7;refine ⟨m',hm,i + 1,B,Z,I7.unpinned,T.keep _ _ _ a2 fun b O o e=>(I7.pin (b,o) (G6 _ (G6 _ (Wf O e)))).1,fun b O=>?_,w7⟩;obtain ⟨o,e,d⟩:=T.obj _ _ a2 b O;exact (I7.pin (b,o) (G6 _ (G6 _ (Wf O e)))).2.1
  cases f with
  | next=>obtain ⟨B,Z,I7,n7⟩:=q7; exact again I7 n7
  | cont=>obtain ⟨B,Z,I7,n7⟩:=q7; exact again I7 n7
  | brk=>obtain ⟨B,Z,I7,q7⟩:=q7; exact ⟨B,Z,I7.unpinned,q7⟩
  | ret v=>obtain ⟨x7,B,Z,I7,r7,q7⟩:=q7; exact ⟨x7,B,Z,I7.unpinned,r7,q7⟩
abbrev R2:=V->V->Hp->VK->Prop
variable {r:R2}
def OpR (X:Cx) (f:aA->aA->Sem aA) (r:R2):Prop:=
 ∀ (pins:List (aB × Obj)) (s:aC) (σ:St) (H:Hp) (x y:V) (v u:aA) (Q:VK),Inv X pins σ H s->RelV x v->RelV y u->r x y H Q ->
  aF (aI X.prog X.w) X.A (f v u) (EP X pins σ Q) X.xe s
def UnR (X:Cx) (f:aA->Sem aA) (r:V->Hp->VK->Prop):Prop:=
 ∀ (pins:List (aB × Obj)) (s:aC) (σ:St) (H:Hp) (x:V) (v:aA) (Q:VK),Inv X pins σ H s->RelV x v->r x H Q ->
  aF (aI X.prog X.w) X.A (f v) (EP X pins σ Q) X.xe s
def Ve (X:Cx) (f:aA) (r:List V->Hp->VK->Prop):Prop:=
 ∀ (pins:List (aB × Obj)) (s:aC) (σ:St) (H:Hp) (xs:List V) (us:List aA) (Q:VK),Inv X pins σ H s->Vals xs us->r xs H Q ->
  aF (aI X.prog X.w) X.A (call f us) (EP X pins σ Q) X.xe s
def tOp (r:R2) (ta tb:TE):TE:=fun σ H Q=>ta σ H fun x H1=>tb σ H1 fun y H2=>r x y H2 Q
def tUn (r:V->Hp->VK->Prop) (ta:TE):TE:=fun σ H Q=>ta σ H fun x H1=>r x H1 Q
def rI (C:Int->Int->Prop) (g:Int->Int->V):R2:=fun x y H Q=>∃ i j,x=.int i/\y=.int j/\C i j/\Q (g i j) H
def rI0 (g:Int->Int->V):R2:=fun x y H Q=>∃ i j,x=.int i/\y=.int j/\Q (g i j) H
def rU (g:Int->V):V->Hp->VK->Prop:=fun x H Q=>∃ i,x=.int i/\Q (g i) H
variable {b c:aH} {ta tb tc:TE}
section
variable {a:aH} {pos:Pos}
theorem Qre (Y:PE X a ta) (hb:PE X b tb) {σ:St} {R:V->V->Hp->Prop} (I:Inv X pins σ H s)
  (h:ta σ H fun x H1=>tb σ H1 fun y H2=>R x y H2) {Q:aA->aC->Prop} {f:aA->aA->Sem aA}
  (Z:∀ v u O x y H2,Inv X pins σ H2 O->RelV x v->RelV y u->R x y H2->aF (aI X.prog X.w) X.A (f v u) Q X.xe O) :
  aF (aI X.prog X.w) X.A (aL a X.env) (fun v J=>aF (aI X.prog X.w) X.A (aL b X.env) (fun u B=>aF (aI X.prog X.w) X.A (f v u) Q X.xe B) X.xe J) X.xe s:=by
 refine thn (Y pins s σ H _ I h) fun v s1 ⟨x,H1,I1,r1,q1⟩=>?_
 refine thn (hb pins s1 σ H1 _ I1 q1) fun u O ⟨y,H2,U,r2,q2⟩=>?_
 exact Z v u O x y H2 U r1 r2 q2
theorem Qta (Y:OpR X (aV op) r) (O:PE X a ta) (Z:PE X b tb):PE X (.BinOp a op b pos) (tOp r ta tb):=by
 intro pins s σ H Q I h;exact wpAny_BinOp (Qre O Z I h fun v u s2 x y H2 B U J q=>Y pins s2 σ H2 x y v u Q B U J q)
theorem Qt9 {op:UnaryOp} {r:V->Hp->VK->Prop} (O:UnR X (unaryOp op) r) (B:PE X a ta):PE X (.UnaryOp op a pos) (tUn r ta):=by
 intro pins s σ H Q I h;exact UnaryOp_ (thn (B pins s σ H _ I h) fun v s1 ⟨x,H1,J,U,Y⟩=>O pins s1 σ H1 x v Q J U Y)
theorem opI {f:aA->aA->Sem aA} {C:Int->Int->Prop} {g:Int->Int->Int}
  (rule:∀ (i j:Int) (t u:Tok) (s:aC) (Q:aA->aC->Prop) (E:aA->aC->Prop),C i j->Q (.int (g i j) s.toks) { s with toks:=s.toks + 1 }->aF (aI X.prog X.w) X.A (f (.int i t) (.int j u)) Q E s) :
  OpR X f (rI C fun i j=>.int (g i j)):=by
 intro pins s σ H x y v u Q I O J h;obtain ⟨i,j,rfl,rfl,B,q⟩:=h;obtain ⟨t,rfl⟩:=O;obtain ⟨t',rfl⟩:=J;exact rule i j t t' s _ _ B ⟨.int (g i j),H,I.tok _,⟨_,rfl⟩,q⟩
theorem Qtp {f:aA->aA->Sem aA} {g:Int->Int->Int}
  (rule:∀ (i j:Int) (t u:Tok) (s:aC) (Q:aA->aC->Prop) (E:aA->aC->Prop),Q (.int (g i j) s.toks) { s with toks:=s.toks + 1 }->aF (aI X.prog X.w) X.A (f (.int i t) (.int j u)) Q E s) :
  OpR X f (rI0 fun i j=>.int (g i j)):=by
 intro pins s σ H x y v u Q I J B h;obtain ⟨i,j,rfl,rfl,q⟩:=h;obtain ⟨t,rfl⟩:=J;obtain ⟨t',rfl⟩:=B;exact rule i j t t' s _ _ ⟨.int (g i j),H,I.tok _,⟨_,rfl⟩,q⟩
theorem Qpx {f:aA->aA->Sem aA} {g:Int->Int->Bool}
  (rule:∀ (i j:Int) (t u:Tok) (s:aC) (Q:aA->aC->Prop) (E:aA->aC->Prop),Q (.bool (g i j)) s->aF (aI X.prog X.w) X.A (f (.int i t) (.int j u)) Q E s) :
  OpR X f (rI0 fun i j=>.bl (g i j)):=by
 intro pins s σ H x y v u Q I J B h;obtain ⟨i,j,rfl,rfl,q⟩:=h;obtain ⟨t,rfl⟩:=J;obtain ⟨t',rfl⟩:=B;exact rule i j t t' s _ _ ⟨.bl (g i j),H,I,rfl,q⟩
def Qxh (i j:Int):Prop:=0 < j/\j < 1073741824
def Qxg (i j:Int):Prop:=0<=j/\j<=1000000/\i.natAbs < 2 ^ 64
def CMul (i j:Int):Prop:=(-(2 ^ 64) < i/\i < 2 ^ 64)\/(-(2 ^ 64) < j/\j < 2 ^ 64)
theorem CMul.ok {i j:Int} (h:CMul i j):IntMulOk i j:=by
 rcases h with ⟨h1,h2⟩ | ⟨h1,h2⟩
 ·exact .of_left (intBits_le_64 h1 h2)
 ·exact .of_right (intBits_le_64 h1 h2)
theorem Qpw:OpR X (aV .Add) (rI0 fun i j=>.int (i + j)):=Qtp fun _ _ _ _ _ _ _ q=>add_int q
theorem Qpp:OpR X (aV .Sub) (rI0 fun i j=>.int (i - j)):=Qtp fun _ _ _ _ _ _ _ q=>sub_int q
theorem Qps:OpR X (aV .Mult) (rI CMul fun i j=>.int (i * j)):=opI fun _ _ _ _ _ _ _ B q=>mul_int q B.ok
theorem Qja:OpR X (aV .FloorDiv) (rI Qxh fun i j=>.int (i / j)):=opI fun i j _ _ _ _ _ B q=>by
 have h1:(0:Int) < j:=B.1;have h2:j < 1073741824:=B.2;exact floordiv_int (by omega) (by rw [Int.fdiv_eq_ediv_of_nonneg i (by omega)]; exact q) (.inl (PyProof.noPylong_small (by omega)))
theorem Qpt:OpR X (aV .Mod) (rI (fun _ j=>0 < j) fun i j=>.int (i % j)):=opI fun i j _ _ _ _ _ B q=>by
 have h1:(0:Int) < j:=B;exact mod_int' (by omega) (by rw [Int.fmod_eq_emod_of_nonneg i (by omega)]; exact q)
theorem Qpr:OpR X (aV .Pow) (rI Qxg fun i j=>.int (i ^ j.toNat)):=opI fun _ _ _ _ _ _ _ B q=>pow_int_small B.1 B.2.1 B.2.2 q
theorem unI {f:aA->Sem aA} {g:Int->Int}
  (rule:∀ (i:Int) (t:Tok) (s:aC) (Q:aA->aC->Prop) (E:aA->aC->Prop),Q (.int (g i) s.toks) { s with toks:=s.toks + 1 }->aF (aI X.prog X.w) X.A (f (.int i t)) Q E s) :
  UnR X f (rU fun i=>.int (g i)):=by
 intro pins s σ H x v Q I B h;obtain ⟨i,rfl,q⟩:=h;obtain ⟨t,rfl⟩:=B;exact rule i t s _ _ ⟨.int (g i),H,I.tok _,⟨_,rfl⟩,q⟩
theorem Qmg:UnR X (unaryOp .USub) (rU fun i=>.int (-i)):=unI fun _ _ _ _ _ q=>neg_int q
end
section
variable {a:aH} {pos:Pos}
theorem Qgc {σ:St} {Q:VK} {k B:Bool} (I:Inv X pins σ H s) (q:Q (.bl k) H) (e:k=B):EP X pins σ Q (.bool B) s:=by
 subst e;exact ⟨.bl k,H,I,rfl,q⟩
theorem Qtk:OpR X (aR .Lt) (rI0 fun i j=>.bl (decide (i < j))):=Qpx fun _ _ _ _ _ _ _ q=>lt_int q
theorem Qtm:OpR X (aR .LtE) (rI0 fun i j=>.bl (decide (i<=j))):=Qpx fun _ _ _ _ _ _ _ q=>le_int q
theorem Qtn:OpR X (aR .Gt) (rI0 fun i j=>.bl (decide (j < i))):=Qpx fun _ _ _ _ _ _ _ q=>gt_int q
theorem Qj9:OpR X (aR .IsNot) (fun x y H Q=>y=.non/\Q (.bl (!decide (x=.non))) H):=by
 intro pins s σ H x y v u Q I B J h;obtain ⟨rfl,q⟩:=h;cases J;refine isnot_none_gen (Qgc I q ?_);cases x <;> first
  | (cases B; rfl)
  | (obtain ⟨t,rfl⟩:=B; rfl)
theorem OpR.or {B:R2} (h:OpR X f r) (h':OpR X f B):OpR X f (fun x y H Q=>r x y H Q\/B x y H Q):=by
 intro pins s σ H x y v u Q I O J q;rcases q with q | q
 ·exact h pins s σ H x y v u Q I O J q
 ·exact h' pins s σ H x y v u Q I O J q
theorem Q82 (b:aH) {op:CmpOp} (h:op≠.In:=by decide) (h2:op≠.NotIn:=by decide):bH op b=false:=by
 have I:(op == CmpOp.In)=false:=by cases op <;> first | rfl | exact absurd rfl h
 have B:(op == CmpOp.NotIn)=false:=by cases op <;> first | rfl | exact absurd rfl h2
 cases b <;> simp [bH,I,B]
theorem Qj4 {op:CmpOp} (Z:OpR X (aR op) r) (O:PE X a ta) (hb:PE X b tb) (U:bH op b=false):PE X (.Compare a [op] [b] pos) (tOp r ta tb):=by
 intro pins s σ H Q I h;exact wpAny_Compare1 (Qre O hb I h fun v u s2 x y H2 B Y J q=>Z pins s2 σ H2 x y v u Q B Y J q) U
def Qkr (t:TE):TT:=fun σ H Q=>t σ H fun x H'=>∃ k,x=.bl k/\Q k H'
theorem Qim {op:CmpOp} (ho:OpR X (aR op) r) (O:PE X a ta) (hb:PE X b tb) (Z:bH op b=false):PT X (.Compare a [op] [b] pos) (Qkr (tOp r ta tb)):=by
 intro pins s σ H Q I h;refine wpAny_isTrue_Compare1 (thn (O pins s σ H _ I h) fun v s1 ⟨x,H1,Y,r1,q1⟩=>thn (hb pins s1 σ H1 _ Y q1) fun u s2 ⟨y,H2,J,r2,q2⟩=>
  thn (ho pins s2 σ H2 x y v u _ J r1 r2 q2) fun c s3 ⟨z,H3,I3,U,k,e,B⟩=>?_) Z
 subst e;cases U;exact aw ⟨H3,I3,B⟩
def Q7h (r r':R2) (ta tb tc:TE):TE:=fun σ H Q=>ta σ H fun x H1=>tb σ H1 fun y H2=>r x y H2 fun z H3=>∃ k,z=.bl k /\
 (if k=true then tc σ H3 fun w' H4=>r' y w' H4 Q else Q (.bl false) H3)
theorem Qeq {op B:CmpOp} {O:R2} (ho:OpR X (aR op) r) (J:OpR X (aR B) O) (ha:PE X a ta) (hb:PE X b tb) (hc:PE X c tc)
  (hm:lastMarks [op,B] [b,c]=false:=by with_unfolding_all rfl):PE X (.Compare a [op,B] [b,c] pos) (Q7h r O ta tb tc):=by
 intro pins s σ H Q I h;refine Compare_chain (thn (ha pins s σ H _ I h) fun v s1 ⟨x,H1,I1,r1,q1⟩=>chain_link (thn (hb pins s1 σ H1 _ I1 q1) fun u s2 ⟨y,H2,I2,r2,q2⟩=>
  thn (ho pins s2 σ H2 x y v u _ I2 r1 r2 q2) fun d s3 ⟨z,U,Y,r3,k,e,Z⟩=>?_)) hm
 subst e;cases r3;refine aw ?_;cases k with
 | false=>exact ite_ff ⟨.bl false,U,Y,rfl,Z⟩
 | true=>exact ite_tt (chain_last (thn (hc pins s3 σ U _ Y Z) fun w' s4 ⟨z',H4,I4,r4,q4⟩=>J pins s4 σ H4 y z' u w' Q I4 r2 r4 q4))
theorem Qe3 {op B:CmpOp} {O:R2} (ho:OpR X (aR op) r) (J:OpR X (aR B) O) (ha:PE X a ta) (hb:PE X b tb) (hc:PE X c tc)
  (hm:lastMarks [op,B] [b,c]=false:=by with_unfolding_all rfl):PT X (.Compare a [op,B] [b,c] pos) (Qkr (Q7h r O ta tb tc)):=by
 intro pins s σ H Q I h;refine isTrue_chain (thn (ha pins s σ H _ I h) fun v s1 ⟨x,H1,I1,r1,q1⟩=>test_link (thn (hb pins s1 σ H1 _ I1 q1) fun u s2 ⟨y,H2,I2,r2,q2⟩=>
  thn (ho pins s2 σ H2 x y v u _ I2 r1 r2 q2) fun d s3 ⟨z,U,Y,r3,k,e,Z⟩=>?_)) hm
 subst e;cases r3;refine aw ?_;cases k with
 | false=>
  obtain ⟨k',e',q'⟩:=Z;cases e';exact ite_ff ⟨U,Y,q'⟩
 | true=>
  refine ite_tt (test_last (thn (hc pins s3 σ U _ Y Z) fun w' s4 ⟨z',H4,I4,r4,q4⟩=>thn (J pins s4 σ H4 y z' u w' _ I4 r2 r4 q4) fun d' s5 ⟨z2,H5,I5,r5,k2,e2,q5⟩=>?_))
  subst e2;cases r5;exact aw ⟨H5,I5,q5⟩
theorem je:(sizeLine:Nat) < 2 ^ 63:=by rw [sizeLine_eq]; decide
theorem Q7w:OpR X (aV .Add) (fun x y H Q=>∃ i j,x=.str i/\y=.str j/\i.length + j.length<=sizeLine/\Q (.str (i ++ j)) H):=by
 intro pins s σ H x y v u Q I J B h;obtain ⟨i,j,rfl,rfl,hz,q⟩:=h;obtain ⟨t,rfl⟩:=J;obtain ⟨t',rfl⟩:=B;exact add_str (fun t' O=>⟨.str (i ++ j),H,I.tok _,⟨_,rfl⟩,q⟩) hz
theorem qr {x:V} (r:Vals [x] us):∃ u,us=[u]/\RelV x u:=by
 cases r with
 | cons B I=>cases I; exact ⟨_,rfl,B⟩
theorem Qcp {x y:V} (r:Vals [x,y] us):∃ u B,us=[u,B]/\RelV x u/\RelV y B:=by
 cases r with
 | cons I O=>
  cases O with
  | cons J r4=>cases r4; exact ⟨_,_,rfl,I,J⟩
theorem Qc7 (J:X.calm=true):Ve X (.builtin "max") (fun xs H Q=>∃ i j,xs=[.int i,.int j]/\Q (.int (if j > i then j else i)) H):=by
 intro pins s σ H xs us Q I r h;obtain ⟨i,j,rfl,q⟩:=h;obtain ⟨u,O,rfl,⟨t,rfl⟩,⟨t',rfl⟩⟩:=Qcp r;refine max_two_ints (I.ok.hd J) fun h' U k=>⟨_,H,I.kept k,?_,q⟩
 by_cases B:j > i
 ·rw [bN B,bN B]; exact ⟨_,rfl⟩
 ·rw [bO B,bO B]; exact ⟨_,rfl⟩
theorem Qc5 (J:X.calm=true):Ve X (.builtin "min") (fun xs H Q=>∃ i j,xs=[.int i,.int j]/\Q (.int (if j < i then j else i)) H):=by
 intro pins s σ H xs us Q I r h;obtain ⟨i,j,rfl,q⟩:=h;obtain ⟨u,O,rfl,⟨t,rfl⟩,⟨t',rfl⟩⟩:=Qcp r;refine min_two_ints (I.ok.hd J) fun h' U k=>⟨_,H,I.kept k,?_,q⟩
 by_cases B:j < i
 ·rw [bN B,bN B]; exact ⟨_,rfl⟩
 ·rw [bO B,bO B]; exact ⟨_,rfl⟩
end
structure ObjM (h:Heap) (x dx C:aB) (mA:Str->Option aA):Prop where
 obj:h.get? x=some (PySem.W.instObj C dx)
 ns:h.Ns1 dx mA
 ne:dx≠x
theorem Qbq (n:h.Ns1 dx mA):∃ I,h.get? dx=some I/\∀ name,PySem.W.lookIn name I=some (mA name):=by
 obtain ⟨o,es,ep,U,hd,Y,_,O⟩:=n;refine ⟨o,U,fun name=>?_⟩;have e:=O name;unfold nsFind findBy at e;rw [<- Array.find?_toList] at e;unfold PySem.W.lookIn;rw [hd];dsimp only
 split
 ·rename_i y q;rw [q] at e;exact congrArg some e
 ·rename_i q;rw [q] at e;have a:es.toList.any (·.refKey)=false:=by
   rw [List.any_eq_false];intro y Z;obtain ⟨z,t,B⟩:=Y y (Array.mem_toList_iff.mp Z);simp [DictEntry.refKey,B]
  have J:¬ es.toList.any (·.refKey)=true:=by rw [a]; exact E9
  rw [bO J];exact congrArg some e
theorem ObjM.look {C:aB} (I:ObjM h x dx C mA):∃ B,PySem.W.InstAt h x (PySem.W.instObj C dx) C (some B)/\∀ name,PySem.W.lookIn name B=some (mA name):=
 let ⟨B,J,O⟩:=Qbq I.ns
 ⟨B,⟨I.obj,rfl,rfl,J⟩,O⟩
theorem RelO.some_of {o:Option aA} (r:RelO (some v) o):∃ u,o=some u/\RelV v u:=by
 cases o with
 | none=>exact (show False from r).elim
 | some u=>exact ⟨u,rfl,r⟩
variable {C dx:aB}
section
variable {w:aJ} {fs fs':List (Str × V)}
theorem Qjy (hok:HOk P w H h) (e:H a=some (.ins C dx fs)):∃ mA,ObjM h a dx C mA/\(∀ f,RelO (fs.lookup f) (mA f))/\PySem.Within mA (fs.map (·.1))/\fs.length<=1000/\H dx=some (.own a):=by
 obtain ⟨d,z,ne,ob,mA,n,r,q⟩:=(show ObjOk P w H h a (.ins C dx fs) from hok a _ e);exact ⟨mA,⟨ob,n,ne⟩,r,q,z,d⟩
end
structure Cls (K:PySem.W.Frag) (C:aB):Prop where
 pg:PySem.W.plainGet K C Str.empty=true
 hd:PySem.W.hasDictIn K C=true
 po:PySem.W.plainOver K C=true
 sa:PySem.W.findIn K (.ref C) "__setattr__" = some (some (.builtin "object.__setattr__"))
theorem Cls.get (c:Cls K C) (f:Str):PySem.W.plainGet K C f=true:=c.pg
variable {A:aQ} {E:aA->aC->Prop} {Q:aA->aC->Prop}
section
variable {σ:St} {c:aA} {b:Bool}
inductive TyOf (K:PySem.W.Frag) (H:Hp):V->aA->Prop where
 | non:TyOf K H .non (.type "NoneType")
 | bl (x:Bool):TyOf K H (.bl x) (.type "bool")
 | int (i:Int):TyOf K H (.int i) (.type "int")
 | str (x:Str):TyOf K H (.str x) (.type "str")
 | flt (x:UInt64):TyOf K H (.flt x) (.type "float")
 | lst {a:aB} {xs:List V} (e:H a=some (.lst xs)):TyOf K H (.ref a) (.type "list")
 | frz {a:aB} {o:Obj} {xs:List V} (e:H a=some (.frz o (.lst xs))):TyOf K H (.ref a) (.type "list")
 | tup {a:aB} {xs:List V} (e:H a=some (.tup xs)):TyOf K H (.ref a) (.type "tuple")
 | dK {a:aB} {kvs:List (Key × V)} (e:H a=some (.dK kvs)):TyOf K H (.ref a) (.type "dict")
 | dT {a:aB} {kvs:List (HK × V)} (e:H a=some (.dT kvs)):TyOf K H (.ref a) (.type "dict")
 | ins {a C dx:aB} {fs:List (Str × V)} (e:H a=some (.ins C dx fs)) (cl:Cls K C) (ha:PySem.W.findIn K (.ref C) "__class__" = some (some (.builtin "object.__class__")))
   (hn:PySem.W.specialIn K (.builtin "object.__class__") "__get__" = some (some (.builtin "getset_descriptor.__get__"))) (htk:PySem.W.takesIn K (.builtin "object.__class__")=some true)
   (hm:PySem.W.mroIn K C (.type "object")=some true):TyOf K H (.ref a) (.ref C)
theorem Qbs {x:V} {u t:aA} (I:Inv X pins σ H s) (B:RelV x u) (ty:TyOf X.K H x t) (e:PySem.W.kitOne X.K t c=some b) (h:∀ tk,Q (.bool b) { s with toks:=tk }) :
  aF (aI X.prog X.w) A (call (.builtin "isinstance") [u,c]) Q E s:=by
 cases ty with
 | non=>cases (show u=Value.none from B); exact PySem.W.kia_one PySem.W.kitx_none I.kIn True.intro e (fun z=>nomatch z) h
 | bl y=>cases (show u=Value.bool y from B); exact PySem.W.kia_one PySem.W.kitx_bool I.kIn True.intro e (fun z=>nomatch z) h
 | int i=>obtain ⟨t,q⟩:=(show ∃ t,u=Value.int i t from B); cases q; exact PySem.W.kia_one PySem.W.kitx_int I.kIn True.intro e (fun z=>nomatch z) h
 | str y=>obtain ⟨t,q⟩:=(show ∃ t,u=Value.str y t from B); cases q; exact PySem.W.kia_one PySem.W.kitx_str I.kIn True.intro e (fun z=>nomatch z) h
 | flt y=>obtain ⟨t,q⟩:=(show ∃ t,u=Value.float y t from B); cases q; exact PySem.W.kia_one PySem.W.kitx_float I.kIn True.intro e (fun z=>nomatch z) h
 | @lst a xs U=>
  cases (show u=Value.ref a from B);obtain ⟨_,_,n,_,h1⟩:=(show ObjOk X.prog X.w H s.heap a (.lst xs) from I.hok a _ U);exact PySem.W.kia_one PySem.W.kitx_list I.kIn ⟨_,h1,rfl⟩ e (fun z=>nomatch z) h
 | @frz a ob xs U=>
  cases (show u=Value.ref a from B);obtain ⟨_,_,_,n,_,h1⟩:=(show ObjOk X.prog X.w H s.heap a (.frz ob (.lst xs)) from I.hok a _ U);exact PySem.W.kia_one PySem.W.kitx_list I.kIn ⟨_,h1,rfl⟩ e (fun z=>nomatch z) h
 | @tup a xs U=>
  cases (show u=Value.ref a from B);obtain ⟨_,_,_,p⟩:=(show ObjOk X.prog X.w H s.heap a (.tup xs) from I.hok a _ U);obtain ⟨o,h1,h2,_⟩:=p;exact PySem.W.kia_one PySem.W.kitx_tuple I.kIn ⟨o,h1,h2⟩ e (fun z=>nomatch z) h
 | @dK a kvs U=>
  cases (show u=Value.ref a from B);obtain ⟨_,_,vs,_,p⟩:=(show ObjOk X.prog X.w H s.heap a (.dK kvs) from I.hok a _ U);obtain ⟨o,es,ep,h1,h2,_⟩:=p;exact PySem.W.kia_one PySem.W.kitx_dict I.kIn ⟨o,h1,h2.1⟩ e (fun z=>nomatch z) h
 | @dT a kvs U=>
  cases (show u=Value.ref a from B);obtain ⟨_,_,xs,_,o,es,ep,h1,h2,_⟩:=(show ObjOk X.prog X.w H s.heap a (.dT kvs) from I.hok a _ U);exact PySem.W.kia_one PySem.W.kitx_dict I.kIn ⟨o,h1,h2.1⟩ e (fun z=>nomatch z) h
 | @ins a C dx fs U cl Z hn Y hm=>
  cases (show u=Value.ref a from B);obtain ⟨mA,O,_⟩:=Qjy I.hok U;obtain ⟨od,J,_⟩:=O.look;exact PySem.W.kia_one (PySem.W.kitx_own (cl.get _) cl.hd Z hn Y hm) I.kIn J e (fun z=>nomatch z) h
end
structure Room (k:Nat) (A:aQ):Prop where
 hd:A.handled=none
 dp:A.depth + 3 * k + 5 < recursionLimit
 un:A.units + 16 * k + 200 < aO
theorem Room.mono {j:Nat} (r:Room k A) (h:j<=k):Room j A:=⟨r.hd,by have:=r.dp; omega,by have:=r.un; omega⟩
theorem Room.deeper (r:Room (k + 1) A) (env:Env):Room k (A.deeper env):=
 ⟨r.hd,by have:=r.dp; show A.depth + 1 + 3 * k + 5 < _; omega,by have:=r.un; show A.units + 3 + 16 * k + 200 < _; omega⟩
theorem Room.depth (r:Room k A):A.depth < recursionLimit:=by have:=r.dp; omega
theorem Room.units (r:Room k A):A.units + 64 < aO:=by have:=r.un; omega
def Qwf:TA:=fun _ H Q=>Q [] H
def Qsg (ta:TE) (tr:TA):TA:=fun σ H Q=>ta σ H fun x H1=>tr σ H1 fun xs H2=>Q (x :: xs) H2
variable {es:List aH}
section
variable {e:aH} {t:TA} {pos:Pos}
theorem Q4c:PA X [] Qwf:=fun _ _ _ _ H Q I h=>Calls.spliced_nil ⟨[],H,I,.nil,h⟩
theorem zc (J:PE X e te) (hr:PA X es t) (hs:aN (e :: es) X.env=(false,aL e X.env) :: aN es X.env:=by rfl):PA X (e :: es) (Qsg te t):=by
 intro pos pins s σ H Q I h;rw [hs];show aF _ _ (spliced ((false,aL e X.env) :: aX pos (aN es X.env))) _ _ s;refine Calls.spliced_cons (thn (J pins s σ H _ I h) fun u s1 ⟨x,H1,O,Z,Y⟩=>?_)
 exact thn (hr pos pins s1 σ H1 _ O Y) fun us s2 ⟨xs,H2,B,r2,U⟩=>⟨x :: xs,H2,B,.cons Z r2,U⟩
def Qwb (t:TA):TE:=fun σ H Q=>t σ H fun xs H1=>xs.length<=sizeLine/\∀ p,H1 p=none->Q (.ref p) (upd H1 p (.tup xs))
def Qwg (t:TA):TE:=fun σ H Q=>t σ H fun xs H1=>xs.length<=sizeLine/\∀ p,H1 p=none->Q (.ref p) (upd H1 p (.lst xs))
theorem Qp7 {x1} (h:PA X es t):PE X (.Tuple es x1 pos) (Qwb t):=by
 intro pins s σ H Q I J;refine wpAny_Tuple_spliced (thn (h pos pins s σ H _ I J) fun us s1 ⟨xs,H1,B,r,z,q⟩=>⟨by rw [<- r.length]; exact z,?_⟩)
 have O:H1 s1.heap.objs.size=none:=B.hok.fresh (O8 _);refine ⟨.ref s1.heap.objs.size,upd H1 s1.heap.objs.size (.tup xs),B.laid (t':=s1.toks) (fun b u e=>O5 _ e) (O8 _) ?_,rfl,q _ O⟩;exact ⟨z,us,r,⟨_,E8 _ rfl,rfl,_,rfl⟩⟩
theorem Qej (h:PA X es t):PE X (.List es pos) (Qwg t):=by
 intro pins s σ H Q I J;refine wpAny_List_spliced (thn (h pos pins s σ H _ I J) fun us s1 ⟨xs,H1,B,r,z,q⟩=>⟨by rw [<- r.length]; exact z,?_⟩)
 have O:H1 s1.heap.objs.size=none:=B.hok.fresh (O8 _);refine ⟨.ref s1.heap.objs.size,upd H1 s1.heap.objs.size (.lst xs),B.laid (t':=s1.toks) (fun b u e=>O5 _ e) (O8 _) ?_,rfl,q _ O⟩;exact ⟨z,us,0,r,E8 _ rfl⟩
end
abbrev Sp:=List V->Hp->VK->XK->Prop
abbrev CXT:=List Env->Hp->aC->XK->aA->aC->Prop
structure Env0 (P:aM) (w:aJ) (K:PySem.W.Frag) (mg:Str->Option aA) (base:Heap) (A:aQ) (outer:List Env) (s:aC) (H:Hp):Prop where
 frames:A.frames=some outer
 mod:Mod K mg base
 bs:∀ b o,base.get? b=some o->s.heap.get? b=some o/\H b=none
 bsz:base.objs.size<=s.heap.objs.size
 funs:s.heap.FunFrames base outer
 frf:∀ b∈frs outer,H b=none
 hok:HOk P w H s.heap
 bare:AllBare s.gens
def CE (outer:List Env) (P:aM) (w:aJ) (H:Hp) (s:aC) (Q:VK) (u:aA) (s':aC):Prop:=
 ∃ v H',s'.os=s.os/\AllBare s'.gens/\Un (frs outer) [] H H' s.heap s'.heap/\HOk P w H' s'.heap/\RelV v u/\Q v H'
def CR (CX:CXT) (outer:List Env) (P:aM) (w:aJ) (H:Hp) (s:aC) (Q:VK) (E:XK) (r:Result) (s':aC):Prop:=
 match r with
 | .ok (.ret u)=>CE outer P w H s Q u s'
 | .ok _=>False
 | .error e=>CX outer H s E e s'
structure FnOk (P:aM) (w:aJ) (K:PySem.W.Frag) (mg:Str->Option aA) (base:Heap) (CX:CXT) (k:Nat) (f:aB) (fd:aP) (ps:List Str) (sp:Sp):Prop where
 len:∀ vs H Q E,sp vs H Q E->vs.length=ps.length
 run:∀ (A:aQ) (outer:List Env) (s:aC) (H:Hp) (args:Args) (us:List aA) (vs:List V) (Q:VK) (E:XK),Room k A->Env0 P w K mg base A outer s H->BindsTo s fd args (ps.zip us)->Vals vs us->sp vs H Q E ->
  codeAny (aI P w) A (.call (.ref f) args) (CR CX outer P w H s Q E) s
theorem FnOk.imp {w:aJ} {base:Heap} {CX:CXT} {f:aB} {sp B:Sp} (F:FnOk P w K mg base CX k f fd ps sp)
  (h:∀ vs H Q E,B vs H Q E->sp vs H Q E):FnOk P w K mg base CX k f fd ps B:=
 ⟨fun vs H Q E q=>F.len vs H Q E (h _ _ _ _ q),fun A outer s H args us vs Q E J O U I hs=>F.run A outer s H args us vs Q E J O U I (h _ _ _ _ hs)⟩
variable {s':aC}
section
variable {σ:St}
theorem Inv.env0 (I:Inv X pins σ H s):Env0 X.prog X.w X.K X.mg X.base X.A X.stack s H:=
 ⟨I.ok.frames,I.ok.mod,I.bs,F9 I.ok.bsz I.sz,I.stack,I.stkFree,I.hok,I.bare⟩
theorem Inv.after {Q:VK} {u:aA} (I:Inv X pins σ H s) (h:CE X.stack X.prog X.w H s Q u s'):EP X pins σ Q u s':=by
 obtain ⟨v,H',os,bare,un,hok,r,q⟩:=h;obtain ⟨J,g,d,t,B⟩:=s';obtain rfl:B=s.os:=os;exact ⟨v,H',I.call (h':=J) (g':=g) (d':=d) (t':=t) (ch:=[]) un hok bare (fun b z=>absurd z (by simp)),r,q⟩
end
def Qsh (sp:Sp) (dvs:List V) (E:XK) (t:TA):TE:=fun σ H Q=>t σ H fun vs H1=>sp (vs ++ dvs) H1 Q E
def Binds (K:PySem.W.Frag) (fd:aP) (ps:List Str) (ds:List aA):Prop:=
 ∀ (s:aC) (us:List aA),K.In s.heap->(us ++ ds).length=ps.length->BindsTo s fd ⟨us,[]⟩ (ps.zip (us ++ ds))
theorem Binds.all (h:∀ us:List aA,us.length=ps.length->bindArgs fd ⟨us,[]⟩=pure (ps.zip us)):Binds K fd ps []:=fun s us _ B=>by
 rw [G7] at B ⊢;exact .of_eq (h us B)
def Q2a (CX:CXT) (X:Cx) (E:XK):Prop:=∀ (pins:List (aB × Obj)) (σ:St) (H:Hp) (s:aC) (e:aA) (s':aC),Inv X pins σ H s->CX X.stack H s E e s'->X.xe e s'
variable {CX:CXT} {k:Nat} {f:aB} {fd:aP} {ps:List Str} {sp:Sp} {dvs:List V} {ds:List aA} {m:Str} {p apos:Pos}
section
variable {E:XK} {x:Str} {pos:Pos} {e o:aH} {t:TA}
theorem Qnm {pins:List (aB × Obj)} {σ:St} {H:Hp} {s:aC} {Q:VK} {us:List aA} {vs:List V} (F:FnOk X.prog X.w X.K X.mg X.base CX k f fd ps sp) (Y:Room k X.A) (Z:Binds X.K fd ps ds) (hd:Vals dvs ds) (U:Q2a CX X E)
  (I:Inv X pins σ H s) (r:Vals vs us) (h:sp (vs ++ dvs) H Q E):aF (aI X.prog X.w) X.A (call (.ref f) us) (EP X pins σ Q) X.xe s:=by
 have J:Vals (vs ++ dvs) (us ++ ds):=r.append hd;have O:(us ++ ds).length=ps.length:=by rw [<- J.length]; exact F.len _ _ _ _ h
 refine wpAny_call (bL (F.run X.A X.stack s H ⟨us,[]⟩ (us ++ ds) (vs ++ dvs) Q E Y I.env0 (Z s us I.kIn O) J h) fun r s' B=>?_)
 cases r with
 | error e=>exact U pins σ H s e s' I B
 | ok fl=>
  cases fl with
  | ret u=>exact I.after B
  | next=>exact False.elim B
  | brk=>exact False.elim B
  | cont=>exact False.elim B
theorem Qj5 (F:FnOk X.prog X.w X.K X.mg X.base CX k f fd ps sp) (hr:Room k X.A) (hg:Gl X x) (Z:X.mg x=some (.ref f)) (hk:PySem.W.keepIn X.K (.ref f)=true) (hb:Binds X.K fd ps ds) (hd:Vals dvs ds) (Y:Q2a CX X E)
  (U:PA X (e :: es) t) (B:(x == ("__debug__" : Str))=false:=by decide) (he:aN (e :: es) X.env=(false,aL e X.env) :: aN es X.env:=by rfl) (J:(aX pos (aN es X.env)).any (·.1)=false:=by rfl) :
  PE X (.Call (.Name x p) (e :: es) [] pos) (Qsh sp dvs E t):=by
 intro pins s σ H Q I h;refine wpAny_Call_Name_kw (Q4q I hg Z ?_ B);refine PySem.W.callWith_K (h₀:=X.base) I.ok.mod.kin hk (thn (U pos pins s σ H _ I h) fun us s1 ⟨vs,H1,O,r,q⟩=>⟨O.kIn,?_⟩) he J
 exact Qnm F hr hb hd Y O r q
end
structure FnScope (N P:List Str) (sc:Scope):Prop where
 kind:sc.kind=.function
 co:sc.isCoroutine=false
 gen:sc.isGenerator=false
 nd:N.Nodup
 pre:N.take P.length=P
 par:∀ x∈P,sc.names.lookup x=some .local\/sc.names.lookup x=some .cell
 nofree:∀ y∈sc.names,y.2≠.free
theorem Q3n {kindOf:Str->Option ao} {x:Str}:∀ {binds:List (Str × aA)} {m:Str->Option aA},(∀ v,(x,v)∉binds)->bindL kindOf binds m x=m x
 | [],_,_=>rfl
 | (n,v) :: r,m,h=>by
  unfold bindL;rw [Q3n fun w B=>h w (O4 _ B)]
  split
  ·have:x≠n:=by rintro rfl; exact h v O9
   simp [this]
  ·rfl
theorem Q3q {kindOf:Str->Option ao} {x:Str}:∀ {binds:List (Str × aA)} {m:Str->Option aA},(∀ v,(x,v)∉binds)->bindC kindOf binds m x=m x
 | [],_,_=>rfl
 | (n,v) :: r,m,h=>by
  unfold bindC;rw [Q3q fun w B=>h w (O4 _ B)]
  split
  ·rfl
  ·have:x≠n:=by rintro rfl; exact h v O9
   simp [this]
theorem Q3p {kindOf:Str->Option ao} {x:Str} {v:aA}:∀ {P:List Str} {vs:List aA} {i:Nat} {m:Str->Option aA},P.Nodup->P[i]?=some x->vs[i]?=some v->kindOf x=some .local ->
  bindL kindOf (P.zip vs) m x=some v
 | [],_,_,_,_,h,_,_=>by simp at h
 | _ :: _,[],_,_,_,_,h,_=>by simp at h
 | p :: P,w :: vs,0,m,nd,h1,h2,B=>by
  simp at h1 h2; subst h1; subst h2;show bindL kindOf ((p,w) :: P.zip vs) m p=_;unfold bindL;rw [Q3n fun v I=>(L5.mp nd).1 (List.of_mem_zip I).1,bN B]
  simp
 | p :: P,w :: vs,i + 1,m,nd,h1,h2,B=>by
  show bindL kindOf ((p,w) :: P.zip vs) m x=_;unfold bindL;exact Q3p (i:=i) (L5.mp nd).2 (by simpa using h1) (by simpa using h2) B
theorem Q3r {kindOf:Str->Option ao} {x:Str} {v:aA}:∀ {P:List Str} {vs:List aA} {i:Nat} {m:Str->Option aA},P.Nodup->P[i]?=some x->vs[i]?=some v->kindOf x≠some .local ->
  bindC kindOf (P.zip vs) m x=some v
 | [],_,_,_,_,h,_,_=>by simp at h
 | _ :: _,[],_,_,_,_,h,_=>by simp at h
 | p :: P,w :: vs,0,m,nd,h1,h2,B=>by
  simp at h1 h2; subst h1; subst h2;show bindC kindOf ((p,w) :: P.zip vs) m p=_;unfold bindC;rw [Q3q fun v I=>(L5.mp nd).1 (List.of_mem_zip I).1,bO B]
  simp
 | p :: P,w :: vs,i + 1,m,nd,h1,h2,B=>by
  show bindC kindOf ((p,w) :: P.zip vs) m x=_;unfold bindC;exact Q3r (i:=i) (L5.mp nd).2 (by simpa using h1) (by simpa using h2) B
def start (N:List Str) (vs:List V):St:=vs.map some ++ List.replicate (N.length - vs.length) none
def Qc1 (CX:CXT) (P:aM) (w:aJ) (K:PySem.W.Frag) (mg:Str->Option aA) (base:Heap) (N:List Str) (qual:Str) (scope:Scope) (f:aB) (cd:aA) (A:aQ) (outer:List Env) (s:aC) (H:Hp) (E:XK):Cx where
 prog:=P
 w:=w
 K:=K
 mg:=mg
 base:=base
 A:=A.deeper (envOfC qual scope s.heap.objs.size f cd)
 N:=N
 s₀:=s
 H₀:=H
 env:=envOfC qual scope s.heap.objs.size f cd
 outer:=outer
 stack:=envOfC qual scope s.heap.objs.size f cd :: outer
 ex:=[]
 calm:=true
 fn:=fun _=>true
 pn:=[]
 xe:=fun e s'=>aF (aI P w) (A.deeper (envOfC qual scope s.heap.objs.size f cd)) (leaving (envOfC qual scope s.heap.objs.size f cd) e) (fun _ s''=>CX outer H s E e s'') (fun e' s''=>CX outer H s E e' s'') s'
theorem Q74 {sc:Scope} {x:Str} (h:sc.names.lookup x=some .cell):∃ c,(af n sc.names []).lookup x=some c:=by
 have q:=PySem.W.cellsFrom_some sc.names n [] (.inl h);exact Option.isSome_iff_exists.mp q
theorem Qbu {CX:CXT} {P:aM} {w:aJ} {K:PySem.W.Frag} {mg:Str->Option aA} {base:Heap} {N ps:List Str} {qual:Str} {scope:Scope} {f:aB} {cd:aA} {A:aQ} {outer:List Env} {s s1:aC} {H:Hp} {E:XK} {us:List aA} {vs:List V}
  (S:FnScope N ps scope) (hd:A.handled=none) (B:Env0 P w K mg base A outer s H) (hl:vs.length=ps.length) (r:Vals vs us)
  (x:InCallC s s.heap.objs.size (bindL (envOfC qual scope s.heap.objs.size f cd).kindOf (ps.zip us) fun _=>none) (af (s.heap.objs.size + 1) scope.names []) (bindC (envOfC qual scope s.heap.objs.size f cd).kindOf (ps.zip us) fun _=>none) s1) :
  Inv (Qc1 CX P w K mg base N qual scope f cd A outer s H E) [] (start N vs) H s1:=by
 have a1:ps.length<=N.length:=by have:=congrArg List.length S.pre; rw [List.length_take] at this; omega
 obtain ⟨h1,tk,rfl,Z⟩:=x.done;have J:∀ b:aB,b∉(Qc1 CX P w K mg base N qual scope f cd A outer s H E).ex:=fun b z=>absurd (show b∈([]:List aB) from z) (by simp)
 refine ⟨⟨B.mod,S.kind,rfl,rfl,O8 _,fun y z c h1 h2=>?_,fun y I=>?_,fun y c _ h=>?_,fun _=>hd,Around.frames_deeper B.frames,.inr ⟨rfl,rfl⟩,fun b z=>absurd z (J b),B.bs,B.bsz,fun b _ _=>J b,fun b z=>absurd z (J b),B.funs,B.frf⟩,
  rfl,B.bare,Un.kept Z,⟨_,x.toInCall.ns,fun i y v h1 h2 h3=>?_⟩,fun y c h=>⟨_,x.cell y c h⟩,B.hok.fresh (O8 _),fun y c h=>?_,fun p O=>absurd (show p∈([]:List (aB × Obj)) from O) (by simp),B.hok.kept Z,?_⟩
 ·exact name_of_addr x.apart (PySem.mem_of_lookup h1) (PySem.mem_of_lookup h2)
 ·have I:scope.names.lookup y=some .cell\/scope.names.lookup y=some .free:=I;rcases I with I | I
  ·exact Q74 I
  ·exact absurd rfl (S.nofree _ (PySem.mem_of_lookup I))
 ·exact Nat.le_of_lt (x.above y c (PySem.mem_of_lookup h))
 ·have hi:i < vs.length:=by
   unfold start at h2
   by_cases hi:i < vs.length
   ·exact hi
   ·rw [D5 (by simpa using hi)] at h2;rw [List.getElem?_replicate] at h2
    split at h2 <;> cases h2
  have ha:vs[i]?=some v:=by
   unfold start at h2;rw [O6 (by simpa using hi),F4] at h2;cases e:vs[i]? with
   | none=>rw [e] at h2; cases h2
   | some a=>rw [e] at h2; cases h2; rfl
  obtain ⟨u,Y,rv⟩:=r.get ha;have O:ps[i]?=some y:=by
   rw [<- S.pre,List.getElem?_take_of_lt (by omega)]; exact h1
  have U:ps.Nodup:=by rw [<- S.pre]; exact S.nd.sublist (List.take_sublist _ _)
  refine ⟨u,rv,?_⟩;rcases S.par y (E6 O) with k | k
  ·exact .inl ⟨k,Q3p U O Y k⟩
  ·obtain ⟨c,e⟩:=Q74 (n:=s.heap.objs.size + 1) k;refine .inr ⟨.inl k,c,e,?_⟩;have q:=x.cell y c e;rw [Q3r U O Y (by show scope.names.lookup y≠_; rw [k]; decide)] at q;exact q
 ·exact B.hok.fresh (Nat.le_of_lt (x.above y c (PySem.mem_of_lookup h)))
 ·unfold start;show _=N.length;rw [O7,O1,List.length_replicate];omega
theorem Quy {CX:CXT} {P:aM} {w:aJ} {K:PySem.W.Frag} {mg:Str->Option aA} {base:Heap} {k:Nat} {f:aB} {name qual:Str} {O:Arguments} {body:List aK} {scope:Scope} {dV kV a2 pm B ct oc:aA} {an od:Option aB}
  {a4:Array (Option aA)} {N ps:List Str} {sp:Sp} (lk:K.lookup f=some ⟨oc,od,.func (PySem.W.fnOf name qual O body scope dV kV a2 pm an B ct),a4⟩) (a3:PySem.W.codeIn K B qual=true) (S:FnScope N ps scope)
  (len:∀ vs H Q E,sp vs H Q E->vs.length=ps.length)
  (Z:∀ (A:aQ) (outer:List Env) (s:aC) (H:Hp) (vs:List V) (Q:VK) (E:XK),Room k (A.deeper (envOfC qual scope s.heap.objs.size f B))->sp vs H Q E ->
   ∃ t,PSs (Qc1 CX P w K mg base N qual scope f B A outer s H E) body t/\t { nx:=fun _ H'=>Q .non H',rt:=Q } (start N vs) H) :
  FnOk P w K mg base CX (k + 1) f (PySem.W.fnOf name qual O body scope dV kV a2 pm an B ct) ps sp:=by
 refine ⟨len,fun A outer s H args us vs Q E hr e0 hb r a1=>?_⟩;have hl:=len _ _ _ _ a1;have KX:K.In s.heap:=e0.mod.kin.keeps fun b o e=>(e0.bs b o e).1
 have lim:s.heap.NoLimit:=e0.mod.nolimit.keeps fun b o e=>(e0.bs b o e).1
 have Y:∀ y∈ps.zip us,scope.names.lookup y.1=some .local\/(scope.names.lookup y.1=some .cell/\((af (s.heap.objs.size + 1) scope.names []).lookup y.1).isSome=true):=fun ⟨n,v⟩ hy=>by
  rcases S.par n (List.of_mem_zip hy).1 with q | q
  ·exact .inl q
  ·exact .inr ⟨q,PySem.W.cellsFrom_some _ _ _ (.inl q)⟩
 refine codeAny_call_function hr.depth (KX _ _ lk) rfl S.co S.gen rfl (PySem.W.codeRec_of KX a3) (hb _ _ _ _ ?_);refine wpAny_newFunctionEnv_cells S.kind Y fun env he s1 x=>?_
 subst he;refine ⟨lim.keeps x.toInCall.keep,codeAny_func ?_⟩;obtain ⟨t,ht,hq⟩:=Z A outer s H vs Q E (hr.deeper _) a1;have I:Inv (Qc1 CX P w K mg base N qual scope f B A outer s H E) [] (start N vs) H s1:=Qbu S hr.hd e0 hl r x;refine ak (ht [] s1 (start N vs) H _ I hq) (fun fl s' hs=>?_) fun e s' hs=>hs
 have fin:∀ {U:St} {H':Hp} {v:V} {u:aA},Inv (Qc1 CX P w K mg base N qual scope f B A outer s H E) [] U H' s'->RelV v u->Q v H'->CE outer P w H s Q u s':=
  fun {U H' v u} J rv q=>⟨v,H',J.os,J.bare,J.base,J.hok,rv,q⟩
 cases fl with
 | ret u=>
  obtain ⟨v,U,H',J,rv,q⟩:=hs;exact fin J rv q
 | next=>
  obtain ⟨U,H',J,q⟩:=hs;exact fin (v:=V.non) (u:=Value.none) J rfl q
 | brk=>
  obtain ⟨_,_,_,q⟩:=hs;exact False.elim q
 | cont=>
  obtain ⟨_,_,_,q⟩:=hs;exact False.elim q
variable {T:String} {r:List V->Hp->VK->Prop}
section
variable {x:Str} {pos:Pos} {e:aH} {t:TA} {id:String}
def tCB (r:List V->Hp->VK->Prop) (t:TA):TE:=fun σ H Q=>t σ H fun vs H1=>r vs H1 Q
theorem Q61 (hc:Ve X (.builtin id) r) (hg:Gl X x) (Z:X.mg x=none) (O:aW x=some (.builtin id)) (U:PA X (e :: es) t) (hn:x≠"__name__" := by decide) (B:(x == ("__debug__" : Str))=false:=by decide)
  (he:aN (e :: es) X.env=(false,aL e X.env) :: aN es X.env:=by rfl) (J:(aX pos (aN es X.env)).any (·.1)=false:=by rfl):PE X (.Call (.Name x p) (e :: es) [] pos) (tCB r t):=by
 intro pins s σ H Q I h;refine wpAny_Call_Name_kw (jf I hg Z O ?_ hn B);exact PyProof.Rows.callWith_builtin1 (thn (U pos pins s σ H _ I h) fun us s1 ⟨vs,H1,Y,r1,q1⟩=>hc pins s1 σ H1 vs us Q Y r1 q1) he J
theorem Q34 (hc:Ve X (.type T) r) (hg:Gl X x) (Z:X.mg x=none) (O:aW x=some (.type T)) (U:PA X (e :: es) t) (hn:x≠"__name__" := by decide) (B:(x == ("__debug__" : Str))=false:=by decide)
  (he:aN (e :: es) X.env=(false,aL e X.env) :: aN es X.env:=by rfl) (J:(aX pos (aN es X.env)).any (·.1)=false:=by rfl):PE X (.Call (.Name x p) (e :: es) [] pos) (tCB r t):=by
 intro pins s σ H Q I h;refine wpAny_Call_Name_kw (jf I hg Z O ?_ hn B);exact PyProof.Rows.callWith_type1 (thn (U pos pins s σ H _ I h) fun us s1 ⟨vs,H1,Y,r1,q1⟩=>hc pins s1 σ H1 vs us Q Y r1 q1) he J
end
end L2
namespace HT
open PySem PyProof.Rows
def lexLt:List Int->List Int->Bool
 | [],[]=>false
 | [],_ :: _=>true
 | _ :: _,[]=>false
 | x :: xs,y :: ys=>if x=y then lexLt xs ys else decide (x < y)
theorem lexLt_cons (x y:Int) (xs ys:List Int):lexLt (x :: xs) (y :: ys)=if x=y then lexLt xs ys else decide (x < y):=rfl
theorem lexLt_nil_nil:lexLt [] []=false:=rfl
theorem Q1h (y:Int) (ys:List Int):lexLt [] (y :: ys)=true:=rfl
theorem Q1i (x:Int) (xs:List Int):lexLt (x :: xs) []=false:=rfl
theorem Qge (A:aQ) (s:aC) (a:Int) (t:Tok) (c:Int) (u:Tok):∃ e,SeqAt.EqAt A s (.int a t) (.int c u) e/\(e=true <-> a=c):=
 ⟨(a == c),SeqAt.EqAt.int_int a t c u,by simp⟩
theorem Qdt (A:aQ) (s:aC) (a:Int) (t:Tok) (c:Int) (u:Tok) (prog:aM) (w:aJ) (E:aA->aC->Prop) (Q:aA->aC->Prop) (h:Q (.bool (decide (a < c))) s) :
  aF (aI prog w) A (richCompare .Lt (.int a t) (.int c u)) Q E s:=
 (PyProof.Rows.lt_int h:aF (aI prog w) A (aR .Lt (.int a t) (.int c u)) Q E s)
section
open PySem.SeqAt
open PySem.AutoSeq1 (wpAny_loadPart')
open PySem.MeetsSeq PySem.MeetsSeq2 PySem.MeetsSeq3
theorem Q2e (l b:aB) (I B:Array aA) (n n2:Nat) (dd a7:Option aB) (sl b0:Array (Option aA)) (ns ms:List Int) (hi:IntsAre I.toList ns) (hj:IntsAre B.toList ms) :
  Meets (Builtin.«tuple.__lt__» ⟨[.ref l,.ref b],[]⟩)
   (fun _ R s=>s.heap.get? l=some { cls:=.type "tuple",dict:=dd,data:=.seq I n,slots:=sl }/\s.heap.get? b=some { cls:=.type "tuple",dict:=a7,data:=.seq B n2,slots:=b0 } /\
    R (.ok (.ret (.bool (lexLt ns ms)))) s):=
 .of_wp fun prog w A R s h=>by
  obtain ⟨hp,g,d,tk,os⟩:=s; obtain ⟨hl,hb,h⟩:=h;have f2:=AutoSeq1.sub_tuple_tuple;have z1:I.size=ns.length:=by rw [<- hi.length]; simp
  have z2:B.size=ms.length:=by rw [<- hj.length]; simp
  wp_walk using wpAny_loadPart' hl,wpAny_loadPart' hb,wpAny_forIn_list _ (fun rest b s'=>b.1=none/\s'=⟨hp,g,d,tk,os⟩/\∃ (vs ws:List aA) (O U:List Int),rest=vs.zip ws /\
   IntsAre vs O/\IntsAre ws U/\O.length + B.size=U.length + I.size/\R (.ok (.ret (.bool (lexLt O U)))) ⟨hp,g,d,tk,os⟩) _
  case turn=>
   rintro ⟨y,x⟩ rest b s' ⟨a3,rfl,vs,ws,O,U,hz,a4,Y,J,Z⟩;cases a4 with
   | nil=>rw [List.zip_nil_left] at hz; cases hz
   | cons a t a5=>
    cases Y with
    | nil=>rw [List.zip_nil_right] at hz; cases hz
    | cons c u a6=>
     rw [List.zip_cons_cons] at hz;injection hz with a9 a2
     injection a9 with hy hx
     subst hy hx;rw [lexLt_cons] at Z;simp only [E4] at J;obtain ⟨e,he,a1⟩:=Qge A.in1 ⟨hp,g,d,tk,os⟩ a t c u;refine aD (he prog w _ _ ?_);cases e with
     | true=>
      rw [bN (a1.mp rfl)] at Z
      wp_walk
      exact ⟨rfl,rfl,_,_,_,_,a2,a5,a6,by omega,Z⟩
     | false=>
      rw [bO (fun q=>absurd (a1.mpr q) E9)] at Z
      have a8:=Qdt A.in1 ⟨hp,g,d,tk,os⟩ a t c u prog w
      wp_walk using a8
      exact ⟨_,rfl,by simpa using Z⟩
  case fin=>
   rintro ⟨b1,b2⟩ s' ⟨a3,rfl,vs,ws,O,U,hz,a4,Y,J,Z⟩;simp only at a3;subst a3;have hv:lexLt O U=decide (I.size < B.size):=by
    cases a4 with
    | nil=>
     cases Y with
     | nil=>
      simp only [List.length_nil] at J;rw [lexLt_nil_nil];exact (bP (by omega)).symm
     | cons c u hw=>
      simp only [List.length_nil,E4] at J;rw [Q1h];exact (bQ (by omega)).symm
    | cons a t hv=>
     cases Y with
     | nil=>
      simp only [List.length_nil,E4] at J;rw [Q1i];exact (bP (by omega)).symm
     | cons c u hw=>
      rw [List.zip_cons_cons] at hz;cases hz
   rw [hv] at Z
   wp_walk
   exact ⟨_,rfl,by simpa [Builtin.Tuple.tupleCompareSizes] using Z⟩
  case h=>
   exact ⟨rfl,rfl,I.toList,B.toList,ns,ms,rfl,hi,hj,by omega,h⟩
end
variable {prog:aM} {A:aQ} {E:aA->aC->Prop} {s:aC}
section
variable {w:aJ}
theorem lt_tupInts {l b:aB} {I B:Array aA} {ns ms:List Int} {Q:aA->aC->Prop} (Z:IsTup s.heap l I) (hb:IsTup s.heap b B) (hi:IntsAre I.toList ns) (Y:IntsAre B.toList ms)
  (hu:A.units < aO) (h:Q (.bool (lexLt ns ms)) s):aF (aI prog w) A (aR .Lt (.ref l) (.ref b)) Q E s:=by
 obtain ⟨⟨cls,dd,data,sl⟩,ho,hc,n,hd⟩:=id Z;obtain ⟨⟨U,O,data2,J⟩,ho2,hc2,n2,hd2⟩:=id hb;simp only at hc hd hc2 hd2;subst hc hd hc2 hd2;exact richCompare_meets_room (op:=.Lt) ⟨_,ho,rfl⟩ ⟨_,ho2,rfl⟩ PySem.F.slot_tuple_lt PySem.F.entry_tuple_lt (PySem.F.args_tuple_lt_2 _ _) (Q2e l b I B n n2 dd O sl J ns ms hi Y)
  ⟨ho,ho2,show Value.bool (lexLt ns ms)≠Value.notImplemented/\Q (.bool (lexLt ns ms)) s from ⟨(fun x=>nomatch x),h⟩⟩ hu
theorem cat_tup {t b:aB} {vs ws:List aA} {Q:aA->aC->Prop} (Z:IsTup s.heap t vs.toArray) (hb:IsTup s.heap b ws.toArray) (O:vs≠[])
  (h1:ws=[]->Q (.ref t) s) (h2:ws≠[]->Q (.ref s.heap.objs.size) { s with heap:=s.heap.push { cls:=.type "tuple",data:=.seq (vs ++ ws).toArray } })
  (hsz:vs.length + ws.length<=sizeLine):aF (aI prog w) A (aV .Add (.ref t) (.ref b)) Q E s:=by
 obtain ⟨⟨cls,dd,data,Y⟩,ho,hc,n,hd⟩:=id Z;obtain ⟨⟨U,I,data2,B⟩,ho2,hc2,n2,hd2⟩:=id hb;simp only at hc hd hc2 hd2;subst hc hd hc2 hd2;have e:vs.toArray ++ ws.toArray=(vs ++ ws).toArray:=by simp
 by_cases J:ws=[]
 ·exact concat_meets ⟨_,ho,rfl⟩ ⟨_,ho2,rfl⟩ noFill_tuple_add seq_tuple_add PySem.F.slot_tuple_add PySem.F.entry_tuple_add (PySem.F.args_tuple_add_2 _ _)
   (tuple_addW1 t b vs.toArray ws.toArray n n2 dd I Y B (by simpa using O) (by simp [J])) ⟨ho,ho2,h1 J⟩
 ·refine concat_meets ⟨_,ho,rfl⟩ ⟨_,ho2,rfl⟩ noFill_tuple_add seq_tuple_add PySem.F.slot_tuple_add PySem.F.entry_tuple_add (PySem.F.args_tuple_add_2 _ _)
   (tuple_addW2 t b vs.toArray ws.toArray n n2 dd I Y B (by simpa using O) (by simpa using J) (by rw [D0,D0]; exact hsz)) ⟨ho,ho2,?_⟩
  rw [e];exact h2 J
def sIx (n d:Nat):Option Int->Nat
 | none=>d
 | some v=>if v < 0 then (v + (n:Int)).toNat else min v.toNat n
theorem sIx_none (n d:Nat):sIx n d none=d:=rfl
theorem sIx_nat (n d k:Nat):sIx n d (some (k:Int))=min k n:=by
 show (if (k:Int) < 0 then ((k:Int) + (n:Int)).toNat else min (k:Int).toNat n)=min k n;rw [bO (by omega),Int.toNat_natCast]
theorem Qnj (n d:Nat) (hd:d<=n) (o:Option Int):sIx n d o<=n:=by
 cases o with
 | none=>exact hd
 | some v=>
  show (if v < 0 then (v + (n:Int)).toNat else min v.toNat n)<=n
  by_cases B:v < 0
  ·rw [bN B]; omega
  ·rw [bO B]; exact Nat.min_le_right _ _
theorem Qae (v:Int) (n d:Nat):(if v < 0 then max (v + (n:Int)) 0 else min v (n:Int))=((sIx n d (some v):Nat):Int):=by
 show (if v < 0 then max (v + (n:Int)) 0 else min v (n:Int))=(((if v < 0 then (v + (n:Int)).toNat else min v.toNat n):Nat):Int)
 by_cases B:v < 0
 ·simp only [bN B]; omega
 ·simp only [bO B]; omega
theorem Q8w (lo hi:Option Int) (n:Nat):Builtin.Slice.sliceAdjust lo hi 1 (n:Int)=(((sIx n 0 lo:Nat):Int),((sIx n n hi:Nat):Int)):=by
 have h1:¬ ((1:Int) < 0):=by omega
 unfold Builtin.Slice.sliceAdjust;simp only [h1,if_false];refine Prod.ext ?_ ?_
 ·cases lo with
  | none=>rfl
  | some v=>exact Qae v n 0
 ·cases hi with
  | none=>rfl
  | some v=>exact Qae v n n
theorem Q7t (i j:Nat):Builtin.Slice.slicePlaces (i:Int) (j:Int) 1=j - i:=by
 unfold Builtin.Slice.slicePlaces;have h1:(1:Int) > 0:=by omega
 simp only [h1,if_true,Int.ediv_one]
 split <;> omega
theorem Q0v {v:aA} {o:Option Int} {Q:Option Int->aC->Prop} (p:IsPart v o) (h:Q o s):aF (aI prog w) A (Builtin.Slice.slicePartIndex v) Q E s:=by
 cases p with
 | none=>exact slicePart_none h
 | int i t=>exact slicePart_int h
theorem X1 {U:aB} {O J:aA} {lo hi:Option Int} {n:Nat} {Q:Int × Int × Nat->aC->Prop} (hs:s.heap.IsSliceOf U O J .none) (pl:IsPart O lo) (Y:IsPart J hi)
  (h:Q (((sIx n 0 lo:Nat):Int),1,sIx n n hi - sIx n 0 lo) s):aF (aI prog w) A (Builtin.Slice.sliceApplied (.ref U) (pure (n:Int))) Q E s:=by
 obtain ⟨os,B,Z,I⟩:=id hs;unfold Builtin.Slice.sliceApplied Builtin.Slice.sliceFields;refine aD (aD (aY B I (x:=O) rfl (aD (aY B I (x:=J) rfl (aD (aY B I (x:=.none) rfl (wpAny_pure ?_)))))));refine aD (slicePart_none ?_);show aF _ _ (if ((1:Int) == 0)=true then _ else _) _ _ s;rw [bO (by decide)];refine aD (Q0v pl (aD (Q0v Y (aD (wpAny_pure ?_)))));show aF _ _ (match Builtin.Slice.sliceAdjust lo hi 1 (n:Int) with | (lo,hi)=>pure (lo,(1:Int),Builtin.Slice.slicePlaces lo hi 1)) _ _ s
 rw [Q8w lo hi n];show aF _ _ (pure (((sIx n 0 lo:Nat):Int),(1:Int),Builtin.Slice.slicePlaces ((sIx n 0 lo:Nat):Int) ((sIx n n hi:Nat):Int) 1)) _ _ s;rw [Q7t];exact wpAny_pure h
theorem Qec (xs:Array aA) (i k:Nat):((List.range k).filterMap fun (m:Nat)=>xs[((i:Int) + (m:Int) * 1).toNat]?).toArray=((xs.toList.drop i).take k).toArray:=by
 have e:(fun (m:Nat)=>xs[((i:Int) + (m:Int) * 1).toNat]?)=fun m=>xs[i + m]?:=by
  funext m;have:((i:Int) + (m:Int) * 1).toNat=i + m:=by omega
  rw [this]
 rw [e];have:=pick_run xs i k;rw [List.filterMap_map] at this;have B:((fun x=>xs[x]?) ∘ fun x=>i + x)=fun m=>xs[i + m]?:=rfl
 rw [B] at this;rw [this]
theorem getItem_tuple_cut {t O:aB} {B:Array aA} {vl vu:aA} {lo hi:Option Int} {Q:aA->aC->Prop} (J:IsTup s.heap t B) (hs:s.heap.IsSliceOf O vl vu .none) (pl:IsPart vl lo) (pu:IsPart vu hi)
  (hw:¬ (sIx B.size 0 lo=0/\sIx B.size B.size hi=B.size))
  (h:Q (.ref s.heap.objs.size) { s with heap:=s.heap.push { cls:=.type "tuple",data:=.seq ((B.toList.drop (sIx B.size 0 lo)).take (sIx B.size B.size hi - sIx B.size 0 lo)).toArray } })
  (hsz:B.size<=sizeLine):aF (aI prog w) A (getItem (.ref t) (.ref O)) Q E s:=by
 have I:sizeOk (.seq ((B.toList.drop (sIx B.size 0 lo)).take (sIx B.size B.size hi - sIx B.size 0 lo)).toArray):=by
  show ((B.toList.drop (sIx B.size 0 lo)).take (sIx B.size B.size hi - sIx B.size 0 lo)).toArray.size<=sizeLine;rw [D0,List.length_take,List.length_drop,Array.length_toList];omega
 have hj:sIx B.size B.size hi<=B.size:=Qnj _ _ (O8 _) hi;obtain ⟨os,a1,Z,a2⟩:=id hs;have U:s.TypeIs (.ref O) "slice" := ⟨os,a1,Z⟩;unfold getItem
 try with_reducible refine aa ?_
 first | refine aD (wpAny_pure ?_) | skip
 refine aD (wpAny_sequenceKey J.typeIs (by decide) ?_);refine aD (wpAny_callSpecial?_slot (name:=Str.ofString "__getitem__") J.typeIs PyProof.Rows.slot_tuple_getitem
  (ag PyProof.Rows.slot_tuple_getitem J.typeIs entry_tuple_getitem ?_ (args_tuple_getitem _ _)))
 show aF _ _ (Builtin.Tuple.tupleItemsOf (.ref t) >>= _) _ _ s;refine aD (tupleItemsOf_ J ?_);refine aD (bM U ?_);rw [bN (by decide)];refine aD (X1 hs pl pu ?_);have Y:¬ ((((sIx B.size 0 lo:Nat):Int) == 0 && (1:Int) == 1 && (sIx B.size B.size hi - sIx B.size 0 lo) == B.size)=true):=by
  intro q;rw [L8,L8] at q;have q1:((sIx B.size 0 lo:Nat):Int)=0:=eq_of_beq q.1.1;have q2:sIx B.size B.size hi - sIx B.size 0 lo=B.size:=eq_of_beq q.2;exact hw ⟨by omega,by omega⟩
 show aF _ _ (if (((sIx B.size 0 lo:Nat):Int) == 0 && (1:Int) == 1 && (sIx B.size B.size hi - sIx B.size 0 lo) == B.size)=true then _ else _) _ _ s;rw [bO Y,Qec]
 first
  | exact aD (m:=Builtin.Tuple.tupleExact _) (bB (wpAny_pure ⟨_,rfl,wpAny_pure h⟩) I)
  | exact aD (m:=Builtin.Tuple.tupleExact _) (bB (aD (wpAny_pure (wpAny_pure ⟨_,rfl,wpAny_pure h⟩))) I)
  | exact aD (aD (m:=Builtin.Tuple.tupleExact _) (bB (wpAny_pure (wpAny_pure ⟨_,rfl,wpAny_pure h⟩)) I))
  | exact aD (aD (m:=Builtin.Tuple.tupleExact _) (bB (wpAny_pure ⟨_,rfl,wpAny_pure h⟩) I))
end
end HT
namespace L2
open PySem PySem.Spec PyProof.Rows
variable {xs:List V} {us:List aA} {n t':Nat} {α:Type} {σ:St} {H:Hp} {s:aC} {p:aB}
abbrev TO:=St->Hp->(Option Int->Hp->Prop)->Prop
def PO (X:Cx) (e:Option aH) (t:TO):Prop:=
 ∀ (pins:List (aB × Obj)) (s:aC) (σ:St) (H:Hp) (Q:Option Int->Hp->Prop),Inv X pins σ H s->t σ H Q ->
  aF (aI X.prog X.w) X.A (evalPart e X.env) (fun u s'=>∃ o H',Inv X pins σ H' s'/\IsPart u o/\Q o H') X.xe s
def Qhr:TO:=fun _ H Q=>Q none H
def Qsb (t:TE):TO:=fun σ H Q=>t σ H fun x H1=>∃ i,x=.int i/\Q (some i) H1
theorem jh {ns:List Int}:∀ {us:List aA},Vals (ns.map V.int) us->IntsAre us ns:=by
 induction ns with
 | nil=>intro us r; rw [List.map_nil] at r; cases r; exact .nil
 | cons n ns I=>
  intro us r;rw [D3] at r;cases r with
  | cons B J=>
   obtain ⟨t,e⟩:=B;subst e;exact .cons n t (I J)
variable {X:Cx} {e:aH} {te:TE} {lo hi:Option aH} {tl th:TO} {p2:Pos}
section
variable {pos:Pos}
theorem Qiv:PO X none Qhr:=by
 intro pins s σ H Q I h;rw [evalPart_none];exact wpAny_pure ⟨none,H,I,.none,h⟩
theorem Qiu (h:PE X e te):PO X (some e) (Qsb te):=by
 intro pins s σ H Q I B;rw [evalPart_some];refine thn (h pins s σ H _ I B) fun u s1 ⟨x,H1,J,O,U⟩=>?_
 obtain ⟨i,rfl,q⟩:=U;obtain ⟨t,rfl⟩:=O;exact ⟨some i,H1,J,.int i t,q⟩
def SlR (X:Cx) (r:V->Option Int->Option Int->Hp->VK->Prop):Prop:=
 ∀ (pins:List (aB × Obj)) (s:aC) (σ:St) (H:Hp) (x:V) (v vl vu:aA) (lo hi:Option Int) (sl:aB) (Q:VK),Inv X pins σ H s->RelV x v->s.heap.IsSliceOf sl vl vu .none->IsPart vl lo->IsPart vu hi->r x lo hi H Q ->
  ∃ T id,typeLookup (.type T) "__getitem__" = pure (some (.builtin id))/\s.TypeIs v T/\aF (aI X.prog X.w) X.A (getItem v (.ref sl)) (EP X pins σ Q) X.xe s
theorem SlR.or {r B:V->Option Int->Option Int->Hp->VK->Prop} (h:SlR X r) (h':SlR X B):SlR X (fun x lo hi H Q=>r x lo hi H Q\/B x lo hi H Q):=by
 intro pins s σ H x v Y U lo hi Z Q I O hs pl J q;rcases q with q | q
 ·exact h pins s σ H x v Y U lo hi Z Q I O hs pl J q
 ·exact h' pins s σ H x v Y U lo hi Z Q I O hs pl J q
def tSl (r:V->Option Int->Option Int->Hp->VK->Prop) (te:TE) (tl th:TO):TE:=fun σ H Q=>te σ H fun x H1=>tl σ H1 fun l H2=>th σ H2 fun u H3=>r x l u H3 Q
theorem Qei {r:V->Option Int->Option Int->Hp->VK->Prop} (Y:SlR X r) (he:PE X e te) (hl:PO X lo tl) (hu:PO X hi th):PE X (.Subscript e (.Slice lo hi none p2) pos) (tSl r te tl th):=by
 intro pins s σ H Q I h;refine Subscript_ (thn (he pins s σ H _ I h) fun v s1 ⟨x,H1,I1,r1,q1⟩=>?_)
 refine wpAny_Slice (thn (hl pins s1 σ H1 _ I1 q1) fun O s2 ⟨l,H2,I2,pl,q2⟩=>thn (hu pins s2 σ H2 _ I2 q2) fun J B ⟨u,U,I3,pu,q3⟩=>?_)
 rw [evalPart_none];refine wpAny_pure ?_;have I4:Inv X pins σ U { B with heap:=B.heap.push { cls:=.type "slice",data:=.fields #[O,J,.none] } }:=I3.kept (t':=B.toks) fun b ob q=>O5 _ q
 obtain ⟨T,id,Z,ht,hg⟩:=Y pins { B with heap:=B.heap.push { cls:=.type "slice",data:=.fields #[O,J,.none] } } σ U x v O J l u B.heap.objs.size Q I4 r1 (Heap.IsSliceOf.new ..) pl pu q3;show aF (aI X.prog X.w) X.A (subscriptTail e (.Slice lo hi none p2) v (.ref B.heap.objs.size)) (EP X pins σ Q) X.xe { B with heap:=B.heap.push { cls:=.type "slice",data:=.fields #[O,J,.none] } };exact tail_any (ops:=[.ref B.heap.objs.size,v]) ht Z hg (by with_unfolding_all rfl)
def Q71 (xs:List V) (lo hi:Option Int):List V:=(xs.drop (HT.sIx xs.length 0 lo)).take (HT.sIx xs.length xs.length hi - HT.sIx xs.length 0 lo)
theorem xq (xs:List V) (lo hi:Option Int):(Q71 xs lo hi).length<=xs.length:=by
 unfold Q71;rw [List.length_take,List.length_drop];omega
def Qws (K:PySem.W.Frag):V->Option Int->Option Int->Hp->VK->Prop:=fun x lo hi H Q=>∃ a xs,x=.ref a/\SqT K H a xs /\
 ¬ (HT.sIx xs.length 0 lo=0/\HT.sIx xs.length xs.length hi=xs.length)/\∀ p,H p=none->Q (.ref p) (upd H p (.tup (Q71 xs lo hi)))
theorem sl_tup:SlR X (Qws X.K):=by
 intro pins s σ H x v vl vu lo hi sl Q I Z hs pl U h;obtain ⟨a,xs,rfl,Y,O,q⟩:=h;cases Z;obtain ⟨its,r,J,hz⟩:=I.tuple Y;have B:its.toArray.size=xs.length:=by rw [D0]; exact r.length.symm
 refine ⟨"tuple",_,PyProof.Rows.slot_tuple_getitem.lookup,J.typeIs,?_⟩;refine HT.getItem_tuple_cut J hs pl U (by rw [B]; exact O) ?_ (by rw [B]; exact hz);rw [B];refine ⟨.ref s.heap.objs.size,_,I.laid (t':=s.toks) (o:=.tup (Q71 xs lo hi)) (fun b ob q=>O5 _ q) (O8 _) ?_,rfl,q _ (I.hok.fresh (O8 _))⟩;exact ⟨F9 (xq xs lo hi) hz,_,(r.drop (HT.sIx xs.length 0 lo)).take (HT.sIx xs.length xs.length hi - HT.sIx xs.length 0 lo),IsTup.new _ _⟩
def Qwv (K:PySem.W.Frag):R2:=fun x y H Q=>∃ a b ns ms,x=.ref a/\y=.ref b/\SqT K H a (ns.map V.int)/\SqT K H b (ms.map V.int)/\Q (.bl (HT.lexLt ns ms)) H
theorem Qpu (Z:X.A.units < aO):OpR X (aR .Lt) (Qwv X.K):=by
 intro pins s σ H x y v u Q I Y O h;obtain ⟨a,b,ns,ms,rfl,rfl,U,hb,q⟩:=h;cases Y;cases O;obtain ⟨its,J,p1,_⟩:=I.tuple U;obtain ⟨B,r2,p2,_⟩:=I.tuple hb;have i1:IntsAre its.toArray.toList ns:=jh J;have i2:IntsAre B.toArray.toList ms:=jh r2;exact HT.lt_tupInts p1 p2 i1 i2 Z ⟨.bl (HT.lexLt ns ms),H,I,rfl,q⟩
def Qkv (K:PySem.W.Frag):R2:=fun x y H Q=>∃ a b xs ys,x=.ref a/\y=.ref b/\SqT K H a xs/\SqT K H b ys/\xs≠[]/\xs.length + ys.length<=sizeLine /\
 (ys=[]->Q (.ref a) H)/\(ys≠[]->∀ p,H p=none->Q (.ref p) (upd H p (.tup (xs ++ ys))))
theorem Vals.nil_iff (r:Vals xs us):us=[] <-> xs=[]:=by
 cases r with
 | nil=>simp
 | cons _ _=>simp
theorem op_catT:OpR X (aV .Add) (Qkv X.K):=by
 intro pins s σ H x y v u Q I rx U h;obtain ⟨a,b,xs,ys,rfl,rfl,Y,hb,Z,hz,q1,q2⟩:=h;cases rx;cases U;obtain ⟨its,J,p1,_⟩:=I.tuple Y;obtain ⟨O,B,p2,_⟩:=I.tuple hb;refine HT.cat_tup p1 p2 (fun z=>Z (J.nil_iff.mp z)) (fun z=>⟨.ref a,H,I,rfl,q1 (B.nil_iff.mp z)⟩) (fun z=>?_) (by rw [<- J.length,<- B.length]; exact hz)
 refine ⟨.ref s.heap.objs.size,_,I.laid (t':=s.toks) (o:=.tup (xs ++ ys)) (fun b ob q=>O5 _ q) (O8 _) ?_,rfl,q2 (fun w=>z (B.nil_iff.mpr w)) _ (I.hok.fresh (O8 _))⟩;exact ⟨by rw [O7]; exact hz,_,J.append B,IsTup.new _ _⟩
end
def ixN (n:Nat) (i:Int):Option Nat:=if 0<=i then (if i < n then some i.toNat else none) else if -(n:Int)<=i then some (i + n).toNat else none
def atI {α:Type} (xs:List α) (i:Int):Option α:=(ixN xs.length i).bind fun j=>xs[j]?
theorem Qa1 {i:Int} {j:Nat} (h:ixN n i=some j):seqIndex? i n=some j/\j < n/\-(n:Int)<=i/\i < n:=by
 unfold ixN at h
 by_cases B:0<=i
 ·rw [bN B] at h
  by_cases h1:i < n
  ·rw [bN h1] at h;have e:i.toNat=j:=Option.some.inj h;exact ⟨by rw [seqIndex_of B h1,e],by omega,by omega,h1⟩
  ·rw [bO h1] at h; cases h
 ·rw [bO B] at h
  by_cases h1:-(n:Int)<=i
  ·rw [bN h1] at h;have e:(i + n).toNat=j:=Option.some.inj h;exact ⟨by rw [seqIndex_neg (by omega) h1,e],by omega,h1,by omega⟩
  ·rw [bO h1] at h; cases h
theorem atI_get {xs:List α} {i:Int} {v:α} (h:atI xs i=some v):∃ j,seqIndex? i xs.length=some j/\xs[j]?=some v/\j < xs.length/\-(xs.length:Int)<=i/\i < xs.length:=by
 unfold atI at h;cases e:ixN xs.length i with
 | none=>rw [e] at h; cases h
 | some j=>
  rw [e] at h;obtain ⟨h1,h2,I,B⟩:=Qa1 e;exact ⟨j,h1,h,h2,I,B⟩
def Qai (b:aH):Prop:=∀ o i,subscripted b false o i=operate [o,i] (getItem o i)
def IxR (X:Cx) (r:R2):Prop:=
 ∀ (value slice:aH) (pins:List (aB × Obj)) (s:aC) (σ:St) (H:Hp) (x y:V) (v u:aA) (Q:VK),Inv X pins σ H s->RelV x v->RelV y u->r x y H Q ->
  subscripted slice false v u=operate [v,u] (getItem v u)->aF (aI X.prog X.w) X.A (subscriptTail value slice v u) (EP X pins σ Q) X.xe s
def MtR (X:Cx) (id:String) (r:V->List V->Hp->VK->Prop):Prop:=
 ∀ (pins:List (aB × Obj)) (s:aC) (σ:St) (H:Hp) (x:V) (xs:List V) (v:aA) (us:List aA) (Q:VK),Inv X pins σ H s->RelV x v->Vals xs us->r x xs H Q ->
  aF (aI X.prog X.w) X.A (call (.builtin id) (v :: us)) (EP X pins σ Q) X.xe s
section
variable {X:Cx} {a b:aH} {ta tb:TE} {pos:Pos}
theorem IxR.or {r J:R2} (h:IxR X r) (h':IxR X J):IxR X (fun x y H Q=>r x y H Q\/J x y H Q):=by
 intro value B pins s σ H x y v u Q I U O q hs;rcases q with q | q
 ·exact h value B pins s σ H x y v u Q I U O q hs
 ·exact h' value B pins s σ H x y v u Q I U O q hs
theorem Qtb {r:R2} (Y:IxR X r) (O:PE X a ta) (Z:PE X b tb) (hs:Qai b):PE X (.Subscript a b pos) (tOp r ta tb):=by
 intro pins s σ H Q I h;exact Subscript_ (Qre O Z I h fun v u s2 x y H2 B U J q=>Y a b pins s2 σ H2 x y v u Q B U J q (hs _ _))
def Qnp (K:PySem.W.Frag):R2:=fun x y H Q=>∃ p xs i v,x=.ref p/\y=.int i/\SqL K H p xs/\atI xs i=some v/\Q v H
def Qt0 (K:PySem.W.Frag):R2:=fun x y H Q=>∃ p xs i v,x=.ref p/\y=.int i/\SqT K H p xs/\atI xs i=some v/\Q v H
def Qt1:R2:=fun x y H Q=>∃ z i c,x=.str z/\y=.int i/\z.length<=sizeLine/\atI z.cps.toList i=some c/\Q (.str ⟨#[c]⟩) H
theorem ix_list:IxR X (Qnp X.K):=by
 intro value B pins s σ H x y v u Q I rx ry h hs;obtain ⟨p,xs,i,z,rfl,rfl,hq,he,q⟩:=h;cases rx;obtain ⟨t,rfl⟩:=ry;obtain ⟨its,r,pl,hz⟩:=I.list hq;obtain ⟨j,h1,h2,h3,h4,Z⟩:=atI_get he;obtain ⟨w,Y,O⟩:=r.get h2;have hl:=r.length;have hn:=je;have fin:EP X pins σ Q w s:=⟨z,H,I,O,q⟩
 by_cases U:0<=i
 ·have J:i.toNat=j:=by
   rw [seqIndex_of U Z] at h1;exact Option.some.inj h1
  exact item_listR pl.isList U (by omega) (by rw [J]; simpa using Y) fin hs
 ·have J:(i + (its.toArray.size:Int)).toNat=j:=by
   rw [seqIndex_neg (by omega) h4] at h1;rw [D0,<- hl];exact Option.some.inj h1
  exact subscriptTail_builtinR (x:=w) pl.isList.typeIs slot_list_getitem.lookup
   (wpAny_getItem_list_neg (Q:=fun r s'=>r=w/\EP X pins σ Q r s') pl.isList (by omega) (by rw [D0] <;> omega) (by omega) (by rw [J]; simpa using Y) ⟨rfl,fin⟩) hs
theorem ix_tup:IxR X (Qt0 X.K):=by
 intro value B pins s σ H x y v u Q I Z O h hs;obtain ⟨p,xs,i,z,rfl,rfl,Y,he,q⟩:=h;cases Z;obtain ⟨t,rfl⟩:=O;obtain ⟨its,r,pl,hz⟩:=I.tuple Y;obtain ⟨j,h1,h2,h3,h4,h5⟩:=atI_get he;obtain ⟨w,ew,J⟩:=r.get h2;have U:=r.length;have hn:=je;have fin:EP X pins σ Q w s:=⟨z,H,I,J,q⟩;exact subscriptTail_builtinR (x:=w) pl.typeIs slot_tuple_getitem.lookup
  (getItem_tuple (j:=j) (Q:=fun r s'=>r=w/\EP X pins σ Q r s') pl (by omega) (by omega) (by rw [D0,<- U]; exact h1) (by simpa using ew) ⟨rfl,fin⟩) hs
theorem Qqk:IxR X Qt1:=by
 intro value B pins s σ H x y v u Q I Z U h hs;obtain ⟨z,i,c,rfl,rfl,hz,he,q⟩:=h;obtain ⟨t,rfl⟩:=Z;obtain ⟨t',rfl⟩:=U;obtain ⟨j,h1,h2,h3,h4,J⟩:=atI_get he;have Y:z.cps.toList.length=z.length:=by simp [Str.length]
 rw [Y] at h1 h4 J;have hn:=je;exact tail_any (typeIs_str s z t) slot_str_getitem.lookup (getItem_str (c:=c) (by
  have e1:decide (i < -(2 ^ 63:Int))=false:=bP (by omega);have O:decide (i>=2 ^ 63)=false:=bP (by omega);rw [e1,O,Bool.or_false]) (by rw [h1]; simpa using h2) ⟨.str ⟨#[c]⟩,H,I.tok _,⟨_,rfl⟩,q⟩) hs
def rIx (K:PySem.W.Frag):R2:=fun x y H Q=>Qnp K x y H Q\/Qt0 K x y H Q\/Qt1 x y H Q
theorem Qqm:IxR X (rIx X.K):=ix_list.or (ix_tup.or Qqk)
theorem Q84 (its:List aA) (n j:Nat) (u:aA):Obj.mapSeq (·.setIfInBounds j u) { cls:=.type "list",data:=.seq its.toArray n }={ cls:=.type "list",data:=.seq (its.set j u).toArray n }:=by
 simp [Obj.mapSeq]
theorem Inv.lst {pins:List (aB × Obj)} (I:Inv X pins σ H s) (h:H p=some (.lst xs)) :
  ∃ (its:List aA) (n:Nat),Vals xs its/\s.heap.get? p=some { cls:=.type "list",data:=.seq its.toArray n }/\xs.length<=sizeLine:=by
 obtain ⟨z,its,n,r,e⟩:=I.hok p _ h;exact ⟨its,n,r,e,z⟩
theorem Inv.lstUpd {pins:List (aB × Obj)} {ys:List V} {its its':List aA} {n B:Nat} {f:Obj->Obj} (I:Inv X pins σ H s) (h:H p=some (.lst xs))
  (O:s.heap.get? p=some { cls:=.type "list",data:=.seq its.toArray n }) (J:f { cls:=.type "list",data:=.seq its.toArray n }={ cls:=.type "list",data:=.seq its'.toArray B }) (r:Vals ys its') (hz:ys.length<=sizeLine) (t:Nat) :
  Inv X pins σ (upd H p (.lst ys)) { s with heap:=s.heap.update p f,toks:=t }:=by
 have e:(s.heap.update p f).get? p=some { cls:=.type "list",data:=.seq its'.toArray B }:=by
  rw [N0 f O (by rw [J] <;> rfl),J]
 refine I.write (x:=p) (e:=p) (by rw [h]; trivial) (.inl rfl) (fun b u U q=>(M7 _ _ (Ne.symm U)).trans q) ⟨_,e⟩ ?_
 exact ⟨hz,its',B,r,e⟩
def Qsy:V->V->V->Hp->(Hp->Prop)->Prop:=fun o i v H Q=>∃ p xs k j,o=.ref p/\i=.int k/\H p=some (.lst xs)/\ixN xs.length k=some j/\Q (upd H p (.lst (xs.set j v)))
theorem Q5m:Qri X Qsy:=by
 intro pins s σ H o i v ov iv u Q I ro ri rv h;obtain ⟨p,xs,k,j,rfl,rfl,hp,hj,q⟩:=h;cases ro;obtain ⟨t,rfl⟩:=ri;obtain ⟨its,n,r,O,hz⟩:=I.lst hp;obtain ⟨h1,h2,U,h4⟩:=Qa1 hj;have B:=r.length;have hn:=je;have Z:Inv X pins σ (upd H p (.lst (xs.set j v))) { s with heap:=s.heap.update p (Obj.mapSeq (·.setIfInBounds j u)) }:=
  I.lstUpd hp O (Q84 its n j u) (r.set rv j) (by rw [L6]; exact hz) s.toks
 by_cases Y:0<=k
 ·have J:k.toNat=j:=by
   rw [seqIndex_of Y h4] at h1;exact Option.some.inj h1
  exact PySem.W.ki_setAt O Y (by omega) (by rw [D0,<- B]; exact h4) (by rw [J]; exact ⟨_,Z,q⟩)
 ·have J:(k + (its.toArray.size:Int)).toNat=j:=by
   rw [seqIndex_neg (by omega) U] at h1;rw [D0,<- B];exact Option.some.inj h1
  exact PySem.W.ki_setBack O (by omega) (by rw [D0,<- B]; exact U) (by omega) (by rw [J]; exact ⟨_,Z,q⟩)
theorem Q45 (lo hi:Option Int) (n:Nat):(bF lo hi none n).1=((HT.sIx n 0 lo:Nat):Int)/\(bF lo hi none n).2.1=((HT.sIx n n hi:Nat):Int)/\(bF lo hi none n).2.2=1:=by
 refine ⟨?_,?_,rfl⟩
 ·cases lo with
  | none=>simp [bF,HT.sIx]
  | some i=>
   simp only [bF,HT.sIx,Option.getD_none,show (1:Int) > 0 by decide,if_true]
   by_cases h:i < 0
   ·simp only [h,if_true] <;> omega
   ·simp only [h,if_false] <;> omega
 ·cases hi with
  | none=>simp [bF,HT.sIx]
  | some i=>
   simp only [bF,HT.sIx,Option.getD_none,show (1:Int) > 0 by decide,if_true]
   by_cases h:i < 0
   ·simp only [h,if_true] <;> omega
   ·simp only [h,if_false] <;> omega
theorem Q2f (its:List aA) (lo hi:Option Int):slicePick its.toArray lo hi none=((its.drop (HT.sIx its.length 0 lo)).take (HT.sIx its.length its.length hi - HT.sIx its.length 0 lo)).toArray:=by
 obtain ⟨h1,h2,B⟩:=Q45 lo hi its.toArray.size;unfold slicePick;rw [h1,h2,B];simp only [sliceRange_one,pick_run,D0] <;> rfl
def Qwt (K:PySem.W.Frag):V->Option Int->Option Int->Hp->VK->Prop:=fun x lo hi H Q=>∃ a xs,x=.ref a/\SqL K H a xs/\∀ p,H p=none->Q (.ref p) (upd H p (.lst (Q71 xs lo hi)))
theorem Qi2:SlR X (Qwt X.K):=by
 intro pins s σ H x v vl Z lo hi sl Q I Y hs pl O h;obtain ⟨a,xs,rfl,U,q⟩:=h;cases Y;obtain ⟨its,r,J,hz⟩:=I.list U;have B:=r.length;refine ⟨"list",_,slot_list_getitem.lookup,J.isList.typeIs,?_⟩;refine wpAny_getItem_list_slice J.isList hs pl O .none (by simp) ?_ (by rw [D0] <;> omega);rw [Q2f,<- B];refine ⟨.ref s.heap.objs.size,_,I.laid (t':=s.toks) (o:=.lst (Q71 xs lo hi)) (fun b ob q=>O5 _ q) (O8 _) ?_,rfl,q _ (I.hok.fresh (O8 _))⟩;exact ⟨F9 (xq xs lo hi) hz,_,0,(r.drop (HT.sIx xs.length 0 lo)).take (HT.sIx xs.length xs.length hi - HT.sIx xs.length 0 lo),E8 _ rfl⟩
theorem Q53:Ve X (.builtin "len") (fun xs H Q=>∃ p ys,xs=[.ref p]/\(SqL X.K H p ys\/SqT X.K H p ys)/\Q (.int ys.length) H):=by
 intro pins s σ H xs us Q I r h;obtain ⟨p,ys,rfl,J,q⟩:=h;obtain ⟨u,rfl,U⟩:=qr r;cases U;have Y:=je;rcases J with J | J
 ·obtain ⟨its,O,pl,hz⟩:=I.list J;have B:=O.length;exact Calls.call_len_list pl.isList (by simp only [D0] <;> omega) ⟨.int ys.length,H,I.tok _,⟨s.toks + 1,by rw [D0,B]⟩,q⟩
 ·obtain ⟨its,O,pl,hz⟩:=I.tuple J;have B:=O.length;exact len_tuple pl (by simp only [D0] <;> omega) ⟨.int ys.length,H,I.tok _,⟨s.toks + 1,by rw [D0,B]⟩,q⟩
theorem Q52:Ve X (.builtin "len") (fun xs H Q=>∃ z,xs=[.str z]/\z.length<=sizeLine/\Q (.int z.length) H):=by
 intro pins s σ H xs us Q I r h;obtain ⟨z,rfl,hz,q⟩:=h;obtain ⟨u,rfl,t,rfl⟩:=qr r;have B:=je;exact len_str (by omega) ⟨.int z.length,H,I.tok _,⟨_,rfl⟩,q⟩
theorem y0:Ve X (.type "list") (fun xs H Q=>∃ p ys,xs=[.ref p]/\(SqL X.K H p ys\/SqT X.K H p ys)/\∀ l,H l=none->Q (.ref l) (upd H l (.lst ys))):=by
 intro pins s σ H xs us Q I r h;obtain ⟨p,ys,rfl,U,q⟩:=h;obtain ⟨u,rfl,rx⟩:=qr r;cases rx;have fin:∀ (its:List aA),Vals ys its->ys.length<=sizeLine->∀ (h':Heap) (J:Nat),(∀ b o',s.heap.get? b=some o'->h'.get? b=some o') ->
   h'.get? s.heap.objs.size=some { cls:=.type "list",dict:=none,data:=.seq its.toArray J,slots:=#[] }->EP X pins σ Q (.ref s.heap.objs.size) { s with heap:=h' }:=fun its B hz h' J kp e=>
  ⟨.ref s.heap.objs.size,_,I.laid (t':=s.toks) kp (O8 _) (show ObjOk X.prog X.w _ h' _ (.lst ys) from ⟨hz,its,J,B,e⟩),rfl,q _ (I.hok.fresh (O8 _))⟩
 rcases U with U | U
 ·obtain ⟨its,B,pl,hz⟩:=I.list U;have O:=B.length;obtain ⟨o,Y,Z,n,hd⟩:=pl.isList;exact call_list_seq p (.inl rfl) Y Z hd (fun h' J kp e=>fin its B hz h' J kp e) (by simp only [D0] <;> omega)
 ·obtain ⟨its,B,pl,hz⟩:=I.tuple U;have O:=B.length;obtain ⟨o,Y,Z,n,hd⟩:=pl;exact call_list_seq p (.inr rfl) Y Z hd (fun h' J kp e=>fin its B hz h' J kp e) (by simp only [D0] <;> omega)
theorem qw:Ve X (.type "tuple") (fun xs H Q=>∃ p ys,xs=[.ref p]/\((SqL X.K H p ys/\∀ l,H l=none->Q (.ref l) (upd H l (.tup ys)))\/(SqT X.K H p ys/\Q (.ref p) H))):=by
 intro pins s σ H xs us Q I r h;obtain ⟨p,ys,rfl,h⟩:=h;obtain ⟨u,rfl,Z⟩:=qr r;cases Z;rcases h with ⟨J,q⟩ | ⟨J,q⟩
 ·obtain ⟨its,B,pl,hz⟩:=I.list J;have O:=B.length;refine call_tuple_list pl.isList (fun h' kp=>?_) (by simp only [D0] <;> omega);have U:Inv X pins σ H { s with heap:=h' }:=I.kept (t':=s.toks) kp;have Y:Inv X pins σ (upd H h'.objs.size (.tup ys)) { s with heap:=h'.push { cls:=.type "tuple",data:=.seq its.toArray } }:=
   U.laid (t':=s.toks) (fun b o e=>O5 _ e) (O8 _) (show ObjOk X.prog X.w _ _ _ (.tup ys) from ⟨hz,its,B,IsTup.new _ _⟩)
  exact ⟨.ref h'.objs.size,_,Y,rfl,q _ (U.hok.fresh (O8 _))⟩
 ·obtain ⟨its,B,pl,hz⟩:=I.tuple J;exact call_tuple_same pl ⟨.ref p,H,I,rfl,q⟩
def tyV (K:PySem.W.Frag) (T:String) (x:V) (H:Hp):Prop:=match x with
 | .str _=>T = "str"
 | .int _=>T = "int"
 | .ref p=>(T = "list" /\ ∃ xs,SqL K H p xs)\/(T = "tuple" /\ ∃ o,K.lookup p=some o/\o.cls=.type "tuple" /\ o.dict=none) \/
   (T = "dict" /\ ((∃ kvs,H p=some (.dK kvs))\/∃ kvs,H p=some (.dT kvs)))\/(T = "set" /\ ∃ S n,H p=some (.set S n))
 | _=>False
theorem Q7b {pins:List (aB × Obj)} {T:String} {x:V} {v:aA} (I:Inv X pins σ H s) (r:RelV x v) (ty:tyV X.K T x H) :
  s.TypeIs v T/\∀ a,v=.ref a->∃ ob,s.heap.get? a=some ob/\ob.dict=none:=by
 cases x with
 | str z=>
  obtain ⟨t,rfl⟩:=r;cases (show T = "str" from ty);exact ⟨typeIs_str s z t,fun _ e=>nomatch e⟩
 | int i=>
  obtain ⟨t,rfl⟩:=r;cases (show T = "int" from ty);exact ⟨typeIs_int s i t,fun _ e=>nomatch e⟩
 | ref p=>
  cases r;rcases ty with ⟨rfl,xs,O⟩ | ⟨rfl,o,B,U,hd⟩ | ⟨rfl,B⟩ | ⟨rfl,S,n,B⟩
  ·obtain ⟨its,_,pl,_⟩:=I.list O;refine ⟨pl.isList.typeIs,fun a e=>?_⟩;cases e;obtain ⟨o,n,e,c,hd,_⟩:=pl;exact ⟨o,e,hd⟩
  ·refine ⟨⟨o,I.kIn p o B,U⟩,fun a e=>?_⟩
   cases e;exact ⟨o,I.kIn _ o B,hd⟩
  ·have z:∃ o,s.heap.get? p=some o/\o.ExactDict:=by
    rcases B with ⟨kvs,B⟩ | ⟨kvs,B⟩
    ·obtain ⟨_,_,_,_,o,_,_,e,ex,_⟩:=I.hok p _ B;exact ⟨o,e,ex⟩
    ·obtain ⟨_,_,_,_,o,_,_,e,ex,_⟩:=I.hok p _ B;exact ⟨o,e,ex⟩
   obtain ⟨o,e,ex⟩:=z;refine ⟨⟨o,e,ex.1⟩,fun a J=>?_⟩
   cases J;exact ⟨o,e,ex.2.1⟩
  ·obtain ⟨o,_,_,_,e,ex,_⟩:=I.hok p _ B;refine ⟨⟨o,e,ex.1⟩,fun a J=>?_⟩
   cases J;exact ⟨o,e,ex.2.1⟩
 | _=>exact False.elim ty
def tBM (K:PySem.W.Frag) (T:String) (r:V->List V->Hp->VK->Prop) (to:TE) (t:TA):TE:=fun σ H Q=>to σ H fun x H1=>tyV K T x H1/\t σ H1 fun xs H2=>r x xs H2 Q
variable {o e:aH} {es:List aH} {to:TE} {t:TA} {name:Str} {apos cpos:Pos} {T id:String} {r:V->List V->Hp->VK->Prop}
theorem Qtc (pa:PlainAttrs T) (slot:Slot T name id) (Y:typeOf (.builtin id)=pure (.type "method_descriptor")) (hm:MtR X id r) (ho:PE X o to) (ha:PA X (e :: es) t)
  (J:bC o name X.env (aL o X.env)=aL o X.env:=by rfl)
  (U:((aX cpos (aN (e :: es) X.env)).all (fun x=>!x.1) && (backToKw cpos (keywordEach [] X.env)).all (fun x=>x.1.isSome)
   && decide ((e :: es).length + ([]:List Keyword).length + (if ([]:List Keyword).isEmpty then 0 else 1) < 30))=true:=by rfl)
  (O:(apos.endLine == cpos.line)=true:=by rfl) (hs:aN (e :: es) X.env=(false,aL e X.env) :: aN es X.env:=by rfl) (B:(aX cpos (aN es X.env)).any (·.1)=false:=by rfl) :
  PE X (.Call (.Attribute o name apos) (e :: es) [] cpos) (tBM X.K T r to t):=by
 intro pins s σ H Q I h;refine wpAny_Call_method_late J U O rfl (thn (ho pins s σ H _ I h) fun v s1 ⟨x,H1,Z,r1,ty,q1⟩=>?_)
 obtain ⟨h1,h2⟩:=Q7b Z r1 ty;refine ⟨T,id,pa,slot,Y,h1,h2,?_⟩;have hA:=ha cpos pins s1 σ H1 _ Z q1;rw [hs] at hA ⊢;refine Calls.callWith_builtin (by show (false || (aX cpos (aN es X.env)).any (·.1))=false; rw [B] <;> rfl) (Calls.evalArgs_plain ?_);exact thn hA fun us s2 ⟨vs,H2,I2,r2,q2⟩=>hm pins s2 σ H2 x vs v us Q I2 r1 r2 q2
end
def MtM (X:Cx) (id:String) (r:V->List V->Hp->VK->Prop):Prop:=
 ∀ (pins:List (aB × Obj)) (s:aC) (σ:St) (H:Hp) (x:V) (xs:List V) (v:aA) (us:List aA) (Q:VK),Inv X pins σ H s->RelV x v->Vals xs us->r x xs H Q ->
  aF (aI X.prog X.w) X.A (call (.builtin id) (v :: us)) (EP X pins σ Q) X.xe s
theorem Vals.one:∀ {x:V} {us:List aA},Vals [x] us->∃ u,us=[u]/\RelV x u
 | _,_,.cons r .nil=>⟨_,rfl,r⟩
theorem Vals.zero:∀ {us:List aA},Vals [] us->us=[]
 | _,.nil=>rfl
theorem Vals.rep (h:Vals xs us):∀ k:Nat,Vals (List.replicate k xs).flatten (List.replicate k us).flatten
 | 0=>.nil
 | k + 1=>by
  rw [List.replicate_succ,List.replicate_succ,List.flatten_cons,List.flatten_cons];exact Vals.append h (Vals.rep h k)
theorem yw (its:List aA):∀ (k:Nat) (B:List aA),
  List.foldl (fun x1 J=>x1 ++ J) B.toArray (List.replicate k its.toArray)=(B ++ (List.replicate k its).flatten).toArray
 | 0,B=>by simp
 | k + 1,B=>by
  have e:B.toArray ++ its.toArray=(B ++ its).toArray:=by simp
  have I:(B ++ its) ++ (List.replicate k its).flatten=B ++ (List.replicate (k + 1) its).flatten:=by
   rw [List.replicate_succ,List.flatten_cons,N4]
  rw [<- I,<- yw its k (B ++ its),<- e,List.replicate_succ,List.foldl_cons]
variable {pins:List (aB × Obj)} {σ:St} {H:Hp} {s:aC} {l b:aB} {xs ys zs:List V}
theorem Inv.lset {its its':List aA} {n:Nat} {f:Array aA->Array aA} {t':Nat} (I:Inv X pins σ H s) (J:H l=some (.lst xs))
  (e:s.heap.get? l=some { cls:=.type "list",data:=.seq its.toArray n }) (Y:f its.toArray=its'.toArray) (B:Vals ys its') (hz:ys.length<=sizeLine) :
  Inv X pins σ (upd H l (.lst ys)) { s with heap:=s.heap.update l (Obj.mapSeq f),toks:=t' }:=by
 have q:=PySem.IsL.update e f;rw [Y] at q;refine I.write (x:=l) (e:=l) (by rw [J]; exact trivial) (.inl rfl) (fun Z u U O=>(M7 s.heap (Obj.mapSeq f) (Ne.symm U)).trans O) ⟨_,q⟩ ?_
 exact ⟨hz,its',_,B,q⟩
theorem Inv.lnew {its:List aA} {t':Nat} (I:Inv X pins σ H s) (B:Vals ys its) (hz:ys.length<=sizeLine) :
  Inv X pins σ (upd H s.heap.objs.size (.lst ys)) { s with heap:=s.heap.push { cls:=.type "list",data:=.seq its.toArray },toks:=t' }:=
 I.laid (fun _ _ q=>O5 _ q) (O8 _) ⟨hz,its,0,B,E8 _ rfl⟩
theorem Inv.fresh (I:Inv X pins σ H s):H s.heap.objs.size=none:=I.hok.fresh (O8 _)
theorem Inv.lstM (I:Inv X pins σ H s) (B:H l=some (.lst xs)):xs.length<=sizeLine/\∃ (its:List aA) (n:Nat),Vals xs its/\xs.length=its.length/\s.heap.get? l=some { cls:=.type "list",data:=.seq its.toArray n }:=by
 obtain ⟨z,its,n,r,e⟩:=I.hok l _ B;exact ⟨z,its,n,r,r.length,e⟩
theorem Q6a (h:n<=sizeLine):Builtin.List.listTooLong n=false:=by
 unfold Builtin.List.listTooLong;exact bP (by omega)
def Qig:V->List V->Hp->VK->Prop:=fun x vs H Q=>∃ l xs y,x=.ref l/\vs=[y]/\H l=some (.lst xs)/\xs.length < sizeLine/\Q .non (upd H l (.lst (xs ++ [y])))
theorem Qbg:MtM X "list.append" Qig:=by
 intro pins s σ H x vs v us Q I O J h;obtain ⟨l,xs,y,rfl,rfl,B,hz,q⟩:=h;cases O;obtain ⟨u,rfl,U⟩:=J.one;obtain ⟨z,its,n,r,Y,e⟩:=I.lstM B;refine bA F.slot_list_append ⟨_,e,rfl⟩ F.entry_list_append (F.args_list_append_2 _ _) (PySem.list_append l its.toArray n u (by rw [D0]; omega)) ⟨e,?_⟩;refine ⟨.non,_,I.lset (its':=its ++ [u]) B e (by simp) (r.append (.cons U .nil)) ?_,rfl,q⟩;rw [O7,List.length_singleton];omega
def Qif:V->List V->Hp->VK->Prop:=fun x vs H Q=>∃ l b xs zs,x=.ref l/\vs=[.ref b]/\H l=some (.lst xs)/\H b=some (.lst zs)/\xs.length + zs.length<=sizeLine/\Q .non (upd H l (.lst (xs ++ zs)))
theorem Qbe:MtM X "list.extend" Qif:=by
 intro pins s σ H x vs v us Q I rx Y h;obtain ⟨l,b,xs,zs,rfl,rfl,O,hB,hz,q⟩:=h;cases rx;obtain ⟨u,rfl,ru⟩:=Y.one;cases ru;obtain ⟨z,its,n,r,hl,e⟩:=I.lstM O;obtain ⟨z2,B,U,r2,Z,e2⟩:=I.lstM hB;have hsz:its.toArray.size + B.toArray.size<=sizeLine:=by rw [D0,D0]; omega
 have J:¬ (!its.toArray.isEmpty && Builtin.List.listTooLong (its.toArray.size + B.toArray.size))=true:=by
  rw [Q6a hsz,Bool.and_false];exact E9
 refine bA F.slot_list_extend ⟨_,e,rfl⟩ F.entry_list_extend (F.args_list_extend_2 _ _)
  (AutoSeq1.list_extend_list_list_0 l its.toArray n b B.toArray U J (by rw [D0]; omega) (by omega)) ⟨e,e2,?_⟩
 refine ⟨.non,_,I.lset (its':=its ++ B) O e (by simp) (r.append r2) ?_,rfl,q⟩;rw [O7];omega
def Qnq:V->List V->Hp->VK->Prop:=fun x vs H Q=>∃ l xs,x=.ref l/\vs=[]/\H l=some (.lst xs)/\Q .non (upd H l (.lst []))
theorem Qf5:MtM X "list.clear" Qnq:=by
 intro pins s σ H x vs v us Q I U O h;obtain ⟨l,xs,rfl,rfl,J,q⟩:=h;cases U;have B:=O.zero;subst B;obtain ⟨z,its,n,r,Y,e⟩:=I.lstM J;refine bA F.slot_list_clear ⟨_,e,rfl⟩ F.entry_list_clear (F.args_list_clear_1 _) (AutoSeq1.list_clear_list_0 l its.toArray n (by rw [D0]; omega)) ⟨e,?_⟩;exact ⟨.non,_,I.lset (its':=[]) (ys:=[]) J e rfl .nil (M9 _),rfl,q⟩
def Qww:R2:=fun x y H Q=>∃ l b xs zs,x=.ref l/\y=.ref b/\H l=some (.lst xs)/\H b=some (.lst zs)/\xs.length + zs.length<=sizeLine/\∀ p,H p=none->Q (.ref p) (upd H p (.lst (xs ++ zs)))
theorem Qpv:OpR X (aV .Add) Qww:=by
 intro pins s σ H x y v u Q I Y J h;obtain ⟨l,b,xs,zs,rfl,rfl,Z,O,hz,q⟩:=h;cases Y;cases J;obtain ⟨z,its,n,r,hl,e⟩:=I.lstM Z;obtain ⟨z2,B,n2,r2,U,e2⟩:=I.lstM O;refine PySem.P.add_list e e2 ?_ (by rw [D0,D0]; omega);have ea:its.toArray ++ B.toArray=(its ++ B).toArray:=by simp
 rw [ea];exact ⟨.ref _,_,I.lnew (t':=s.toks) (r.append r2) (by rw [O7]; omega),rfl,q _ I.fresh⟩
def Qwu:R2:=fun x y H Q=>∃ l k xs,x=.ref l/\y=.int k/\H l=some (.lst xs)/\-(2 ^ 63)<=k/\k < 2 ^ 63/\xs.length * k.toNat<=sizeLine /\
 ∀ p,H p=none->Q (.ref p) (upd H p (.lst (List.replicate k.toNat xs).flatten))
theorem Q4n (xs:List α) (k:Nat):(List.replicate k xs).flatten.length=k * xs.length:=by
 induction k with
 | zero=>simp
 | succ k B=>rw [List.replicate_succ,List.flatten_cons,O7,B,Nat.succ_mul,Nat.add_comm]
theorem Qpq:OpR X (aV .Mult) Qwu:=by
 intro pins s σ H x y v u Q I rx ry h;obtain ⟨l,k,xs,rfl,rfl,hH,h1,h2,hz,q⟩:=h;cases rx;obtain ⟨t,rfl⟩:=ry;obtain ⟨z,its,n,r,hl,e⟩:=I.lstM hH;have O:its.toArray.size * k.toNat<=sizeLine:=by rw [D0,<- hl]; exact hz
 have J:¬ its.toArray.size * k.toNat > (2 ^ 63 - 1) / 8:=by
  have:(sizeLine:Nat)<=(2 ^ 63 - 1) / 8:=by decide
  omega
 have Z:¬ (!Builtin.List.listFitsIndex k)=true:=by
  rw [fitsIndex_both h1 h2];exact E9
 have B:¬ Builtin.List.listTooLong (its.toArray.size * k.toNat)=true:=by
  rw [Q6a O];exact E9
 have Y:List.foldl (fun x1 x2=>x1 ++ x2) #[] (List.replicate (if its.toArray.isEmpty=true then 0 else k.toNat) its.toArray)=(List.replicate k.toNat its).flatten.toArray:=by
  have f0:∀ m:Nat,List.foldl (fun x1 x2=>x1 ++ x2) #[] (List.replicate m its.toArray)=(List.replicate m its).flatten.toArray:=fun m=>by
   have:=yw its m [];rw [List.nil_append] at this;exact this
  rw [f0];cases its with
  | nil=>simp
  | cons a r'=>rw [bO (by simp)]
 refine wpAny_binaryOp_repeat_ref (T := "list") (U := "int") (by decide) ⟨_,e,rfl⟩ (fun s'=>typeIs_int s' k t) noFill_list_mul F.fills_int_mul F.slot_int_rmul repeat_list F.slot_int_index.lookup
  (bA F.slot_int_rmul (typeIs_int s k t) F.entry_int_rmul (F.args_int_rmul_2 _ _) (int___rmul___int_list k t l its.toArray n)
   ⟨e,rfl,⟨_,e,rfl⟩,bA F.slot_list_mul ⟨_,e,rfl⟩ F.entry_list_mul (F.args_list_mul_2 _ _) (AutoListH.list___mul___list_int_3 l its.toArray n k t Z J B) ⟨e,?_⟩⟩)
 rw [Y];exact ⟨.ref _,_,I.lnew (t':=s.toks) (r.rep k.toNat) (by rw [Q4n,Nat.mul_comm]; exact hz),rfl,q _ I.fresh⟩
end L2
namespace Att
open PySem PySem.W PySem.Calls PyProof.Rows
theorem Q00 {P:Params} {h:Heap}:∀ (ns:List Int) (vs:List aA),WellAll P h vs (ns.map WData.int)->IntsAre vs ns:=by
 intro ns
 induction ns with
 | nil=>
  intro vs w;rw [List.map_nil] at w;cases w;exact .nil
 | cons n ns B=>
  intro vs w;rw [D3] at w;cases w with
  | cons a b=>
   cases a;exact .cons _ _ (B _ b)
theorem Qb3 {l:OpenLaw} {n:Nat} (hn:l.most=some n) {P:Params} {h:Heap} {args:List WData} {I:List aA}
  (B:l.row.toRowW.claim.pre args=true) (Z:WellAll P h I args) :
  ∃ a vs ns,I=[Value.ref a]/\args=[WData.list (ns.map WData.int)]/\h.get? a=some { cls:=.type "list",data:=.seq vs.toArray }/\IntsAre vs ns/\ns.length<=n:=by
 have a1:WShape.hasAll [] args [.list .int]=true:=(pre_splitW B).1;have hc:l.pre.holds [] { args:=args }=true:=(pre_splitW B).2;obtain ⟨d,r,rfl,h1,h2⟩:=hasAllW_cons a1;obtain rfl:=hasAllW_nil h2;obtain ⟨xs,rfl,h3⟩:=hasW_list h1;obtain ⟨ns,rfl⟩:=items_int h3;have O:ns.length<=n:=by
  unfold OpenLaw.pre at hc;have Y:(WTm.not (.lt (.lit (.int (n:Int))) (.len (.arg 0)))).holds [] { args:=[.list (ns.map .int)] }=true:=by
   have Y:=(holds_andW hc).1;rw [hn] at Y;exact Y
  have U:=condW_of Y (w_not (w_lt w_lit (w_len_list (w_arg rfl))));rw [O1] at U;refine Nat.le_of_not_lt fun q=>?_
  have q':(n:Int) < ((ns.length:Nat):Int):=by omega
  first
   | (rw [bQ q'] at U; exact absurd U (by decide))
   | (simp at U; omega)
 cases Z with
 | cons w1 w2=>
  cases w2;cases w1 with
  | list ho J=>exact ⟨_,_,ns,rfl,rfl,ho,Q00 ns _ J,O⟩
theorem Qb7 (l:OpenLaw) (args:List WData):l.row.toRowW.claim.post args (.bool true) args=true:=
 postW_of (r:=l.row.toRowW) (X:=(true == true))
  (show WShape.has [] (.bool true) .bool=true by first | rfl | decide | simp [WShape.has,WShape.arms,WShape.armsAll])
  (show (WTm.eq .res (.lit (.bool true))).value [] { args:=args,res:=some (.bool true),after:=args }=some (.bool (true == true)) from w_eq_bool (w_res rfl) w_lit) rfl
theorem attach_call {l:OpenLaw} {n:Nat} {q:aM} {I:List Str} {XP:(Str->Option aA)->Heap->Prop} {YP:aJ->Heap->Prop} {d:DefRec}
  (hn:l.most=some n) (a5:d.params.defaults=[])
  (call:∀ (w:aJ) (s₀ B:aC) (mg mb:Str->Option aA) (Z:aB) (o:Obj) (pm cd O:aA) (a:aB) (vs:List aA) (ns:List Int),
   Ground q I [] XP w s₀ mg mb B.heap->YP w B.heap ->
   B.heap.get? Z=some o->o.data=.func (docDef d.name d.params d.body d.scope pm cd O)->B.heap.CodeRec cd d.name->mg d.name=some (.ref Z) ->
   B.heap.get? a=some { cls:=.type "list",data:=.seq vs.toArray }->IntsAre vs ns->ns.length<=n->B.gens=#[] ->
   codeAny (aI l.prog w) callerA (.call (.ref Z) ⟨[.ref a],[]⟩) (fun r s'=>r=.ok (.ret (.bool true))/\OldK B.heap s'.heap/\s'.os=B.os/\AllBare s'.gens) B) :
  WalkO q I XP YP l.row.toRowW d [] (fun f vs=>PySem.call f vs):=by
 intro w s₀ B mg mb G Y Z o pm cd O dV kV ho hd a4 hD a3 hg args a8 as U a7 b0 a6 a9;obtain rfl:dV=.none:=Dflts.none hD a5;obtain rfl:kV=.none:=Dflts.noKw hD;obtain ⟨a,vs,ns,rfl,rfl,a2,J,a1⟩:=Qb3 hn U a6;refine enter_call (bL (call w s₀ B mg mb Z o pm cd O a vs ns G Y ho (fd_plain hd) a4 a3 a2 J a1 hg) fun r s' hq=>?_)
 obtain ⟨rfl,h2,h3,h4⟩:=hq;exact ⟨.inl ⟨.bool true,.bool true,[],rfl,fun _=>rfl,.bool true,Qb7 l _,fun _=>⟨List.Pairwise.nil,fun _ hm=>(nomatch hm)⟩⟩,h2,h3,h4⟩
end Att
namespace L2
open PySem PySem.Spec PyProof.Rows
variable {k k1 k2:Nat} {a f it l z i1 i2 l1 l2:aB} {fd:aP} {x:Str} {ns:List Int} {st:aK} {h h':Heap} {Q:aA->aC->Prop} {t1 t2:Bool} {b:aA} {xs:List V} {ta:TA} {tp:Pos} {o:HO} {cl:List (Str × aB)}
theorem Q2v:∀ {vs:List aA} {ns:List Int},IntsAre vs ns->Vals (ns.map V.int) vs
 | _,_,.nil=>.nil
 | _,_,.cons n t h=>.cons ⟨t,rfl⟩ (Q2v h)
def Qrj (H:Hp):Prop:=∀ b,H b=none\/∃ o xs,H b=some (.frz o (.lst xs))
theorem Qfm {P:aM} {w:aJ} {K:PySem.W.Frag} {mg mb:Str->Option aA} {CX:CXT} {k:Nat} {fa a:aB} {fd:aP} {x:Str} {sp:Sp} {B:aC} {vs:List aA} {ns:List Int}
  (KX:K.In B.heap) (a1:B.heap.Ns aS mg) (J:B.heap.Ns builtinsNs mb) (a5:∀ x:Str,x≠"__name__" -> mb x=aW x) (a4:B.heap.NoLimit) (hg:B.gens=#[])
  (ha:B.heap.get? a=some { cls:=.type "list",data:=.seq vs.toArray }) (hi:IntsAre vs ns) (hl:ns.length<=sizeLine) (hr:Room k callerA)
  (F:∀ base:Heap,K.In base->base.Ns aS mg->FnOk P w K mg base CX k fa fd [x] sp) (Y:∀ (s:aC) (u:aA),BindsTo s fd ⟨[u],[]⟩ [(x,u)])
  (a6:∀ H:Hp,Qrj H->SqL K H a (ns.map V.int)->sp [.ref a] H (fun v _=>v=.bl true) fun _ _ _=>False)
  (a8:∀ H e s',CX [] H B (fun _ _ _=>False) e s'->False) :
  codeAny (aI P w) callerA (.call (.ref fa) ⟨[.ref a],[]⟩) (fun r s'=>r=.ok (.ret (.bool true))/\OldK B.heap s'.heap/\s'.os=B.os/\AllBare s'.gens) B:=by
 have rv:=Q2v hi;have a2:=hi.length;have U:∀ H:Hp,Qrj H->SqL K H a (ns.map V.int)->HOk P w H B.heap->(∀ b,H b≠none->b=a)->(H a≠none->K.lookup a=none) ->
   codeAny (aI P w) callerA (.call (.ref fa) ⟨[.ref a],[]⟩) (fun r s'=>r=.ok (.ret (.bool true))/\OldK B.heap s'.heap/\s'.os=B.os/\AllBare s'.gens) B:=by
  intro H hO hS hok hA hK;have I:∀ {b:aB} {o:Obj},B.heap.get? b=some o->H b=none->(Q4u B.heap H).get? b=some o:=fun e n=>Qg0 e n
  have a7:∀ {b:aB} {o:Obj} {es:Array DictEntry} {ep:Nat},B.heap.get? b=some o->o.data=.dict es ep->H b=none:=fun {b o es ep} e d=>by
   cases q:H b with
   | none=>rfl
   | some u=>
    have e':b=a:=hA b (by rw [q]; simp);subst e';rw [ha] at e; cases e;have d':Data.seq vs.toArray _=Data.dict es ep:=d;cases d'
  have O:∀ {b:aB} {m:Str->Option aA},B.heap.Ns b m->(Q4u B.heap H).Ns b m:=fun {b m} ⟨o,es,ep,e,d,r⟩=>⟨o,es,ep,I e (a7 e d),d,r⟩
  have Z:K.In (Q4u B.heap H):=fun b o e=>I (KX b o e) (by
   cases q:H b with
   | none=>rfl
   | some u=>
    have e':b=a:=hA b (by rw [q]; simp);subst e';rw [hK (by rw [q]; simp)] at e; cases e)
  have hM:Mod K mg (Q4u B.heap H):=⟨Z,O a1,⟨mb,O J,a5⟩,let ⟨mc,h1,h2⟩:=a4; ⟨mc,O h1,h2⟩⟩;have e0:Env0 P w K mg (Q4u B.heap H) callerA [] B H:=⟨rfl,hM,fun b o e=>Qjd e,Nat.le_of_eq (Qbw _ _),trivial,fun b J=>absurd (show b∈([]:List aB) from J) (by simp),hok,.of_eq hg⟩;refine bL ((F _ Z (O a1)).run callerA [] B H ⟨[.ref a],[]⟩ [.ref a] [.ref a] _ _ hr e0 (Y B (.ref a)) (.cons rfl .nil) (a6 H hO hS)) fun r s' h=>?_
  cases r with
  | error e=>exact (a8 H e s' h).elim
  | ok fl=>
   cases fl with
   | next=>exact False.elim h
   | brk=>exact False.elim h
   | cont=>exact False.elim h
   | ret u=>
    obtain ⟨v,H',os,bare,un,a3,r',q⟩:=h;have q':v=.bl true:=q;subst q';obtain rfl:u=Value.bool true:=r';refine ⟨rfl,OldK.of_keep fun b o e=>?_,os,bare⟩;cases q:H b with
    | none=>exact un.keep b o e q (by intro z; exact absurd (show b∈([]:List aB) from z) (by simp)) (by simp)
    | some u=>
     rcases hO b with z | ⟨ob,xs,z⟩
     ·rw [q] at z; cases z
     ·have z2:=un.frzs b ob _ z;obtain ⟨e1,_⟩:=hok b _ z;obtain ⟨e2,_⟩:=a3 b _ z2;rw [e] at e1; cases e1;exact e2
 cases hk:K.lookup a with
 | some o=>
  have e:=KX a o hk;rw [ha] at e;cases e;refine U (fun _=>none) (fun _=>.inl rfl) (.inr ⟨_,vs.toArray,_,hk,rfl,rfl,rfl,by rw [D0,a2]; exact hl,by simpa using rv⟩) (fun b u z=>by have z':(none:Option HO)=some u:=z; cases z') (fun b z=>absurd rfl z) fun z=>absurd rfl z
 | none=>
  refine U (fun b=>if b=a then some (.frz { cls:=.type "list",data:=.seq vs.toArray } (.lst (ns.map V.int))) else none) (fun b=>?_) (.inl (.inr ⟨{ cls:=.type "list",data:=.seq vs.toArray },bN rfl⟩)) (fun b u z=>?_) (fun b z=>?_) fun _=>hk
  ·by_cases J:b=a
   ·exact .inr ⟨_,_,bN J⟩
   ·exact .inl (bO J)
  ·by_cases J:b=a
   ·have z':=(bN J).symm.trans z;cases z';subst J;exact ⟨ha,by rw [O1]; exact hl,vs,_,rv,ha⟩
   ·have z':=(bO J).symm.trans z;cases z'
  ·by_cases J:b=a
   ·exact J
   ·exact absurd (bO J) z
theorem walk_of {l:PySem.W.OpenLaw} {n k:Nat} {q:aM} {I:List Str} {XP:(Str->Option aA)->Heap->Prop} {YP:aJ->Heap->Prop} {d:DefRec} {K:Params->PySem.W.Frag} {CX:aJ->CXT} {sp:aJ->Sp} {x:Str}
  (hn:l.most=some n) (a1:n<=sizeLine) (a4:d.params.defaults=[]) (hr:Room k callerA)
  (hY:∀ (w:aJ) (h:Heap),YP w h->(K w.params).In h)
  (F:∀ (w:aJ) (mg:Str->Option aA) (Z:aB) (h:Heap),(K w.params).In h->h.Ns aS mg->mg d.name=some (.ref Z) ->
   ∃ fd:aP,(∀ (s:aC) (u:aA),BindsTo s fd ⟨[u],[]⟩ [(x,u)]) /\
    ∀ base:Heap,(K w.params).In base->base.Ns aS mg->FnOk l.prog w (K w.params) mg base (CX w) k Z fd [x] (sp w))
  (a3:∀ (w:aJ) (H:Hp) (a:aB) (ns:List Int),ns.length<=n->Qrj H->SqL (K w.params) H a (ns.map V.int)->sp w [.ref a] H (fun v _=>v=.bl true) fun _ _ _=>False)
  (a5:∀ (w:aJ) (H:Hp) (s:aC) (e:aA) (s':aC),CX w [] H s (fun _ _ _=>False) e s'->False) :
  PySem.W.WalkO q I XP YP l.row.toRowW d [] (fun f vs=>PySem.call f vs):=by
 refine Att.attach_call hn a4 fun w s₀ O mg mb Z o pm cd a7 a vs ns G Y ho hd a6 a2 U J B hg=>?_
 have KX:=hY w _ Y;obtain ⟨fd,hb,hF⟩:=F w mg Z _ KX G.T.g a2;exact Qfm KX G.T.g G.T.b G.T.builtins G.T.nolimit hg U J (F9 B a1) hr hF hb (fun H hO hS=>a3 w H a ns B hO hS) fun H e s'=>a5 w H O e s'
def Yb (s:aK):Arguments:=match s with
 | .FunctionDef _ a _ _ _ _ _ _ _ _=>a
 | _=>{ posonlyargs:=[],args:=[],vararg:=none,kwonlyargs:=[],kw_defaults:=[],kwarg:=none,defaults:=[] }
def Js (s:aK):List aK:=match s with
 | .FunctionDef _ _ b _ _ _ _ _ _ _=>b
 | _=>[]
def Qa (s:aK):Scope:=match s with
 | .FunctionDef _ _ _ _ _ _ sc _ _ _=>sc
 | _=>{ kind:=.function,names:=[],isGenerator:=false,isCoroutine:=false }
abbrev E0:XK:=fun _ _ _=>False
structure Fun (K:PySem.W.Frag) (x qual:Str) (st:aK) (f:aB) (fd:aP):Prop where
 ex:∃ (oc:aA) (od:Option aB) (kV doc pm:aA) (an:Option aB) (cdv ct:aA) (osl:Array (Option aA)),
  fd=PySem.W.fnOf x qual (Yb st) (Js st) (Qa st) .none kV doc pm an cdv ct/\K.lookup f=some ⟨oc,od,.func fd,osl⟩/\PySem.W.codeIn K cdv qual=true
 kp:PySem.W.keepIn K (.ref f)=true
variable {P:aM} {K:PySem.W.Frag} {mg:Str->Option aA} {base:Heap}
section
variable {w:aJ}
theorem Fun.binds {qual:Str} {ps:List Str} (F:Fun K x qual st f fd)
  (h:∀ (kV I J:aA) (O:Option aB) (B ct:aA) (us:List aA),us.length=ps.length->bindArgs (PySem.W.fnOf x qual (Yb st) (Js st) (Qa st) .none kV I J O B ct) ⟨us,[]⟩=pure (ps.zip us)):Binds K fd ps []:=by
 obtain ⟨oc,Z,kV,I,J,O,B,ct,Y,rfl,lk,U⟩:=F.ex;exact .all (h kV I J O B ct)
theorem Qg6 {qual:Str} {oc:aA} {Y U:Option aB} {J:Array (Option aA)} {kV I O B ct:aA} (l:K.lookup f=some ⟨oc,Y,.func (PySem.W.fnOf x qual (Yb st) (Js st) (Qa st) .none kV I O U B ct),J⟩)
  (c:PySem.W.codeIn K B qual=true) (k:PySem.W.keepIn K (.ref f)=true):Fun K x qual st f (PySem.W.fnOf x qual (Yb st) (Js st) (Qa st) .none kV I O U B ct):=⟨⟨oc,Y,kV,I,O,U,B,ct,J,rfl,l,c⟩,k⟩
end
variable {X:Cx}
theorem pv (i:Nat) {pos:Pos} (J:X.N[i]?=some x:=by rfl) (I:Vis X.env.scope x:=by first | exact Or.inl rfl | exact Or.inr (Or.inl rfl) | exact Or.inr (Or.inr rfl)) (hd:(x == ("__debug__" : Str))=false:=by decide)
  (B:(x == ("__classdict__" : Str))=false:=by decide):PE X (.Name x pos) (Qs8 i):=Qeh J I hd B
def Same (H H':Hp):Prop:=∀ b o,H b=some o->H' b=some o
theorem Same.refl (H:Hp):Same H H:=fun _ _ h=>h
theorem Q8n {scope:Scope} {env:Env} (h:∀ x∈scope.names,x.2=.free->∃ c,env.cells.lookup x.1=some c) :
  ∃ cl,closureFor scope env=pure cl/\(∀ x c,cl.lookup x=some c->env.cells.lookup x=some c)/\(∀ x∈scope.names,x.2=.free->∃ c,cl.lookup x.1=some c):=by
 have key:∀ (l:List (Str × ao)) (B:List (Str × aB)),(∀ x∈l,x.2=.free->∃ c,env.cells.lookup x.1=some c)->(∀ x c,B.lookup x=some c->env.cells.lookup x=some c) ->
   ∃ cl,(forIn l B fun (x:Str × ao) (r:List (Str × aB))=>(match x with
    | (name,kind)=>if (kind == NameKind.free)=true then (do let c <- cellOf env name; pure (ForInStep.yield ((name,c) :: r))) else (do pure PUnit.unit; pure (ForInStep.yield r)):Sem (ForInStep (List (Str × aB)))))=pure cl /\
    (∀ x c,cl.lookup x=some c->env.cells.lookup x=some c)/\(∀ x∈l,x.2=.free->∃ c,cl.lookup x.1=some c)/\(∀ x c,B.lookup x=some c->∃ J,cl.lookup x=some J):=by
  intro l
  induction l with
  | nil=>intro B _ ha; exact ⟨B,rfl,ha,fun x hx=>(by simp at hx),fun x c e=>⟨c,e⟩⟩
  | cons x r ih=>
   intro B hl ha;obtain ⟨n,k⟩:=x
   by_cases hk:k=.free
   ·subst hk;obtain ⟨c,hc⟩:=hl (n,.free) O9 rfl;have a1:∀ x J,((n,c) :: B).lookup x=some J->env.cells.lookup x=some J:=fun x J e=>by
     rw [List.lookup_cons] at e
     by_cases hx:x=n
     ·subst hx; simp at e; rw [<- e]; exact hc
     ·have:(x == n)=false:=by simpa using hx
      rw [this] at e; exact ha x J e
    obtain ⟨cl,Y,Z,e3,U⟩:=ih ((n,c) :: B) (fun y I=>hl y (O4 _ I)) a1
    refine ⟨cl,?_,Z,fun y I hf=>?_,fun y J e=>?_⟩
    ·rw [List.forIn_cons];have O:cellOf env n=pure c:=by unfold cellOf; rw [hc]
     simp only [beq_self_eq_true,if_true,O];exact Y
    ·rcases D8.mp I with e | I
     ·subst e;exact U n c (by simp)
     ·exact e3 y I hf
    ·by_cases I:y=n
     ·subst I; exact U y c (by simp)
     ·have:(y == n)=false:=by simpa using I
      exact U y J (by rw [List.lookup_cons,this]; exact e)
   ·obtain ⟨cl,Y,Z,e3,U⟩:=ih B (fun y I=>hl y (O4 _ I)) ha
    refine ⟨cl,?_,Z,fun y I hf=>?_,U⟩
    ·rw [List.forIn_cons];have:(k == NameKind.free)=false:=by simpa using hk
     simp only [this,L9,if_false];exact Y
    ·rcases D8.mp I with e | I
     ·subst e; exact absurd hf hk
     ·exact e3 y I hf
 obtain ⟨cl,Y,Z,e3,_⟩:=key scope.names [] h (fun x c e=>by simp at e);refine ⟨cl,?_,Z,e3⟩;unfold closureFor;exact (congrArg (fun z=>z >>= pure) Y).trans rfl
theorem zm (f:Str->ao->ao) (x:Str):∀ l:List (Str × ao),(l.map fun y=>(y.1,f y.1 y.2)).lookup x=(l.lookup x).map (f x)
 | []=>rfl
 | (n,k) :: r=>by
  have I:=zm f x r;rw [D3,List.lookup_cons,List.lookup_cons]
  by_cases B:x=n
  ·subst B; simp
  ·have J:(x == n)=false:=by simpa using B
   rw [J]; exact I
theorem Kg {scope:Scope} {env:Env} :(relabel scope env).names.lookup x =
  (scope.names.lookup x).map fun k=>if (k == .free && env.scope.kind == .function && env.kindOf x == some .cell) then .cell else k:=by
 rw [<- zm (fun n k=>if (k == .free && env.scope.kind == .function && env.kindOf n == some .cell) then .cell else k)]
 unfold relabel;refine congrArg (List.lookup x) (F3 fun y _=>?_);obtain ⟨n,k⟩:=y;show (if (k == NameKind.free && env.scope.kind == .function && env.kindOf n == some .cell)=true then (n,NameKind.cell) else (n,k))=_
 split <;> rfl
def zz (cap:List (Option Nat)) (σ:St):St:=cap.map fun c=>c.bind fun j=>(σ[j]?).join
def HasItems (t:Bool) (h:Heap) (a:aB) (items:Array aA):Prop:=if t=true then h.IsTuple a items else h.IsList a items
def IterAt (t:Bool) (h:Heap) (it a:aB) (i:Nat):Prop:=if t=true then h.IsTupleIter it a i else h.IsListIter it a i
theorem HasItems.at {t:Bool} {B:Array aA} (x:HasItems t h a B) (k:∀ o,h.get? a=some o->h'.get? a=some o):HasItems t h' a B:=by
 cases t
 ·exact Heap.IsList.at x k
 ·obtain ⟨o,e,r⟩:=x;exact ⟨o,k o e,r⟩
theorem HasItems.there {t:Bool} {B:Array aA} (x:HasItems t h a B):∃ o,h.get? a=some o:=by
 cases t
 ·obtain ⟨o,e,_⟩:=x; exact ⟨o,e⟩
 ·obtain ⟨o,e,_⟩:=x; exact ⟨o,e⟩
theorem IterAt.at {t:Bool} {i:Nat} (x:IterAt t h it a i) (k:∀ o,h.get? it=some o->h'.get? it=some o):IterAt t h' it a i:=by
 cases t
 ·exact Heap.IsListIter.at x k
 ·obtain ⟨o,e,r⟩:=x;exact ⟨o,k o e,r⟩
theorem IterAt.there {t:Bool} {i:Nat} (x:IterAt t h it a i):∃ o,h.get? it=some o/\∀ v,o.data≠.cell v:=by
 cases t
 ·obtain ⟨o,e,_,d⟩:=x; exact ⟨o,e,fun v z=>by rw [d] at z; cases z⟩
 ·obtain ⟨o,e,_,d⟩:=x; exact ⟨o,e,fun v z=>by rw [d] at z; cases z⟩
variable {prog:aM} {A:aQ} {E:aA->aC->Prop} {s:aC}
section
variable {w:aJ}
theorem zf {i:Nat} {items} {x:aA} {Q:aA->aC->Prop} (B:s.heap.IsTupleIter it l i)
  (Y:s.heap.IsTuple l items) (Z:items[i]?=some x)
  (U:∀ h',h'.IsTupleIter it l (i + 1)->Heap.SameBut it s.heap h'->Q x { s with heap:=h' }) :
  aF (aI prog w) A (Builtin.SmallTypes.nextOf (.ref it)) Q E s:=by
 obtain ⟨o,I,hc,hd⟩:=id B;obtain ⟨ol,O,_,nl,J⟩:=Y;unfold Builtin.SmallTypes.nextOf;refine aD (wpAny_callSpecial?_slot (name:=Str.ofString "__next__") B.typeIs F.slot_tuple_iterator_next
  (ag F.slot_tuple_iterator_next B.typeIs F.entry_tuple_iterator_next ?_ (F.args_tuple_iterator_next_1 _)))
 show aF _ _ (field (.ref it) 0 >>= _) _ _ s;refine aD (aY I hd (x:=.ref l) rfl ?_);show aF _ _ (if (Value.ref l == Value.none)=true then _ else _) _ _ s;rw [bO (show ¬ ((Value.ref l == Value.none)=true) from E9)];show aF _ _ (field (.ref it) 1 >>= _) _ _ s;refine aD (aY I hd (x:=.int i 0) rfl ?_);show aF _ _ (seqItems? (.ref l) >>= _) _ _ s;refine aD (az O J ?_);simp only [Int.toNat_natCast,Z];refine aD (wpAny_setField I hd (by simp) (wpAny_pure ⟨x,rfl,wpAny_pure (U _ ?_ (Heap.SameBut.update ..))⟩));exact ⟨_,N0 _ I (Obj.isFreed_of_fields (Obj.data_mapFields hd _)),(Obj.cls_mapFields ..).trans hc,by
  rw [Obj.data_mapFields hd]; simp [ae]⟩
theorem yi {it l:aB} {i:Nat} {items} {Q:aA->aC->Prop} (U:A.handled=none)
  (B:s.heap.IsTupleIter it l i) (Y:s.heap.IsTuple l items) (Z:items[i]?=none)
  (hE:∀ h' e,Heap.ExtBut it s.heap h'->(∃ o,h'.get? e=some o/\o.cls=.type "StopIteration")->E (.ref e) { s with heap:=h' }) :
  aF (aI prog w) A (Builtin.SmallTypes.nextOf (.ref it)) Q E s:=by
 obtain ⟨o,O,hc,hd⟩:=id B;obtain ⟨ol,J,_,nl,I⟩:=Y;unfold Builtin.SmallTypes.nextOf;refine aD (wpAny_callSpecial?_slot (name:=Str.ofString "__next__") B.typeIs F.slot_tuple_iterator_next
  (ag F.slot_tuple_iterator_next B.typeIs F.entry_tuple_iterator_next ?_ (F.args_tuple_iterator_next_1 _)))
 show aF _ _ (field (.ref it) 0 >>= _) _ _ s;refine aD (aY O hd (x:=.ref l) rfl ?_);show aF _ _ (if (Value.ref l == Value.none)=true then _ else _) _ _ s;rw [bO (show ¬ ((Value.ref l == Value.none)=true) from E9)];show aF _ _ (field (.ref it) 1 >>= _) _ _ s;refine aD (aY O hd (x:=.int i 0) rfl ?_);show aF _ _ (seqItems? (.ref l) >>= _) _ _ s;refine aD (az J I ?_);simp only [Int.toNat_natCast,Z];refine aD (ah (aD (wpAny_setField O hd (by simp) ?_)));show aF _ _ (newExc (.type "StopIteration") [] >>= _) _ _ _;refine aD ?_;simp only [newExc,newTuple];refine aD (bB ?_ (by size_fits));refine aD (m:=firstArgMember _ _) (wpAny_of_eq (a:=Value.none) (by first | rfl | (simp only [firstArgMember]; rfl)) ?_);refine bB ?_ (by size_fits);simp only [raiseNew]
 refine aD (wpAny_handled ?_)
 first | rw [show A.in1.handled=none from U] | rw [U]
 refine aD (wpAny_pure (wpAny_throw ?_));exact hE _ _ (((Heap.SameBut.update ..).extBut.push _).push _) ⟨_,E8 _ rfl,rfl⟩
theorem Ub {t:Bool} {i:Nat} {B:Array aA} {x:aA} {Q:aA->aC->Prop} (I:IterAt t s.heap it l i)
  (O:HasItems t s.heap l B) (U:B[i]?=some x)
  (J:∀ h',IterAt t h' it l (i + 1)->Heap.SameBut it s.heap h'->Q x { s with heap:=h' }) :
  aF (aI prog w) A (Builtin.SmallTypes.nextOf (.ref it)) Q E s:=by
 cases t
 ·exact wpAny_nextOf_list_item I O U J
 ·exact zf I O U J
theorem Xr {t:Bool} {it l:aB} {i:Nat} {B:Array aA} {Q:aA->aC->Prop} (J:A.handled=none)
  (I:IterAt t s.heap it l i) (O:HasItems t s.heap l B) (U:B[i]?=none)
  (Y:∀ h' e,Heap.ExtBut it s.heap h'->(∃ o,h'.get? e=some o/\o.cls=.type "StopIteration")->E (.ref e) { s with heap:=h' }) :
  aF (aI prog w) A (Builtin.SmallTypes.nextOf (.ref it)) Q E s:=by
 cases t
 ·exact wpAny_nextOf_list_end J I O U Y
 ·exact yi J I O U Y
def W0 (t:Bool) (l:aB):Obj:=if t=true then { cls:=.type "tuple_iterator",data:=.fields #[.ref l,.int 0 0] } else { cls:=.type "list_iterator",data:=.fields #[.ref l,.int 0 0] }
theorem We {t:Bool} {B:Array aA} {Q:aA->aC->Prop} (J:HasItems t s.heap l B)
  (I:Q (.ref s.heap.objs.size) { s with heap:=s.heap.push (W0 t l) }):aF (aI prog w) A (pyIter (.ref l)) Q E s:=by
 cases t
 ·exact wpAny_pyIter_list J I
 ·exact bJ J I
theorem jg {t:Bool} (e:h.get? it=some (W0 t l)):IterAt t h it l 0:=by
 cases t
 ·exact ⟨_,e,rfl,rfl⟩
 ·exact ⟨_,e,rfl,rfl⟩
theorem Xx (t:Bool) (l:aB):(W0 t l).isFreed=false:=by cases t <;> rfl
theorem Qam {t1 t2:Bool} {TI TO:aB} {k1 k2:Nat} {xs ys:Array aA} {x y a b:aA} {Q:aA->aC->Prop} (D:ZipApart z TI TO i1 i2 l1 l2)
  (hz:IsZip s.heap z TI TO .none) (c8:aU s.heap TI (.ref i1) (.ref i2)) (d0:aU s.heap TO a b)
  (h1:IterAt t1 s.heap i1 l1 k1) (h2:IterAt t2 s.heap i2 l2 k2) (c9:HasItems t1 s.heap l1 xs) (d1:HasItems t2 s.heap l2 ys) (hx:xs[k1]?=some x) (hy:ys[k2]?=some y)
  (hQ:∀ h',IsZip h' z TI TO (ae s.heap.objs.size)->aU h' TO x y->IterAt t1 h' i1 l1 (k1 + 1)->IterAt t2 h' i2 l2 (k2 + 1)->aU h' s.heap.objs.size x y->h'.objs.size=s.heap.objs.size + 1 ->
   (∀ c o,c≠z->c≠TO->c≠i1->c≠i2->s.heap.get? c=some o->h'.get? c=some o)->Q (.ref s.heap.objs.size) { s with heap:=h' }) :
  aF (aI prog w) A (Builtin.«zip.__next__» ⟨[.ref z],[]⟩) (fun fin s'=>∃ v,fin=.done (.ret v)/\Q v s') E s:=by
 show aF _ _ (field (.ref z) 2 >>= _) _ _ _;refine aD (aY hz rfl (x:=.bool false) rfl ?_);show aF _ _ (field (.ref z) 3 >>= _) _ _ _;refine aD (aY hz rfl (x:=.ref TI) rfl ?_);refine aD (az c8 rfl ?_);show aF _ _ (Builtin.SmallTypes.ownedTupleIsFree (.ref z) >>= _) _ _ _;refine aD ?_;unfold Builtin.SmallTypes.ownedTupleIsFree;refine aD (aY hz rfl (x:=.none) rfl (wpAny_pure ?_));simp only [if_true];refine aD (ah ?_);refine aD (aY hz rfl (x:=.ref TO) rfl ?_);refine aD (bI hz (by simp) fun h₁ a6 I=>?_)
 replace a6:IsZip h₁ z TI TO .ellipsis:=a6;refine aD ?_;simp only [List.zipIdx_cons,List.zipIdx_nil,List.forIn_cons,List.forIn_nil];refine aD (aD (wpAny_onRaise ?_));show aF _ _ (Builtin.SmallTypes.nextOf (.ref i1) >>= _) _ _ _;refine aD (Ub (h1.at fun o e=>I.extBut _ _ D.i1z e) (c9.at fun o e=>I.extBut _ _ D.l1z e) hx fun c0 b8 O=>wpAny_pure ?_)
 have a9:aU c0 TO a b:=O.extBut _ _ D.TOi1 (I.extBut _ _ D.TOz d0);refine aD (az a9 rfl ?_);refine aD (wpAny_updateSeq_pair a9 fun c5 a2 J=>?_);replace a2:aU c5 TO x b:=a2;refine aD (wpAny_letGo (wpAny_pure ?_));refine aD (aD (wpAny_onRaise ?_));show aF _ _ (Builtin.SmallTypes.nextOf (.ref i2) >>= _) _ _ _;refine aD (Ub (h2.at fun o e=>J.extBut _ _ D.TOi2.symm (O.extBut _ _ D.i12.symm (I.extBut _ _ D.i2z e)))
  (d1.at fun o e=>J.extBut _ _ D.l2TO (O.extBut _ _ D.l2i1 (I.extBut _ _ D.l2z e))) hy fun c6 b6 Z=>wpAny_pure ?_)
 have a8:aU c6 TO x b:=Z.extBut _ _ D.TOi2 a2;refine aD (az a8 rfl ?_);refine aD (wpAny_updateSeq_pair a8 fun B U Y=>?_);replace U:aU B TO x y:=U;refine aD (wpAny_letGo (wpAny_pure (wpAny_pure ?_)));refine aD (az U rfl ?_);refine aD (wpAny_newTuple ?_);have hsz:B.objs.size=s.heap.objs.size:=by rw [Y.1,Z.1,J.1,O.1,I.1]
 have b1:IsZip B z TI TO .ellipsis:=Y.extBut _ _ D.TOz.symm (Z.extBut _ _ D.i2z.symm (J.extBut _ _ D.TOz.symm (O.extBut _ _ D.i1z.symm a6)));have b7:∀ c o,c≠z->c≠TO->c≠i1->c≠i2->s.heap.get? c=some o->B.get? c=some o:=fun c o c1 c2 c3 c4 e=>
  Y.extBut _ _ c2 (Z.extBut _ _ c4 (J.extBut _ _ c2 (O.extBut _ _ c3 (I.extBut _ _ c1 e))))
 have b3:IterAt t1 B i1 l1 (k1 + 1):=b8.at fun o e=>Y.extBut _ _ D.TOi1.symm (Z.extBut _ _ D.i12 (J.extBut _ _ D.TOi1.symm e))
 have b4:IterAt t2 B i2 l2 (k2 + 1):=b6.at fun o e=>Y.extBut _ _ D.TOi2.symm e
 have b2:z < B.objs.size:=D9 b1;show aF _ _ (Builtin.SmallTypes.ownedTupleHandOut (.ref z) (.ref B.objs.size) >>= _) _ _ _;refine aD ?_;unfold Builtin.SmallTypes.ownedTupleHandOut;have b5:IsZip (B.push { cls:=.type "tuple",data:=.seq #[x,y] }) z TI TO .ellipsis:=O5 _ b1;refine aD (bI b5 (by simp) fun c7 a4 a5=>?_)
 replace a4:IsZip c7 z TI TO (ae B.objs.size):=a4;refine bI a4 (by simp) fun a3 a1 a7=>?_
 replace a1:IsZip a3 z TI TO (ae B.objs.size):=a1;have up:∀ c o,c≠z->B.get? c=some o->a3.get? c=some o:=fun c o c1 e=>a7.extBut _ _ c1 (a5.extBut _ _ c1 (O5 _ e))
 have b0:aU a3 B.objs.size x y:=a7.extBut _ _ (Nat.ne_of_gt b2) (a5.extBut _ _ (Nat.ne_of_gt b2) (E8 _ rfl));have b9:a3.objs.size=B.objs.size + 1:=by rw [a7.1,a5.1,L7]
 rw [hsz] at a1 b0 b9;refine wpAny_pure ⟨_,rfl,?_⟩;show Q (.ref B.objs.size) _;rw [hsz];exact hQ a3 a1 (up _ _ D.TOz U) (b3.at fun o e=>up _ o D.i1z e) (b4.at fun o e=>up _ o D.i2z e) b0 b9 fun c o c1 c2 c3 c4 e=>up c o c1 (b7 c o c1 c2 c3 c4 e)
theorem Qcn {t1 t2:Bool} {TI TO:aB} {k1 k2:Nat} {xs ys:Array aA} {a b:aA} {Q:Fin->aC->Prop} (hh:A.handled=none) (D:ZipApart z TI TO i1 i2 l1 l2)
  (hz:IsZip s.heap z TI TO .none) (b3:aU s.heap TI (.ref i1) (.ref i2)) (b4:aU s.heap TO a b)
  (h1:IterAt t1 s.heap i1 l1 k1) (h2:IterAt t2 s.heap i2 l2 k2) (b0:HasItems t1 s.heap l1 xs) (b6:HasItems t2 s.heap l2 ys) (b1:xs[k1]?=none\/ys[k2]?=none)
  (hE:∀ h' e,(∀ c o,c≠z->c≠TO->c≠i1->c≠i2->s.heap.get? c=some o->h'.get? c=some o)->(∃ o,h'.get? e=some o/\o.cls=.type "StopIteration")->E (.ref e) { s with heap:=h' }) :
  aF (aI prog w) A (Builtin.«zip.__next__» ⟨[.ref z],[]⟩) Q E s:=by
 show aF _ _ (field (.ref z) 2 >>= _) _ _ _;refine aD (aY hz rfl (x:=.bool false) rfl ?_);show aF _ _ (field (.ref z) 3 >>= _) _ _ _;refine aD (aY hz rfl (x:=.ref TI) rfl ?_);refine aD (az b3 rfl ?_);show aF _ _ (Builtin.SmallTypes.ownedTupleIsFree (.ref z) >>= _) _ _ _;refine aD ?_;unfold Builtin.SmallTypes.ownedTupleIsFree;refine aD (aY hz rfl (x:=.none) rfl (wpAny_pure ?_));simp only [if_true];refine aD (ah ?_);refine aD (aY hz rfl (x:=.ref TO) rfl ?_);refine aD (bI hz (by simp) fun h₁ O B=>?_)
 replace O:IsZip h₁ z TI TO .ellipsis:=O;refine aD ?_;simp only [List.zipIdx_cons,List.zipIdx_nil,List.forIn_cons,List.forIn_nil];refine aD (aD (wpAny_onRaise ?_));show aF _ _ (Builtin.SmallTypes.nextOf (.ref i1) >>= _) _ _ _;cases hx:xs[k1]? with
 | none=>
  refine aD (Xr hh (h1.at fun o e=>B.extBut _ _ D.i1z e) (b0.at fun o e=>B.extBut _ _ D.l1z e) hx fun a2 e I he=>?_)
  obtain ⟨oe,U,a5⟩:=he;have a1:IsZip a2 z TI TO .ellipsis:=I _ _ D.i1z.symm O;have a7:e≠z:=fun x=>by subst x; rw [a1] at U; cases U; simp at a5
  refine bI a1 (by simp) fun a6 _ J=>hE a6 e (fun c o c1 _ c3 _ x=>J.extBut _ _ c1 (I _ _ c3 (B.extBut _ _ c1 x))) ⟨oe,J.extBut _ _ a7 U,a5⟩
 | some x=>
  have hy:ys[k2]?=none:=by rcases b1 with h | h; rw [hx] at h; cases h; exact h
  refine aD (Ub (h1.at fun o e=>B.extBut _ _ D.i1z e) (b0.at fun o e=>B.extBut _ _ D.l1z e) hx fun a2 b5 I=>wpAny_pure ?_)
  have Y:aU a2 TO a b:=I.extBut _ _ D.TOi1 (B.extBut _ _ D.TOz b4);refine aD (az Y rfl ?_);refine aD (wpAny_updateSeq_pair Y fun a6 b2 J=>?_);refine aD (wpAny_letGo (wpAny_pure ?_));refine aD (aD (wpAny_onRaise ?_));show aF _ _ (Builtin.SmallTypes.nextOf (.ref i2) >>= _) _ _ _;refine aD (Xr hh (h2.at fun o e=>J.extBut _ _ D.TOi2.symm (I.extBut _ _ D.i12.symm (B.extBut _ _ D.i2z e)))
   (b6.at fun o e=>J.extBut _ _ D.l2TO (I.extBut _ _ D.l2i1 (B.extBut _ _ D.l2z e))) hy fun a9 e a4 he=>?_)
  obtain ⟨oe,U,a5⟩:=he;have a3:IsZip a9 z TI TO .ellipsis:=a4 _ _ D.i2z.symm (J.extBut _ _ D.TOz.symm (I.extBut _ _ D.i1z.symm O));have a7:e≠z:=fun x=>by subst x; rw [a3] at U; cases U; simp at a5
  refine bI a3 (by simp) fun a8 _ Z=>hE a8 e (fun c o c1 c2 c3 c4 x=>Z.extBut _ _ c1 (a4 _ _ c4 (J.extBut _ _ c2 (I.extBut _ _ c3 (B.extBut _ _ c1 x))))) ⟨oe,Z.extBut _ _ a7 U,a5⟩
theorem Q1c {t1 t2:Bool} {TI TO:aB} {k1 k2:Nat} {xs ys:Array aA} {x y a b:aA} {Q:Option aA->aC->Prop} (D:ZipApart z TI TO i1 i2 l1 l2)
  (hz:IsZip s.heap z TI TO .none) (I:aU s.heap TI (.ref i1) (.ref i2)) (B:aU s.heap TO a b)
  (h1:IterAt t1 s.heap i1 l1 k1) (h2:IterAt t2 s.heap i2 l2 k2) (O:HasItems t1 s.heap l1 xs) (J:HasItems t2 s.heap l2 ys) (hx:xs[k1]?=some x) (hy:ys[k2]?=some y)
  (Z:∀ h',IsZip h' z TI TO (ae s.heap.objs.size)->aU h' TO x y->IterAt t1 h' i1 l1 (k1 + 1)->IterAt t2 h' i2 l2 (k2 + 1)->aU h' s.heap.objs.size x y->h'.objs.size=s.heap.objs.size + 1 ->
   (∀ c o,c≠z->c≠TO->c≠i1->c≠i2->s.heap.get? c=some o->h'.get? c=some o)->Q (some (.ref s.heap.objs.size)) { s with heap:=h' }) :
  aF (aI prog w) A (au (.ref z)) Q E s:=by
 have U:s.TypeIs (.ref z) "zip" := ⟨_,hz,rfl⟩;unfold au;exact aD (wpAny_attempt (wpAny_callSpecial?_slot (name:=Str.ofString "__next__") U F.slot_zip_next
  (ag F.slot_zip_next U F.entry_zip_next
   (Qam D hz I B h1 h2 O J hx hy fun h' a1 a2 a3 Y a5 a6 a7=>wpAny_pure (Z h' a1 a2 a3 Y a5 a6 a7)) (F.args_zip_next_1 _))))
theorem Q2p {t1 t2:Bool} {TI TO:aB} {k1 k2:Nat} {xs ys:Array aA} {a b:aA} {Q:Option aA->aC->Prop} (hh:A.handled=none) (D:ZipApart z TI TO i1 i2 l1 l2)
  (hz:IsZip s.heap z TI TO .none) (J:aU s.heap TI (.ref i1) (.ref i2)) (I:aU s.heap TO a b)
  (h1:IterAt t1 s.heap i1 l1 k1) (h2:IterAt t2 s.heap i2 l2 k2) (O:HasItems t1 s.heap l1 xs) (U:HasItems t2 s.heap l2 ys) (B:xs[k1]?=none\/ys[k2]?=none)
  (Z:∀ h',(∀ c o,c≠z->c≠TO->c≠i1->c≠i2->s.heap.get? c=some o->h'.get? c=some o)->Q none { s with heap:=h' }):aF (aI prog w) A (au (.ref z)) Q E s:=by
 have Y:s.TypeIs (.ref z) "zip" := ⟨_,hz,rfl⟩;unfold au;refine aD (wpAny_attempt (wpAny_callSpecial?_slot (name:=Str.ofString "__next__") Y F.slot_zip_next
  (ag F.slot_zip_next Y F.entry_zip_next (Qcn hh D hz J I h1 h2 O U B fun h' e hk he=>?_) (F.args_zip_next_1 _))))
 obtain ⟨o,ho,hc⟩:=he;refine aD (bK (T := "StopIteration") (b:=true) ⟨o,ho,hc⟩ isSubtype_stop ?_);exact wpAny_pure (Z _ hk)
end
def zH1 (t1:Bool) (h:Heap) (l1:aB):Heap:=h.push (W0 t1 l1)
def zH2 (t1 t2:Bool) (h:Heap) (l1 l2:aB):Heap:=(zH1 t1 h l1).push (W0 t2 l2)
def zH3 (t1 t2:Bool) (h:Heap) (l1 l2:aB):Heap:=(zH2 t1 t2 h l1 l2).push { cls:=.type "tuple",data:=.seq #[.ref h.objs.size,.ref (zH1 t1 h l1).objs.size] }
def zH4 (t1 t2:Bool) (h:Heap) (l1 l2:aB):Heap:=(zH3 t1 t2 h l1 l2).push { cls:=.type "tuple",data:=.seq #[.none,.none] }
def zH5 (t1 t2:Bool) (h:Heap) (l1 l2:aB):Heap:=(zH4 t1 t2 h l1 l2).push { cls:=.type "zip",data:=.fields #[.none,.bool false,.bool false,.ref (zH2 t1 t2 h l1 l2).objs.size,.ref (zH3 t1 t2 h l1 l2).objs.size] }
theorem Q1e (t1 t2:Bool) (l1 l2:aB) (xs ys:Array aA) :
  Meets (Builtin.«zip.__new__» ⟨[.type "zip",.ref l1,.ref l2],[]⟩) (fun _ R s=>HasItems t1 s.heap l1 xs/\HasItems t2 s.heap l2 ys /\
   R (.ok (.ret (.ref (zH4 t1 t2 s.heap l1 l2).objs.size))) { s with heap:=zH5 t1 t2 s.heap l1 l2 }):=
 .of_wp fun prog w A R s h=>by
  obtain ⟨U,g,d,Z,os⟩:=s; obtain ⟨O,B,h⟩:=h;have Y:=sub_zip;have I:HasItems t1 (Shared.heap ⟨U,g,d,Z,os⟩) l1 xs:=O;have J:HasItems t2 (Shared.heap ⟨U.push (W0 t1 l1),g,d,Z,os⟩) l2 ys:=B.at fun o e=>O5 _ e
  wp_walk using We I,We J
  exact ⟨_,rfl,h⟩
section
variable {w:aJ}
theorem Qc3 {xs ys:Array aA} {Q:aA->aC->Prop} (Z:HasItems t1 s.heap l1 xs) (B:HasItems t2 s.heap l2 ys)
  (h:∀ h',IsZip h' (s.heap.objs.size + 4) (s.heap.objs.size + 2) (s.heap.objs.size + 3) .none->aU h' (s.heap.objs.size + 2) (.ref s.heap.objs.size) (.ref (s.heap.objs.size + 1)) ->
   aU h' (s.heap.objs.size + 3) .none .none->IterAt t1 h' s.heap.objs.size l1 0->IterAt t2 h' (s.heap.objs.size + 1) l2 0->h'.objs.size=s.heap.objs.size + 5 ->
   (∀ c o,s.heap.get? c=some o->h'.get? c=some o)->Q (.ref (s.heap.objs.size + 4)) { s with heap:=h' }) :
  aF (aI prog w) A (call (.type "zip") [.ref l1,.ref l2]) Q E s:=by
 refine callType_new F.called_zip (by decide) (F.typeCall_zip_2 _ _) (F.newCall_zip_2 _ _) (fun obj=>F.args_object_init_3 obj _ _) F.entry_zip_new
  (Q1e t1 t2 l1 l2 xs ys) ⟨Z,B,?_⟩
 have O:(zH1 t1 s.heap l1).objs.size=s.heap.objs.size + 1:=L7 ..;have I:(zH2 t1 t2 s.heap l1 l2).objs.size=s.heap.objs.size + 2:=by unfold zH2; rw [L7,O]
 have J:(zH3 t1 t2 s.heap l1 l2).objs.size=s.heap.objs.size + 3:=by unfold zH3; rw [L7,I]
 have U:(zH4 t1 t2 s.heap l1 l2).objs.size=s.heap.objs.size + 4:=by unfold zH4; rw [L7,J]
 have z5:(zH5 t1 t2 s.heap l1 l2).objs.size=s.heap.objs.size + 5:=by unfold zH5; rw [L7,U]
 have Y:(zH5 t1 t2 s.heap l1 l2).get? (zH4 t1 t2 s.heap l1 l2).objs.size=some { cls:=.type "zip",data:=.fields #[.none,.bool false,.bool false,.ref (zH2 t1 t2 s.heap l1 l2).objs.size,.ref (zH3 t1 t2 s.heap l1 l2).objs.size] }:=E8 _ rfl;have g4:(zH5 t1 t2 s.heap l1 l2).get? (zH3 t1 t2 s.heap l1 l2).objs.size=some { cls:=.type "tuple",data:=.seq #[.none,.none] }:=O5 _ (E8 _ rfl);have g3:(zH5 t1 t2 s.heap l1 l2).get? (zH2 t1 t2 s.heap l1 l2).objs.size=some { cls:=.type "tuple",data:=.seq #[.ref s.heap.objs.size,.ref (zH1 t1 s.heap l1).objs.size] }:=O5 _ (O5 _ (E8 _ rfl));have g2:(zH5 t1 t2 s.heap l1 l2).get? (zH1 t1 s.heap l1).objs.size=some (W0 t2 l2):=O5 _ (O5 _ (O5 _ (E8 _ (Xx _ _))));have g1:(zH5 t1 t2 s.heap l1 l2).get? s.heap.objs.size=some (W0 t1 l1):=O5 _ (O5 _ (O5 _ (O5 _ (E8 _ (Xx _ _)))));show _/\_;rw [I,J,U] at Y;rw [O,I] at g3;rw [J] at g4;rw [O] at g2;rw [U];exact ⟨⟨_,Y,rfl⟩,h _ Y g3 g4 (jg g1) (jg g2) z5 fun c o x=>
  O5 _ (O5 _ (O5 _ (O5 _ (O5 _ x))))⟩
end
def SqK (K:PySem.W.Frag) (t:Bool) (H:Hp) (a:aB) (xs:List V):Prop:=if t=true then SqT K H a xs else SqL K H a xs
variable {pins:List (aB × Obj)} {σ:St} {H:Hp}
theorem Inv.seqK {t:Bool} (I:Inv X pins σ H s) (h:SqK X.K t H a xs):∃ its:List aA,Vals xs its/\HasItems t s.heap a its.toArray/\xs.length<=sizeLine:=by
 cases t
 ·obtain ⟨its,r,p,z⟩:=I.list h;exact ⟨its,r,p.isList,z⟩
 ·obtain ⟨its,r,p,z⟩:=I.tuple h;exact ⟨its,r,p,z⟩
theorem Inv.seqK_inj {t:Bool} {ys:List V} (I:Inv X pins σ H s) (h:SqK X.K t H a xs) (h':SqK X.K t H a ys):xs=ys:=by
 cases t
 ·exact I.list_inj h h'
 ·exact I.tuple_inj h h'
theorem Inv.turnedL {t':Nat} {its:List aB} (I:Inv X pins σ H s) (k:∀ b o,b∉its->s.heap.get? b=some o->h'.get? b=some o) (O:∀ b∈its,Q2b X pins H b):Inv X pins σ H { s with heap:=h',toks:=t' }:=by
 have J:∀ b u,H b=some u->b∉its:=fun b u e z=>by rw [(O b z).1] at e; cases e
 refine I.step (g':=s.gens) (d':=s.drawn) (ch:=its) (fun b hb=>?_) (fun b o _ _ B e _=>k b o B e) (fun b o _ _ B e _=>⟨o.slots,k b o B e⟩) (fun _ _ _ _ n=>n)
  (fun b o B e=>⟨o,k b o B e⟩) (fun _ _ e=>e) (fun _ _ _ e=>e) (fun b ps e=>⟨#[],by rw [e]; simp⟩) (fun m Z=>?_) (fun b u e=>?_) I.bare
 ·obtain ⟨f0,U,f2,Y,f4,f5⟩:=O b hb;exact ⟨Y,U,f4,f5⟩
 ·obtain ⟨o,es,ep,ho,r⟩:=Z;exact ⟨o,es,ep,k _ o (fun z=>(O _ z).2.1 rfl) ho,r⟩
 ·refine (I.hok b u e).stay (fun c v B q=>k c v ?_ q) (fun _ q=>q) fun _ _ q=>q
  rcases B with z | z
  ·rw [z]; exact J b u e
  ·exact J c _ z
def Itz (K:PySem.W.Frag) (t1 t2:Bool) (a b:aB):It:=
 ⟨fun i H=>∃ xs ys x y,SqK K t1 H a xs/\SqK K t2 H b ys/\xs[i]?=some x/\ys[i]?=some y,
  fun i H v H'=>∃ p x y,H p=none/\v=.ref p/\H'=upd H p (.tup [x,y])/\∀ xs ys,SqK K t1 H a xs->SqK K t2 H b ys->xs[i]?=some x/\ys[i]?=some y,
  fun i H=>∃ xs ys,SqK K t1 H a xs/\SqK K t2 H b ys/\(xs.length<=i\/ys.length<=i)⟩
def Qs4 (t1 t2:Bool) (z TI TO i1 i2 a b:aB) (i:Nat) (h:Heap):Prop:=
 IsZip h z TI TO .none/\aU h TI (.ref i1) (.ref i2)/\(∃ u v,aU h TO u v)/\IterAt t1 h i1 a i/\IterAt t2 h i2 b i
theorem Q35 {a:aA}:∀ v,({ cls:=.type "tuple",data:=.seq #[a,b] }:Obj).data≠.cell v:=fun v z=>by cases z
theorem Qcr {P:aM} {w:aJ} {K:PySem.W.Frag} {elts:List aH} {k:Nat} {pos:Pos} {t1 t2:Bool} {TI TO b:aB} (D:ZipApart z TI TO i1 i2 a b) :
  Turn P w K (.Tuple elts k pos) (Itz K t1 t2 a b) [z,TI,TO,i1,i2] z (Qs4 t1 t2 z TI TO i1 i2 a b) where
 mem:=by simp
 obj:=fun i h st c B=>by
  obtain ⟨hz,J,⟨u,v,O⟩,h1,h2⟩:=st;simp at B;rcases B with rfl | rfl | rfl | rfl | rfl
  ·exact ⟨_,hz,fun v q=>by cases q⟩
  ·exact ⟨_,J,Q35⟩
  ·exact ⟨_,O,Q35⟩
  ·exact h1.there
  ·exact h2.there
 keep:=fun i h h' st kk=>by
  obtain ⟨hz,J,⟨u,v,O⟩,h1,h2⟩:=st;exact ⟨kk z (by simp) _ hz,kk TI (by simp) _ J,⟨u,v,kk TO (by simp) _ O⟩,h1.at fun o e=>kk i1 (by simp) o e,h2.at fun o e=>kk i2 (by simp) o e⟩
 item:=by
  intro X hP hw hK B i pins s σ H E I hf st hg;subst hP hw hK;obtain ⟨xs,ys,x,y,Z,Y,hx,hy⟩:=hg;obtain ⟨hz,J,⟨u,v,O⟩,h1,h2⟩:=st;obtain ⟨its,rv,p,_⟩:=I.seqK Z;obtain ⟨b3,a9,p2,_⟩:=I.seqK Y;obtain ⟨ux,c0,c2⟩:=rv.get hx;obtain ⟨uy,c4,c3⟩:=a9.get hy;refine Q1c D hz J O h1 h2 p p2 (x:=ux) (y:=uy) (by simpa using c0) (by simpa using c4) fun h' a1 a2 a3 a4 a5 a6 a7=>⟨_,rfl,?_⟩
  refine wpAny_letOwnedTupleGo_zip (s:={ s with heap:=h' }) a1 fun a8 b1 b2=>?_
  have c1:H s.heap.objs.size=none:=I.fresh;have b9:z < s.heap.objs.size:=D9 hz;have c6:TI < s.heap.objs.size:=D9 J;have c8:TO < s.heap.objs.size:=D9 O;have c5:i1 < s.heap.objs.size:=by obtain ⟨o,e,_⟩:=h1.there; exact D9 e
  have c7:i2 < s.heap.objs.size:=by obtain ⟨o,e,_⟩:=h2.there; exact D9 e
  have I1:Inv X pins σ H { s with heap:=a8 }:=I.turnedL (t':=s.toks) (its:=[z,TO,i1,i2]) (fun c o B e=>(b2.2 c (fun q=>B (by simp [q]))).trans (a7 c o (fun q=>B (by simp [q])) (fun q=>B (by simp [q])) (fun q=>B (by simp [q])) (fun q=>B (by simp [q])) e))
   fun c B=>hf c (by simp at B ⊢; rcases B with rfl | rfl | rfl | rfl <;> simp)
  have b0:aU a8 s.heap.objs.size ux uy:=(b2.2 _ (Nat.ne_of_gt b9)).trans a5;have U:H s.heap.objs.size=none:=c1;have I2:Inv X pins σ (upd H s.heap.objs.size (.tup [x,y])) { s with heap:=a8 }:=by
   refine ⟨I1.ok,I1.os,I1.bare,?_,I1.loc,I1.cell,?_,?_,?_,?_,I1.len⟩
   ·have u0:=I1.base;have old:∀ c o,X.s₀.heap.get? c=some o->c≠s.heap.objs.size:=fun c o e=>F8 (E2 (D9 e) I.sz)
    exact ⟨u0.keep,u0.slot,fun c o e n hx=>by rw [Q7 (old c o e)]; exact u0.free c o e n hx,u0.there,
     fun c ts e=>by have:=u0.tups c ts e; rw [Q7 (Qb this U)]; exact this,
     fun c o ts e=>by have:=u0.frzs c o ts e; rw [Q7 (Qb this U)]; exact this,
     fun c ps e=>by obtain ⟨b5,q⟩:=u0.tbls c ps e; exact ⟨b5,by rw [Q7 (Qb q U)]; exact q⟩⟩
   ·rw [Q7 (F8 I.lt)]; exact I.free
   ·intro x' c e;obtain ⟨v',q⟩:=I.cell x' c e;rw [Q7 (F8 q.lt)]; exact I.freeC x' c e
   ·intro p' b4;obtain ⟨e,n,ne,nf,d⟩:=I1.pin p' b4;have e0:=(I.pin p' b4).1;exact ⟨e,by rw [Q7 (F8 (D9 e0))]; exact n,ne,nf,d⟩
   ·intro c o q
    by_cases b7:c=s.heap.objs.size
    ·subst b7;rw [Qp] at q; cases q;exact ⟨by simp only [E4,List.length_nil]; rw [sizeLine_eq]; decide,[ux,uy],.cons c2 (.cons c3 .nil),⟨_,b0,rfl,0,rfl⟩⟩
    ·rw [Q7 b7] at q;exact (I1.hok c o q).stay (fun _ _ _ r=>r) (fun c' r=>by rw [Q7 (Qb r U)]; exact r) fun c' ts r=>by rw [Q7 (Qb r U)]; exact r
  refine ⟨.ref s.heap.objs.size,_,I2,rfl,⟨s.heap.objs.size,x,y,U,rfl,rfl,fun c9 d0 q1 q2=>?_⟩,?_,fun c B=>?_⟩
  ·rw [I.seqK_inj q1 Z,I.seqK_inj q2 Y]; exact ⟨hx,hy⟩
  ·exact ⟨b1,b2.extBut _ _ D.TIz (a7 _ _ D.TIz D.TITO D.TIi1 D.TIi2 J),⟨_,_,b2.extBut _ _ D.TOz a2⟩,a3.at fun o e=>b2.extBut _ _ D.i1z e,a4.at fun o e=>b2.extBut _ _ D.i2z e⟩
  ·have:=(hf c B).1;have b8:c < s.heap.objs.size:=by simp at B; rcases B with rfl | rfl | rfl | rfl | rfl <;> assumption
   rw [Q7 (F8 b8)]; exact this
 done:=by
  intro X hP hw hK B i pins s σ H E I hf st hg;subst hP hw hK;obtain ⟨xs,ys,Z,Y,b6⟩:=hg;obtain ⟨hz,J,⟨u,v,O⟩,h1,h2⟩:=st;obtain ⟨its,rv,p,_⟩:=I.seqK Z;obtain ⟨b3,a9,p2,_⟩:=I.seqK Y;have l1:=rv.length;have l2:=a9.length;refine Q2p (I.ok.hd B) D hz J O h1 h2 p p2 (b6.elim (fun h=>.inl (by simp; omega)) fun h=>.inr (by simp; omega)) fun h' kk=>⟨rfl,?_⟩
  exact I.turnedL (t':=s.toks) (its:=[z,TO,i1,i2]) (fun c o B e=>kk c o (fun q=>B (by simp [q])) (fun q=>B (by simp [q])) (fun q=>B (by simp [q])) (fun q=>B (by simp [q])) e)
   fun c B=>hf c (by simp at B ⊢; rcases B with rfl | rfl | rfl | rfl <;> simp)
 self:=fun _ _ _ _ _ st h=>wpAny_pyIter_zip st.1 h
def Qx5 (K:PySem.W.Frag) (t1 t2:Bool) (ta:TA):TI:=fun σ H R=>ta σ H fun vs H1=>∃ a b xs ys,vs=[.ref a,.ref b]/\SqK K t1 H1 a xs/\SqK K t2 H1 b ys/\R (Itz K t1 t2 a b) H1
theorem Qh0:aW "zip" = some (.type "zip"):=by decide +kernel
theorem Qp2 (t1 t2:Bool) {a b:aH} {p pos:Pos} {elts:List aH} {k:Nat} {tp:Pos} (hg:Gl X "zip") (hm:X.mg "zip" = none) (ha:PA X [a,b] ta) (hs:aN [a,b] X.env=[(false,aL a X.env),(false,aL b X.env)]:=by rfl) (B:aN [b] X.env=[(false,aL b X.env)]:=by rfl) :
  PI X (.Tuple elts k tp) (.Call (.Name "zip" p) [a,b] [] pos) (Qx5 X.K t1 t2 ta):=by
 intro pins s σ H R I h;refine Call_ (jf I hg hm Qh0 (PyProof.Rows.callWith_type1 (thn (ha pos pins s σ H _ I h) fun us s1 ⟨vs,H1,O,r1,Y⟩=>?_) (by rw [hs,B]) (by rw [B]; rfl)))
 obtain ⟨a',b',xs,ys,e,Y,q2,q⟩:=Y;subst e;cases r1 with
 | cons r U=>
  cases U with
  | cons r' U=>
   cases U;cases r;cases r';obtain ⟨its,rv,p1,_⟩:=O.seqK Y;obtain ⟨Z,a1,p2,_⟩:=O.seqK q2;refine Qc3 p1 p2 fun h' z1 z2 z3 z4 z5 z6 z7=>?_
   refine wpAny_pyIter_zip (s:={ s1 with heap:=h' }) z1 ?_;have a3:a' < s1.heap.objs.size:=by obtain ⟨o,e⟩:=p1.there; exact D9 e
   have a2:b' < s1.heap.objs.size:=by obtain ⟨o,e⟩:=p2.there; exact D9 e
   have D:ZipApart (s1.heap.objs.size + 4) (s1.heap.objs.size + 2) (s1.heap.objs.size + 3) s1.heap.objs.size (s1.heap.objs.size + 1) a' b':=by
    constructor <;> (intro z; unfold aB at *; omega)
   refine ⟨_,[s1.heap.objs.size + 4,s1.heap.objs.size + 2,s1.heap.objs.size + 3,s1.heap.objs.size,s1.heap.objs.size + 1],_,_,H1,rfl,O.kept (t':=s1.toks) z7,Qcr (t1:=t1) (t2:=t2) D,⟨z1,z2,⟨_,_,z3⟩,z4,z5⟩,fun c hc=>?_,q⟩
   have J:s1.heap.objs.size<=c:=by simp at hc; unfold aB at *; omega
   exact O.fpOk J (O.hok.fresh J)
theorem Q3w {prog:aM} {w:aJ} (U:A.handled=none) (t:Bool) (I J:aB) (O:J≠I) (B:Array aA) :
  Walks prog w A I [I,J] [I] B.size (fun i v=>B[i]?=some v) (fun i h=>IterAt t h I J i/\HasItems t h J B):=by
 cases t
 ·exact Walks.list U I J O B
 ·exact Walks.tuple U I J O B
theorem zu {α:Type} (l:List α) (d:α) {n:Nat} (h:n < l.length):l.getD n d=l[n]:=by simp [List.getD,h]
theorem Q5z (ns:List Int):preSum (fun j=>ns.getD j 0) ns.length=ns.sum:=by
 have key:∀ (k:Nat),k<=ns.length->preSum (fun j=>ns.getD j 0) k=(ns.take k).sum:=by
  intro k
  induction k with
  | zero=>intro _; rfl
  | succ k I=>
   intro J;show preSum _ k + ns.getD k 0=_;have B:k < ns.length:=by omega
   rw [I (by omega),List.take_succ,List.sum_append,zu _ _ B,O2 B];simp
 rw [key ns.length (O8 _),List.take_length]
theorem Inv.movedNew {s':aC} (I:Inv X pins σ H s) {o:Obj} (m:Moved [s.heap.objs.size] (fun a b=>b=a) { s with heap:=s.heap.push o } s'):Inv X pins σ H s':=by
 obtain ⟨m1,O,J,B,m5⟩:=m;obtain ⟨h',g',d',t',o'⟩:=s';have U:g'=s.gens:=O;have Y:d'=s.drawn:=J;have Z:o'=s.os:=B;subst U Y Z;refine I.kept (t':=t') fun b u e=>m1 b u (fun z=>?_) (O5 _ e)
 have:b=s.heap.objs.size:=by simpa using z
 exact absurd (D9 e) (by rw [this]; exact Nat.lt_irrefl _)
theorem Kp {its:List aA} (r:Vals (ns.map V.int) its):∀ (i:Nat) (v:aA),its.toArray[i]?=some v->∃ t,v=Value.int (ns.getD i 0) t:=fun i v e=>by
 have I:its[i]?=some v:=by simpa using e
 have hi:i < its.length:=(O0.mp I).1;have J:=r.length;rw [O1] at J;have O:(ns.map V.int)[i]?=some (V.int (ns.getD i 0)):=by
  have:i < ns.length:=by omega
  simp [List.getD,this]
 obtain ⟨u,B,t,U⟩:=r.get O;rw [I] at B;cases B;exact ⟨t,U⟩
theorem Qcc {bs:List Bool} {its:List aA} (r:Vals (bs.map V.bl) its):∀ (i:Nat) (v:aA),its.toArray[i]?=some v->v=Value.bool (bs.getD i false):=fun i v e=>by
 have I:its[i]?=some v:=by simpa using e
 have hi:i < its.length:=(O0.mp I).1;have J:=r.length;rw [O1] at J;have O:(bs.map V.bl)[i]?=some (V.bl (bs.getD i false)):=by
  have:i < bs.length:=by omega
  simp [List.getD,this]
 obtain ⟨u,B,U⟩:=r.get O;rw [I] at B;cases B;exact U
theorem Vh {t:Bool} {B:Array aA} (J:HasItems t s.heap l B):l≠s.heap.objs.size /\
  (IterAt t (s.heap.push (W0 t l)) s.heap.objs.size l 0/\HasItems t (s.heap.push (W0 t l)) l B)/\∀ b∈[s.heap.objs.size,l],b < (s.heap.push (W0 t l)).objs.size:=by
 obtain ⟨o,e⟩:=J.there;have I:=D9 e;refine ⟨F8 I,⟨jg (E8 _ (Xx _ _)),J.at fun o e=>O5 _ e⟩,fun b O=>?_⟩
 rw [L7];simp at O;rcases O with rfl | rfl
 ·exact Nat.lt_succ_self _
 ·exact Nat.lt_succ_of_lt I
theorem Qgt (t:Bool) (hc:X.calm=true):Ve X (.builtin "sum") (fun xs H Q=>∃ (a:aB) (ns:List Int),xs=[.ref a]/\SqK X.K t H a (ns.map V.int)/\Q (.int ns.sum) H):=by
 intro pins s σ H xs us Q I r h;obtain ⟨a,ns,rfl,U,q⟩:=h;obtain ⟨u,rfl,r1⟩:=qr r;cases r1;obtain ⟨its,B,p,_⟩:=I.seqK U;obtain ⟨Z,O,Y⟩:=Vh p;have J:=B.length;rw [O1] at J;refine call_sum_walkAnyS (We p ⟨_,_,_,_,_,_,_,fun j=>ns.getD j 0,rfl,(Q3w (A:=X.A.in1) (I.ok.hd hc) t _ a Z its.toArray).toS,O,Y,Kp B,fun s' t' m=>?_⟩);refine ⟨.int ns.sum,H,I.movedNew m,⟨t',?_⟩,q⟩;rw [D0,<- J,Q5z]
theorem Qb5 (bs:List Bool):(List.range bs.length).all (fun i=>bs.getD i false)=bs.all id:=by
 induction bs with
 | nil=>rfl
 | cons b r B=>
  rw [E4,List.range_succ_eq_map,List.all_cons,List.all_map,List.all_cons,<- B];rfl
theorem Qgu (t:Bool) (hc:X.calm=true):Ve X (.builtin "all") (fun xs H Q=>∃ (a:aB) (bs:List Bool),xs=[.ref a]/\SqK X.K t H a (bs.map V.bl)/\Q (.bl (bs.all id)) H):=by
 intro pins s σ H xs us Q I r h;obtain ⟨a,bs,rfl,Z,q⟩:=h;obtain ⟨u,rfl,r1⟩:=qr r;cases r1;obtain ⟨its,B,p,_⟩:=I.seqK Z;obtain ⟨w1,U,w3⟩:=Vh p;have J:=B.length;rw [O1] at J;refine call_all_walkS (We p ⟨_,_,_,_,_,_,_,fun j=>bs.getD j false,rfl,(Q3w (A:=X.A.in1) (I.ok.hd hc) t _ a w1 its.toArray).toS,U,fun i v s' Q' E' Y O=>?_,fun s' m=>?_⟩)
 ·rw [Qcc B i v Y];exact aw O
 ·refine ⟨.bl (bs.all id),H,I.movedNew m,?_,q⟩;show Value.bool _=_;rw [D0,<- J,Qb5]
theorem Qc6 (t:Bool) (hc:X.calm=true):Ve X (.builtin "max") (fun xs H Q=>∃ (a:aB) (ns:List Int),xs=[.ref a]/\SqK X.K t H a (ns.map V.int)/\ns≠[]/\∀ m,m∈ns->(∀ k,k∈ns->k<=m)->Q (.int m) H):=by
 intro pins s σ H xs us Q I r h;obtain ⟨a,ns,rfl,hq,B,q⟩:=h;obtain ⟨u,rfl,r1⟩:=qr r;cases r1;obtain ⟨its,J,p,_⟩:=I.seqK hq;obtain ⟨w1,Z,w3⟩:=Vh p;have hl:=J.length;rw [O1] at hl;have U:0 < ns.length:=List.length_pos_iff.mpr B;refine call_max_walkS (We p ⟨_,_,_,_,_,_,_,_,rfl,(Q3w (A:=X.A.in1) (I.ok.hd hc) t _ a w1 its.toArray).toS,Z,w3,by rw [D0]; omega,CmpOf.ints_gt (fun j=>ns.getD j 0) (fun i v O=>Kp J i v O),fun v s' O m=>?_⟩);obtain ⟨t',rfl⟩:=Kp J _ _ O;obtain ⟨h1,h2⟩:=argBest_gt (fun j=>ns.getD j 0) (its.toArray.size - 1);have Y:argBest (fun i j=>decide (ns.getD i 0 > ns.getD j 0)) (its.toArray.size - 1) < ns.length:=by
  have e':its.toArray.size=ns.length:=by rw [D0]; omega
  rw [e'] at h1 ⊢;exact Nat.lt_of_le_of_lt h1 (by omega)
 refine ⟨.int (ns.getD (argBest (fun i j=>decide (ns.getD i 0 > ns.getD j 0)) (its.toArray.size - 1)) 0),H,I.movedNew m,⟨t',rfl⟩,q _ ?_ fun k hk=>?_⟩
 ·rw [zu _ _ Y];exact F7 Y
 ·obtain ⟨j,hj,rfl⟩:=List.mem_iff_getElem.mp hk;have:=h2 j (by rw [D0]; omega);rw [zu _ _ hj] at this;exact this
theorem Qc4 (t:Bool) (hc:X.calm=true):Ve X (.builtin "min") (fun xs H Q=>∃ (a:aB) (ns:List Int),xs=[.ref a]/\SqK X.K t H a (ns.map V.int)/\ns≠[]/\∀ m,m∈ns->(∀ k,k∈ns->m<=k)->Q (.int m) H):=by
 intro pins s σ H xs us Q I r h;obtain ⟨a,ns,rfl,hq,B,q⟩:=h;obtain ⟨u,rfl,r1⟩:=qr r;cases r1;obtain ⟨its,J,p,_⟩:=I.seqK hq;obtain ⟨w1,Z,w3⟩:=Vh p;have hl:=J.length;rw [O1] at hl;have U:0 < ns.length:=List.length_pos_iff.mpr B;refine call_min_walkS (We p ⟨_,_,_,_,_,_,_,_,rfl,(Q3w (A:=X.A.in1) (I.ok.hd hc) t _ a w1 its.toArray).toS,Z,w3,by rw [D0]; omega,CmpOf.ints_lt (fun j=>ns.getD j 0) (fun i v O=>Kp J i v O),fun v s' O m=>?_⟩);obtain ⟨t',rfl⟩:=Kp J _ _ O;obtain ⟨h1,h2⟩:=argBest_lt (fun j=>ns.getD j 0) (its.toArray.size - 1);have Y:argBest (fun i j=>decide (ns.getD i 0 < ns.getD j 0)) (its.toArray.size - 1) < ns.length:=by
  have e':its.toArray.size=ns.length:=by rw [D0]; omega
  rw [e'] at h1 ⊢;exact Nat.lt_of_le_of_lt h1 (by omega)
 refine ⟨.int (ns.getD (argBest (fun i j=>decide (ns.getD i 0 < ns.getD j 0)) (its.toArray.size - 1)) 0),H,I.movedNew m,⟨t',rfl⟩,q _ ?_ fun k hk=>?_⟩
 ·rw [zu _ _ Y];exact F7 Y
 ·obtain ⟨j,hj,rfl⟩:=List.mem_iff_getElem.mp hk;have:=h2 j (by rw [D0]; omega);rw [zu _ _ hj] at this;exact this
theorem Qr2 {prog:aM} {w:aJ} (Z:A.handled=none) (t:Bool) (it l:aB) (O:l≠it) (B:Array aA) :
  Draws prog w A it [it,l] B.size (fun i v=>B[i]?=some v) (fun i h=>IterAt t h it l i/\HasItems t h l B) where
 live:=fun _ _ st=>let ⟨o,e,_⟩:=st.1.there; ⟨o,e⟩
 frame:=fun _ _ _ st U=>⟨st.1.at fun o e=>U it (by simp) o e,st.2.at fun o e=>U l (by simp) o e⟩
 item:=fun i s Q E hi st Y=>by
  refine Ub st.1 st.2 (x:=B[i]) (by simp [hi]) fun h' I J=>?_
  exact Y _ h' s.toks (by simp [hi]) ⟨I,st.2.at fun o e=>J.extBut _ _ O e⟩ J
 done:=fun s Q E st hE=>Xr Z st.1 st.2 (by simp) hE
theorem Q6g (l:aB) (B:Array aA) (n:Nat) (J:Option aB) (sl:Array (Option aA)) :
  Meets (Builtin.«enumerate.__new__» ⟨[.type "enumerate",.ref l],[]⟩) (fun _ R s=>s.heap.get? l=some { cls:=.type "tuple",dict:=J,data:=.seq B n,slots:=sl } /\
   R (.ok (.ret (.ref (s.heap.push { cls:=.type "tuple_iterator",data:=.fields #[.ref l,.int 0 0] }).objs.size)))
    { s with heap:=(s.heap.push { cls:=.type "tuple_iterator",data:=.fields #[.ref l,.int 0 0] }).push { cls:=.type "enumerate",data:=.fields #[.none,.bool false,.ref s.heap.objs.size,ae 0,.none,.none] } }):=
 .of_wp fun prog w A R s h=>by
  obtain ⟨Y,g,d,Z,os⟩:=s; obtain ⟨I,h⟩:=h;have U:=sub_enumerate;have O:Heap.IsTuple (Shared.heap ⟨Y,g,d,Z,os⟩) l B:=⟨_,I,rfl,n,rfl⟩
  wp_walk using AutoSeq1.wpAny_loadPart' I
  refine wpAny_stack_any fun st=>wpAny_pure ?_
  split
  ·rename_i c _ _ _ _ _;cases (c == Value.type "enumerate")
   ·wp_walk using AutoSeq1.wpAny_loadPart' I,bJ O
    exact ⟨_,rfl,h⟩
   ·wp_walk using AutoSeq1.wpAny_loadPart' I,bJ O
    exact ⟨_,rfl,h⟩
  ·wp_walk using AutoSeq1.wpAny_loadPart' I,bJ O
   exact ⟨_,rfl,h⟩
section
variable {w:aJ}
theorem Q8p {B:Array aA} {Q:aA->aC->Prop} (O:s.heap.IsTuple l B)
  (h:∀ h',IsEnum h' (s.heap.objs.size + 1) s.heap.objs.size 0 .none->h'.IsTupleIter s.heap.objs.size l 0->h'.objs.size=s.heap.objs.size + 2 ->
   (∀ b o,s.heap.get? b=some o->h'.get? b=some o)->Q (.ref (s.heap.objs.size + 1)) { s with heap:=h' }) :
  aF (aI prog w) A (call (.type "enumerate") [.ref l]) Q E s:=by
 obtain ⟨⟨c,I,U,Y⟩,hl,hc,n,hd⟩:=O;replace hc:c=.type "tuple" := hc;replace hd:U=.seq B n:=hd;subst hc hd;refine callType_new F.called_enumerate (by decide) (F.typeCall_enumerate_1 _) (F.newCall_enumerate_1 _) (fun obj=>F.args_object_init_2 obj _) F.entry_enumerate_new
  (Q6g l B n I Y) ⟨hl,?_⟩
 have hz:(s.heap.push { cls:=.type "tuple_iterator",data:=.fields #[.ref l,.int 0 0] }).objs.size=s.heap.objs.size + 1:=L7 ..;show _/\_;rw [hz];have J:IsEnum ((s.heap.push { cls:=.type "tuple_iterator",data:=.fields #[.ref l,.int 0 0] }).push
   { cls:=.type "enumerate",data:=.fields #[.none,.bool false,.ref s.heap.objs.size,ae 0,.none,.none] }) (s.heap.objs.size + 1) s.heap.objs.size 0 .none:=by
  have:=E8 (s.heap.push { cls:=.type "tuple_iterator",data:=.fields #[.ref l,.int 0 0] })
   (o:={ cls:=.type "enumerate",data:=.fields #[.none,.bool false,.ref s.heap.objs.size,ae 0,.none,.none] }) rfl
  rw [hz] at this; exact this
 refine ⟨⟨_,J,rfl⟩,h _ J ⟨_,O5 _ (E8 _ rfl),rfl,rfl⟩ (by rw [L7,hz]) fun b o x=>O5 _ (O5 _ x)⟩
theorem Q8q {t:Bool} {B:Array aA} {Q:aA->aC->Prop} (I:HasItems t s.heap l B)
  (h:∀ h',IsEnum h' (s.heap.objs.size + 1) s.heap.objs.size 0 .none->IterAt t h' s.heap.objs.size l 0->h'.objs.size=s.heap.objs.size + 2 ->
   (∀ b o,s.heap.get? b=some o->h'.get? b=some o)->Q (.ref (s.heap.objs.size + 1)) { s with heap:=h' }) :
  aF (aI prog w) A (call (.type "enumerate") [.ref l]) Q E s:=by
 cases t
 ·exact call_enumerate_list I h
 ·exact Q8p I h
end
def Ite (K:PySem.W.Frag) (t:Bool) (a:aB):It:=
 ⟨fun i H=>∃ xs x,SqK K t H a xs/\xs[i]?=some x,
  fun i H v H'=>∃ p x,H p=none/\v=.ref p/\H'=upd H p (.tup [.int i,x])/\∀ xs,SqK K t H a xs->xs[i]?=some x,
  fun i H=>∃ xs,SqK K t H a xs/\xs.length<=i⟩
theorem Inv.tracks {s1:aC} {p:aB} {its:List aA} (I:Inv X pins σ H s) (B:Inv X pins σ H s1) (hp:s.heap.objs.size<=p) (O:H p=none) (rv:Vals xs its) (hz:xs.length<=sizeLine)
  (ht:IsTup s1.heap p its.toArray):Inv X pins σ (upd H p (.tup xs)) s1:=by
 refine ⟨B.ok,B.os,B.bare,?_,B.loc,B.cell,?_,?_,?_,?_,B.len⟩
 ·have J:=B.base;have old:∀ c o,X.s₀.heap.get? c=some o->c≠p:=fun c o e=>F8 (E2 (D9 e) (F9 I.sz hp))
  exact ⟨J.keep,J.slot,fun c o e n hx=>by rw [Q7 (old c o e)]; exact J.free c o e n hx,J.there,
   fun c ts e=>by have:=J.tups c ts e; rw [Q7 (Qb this O)]; exact this,
   fun c o ts e=>by have:=J.frzs c o ts e; rw [Q7 (Qb this O)]; exact this,
   fun c ps e=>by obtain ⟨Y,q⟩:=J.tbls c ps e; exact ⟨Y,by rw [Q7 (Qb q O)]; exact q⟩⟩
 ·rw [Q7 (F8 (E2 I.lt hp))]; exact I.free
 ·intro x' c e;obtain ⟨v',q⟩:=I.cell x' c e;rw [Q7 (F8 (E2 q.lt hp))]; exact I.freeC x' c e
 ·intro p' U;obtain ⟨e,n,ne,nf,d⟩:=B.pin p' U;have e0:=(I.pin p' U).1;exact ⟨e,by rw [Q7 (F8 (E2 (D9 e0) hp))]; exact n,ne,nf,d⟩
 ·intro c o q
  by_cases Z:c=p
  ·subst Z;rw [Qp] at q; cases q;exact ⟨hz,its,rv,ht⟩
  ·rw [Q7 Z] at q;exact (B.hok c o q).stay (fun _ _ _ r=>r) (fun c' r=>by rw [Q7 (Qb r O)]; exact r) fun c' ts r=>by rw [Q7 (Qb r O)]; exact r
def Qr0 (t:Bool) (e it a:aB) (i:Nat) (h:Heap):Prop:=(∃ old,IsEnum h e it i old)/\IterAt t h it a i
theorem Qar {P:aM} {w:aJ} {K:PySem.W.Frag} {elts:List aH} {k:Nat} {pos:Pos} {t:Bool} {e:aB} (a1:e≠it) (a9:a≠e) (a8:a≠it) :
  Turn P w K (.Tuple elts k pos) (Ite K t a) [e,it] e (Qr0 t e it a) where
 mem:=by simp
 obj:=fun i h st c hc=>by
  obtain ⟨⟨old,O⟩,h1⟩:=st;simp at hc;rcases hc with rfl | rfl
  ·exact ⟨_,O,fun v q=>by cases q⟩
  ·exact h1.there
 keep:=fun i h h' st kk=>by
  obtain ⟨⟨old,O⟩,h1⟩:=st;exact ⟨⟨old,kk e (by simp) _ O⟩,h1.at fun o q=>kk it (by simp) o q⟩
 item:=by
  intro X hP hw hK hc i pins s σ H E I hf st hg;subst hP hw hK;obtain ⟨xs,x,Y,hx⟩:=hg;obtain ⟨⟨old,O⟩,h1⟩:=st;obtain ⟨its,rv,p,_⟩:=I.seqK Y;obtain ⟨ux,a5,b2⟩:=rv.get hx;have b1:i < its.toArray.size:=by rw [D0]; exact (O0.mp a5).1
  refine wpAny_pyNext_enum_itemD (Qr2 (A:=X.A.in1) (I.ok.hd hc) t it a a8 its.toArray) O ⟨h1,p⟩ b1 a1 (by simp; exact ⟨a1,fun z=>a9 z.symm⟩) fun x' h' tk a2 ho a7 hT hsz hk=>⟨_,rfl,?_⟩
  have:x'=ux:=by
   have e1:its[i]?=some x':=by simpa using a2
   rw [a5] at e1; exact (Option.some.inj e1).symm
  subst this;refine wpAny_letOwnedTupleGo_enum (s:={ s with heap:=h',toks:=tk + 1 }) ho fun a4 Z J=>?_
  have elt:e < s.heap.objs.size:=D9 O;have b5:it < s.heap.objs.size:=by obtain ⟨o,q,_⟩:=h1.there; exact D9 q
  have a6:H s.heap.objs.size=none:=I.fresh;have I1:Inv X pins σ H { s with heap:=a4,toks:=tk + 1 }:=I.turnedL (its:=[e,it]) (fun c o B q=>(J.2 c (fun z=>B (by simp [z]))).trans (hk c o (fun z=>B (by simp [z])) (fun z=>B (by simp [z])) q)) fun c B=>hf c B
  have a3:a4.get? s.heap.objs.size=some { cls:=.type "tuple",data:=.seq #[.int i tk,x'] }:=(J.2 _ (Nat.ne_of_gt elt)).trans hT;have I2:=I.tracks (xs:=[.int i,x]) (its:=[.int i tk,x']) I1 (O8 _) a6 (.cons ⟨tk,rfl⟩ (.cons b2 .nil)) (by simp only [E4,List.length_nil]; rw [sizeLine_eq]; decide) ⟨_,a3,rfl,0,rfl⟩;refine ⟨.ref s.heap.objs.size,_,I2,rfl,⟨s.heap.objs.size,x,a6,rfl,rfl,fun b4 q1=>?_⟩,?_,fun c B=>?_⟩
  ·rw [I.seqK_inj q1 Y]; exact hx
  ·exact ⟨⟨x',by simpa using Z⟩,a7.1.at fun o q=>J.extBut _ _ (Ne.symm a1) q⟩
  ·have:=(hf c B).1;have b0:c < s.heap.objs.size:=by simp at B; rcases B with rfl | rfl <;> assumption
   rw [Q7 (F8 b0)]; exact this
 done:=by
  intro X hP hw hK hc i pins s σ H E I hf st hg;subst hP hw hK;obtain ⟨xs,Y,b3⟩:=hg;obtain ⟨⟨old,O⟩,h1⟩:=st;obtain ⟨its,rv,p,_⟩:=I.seqK Y;have hl:=rv.length;have hT:s.TypeIs (.ref e) "enumerate" := ⟨_,O,rfl⟩;unfold au;refine aD (wpAny_attempt (wpAny_callSpecial?_slot (name:=Str.ofString "__next__") hT F.slot_enumerate_next
   (ag F.slot_enumerate_next hT F.entry_enumerate_next ?_ (F.args_enumerate_next_1 _))))
  show aF _ _ (field (.ref e) 2 >>= _) _ _ _;refine aD (aY O rfl (x:=.ref it) rfl ?_);refine aD (Xr (I.ok.hd hc) h1 p (by simp; omega) fun h' x Z a2=>?_)
  obtain ⟨o,ho,B⟩:=a2;refine aD (bK (T := "StopIteration") (b:=true) ⟨o,ho,B⟩ isSubtype_stop ?_);exact wpAny_pure ⟨rfl,I.turnedL (t':=s.toks) (its:=[it]) (fun c o U q=>Z c o (fun z=>U (by simp [z])) q) fun c U=>hf c (by simp at U; simp [U])⟩
 self:=fun _ _ _ _ _ st h=>by
  obtain ⟨⟨old,O⟩,_⟩:=st;exact wpAny_pyIter_enum O h
def Quf (K:PySem.W.Frag) (t:Bool) (ta:TA):TI:=fun σ H R=>ta σ H fun vs H1=>∃ a xs,vs=[.ref a]/\SqK K t H1 a xs/\R (Ite K t a) H1
theorem Q26:aW "enumerate" = some (.type "enumerate"):=by decide +kernel
theorem Qiz (t:Bool) {a:aH} {p pos:Pos} {elts:List aH} {k:Nat} {tp:Pos} (hg:Gl X "enumerate") (hm:X.mg "enumerate" = none) (ha:PA X [a] ta) (hs:aN [a] X.env=[(false,aL a X.env)]:=by rfl) :
  PI X (.Tuple elts k tp) (.Call (.Name "enumerate" p) [a] [] pos) (Quf X.K t ta):=by
 intro pins s σ H R I h;refine Call_ (jf I hg hm Q26 (PyProof.Rows.callWith_type1 (thn (ha pos pins s σ H _ I h) fun us s1 ⟨vs,H1,O,r1,U⟩=>?_) hs rfl))
 obtain ⟨a',xs,e,U,q⟩:=U;subst e;obtain ⟨u,rfl,r⟩:=qr r1;cases r;obtain ⟨its,rv,Z,_⟩:=O.seqK U;refine Q8q Z fun h' Y z2 z3 z4=>?_
 refine wpAny_pyIter_enum (s:={ s1 with heap:=h' }) Y ?_;have J:a' < s1.heap.objs.size:=by obtain ⟨o,e⟩:=Z.there; exact D9 e
 refine ⟨_,[s1.heap.objs.size + 1,s1.heap.objs.size],_,_,H1,rfl,O.kept (t':=s1.toks) z4,Qar (t:=t) (Nat.ne_of_gt (Nat.lt_succ_self _)) (F8 (Nat.lt_succ_of_lt J)) (F8 J),⟨⟨_,Y⟩,z2⟩,fun c hc=>?_,q⟩
 have B:s1.heap.objs.size<=c:=by simp at hc; unfold aB at *; omega
 exact O.fpOk B (O.hok.fresh B)
theorem Q5q (h:H a=none):Same H (upd H a o):=fun b u e=>by rw [Q7 (Qb e h)]; exact e
variable {te:TE} {H1:Hp} {Q:VK}
section
variable {cap:List (Option Nat)}
abbrev g2 (K:PySem.W.Frag):TG:=Qun K 2 (Qg4 (Q6u 0) (Qg4 (Q6u 1) Qup))
end
def Qv1:V->Option aA
 | .ty n=>some (.type n)
 | .ref a=>some (.ref a)
 | _=>none
theorem Qgq {c:V} {B u:aA} (e:Qv1 c=some B) (r:RelV c u):u=B:=by
 cases c with
 | ty n=>cases e; exact r
 | ref a=>cases e; exact r
 | _=>cases e
theorem Q75:Ve X (.builtin "isinstance") (fun xs H Q=>∃ x c B t b,xs=[x,c]/\Qv1 c=some B/\TyOf X.K H x t/\PySem.W.kitOne X.K t B=some b/\Q (.bl b) H):=by
 intro pins s σ H xs us Q I r h;obtain ⟨x,c,B,t,b,rfl,Y,ty,e,q⟩:=h;obtain ⟨u,Z,rfl,J,U⟩:=Qcp r;rw [Qgq Y U];exact Qbs I J ty e fun O=>⟨.bl b,H,I.tok O,rfl,q⟩
theorem Q02:aW "isinstance" = some (.builtin "isinstance"):=by decide +kernel
theorem Qh1:aW "sum" = some (.builtin "sum"):=by decide +kernel
theorem Qh5:aW "all" = some (.builtin "all"):=by decide +kernel
theorem Qh3:aW "max" = some (.builtin "max"):=by decide +kernel
theorem Qh2:aW "min" = some (.builtin "min"):=by decide +kernel
theorem Q8r:aW "tuple" = some (.type "tuple"):=by decide +kernel
theorem Q3m:aW "list" = some (.type "list"):=by decide +kernel
theorem Qh4:aW "int" = some (.type "int"):=by decide +kernel
theorem Qcb:aW "bool" = some (.type "bool"):=by decide +kernel
theorem ObjOk.there {w:aJ} (x:ObjOk P w H h a o):∃ u,h.get? a=some u:=by
 cases o with
 | lst xs=>obtain ⟨_,_,_,_,e⟩:=x; exact ⟨_,e⟩
 | tup xs=>obtain ⟨_,_,_,o,e,_⟩:=x; exact ⟨o,e⟩
 | dK kvs=>obtain ⟨_,_,_,_,o,_,_,e,_⟩:=x; exact ⟨o,e⟩
 | dT kvs=>obtain ⟨_,_,_,_,o,_,_,e,_⟩:=x; exact ⟨o,e⟩
 | set S n=>obtain ⟨o,_,_,_,e,_⟩:=x; exact ⟨o,e⟩
 | ins C dx fs=>obtain ⟨_,_,_,e,_⟩:=x; exact ⟨_,e⟩
 | own y=>exact x
 | xd fs=>obtain ⟨_,⟨o,_,_,e,_⟩,_⟩:=x; exact ⟨o,e⟩
 | rng lo hi=>obtain ⟨_,_,_,e⟩:=x; exact ⟨_,e⟩
 | frz ob u=>obtain ⟨e,_⟩:=x; exact ⟨_,e⟩
 | tbl ps=>exact ⟨_,x⟩
 | met f y=>exact ⟨_,x⟩
 | ext B=>exact x.2.1
theorem HOk.none_of {w:aJ} (x:HOk P w H h) (e:h.get? a=none):H a=none:=by
 cases q:H a with
 | none=>rfl
 | some o=>
  obtain ⟨u,z⟩:=(x a o q).there;rw [e] at z;cases z
structure Fly (P:aM) (w:aJ) (outer:List Env) (H H':Hp) (s s':aC) (a:aB) (cls a0:aA) (B:Heap):Prop where
 os:s'.os=s.os
 bare:AllBare s'.gens
 fl:Heap.FlyingW B outer a cls a0 s'.heap
 hokB:HOk P w H' B
 keep:∀ b o,s.heap.get? b=some o->H b=none->b∉frs outer->B.get? b=some o
 there:∀ b o,s.heap.get? b=some o->b∉frs outer->∃ o',B.get? b=some o'
 slot:∀ b o,s.heap.get? b=some o->b∈frs outer->∃ sl,s'.heap.get? b=some { o with slots:=sl }
 free:∀ b o,s.heap.get? b=some o->H b=none->H' b=none
 tups:∀ b xs,H b=some (.tup xs)->H' b=some (.tup xs)
 frzs:∀ b o u,H b=some (.frz o u)->H' b=some (.frz o u)
 tbls:∀ b ps,H b=some (.tbl ps)->∃ more,H' b=some (.tbl (ps ++ more))
@[inline,reducible]def Qh6:List aA:=[.type "ValueError",.type "Exception",.type "BaseException",.type "object"]
theorem Qj7 {C:aB} {I:List aA} {B:String} (X:K.In h) (m:mg x=some (.ref C)) (q:PySem.W.excIn K C I B=true):OwnCls x C I B mg h:=by
 refine ⟨m,?_⟩;unfold PySem.W.excIn at q
 split at q
 ·rename_i dd cd U Y
  split at q
  ·rename_i C' bm k0 k1 k2 k3 n k5 O hs;simp only [L8,beq_iff_eq,Bool.not_eq_true'] at q;obtain ⟨⟨⟨⟨⟨rfl,rfl⟩,hdel⟩,ht⟩,hok⟩,hni⟩:=q;obtain ⟨nm,bs,a1,ns,qn,hd,sn,sub,ab,col,Z⟩:=cd;dsimp only at O hdel hok hni;subst O hdel;have J:U=#[k0,k1,k2,k3,some (.builtin n),k5]:=by
    obtain ⟨l⟩:=U;simp only at hs;rw [hs]
   subst J;exact ⟨bm,ns,nm,qn,bs,hd,sn,sub,ab,col,dd,k0,k1,k2,k3,k5,_,X _ _ Y,.of_isNs (PySem.W.isNs_of_in X hok),PySem.W.nsMap_none_of_in X hok hni,PySem.W.tail_of_in X ht⟩
  ·cases q
 ·cases q
def Qmp (C:aB) (E:XK) (t:TA):TS:=fun _ σ H=>t σ H fun vs H1=>vs.length<=sizeLine/\E (.ref C) none H1
theorem Q0p (l:aB) (B:Array aA) (n:Nat) (dd:Option aB) (J:Array (Option aA)) (t:Tok) :
  Meets (Builtin.«tuple.__mul__» ⟨[.ref l,.int 1 t],[]⟩) (fun _ R s=>s.heap.get? l=some { cls:=.type "tuple",dict:=dd,data:=.seq B n,slots:=J }/\R (.ok (.ret (.ref l))) s):=
 .of_wp fun prog w A R s h=>by
  obtain ⟨O,g,d,U,os⟩:=s; obtain ⟨I,h⟩:=h
  wp_walk using wpAny_loadPart' I
  exact ⟨_,rfl,h⟩
theorem Q0q (l:aB) (B:Array aA) (n:Nat) (dd:Option aB) (Z:Array (Option aA)) (x:Int) (t:Tok) (h1:¬ (decide (x < -(2 ^ 63)) || decide (x>=2 ^ 63))=true) (h2:¬ (B.isEmpty || x == 1)=true) (h3:¬ (decide (x<=0) || B.isEmpty)=true) (Y:¬ (B.size:Int) * x > (2 ^ 63 - 1) / 8) (O:¬ Builtin.Tuple.tupleTooMany ((B.size:Int) * x)=true)
  (U:((List.replicate x.toNat B).foldl (fun x1 J=>x1 ++ J) #[]).size<=sizeLine) :
  Meets (Builtin.«tuple.__mul__» ⟨[.ref l,.int x t],[]⟩) (fun _ R s=>s.heap.get? l=some { cls:=.type "tuple",dict:=dd,data:=.seq B n,slots:=Z } /\
   R (.ok (.ret (Value.ref s.heap.objs.size))) { s with heap:=s.heap.push { cls:=Value.type "tuple",data:=Data.seq ((List.replicate x.toNat B).foldl (fun x1 J=>x1 ++ J) #[]) } }):=
 .of_wp fun prog w A R s h=>by
  obtain ⟨hp,g,d,tk,os⟩:=s; obtain ⟨I,h⟩:=h
  wp_walk using wpAny_loadPart' I
  refine wpAny_ite_false (bP h1) ?_
  wp_walk using wpAny_loadPart' I
  refine wpAny_ite_false (bP Y) ?_
  wp_walk using wpAny_loadPart' I
  all_goals first | exact ⟨_,rfl,h⟩ | (refine wpAny_ite_false (bP O) ?_; wp_walk) | skip
  all_goals first | exact ⟨_,rfl,h⟩ | (refine wpAny_ite_false (bP (Nat.not_lt.mpr U)) ?_; wp_walk; exact ⟨_,rfl,h⟩)
theorem Q1s (a:Int) (t:Tok) (l:aB) (B:Array aA) (n:Nat) (dd:Option aB) (J:Array (Option aA)) :
  Meets (Builtin.«int.__rmul__» ⟨[.int a t,.ref l],[]⟩) (fun _ R s=>s.heap.get? l=some { cls:=.type "tuple",dict:=dd,data:=.seq B n,slots:=J }/\R (.ok (.ret Value.notImplemented)) s):=
 .of_wp fun prog w A R s h=>by obtain ⟨O,g,d,U,os⟩:=s; obtain ⟨I,h⟩:=h; wp_walk using wpAny_loadPart' I; exact ⟨_,rfl,h⟩
theorem yh:fillsNumberSlot (.type "tuple") "mul" = pure false:=
 PySem.fillsNumberSlot_seq (id := "tuple.__mul__") (r:=some (.builtin "tuple.__rmul__")) F.slot_tuple_mul.lookup (by decide +kernel) F.slot_tuple_rmul.lookup (by decide +kernel)
theorem Q48:seqRepeat? (.type "tuple")=pure (some (.builtin "tuple.__mul__")):=by
 unfold seqRepeat?;rw [PySem.seqSlot_of (T := "tuple") (name := "__mul__") (id := "tuple.__mul__") F.slot_tuple_mul.lookup (by decide +kernel),PySem.seqSlot_of (T := "tuple") (name := "__rmul__") (id := "tuple.__rmul__") F.slot_tuple_rmul.lookup (by decide +kernel)];rfl
def Qsz (K:PySem.W.Frag):R2:=fun x y H Q=>∃ a k xs,x=.ref a/\y=.int k/\SqT K H a xs/\xs≠[]/\1<=k/\xs.length * k.toNat<=4096 /\
 (k=1->Q (.ref a) H)/\(k≠1->∀ p,H p=none->Q (.ref p) (upd H p (.tup (List.replicate k.toNat xs).flatten)))
theorem Qj8:OpR X (aV .Mult) (Qsz X.K):=by
 intro pins s σ H x y v u Q I rx ry h;obtain ⟨a,k,xs,rfl,rfl,ha,a1,hk,hz,q1,q2⟩:=h;cases rx;obtain ⟨t,rfl⟩:=ry;obtain ⟨its,r,p1,hs⟩:=I.tuple ha;obtain ⟨⟨cls,dd,data,O⟩,ho,hc,n,hd⟩:=id p1;simp only at hc hd;subst hc hd;have Z:its.length=xs.length:=r.length.symm;have B:0 < its.length:=by rw [Z]; exact List.length_pos_iff.mpr a1
 have a2:k.toNat<=4096:=by
  have:1 * k.toNat<=xs.length * k.toNat:=Nat.mul_le_mul_right _ (by omega);omega
 refine wpAny_binaryOp_repeat_ref (T := "tuple") (U := "int") (by decide) ⟨_,ho,rfl⟩ (fun s'=>typeIs_int s' k t) yh F.fills_int_mul F.slot_int_rmul Q48 F.slot_int_index.lookup
  (bA F.slot_int_rmul (typeIs_int s k t) F.entry_int_rmul (F.args_int_rmul_2 _ _) (Q1s k t a its.toArray n dd O)
   ⟨ho,rfl,⟨_,ho,rfl⟩,?_⟩)
 by_cases h1:k=1
 ·subst h1;exact bA F.slot_tuple_mul ⟨_,ho,rfl⟩ F.entry_tuple_mul (F.args_tuple_mul_2 _ _) (Q0p a its.toArray n dd O t) ⟨ho,⟨.ref a,H,I,rfl,q1 rfl⟩⟩
 ·have f0:List.foldl (fun x1 x2=>x1 ++ x2) #[] (List.replicate k.toNat its.toArray)=(List.replicate k.toNat its).flatten.toArray:=by
   have:=yw its k.toNat [];rw [List.nil_append] at this;exact this
  have J:(its.toArray.size:Int) * k=((its.length * k.toNat:Nat):Int):=by
   rw [D0,Int.natCast_mul,Int.toNat_of_nonneg (by omega)]
  have Y:(List.replicate k.toNat its).flatten.length<=4096:=by rw [Q4n,Z,Nat.mul_comm]; exact hz
  have hb:its.length * k.toNat<=4096:=by rw [Z]; exact hz
  refine bA F.slot_tuple_mul ⟨_,ho,rfl⟩ F.entry_tuple_mul (F.args_tuple_mul_2 _ _) (Q0q a its.toArray n dd O k t ?_ ?_ ?_ ?_ ?_ ?_) ⟨ho,?_⟩
  ·rw [bP (by omega),bP (by omega)]; exact E9
  ·intro z;rcases Bool.or_eq_true_iff.mp z with z | z
   ·rw [List.isEmpty_toArray,List.isEmpty_iff] at z; rw [z] at B; simp at B
   ·exact h1 (eq_of_beq z)
  ·intro z;rcases Bool.or_eq_true_iff.mp z with z | z
   ·have:=of_decide_eq_true z; omega
   ·rw [List.isEmpty_toArray,List.isEmpty_iff] at z; rw [z] at B; simp at B
  ·rw [J]; omega
  ·rw [J];have:(4096:Int)<=sizeLine:=by decide
   show ¬ decide (((its.length * k.toNat:Nat):Int) > (sizeLine:Int))=true;rw [bP (by omega)]; exact E9
  ·rw [f0,D0]; exact F9 Y (by decide)
  ·rw [f0];refine ⟨.ref s.heap.objs.size,_,I.laid (t':=s.toks) (o:=.tup (List.replicate k.toNat xs).flatten) (fun b ob q=>O5 _ q) (O8 _) ?_,rfl,q2 h1 _ (I.hok.fresh (O8 _))⟩;exact ⟨by rw [Q4n,Nat.mul_comm]; exact F9 hz (by decide),_,r.rep k.toNat,IsTup.new _ _⟩
open PySem.SeqAt
theorem Q62:OpR X (aR .IsNot) (fun x y H Q=>∃ b c,x=.bl b/\y=.bl c/\Q (.bl (b != c)) H):=by
 intro pins s σ H x y v u Q I J B h;obtain ⟨b,c,rfl,rfl,q⟩:=h;cases J;cases B;exact PyProof.Rows.isnot_bool ⟨.bl _,H,I,rfl,q⟩
theorem W2:∀ (names:List (Str × ao)) (h:Heap) (B:List (Str × aB)) (x:Str) (c:aB),(af h.objs.size names B).lookup x=some c ->
  B.lookup x=some c\/((x,NameKind.cell)∈names/\h.objs.size<=c/\(pushCells h names).IsCell c none)
 | [],_,_,_,_,e=>.inl e
 | (name,kind) :: r,h,B,x,c,e=>by
  unfold af at e;unfold pushCells
  by_cases U:(kind == NameKind.cell)=true
  ·rw [bN U] at e ⊢;have I:kind=.cell:=by simpa using U
   have ih:=W2 r (h.push { cls:=.type "cell",data:=.cell none }) ((name,h.objs.size) :: B) x c (by rw [L7]; exact e);rw [L7] at ih;rcases ih with z | ⟨O,Z,J⟩
   ·rw [List.lookup_cons] at z;cases Y:x == name with
    | true=>
     rw [Y] at z; cases z;exact .inr ⟨by rw [beq_iff_eq.mp Y,I]; exact O9,O8 _,⟨_,pushCells_keeps _ _ _ _ (E8 _ rfl),rfl⟩⟩
    | false=>rw [Y] at z; exact .inl z
   ·exact .inr ⟨O4 _ O,by omega,J⟩
  ·rw [bO U] at e ⊢;rcases W2 r h B x c e with z | ⟨O,Z,J⟩
   ·exact .inl z
   ·exact .inr ⟨O4 _ O,Z,J⟩
theorem Ws {x:Str}:∀ (names:List (Str × ao)) (n:Nat) (B:List (Str × aB)),(x,NameKind.cell)∉names->(af n names B).lookup x=B.lookup x
 | [],_,_,_=>rfl
 | (name,kind) :: r,n,B,h=>by
  unfold af;have J:(x,NameKind.cell)∉r:=fun z=>h (O4 _ z)
  by_cases I:(kind == NameKind.cell)=true
  ·rw [bN I,Ws r _ _ J,List.lookup_cons];cases O:x == name with
   | true=>exact absurd (by rw [beq_iff_eq.mp O,show kind=.cell by simpa using I]; exact O9) h
   | false=>rfl
  ·rw [bO I,Ws r _ _ J]
theorem Uv {x:Str} {c:aB}:∀ (names:List (Str × ao)) (n:Nat) (B:List (Str × aB)),(x,NameKind.cell)∈names->(af n names B).lookup x=some c->n<=c
 | [],_,_,h,_=>by cases h
 | (name,kind) :: r,n,B,h,e=>by
  unfold af at e
  by_cases I:(x,NameKind.cell)∈r
  ·by_cases J:(kind == NameKind.cell)=true
   ·rw [bN J] at e;exact Nat.le_of_succ_le (Uv r _ _ I e)
   ·rw [bO J] at e;exact Uv r _ _ I e
  ·rcases D8.mp h with q | q
   ·cases q;rw [bN (by decide),Ws r _ _ I,List.lookup_cons] at e;simp at e;exact Nat.le_of_eq e
   ·exact absurd q I
theorem Uw:∀ (names:List (Str × ao)) (n:Nat) (B:List (Str × aB)),(∀ x c,B.lookup x=some c->c < n)->(∀ x y c,B.lookup x=some c->B.lookup y=some c->x=y) ->
  ∀ x y c,(af n names B).lookup x=some c->(af n names B).lookup y=some c->x=y
 | [],_,_,_,h=>h
 | (name,kind) :: r,n,B,h1,h2=>by
  unfold af
  by_cases U:(kind == NameKind.cell)=true
  ·rw [bN U];refine Uw r (n + 1) _ (fun x c e=>?_) (fun x y c e J=>?_)
   ·rw [List.lookup_cons] at e;cases O:x == name with
    | true=>rw [O] at e; cases e; exact Nat.lt_succ_self _
    | false=>rw [O] at e; exact Nat.lt_succ_of_lt (h1 x c e)
   ·rw [List.lookup_cons] at e J;cases O:x == name with
    | true=>
     rw [O] at e; cases e;cases I:y == name with
     | true=>rw [beq_iff_eq.mp O,beq_iff_eq.mp I]
     | false=>rw [I] at J; exact absurd (h1 y _ J) (Nat.lt_irrefl _)
    | false=>
     rw [O] at e;cases I:y == name with
     | true=>rw [I] at J; cases J; exact absurd (h1 x _ e) (Nat.lt_irrefl _)
     | false=>rw [I] at J; exact h2 x y c e J
  ·rw [bO U];exact Uw r n B h1 h2
theorem Q2d {M:Model} {A:aQ} {E:aA->aC->Prop} {s:aC} {scope:Scope} {I:aB} {cl:List (Str × aB)} {qual:Str} {J:Option aB} {code:aA} {env:Env} {B:aB} {Q:Env->aC->Prop}
  (Y:Q (newEnv scope s.heap.objs.size I (af (s.heap.objs.size + 1) scope.names cl) qual J code (some env) B) { s with heap:=pushCells (s.heap.push { cls:=.type "dict",data:=.dict #[] }) scope.names }) :
  aF M A (newFunctionEnv scope I cl [] qual J code (some env) B) Q E s:=by
 simp only [newFunctionEnv,Option.isSome_some,if_true];refine aD (wpAny_alloc ?_);refine aD (wpAny_layCells _ (fun name kind O=>by cases U:kind == NameKind.cell <;> simp [U]) _ _ _ _ ?_);rw [show ({ s with heap:=s.heap.push { cls:=.type "dict",data:=.dict #[] } }:aC).heap.objs.size=s.heap.objs.size + 1 from L7 ..];refine aD ?_;rw [List.forIn_nil];exact wpAny_pure (wpAny_pure Y)
def compOkC (N N':List Str) (sc scE:Scope) (cap:List (Option Nat)):Bool:=
 sc.kind == .function && sc.names.all (fun x=>x.2 != .cell || sc.names.lookup x.1 == some .cell) && sc.names.all (fun x=>x.2 != .local || sc.names.lookup x.1 == some .local) &&
 sc.names.all (fun x=>x.2 != .free || scE.names.lookup x.1 == some .cell || scE.names.lookup x.1 == some .free) && cap.length == N'.length &&
 (List.range cap.length).all (fun i=>match cap[i]? with
  | some (some j)=>(match N'[i]?,N[j]? with | some a,some b=>a == b && sc.names.lookup a == some .free | _,_=>false)
  | _=>true)
structure CompOkC (N N':List Str) (sc scE:Scope) (cap:List (Option Nat)):Prop where
 kind:sc.kind=.function
 cel:∀ x∈sc.names,x.2=.cell->sc.names.lookup x.1=some .cell
 loc:∀ x∈sc.names,x.2=.local->sc.names.lookup x.1=some .local
 fre:∀ x∈sc.names,x.2=.free->scE.names.lookup x.1=some .cell\/scE.names.lookup x.1=some .free
 len:cap.length=N'.length
 at_:∀ (i j:Nat),cap[i]?=some (some j)->∃ x,N'[i]?=some x/\N[j]?=some x/\sc.names.lookup x=some .free
theorem compOkC.of {N N':List Str} {sc scE:Scope} {cap:List (Option Nat)} (h:compOkC N N' sc scE cap=true):CompOkC N N' sc scE cap:=by
 unfold compOkC at h;simp only [L8,F5,beq_iff_eq,Bool.or_eq_true,bne_iff_ne] at h;obtain ⟨⟨⟨⟨⟨h1,h2⟩,h3⟩,h4⟩,h5⟩,h6⟩:=h;refine ⟨h1,fun x B e=>?_,fun x B e=>?_,fun x B e=>?_,h5,fun i j e=>?_⟩
 ·rcases h2 x B with z | z
  ·exact absurd e z
  ·exact z
 ·rcases h3 x B with z | z
  ·exact absurd e z
  ·exact z
 ·rcases h4 x B with (z | z) | z
  ·exact absurd e z
  ·exact .inl z
  ·exact .inr z
 ·have hi:i < cap.length:=(O0.mp e).1;have:=h6 i (M0.mpr hi);rw [e] at this;simp only at this;cases I:N'[i]? with
  | none=>rw [I] at this; cases this
  | some a=>
   cases J:N[j]? with
   | none=>rw [I,J] at this; cases this
   | some b=>
    rw [I,J] at this;simp only [L8,beq_iff_eq] at this;obtain ⟨rfl,z⟩:=this;exact ⟨a,rfl,rfl,z⟩
def Z8 (X:Cx) (N':List Str) (sc:Scope) (cl:List (Str × aB)) (C:aB) (s0:aC) (H0:Hp) (ex:List aB):Cx:=
 { X with N:=N',s₀:=s0,H₀:=H0,env:=compEnvC sc cl C X.env,outer:=X.stack,ex:=ex,fn:=fun x=>sc.names.lookup x == some .cell,pn:=[],xe:=fun _ _=>False }
theorem Qh8 {pins:List (aB × Obj)} {σ:St} {H:Hp} {s:aC} {N N':List Str} {sc scE:Scope} {cap:List (Option Nat)} {cl:List (Str × aB)} {fp:List aB}
  (I:Inv X pins σ H s) (hN:X.N=N) (hE:X.env.scope=scE) (ck:CompOkC N N' sc scE cap) (c1:∀ x c,cl.lookup x=some c->X.env.cells.lookup x=some c) (c2:∀ x∈sc.names,x.2=.free->∃ c,cl.lookup x.1=some c)
  (hf:∀ b∈fp,Q2b X pins H b) (a4:∀ b∈fp,b < s.heap.objs.size) :
  Inv (Z8 X N' sc (af (s.heap.objs.size + 1) sc.names cl) s.heap.objs.size s H fp) [] (zz cap σ) H { s with heap:=pushCells (s.heap.push { cls:=.type "dict",data:=.dict #[] }) sc.names }:=by
 obtain ⟨h₁,O⟩:∃ h₁,pushCells (s.heap.push { cls:=.type "dict",data:=.dict #[] }) sc.names=h₁:=⟨_,rfl⟩;obtain ⟨B,J⟩:∃ B,af (s.heap.objs.size + 1) sc.names cl=B:=⟨_,rfl⟩;rw [O,J];have keep:∀ b o,s.heap.get? b=some o->h₁.get? b=some o:=fun b o e=>by rw [<- O]; exact pushCells_keeps _ _ b o (O5 _ e)
 have a8:h₁.Ns s.heap.objs.size (fun _=>none):=by rw [<- O]; exact (Heap.Ns.new s.heap (.type "dict")).keeps (pushCells_keeps _ _)
 have look:∀ x c,B.lookup x=some c->cl.lookup x=some c\/(s.heap.objs.size + 1<=c/\h₁.IsCell c none):=fun x c e=>by
  rw [<- J] at e;have:=W2 (sc.names) (s.heap.push { cls:=.type "dict",data:=.dict #[] }) cl x c (by rw [L7]; exact e);rw [L7,O] at this;rcases this with z | ⟨_,z,z'⟩
  ·exact .inl z
  ·exact .inr ⟨z,z'⟩
 have Y:∀ x c,cl.lookup x=some c->c < s.heap.objs.size:=fun x c e=>by
  obtain ⟨v,o,ho,_⟩:=I.cell x c (c1 x c e);exact D9 ho
 have inj:∀ x y c,B.lookup x=some c->B.lookup y=some c->x=y:=by
  rw [<- J];exact Uw _ _ _ (fun x c e=>Nat.lt_succ_of_lt (Y x c e)) fun x y c a b=>I.ok.inj x y c (c1 x c a) (c1 y c b)
 have a9:∀ x,sc.names.lookup x=some .cell->∃ c,B.lookup x=some c:=fun x e=>by
  rw [<- J];exact Option.isSome_iff_exists.mp (PySem.W.cellsFrom_some _ _ _ (.inl e))
 have a7:∀ x,sc.names.lookup x=some .free->B.lookup x=cl.lookup x:=fun x e=>by
  rw [<- J];refine Ws _ _ _ fun z=>?_
  have:=ck.cel _ z rfl;rw [e] at this; cases this
 have kindOf:∀ x k,(compEnvC sc B s.heap.objs.size X.env).kindOf x=some k->k=.cell\/k=.free->sc.names.lookup x=some .free\/sc.names.lookup x=some .cell:=fun x k e hk=>by
  have e':(relabel sc X.env).names.lookup x=some k:=e;rw [Kg] at e';cases q:sc.names.lookup x with
  | none=>rw [q] at e'; cases e'
  | some k'=>
   rw [q] at e';have a6:(if (k' == NameKind.free && X.env.scope.kind == .function && X.env.kindOf x == some .cell)=true then NameKind.cell else k')=k:=Option.some.inj e'
   by_cases U:(k' == NameKind.free && X.env.scope.kind == .function && X.env.kindOf x == some .cell)=true
   ·simp only [L8,beq_iff_eq] at U;rw [U.1.1]; exact .inl rfl
   ·rw [bO U] at a6;subst a6;rcases hk with z | z
    ·rw [z]; exact .inr rfl
    ·rw [z]; exact .inl rfl
 have cellAt:∀ x c,X.env.cells.lookup x=some c->∀ v,s.heap.IsCell c v->h₁.IsCell c v:=fun x c e v ⟨o,ho,hd⟩=>⟨o,keep c o ho,hd⟩
 have a2:∀ c,s.heap.objs.size<=c->H c=none:=fun c U=>I.hok.fresh U
 refine ⟨⟨I.ok.mod,ck.kind,I.ok.glob,I.ok.blt,O8 _,inj,fun x hx=>?_,fun x c h1 h2=>?_,I.ok.hd,I.ok.frames,.inl rfl,fun b hb=>?_,I.bs,
  F9 I.ok.bsz I.sz,fun b o e hb=>?_,fun b hb hz=>?_,I.stack,I.stkFree⟩,rfl,I.bare,Un.kept keep,⟨_,a8,fun i x v e1 Z e3=>?_⟩,fun x c e=>?_,a2 _ (O8 _),fun x c e=>?_,fun p hp=>(by cases hp),I.hok.kept keep,?_⟩
 ·have hx:(compEnvC sc B s.heap.objs.size X.env).kindOf x=some .cell\/(compEnvC sc B s.heap.objs.size X.env).kindOf x=some .free:=hx;have q:sc.names.lookup x=some .free\/sc.names.lookup x=some .cell:=by
   rcases hx with z | z
   ·exact kindOf x _ z (.inl rfl)
   ·exact kindOf x _ z (.inr rfl)
  rcases q with q | q
  ·obtain ⟨c,U⟩:=c2 _ (PySem.mem_of_lookup q) rfl;exact ⟨c,(a7 x q).trans U⟩
  ·exact a9 x q
 ·have h1:sc.names.lookup x=some .cell:=by simpa [Z8] using h1
  have h2:B.lookup x=some c:=h2;rw [<- J] at h2;exact F9 (Nat.le_succ _) (Uv _ _ _ (PySem.mem_of_lookup h1) h2)
 ·refine ⟨F8 (a4 b hb),fun x c e=>?_⟩;rcases look x c e with z | ⟨z,_⟩
  ·exact (hf b hb).2.2.2.2.1 x c (c1 x c z)
  ·exact fun q=>absurd (E2 (a4 b hb) (F9 (Nat.le_succ _) (q ▸ z))) (Nat.lt_irrefl _)
 ·rcases (hf b hb).2.2.2.1 with z | z
  ·exact I.ok.noex b o e z
  ·exact absurd (E2 (D9 e) (F9 I.ok.bsz z)) (Nat.lt_irrefl _)
 ·rcases D8.mp (I.stkSub b hz) with e | z
  ·exact (hf b hb).2.1 e
  ·exact (hf b hb).2.2.1 z
 ·have e1:N'[i]?=some x:=e1;have Z:(zz cap σ)[i]?=some (some v):=Z;unfold zz at Z;rw [F4] at Z;cases q:cap[i]? with
  | none=>rw [q] at Z; cases Z
  | some oj=>
   rw [q] at Z;cases oj with
   | none=>cases Z
   | some j=>
    obtain ⟨y,z1,z2,z3⟩:=ck.at_ i j q;rw [e1] at z1; cases z1;have ev:σ[j]?=some (some v):=by
     have a1:(σ[j]?).join=some v:=Option.some.inj Z;cases r:σ[j]? with
     | none=>rw [r] at a1; cases a1
     | some o=>rw [r] at a1; exact congrArg some a1
    obtain ⟨m',b0,hl⟩:=I.loc;have sK:X.env.scope.names.lookup x=some .cell\/X.env.scope.names.lookup x=some .free:=by rw [hE]; exact ck.fre _ (PySem.mem_of_lookup z3) rfl
    obtain ⟨u,ru,l⟩:=hl j x v (by rw [hN]; exact z2) ev (sK.elim (fun z=>.inr (.inl z)) fun z=>.inr (.inr z))
    refine ⟨u,ru,?_⟩;obtain ⟨c,U⟩:=c2 _ (PySem.mem_of_lookup z3) rfl;rcases l with ⟨k,_⟩ | ⟨k,c',a5,a3⟩
    ·have k:X.env.scope.names.lookup x=some .local:=k;rcases sK with z | z <;> (rw [k] at z; cases z)
    ·have:c=c':=by
      have q1:=c1 x c U;rw [a5] at q1;exact (Option.some.inj q1).symm
     subst this;refine .inr ⟨?_,c,(a7 x z3).trans U,cellAt x c a5 _ a3⟩;show (relabel sc X.env).names.lookup x=some .cell\/(relabel sc X.env).names.lookup x=some .free;rw [Kg,z3];show some (if _ then NameKind.cell else NameKind.free)=_\/some (if _ then NameKind.cell else NameKind.free)=_
     split
     ·exact .inl rfl
     ·exact .inr rfl
 ·rcases look x c e with z | ⟨_,z⟩
  ·obtain ⟨v,q⟩:=I.cell x c (c1 x c z);exact ⟨v,cellAt x c (c1 x c z) v q⟩
  ·exact ⟨_,z⟩
 ·rcases look x c e with z | ⟨z,_⟩
  ·exact I.freeC x c (c1 x c z)
  ·exact a2 c (by omega)
 ·unfold zz;show _=N'.length;rw [O1];exact ck.len
end L2
namespace PySem
open Sem (wp)
def Q2s (o:Obj):Option aA:=match o.data with | .fields vs=>vs[2]? | _=>none
theorem Qgb {o:Obj} {vs:Array aA} {x:aA} (B:o.data=.fields vs):Q2s (Obj.mapFields (·.setIfInBounds 1 x) o)=Q2s o:=by
 have d:=Obj.data_mapFields B (·.setIfInBounds 1 x);unfold Q2s;rw [d,B];exact Array.getElem?_setIfInBounds_ne (by decide)
variable {M:Model} {A:aQ} {E:aA->aC->Prop} {s:aC} {en:Env} {ou:List Env} {L e:aB} {ob:Obj} {vs:Array aA} {a0:aA} {Q:Unit->aC->Prop}
section
variable {bs:Heap}
theorem Q1y {I:aA} {nx:Bool} (fr:A.frames=some (en :: ou)) (ff:s.heap.FunFrames bs (en :: ou)) (ef:en.frame=some L) (oe:s.heap.get? e=some ob) (kb:bs.StaysIn s.heap) (ne:bs.get? e=none)
  (O:ob.data=.fields vs) (z1:1 < vs.size) (z0:vs[0]?=some a0)
  (h:∀ h',Heap.LeftW bs (en :: ou) e ob.cls a0 s.heap h'->(∃ o',h'.get? e=some o'/\o'.dict=ob.dict/\Q2s o'=Q2s ob)->Q () { s with heap:=h' }) :
  aF M A (do
   let a <- frameOf en
   let pl <- entryPlaceOf L nx
   let b <- EntryCells.newEntry I a .none (ae L) .none pl
   setField (.ref e) 1 b) (fun _ s'=>aF M A (setFlight (.ref e) none) Q E s') E s:=by
 have nf:e∉(en :: ou).filterMap (·.frame):=fun m=>by
  obtain ⟨_,o,q,n⟩:=ff.mem m;rw [oe] at q;cases q;exact n vs O
 refine aD (wpAny_frameOf_fun fr ff ef fun g gs=>?_);refine aD (wpAny_entryPlaceOf fun pl hp=>?_);unfold EntryCells.newEntry newFields;refine aD (bB ?_ (hp.sizeOk5 _ _ _ _ _));have ge:g.get? e=some ob:=(gs.2.1 e nf).trans oe;have gb:bs.StaysIn g:=fun b o q=>(gs.2.1 b fun m=>by
  rw [(ff.mem m).1] at q;cases q).trans (kb b o q)
 obtain ⟨tb,Z⟩:∃ tb:List aA,[I,.ref L,.none,ae L,.none] ++ (if pl.isEmpty then List.replicate 6 Value.none else pl)=tb:=⟨_,rfl⟩;have l5:3 < tb.length/\tb[3]?=some (ae L):=by
  rw [<- Z];exact ⟨by simp,by simp⟩
 rw [Z];have Y:=O5 (h:=g) { cls:=.type "traceback",dict:=none,data:=.fields tb.toArray } ge;refine wpAny_setField Y O z1 ?_;have te:g.objs.size≠e:=Nat.ne_of_gt (D9 ge);have d3:=Obj.data_mapFields O (·.setIfInBounds 1 (Value.ref g.objs.size));have B:=N0 (Obj.mapFields (·.setIfInBounds 1 (Value.ref g.objs.size))) Y (Obj.isFreed_of_fields d3);have J:=(M7 (g.push { cls:=.type "traceback",dict:=none,data:=.fields tb.toArray })
  (Obj.mapFields (·.setIfInBounds 1 (Value.ref g.objs.size))) te.symm).trans
  (E8 g rfl)
 unfold setFlight;refine aD (aY B d3 (x:=.ref g.objs.size) (by simp [z1]) ?_);rw [bN (show (Value.ref g.objs.size != Value.none)=true by simp)];refine wpAny_setField J rfl (by simpa using l5.1) (h _ ?_ ?_)
 all_goals
  obtain ⟨g3,U⟩:∃ g3,((g.push { cls:=.type "traceback",dict:=none,data:=.fields tb.toArray }).update e (Obj.mapFields (·.setIfInBounds 1 (Value.ref g.objs.size))))=g3:=⟨_,rfl⟩;rw [U] at B J ⊢
 ·have kp:∀ b o,b≠e->g.get? b=some o->(g3.update g.objs.size (Obj.mapFields (·.setIfInBounds 3 ((none:Option aB).elim Value.none fun f=>ae f)))).get? b=some o:=fun b o n q=>by
   rw [M7 _ _ (Nat.ne_of_gt (D9 q)),<- U,M7 _ _ n.symm];exact O5 _ q
  have nr:∀ b o,s.heap.get? b=some o->(∀ ws,o.data≠.fields ws)->b≠e:=fun b o q n z=>by
   rw [z,oe] at q;cases q;exact n vs O
  refine ⟨fun b o q=>kp b o (fun z=>by rw [z,ne] at q; cases q) (gb b o q),ff.of_keeps fun b o q n=>?_,?_,fun b o q n=>?_⟩
  ·obtain ⟨sl,z⟩:=gs.2.2 b o q;exact ⟨_,kp b _ (nr b o q n) z,rfl⟩
  ·refine ⟨_,_,g.objs.size,_,_,?_,⟨Obj.cls_mapFields _ _,?_⟩,d3,by simp [z1],gb.fresh,te,N0 _ J (Obj.isFreed_of_fields (Obj.data_mapFields rfl _)),Obj.data_mapFields rfl _,?_⟩
   ·rw [M7 _ _ te];exact B
   ·rw [Array.getElem?_setIfInBounds_ne (by decide)];exact z0
   ·have:=l5.1;simp [this]
  ·obtain ⟨sl,z⟩:=gs.2.2 b o q;exact ⟨sl,kp b _ (nr b o q n) z⟩
 ·refine ⟨_,(M7 _ _ te).trans B,?_,Qgb O⟩;cases ob with
  | mk c d dt sl=>cases dt <;> first | rfl | cases O
theorem Q6q (fr:A.frames=some (en :: ou)) (U:s.heap.FunFrames bs (en :: ou)) (B:en.frame=some L) (O:s.heap.get? e=some ob) (kb:bs.StaysIn s.heap) (ne:bs.get? e=none)
  (I:ob.data=.fields vs) (J:vs[1]?=some .none) (Y:vs[0]?=some a0)
  (h:∀ h',Heap.LeftW bs (en :: ou) e ob.cls a0 s.heap h'->(∃ o',h'.get? e=some o'/\o'.dict=ob.dict/\Q2s o'=Q2s ob)->Q () { s with heap:=h' }):aF M A (leaving en (.ref e)) Q E s:=by
 unfold leaving noteFrame;simp only [B];refine aD (aD (aY O I J ?_));rw [bO (by decide)];exact Q1y fr U B O kb ne I (Array.getElem?_eq_some_iff.mp J).1 Y h
theorem Q6p {cls:aA} {Z:Option aB} (fr:A.frames=some (en :: ou)) (Y:en.frame=some L) (fl:Heap.FlyingW bs (en :: ou) e cls a0 s.heap) (dd:∃ o',s.heap.get? e=some o'/\o'.dict=Z/\Q2s o'=some .none)
  (h:∀ h',Heap.FlyingW bs ou e cls a0 h'->(∃ o',h'.get? e=some o'/\o'.dict=Z/\Q2s o'=some .none)->s.heap.UpToSlots h'->Q () { s with heap:=h' }):aF M A (leaving en (.ref e)) Q E s:=by
 obtain ⟨kb,ne,ff,oe,ws,T,oT,ts,O,⟨hc,z0⟩,od,z1,nT,Te,hT,dT,z3⟩:=fl;obtain ⟨o',B,J,U⟩:=dd;rw [O] at B;cases B;unfold leaving noteFrame;simp only [Y];refine aD (aD (aY O od z1 ?_));rw [bN (show (Value.ref T != Value.none)=true by simp)];refine aD (aY hT dT z3 ?_);rw [bO (show ¬ ((Value.none == ae L)=true) by simp [ae])];refine aD (wpAny_setField hT dT (Array.getElem?_eq_some_iff.mp z3).1 ?_);have I:∀ b,b≠T->(s.heap.update T (Obj.mapFields (·.setIfInBounds 3 Value.none))).get? b=s.heap.get? b:=fun b n=>M7 _ _ n.symm
 have nr:∀ b o,s.heap.get? b=some o->(∀ ws,o.data≠.fields ws)->b≠T:=fun b o q n z=>by
  rw [z,hT] at q;cases q;exact n ts dT
 refine Q1y fr (ff.of_keeps fun b o q n=>⟨o,(I b (nr b o q n)).trans q,rfl⟩) Y ((I e Te.symm).trans O) (fun b o q=>(I b fun z=>by rw [z,nT] at q; cases q).trans (kb b o q)) ne od (Array.getElem?_eq_some_iff.mp z1).1 z0 fun h' lf d'=>?_
 obtain ⟨k1,⟨_,_,k2⟩,k3,k4⟩:=lf;rw [hc] at k3;exact h h' ⟨k1,ne,k2,k3⟩ (d'.imp fun o q=>⟨q.1,q.2.1.trans J,q.2.2.trans U⟩) fun b o q n=>k4 b o ((I b (nr b o q n)).trans q) n
end
end PySem
namespace L2
open PySem PySem.Spec PyProof.Rows
variable {σ:St} {H1 H':Hp} {s1:aC} {b a:aB} {x:Str} {tt:TT} {wi:TI} {g:TG} {te:TE} {o:Option V} {u:aA} {y:V} {xs:List (HK × aA × aA)} {k:HK} {Q:aA->aC->Prop} {h':Heap}
def CXD (P:aM) (w:aJ):CXT:=fun outer H s E e s'=>∃ a cls a0 dv H' B,e=Value.ref a/\Fly P w outer H H' s s' a cls a0 B/\(∃ o',s'.heap.get? a=some o'/\o'.dict=dv/\Q2s o'=some .none)/\E cls dv H'
theorem Q4b {P:aM} {w:aJ} {X:Cx}:Q2a (CXD P w) X E0:=fun _ _ _ _ _ _ _ h=>by
 obtain ⟨_,_,_,_,_,_,_,_,_,z⟩:=h;exact z.elim
variable {P:aM} {K:PySem.W.Frag} {mg:Str->Option aA} {base:Heap} {N:List Str} {qual:Str} {scope:Scope} {f:aB} {cd:aA} {A:aQ} {outer:List Env} {s:aC} {H:Hp} {E:XK}
section
variable {w:aJ}
abbrev cxD (P:aM) (w:aJ) (K:PySem.W.Frag) (mg:Str->Option aA) (base:Heap) (N:List Str) (qual:Str) (scope:Scope) (f:aB) (cd:aA) (A:aQ) (outer:List Env) (s:aC) (H:Hp) (E:XK):Cx:=Qc1 (CXD P w) P w K mg base N qual scope f cd A outer s H E
theorem Q43 {pins:List (aB × Obj)} (I:Inv (cxD P w K mg base N qual scope f cd A outer s H E) pins σ H1 s1) {o:Obj} (e:s.heap.get? b=some o) (n:b∉frs outer):b∉frs (cxD P w K mg base N qual scope f cd A outer s H E).stack:=fun B=>by
 rcases D8.mp (I.stkSub b B) with z | z
 ·have h1:b < s.heap.objs.size:=D9 e;have h2:s.heap.objs.size<=(cxD P w K mg base N qual scope f cd A outer s H E).env.locals:=I.ok.above;rw [<- z] at h2;exact absurd (E2 h1 h2) (Nat.lt_irrefl _)
 ·exact n z
theorem Qg8 (h:b∈frs outer):b∈frs (cxD P w K mg base N qual scope f cd A outer s H E).stack:=by
 show b∈frs (_ :: outer);unfold frs at h ⊢;rw [List.filterMap_cons]
 split
 ·exact h
 ·exact O4 _ h
theorem Qnn {pins:List (aB × Obj)} {Y:Heap} {e C t:aB} {dv:Option aB} (I:Inv (cxD P w K mg base N qual scope f cd A outer s H E) pins σ H1 s1)
  (hk:∀ b o,b≠e->s1.heap.get? b=some o->Y.get? b=some o) (a3:∀ o,s1.heap.get? e=some o->∃ vs,o.data=.fields vs) (new:s.heap.get? e=none) (hH:H1 e=none)
  (oe:Y.get? e=some { cls:=.ref C,dict:=dv,data:=.fields #[.ref t,.none,.none,.none,.bool false,.none] }) (hE:E (.ref C) dv H1) :
  (cxD P w K mg base N qual scope f cd A outer s H E).xe (.ref e) { s1 with heap:=Y }:=by
 have Z:∀ en∈(cxD P w K mg base N qual scope f cd A outer s H E).stack,∀ b,en.frame=some b->b∈e :: frs (cxD P w K mg base N qual scope f cd A outer s H E).stack:=fun en he b B=>O4 _ (List.mem_filterMap.mpr ⟨en,he,B⟩)
 have ff:=PySem.W.funFrames_hide I.stack Z;have a2:∀ b o,s1.heap.get? b=some o->(∀ vs,o.data≠.fields vs)->b≠e:=fun b o q n z=>by
  subst z;obtain ⟨vs,d⟩:=a3 o q;exact n vs d
 have hid:(PySem.W.hideAll s1.heap (e :: frs (cxD P w K mg base N qual scope f cd A outer s H E).stack)).get? e=none:=PySem.W.hideAll_none _ O9;have kb:(PySem.W.hideAll s1.heap (e :: frs (cxD P w K mg base N qual scope f cd A outer s H E).stack)).StaysIn Y:=fun b o q=>hk b o (fun z=>by rw [z,hid] at q; cases q) (PySem.W.of_hideAll _ q)
 show aF (aI P w) _ (leaving _ (.ref e)) _ _ _;refine Q6q (bs:=PySem.W.hideAll s1.heap (e :: frs (cxD P w K mg base N qual scope f cd A outer s H E).stack)) (a0:=.ref t) (s:={ s1 with heap:=Y }) I.ok.frames (ff.of_keeps fun b o q n=>⟨o,hk b o (a2 b o q n) q,rfl⟩) rfl oe kb hid rfl rfl rfl fun h2 lf dd=>?_
 obtain ⟨k1,⟨_,_,k2⟩,k3,k4⟩:=lf;have noex:∀ b:aB,b∉(cxD P w K mg base N qual scope f cd A outer s H E).ex:=fun b z=>absurd (show b∈([]:List aB) from z) (by simp)
 have J:∀ b o,s.heap.get? b=some o->b≠e:=fun b o q z=>by rw [z,new] at q; cases q
 have U:∀ b o,s.heap.get? b=some o->b∉frs outer->b∉e :: frs (cxD P w K mg base N qual scope f cd A outer s H E).stack:=fun b o q n m=>by
  rcases D8.mp m with z | z
  ·exact J b o q z
  ·exact Q43 I q n z
 refine ⟨e,.ref C,.ref t,dv,H1,_,rfl,⟨I.os,I.bare,⟨k1,hid,k2,k3⟩,fun b u q=>?_,fun b o q n B=>?_,fun b o q B=>?_,fun b o q B=>?_,fun b o q n=>I.base.free b o q n (noex b),I.base.tups,I.base.frzs,I.base.tbls⟩,dd,hE⟩
 ·have ne:∀ c v,H1 c=some v->c∉e :: frs (cxD P w K mg base N qual scope f cd A outer s H E).stack:=fun c v z m=>by
   rcases D8.mp m with m | m
   ·rw [m,hH] at z; cases z
   ·rw [I.stkFree c m] at z; cases z
  refine (I.hok b u q).stay (fun c v hc r=>PySem.W.hideAll_get _ r ?_) (fun _ r=>r) fun _ _ r=>r
  rcases hc with rfl | hc
  ·exact ne c u q
  ·exact ne c _ hc
 ·exact PySem.W.hideAll_get _ (I.base.keep b o q n B (noex b)) (U b o q B)
 ·obtain ⟨o',z⟩:=I.base.there b o q (noex b);exact ⟨o',PySem.W.hideAll_get _ z (U b o q B)⟩
 ·obtain ⟨sl,z⟩:=I.base.slot b o q (I.ok.frf b B) B (noex b);obtain ⟨_,o',a5,a4⟩:=I.ok.funs.mem B;have O:s.heap.get? b=some o':=a5;rw [q] at O;cases O;obtain ⟨a1,z'⟩:=k4 b _ (hk b _ (J b o q) z) a4;exact ⟨a1,z'⟩
theorem za:Q2a (CXD P w) (cxD P w K mg base N qual scope f cd A outer s H E) E:=by
 intro pins σ H1 s1 e s' I h;obtain ⟨a,cls,a0,dv,H',B,rfl,F,dd,hE⟩:=h;show aF (aI P w) _ (leaving _ (.ref a)) _ _ _;have noex:∀ b:aB,b∉(cxD P w K mg base N qual scope f cd A outer s H E).ex:=fun b z=>absurd (show b∈([]:List aB) from z) (by simp)
 refine Q6p I.ok.frames rfl F.fl dd fun h2 x1 d2 x2=>?_
 refine ⟨a,cls,a0,dv,H',B,rfl,⟨F.os.trans I.os,F.bare,x1,F.hokB,fun b o q n J=>?_,fun b o q J=>?_,fun b o q J=>?_,fun b o q n=>?_,fun b xs q=>F.tups b xs (I.base.tups b xs q),fun b o u q=>F.frzs b o u (I.base.frzs b o u q),fun b ps q=>?_⟩,d2,hE⟩
 ·exact F.keep b o (I.base.keep b o q n J (noex b)) (I.base.free b o q n (noex b)) (Q43 I q J)
 ·obtain ⟨o',z⟩:=I.base.there b o q (noex b);exact F.there b o' z (Q43 I q J)
 ·obtain ⟨sl,z⟩:=I.base.slot b o q (I.ok.frf b J) J (noex b);obtain ⟨_,o',Z,U⟩:=I.ok.funs.mem J;have O:s.heap.get? b=some o':=Z;rw [q] at O;cases O;obtain ⟨a1,z'⟩:=F.slot b _ z (Qg8 J);obtain ⟨Y,z2⟩:=x2 b _ z' U;exact ⟨Y,z2⟩
 ·obtain ⟨o',z⟩:=I.base.there b o q (noex b);exact F.free b o' z (I.base.free b o q n (noex b))
 ·obtain ⟨m1,e1⟩:=I.base.tbls b ps q;obtain ⟨m2,e2⟩:=F.tbls b _ e1;exact ⟨m1 ++ m2,by rw [e2,Array.append_assoc]⟩
end
variable {X:Cx}
def Q8y (X:Cx) (E:XK):Prop:=∀ (pins:List (aB × Obj)) (σ:St) (H0 H1:Hp) (s0 s1:aC) (hx:Heap) (e C t:aB) (dv:Option aB),Inv X pins σ H0 s0->s0.heap.get? e=none->Inv X pins σ H1 s1->(∀ b o,b≠e->s1.heap.get? b=some o->hx.get? b=some o) ->
 (∀ o,s1.heap.get? e=some o->∃ vs,o.data=.fields vs)->H1 e=none->hx.get? e=some { cls:=.ref C,dict:=dv,data:=.fields #[.ref t,.none,.none,.none,.bool false,.none] }->E (.ref C) dv H1->X.xe (.ref e) { s1 with heap:=hx }
theorem Qb6 {C:aB} {e:aH} {t:TA} {np cpos pos:Pos} (B:X.calm=true) (RO:Q8y X E) (hg:Gl X x) (hm:X.mg x=some (.ref C)) (q:PySem.W.excIn X.K C Qh6 "ValueError.__new__" = true) (ha:PA X [e] t)
  (Y:(x == ("__debug__" : Str))=false:=by decide) (he:aN [e] X.env=[(false,aL e X.env)]:=by rfl):PS X (.Raise (some (.Call (.Name x np) [e] [] cpos)) none pos) (Qmp C E t):=by
 intro pins s σ H D I h;obtain ⟨tl,N,nm,qn,bs,hdct,sn,sub,ab,col,dd,k0,k1,k2,k3,k5,mN,hC,hN,Z,T⟩:=(Qj7 I.mod.kin hm q).obj;refine wpAny_Raise_call_subU (C:=C) (nm:=nm) (q:=qn) (N:=N) (bs:=bs) (bm:=tl) (hdct:=hdct) (sn:=sn) (sub:=sub) (ab:=ab) (col:=col) (dd:=dd) (k0:=k0) (k1:=k1) (k2:=k2) (k3:=k3) (k5:=k5)
  PySem.F.excBase_ValueError (by decide +kernel) PySem.F.excBase_ValueError (mN:=mN) (T.hasType (by decide +kernel)) (I.ok.hd B) (by rw [he]; rfl) Z (Q4q I hg hm ⟨rfl,?_⟩ Y)
 have O:=ha cpos pins s σ H _ I h;rw [he] at O ⊢;refine Calls.evalArgs_plain (ak O (fun us s1 ⟨vs,H1,J,r,z,hE⟩=>?_) fun _ _ y=>y)
 refine ⟨rfl,by rw [<- r.length]; exact z,J.bk _ _ hC,hN.keeps J.bk,T.keeps J.bk,fun h' e' U=>?_⟩;obtain ⟨t,oe,_,_⟩:=U.there;exact RO pins σ H1 H1 s1 s1 h' e' C t none J U.new J (fun b o _ k=>U.keeps b o k) (fun o k=>by rw [U.new] at k; cases k) (J.hok.none_of U.new) oe hE
theorem Qdw {P:aM} {w:aJ} {K:PySem.W.Frag} {mg:Str->Option aA} {base:Heap} {N:List Str} {qual:Str} {scope:Scope} {f:aB} {cd:aA} {A:aQ} {outer:List Env} {s:aC} {H:Hp} {E:XK} :
  Q8y (cxD P w K mg base N qual scope f cd A outer s H E) E:=fun pins σ H0 H1 s0 s1 hx e C t dv I0 O I Z B J U Y=>by
 refine Qnn I Z B ?_ J U Y;cases q:s.heap.get? e with
 | none=>rfl
 | some o=>
  obtain ⟨o',z⟩:=I0.base.there e o q (fun z=>absurd (show e∈([]:List aB) from z) (by simp))
  rw [O] at z; cases z
theorem Fun.okD {P:aM} {w:aJ} {mg:Str->Option aA} {base:Heap} {st:aK} {fd:aP} {ps:List Str} {k:Nat} {sp:Sp} (F:Fun K x qual st f fd) (S:FnScope N ps (Qa st)) (len:∀ vs H Q E,sp vs H Q E->vs.length=ps.length)
  (I:∀ (B:aA) (A:aQ) (outer:List Env) (s:aC) (H:Hp) (vs:List V) (Q:VK) (E:XK),Room k (A.deeper (envOfC qual (Qa st) s.heap.objs.size f B))->sp vs H Q E ->
   ∃ t,PSs (cxD P w K mg base N qual (Qa st) f B A outer s H E) (Js st) t/\t { nx:=fun _ H'=>Q .non H',rt:=Q } (start N vs) H):FnOk P w K mg base (CXD P w) (k + 1) f fd ps sp:=by
 obtain ⟨oc,od,kV,Y,pm,an,B,ct,a1,rfl,U,J⟩:=F.ex;exact Quy U J S len fun A outer s H vs Q E Z O=>I B A outer s H vs Q E Z O
def Qdx (K:PySem.W.Frag):R2:=fun x y H Q=>∃ a b ys,x=.ref a/\y=.ref b/\SqT K H a []/\SqT K H b ys/\Q (.ref b) H
theorem Qew:OpR X (aV .Add) (Qdx X.K):=by
 intro pins s σ H x y v u Q I rx Z h;obtain ⟨a,b,ys,rfl,rfl,ha,hb,q⟩:=h;cases rx;cases Z;obtain ⟨its,Y,p1,_⟩:=I.tuple ha;obtain ⟨B,r2,p2,_⟩:=I.tuple hb;have e1:its=[]:=Y.nil_iff.mpr rfl;subst e1;obtain ⟨⟨cls,dd,data,sl⟩,ho,hc,n,hd⟩:=id p1;obtain ⟨⟨U,O,data2,J⟩,ho2,hc2,n2,hd2⟩:=id p2;simp only at hc hd hc2 hd2;subst hc hd hc2 hd2;exact concat_meets ⟨_,ho,rfl⟩ ⟨_,ho2,rfl⟩ noFill_tuple_add seq_tuple_add PySem.F.slot_tuple_add PySem.F.entry_tuple_add (PySem.F.args_tuple_add_2 _ _)
  (tuple_addW0 a b ([]:List aA).toArray B.toArray n n2 dd O sl J (by simp)) ⟨ho,ho2,⟨.ref b,H,I,rfl,q⟩⟩
abbrev Qt2 (K:PySem.W.Frag):R2:=fun x y H Q=>Qkv K x y H Q\/Qdx K x y H Q
theorem Qjb:OpR X (aV .Add) (Qt2 X.K):=op_catT.or Qew
def PTs (X:Cx) (ifs:List aH) (t:TT):Prop:=
 ∀ (pins:List (aB × Obj)) (s:aC) (σ:St) (H:Hp) (Q:Bool->Hp->Prop),Inv X pins σ H s->t σ H Q ->
  aF (aI X.prog X.w) X.A (forIn ifs true fun c r=>if r=true then do let ok <- isTrue c X.env (aL c X.env); pure (ForInStep.yield ok) else pure (ForInStep.yield r)) (TP X pins σ Q) X.xe s
def Qs9:TT:=fun _ H Q=>Q true H
theorem Qik :PTs X [] Qs9:=fun _ _ _ H _ I h=>wpAny_tests_nil ⟨H,I,h⟩
theorem Qij {c:aH} {t:TT} (h:PT X c t):PTs X [c] t:=fun pins s σ H Q I q=>wpAny_tests_one (h pins s σ H Q I q)
def Q3i (J:It) (cap:List (Option Nat)) (g:TG) (tt:TT) (te:TE) (σ:St) (H1:Hp) (Q:VK):Prop:=∀ acc,H1 acc=none ->
 ∃ W:Nat->Nat->List V->St->Hp->Prop,(∃ m,W 0 m [] (zz cap σ) (upd H1 acc (.lst [])))/\∀ i m ys σ' H',W i m ys σ' H'->H' acc=some (.lst ys) /\
  ((J.stop i H'/\Q (.ref acc) H')\/(J.go i H'/\ys.length < sizeLine/\∀ x H2,J.yld i H' x H2->g x σ' H2 fun σ3 H3=>tt σ3 H3 fun b H4=>
    if b=true then te σ3 H4 fun y H5=>H5 acc=some (.lst ys)/\∃ m',m' < m/\W (i + 1) m' (ys ++ [y]) σ3 (upd H5 acc (.lst (ys ++ [y])))
    else ∃ m',m' < m/\W (i + 1) m' ys σ3 H4))
def Q42 (cap:List (Option Nat)) (wi:TI) (g:TG) (tt:TT) (te:TE):TE:=fun σ H Q=>wi σ H fun J H1=>Q3i J cap g tt te σ H1 Q
variable {prog:aM} {R:Result->aC->Prop}
section
variable {w:aJ}
theorem Q2t {elt B iter:aH} {ifs:List aH} {scope:Scope} {pos:Pos} {it a4:aA} {env:Env} (I:Nat->aC->Prop)
  (turn:∀ n s,I n s->aF (aI prog w) A (au it) (fun r O=>match r with
   | none=>R (.ok .next) O
   | some v=>aF (aI prog w) A (letOwnedTupleGo B it v) (fun _ Y=>aF (aI prog w) A (assign B env v) (fun _ Z=>
     aF (aI prog w) A (forIn ifs true fun c r=>if r=true then do let ok <- isTrue c env (aL c env); pure (ForInStep.yield ok) else pure (ForInStep.yield r)) (fun ok U=>
      if ok=true then aF (aI prog w) A (aL elt env) (fun x a2=>
       aF (aI prog w) A (call (.builtin "list.append") [a4,x]) (fun _ a1=>∃ m,m < n/\I m a1) (fun _ _=>False) a2) (fun _ _=>False) U
      else ∃ m,m < n/\I m U) (fun _ _=>False) Z)
     (fun _ _=>False) Y) (fun _ _=>False) O) (fun _ _=>False) s)
  (n:Nat) (h:I n s):codeAny (aI prog w) A (.compLoop (.ListComp elt [⟨B,iter,ifs,0⟩] scope pos) 0 it a4 env) R s:=by
 refine codeAny_loop rfl I (fun n s hI=>?_) n h;show aF _ A ((compTurn (.ListComp elt [⟨B,iter,ifs,0⟩] scope pos) 0 it a4 env).onRaise (fun x=>do noteFrame x env; theTreesLotGoes x)) _ _ s;refine wpAny_noted ?_;rw [compTurn_list];refine aD (wpAny_standAt (aD (ak (turn n s hI) (fun r O h₁=>?_) fun _ _ h'=>h'.elim)))
 cases r with
 | none=>exact wpAny_pure h₁
 | some v=>
  refine aD (ak h₁ (fun _ Y a3=>?_) fun _ _ h'=>h'.elim)
  refine aD (ak a3 (fun _ Z a6=>aD (ak a6 (fun ok U J=>?_) fun _ _ h'=>h'.elim)) fun _ _ h'=>h'.elim)
  cases ok with
  | true=>
   rw [bN rfl] at J;exact aD (aD (ak J (fun x a2 a5=>aD (ak a5 (fun _ a1 a7=>wpAny_pure (wpAny_pure ⟨rfl,a7⟩)) fun _ _ h'=>h'.elim)) fun _ _ h'=>h'.elim))
  | false=>
   rw [bO E9] at J;exact aD (wpAny_pure (wpAny_pure ⟨rfl,J⟩))
end
theorem Q22 {elt tg iter:aH} {ifs:List aH} {tt:TT} {pos:Pos} {N N':List Str} {sc scE:Scope} {cap:List (Option Nat)} {g:TG} {te:TE} {use:Option (aA->Sem Unit)} {QQ:aA->aC->Prop} (c0:X.calm=true) (hi:PI X tg iter wi)
  (hg:∀ cl C s0 H0 ex,PG (Z8 X N' sc cl C s0 H0 ex) tg g) (he:∀ cl C s0 H0 ex,PE (Z8 X N' sc cl C s0 H0 ex) elt te) (e0:∀ cl C s0 H0 ex,PTs (Z8 X N' sc cl C s0 H0 ex) ifs tt)
  (hN:X.N=N) (hE:X.env.scope=scE) (hc:compOkC N N' sc scE cap=true) (hs:∀ x,av iter X.env x=pure x)
  {pins:List (aB × Obj)} {s:aC} {σ:St} {H:Hp} {Q:VK} (I:Inv X pins σ H s) (h:Q42 cap wi g tt te σ H Q)
  (fin:∀ d1 C H' s' m,Inv X pins σ H' s'->s'.heap.Ns C m->Q2b X pins H' C->Q (.ref d1) H'->compPost (aI X.prog X.w) X.A X.xe use QQ (.ref d1) C (.ok .next) s') {pos':Pos} :
  aF (aI X.prog X.w) X.A (comprehension (.ListComp elt [⟨tg,iter,ifs,0⟩] sc pos) sc X.env pos' (newList []) false (aL iter X.env) use) QQ X.xe s:=by
 have ck:=compOkC.of hc;obtain ⟨cl,e5,c1,c2⟩:=Q8n (scope:=sc) (env:=X.env) fun x hx hf=>I.ok.has x.1 (by
  have:=ck.fre x hx hf;rw [<- hE] at this;exact this)
 refine wpAny_comprehension_free (use:=use) rfl hs e5 ck.kind ck.loc (thn (hi pins s σ H _ I h) fun v s1 h1=>thn h1 fun f1 Y h2=>?_)
 obtain ⟨it,fp,tn,J,H2,e,I2,T,c6,f2,hw⟩:=h2;subst e;have b6:∀ b∈fp,b < Y.heap.objs.size:=fun b O=>by
  obtain ⟨o,e,_⟩:=T.obj _ _ c6 b O;exact D9 e
 obtain ⟨W,⟨m0,w0⟩,turn⟩:=hw Y.heap.objs.size I2.fresh;refine bB (Q2d ?_);dsimp only;have I3:Inv X pins σ (upd H2 Y.heap.objs.size (.lst [])) { Y with heap:=Y.heap.push { cls:=.type "list",data:=.seq ([]:List aA).toArray } }:=
  I2.lnew (its:=[]) (ys:=[]) (t':=Y.toks) .nil (M9 _)
 generalize d7:({ Y with heap:=Y.heap.push { cls:=.type "list",data:=.seq ([]:List aA).toArray } }:aC)=Z at I3;have d5:Z.heap=Y.heap.push { cls:=.type "list",data:=.seq ([]:List aA).toArray }:=by rw [<- d7]
 have hsz:Z.heap.objs.size=Y.heap.objs.size + 1:=by rw [d5,L7]
 have f3:∀ b∈fp,Q2b X pins (upd H2 Y.heap.objs.size (.lst [])) b:=fun b O=>by
  obtain ⟨g0,g1⟩:=f2 b O;exact ⟨by rw [Q7 (F8 (b6 b O))]; exact g0,g1⟩
 have k3:∀ b o,Y.heap.get? b=some o->Z.heap.get? b=some o:=fun b o e=>by rw [d5]; exact O5 _ e
 obtain ⟨a3,a6⟩:∃ a3,af (Z.heap.objs.size + 1) sc.names cl=a3:=⟨_,rfl⟩;obtain ⟨h₁,a1⟩:∃ h₁,pushCells (Z.heap.push { cls:=.type "dict",data:=.dict #[] }) sc.names=h₁:=⟨_,rfl⟩;have k1:∀ b o,Z.heap.get? b=some o->h₁.get? b=some o:=fun b o e=>by rw [<- a1]; exact pushCells_keeps _ _ b o (O5 _ e)
 have e2:∀ x c,a3.lookup x=some c->cl.lookup x=some c\/Z.heap.objs.size + 1<=c:=fun x c e=>by
  rw [<- a6] at e;have:=W2 (sc.names) (Z.heap.push { cls:=.type "dict",data:=.dict #[] }) cl x c (by rw [L7]; exact e);rcases this with z | ⟨_,z,_⟩
  ·exact .inl z
  ·rw [L7] at z; exact .inr z
 have I4:Inv (Z8 X N' sc a3 Z.heap.objs.size Z (upd H2 Y.heap.objs.size (.lst [])) fp) [] (zz cap σ) (upd H2 Y.heap.objs.size (.lst [])) { Z with heap:=h₁ }:=by
  rw [<- a6,<- a1];exact Qh8 I3 hN hE ck c1 c2 f3 (fun b O=>E2 (b6 b O) (by rw [hsz]; exact Nat.le_succ _))
 have d0:tn 0 h₁:=T.keep _ _ _ c6 fun b O o e=>k1 b o (k3 b o e)
 generalize B:Z8 X N' sc a3 Z.heap.objs.size Z (upd H2 Y.heap.objs.size (.lst [])) fp=X' at I4;have c5:X'.xe=fun _ _=>False:=by rw [<- B]; rfl
 have U:X'.prog=X.prog:=by rw [<- B]; rfl
 have a2:X'.w=X.w:=by rw [<- B]; rfl
 have c8:X'.K=X.K:=by rw [<- B]; rfl
 have a7:X'.A=X.A:=by rw [<- B]; rfl
 have c9:X'.calm=true:=by rw [<- B]; exact c0
 have b1:X'.env=compEnvC sc a3 Z.heap.objs.size X.env:=by rw [<- B]; rfl
 have b2:X'.env.locals=Z.heap.objs.size:=by rw [b1]; rfl
 have e7:PG X' tg g:=by rw [<- B]; exact hg _ _ _ _ _
 have d8:PE X' elt te:=by rw [<- B]; exact he _ _ _ _ _
 have d2:PTs X' ifs tt:=by rw [<- B]; exact e0 _ _ _ _ _
 have b0:∀ {H':Hp},(∀ b∈fp,H' b=none)->∀ b∈fp,Q2b X' [] H' b:=fun {H'} hn b O=>by
  obtain ⟨_,g1,g2,g3,g4,g5⟩:=f3 b O;refine ⟨hn b O,by rw [b2,hsz]; exact F8 (Nat.lt_succ_of_lt (b6 b O)),?_,?_,?_,fun p hp=>?_⟩
  ·rw [<- B];intro z;rcases D8.mp (I3.stkSub b z) with e | z
   ·exact g1 e
   ·exact g2 z
  ·left
   rw [<- B];exact O
  ·intro x c e;rw [b1] at e;rcases e2 x c e with z | z
   ·exact g4 x c (c1 x c z)
   ·exact fun q=>absurd (E2 (b6 b O) (F9 (F9 (Nat.le_succ _) (hsz ▸ Nat.le_succ _)) (q ▸ z))) (Nat.lt_irrefl _)
  ·rw [<- B] at hp;cases hp
 have d6:∀ {a8:St} {H':Hp} {s':aC},Inv X' [] a8 H' s'->Q (.ref Y.heap.objs.size) H'->compPost (aI X.prog X.w) X.A X.xe use QQ (.ref Y.heap.objs.size) Z.heap.objs.size (.ok .next) s':=fun {a8 H' s'} J q=>by
  obtain ⟨mm,d3,_⟩:=J.loc;rw [b2] at d3;have c3:H' Z.heap.objs.size=none:=by have:=J.free; rw [b2] at this; exact this
  have hok:=J.hok;rw [U,a2] at hok;have u1:Un (frs X.stack) fp (upd H2 Y.heap.objs.size (.lst [])) H' Z.heap s'.heap:=by
   have:=J.base;rw [<- B] at this;exact this
  have e6:s'.os=Z.os:=by have:=J.os; rw [<- B] at this; exact this
  refine fin _ _ H' s' mm (I3.call' (s':=s') e6 u1 hok J.bare fun b O=>?_) d3 (I3.fpOk (O8 _) c3) q
  obtain ⟨_,g1,g2,g3,g4,g5⟩:=f3 b O;exact ⟨g3,g1,g4,g5⟩
 have a4:codeAny (aI X.prog X.w) X.A (.compLoop (.ListComp elt [⟨tg,iter,ifs,0⟩] sc pos) 0 (.ref it) (.ref Y.heap.objs.size) X'.env)
   (compPost (aI X.prog X.w) X.A X.xe use QQ (.ref Y.heap.objs.size) Z.heap.objs.size) { Z with heap:=h₁ }:=by
  refine Q2t (fun n s'=>∃ i ys a8 H',Inv X' [] a8 H' s'/\tn i s'.heap/\(∀ b∈fp,H' b=none)/\W i n ys a8 H') ?_ m0 ⟨0,[],_,_,I4,d0,fun b O=>(f3 b O).1,w0⟩
  rintro n s5 ⟨i,ys,b5,H5,I5,d4,c7,w5⟩;obtain ⟨e9,q⟩:=turn i n ys b5 H5 w5;rcases q with ⟨stop,q⟩ | ⟨go,f0,step⟩
  ·refine thn (a7 ▸ T.done X' U a2 c8 c9 i [] s5 b5 H5 _ I5 (b0 c7) d4 stop) fun r s6 ⟨hr,I6⟩=>?_
   subst hr;exact d6 I6 q
  ·refine thn (a7 ▸ T.item X' U a2 c8 c9 i [] s5 b5 H5 _ I5 (b0 c7) d4 go) fun r s6 ⟨u,hr,h6⟩=>?_
   subst hr;refine thn h6 fun _ s7 ⟨x,H7,I7,r7,y7,b3,e1⟩=>?_
   have e4:=I7.pinned (b0 e1) (T.obj _ _ b3);have g7:=e7 _ s7 b5 H7 x u _ e4 r7 (step x H7 y7);rw [U,a2,a7,c5] at g7;refine thn g7 fun _ s8 ⟨a5,H8,I8,q8⟩=>?_
   have t8:=d2 _ s8 a5 H8 _ I8 q8;rw [U,a2,a7,c5] at t8;refine thn t8 fun e3 d9 ⟨e8,b7,b4⟩=>?_
   cases e3 with
   | false=>
    rw [bO E9] at b4 ⊢;obtain ⟨m',c4,w9⟩:=b4;refine ⟨m',c4,i + 1,_,a5,_,b7.unpinned,T.keep _ _ _ b3 fun b O o eo=>(b7.pin (b,o) (G6 _ (G6 _ (Wf O eo)))).1,fun b O=>?_,w9⟩;obtain ⟨o,eo,d⟩:=T.obj _ _ b3 b O;exact (b7.pin (b,o) (G6 _ (G6 _ (Wf O eo)))).2.1
   | true=>
   rw [bN rfl] at b4 ⊢;have g8:=d8 _ d9 a5 e8 _ b7 b4;rw [U,a2,a7,c5] at g8;refine thn g8 fun y s9 ⟨yv,H9,I9,r9,a9,m',c4,w9⟩=>?_
   obtain ⟨z,its,nn,rr,hl,e⟩:=I9.lstM a9;refine bA F.slot_list_append ⟨_,e,rfl⟩ F.entry_list_append (F.args_list_append_2 _ _) (PySem.list_append _ its.toArray nn y (by rw [D0]; omega)) ⟨e,?_⟩;have b9:Inv X' ([] ++ Q13 fp s7.heap) a5 (upd H9 Y.heap.objs.size (.lst (ys ++ [yv]))) { s9 with heap:=s9.heap.update Y.heap.objs.size (Obj.mapSeq fun a=>a.push y) }:=
    I9.lset (t':=s9.toks) (its':=its ++ [y]) a9 e (by simp) (rr.append (.cons r9 .nil)) (by rw [O7,List.length_singleton]; omega)
   refine ⟨m',c4,i + 1,_,a5,_,b9.unpinned,T.keep _ _ _ b3 fun b O o eo=>(b9.pin (b,o) (G6 _ (G6 _ (Wf O eo)))).1,fun b O=>?_,w9⟩;obtain ⟨o,eo,d⟩:=T.obj _ _ b3 b O;exact (b9.pin (b,o) (G6 _ (G6 _ (Wf O eo)))).2.1
 rw [b1] at a4;have b8:=codeAny_compStart_list (rest:=[]) (ifs:=ifs) a4 (T.self X.A 0 _ _ _ d0 a4);subst d7;rw [<- a6,<- a1] at b8;exact b8
theorem Qep {elt tg iter:aH} {ifs:List aH} {tt:TT} {pos:Pos} {N N':List Str} {sc scE:Scope} {cap:List (Option Nat)} {g:TG} {te:TE} (B:X.calm=true) (hi:PI X tg iter wi)
  (hg:∀ cl C J H0 ex,PG (Z8 X N' sc cl C J H0 ex) tg g) (he:∀ cl C J H0 ex,PE (Z8 X N' sc cl C J H0 ex) elt te) (Y:∀ cl C J H0 ex,PTs (Z8 X N' sc cl C J H0 ex) ifs tt)
  (Z:X.N=N:=by rfl) (hE:X.env.scope=scE:=by rfl) (hc:compOkC N N' sc scE cap=true:=by decide +kernel) (hs:∀ x,av iter X.env x=pure x:=by intro _; rfl) :
  PE X (.ListComp elt [⟨tg,iter,ifs,0⟩] sc pos) (Q42 cap wi g tt te):=by
 intro pins s σ H Q I h;rw [eval_ListComp];refine Q22 (use:=none) B hi hg he Y Z hE hc hs I h fun U C H' s' m I' hm hf q=>⟨m,hm,fun h' O=>?_⟩
 obtain ⟨f0,f1,f2,f3,f4,f5⟩:=hf;exact ⟨.ref U,H',I'.turned (t':=s'.toks) (fun b o hb e=>(O.2 b hb).trans e) f0 f1 f3 f4 f5,rfl,q⟩
theorem Q5y {ifs:List aH} {tt:TT} {i:Nat} {px B:Pos} {elt tg iter:aH} {pos:Pos} {N N':List Str} {sc scE:Scope} {cap:List (Option Nat)} {g:TG} {te:TE} (Z:X.N.Nodup) (a5:X.N[i]?=some x) (hx:Loc X.env.scope x) (J:X.calm=true) (hi:PI X tg iter wi)
  (hg:∀ cl C U H0 ex,PG (Z8 X N' sc cl C U H0 ex) tg g) (he:∀ cl C U H0 ex,PE (Z8 X N' sc cl C U H0 ex) elt te) (a4:∀ cl C U H0 ex,PTs (Z8 X N' sc cl C U H0 ex) ifs tt)
  (a3:swapsWith (.ListComp elt [⟨tg,iter,ifs,0⟩] sc pos) (some (.Name x px)) B.line X.env=pure true:=by rfl)
  (hN:X.N=N:=by rfl) (hE:X.env.scope=scE:=by rfl) (hc:compOkC N N' sc scE cap=true:=by decide +kernel) (hs:∀ x,av iter X.env x=pure x:=by intro _; rfl)
  (hf:X.fn x=true\/X.env.scope.names.lookup x=some .local:=by first | exact .inl rfl | exact .inr rfl | assumption) :
  PS X (.Assign [.Name x px] (.ListComp elt [⟨tg,iter,ifs,0⟩] sc pos) B) (Qmt (Q42 cap wi g tt te) (Q6u i)):=by
 intro pins s σ H D I h;rw [exec_Assign_Name_used _ _ _ _ a3];refine aD (wpAny_standAt (aD ?_));show aF _ _ (do let _ <- comprehension (.ListComp elt [⟨tg,iter,ifs,0⟩] sc pos) sc X.env _ (newList []) false (aL iter X.env) (some (assign (.Name x px) X.env))) _ _ s;refine aD (ak (Q22 (use:=some (assign (.Name x px) X.env)) (QQ:=fun _ s'=>SP X pins D .next s') J hi hg he a4 hN hE hc hs I h ?_) (fun _ s' hq=>wpAny_pure (wpAny_pure hq)) fun _ _ e=>e)
 intro O C H' s' m I' hm a2 q;obtain ⟨f0,f1,f2,f3,f4,f5⟩:=a2;show aF _ _ (assign (.Name x px) X.env (.ref O)) _ _ _;refine wpAny_assign_Name (Q2w I' Z a5 hx (v:=.ref O) rfl (fun s2 I2 ⟨a,sb,Y⟩=>⟨m,?_,fun h' a1=>?_⟩) hf)
 ·refine hm.sameBut sb fun z=>?_
  rcases Y with Y | Y
  ·exact f1 (z.trans Y)
  ·exact f4 x a Y z.symm
 ·exact ⟨_,H',I2.turned (t':=s2.toks) (fun b o hb e=>(a1.2 b hb).trans e) f0 f1 f3 f4 f5,q⟩
section
section
variable {κ:Type} [DecidableEq κ]
def Ug (kvs:List (κ × V)) (k:κ):Option V:=(kvs.find? fun kv=>decide (kv.1=k)).map (·.2)
def X4 (kvs:List (κ × V)) (k:κ) (v:V):List (κ × V):=
 if (kvs.any fun kv=>decide (kv.1=k))=true then kvs.map (fun kv=>if kv.1=k then (kv.1,v) else kv) else kvs ++ [(k,v)]
theorem Q0j {p:κ × V} {r:List (κ × V)} {k:κ} (e:p.1=k):Ug (p :: r) k=some p.2:=by simp [Ug,List.find?_cons,e]
theorem Q0k {p:κ × V} {r:List (κ × V)} {k:κ} (e:¬ p.1=k):Ug (p :: r) k=Ug r k:=by simp [Ug,List.find?_cons,e]
theorem Q59 (k:κ):∀ kvs:List (κ × V),(kvs.any fun B=>decide (B.1=k))=(Ug kvs k).isSome
 | []=>rfl
 | p :: r=>by
  rw [List.any_cons]
  by_cases e:p.1=k
  ·simp only [Q0j e,bQ e,Bool.true_or,Option.isSome_some]
  ·rw [Q0k e,bP e,Bool.false_or]; exact Q59 k r
theorem Kn (kvs:List (κ × V)) (k:κ) (v:V):(X4 kvs k v).length<=kvs.length + 1:=by
 unfold X4
 split
 ·rw [O1]; omega
 ·rw [O7,E4,List.length_nil]; omega
theorem RelO.isSome_eq {u:Option aA} (r:RelO o u):o.isSome=u.isSome:=by
 cases o with
 | none=>cases u with
  | none=>rfl
  | some _=>exact (show False from r).elim
 | some _=>cases u with
  | none=>exact (show False from r).elim
  | some _=>rfl
theorem RelO.getD {u:Option aA} {d:V} {d':aA} (r:RelO o u) (B:RelV d d'):RelV (o.getD d) (u.getD d'):=by
 cases o with
 | none=>cases u with
  | none=>exact B
  | some _=>exact (show False from r).elim
 | some _=>cases u with
  | none=>exact (show False from r).elim
  | some _=>exact r
theorem KV.val {kvs:List (κ × V)} {vs:List (κ × aA)} (r:KV kvs vs) (k:κ):RelO (Ug kvs k) (bG vs k):=by
 unfold KV at r
 induction r with
 | nil=>exact True.intro
 | @cons p q ps B h t J=>
  obtain ⟨h1,h2⟩:=h
  by_cases e:p.1=k
  ·have I:q.1=k:=h1.symm.trans e;have b:bG (q :: B) k=some q.2:=by simp [bG,List.find?_cons,I]
   rw [Q0j e,b]; exact h2
  ·have I:¬ q.1=k:=fun z=>e (h1.trans z)
   have b:bG (q :: B) k=bG B k:=by simp [bG,List.find?_cons,I]
   rw [Q0k e,b]; exact J
theorem KV.any {kvs:List (κ × V)} {vs:List (κ × aA)} (r:KV kvs vs) (k:κ):(kvs.any fun B=>decide (B.1=k))=vs.any fun B=>decide (B.1=k):=by
 unfold KV at r
 induction r with
 | nil=>rfl
 | cons h t I=>rw [List.any_cons,List.any_cons,I,h.1]
theorem KV.repl {kvs:List (κ × V)} {vs:List (κ × aA)} (r:KV kvs vs) (k:κ) (J:RelV y u) :
  KV (kvs.map fun B=>if B.1=k then (B.1,y) else B) (vs.map fun B=>if B.1=k then (B.1,u) else B):=by
 unfold KV at r ⊢
 induction r with
 | nil=>exact .nil
 | @cons p q ps O h t I=>
  rw [D3,D3];refine .cons ?_ I;obtain ⟨h1,h2⟩:=h
  by_cases e:p.1=k
  ·rw [bN e,bN (h1.symm.trans e)]; exact ⟨h1,J⟩
  ·rw [bO e,bO (fun z=>e (h1.trans z))]; exact ⟨h1,h2⟩
theorem KV.put {kvs:List (κ × V)} {vs:List (κ × aA)} (r:KV kvs vs) (k:κ) (B:RelV y u):KV (X4 kvs k y) (stored vs k u):=by
 unfold X4 stored;rw [r.any k]
 by_cases e:(vs.any fun I=>decide (I.1=k))=true
 ·rw [bN e,bN e]; exact r.repl k B
 ·rw [bO e,bO e]; exact Paired.snoc r ⟨rfl,B⟩
theorem KV.length {kvs:List (κ × V)} {vs:List (κ × aA)} (r:KV kvs vs):kvs.length=vs.length:=Paired.length r
end
theorem Q6s {w:aJ} {k:Key} (r:RelV (kV k) u):(Zm P w).is k u=true:=by
 cases k with
 | inl i=>obtain ⟨t,e⟩:=(show ∃ t,u=Value.int i t from r); subst e; exact Q6f P w i t
 | inr x=>obtain ⟨t,e⟩:=(show ∃ t,u=Value.str x t from r); subst e; exact Q6e P w x t
abbrev KT (H:Hp):List (HK × V)->List (HK × aA × aA)->Prop:=aq fun p q=>p.1=q.1/\(∃ u,KR H p.1 u/\RelV u q.2.1)/\RelV p.2 q.2.2
theorem KT.val {kvs:List (HK × V)} (r:KT H kvs xs) (k:HK):RelO (Ug kvs k) ((vAt xs k).map (·.2)):=by
 induction r with
 | nil=>exact True.intro
 | @cons p q ps B h t J=>
  obtain ⟨h1,_,h2⟩:=h
  by_cases e:p.1=k
  ·have I:q.1=k:=h1.symm.trans e;have b:vAt (q :: B) k=some q.2:=by simp [vAt,List.find?_cons,I]
   rw [Q0j e,b]; exact h2
  ·have I:¬ q.1=k:=fun z=>e (h1.trans z)
   have b:vAt (q :: B) k=vAt B k:=by simp [vAt,List.find?_cons,I]
   rw [Q0k e,b]; exact J
theorem KT.repl {kvs:List (HK × V)} (r:KT H kvs xs) (k:HK) (J:RelV y u) :
  KT H (kvs.map fun B=>if B.1=k then (B.1,y) else B) (xs.map (Wa k u)):=by
 induction r with
 | nil=>exact .nil
 | @cons p q ps U h t O=>
  rw [D3,D3];refine .cons ?_ O;obtain ⟨h1,h2,I⟩:=h;unfold Wa
  by_cases e:p.1=k
  ·rw [bN e,bN (h1.symm.trans e)]; exact ⟨h1,h2,J⟩
  ·rw [bO e,bO (fun z=>e (h1.trans z))]; exact ⟨h1,h2,I⟩
theorem KT.put {kvs:List (HK × V)} (r:KT H kvs xs) (k:HK) {b:V} {B:aA} (J:KR H k b) (rb:RelV b B) (I:RelV y u) :
  KT H (X4 kvs k y) (xu xs k B u):=by
 have e:(kvs.any fun B=>decide (B.1=k))=(vAt xs k).isSome:=by
  rw [Q59,(r.val k).isSome_eq,Option.isSome_map]
 unfold X4 xu;rw [e]
 by_cases q:(vAt xs k).isSome=true
 ·rw [bN q,bN q]; exact r.repl k I
 ·rw [bO q,bO q]; exact Paired.snoc r ⟨rfl,⟨b,J,rb⟩,I⟩
theorem KT.keeps {kvs:List (HK × V)} (r:KT H kvs xs) (B:∀ b ys,H b=some (.tup ys)->H' b=some (.tup ys)):KT H' kvs xs:=
 Paired.mapP r fun _ _ z=>⟨z.1,(let ⟨u,a,b⟩:=z.2.1; ⟨u,a.keep B,b⟩),z.2.2⟩
section
variable {P:aM} {w:aJ} {H:Hp} {h:Heap} {a:aB}
theorem Qku {u:HO} (ok:HOk P w H h) (e:Rd H a u):ObjOk P w H h a u:=e.ok ok
theorem Q20 {kvs:List (Key × V)} (ok:HOk P w H h) (e:Rd H a (.dK kvs)):kvs.length<=sizeLine/\(a == aZ)=false/\∃ vs,KV kvs vs/\h.DictOf (Zm P w) a vs:=
 show ObjOk P w H h a (.dK kvs) from Qku ok e
theorem Qm6 {kvs:List (Key × V)} (ok:HOk P w H h) (e:H a=some (.dK kvs)):kvs.length<=sizeLine/\(a == aZ)=false/\∃ vs,KV kvs vs/\h.DictOf (Zm P w) a vs:=Q20 ok (.inl e)
mutual
theorem Qfr (ok:HOk P w H h):∀ {k:HK} {v:V} {u:aA},KAt H k v->RelV v u->KIs h k u
 | .int _,_,_,r,B=>by cases r; exact B
 | .str _,_,_,r,B=>by cases r; exact B
 | .tup l,_,u,⟨a,vs,e,J,r⟩,B=>by
  subst e;cases (show u=Value.ref a from B);obtain ⟨_,its,I,p⟩:=(show ObjOk P w H h a (.tup vs) from ok a _ J);exact ⟨a,its.toArray,rfl,p,by simpa using katL_is ok r I⟩
theorem katL_is (ok:HOk P w H h):∀ {l:List HK} {vs:List V} {us:List aA},KAtL H l vs->Vals vs us->KIsL h l us
 | [],_,_,r,B=>by cases r; cases B; rfl
 | _ :: _,_,_,⟨v,r,e,h1,t⟩,B=>by
  subst e;cases B with
  | cons a b=>exact ⟨_,_,rfl,Qfr ok h1 a,katL_is ok t b⟩
end
theorem Q58 {u:V} {v:aA} (ok:HOk P w H h) (e:KR H k u) (r:RelV u v):KIs h k v/\Dp 5 k:=⟨Qfr ok e.1 r,e.2⟩
theorem qd (B:A.units + 9 < aO):A.units + 6 < aO:=by omega
theorem K4 {kvs:List (HK × V)} (ok:HOk P w H h) (e:Rd H a (.dT kvs)):kvs.length<=sizeLine/\(a == aZ)=false /\
  ∃ xs,KT H kvs xs/\DictV P w h a xs:=by
 obtain ⟨z,y,xs,r,o,es,ep,h1,h2,O,Y,J⟩:=(show ObjOk P w H h a (.dT kvs) from Qku ok e);refine ⟨z,y,xs,r,o,es,ep,h1,h2,O,Y,fun x B=>?_,J⟩;have all:∀ {l:List (HK × V)} {m:List (HK × aA × aA)},KT H l m->∀ x∈m,KIs h x.1 x.2.1/\Dp 5 x.1:=by
  intro l m q
  induction q with
  | nil=>intro x B; exact nomatch B
  | @cons p q ps Z I t U=>
   intro x B;rcases D8.mp B with e | B
   ·subst e;obtain ⟨u,a,b⟩:=I.2.1;exact Q58 ok (by rw [<- I.1]; exact a) b
   ·exact U x B
 exact all r x B
theorem Qgf {kvs:List (HK × V)} (ok:HOk P w H h) (e:H a=some (.dT kvs)):kvs.length<=sizeLine/\(a == aZ)=false /\
  ∃ xs,KT H kvs xs/\DictV P w h a xs:=K4 ok (.inl e)
end
def DGet (H:Hp) (a:aB) (y:V) (r:Option V):Prop:=
 (∃ kvs k,Rd H a (.dK kvs)/\y=kV k/\r=Ug kvs k)\/∃ kvs k b,Rd H a (.dT kvs)/\y=b/\KR H k b/\r=Ug kvs k
def DPut (H:Hp) (a:aB) (y v:V) (H':Hp):Prop:=
 (∃ kvs k,H a=some (.dK kvs)/\y=kV k/\kvs.length < sizeLine/\H'=upd H a (.dK (X4 kvs k v))) \/
 ∃ kvs k b,H a=some (.dT kvs)/\y=b/\KR H k b/\kvs.length < sizeLine/\H'=upd H a (.dT (X4 kvs k v))
theorem DPut.t {b:V} {kvs:List (HK × V)} {v:V} (e:H a=some (.dT kvs)) (I:KR H k b) (B:kvs.length < sizeLine) :
  DPut H a b v (upd H a (.dT (X4 kvs k v))):=.inr ⟨kvs,k,b,e,rfl,I,B,rfl⟩
section
variable {X:Cx} {pins:List (aB × Obj)} {σ:St} {H:Hp} {s:aC} {a:aB} {y v:V} {u r:aA} {o:Option V} {A:aQ} {E:aA->aC->Prop}
theorem Inv.big (I:Inv X pins σ H s):aZ < s.heap.objs.size:=by
 have h:aS < s.heap.objs.size:=(I.mod.glob.keeps I.bk).lt;exact Nat.lt_trans (by decide) h
theorem Qc0 (hu:A.units + 9 < aO) (I:Inv X pins σ H s) (g:DGet H a y (some v)) (ry:RelV y u) (h:∀ O s',Inv X pins σ H s'->RelV v O->Q O s') :
  aF (aI X.prog X.w) A (getItem (.ref a) u) Q E s:=by
 rcases g with ⟨kvs,k,e,U,l⟩ | ⟨kvs,k,b,e,U,eb,l⟩
 ·subst U;obtain ⟨z,hd,vs,B,dd⟩:=Q20 I.hok e;obtain ⟨O,Y,J⟩:=RelO.some_of (v:=v) (o:=bG vs k) (by rw [l]; exact B.val k);exact wpAny_getItem_of (Q6s ry) dd.mapOf Y (h O _ (I.tok _) J)
 ·subst U;obtain ⟨z,hd,xs,B,dd⟩:=K4 I.hok e;obtain ⟨O,Y,J⟩:=RelO.some_of (v:=v) (o:=(vAt xs k).map (·.2)) (by rw [l]; exact B.val k);obtain ⟨p,hp,Z⟩:=Option.map_eq_some_iff.mp Y;refine Qap (qd hu) (Q58 I.hok eb ry) dd hp ?_;rw [Z];exact h O _ (I.tok _) J
theorem Qxb (U:A.units + 9 < aO) (I:Inv X pins σ H s) (g:DGet H a y o) (O:RelV y u) (h:∀ s',Inv X pins σ H s'->Q (.bool o.isSome) s') :
  aF (aI X.prog X.w) A (aR .In u (.ref a)) Q E s:=by
 rcases g with ⟨kvs,k,e,J,l⟩ | ⟨kvs,k,b,e,J,Y,l⟩
 ·subst J;obtain ⟨z,hd,vs,B,dd⟩:=Q20 I.hok e;refine wpAny_in_of (Q6s O) hd dd.mapOf ?_;rw [<- (B.val k).isSome_eq,<- l];exact h _ (I.tok _)
 ·subst J;obtain ⟨z,hd,xs,B,dd⟩:=K4 I.hok e;refine Qw8 (qd U) (Q58 I.hok Y O) hd dd ?_;have q:=(B.val k).isSome_eq;rw [Option.isSome_map] at q;rw [<- q,<- l];exact h _ (I.tok _)
theorem Qk6 (U:A.units + 9 < aO) (I:Inv X pins σ H s) (g:DGet H a y o) (O:RelV y u) (h:∀ s',Inv X pins σ H s'->Q (.bool (!o.isSome)) s') :
  aF (aI X.prog X.w) A (aR .NotIn u (.ref a)) Q E s:=by
 rcases g with ⟨kvs,k,e,J,l⟩ | ⟨kvs,k,b,e,J,Y,l⟩
 ·subst J;obtain ⟨z,hd,vs,B,dd⟩:=Q20 I.hok e;refine wpAny_notIn_of (Q6s O) hd dd.mapOf ?_;rw [<- (B.val k).isSome_eq,<- l];exact h _ (I.tok _)
 ·subst J;obtain ⟨z,hd,xs,B,dd⟩:=K4 I.hok e;refine Qhk (qd U) (Q58 I.hok Y O) hd dd ?_;have q:=(B.val k).isSome_eq;rw [Option.isSome_map] at q;rw [<- q,<- l];exact h _ (I.tok _)
theorem zy {t':Nat} {ob:HO} (I:Inv X pins σ H s) (O:Mut (H a)) (hs:Heap.SameBut a s.heap h') (B:∃ q,h'.get? a=some q) (new:ObjOk X.prog X.w (upd H a ob) h' a ob) :
  Inv X pins σ (upd H a ob) { s with heap:=h',toks:=t' }:=
 I.write (x:=a) (e:=a) O (.inl rfl) (fun b q J z=>(hs.2 b J).trans z) B new
theorem Qgi {w:aJ} {H':Hp} {kvs:List (Key × V)} {vs:List (Key × aA)} (z:kvs.length<=sizeLine) (hd:(a == aZ)=false) (B:KV kvs vs) (dd:h'.DictOf (Zm P w) a vs) :
  ObjOk P w H' h' a (.dK kvs):=⟨z,hd,vs,B,dd⟩
theorem Qbz {Q:Unit->aC->Prop} (hu:A.units + 9 < aO) (I:Inv X pins σ H s) (g:DPut H a y v H') (Y:RelV y u) (rv:RelV v r) (h:∀ s',Inv X pins σ H' s'->Q () s') :
  aF (aI X.prog X.w) A (setItem (.ref a) u r) Q E s:=by
 rcases g with ⟨kvs,k,e,U,l,eH⟩ | ⟨kvs,k,b,e,U,eb,l,eH⟩
 ·subst U eH;obtain ⟨z,hd,vs,B,dd⟩:=Qm6 I.hok e;have hz:vs.length<=sizeLine:=by rw [<- B.length]; exact z
  have Z:(X4 kvs k v).length<=sizeLine:=by have:=Kn kvs k v; omega
  refine wpAny_setItem_pairs (hsz:=hz) (Q6s Y) dd fun h' J hs=>h _ ?_
  have he:∃ q,h'.get? a=some q:=let ⟨q,_,_,O,_⟩:=J; ⟨q,O⟩;exact zy I (by rw [e]; exact True.intro) hs he (Qgi Z hd (B.put k rv) J)
 ·subst U eH;obtain ⟨z,hd,xs,B,dd⟩:=Qgf I.hok e;have hz:xs.length<=sizeLine:=by rw [<- Paired.length B]; exact z
  have Z:(X4 kvs k v).length<=sizeLine:=by have:=Kn kvs k v; omega
  refine Qan (qd hu) (Q58 I.hok eb Y) dd (fun h' J hs=>h _ ?_) hz;obtain ⟨q,es,ep,O,h2,h3,h4,_,h5⟩:=J;refine zy I (by rw [e]; exact True.intro) hs ⟨q,O⟩ ⟨Z,hd,_,(B.put k eb Y rv).keeps fun c ys ec=>?_,q,es,ep,O,h2,h3,h4,h5⟩;rw [Q7 (Qf1 ec e (fun z=>nomatch z))];exact ec
end
section
variable {X:Cx} {pins:List (aB × Obj)} {σ:St} {H:Hp} {s:aC} {a:aB} {kvs:List (Key × V)} {k:Key} {u:aA} {A:aQ} {E:aA->aC->Prop}
theorem Qk7 (I:Inv X pins σ H s) (e:H a=some (.dK kvs)) (h:∀ s',Inv X pins σ (upd H a (.dK [])) s'->Q .none s'):aF (aI X.prog X.w) A (call (.builtin "dict.clear") [.ref a]) Q E s:=by
 obtain ⟨z,hd,vs,J,dd⟩:=Qm6 I.hok e;refine call_meetsIn PySem.F.slot_dict_clear dd.typeIs PySem.F.entry_dict_clear (PySem.F.args_dict_clear_1 _) (meets_dict_clear (Zm X.prog X.w) a) ⟨vs,dd,by rw [<- J.length]; exact z,fun h' B hs=>h _ ?_⟩;have U:∃ q,h'.get? a=some q:=let ⟨q,_,_,O,_⟩:=B; ⟨q,O⟩;exact zy (t':=s.toks) I (by rw [e]; exact True.intro) hs U (Qgi (M9 _) hd .nil B)
end
def Qrk (i:aH):Prop:=∀ ov iv,subscripted i false ov iv=operate [ov,iv] (getItem ov iv)
theorem Qht {prog:aM} {w:aJ} {A:aQ} {E:aA->aC->Prop} {s:aC} {env:Env} {value B:aH} {pos:Pos} {T id:String} {Q:aA->aC->Prop}
  (hl:typeLookup (.type T) "__getitem__" = pure (some (.builtin id))) (hs:Qrk B)
  (h:aF (aI prog w) A (aL value env) (fun o O=>aF (aI prog w) A (aL B env) (fun i I=>I.TypeIs o T/\aF (aI prog w) A (getItem o i) Q E I) E O) E s) :
  aF (aI prog w) A (aL (.Subscript value B pos) env) Q E s:=by
 refine Subscript_ (ak h (fun o O h₁=>ak h₁ (fun i I J=>?_) fun _ _ x=>x) fun _ _ x=>x)
 obtain ⟨Z,J⟩:=J;unfold subscriptTail;refine aD ?_;rw [getitemInPython_of_ne Z.not_modules];refine aD (wpAny_specialOf Z hl ?_);have fin:aF (aI prog w) A (subscripted B false o i) (fun r U=>aF (aI prog w) A (letTemporaryGo value o r >>= fun _=>pure r) Q E U) E I:=by
  rw [hs o i];exact wpAny_operating (ak J (fun r U Y=>aD (wpAny_letTemporaryGo (wpAny_pure Y))) fun _ _ x=>x)
 first
  | exact wpAny_pure (aD fin)
  | exact aD (wpAny_pure (aD fin))
  | exact aD fin
theorem Q70 {pins:List (aB × Obj)} (I:Inv X pins σ H s) (g:DGet H a y o):s.TypeIs (.ref a) "dict" := by
 rcases g with ⟨kvs,k,e,_,_⟩ | ⟨kvs,k,b,e,_,_,_⟩
 ·obtain ⟨_,_,vs,_,dd⟩:=Q20 I.hok e;exact dd.typeIs
 ·obtain ⟨_,_,xs,_,dd⟩:=K4 I.hok e;exact dd.typeIs
def Qsf (td ty:TE):TE:=fun σ H Q=>td σ H fun x H1=>ty σ H1 fun y H2=>∃ a v,x=.ref a/\DGet H2 a y (some v)/\Q v H2
def Qst (td ty tv:TE):TS:=fun D σ H=>tv σ H fun v H1=>td σ H1 fun x H2=>ty σ H2 fun y H3=>∃ a H4,x=.ref a/\DPut H3 a y v H4/\D.nx σ H4
section
variable {X:Cx} {o i e value:aH} {pos pos' tpos:Pos} {td ty tv:TE}
theorem Qj3 (Z:X.A.units + 9 < aO) (ho:PE X o td) (hi:PE X i ty) (hs:Qrk i):PE X (.Subscript o i pos) (Qsf td ty):=by
 intro pins s σ H Q I h;refine Qht PySem.F.slot_dict_getitem.lookup hs (thn (ho pins s σ H _ I h) fun u s1 ⟨x,H1,U,Y,q1⟩=>thn (hi pins s1 σ H1 _ U q1) fun iv s2 ⟨y,H2,J,O,a,v,ex,g,q2⟩=>?_)
 subst ex;obtain rfl:u=Value.ref a:=Y;exact ⟨Q70 J g,Qc0 Z J g O fun w' s3 I3 B=>⟨v,H2,I3,B,q2⟩⟩
theorem Qir (hu:X.A.units + 9 < aO) (ho:PE X o td) (hi:PE X i ty) (hv:PE X value tv) (hs:swapsWith value (some (.Subscript o i pos')) pos.line X.env=pure false) :
  PS X (.Assign [.Subscript o i pos'] value pos) (Qst td ty tv):=by
 intro pins s σ H D I h;refine wpAny_Assign_Subscript (thn (hv pins s σ H _ I h) fun r s1 ⟨v,H1,I1,rv,Y⟩=>thn (ho pins s1 σ H1 _ I1 Y) fun u s2 ⟨x,H2,J,rx,U⟩=>thn (hi pins s2 σ H2 _ J U) fun iv s3 ⟨y,H3,Z,ry,a,B,ex,g,q3⟩=>?_) hs
 subst ex;obtain rfl:u=Value.ref a:=rx;exact Qbz hu Z g ry rv fun s4 O=>⟨σ,B,O,q3⟩
end
theorem Q6z {w:aJ} (h:Heap) (B:aZ < h.objs.size):ObjOk P w H (h.push { cls:=.type "dict",data:=.dict #[] }) h.objs.size (.dT []):=
 ⟨M9 _,beq_eq_false_iff_ne.mpr (Ne.symm (F8 B)),[],.nil,_,#[],0,E8 _ rfl,⟨rfl,rfl,rfl⟩,rfl,rfl,List.nodup_nil⟩
def Qmr:TE:=fun _ H Q=>∀ p,H p=none->Q (.ref p) (upd H p (.dT []))
section
variable {X:Cx} {pos:Pos}
theorem Qem:PE X (.Dict [] [] pos) Qmr:=fun pins s σ H Q I h=>
 wpAny_Dict_empty ⟨.ref s.heap.objs.size,_,I.laid (a:=s.heap.objs.size) (o:=.dT []) (t':=s.toks) (fun _ _ q=>O5 _ q) (O8 _) (Q6z s.heap I.big),rfl,h _ (I.hok.fresh (O8 _))⟩
end
def Q7g:List (TE × TE)->St->Hp->(List (V × V)->Hp->Prop)->Prop
 | [],_,H,Q=>Q [] H
 | (tk,tv) :: r,σ,H,Q=>tk σ H fun x H1=>tv σ H1 fun y H2=>Q7g r σ H2 fun ps H3=>Q ((x,y) :: ps) H3
abbrev VV:List (V × V)->List (aA × aA)->Prop:=aq fun p q=>RelV p.1 q.1/\RelV p.2 q.2
def PPs (X:Cx) (pos:Pos) (keys:List (Option aH)) (values:List aH) (trs:List (TE × TE)):Prop:=
 ∀ (pins:List (aB × Obj)) (s:aC) (σ:St) (H:Hp) (Q:List (V × V)->Hp->Prop),Inv X pins σ H s->Q7g trs σ H Q ->
  aF (aI X.prog X.w) X.A (evalPairs (pairTrees keys values X.env pos)) (fun vs s'=>∃ ps H',Inv X pins σ H' s'/\VV ps vs/\Q ps H') X.xe s
theorem Qit {pos:Pos}:PPs X pos [] [] []:=fun pins s σ H Q I h=>pairTrees_nil_walk ⟨[],H,I,.nil,h⟩
theorem Qe8 {pos:Pos} {k v:aH} {ks:List (Option aH)} {vs:List aH} {O tv:TE} {B:List (TE × TE)} (hk:PE X k O) (hv:PE X v tv) (U:PPs X pos ks vs B) :
  PPs X pos (some k :: ks) (v :: vs) ((O,tv) :: B):=fun pins s σ H Q I h=>
 pairTrees_cons_walk (thn (hk pins s σ H _ I h) fun u s1 ⟨x,H1,I1,rx,q1⟩=>thn (hv pins s1 σ H1 _ I1 q1) fun w2 s2 ⟨y,H2,Y,ry,Z⟩=>
  thn (U pins s2 σ H2 _ Y Z) fun ws s3 ⟨ps,H3,I3,J,q3⟩=>⟨(x,y) :: ps,H3,I3,.cons ⟨rx,ry⟩ J,q3⟩)
structure M1 (X:Cx) (o:aH) (m:Str) (apos:Pos) (e:aH) (cpos:Pos):Prop where
 base:bC o m X.env (aL o X.env)=aL o X.env
 few:((aX cpos (aN [e] X.env)).all (fun x=>!x.1) && (backToKw cpos (keywordEach [] X.env)).all (fun x=>x.1.isSome)
  && decide (([e]:List aH).length + ([]:List Keyword).length + (if ([]:List Keyword).isEmpty then 0 else 1) < 30))=true
 line:(apos.endLine == cpos.line)=true
 trees:aX cpos (aN [e] X.env)=[(false,aL e X.env)]
structure M2 (X:Cx) (o:aH) (m:Str) (apos:Pos) (e f:aH) (cpos:Pos):Prop where
 base:bC o m X.env (aL o X.env)=aL o X.env
 few:((aX cpos (aN [e,f] X.env)).all (fun x=>!x.1) && (backToKw cpos (keywordEach [] X.env)).all (fun x=>x.1.isSome)
  && decide (([e,f]:List aH).length + ([]:List Keyword).length + (if ([]:List Keyword).isEmpty then 0 else 1) < 30))=true
 line:(apos.endLine == cpos.line)=true
 trees:aX cpos (aN [e,f] X.env)=[(false,aL e X.env),(false,aL f X.env)]
def IsD (H:Hp) (a:aB):Prop:=(∃ kvs,Rd H a (.dK kvs))\/∃ kvs,Rd H a (.dT kvs)
theorem Qft {pins:List (aB × Obj)} (I:Inv X pins σ H s) (d:IsD H a) :
  s.TypeIs (.ref a) "dict" /\ (∀ b,Value.ref a=.ref b->∃ ob,s.heap.get? b=some ob/\ob.dict=none)/\(a == aZ)=false:=by
 rcases d with ⟨kvs,e⟩ | ⟨kvs,e⟩
 ·obtain ⟨_,hd,vs,_,dd⟩:=Q20 I.hok e;refine ⟨dd.typeIs,fun b q=>?_,hd⟩;cases q;obtain ⟨ob,_,_,h1,h2,_⟩:=dd;exact ⟨ob,h1,h2.2.1⟩
 ·obtain ⟨_,hd,xs,_,dd⟩:=K4 I.hok e;refine ⟨dd.typeIs,fun b q=>?_,hd⟩;cases q;obtain ⟨ob,_,_,h1,h2,_⟩:=dd;exact ⟨ob,h1,h2.2.1⟩
section
variable {X:Cx} {pins:List (aB × Obj)} {σ:St} {H:Hp} {s:aC} {a:aB} {y d:V} {u r:aA} {o:Option V} {A:aQ} {E:aA->aC->Prop}
theorem Qr3 (Z:A.units + 9 < aO) (I:Inv X pins σ H s) (g:DGet H a y o) (O:RelV y u) (Y:RelV d r) (h:∀ U s',Inv X pins σ H s'->RelV (o.getD d) U->Q U s') :
  aF (aI X.prog X.w) A (call (.builtin "dict.get") [.ref a,u,r]) Q E s:=by
 rcases g with ⟨kvs,k,e,J,l⟩ | ⟨kvs,k,b,e,J,eb,l⟩
 ·subst J;obtain ⟨z,hd,vs,B,dd⟩:=Q20 I.hok e;refine call_meetsIn PySem.F.slot_dict_get dd.typeIs PySem.F.entry_dict_get (PySem.F.args_dict_get_3 _ _ _) (meets_dict_get_default (Zm X.prog X.w) a (Q6s O) hd r) ⟨_,dd.mapOf,h _ _ (I.tok _) ?_⟩;rw [l];exact (B.val k).getD Y
 ·subst J;obtain ⟨z,hd,xs,B,dd⟩:=K4 I.hok e;refine call_meetsIn PySem.F.slot_dict_get dd.typeIs PySem.F.entry_dict_get (PySem.F.args_dict_get_3 _ _ _) (Qhm hd r) ⟨qd Z,k,xs,Q58 I.hok eb O,dd,h _ _ (I.tok _) ?_⟩;rw [l];exact (B.val k).getD Y
end
def Qms (td ty tx:TE):TE:=fun σ H Q=>td σ H fun x H1=>∃ a,x=.ref a/\IsD H1 a/\ty σ H1 fun y H2=>tx σ H2 fun z H3=>∃ o,DGet H3 a y o/\Q (o.getD z) H3
section
variable {X:Cx} {o e f:aH} {apos cpos:Pos} {td ty tx:TE}
theorem Qen (hu:X.A.units + 9 < aO) (ho:PE X o td) (he:PE X e ty) (hf:PE X f tx) (m:M2 X o "get" apos e f cpos):PE X (.Call (.Attribute o "get" apos) [e,f] [] cpos) (Qms td ty tx):=by
 intro pins s σ H Q I h;refine wpAny_Call_method m.base m.few m.line PySem.F.plainAttrs_dict PySem.F.slot_dict_get PySem.F.type_dict_get (thn (ho pins s σ H _ I h) fun u s1 ⟨x,H1,J,rx,a,ex,d,Z⟩=>?_)
 subst ex;obtain rfl:u=Value.ref a:=rx;obtain ⟨t1,t2,_⟩:=Qft J d;refine ⟨t1,t2,?_⟩;rw [m.trees];refine Calls.callWith_builtin rfl (Calls.evalArgs_plain (Calls.spliced_cons (thn (he pins s1 σ H1 _ J Z) fun iv s2 ⟨y,H2,O,ry,Y⟩=>
  Calls.spliced_cons (thn (hf pins s2 σ H2 _ O Y) fun fv s3 ⟨z,H3,I3,rz,ov,g,q3⟩=>Calls.spliced_nil ?_))))
 exact Qr3 hu I3 g ry rz fun w' s4 U B=>⟨_,H3,U,B,q3⟩
end
end
variable {pins:List (aB × Obj)} {σ:St} {a:aB} {tg:aH}
def Qhh (X:Cx) (a:aB):Prop:=∀ o u,X.H₀ a≠some (.frz o u)
end L2
namespace L2
open PySem PySem.Spec PyProof.Rows PySem.W
variable {p:Array Nat} {n:Nat} {h:Heap} {vs:List aA}
def evT {α:Type} (c:Nat->Nat->Bool):KasT α->α
 | .ret a=>a
 | .ask i j k=>evT c (k (c i j))
theorem X9 {α β:Type} (c:Nat->Nat->Bool) (f:α->KasT β):∀ t:KasT α,evT c (t.bind f)=evT c (f (evT c t))
 | .ret _=>rfl
 | .ask i j k=>X9 c f (k (c i j))
section
variable (r:Nat->Nat)
def rk (p:Array Nat) (i:Nat):Nat:=r (p.getD i 0)
def cR:Nat->Nat->Bool:=fun i j=>decide (r i < r j)
variable {r}
theorem Q5r {q:Array Nat} {i j:Nat} (h:p[i]?=q[j]?):rk r p i=rk r q j:=by
 unfold rk;rw [Array.getD_eq_getD_getElem?,Array.getD_eq_getD_getElem?,h]
theorem Q7p {i j:Nat} (B:j<=p.size) (k:Nat):rk r (kas_rev p i j) k=if i<=k/\k < j then rk r p (i + j - 1 - k) else rk r p k:=by
 have h:=getElem?_mirror_all (xs:=p) (i:=i) B k
 by_cases q:i<=k/\k < j
 ·rw [bN q] at h ⊢; exact Q5r h
 ·rw [bO q] at h ⊢; exact Q5r h
theorem Qdr {B d:Nat} (hs:B < p.size) (hd:d<=B) (k:Nat):rk r (bubble p B d) k=if k=B - d then rk r p B else if B - d < k/\k<=B then rk r p (k - 1) else rk r p k:=by
 have h:=getElem?_bubble hs d hd k
 by_cases q:k=B - d
 ·rw [bN q] at h ⊢; exact Q5r h
 ·rw [bO q] at h ⊢
  by_cases I:B - d < k/\k<=B
  ·rw [bN I] at h ⊢; exact Q5r h
  ·rw [bO I] at h ⊢; exact Q5r h
theorem jy (i j:Nat):(kas_rev p i j).size=p.size:=mirror_size _ _ _ _
theorem Yx (i j:Nat):(kas_rev p i j).Perm p:=mirror_perm _ _ _ _
theorem Q8v (p:Array Nat):∀ f n,1<=n->n<=evT (cR r) (kas_asc p f n)/\evT (cR r) (kas_asc p f n)<=n + f/\(∀ i,n<=i->i < evT (cR r) (kas_asc p f n)->rk r p (i - 1)<=rk r p i)/\(evT (cR r) (kas_asc p f n) < n + f->rk r p (evT (cR r) (kas_asc p f n)) < rk r p (evT (cR r) (kas_asc p f n) - 1))
 | 0,n,_=>⟨O8 _,O8 _,fun i h1 h2=>absurd h2 (by show ¬ i < n; omega),fun h=>absurd h (by show ¬ n < n + 0; omega)⟩
 | f + 1,n,J=>by
  have e:evT (cR r) (kas_asc p (f + 1) n)=if rk r p n < rk r p (n - 1) then n else evT (cR r) (kas_asc p f (n + 1)):=by
   show evT (cR r) (if decide (rk r p n < rk r p (n - 1))=true then KasT.ret n else kas_asc p f (n + 1))=_
   by_cases q:rk r p n < rk r p (n - 1)
   ·rw [bN (by simpa using q),bN q]; rfl
   ·rw [bO (by simpa using q),bO q]
  rw [e]
  by_cases q:rk r p n < rk r p (n - 1)
  ·rw [bN q];exact ⟨O8 _,by omega,fun i h1 h2=>by omega,fun _=>q⟩
  ·rw [bO q];obtain ⟨h1,h2,I,B⟩:=Q8v p f (n + 1) (by omega);refine ⟨by omega,by omega,fun i O g2=>?_,fun g=>B (by omega)⟩
   by_cases z:i=n
   ·subst z; omega
   ·exact I i (by omega) g2
theorem Q0y {i j:Nat} (B:j<=p.size) (h:∀ k,i<=k->k < j->rk r p k=rk r p (j - 1)) (k:Nat):rk r (kas_rev p i j) k=rk r p k:=by
 rw [Q7p B]
 by_cases q:i<=k/\k < j
 ·rw [bN q,h (i + j - 1 - k) (by omega) (by omega),h k q.1 q.2]
 ·rw [bO q]
structure Dsc (r:Nat->Nat) (p:Array Nat) (n q:Nat):Prop where
 n1:1<=n
 sz:n<=p.size
 qn:q + 1<=n
 de:∀ i,1<=i->i < n->rk r p i<=rk r p (i - 1)
 eq:∀ i,n - (q + 1)<=i->i < n->rk r p i=rk r p (n - 1)
theorem Q0f:∀ f (p:Array Nat) n q,Dsc r p n q->n + f<=p.size->Dsc r (evT (cR r) (kas_desc f p n q)).1 (evT (cR r) (kas_desc f p n q)).2.1 (evT (cR r) (kas_desc f p n q)).2.2/\(evT (cR r) (kas_desc f p n q)).1.Perm p/\n<=(evT (cR r) (kas_desc f p n q)).2.1/\(evT (cR r) (kas_desc f p n q)).2.1<=n + f
 | 0,p,n,q,h,_=>⟨h,Array.Perm.refl _,O8 _,O8 _⟩
 | f + 1,p,n,q,h,hs=>by
  have e:evT (cR r) (kas_desc (f + 1) p n q)=if rk r p n < rk r p (n - 1) then (if q > 0 then evT (cR r) (kas_desc f (kas_rev p (n - (q + 1)) n) (n + 1) 0) else evT (cR r) (kas_desc f p (n + 1) 0)) else if rk r p (n - 1) < rk r p n then (p,n,q) else evT (cR r) (kas_desc f p (n + 1) (q + 1)):=by
   show evT (cR r) (if decide (rk r p n < rk r p (n - 1))=true then (if q > 0 then kas_desc f (kas_rev p (n - (q + 1)) n) (n + 1) 0 else kas_desc f p (n + 1) 0) else KasT.ask (p.getD (n - 1) 0) (p.getD n 0) fun d=>if d=true then .ret (p,n,q) else kas_desc f p (n + 1) (q + 1))=_
   by_cases z:rk r p n < rk r p (n - 1)
   ·rw [bN (by simpa using z),bN z]
    split <;> rfl
   ·rw [bO (by simpa using z),bO z];show evT (cR r) (if decide (rk r p (n - 1) < rk r p n)=true then KasT.ret (p,n,q) else kas_desc f p (n + 1) (q + 1))=_
    by_cases I:rk r p (n - 1) < rk r p n
    ·rw [bN (by simpa using I),bN I]; rfl
    ·rw [bO (by simpa using I),bO I]
  rw [e]
  by_cases z:rk r p n < rk r p (n - 1)
  ·rw [bN z]
   by_cases O:q > 0
   ·rw [bN O];have Y:=Q0y (r:=r) (p:=p) (i:=n - (q + 1)) (j:=n) h.sz h.eq;obtain ⟨h1,h2,J,U⟩:=Q0f f (kas_rev p (n - (q + 1)) n) (n + 1) 0 ⟨by omega,by rw [jy]; omega,by omega,fun i B g2=>by
     rw [Y,Y]
     by_cases y:i=n
     ·subst y; omega
     ·exact h.de i B (by omega),fun i B g2=>by
     have:i=n:=by omega
     subst this; rfl⟩ (by rw [jy]; omega)
    exact ⟨h1,h2.trans (Yx _ _),by omega,by omega⟩
   ·rw [bO O];obtain ⟨h1,h2,J,U⟩:=Q0f f p (n + 1) 0 ⟨by omega,by omega,by omega,fun i B g2=>by
     by_cases y:i=n
     ·subst y; omega
     ·exact h.de i B (by omega),fun i B g2=>by
     have:i=n:=by omega
     subst this; rfl⟩ (by omega)
    exact ⟨h1,h2,by omega,by omega⟩
  ·rw [bO z]
   by_cases I:rk r p (n - 1) < rk r p n
   ·rw [bN I];exact ⟨h,Array.Perm.refl _,O8 _,by show n<=n + (f + 1); omega⟩
   ·rw [bO I];have hn:=h.n1;have Z:=h.qn;obtain ⟨h1,h2,J,U⟩:=Q0f f p (n + 1) (q + 1) ⟨by omega,by omega,by omega,fun i B g2=>by
     by_cases y:i=n
     ·subst y; omega
     ·exact h.de i B (by omega),fun i B g2=>by
     show rk r p i=rk r p n
     by_cases y:i=n
     ·rw [y]
     ·rw [h.eq i (by omega) (by omega)]; omega⟩ (by omega)
    exact ⟨h1,h2,by omega,by omega⟩
def Srt (r:Nat->Nat) (p:Array Nat) (m:Nat):Prop:=∀ i,1<=i->i < m->rk r p (i - 1)<=rk r p i
theorem Q95 {nrem:Nat} (J:1<=n) (I:n<=nrem) (hs:nrem<=p.size) (hd:∀ i,1<=i->i < n->rk r p i<=rk r p (i - 1)) :
  1<=(evT (cR r) (kas_tail3 n nrem p)).1/\(evT (cR r) (kas_tail3 n nrem p)).1<=nrem/\Srt r (evT (cR r) (kas_tail3 n nrem p)).2 (evT (cR r) (kas_tail3 n nrem p)).1/\(evT (cR r) (kas_tail3 n nrem p)).2.Perm p:=by
 obtain ⟨h1,h2,B,_⟩:=Q8v (r:=r) (kas_rev p 0 n) (nrem - n) n J;unfold kas_tail3;rw [X9];show 1<=evT (cR r) (kas_asc (kas_rev p 0 n) (nrem - n) n)/\_/\Srt r (kas_rev p 0 n) _/\(kas_rev p 0 n).Perm p;refine ⟨by omega,by show evT (cR r) (kas_asc (kas_rev p 0 n) (nrem - n) n)<=nrem; omega,fun i O g2=>?_,Yx _ _⟩
 by_cases z:i < n
 ·rw [Q7p (by omega),Q7p (by omega),bN (by omega),bN (by omega)];have:=hd (0 + n - 1 - (i - 1)) (by omega) (by omega);rw [show 0 + n - 1 - (i - 1) - 1=0 + n - 1 - i by omega] at this;exact this
 ·exact B i (by omega) g2
theorem xn {nrem:Nat} (hn:1<=n) (Y:n < nrem) (hs:nrem<=p.size) (B:∀ i,i < n->rk r p i=rk r p (n - 1)) (Z:rk r p n < rk r p (n - 1)) :
  1<=(evT (cR r) (kas_descPart n nrem p)).1/\(evT (cR r) (kas_descPart n nrem p)).1<=nrem/\Srt r (evT (cR r) (kas_descPart n nrem p)).2 (evT (cR r) (kas_descPart n nrem p)).1/\(evT (cR r) (kas_descPart n nrem p)).2.Perm p:=by
 obtain ⟨D,P,U,h4⟩:=Q0f (r:=r) (nrem - (n + 1)) p (n + 1) 0 ⟨by omega,by omega,by omega,fun i J g2=>by
  by_cases y:i=n
  ·subst y; omega
  ·rw [B i (by omega),B (i - 1) (by omega)]; exact O8 _,fun i J g2=>by
  have:i=n:=by omega
  subst this; rfl⟩ (by omega)
 unfold kas_descPart;rw [X9];generalize evT (cR r) (kas_desc (nrem - (n + 1)) p (n + 1) 0)=x at *;obtain ⟨I,m,q⟩:=x;have sz:I.size=p.size:=P.size_eq;simp only at D P U h4;dsimp only
 by_cases z:q > 0
 ·rw [bN z];have O:=Q0y (r:=r) (p:=I) (i:=m - (q + 1)) (j:=m) D.sz D.eq;obtain ⟨a,b,c,d⟩:=Q95 (r:=r) (p:=kas_rev I (m - (q + 1)) m) (n:=m) (nrem:=nrem) D.n1 (by omega) (by rw [jy]; omega) (fun i J g2=>by rw [O,O]; exact D.de i J g2);exact ⟨a,b,c,(d.trans (Yx _ _)).trans P⟩
 ·rw [bO z];obtain ⟨a,b,c,d⟩:=Q95 (r:=r) (p:=I) (n:=m) (nrem:=nrem) D.n1 (by omega) (by omega) D.de;exact ⟨a,b,c,d.trans P⟩
theorem Srt.le {m:Nat} (h:Srt r p m):∀ {i j:Nat},i<=j->j < m->rk r p i<=rk r p j:=by
 intro i j J
 induction j with
 | zero => intro _; have : i = 0 := by omega
           subst this; exact O8 _
 | succ j B=>
  intro I
  by_cases z:i=j + 1
  ·subst z; exact O8 _
  ·have h1:=B (by omega) (by omega);have h2:=h (j + 1) (by omega) I;rw [Nat.add_sub_cancel] at h2;exact F9 h1 h2
theorem Qgp (hn:1<=n) (hs:n<=p.size) :
  1<=(evT (cR r) (kas_count n p)).1/\(evT (cR r) (kas_count n p)).1<=n/\Srt r (evT (cR r) (kas_count n p)).2 (evT (cR r) (kas_count n p)).1/\(evT (cR r) (kas_count n p)).2.Perm p:=by
 obtain ⟨h1,h2,U,Y⟩:=Q8v (r:=r) p (n - 1) 1 (O8 _);unfold kas_count;rw [X9];generalize evT (cR r) (kas_asc p (n - 1) 1)=m at *;have S:Srt r p m:=fun i Z g2=>U i Z g2
 by_cases z:m=n
 ·subst z;rw [bN (by simp)];exact ⟨h1,O8 _,S,Array.Perm.refl _⟩
 ·rw [bO (by simpa using z)];have B:=Y (by omega)
  by_cases J:m > 1
  ·rw [bN J];show 1<=(evT (cR r) (if decide (rk r p 0 < rk r p (m - 1))=true then KasT.ret (m,p) else kas_descPart m n (kas_rev p 0 m))).1/\(evT (cR r) (if decide (rk r p 0 < rk r p (m - 1))=true then KasT.ret (m,p) else kas_descPart m n (kas_rev p 0 m))).1<=n/\Srt r (evT (cR r) (if decide (rk r p 0 < rk r p (m - 1))=true then KasT.ret (m,p) else kas_descPart m n (kas_rev p 0 m))).2 (evT (cR r) (if decide (rk r p 0 < rk r p (m - 1))=true then KasT.ret (m,p) else kas_descPart m n (kas_rev p 0 m))).1/\(evT (cR r) (if decide (rk r p 0 < rk r p (m - 1))=true then KasT.ret (m,p) else kas_descPart m n (kas_rev p 0 m))).2.Perm p
   by_cases O:rk r p 0 < rk r p (m - 1)
   ·rw [bN (by simpa using O)];exact ⟨h1,by show m<=n; omega,S,Array.Perm.refl _⟩
   ·rw [bO (by simpa using O)];have eq:∀ i,i < m->rk r p i=rk r p (m - 1):=fun i hi=>by
     have a:=S.le (i:=0) (j:=i) (by omega) hi;have b:=S.le (i:=i) (j:=m - 1) (by omega) (by omega);omega
    have I:=Q0y (r:=r) (p:=p) (i:=0) (j:=m) (by omega) (fun k _ hk=>eq k hk);obtain ⟨a,b,c,d⟩:=xn (r:=r) (p:=kas_rev p 0 m) (n:=m) (nrem:=n) h1 (by omega) (by rw [jy]; exact hs) (fun i hi=>by rw [I,I]; exact eq i hi) (by rw [I,I]; exact B);exact ⟨a,b,c,d.trans (Yx _ _)⟩
  ·rw [bO J];have:m=1:=by omega
   subst this;exact xn (r:=r) (O8 _) (by omega) hs (fun i hi=>by rw [show i=0 by omega]) B
theorem Q12 {p:Array Nat} {k:Nat} (S:Srt r p k):∀ f l q,l<=q->q<=k->q - l<=f->(∀ i,i < l->rk r p i<=rk r p k)->(∀ i,q<=i->i < k->rk r p k < rk r p i) ->
  evT (cR r) (kas_place p k f l q)<=k/\(∀ i,i < evT (cR r) (kas_place p k f l q)->rk r p i<=rk r p k)/\(∀ i,evT (cR r) (kas_place p k f l q)<=i->i < k->rk r p k < rk r p i)
 | 0,l,q,h1,h2,O,J,I=>by
  have:l=q:=by omega
  subst this;exact ⟨h2,J,I⟩
 | f + 1,l,q,h1,h2,O,J,I=>by
  by_cases z:l>=q
  ·have:l=q:=by omega
   subst this;have e:evT (cR r) (kas_place p k (f + 1) l l)=l:=by rw [kas_place,bN (O8 _)]; rfl
   rw [e];exact ⟨h2,J,I⟩
  ·have e:evT (cR r) (kas_place p k (f + 1) l q)=if rk r p k < rk r p ((l + q) / 2) then evT (cR r) (kas_place p k f l ((l + q) / 2)) else evT (cR r) (kas_place p k f ((l + q) / 2 + 1) q):=by
    rw [kas_place,bO z];show evT (cR r) (if decide (rk r p k < rk r p ((l + q) / 2))=true then kas_place p k f l ((l + q) / 2) else kas_place p k f ((l + q) / 2 + 1) q)=_
    by_cases y:rk r p k < rk r p ((l + q) / 2)
    ·rw [bN (by simpa using y),bN y]
    ·rw [bO (by simpa using y),bO y]
   rw [e];have m1:l<=(l + q) / 2:=by omega
   have Y:(l + q) / 2 < q:=by omega
   generalize (l + q) / 2=B at *
   by_cases y:rk r p k < rk r p B
   ·rw [bN y];exact Q12 S f l B m1 (by omega) (by omega) J fun i U g2=>E2 y (S.le U g2)
   ·rw [bO y];exact Q12 S f (B + 1) q (by omega) h2 (by omega) (fun i g=>F9 (S.le (show i<=B by omega) (by omega)) (by omega)) I
theorem Qh9:∀ f (p:Array Nat) k,1<=k->k + f<=p.size->Srt r p k->Srt r (evT (cR r) (kas_bin f p k)) (k + f)/\(evT (cR r) (kas_bin f p k)).Perm p
 | 0,p,k,_,_,S=>⟨S,Array.Perm.refl _⟩
 | f + 1,p,k,J,hs,S=>by
  obtain ⟨h1,h2,I⟩:=Q12 S k 0 k (M9 _) (O8 _) (by omega) (fun i g=>by omega) (fun i B g2=>by omega);have e:evT (cR r) (kas_bin (f + 1) p k)=evT (cR r) (kas_bin f (bubble p k (k - evT (cR r) (kas_place p k k 0 k))) (k + 1)):=by rw [kas_bin,X9]
  rw [e];generalize evT (cR r) (kas_place p k k 0 k)=l at *;have S2:Srt r (bubble p k (k - l)) (k + 1):=fun i B g2=>by
   rw [Qdr (by omega) (by omega),Qdr (by omega) (by omega),show k - (k - l)=l by omega]
   by_cases a:i=l
   ·subst a;rw [bO (by omega),bO (by omega),bN rfl];exact h2 (i - 1) (by omega)
   ·by_cases b:i - 1=l
    ·rw [bN b,bO a,bN (by omega),b];exact Nat.le_of_lt (I l (O8 _) (by omega))
    ·rw [bO b,bO a]
     by_cases c:l < i
     ·rw [bN (by omega),bN (by omega)];exact S (i - 1) (by omega) (by omega)
     ·rw [bO (by omega),bO (by omega)];exact S i B (by omega)
  obtain ⟨a,b⟩:=Qh9 f (bubble p k (k - l)) (k + 1) (by omega) (by rw [bubble_size]; omega) S2;exact ⟨by rw [show k + (f + 1)=k + 1 + f by omega]; exact a,b.trans (bubble_perm _ _ _)⟩
theorem Qhy (J:1<=n):Srt r (evT (cR r) (kas_sort n)) n/\(evT (cR r) (kas_sort n)).Perm (List.toArray (List.range n)):=by
 obtain ⟨h1,h2,I,B⟩:=Qgp (r:=r) (p:=List.toArray (List.range n)) (n:=n) J (by simp);unfold kas_sort;rw [X9];generalize evT (cR r) (kas_count n (List.toArray (List.range n)))=x at *;obtain ⟨m,p⟩:=x;have sz:p.size=n:=by have:=B.size_eq; simpa using this
 simp only at h1 h2 I B;dsimp only
 by_cases z:m < n
 ·rw [bN z,show max m 1=m by omega];obtain ⟨a,b⟩:=Qh9 (r:=r) (n - m) p m h1 (by omega) I;rw [show m + (n - m)=n by omega] at a;exact ⟨a,b.trans B⟩
 ·rw [bO z];have:m=n:=by omega
  subst this;exact ⟨I,B⟩
end
def Asks {α:Type} (n:Nat):KasT α->(α->Prop)->Prop
 | .ret a,P=>P a
 | .ask i j k,P=>i < n/\j < n/\∀ b,Asks n (k b) P
theorem Asks.bind {α β:Type} {P:α->Prop} {Q:β->Prop} {f:α->KasT β} (B:∀ a,P a->Asks n (f a) Q):∀ {t:KasT α},Asks n t P->Asks n (t.bind f) Q
 | .ret a,h=>B a h
 | .ask i j k,h=>⟨h.1,h.2.1,fun b=>Asks.bind B (h.2.2 b)⟩
def AL (n:Nat) (p:Array Nat):Prop:=0 < n/\∀ x∈p.toList,x < n
theorem AL.get (h:AL n p) (i:Nat):p.getD i 0 < n:=by
 rw [Array.getD_eq_getD_getElem?]
 by_cases z:i < p.size
 ·rw [Array.getElem?_eq_getElem z];exact h.2 _ (by simp)
 ·rw [Array.getElem?_eq_none (by omega)]; exact h.1
theorem AL.perm {q:Array Nat} (h:AL n p) (e:q.Perm p):AL n q:=⟨h.1,fun x B=>h.2 x ((Array.perm_iff_toList_perm.mp e).mem_iff.mp B)⟩
theorem W5 {α:Type} {P:α->Prop} {c:Prop} [Decidable c] {t u:KasT α} (h1:Asks n t P) (h2:Asks n u P):Asks n (if c then t else u) P:=by
 split
 ·exact h1
 ·exact h2
theorem Q27 {n:Nat} {p:Array Nat} (h:AL n p):∀ f m,Asks n (kas_asc p f m) (fun _=>True)
 | 0,m=>trivial
 | f + 1,m=>⟨h.get _,h.get _,fun b=>W5 trivial (Q27 h f (m + 1))⟩
theorem qm {n:Nat}:∀ f (p:Array Nat) m q,AL n p->Asks n (kas_desc f p m q) (fun x=>AL n x.1)
 | 0,p,m,q,h=>h
 | f + 1,p,m,q,h=>⟨h.get _,h.get _,fun b=>W5 (W5 (qm f _ _ _ (h.perm (Yx _ _))) (qm f _ _ _ h)) ⟨h.get _,h.get _,fun d=>W5 h (qm f _ _ _ h)⟩⟩
theorem Q3s (h:AL n p) (m k:Nat):Asks n (kas_tail3 m k p) (fun x=>AL n x.2):=by
 unfold kas_tail3;refine Asks.bind (P:=fun _=>True) (fun a _=>?_) (Q27 (h.perm (Yx _ _)) _ _);exact h.perm (Yx _ _)
theorem qx (h:AL n p) (m k:Nat):Asks n (kas_descPart m k p) (fun x=>AL n x.2):=
 Asks.bind (fun x B=>W5 (Q3s (AL.perm B (Yx _ _)) _ _) (Q3s B _ _)) (qm _ _ _ _ h)
theorem Q8t (h:AL n p) (k:Nat):Asks n (kas_count k p) (fun x=>AL n x.2):=by
 unfold kas_count;refine Asks.bind (P:=fun _=>True) (fun m _=>?_) (Q27 h _ _);refine W5 (show AL n p from h) (W5 ?_ (qx h _ _));exact ⟨h.get _,h.get _,fun c=>W5 (show AL n p from h) (qx (h.perm (Yx _ _)) _ _)⟩
theorem jm {n:Nat} {p:Array Nat} (h:AL n p) (k:Nat):∀ f l q,Asks n (kas_place p k f l q) (fun _=>True)
 | 0,_,_=>trivial
 | f + 1,l,q=>by
  rw [kas_place];exact W5 trivial ⟨h.get _,h.get _,fun c=>W5 (jm h k f _ _) (jm h k f _ _)⟩
theorem Q77 {n:Nat}:∀ f (p:Array Nat) k,AL n p->Asks n (kas_bin f p k) (fun _=>True)
 | 0,_,_,_=>trivial
 | f + 1,p,k,h=>by
  rw [kas_bin];exact Asks.bind (fun l _=>Q77 f _ _ (h.perm (bubble_perm _ _ _))) (jm h k _ _ _)
theorem Qch (I:1<=n):Asks n (kas_sort n) (fun _=>True):=by
 have h:AL n (List.toArray (List.range n)):=⟨I,fun x B=>by simpa using B⟩;unfold kas_sort;refine Asks.bind (P:=fun x=>AL n x.2) (fun x B=>?_) (Q8t h n);exact W5 (Q77 _ _ _ B) (show True from trivial)
theorem Q6r {α:Type} {B:Nat->Nat->(Bool->aC->Prop)->aC->Prop} {c:Nat->Nat->Bool} {n:Nat} {s:aC} (h:∀ i j (C:Bool->aC->Prop),i < n->j < n->C (c i j) s->B i j C s) :
  ∀ (t:KasT α) (P:α->Prop) (Q:α->aC->Prop),Asks n t P->Q (evT c t) s->t.kasWp B Q s
 | .ret a,_,_,_,q=>q
 | .ask i j k,P,Q,a,q=>h i j _ a.1 a.2.1 (Q6r h (k (c i j)) P Q (a.2.2 _) q)
variable {prog:aM} {A:aQ} {E:aA->aC->Prop} {s:aC}
section
variable {w:aJ}
inductive TupsAre (h:Heap):List aA->List (List Int)->Prop
 | nil:TupsAre h [] []
 | cons {a:aB} {o:Obj} {xs:Array aA} {n:Nat} {x:Int} {ns:List Int} {vs:List aA} {nss:List (List Int)} (ho:h.get? a=some o) (hc:o.cls=.type "tuple") (hd:o.data=.seq xs n) (hi:IntsAre xs.toList (x :: ns)) (r:TupsAre h vs nss):TupsAre h (.ref a :: vs) ((x :: ns) :: nss)
theorem TupsAre.keep {h':Heap} (k:∀ b o,h.get? b=some o->h'.get? b=some o):∀ {vs:List aA} {nss:List (List Int)},TupsAre h vs nss->TupsAre h' vs nss
 | _,_,.nil=>.nil
 | _,_,.cons B I hd hi r=>.cons (k _ _ B) I hd hi (r.keep k)
theorem TupsAre.keepT {h':Heap} (k:∀ b o,o.cls=.type "tuple" -> h.get? b=some o->h'.get? b=some o):∀ {vs:List aA} {nss:List (List Int)},TupsAre h vs nss->TupsAre h' vs nss
 | _,_,.nil=>.nil
 | _,_,.cons I B hd hi r=>.cons (k _ _ B I) B hd hi (r.keepT k)
theorem TupsAre.length :∀ {vs:List aA} {nss:List (List Int)},TupsAre h vs nss->vs.length=nss.length
 | _,_,.nil=>rfl
 | _,_,.cons _ _ _ _ r=>by rw [E4,E4,r.length]
theorem TupsAre.at {h:Heap}:∀ {vs:List aA} {nss:List (List Int)},TupsAre h vs nss->∀ i,i < vs.length->∃ a o xs n,vs.getD i Value.none=.ref a/\h.get? a=some o/\o.data=.seq xs n/\IntsAre xs.toList (nss.getD i [])
 | _,_,.nil,i,hi=>by simp at hi
 | _,_,.cons B U hd hi r,0,_=>⟨_,_,_,_,rfl,B,hd,hi⟩
 | _,_,.cons B U hd hi r,i + 1,J=>by
  obtain ⟨a,o,xs,n,h1,h2,I,O⟩:=r.at i (by simpa using J);exact ⟨a,o,xs,n,by simpa using h1,h2,I,by simpa using O⟩
theorem TupsAre.firsts {M:Model} :∀ {vs:List aA} {nss:List (List Int)},TupsAre h vs nss->∃ fs,KatTups h vs fs/\fs.length=vs.length/\∀ v∈fs,Looks M h (typeOf v) (.type "int")
 | _,_,.nil=>⟨[],.nil,rfl,fun v I=>by cases I⟩
 | _,_,.cons (xs:=xs) (x:=O) Y Z hd hi r=>by
  obtain ⟨fs,h1,h2,J⟩:=r.firsts (M:=M);have B:=hi;generalize U:xs.toList=l at B;cases B with
  | cons _ t hr=>
   refine ⟨.int O t :: fs,.cons Y Z hd ?_ h1,by simp [h2],fun v I=>?_⟩
   ·rw [<- Array.getElem?_toList,U]; rfl
   ·rcases D8.mp I with rfl | I
    ·exact Looks.of_pure rfl
    ·exact J v I
def W7:List Int->List Int->Bool
 | [],[]=>false
 | [],_ :: _=>true
 | _ :: _,[]=>false
 | a :: as,b :: bs=>if a=b then W7 as bs else decide (a < b)
theorem Q9y (b:Bool) {Q:Bool->aC->Prop}:∀ {xs ys:List aA} {ns ms:List Int} (d:Bool) (i:Nat),IntsAre xs ns->IntsAre ys ms->d=decide (xs.length < ys.length)->Q (W7 ns ms) s->KatLex prog w A b d Q (xs.zip ys) i s
 | _,_,_,_,d,i,.nil,.nil,hd,q=>by
  have:d=false:=by rw [hd]; simp
  subst this;exact q
 | _,_,_,_,d,i,.nil,.cons _ _ _,hd,q=>by
  have:d=true:=by rw [hd]; simp
  subst this;exact q
 | _,_,_,_,d,i,.cons _ _ _,.nil,hd,q=>by
  have:d=false:=by rw [hd]; simp
  subst this;exact q
 | _,_,_,_,d,i,.cons x t B,.cons y u I,hd,q=>by
  rw [List.zip_cons_cons];refine kat_cons (wpAny_eqBool_int ?_)
  by_cases z:x=y
  ·subst z;rw [beq_self_eq_true];refine kat_yes (Q9y b d (i + 1) B I (by rw [hd]; simp) ?_);rw [W7,bN rfl] at q;exact q
  ·rw [beq_eq_false_iff_ne.mpr z];refine kat_no ?_;rw [W7,bO z] at q;cases b && i == 0 with
   | true=>exact oneLt_int q
   | false=>exact kat_one _ _ (lt_int q)
def Vw (nss:List (List Int)) (i:Nat):Nat:=(nss.filter fun ms=>W7 ms (nss.getD i [])).length
theorem zq:∀ a:List Int,W7 a a=false
 | []=>rfl
 | a :: B=>by rw [W7,bN rfl]; exact zq B
theorem Xv:∀ {a b c:List Int},W7 a b=true->W7 b c=true->W7 a c=true
 | [],[],_,h,_=>by cases h
 | [],_ :: _,[],_,h=>by cases h
 | [],_ :: _,_ :: _,_,_=>rfl
 | _ :: _,[],_,h,_=>by cases h
 | _ :: _,_ :: _,[],_,h=>by cases h
 | a :: U,b :: bs,c :: Y,h1,h2=>by
  rw [W7] at h1 h2 ⊢
  by_cases I:a=b
  ·subst I;rw [bN rfl] at h1
   by_cases B:a=c
   ·subst B;rw [bN rfl] at h2 ⊢;exact Xv h1 h2
   ·rw [bO B] at h2 ⊢; exact h2
  ·rw [bO I] at h1;have J:a < b:=by simpa using h1
   by_cases B:b=c
   ·subst B;rw [bO I]; exact h1
   ·rw [bO B] at h2;have O:b < c:=by simpa using h2
    rw [bO (by omega)];simp; omega
theorem zn:∀ {a b:List Int},W7 a b=false->W7 b a=false->a=b
 | [],[],_,_=>rfl
 | [],_ :: _,h,_=>by cases h
 | _ :: _,[],_,h=>by cases h
 | a :: J,b :: bs,h1,h2=>by
  rw [W7] at h1 h2
  by_cases z:a=b
  ·subst z;rw [bN rfl] at h1 h2;rw [zn h1 h2]
  ·rw [bO z] at h1;rw [bO (fun e=>z e.symm)] at h2;have B:¬ a < b:=by simpa using h1
   have I:¬ b < a:=by simpa using h2
   exact absurd (show a=b by omega) z
theorem qv {α:Type} {p q:α->Bool}:∀ {l:List α},(∀ x∈l,p x=true->q x=true)->(∃ x∈l,p x=false/\q x=true)->(l.filter p).length < (l.filter q).length
 | [],_,h=>by obtain ⟨_,h,_⟩:=h; cases h
 | x :: l,h,J=>by
  have O:(l.filter p).length<=(l.filter q).length:=by
   clear J
   induction l with
   | nil=>exact O8 _
   | cons y l B=>
    have B:=B fun z hz=>h z (by rcases D8.mp hz with rfl | hz <;> simp [*])
    have I:=h y (by simp);rw [List.filter_cons,List.filter_cons]
    by_cases a:p y=true
    ·rw [bN a,bN (I a)]; simp; exact B
    ·rw [bO a]
     split
     ·simp; omega
     ·exact B
  rw [List.filter_cons,List.filter_cons];obtain ⟨y,I,h1,h2⟩:=J;rcases D8.mp I with rfl | I
  ·rw [h1,h2]; simp; omega
  ·have B:=qv (fun z hz=>h z (O4 _ hz)) ⟨y,I,h1,h2⟩
   by_cases a:p x=true
   ·rw [bN a,bN (h x (by simp) a)]; simp; exact B
   ·rw [bO a]
    split
    ·simp; omega
    ·exact B
theorem Q9e {nss:List (List Int)} {i j:Nat} (hi:i < nss.length) (B:j < nss.length):cR (Vw nss) i j=W7 (nss.getD i []) (nss.getD j []):=by
 have mem:∀ k,k < nss.length->nss.getD k []∈nss:=fun k J=>by
  rw [O3,O2 J]; exact F7 J
 unfold cR;have key:∀ {i j:Nat},i < nss.length->j < nss.length->W7 (nss.getD i []) (nss.getD j [])=true->Vw nss i < Vw nss j:=fun {i j} hi B h=>
  qv (fun x _ O=>Xv O h) ⟨nss.getD i [],mem i hi,zq _,h⟩
 cases z:W7 (nss.getD i []) (nss.getD j []) with
 | true=>exact bQ (key hi B z)
 | false=>
  refine bP ?_;cases I:W7 (nss.getD j []) (nss.getD i []) with
  | true=>have:=key B hi I; omega
  | false=>
   have e:=zn z I;unfold Vw;rw [e];exact Nat.lt_irrefl _
theorem Qau {a:aB} {nss:List (List Int)} {P:PySem.Fin->aC->Prop} (ho:s.heap.get? a=some (seqObj "list" vs.toArray n)) (hT:TupsAre s.heap vs nss) (b1:vs.length < 64)
  (h:∀ (p:List Nat) (h':Heap) (k:Nat),p.Perm (List.range vs.length)->(∀ i,1<=i->i < vs.length->W7 (nss.getD (p.getD i 0) []) (nss.getD (p.getD (i - 1) 0) [])=false)->h'.get? a=some (seqObj "list" (List.toArray (p.map fun i=>vs.getD i Value.none)) k)->(∀ b o,b≠a->s.heap.get? b=some o->h'.get? b=some o)->P (.done (.ret .none)) { s with heap:=h' }) :
  aF (aI prog w) A (Builtin.«list.sort» ⟨[.ref a],[]⟩) P E s:=by
 have ha:a < s.heap.objs.size:=D9 ho;obtain ⟨e1,a6⟩:∃ e1,(s.heap.update a (Obj.mapSeq fun _=>(#[]:Array aA))).get? a=some (seqObj "list" #[] e1):=⟨_,get?_update_seq ho fun _=>#[]⟩
 have B:∀ b o,b≠a->s.heap.get? b=some o->(((s.heap.update a (Obj.mapSeq fun _=>(#[]:Array aA))).push (seqObj "tuple" vs.toArray 0)).push (seqObj "list" #[] 0)).get? b=some o:=fun b o hb e=>
  O5 _ (O5 _ (by rw [Heap.get?_update_ne _ _ _ _ hb]; exact e))
 have Y:(((s.heap.update a (Obj.mapSeq fun _=>(#[]:Array aA))).push (seqObj "tuple" vs.toArray 0)).push (seqObj "list" #[] 0)).get? a=some (seqObj "list" #[] e1):=O5 _ (O5 _ a6)
 rw [list_sort_plain];refine aD (listItems_at ho rfl ?_);refine aD (listUpdate_at ho rfl ?_ (by rw [D0,sizeLine_eq]; omega) (M9 _));refine aD (seqEpoch_at a6 rfl ?_);refine aD (wpAny_newTuple ?_ (by show vs.length<=_; rw [sizeLine_eq]; omega));refine aD (wpAny_newList ?_ (M9 _));refine aa ?_;show aF (aI prog w) A _ P E { s with heap:=((s.heap.update a (Obj.mapSeq fun _=>(#[]:Array aA))).push (seqObj "tuple" vs.toArray 0)).push (seqObj "list" #[] 0) }
 dsimp only;generalize hH:((s.heap.update a (Obj.mapSeq fun _=>(#[]:Array aA))).push (seqObj "tuple" vs.toArray 0)).push (seqObj "list" #[] 0)=O at *
 have fin:∀ (st:SortSt) (p:List Nat),p.Perm (List.range vs.length)->(arrOf st).map (·.2)=List.toArray (p.map fun i=>vs.getD i Value.none)->failedOf st=none->(∀ i,1<=i->i < vs.length->W7 (nss.getD (p.getD i 0) []) (nss.getD (p.getD (i - 1) 0) [])=false) ->
   aF (aI prog w) A (do
    let J:=(arrOf st).map (·.2)
    let I:=(<- seqEpoch a) != e1
    Builtin.List.listUpdate (.ref a) fun _=>J
    if let some e:=failedOf st then rule "list.sort.comparison-raised"; throw e
    if I then rule "list.sort.modified"; raiseError "ValueError" "list modified during sort"
    ret .none) P E { s with heap:=O }:=fun st p hp b0 hf hs=>by
  dsimp only;have hl:(List.toArray (p.map fun i=>vs.getD i Value.none)).size=vs.length:=by rw [D0,O1,hp.length_eq,F6]
  obtain ⟨c2,a9⟩:∃ c2,(O.update a (Obj.mapSeq fun _=>List.toArray (p.map fun i=>vs.getD i Value.none))).get? a=some (seqObj "list" (List.toArray (p.map fun i=>vs.getD i Value.none)) c2):=⟨_,get?_update_seq Y fun _=>List.toArray (p.map fun i=>vs.getD i Value.none)⟩
  rw [b0,hf];refine aD (seqEpoch_at Y rfl ?_);refine aD (listUpdate_at Y rfl ?_ (M9 _) (F9 (Nat.le_of_eq hl) (by rw [sizeLine_eq]; omega)));simp only [bne_self_eq_false,L9,if_false];exact wpAny_pure (h p _ c2 hp hs a9 fun b o hb e=>by rw [Heap.get?_update_ne _ _ _ _ hb]; exact B b o hb e)
 by_cases h2:vs.toArray.size < 2
 ·rw [bN h2,bN h2];refine aD (wpAny_pure ?_);rw [StateT.run_pure];refine aD (wpAny_pure ?_);refine fin (SortSt.mk' general' (vs.toArray.zip vs.toArray) #[] 7 none) (List.range vs.length) (List.Perm.refl _) ?_ rfl (fun i g1 g2=>?_)
  ·show (vs.toArray.zip vs.toArray).map (·.2)=_;apply Array.toList_inj.mp;apply List.ext_getElem?;intro i
   by_cases z:i < vs.length
   ·simp [z]
   ·simp [z]
  ·rw [D0] at h2; omega
 ·rw [bO h2,bO h2];rw [D0] at h2;have Z:TupsAre O vs nss:=hT.keepT fun b o hc e=>B b o (fun z=>by
   rw [z,ho] at e;have e:=Option.some.inj e;rw [<- e] at hc;exact absurd (show Value.type "list" = .type "tuple" from hc) (by decide)) e
  obtain ⟨fs,k1,k2,k3⟩:=Z.firsts (M:=aI prog w);refine aD (kat_kind (s:={ s with heap:=O }) (T:=.type "int") k1 (by omega) k3 (by decide) ?_);have a7:∀ i j (C:Bool->aC->Prop),i < vs.length->j < vs.length->C (cR (Vw nss) i j) { s with heap:=O }->kas_ask prog w A (tuples' (Value.type "int" != Value.type "tuple")) vs i j C { s with heap:=O }:=fun i j C hi hj q=>by
   obtain ⟨ai,oi,xi,ni,e1,e2,e3,e4⟩:=Z.at i hi;obtain ⟨aj,oj,xj,nj,f1,f2,f3,f4⟩:=Z.at j hj;rw [Q9e (by rw [<- hT.length]; exact hi) (by rw [<- hT.length]; exact hj)] at q;unfold kas_ask;rw [e1,f1];exact kat_lt e2 e3 f2 f3 (Q9y _ _ 0 e4 f4 (by simp) q)
  have U:=Qhy (r:=Vw nss) (n:=vs.length) (by omega);refine aD (ak (kat_run (vs:=vs) (ks:=vs) (Q:=fun st' s'=>s'={ s with heap:=O }/\arrOf st'=(evT (cR (Vw nss)) (kas_sort vs.length)).map (kas_item (vs.toArray.zip vs.toArray))/\failedOf st'=none)
   (G:=fun p s'=>s'={ s with heap:=O }/\p=evT (cR (Vw nss)) (kas_sort vs.length)) rfl (by omega) b1 (fun p' st' s' a1 a2 a3 a4=>⟨a4.1,by rw [<- a4.2]; exact a2,a3⟩) (Q6r a7 _ (fun _=>True) _ (Qch (by omega)) ⟨rfl,rfl⟩)) ?_ fun _ _ e=>e)
  rintro ⟨⟨⟩,st'⟩ s' ⟨rfl,a8,hf⟩;have b3:(evT (cR (Vw nss)) (kas_sort vs.length)).toList.Perm (List.range vs.length):=by
   have:=Array.perm_iff_toList_perm.mp U.2;simpa using this
  refine fin st' _ b3 (kat_snds rfl a8) hf fun i g1 g2=>?_
  have hr:=U.1 i g1 g2;have a5:∀ k,(evT (cR (Vw nss)) (kas_sort vs.length)).toList.getD k 0 < vs.length:=fun k=>by
   have b2:AL vs.length (evT (cR (Vw nss)) (kas_sort vs.length)):=AL.perm (p:=List.toArray (List.range vs.length)) ⟨by omega,fun x hx=>by simpa using hx⟩ U.2;have:=b2.get k;rw [Array.getD_eq_getD_getElem?,<- Array.getElem?_toList] at this;rw [O3]; exact this
  have hg:∀ k,(evT (cR (Vw nss)) (kas_sort vs.length)).getD k 0=(evT (cR (Vw nss)) (kas_sort vs.length)).toList.getD k 0:=fun k=>by
   rw [Array.getD_eq_getD_getElem?,<- Array.getElem?_toList,O3]
  unfold rk at hr;rw [hg,hg] at hr;have:=Q9e (nss:=nss) (i:=(evT (cR (Vw nss)) (kas_sort vs.length)).toList.getD i 0) (j:=(evT (cR (Vw nss)) (kas_sort vs.length)).toList.getD (i - 1) 0) (by rw [<- hT.length]; exact a5 _) (by rw [<- hT.length]; exact a5 _);rw [<- this];exact bP (Nat.not_lt.mpr hr)
theorem Q5j {l:aB} {nss:List (List Int)} {Q:aA->aC->Prop} (U:s.heap.IsList l vs.toArray) (hT:TupsAre s.heap vs nss) (J:vs.length < 64)
  (h:∀ (p:List Nat) (h':Heap) (D k:Nat),p.Perm (List.range vs.length)->(∀ i,1<=i->i < vs.length->W7 (nss.getD (p.getD i 0) []) (nss.getD (p.getD (i - 1) 0) [])=false)->s.heap.objs.size<=D->h'.get? D=some (seqObj "list" (List.toArray (p.map fun i=>vs.getD i Value.none)) k)->(∀ b o,s.heap.get? b=some o->h'.get? b=some o)->Q (.ref D) { s with heap:=h' }) :
  aF (aI prog w) A (call (.builtin "sorted") [.ref l]) Q E s:=by
 refine Calls.call_function_entry kind_sorted plain_sorted entry_sorted (args_sorted1 _) ?_;unfold Builtin.«sorted»;refine aD (m:=checkCount "sorted" 1 1 _) (wpAny_pure ?_);refine aD (collect_list U ?_ (by rw [sizeLine_eq]; omega));refine aD (wpAny_newList ?_ (by rw [sizeLine_eq]; omega));have hsz:((s.heap.push (seqObj "list" #[] 0)).update s.heap.objs.size (Obj.mapSeq (· ++ vs.toArray))).objs.size=s.heap.objs.size + 1:=by
  rw [Heap.size_update,size_push']
 have I:(((s.heap.push (seqObj "list" #[] 0)).update s.heap.objs.size (Obj.mapSeq (· ++ vs.toArray))).push (seqObj "list" vs.toArray 0)).get? (s.heap.objs.size + 1)=some (seqObj "list" vs.toArray 0):=by
  rw [<- hsz]; exact E8 _ rfl
 have keep:∀ b o,s.heap.get? b=some o->(((s.heap.push (seqObj "list" #[] 0)).update s.heap.objs.size (Obj.mapSeq (· ++ vs.toArray))).push (seqObj "list" vs.toArray 0)).get? b=some o:=fun b o q=>by
  have B:b < s.heap.objs.size:=D9 q;rw [Heap.get?_push_ne _ _ _ (by rw [hsz]; exact F8 (Nat.lt_succ_of_lt B)),Heap.get?_update_ne _ _ _ _ (F8 B),Heap.get?_push_ne _ _ _ (F8 B)];exact q
 show aF _ _ _ _ _ { s with heap:=((s.heap.push (seqObj "list" #[] 0)).update s.heap.objs.size (Obj.mapSeq (· ++ vs.toArray))).push (seqObj "list" vs.toArray 0) };rw [hsz];refine aD (aa (ag slot_list_sort ⟨_,I,rfl⟩ entry_list_sort ?body (args_list_sort _)))
 case body=>
  refine Qau (s:={ s with heap:=((s.heap.push (seqObj "list" #[] 0)).update s.heap.objs.size (Obj.mapSeq (· ++ vs.toArray))).push (seqObj "list" vs.toArray 0) }) I (hT.keep keep) J fun p h' k a1 Z Y O=>?_
  exact ⟨_,rfl,wpAny_pure ⟨_,rfl,h p h' _ k a1 Z (Nat.le_succ _) Y fun b o e=>O b o (F8 (Nat.lt_succ_of_lt (D9 e))) (keep b o e)⟩⟩
end
end L2
namespace L2
open PySem PySem.Spec PyProof.Rows
variable {X:Cx} {a:aB} {es:Array DictEntry} {ep:Nat} {h:Heap} {Q:Option aA->aC->Prop} {P:aM} {o:Obj}
def Q8f (a:List Int):List (List Int)->List (List Int)
 | []=>[a]
 | b :: r=>if W7 b a=true then b :: Q8f a r else a :: b :: r
def X0:List (List Int)->List (List Int)
 | []=>[]
 | a :: r=>Q8f a (X0 r)
def leL (a b:List Int):Prop:=W7 b a=false
theorem Q4p (a b:List Int):leL a b <-> a=b\/W7 a b=true:=by
 unfold leL;constructor
 ·intro h;cases z:W7 a b with
  | true=>exact .inr rfl
  | false=>exact .inl (zn z h)
 ·rintro (rfl | h)
  ·exact zq a
  ·cases z:W7 b a with
   | false=>rfl
   | true=>have:=Xv h z; rw [zq] at this; cases this
theorem Q3b {a b c:List Int} (h1:leL a b) (h2:leL b c):leL a c:=by
 rw [Q4p] at *;rcases h1 with rfl | h1
 ·exact h2
 ·rcases h2 with rfl | h2
  ·exact .inr h1
  ·exact .inr (Xv h1 h2)
theorem Qfi {a b:List Int} (h1:leL a b) (h2:leL b a):a=b:=zn h2 h1
theorem yt (a:List Int):∀ l,(Q8f a l).Perm (a :: l)
 | []=>List.Perm.refl _
 | b :: r=>by
  rw [Q8f]
  split
  ·exact ((yt a r).cons b).trans (List.Perm.swap a b r)
  ·exact List.Perm.refl _
theorem j0:∀ l,(X0 l).Perm l
 | []=>List.Perm.refl _
 | a :: r=>(yt a (X0 r)).trans ((j0 r).cons a)
theorem xh {a:List Int}:∀ {l:List (List Int)},l.Pairwise leL->(Q8f a l).Pairwise leL
 | [],_=>by rw [Q8f]; exact List.pairwise_singleton _ _
 | b :: r,h=>by
  obtain ⟨h1,h2⟩:=List.pairwise_cons.mp h;rw [Q8f]
  split
  ·rename_i q;refine List.pairwise_cons.mpr ⟨fun x B=>?_,xh h2⟩;rcases D8.mp ((yt a r).mem_iff.mp B) with rfl | B
   ·exact (Q4p b x).mpr (.inr q)
   ·exact h1 x B
  ·rename_i q;have I:leL a b:=by unfold leL; simpa using q
   refine List.pairwise_cons.mpr ⟨fun x B=>?_,h⟩;rcases D8.mp B with rfl | B
   ·exact I
   ·exact Q3b I (h1 x B)
theorem ju:∀ l,(X0 l).Pairwise leL
 | []=>List.Pairwise.nil
 | a :: r=>xh (ju r)
theorem Q2z:∀ {a b:List (List Int)},a.Perm b->a.Pairwise leL->b.Pairwise leL->a=b
 | [],b,h,_,_=>(List.nil_perm.mp h).symm
 | x :: a,[],h,_,_=>absurd (List.perm_nil.mp h) (by simp)
 | x :: a,y :: b,h,I,hb=>by
  obtain ⟨U,Y⟩:=List.pairwise_cons.mp I;obtain ⟨O,B⟩:=List.pairwise_cons.mp hb;have e:x=y:=by
   rcases D8.mp (h.mem_iff.mp (O9 (a:=x) (l:=a))) with e | J
   ·exact e
   ·rcases D8.mp (h.mem_iff.mpr (O9 (a:=y) (l:=b))) with e | Z
    ·exact e.symm
    ·exact Qfi (U y Z) (O x J)
  subst e;rw [Q2z (List.Perm.cons_inv h) Y B]
theorem Q2g {l:List (List Int)} (h:∀ i,1<=i->i < l.length->W7 (l.getD i []) (l.getD (i - 1) [])=false):l.Pairwise leL:=by
 rw [List.pairwise_iff_getElem];have g:∀ k (B:k < l.length),l.getD k []=l[k]:=fun k B=>by rw [O3,O2 B]; rfl
 have key:∀ d i (hi:i + d < l.length),leL (l.getD i []) (l.getD (i + d) []):=by
  intro d
  induction d with
  | zero=>intro i hi; exact (Q4p _ _).mpr (.inl rfl)
  | succ d I=>
   intro i hi;have h1:=I i (by omega);have h2:=h (i + d + 1) (by omega) (by omega);rw [Nat.add_sub_cancel] at h2;exact Q3b h1 h2
 intro i j hi J O;have:=key (j - i) i (by omega);rw [show i + (j - i)=j by omega,g i hi,g j J] at this;exact this
theorem Qav {nss:List (List Int)} {p:List Nat} (B:p.Perm (List.range nss.length)) (h:∀ i,1<=i->i < nss.length->W7 (nss.getD (p.getD i 0) []) (nss.getD (p.getD (i - 1) 0) [])=false):p.map (fun i=>nss.getD i [])=X0 nss:=by
 have Z:p.length=nss.length:=by rw [B.length_eq,F6]
 have Y:(List.range nss.length).map (fun i=>nss.getD i [])=nss:=by
  apply List.ext_getElem?;intro i
  by_cases z:i < nss.length
  ·simp [z]
  ·simp [z]
 have O:(p.map fun i=>nss.getD i []).Perm nss:=by
  have:=B.map (fun i=>nss.getD i [])
  rwa [Y] at this
 have I:∀ k,k < p.length->(p.map fun i=>nss.getD i []).getD k []=nss.getD (p.getD k 0) []:=fun k J=>by
  rw [O3,F4,O2 J,O3 (l:=p),O2 J];rfl
 refine Q2z (O.trans (j0 nss).symm) (Q2g fun i U g2=>?_) (ju nss);rw [O1] at g2;rw [I i g2,I (i - 1) (by omega)];exact h i U (by omega)
theorem Q92 {P:aM} {w:aJ} {H:Hp} {h:Heap} (ok:HOk P w H h):∀ {nss:List (List Int)} {vs:List V} {its:List aA},aq (fun (v:V) (ns:List Int)=>ns≠[]/\∃ a,v=.ref a/\H a=some (.tup (ns.map V.int))) vs nss->Vals vs its->TupsAre h its nss
 | [],_,_,.nil,.nil=>.nil
 | [] :: _,v :: vs,u :: us,.cons ⟨z,_⟩ t,.cons I B=>absurd rfl z
 | (x :: ns) :: nss,v :: vs,u :: us,.cons ⟨_,a,Z,J⟩ t,.cons I B=>by
  have r:=Q92 ok t B;subst Z;cases I;obtain ⟨_,U,O,o,Y,hc,n,hd⟩:=ok a _ J;exact .cons Y hc hd (by simpa using jh O) r
theorem Q51 :Ve X (.builtin "sorted") (fun xs H Q=>∃ p vs,∃ nss:List (List Int),xs=[.ref p]/\SqL X.K H p vs/\vs.length < 64/\aq (fun (v:V) (ns:List Int)=>ns≠[]/\∃ a,v=.ref a/\H a=some (.tup (ns.map V.int))) vs nss /\
  ∀ d (B:List Nat),H d=none->B.Perm (List.range vs.length)->B.map (fun i=>nss.getD i [])=X0 nss->Q (.ref d) (upd H d (.lst (B.map fun i=>vs.getD i .non)))):=by
 intro pins s σ H xs us Q I r h;obtain ⟨p,vs,nss,rfl,hq,a6,hp,q⟩:=h;obtain ⟨u,rfl,rx⟩:=qr r;cases rx;obtain ⟨its,Y,pl,hz⟩:=I.list hq;have J:=Y.length;have T:=Q92 I.hok hp Y;refine Q5j pl.isList T (by omega) fun B h' D k O a2 a3 a4 a5=>?_
 have Z:its.length=nss.length:=T.length;have e:=Qav (nss:=nss) (p:=B) (by rw [<- Z]; exact O) (fun i g1 g2=>a2 i g1 (by omega))
 have a7:B.length=its.length:=by rw [O.length_eq,F6]
 have hv:Vals (B.map fun i=>vs.getD i .non) (B.map fun i=>its.getD i Value.none):=by
  have key:∀ l:List Nat,(∀ x∈l,x < vs.length)->Vals (l.map fun i=>vs.getD i .non) (l.map fun i=>its.getD i Value.none):=by
   intro l
   induction l with
   | nil=>intro _; exact .nil
   | cons x l ih=>
    intro hl;have U:=hl x (by simp);obtain ⟨u,hu,ru⟩:=Y.get (O2 U);refine .cons ?_ (ih fun y hy=>hl y (O4 _ hy))
    show RelV (vs.getD x V.non) (its.getD x Value.none);rw [O3,O2 U,O3,hu];exact ru
  exact key B fun x U=>by have:=O.mem_iff.mp U; rw [J]; simpa using this
 exact ⟨.ref D,_,I.laid (t':=s.toks) (o:=.lst (B.map fun i=>vs.getD i .non)) a5 a3 ⟨by rw [O1]; omega,_,k,hv,a4⟩,rfl,q D B (I.hok.fresh a3) (by rw [J]; exact O) e⟩
def RawD (h:Heap) (a:aB) (es:Array DictEntry) (ep:Nat):Prop:=∃ o,h.get? a=some o/\o.ExactDict/\o.data=.dict es ep
variable {prog:aM} {A:aQ} {E:aA->aC->Prop} {s:aC}
section
variable {w:aJ}
theorem RawD.typeIs (h:RawD s.heap a es ep):s.TypeIs (.ref a) "dict" := let ⟨o,e,x,_⟩:=h; ⟨o,e,x.1⟩
theorem RawD.obj (x:RawD h a es ep):h.get? a=some { cls:=.type "dict",dict:=none,data:=.dict es ep,slots:=#[] }:=by
 obtain ⟨⟨c,I,B,J⟩,ho,⟨h1,h2,h3⟩,h4⟩:=x;simp only at h1 h2 h3 h4;subst h1 h2 h3 h4;exact ho
theorem Qdu {d:aB} {Q:aA->aC->Prop} (hd:(d == aZ)=false) (B:RawD s.heap d es ep)
  (J:Q (.ref s.heap.objs.size) { s with heap:=s.heap.push { cls:=.type "dict_keyiterator",data:=.fields #[.ref d,.int 0 0,.int es.size 0,.int ep 0] } }) :
  aF (aI prog w) A (pyIter (.ref d)) Q E s:=by
 have I:=B.typeIs;have U:=B.obj;obtain ⟨O,g,Y,Z,os⟩:=s;refine wpAny_pyIter_slot I PySem.F.slot_dict_iter (ag PySem.F.slot_dict_iter I PySem.F.entry_dict_iter ?_ (PySem.F.args_dict_iter_1 _));unfold Builtin.«dict.__iter__» Builtin.Dict.dictSlotNone
 repeat (any_goals (first | assumption | wp_step))
 refine ⟨_,rfl, "dict_keyiterator",_,⟨_,E8 _ rfl,rfl⟩,PySem.F.slot_dict_keyiterator_next.lookup,J⟩
theorem Q1p:Builtin.Dict_items.ownsTuple ((Manifest.find? "dict_keyiterator").elim "dict_keyiterator" fun x=>x.tpName)=false:=by decide +kernel
theorem Qdv {it d:aB} {i:Nat} {e:DictEntry} {Q:Option aA->aC->Prop} (B:s.heap.IsKeyIter it d i es.size ep) (Y:RawD s.heap d es ep) (U:es[i]?=some e)
  (J:∀ h',h'.IsKeyIter it d (i + 1) es.size ep->Heap.SameBut it s.heap h'->Q (some e.key) { s with heap:=h' }) :
  aF (aI prog w) A (au (.ref it)) Q E s:=by
 have I:=B.typeIs;have ho:=Y.obj;obtain ⟨⟨c,O,Z,sl⟩,hoi,hci,hdi⟩:=B;simp only at hci hdi;subst hci hdi;obtain ⟨hp,g,dr,tk,os⟩:=s;unfold au;refine aD (wpAny_attempt (wpAny_callSpecial?_slot (name:=Str.ofString "__next__") I PySem.F.slot_dict_keyiterator_next (ag PySem.F.slot_dict_keyiterator_next I PySem.F.entry_dict_keyiterator_next ?_ (PySem.F.args_dict_keyiterator_next_1 _))))
 repeat (any_goals (first | assumption | wp_step))
 simp only [Q1p,L9,if_false];simp only [show ¬ ((i:Int) < 0) by omega,if_false,Int.toNat_natCast,U]
 repeat (any_goals (first | assumption | wp_step))
 simp only [Q1p,L9,if_false];rw [bO (show ¬ ((_:Bool)=true) by decide +kernel)];refine ⟨_,rfl,wpAny_pure (J _ ⟨_,N0 _ hoi rfl,rfl,?_⟩ (Heap.SameBut.update ..))⟩;simp [Obj.mapFields,ae]
theorem Qie {it d:aB} {i:Nat} {Q:Option aA->aC->Prop} (Y:A.handled=none) (B:s.heap.IsKeyIter it d i es.size ep) (hm:RawD s.heap d es ep) (Z:es[i]?=none)
  (O:∀ h',Heap.ExtBut it s.heap h'->Q none { s with heap:=h' }) :
  aF (aI prog w) A (au (.ref it)) Q E s:=by
 have J:=B.typeIs;have ho:=hm.obj;obtain ⟨⟨c,U,a1,sl⟩,hoi,hci,hdi⟩:=B;simp only at hci hdi;subst hci hdi;obtain ⟨hp,g,dr,tk,os⟩:=s;unfold au;refine aD (wpAny_attempt (wpAny_callSpecial?_slot (name:=Str.ofString "__next__") J PySem.F.slot_dict_keyiterator_next (ag PySem.F.slot_dict_keyiterator_next J PySem.F.entry_dict_keyiterator_next ?_ (PySem.F.args_dict_keyiterator_next_1 _))))
 repeat (any_goals (first | assumption | wp_step))
 simp only [Q1p,L9,if_false];simp only [show ¬ ((i:Int) < 0) by omega,if_false,Int.toNat_natCast,Z];have I:=isSubtype_stop
 repeat (any_goals (first | assumption | wp_step))
 unfold raiseNew;refine aD (wpAny_handled ?_);rw [show A.in1.handled=none from Y];refine aD (wpAny_pure (wpAny_throw ?_));refine aD (bK (T := "StopIteration") (b:=true) ⟨_,E8 _ rfl,rfl⟩ isSubtype_stop ?_);exact wpAny_pure (O _ (((Heap.SameBut.update ..).extBut.push _).push _))
end
def Qmq (tk tv:TE):TE:=fun σ H Q=>∀ p,H p=none->Q7g [(tk,tv)] σ (upd H p (.dT [])) fun ps H2=>∃ (ks:HK) (b:V) (y:V),ps=[(b,y)]/\KR H2 ks b/\H2 p=some (.dT [])/\Q (.ref p) (upd H2 p (.dT [(ks,y)]))
theorem Qbb {pos:Pos} {k v:aH} {U tv:TE} (hu:X.A.units + 5 < aO) (hk:PE X k U) (hv:PE X v tv):PE X (.Dict [some k] [v] pos) (Qmq U tv):=by
 intro pins s σ H Q I q;have hn:=I.hok.fresh (O8 s.heap.objs.size);have I1:=I.laid (a:=s.heap.objs.size) (o:=.dT []) (h':=s.heap.push { cls:=.type "dict",data:=.dict #[] }) (t':=s.toks) (fun _ _ q=>O5 _ q) (O8 _) (Q6z s.heap I.big);rw [arm_eval_Dict,zip_pairTrees [some k] [v] X.env pos rfl rfl,dictDisplay_pairs _ (by simp [pairTrees]) (by simp [pairTrees])];refine aD (wpAny_standAt (aD ?_));unfold subDict;refine aD (wpAny_alloc (aD (aa ?_)));rw [bN (by simp [pairTrees])];refine aD (thn ((Qe8 hk hv Qit) pins _ σ _ _ I1 (q _ hn)) fun ws s2 ⟨ps,H2,J,B,ks,b,y,ep,eb,e,q2⟩=>?_)
 subst ep;obtain ⟨⟨u,r⟩,rfl,r1,r2⟩:∃ p:aA × aA,ws=[p]/\RelV b p.1/\RelV y p.2:=by
  cases B with
  | @cons a c as bs h t=>
   cases t;exact ⟨_,rfl,h.1,h.2⟩
 obtain ⟨z,hd,xs,B,dd⟩:=Qgf J.hok e;cases B;refine aa ?_;refine aD ?_;rw [List.forIn_cons];refine aD (aD (Qkm hu (Q58 J.hok eb r1) dd (fun h' O hs=>wpAny_pure ?_) (by simp)));dsimp only;rw [List.forIn_nil];refine wpAny_pure (wpAny_pure (wpAny_pure (wpAny_pure ⟨.ref s.heap.objs.size,_,?_,rfl,q2⟩)));obtain ⟨o,es,ep,Y,h2,h3,h4,_,h5⟩:=O;refine zy J (by rw [e]; exact True.intro) hs ⟨o,Y⟩ ⟨by simp [sizeLine_eq],hd,[(ks,u,r)],.cons ⟨rfl,⟨b,?_,r1⟩,r2⟩ .nil,o,es,ep,Y,h2,h3,by simpa [xu,vAt] using h4,by simp⟩;exact eb.keep fun c ys Z=>by rw [Q7 (Qf1 Z e (fun z=>nomatch z))]; exact Z
def ItT (a:aB) (o:Obj) (kvs:List (HK × V)):It:=
 ⟨fun i H=>H a=some (.frz o (.dT kvs))/\i < kvs.length,fun i H x H'=>H'=H/\∃ kv,kvs[i]?=some kv/\KR H kv.1 x,fun i H=>H a=some (.frz o (.dT kvs))/\kvs.length<=i⟩
theorem Q5w {w:aJ} {H:Hp} {kvs:List (HK × V)} (ok:HOk P w H h) (e:H a=some (.frz o (.dT kvs))) (hd:o.data=.dict es ep) :
  (a == aZ)=false/\RawD h a es ep/\aq (fun (p:HK × V) (u:aA)=>∃ v,KR H p.1 v/\RelV v u) kvs (es.toList.map (·.key)):=by
 obtain ⟨U,hz,hs,xs,O,o',a1,a2,B,Z,I,Y,J⟩:=ok a _ e;rw [U] at B;cases B;rw [hd] at I;cases I;refine ⟨hs,⟨o,U,Z,hd⟩,?_⟩;have:es.toList.map (·.key)=xs.map (fun q=>q.2.1):=by rw [Y,E7]; exact F3 fun q _=>rfl
 rw [this];clear this Y hz J e
 induction O with
 | nil=>exact .nil
 | cons hr _ ih=>exact .cons hr.2.1 ih
theorem Paired.get {α β:Type} {R:α->β->Prop}:∀ {xs:List α} {ys:List β} {i:Nat} {x:α},aq R xs ys->xs[i]?=some x->∃ y,ys[i]?=some y/\R x y
 | _,_,_,_,.nil,e=>by simp at e
 | a :: _,b :: _,0,x,.cons h t,e=>by
  simp at e; subst e;exact ⟨b,by simp,h⟩
 | _ :: _,_ :: _,i + 1,x,.cons h t,e=>by
  obtain ⟨y,h1,h2⟩:=Paired.get (i:=i) t (by simpa using e);exact ⟨y,by simpa using h1,h2⟩
theorem Q7e {P:aM} {w:aJ} {K:PySem.W.Frag} {tg:aH} (a it:aB) (o:Obj) (kvs:List (HK × V)) (hd:o.data=.dict es ep) :
  Turn P w K tg (ItT a o kvs) [it] it (fun i h=>h.IsKeyIter it a i kvs.length ep) where
 mem:=by simp
 obj:=fun i h st b J=>by
  have e:b=it:=by simpa using J
  subst e;obtain ⟨o,e,c,d⟩:=st;exact ⟨o,e,fun v z=>by rw [d] at z; cases z⟩
 keep:=fun i h h' st k=>by
  obtain ⟨o,e,r⟩:=st;exact ⟨o,k it (by simp) o e,r⟩
 item:=by
  intro X hP hw hK hc i pins s σ H E I U st hg;subst hP hw hK;obtain ⟨hx,hl⟩:=hg;obtain ⟨hs,Z,O⟩:=Q5w I.hok hx hd;have B:kvs.length=es.size:=by have:=Paired.length O; simpa using this
  obtain ⟨u,hu,v,kr,rv⟩:=Paired.get O (O2 hl);rw [F4] at hu;obtain ⟨e,he,rfl⟩:=Option.map_eq_some_iff.mp hu;obtain ⟨f0,f1,f2,f3,f4,Y⟩:=U it (by simp);rw [B] at st;refine Qdv st Z (by rw [<- Array.getElem?_toList]; exact he) fun h' st' sb=>?_
  rw [<- B] at st';have I1:Inv X pins σ H { s with heap:=h' }:=I.turned (t':=s.toks) (fun b o J e=>(sb.2 b J).trans e) f0 f1 f3 f4 Y
  obtain ⟨o,e',c,d⟩:=id st';exact ⟨e.key,rfl,Qa8 (s:={ s with heap:=h' }) e' c d (by decide) ⟨v,H,I1,rv,⟨rfl,kvs[i],O2 hl,kr⟩,st',fun b J=>(U b J).1⟩⟩
 done:=by
  intro X hP hw hK hc i pins s σ H E I U st hg;subst hP hw hK;obtain ⟨hx,hl⟩:=hg;obtain ⟨hs,Z,O⟩:=Q5w I.hok hx hd;have B:kvs.length=es.size:=by have:=Paired.length O; simpa using this
  obtain ⟨f0,f1,f2,f3,f4,Y⟩:=U it (by simp);rw [B] at st;exact Qie (I.ok.hd hc) st Z (by rw [Array.getElem?_eq_none]; omega) fun h' eb=>⟨rfl,I.turned (t':=s.toks) (fun b o J e=>eb b o J e) f0 f1 f3 f4 Y⟩
 self:=fun _ _ _ _ _ st h=>wpAny_pyIter_keyiter st h
variable {X:Cx} {pins:List (aB × Obj)} {σ:St} {H:Hp} {a:aB} {tg:aH}
theorem Inv.noFrzT (I:Inv X pins σ H s) {kvs:List (HK × V)} (e:H a=some (.dT kvs)):Qhh X a:=fun o u q=>by
 have:=I.base.frzs a o u q;rw [e] at this; cases this
theorem Inv.thawT {kvs:List (HK × V)} (I:Inv X pins σ H s) (e:H a=some (.frz o (.dT kvs))) (n:Qhh X a):Inv X pins σ (upd H a (.dT kvs)) s:=by
 have nn:∀ b,H b=none->b≠a:=fun b h z=>by rw [z,e] at h; cases h
 refine ⟨I.ok,I.os,I.bare,⟨I.base.keep,I.base.slot,fun b o q h U=>?_,I.base.there,fun b xs q=>?_,fun b o u q=>?_,fun b ps q=>?_⟩,I.loc,I.cell,?_,fun x c q=>?_,fun p O=>?_,fun b ob q=>?_,I.len⟩
 ·have:=I.base.free b o q h U;rw [Q7 (nn b this)]; exact this
 ·have:=I.base.tups b xs q;rw [Q7 (fun z=>by rw [z,e] at this; cases this)]; exact this
 ·have:=I.base.frzs b o u q
  by_cases z:b=a
  ·subst z; exact absurd q (n o u)
  ·rw [Q7 z]; exact this
 ·obtain ⟨B,this⟩:=I.base.tbls b ps q;exact ⟨B,by rw [Q7 (fun z=>by rw [z,e] at this; cases this)]; exact this⟩
 ·rw [Q7 (nn _ I.free)]; exact I.free
 ·rw [Q7 (nn _ (I.freeC x c q))]; exact I.freeC x c q
 ·obtain ⟨h1,h2,J⟩:=I.pin p O;exact ⟨h1,by rw [Q7 (nn _ h2)]; exact h2,J⟩
 ·have stay:∀ {ob:HO},ObjOk X.prog X.w H s.heap b ob->ObjOk X.prog X.w (upd H a (.dT kvs)) s.heap b ob:=fun h=>h.stay (fun _ _ _ q=>q) (fun c q=>by
   rw [Q7 (fun z=>by rw [z,e] at q; cases q)]; exact q) fun c xs q=>by
   rw [Q7 (fun z=>by rw [z,e] at q; cases q)]; exact q
  by_cases z:b=a
  ·subst z;rw [Qp] at q;cases q;exact stay (I.hok b _ e).2
  ·rw [Q7 z] at q;exact stay (I.hok b _ q)
def Qqs (X:Cx) (tl:TE):TI:=fun σ H R=>tl σ H fun x H1=>∃ a kvs,x=.ref a/\H1 a=some (.dT kvs)/\∀ o,Qhh X a->R (ItT a o kvs) (upd H1 a (.frz o (.dT kvs)))
theorem Qed {l:aH} {tl:TE} (hl:PE X l tl):PI X tg l (Qqs X tl):=by
 intro pins s σ H R I h;refine thn (hl pins s σ H _ I h) fun v s1 ⟨x,H1,B,r1,q1⟩=>?_
 obtain ⟨a,kvs,rfl,U,q⟩:=q1;cases r1;obtain ⟨z,hs,xs,J,o,es,ep,O,hx,hd,he,hn⟩:=B.hok a _ U;have hsz:es.size=kvs.length:=by
  rw [<- Array.length_toList,he,O1,<- Paired.length J]
 refine Qdu hs ⟨o,O,hx,hd⟩ ?_;have Y:s1.heap.objs.size≠a:=Nat.ne_of_gt (D9 O);have Z:H1 s1.heap.objs.size=none:=B.hok.fresh (O8 _);have keep:∀ b u,s1.heap.get? b=some u->(s1.heap.push { cls:=.type "dict_keyiterator",data:=.fields #[.ref a,.int 0 0,.int es.size 0,.int ep 0] }).get? b=some u:=fun b u e=>O5 _ e
 refine ⟨s1.heap.objs.size,[s1.heap.objs.size],_,_,upd H1 a (.frz o (.dT kvs)),rfl,B.write (t':=s1.toks) (x:=a) (e:=a) (by rw [U]; trivial) (.inl rfl) (fun b u _ e=>keep b u e) ⟨o,keep a o O⟩ ⟨keep a o O,z,hs,xs,Paired.mapP J fun p q y=>⟨y.1,?_,y.2.2⟩,o,es,ep,keep a o O,hx,hd,he,hn⟩,
  Q7e a _ o kvs hd,⟨_,E8 _ rfl,rfl,by rw [hsz]; rfl⟩,fun b hb=>?_,q o (B.noFrzT U)⟩
 ·obtain ⟨u,k1,k2⟩:=y.2.1;exact ⟨u,k1.keep fun c ys ec=>by rw [Q7 (fun z=>by rw [z,U] at ec; cases ec)]; exact ec,k2⟩
 ·have e:b=s1.heap.objs.size:=by simpa using hb
  subst e;exact B.fpOk (O8 _) (by rw [Q7 Y]; exact Z)
def Qsa (td ty tx:TE):TE:=fun σ H Q=>td σ H fun x H1=>∃ a,x=.ref a/\IsD H1 a/\ty σ H1 fun y H2=>tx σ H2 fun z H3=>∃ kvs k,H3 a=some (.dT kvs)/\KR H3 k y/\kvs.length < sizeLine /\
 (∀ v,Ug kvs k=some v->Q v H3)/\(Ug kvs k=none->Q z (upd H3 a (.dT (X4 kvs k z))))
variable {o e f:aH} {apos cpos:Pos} {td ty tx:TE}
theorem Qba (hu:X.A.units + 9 < aO) (ho:PE X o td) (he:PE X e ty) (hf:PE X f tx) (m:M2 X o "setdefault" apos e f cpos):PE X (.Call (.Attribute o "setdefault" apos) [e,f] [] cpos) (Qsa td ty tx):=by
 intro pins s σ H Q I h;refine wpAny_Call_method m.base m.few m.line PySem.F.plainAttrs_dict PySem.F.slot_dict_setdefault PySem.F.type_dict_setdefault (thn (ho pins s σ H _ I h) fun u s1 ⟨x,H1,I1,rx,a,ex,d,q1⟩=>?_)
 subst ex;obtain rfl:u=Value.ref a:=rx;obtain ⟨t1,t2,_⟩:=Qft I1 d;refine ⟨t1,t2,?_⟩;rw [m.trees];refine Calls.callWith_builtin rfl (Calls.evalArgs_plain (Calls.spliced_cons (thn (he pins s1 σ H1 _ I1 q1) fun iv s2 ⟨y,H2,I2,ry,q2⟩=>Calls.spliced_cons (thn (hf pins s2 σ H2 _ I2 q2) fun dv s3 ⟨z,H3,U,rz,kvs,k,ea,kr,hl,g1,g2⟩=>Calls.spliced_nil ?_))))
 obtain ⟨hz,hs,xs,B,dd⟩:=Qgf U.hok ea;have a2:xs.length<=sizeLine:=by rw [<- Paired.length B]; exact hz
 refine call_meetsIn PySem.F.slot_dict_setdefault dd.typeIs PySem.F.entry_dict_setdefault (PySem.F.args_dict_setdefault_3 _ _ _) (Q3y hs) ⟨qd hu,k,xs,Q58 U.hok kr ry,dd,a2,fun p Z=>?_,fun Z h' Y sb=>?_⟩
 ·have J:=B.val k;rw [Z] at J;cases O:Ug kvs k with
  | none=>rw [O] at J; exact J.elim
  | some v=>
   rw [O] at J;exact ⟨v,H3,U.tok _,J,g1 v O⟩
 ·have J:=B.val k;rw [Z] at J;have O:Ug kvs k=none:=by
   cases O:Ug kvs k with
   | none=>rfl
   | some v=>rw [O] at J; exact J.elim
  have a1:(X4 kvs k z).length<=sizeLine:=by have:=Kn kvs k z; omega
  obtain ⟨q,es,ep,hq,h2,h3,h4,_,h5⟩:=Y;refine ⟨z,upd H3 a (.dT (X4 kvs k z)),zy U (by rw [ea]; exact True.intro) sb ⟨q,hq⟩ ⟨a1,hs,_,(B.put k kr ry rz).keeps fun c ys ec=>?_,q,es,ep,hq,h2,h3,h4,h5⟩,rz,g2 O⟩;rw [Q7 (Qf1 ec ea (fun z=>nomatch z))];exact ec
end L2
namespace L2
open PySem PySem.Spec PyProof.Rows SeqAt
variable {X:Cx}
theorem Qbf:MtM X "dict.clear" (fun x xs H Q=>∃ a kvs,x=.ref a/\xs=[]/\H a=some (.dK kvs)/\Q .non (upd H a (.dK []))):=by
 intro pins s σ H x xs v us Q I U J h;obtain ⟨a,kvs,rfl,rfl,e,q⟩:=h;cases U;have B:=J.zero;subst B;exact Qk7 I e fun s' O=>⟨.non,_,O,rfl,q⟩
end L2
namespace Sm
open PySem PySem.Spec L2
variable {H H':Hp} {p a:aB} {o:HO} {hs:List aB} {v:V} {vs:List V} {κ:Type} {σ:St} {e:aH} {es:List aH} {f:aA->aA->Sem aA} {Q:Bool->Hp->Prop} {D:Ends}
section
inductive PV where
 | non | bl (b:Bool) | int (i:Int) | str (x:Str) | tup (xs:List PV) | lst (xs:List PV) | fro (xs:List PV) | ref (i:Nat) | dic
variable {ps:List PV}
inductive Cell where
 | lst (xs:List PV) | dic (kvs:List (Key × PV)) | dtp (kvs:List (HK × PV)) | frd (kvs:List (Key × PV)) | frt (kvs:List (HK × PV))
 | obj (C:aB) (fs:List (Str × PV))
variable {cl:Cell}
abbrev Q0:=List Cell
variable {st:Q0}
structure Exc where
 cls:Str
 fs:Option (Str × PV):=none
inductive Res (α:Type) where
 | ok (a:α) (st:Q0) | exc (x:Exc) (st:Q0) | stuck
abbrev Gam:=List (Option PV)
variable {Γ:Gam} {m:Gam->Q0->Res Bool}
abbrev ME:=Gam->Q0->Res PV
structure Tk where
 tr:List aB
 hid:List aB
variable {ρ:Tk} {P:Bool->Q0->Hp->Tk->Prop}
instance:Membership aB Tk:=⟨fun t a=>a∈t.tr\/a∈t.hid⟩
def Tk.nil:Tk:=⟨[],[]⟩
theorem Tk.not_nil (a:aB):a∉Tk.nil:=fun z=>by rcases z with z | z <;> cases z
def Tk.add (t:Tk) (p:aB):Tk:=⟨t.tr ++ [p],t.hid⟩
def Tk.hide (t:Tk) (p:aB):Tk:=⟨t.tr,p :: t.hid⟩
mutual
def Rep (H:Hp) (ρ:Tk):PV->V->Prop
 | .non,v=>v=.non
 | .bl b,v=>v=.bl b
 | .int i,v=>v=.int i
 | .str x,v=>v=.str x
 | .tup ps,v=>∃ a vs,v=.ref a/\H a=some (.tup vs)/\a∉ρ/\RepL H ρ ps vs
 | .lst ps,v=>∃ a vs,v=.ref a/\H a=some (.lst vs)/\a∉ρ/\RepL H ρ ps vs
 | .fro ps,v=>∃ a vs,v=.ref a/\Rd H a (.lst vs)/\a∉ρ/\RepL H ρ ps vs
 | .ref i,v=>∃ a,ρ.tr[i]?=some a/\v=.ref a
 | .dic,v=>∃ a,v=.ref a/\H a=some (.dK [])/\a∉ρ
def RepL (H:Hp) (ρ:Tk):List PV->List V->Prop
 | [],vs=>vs=[]
 | p :: ps,vs=>∃ v r,vs=v :: r/\Rep H ρ p v/\RepL H ρ ps r
end
structure Ext (H:Hp) (ρ:Tk) (H':Hp) (ρ':Tk):Prop where
 pre:ρ.tr <+: ρ'.tr
 hidM:∀ a,a∈ρ.hid->a∈ρ'.hid
 hidN:∀ a,a∈ρ'.hid->a∈ρ.hid\/H a=none
 keep:∀ a o,H a=some o->a∉ρ.tr->H' a=some o
 new:∀ a,a∈ρ'.tr->a∈ρ.tr\/H a=none
 old:∀ a o,H a=some o->∃ o',H' a=some o'
 frz:∀ a o u,H a=some (.frz o u)->H' a=some (.frz o u)
theorem Ext.refl (H:Hp) (ρ:Tk):Ext H ρ H ρ:=⟨List.prefix_refl _,fun _ h=>h,fun _ h=>.inl h,fun _ _ h _=>h,fun _ h=>.inl h,fun _ o h=>⟨o,h⟩,fun _ _ _ h=>h⟩
theorem Ext.trans {H1 H2:Hp} {ρ1 B:Tk} (a:Ext H ρ H1 ρ1) (b:Ext H1 ρ1 H2 B):Ext H ρ H2 B where
 pre:=a.pre.trans b.pre
 hidM:=fun x h=>b.hidM x (a.hidM x h)
 hidN:=fun x h=>by
  rcases b.hidN x h with z | z
  ·exact a.hidN x z
  ·right
   cases q:H x with
   | none=>rfl
   | some o=>
    obtain ⟨o',e⟩:=a.old x o q;rw [e] at z; cases z
 keep:=fun x o h n=>b.keep x o (a.keep x o h n) fun z=>by
  rcases a.new x z with z | z
  ·exact n z
  ·rw [h] at z; cases z
 new:=fun x h=>by
  rcases b.new x h with z | z
  ·exact a.new x z
  ·right
   cases q:H x with
   | none=>rfl
   | some o=>
    obtain ⟨o',e⟩:=a.old x o q;rw [e] at z; cases z
 old:=fun x o h=>by
  obtain ⟨o',e⟩:=a.old x o h;exact b.old x o' e
 frz:=fun x o u h=>b.frz x o u (a.frz x o u h)
theorem Ext.add (h:H p=none):Ext H ρ (upd H p o) ρ where
 pre:=List.prefix_refl _
 hidM:=fun _ h=>h
 hidN:=fun _ h=>.inl h
 keep:=fun a u e _=>by rw [Q7 (Qb e h)]; exact e
 new:=fun a e=>.inl e
 old:=fun a u e=>⟨u,by rw [Q7 (Qb e h)]; exact e⟩
 frz:=fun a o u e=>by rw [Q7 (Qb e h)]; exact e
theorem Ext.addT (h:H p=none):Ext H ρ (upd H p o) (ρ.add p) where
 pre:=List.prefix_append _ _
 hidM:=fun _ h=>h
 hidN:=fun _ h=>.inl h
 keep:=fun a u e _=>by rw [Q7 (Qb e h)]; exact e
 new:=fun a e=>by
  rcases D4.mp e with z | z
  ·exact .inl z
  ·right
   have:a=p:=by simpa using z
   rw [this]; exact h
 old:=fun a u e=>⟨u,by rw [Q7 (Qb e h)]; exact e⟩
 frz:=fun a o u e=>by rw [Q7 (Qb e h)]; exact e
theorem Ext.same (h:Same H H'):Ext H ρ H' ρ:=⟨List.prefix_refl _,fun _ h=>h,fun _ h=>.inl h,fun a o e _=>h a o e,fun _ e=>.inl e,fun a o e=>⟨o,h a o e⟩,fun a o u e=>h a _ e⟩
section
variable {H H':Hp} {ρ ρ':Tk}
theorem X8 (x:Ext H ρ H' ρ') (h:H a=some o) (n:a∉ρ):a∉ρ':=fun z=>by
 rcases z with z | z
 ·rcases x.new a z with z | z
  ·exact n (.inl z)
  ·rw [h] at z; cases z
 ·rcases x.hidN a z with z | z
  ·exact n (.inr z)
  ·rw [h] at z; cases z
theorem Ext.kp (x:Ext H ρ H' ρ') (h:H a=some o) (n:a∉ρ):H' a=some o:=x.keep a o h fun z=>n (.inl z)
mutual
theorem Rep.ext (x:Ext H ρ H' ρ'):∀ {p:PV} {v:V},Rep H ρ p v->Rep H' ρ' p v
 | .non,_,h=>h
 | .bl _,_,h=>h
 | .int _,_,h=>h
 | .str _,_,h=>h
 | .tup ps,v,h=>by
  obtain ⟨a,vs,e,s,n,r⟩:=h;exact ⟨a,vs,e,x.kp s n,X8 x s n,RepL.ext x r⟩
 | .lst ps,v,h=>by
  obtain ⟨a,vs,e,s,n,r⟩:=h;exact ⟨a,vs,e,x.kp s n,X8 x s n,RepL.ext x r⟩
 | .fro ps,v,h=>by
  obtain ⟨a,vs,e,s,n,r⟩:=h;rcases s with s | ⟨o,s⟩
  ·exact ⟨a,vs,e,.inl (x.kp s n),X8 x s n,RepL.ext x r⟩
  ·exact ⟨a,vs,e,.inr ⟨o,x.kp s n⟩,X8 x s n,RepL.ext x r⟩
 | .ref i,v,h=>by
  obtain ⟨a,e,rfl⟩:=h;obtain ⟨t,B⟩:=x.pre;refine ⟨a,?_,rfl⟩;rw [<- B,O6 (O0.mp e).1];exact e
 | .dic,v,h=>by
  obtain ⟨a,e,s,n⟩:=h;exact ⟨a,e,x.kp s n,X8 x s n⟩
theorem RepL.ext (x:Ext H ρ H' ρ'):∀ {ps:List PV} {vs:List V},RepL H ρ ps vs->RepL H' ρ' ps vs
 | [],_,h=>h
 | p :: ps,vs,h=>by
  obtain ⟨v,r,e,h1,h2⟩:=h;exact ⟨v,r,e,Rep.ext x h1,RepL.ext x h2⟩
end
mutual
theorem Rep.hide {a:aB} {o:HO} (h:H a=none):∀ {p:PV} {v:V},Rep H ρ p v->Rep (upd H a o) (ρ.hide a) p v
 | .non,_,r=>r
 | .bl _,_,r=>r
 | .int _,_,r=>r
 | .str _,_,r=>r
 | .tup ps,v,⟨b,vs,e,s,n,r⟩=>⟨b,vs,e,by rw [Q7 (Qb s h)]; exact s,fun z=>by
   rcases z with z | z
   ·exact n (.inl z)
   ·rcases D8.mp z with z | z
    ·exact Qb s h z
    ·exact n (.inr z),RepL.hide h r⟩
 | .lst ps,v,⟨b,vs,e,s,n,r⟩=>⟨b,vs,e,by rw [Q7 (Qb s h)]; exact s,fun z=>by
   rcases z with z | z
   ·exact n (.inl z)
   ·rcases D8.mp z with z | z
    ·exact Qb s h z
    ·exact n (.inr z),RepL.hide h r⟩
 | .fro ps,v,⟨b,vs,e,s,n,r⟩=>by
   have ne:b≠a:=by
    rcases s with s | ⟨_,s⟩
    ·exact Qb s h
    ·exact Qb s h
   refine ⟨b,vs,e,?_,fun z=>?_,RepL.hide h r⟩
   ·rcases s with s | ⟨u,s⟩
    ·exact .inl (by rw [Q7 ne]; exact s)
    ·exact .inr ⟨u,by rw [Q7 ne]; exact s⟩
   ·rcases z with z | z
    ·exact n (.inl z)
    ·rcases D8.mp z with z | z
     ·exact ne z
     ·exact n (.inr z)
 | .ref i,v,r=>r
 | .dic,v,⟨b,e,s,n⟩=>⟨b,e,by rw [Q7 (Qb s h)]; exact s,fun z=>by
   rcases z with z | z
   ·exact n (.inl z)
   ·rcases D8.mp z with z | z
    ·exact Qb s h z
    ·exact n (.inr z)⟩
theorem RepL.hide {a:aB} {o:HO} (h:H a=none):∀ {ps:List PV} {vs:List V},RepL H ρ ps vs->RepL (upd H a o) (ρ.hide a) ps vs
 | [],_,r=>r
 | p :: ps,_,⟨v,t,e,B,I⟩=>⟨v,t,e,Rep.hide h B,RepL.hide h I⟩
end
mutual
theorem Rep.rehide {a:aB} {o:HO} (h:a∈ρ.hid):∀ {p:PV} {v:V},Rep H ρ p v->Rep (upd H a o) ρ p v
 | .non,_,r=>r
 | .bl _,_,r=>r
 | .int _,_,r=>r
 | .str _,_,r=>r
 | .tup ps,v,⟨b,vs,e,s,n,r⟩=>⟨b,vs,e,by rw [Q7 (show b≠a from fun z=>n (.inr (by rw [z]; exact h)))]; exact s,n,RepL.rehide h r⟩
 | .lst ps,v,⟨b,vs,e,s,n,r⟩=>⟨b,vs,e,by rw [Q7 (show b≠a from fun z=>n (.inr (by rw [z]; exact h)))]; exact s,n,RepL.rehide h r⟩
 | .fro ps,v,⟨b,vs,e,s,n,r⟩=>by
   have ne:b≠a:=fun z=>n (.inr (by rw [z]; exact h))
   refine ⟨b,vs,e,?_,n,RepL.rehide h r⟩;rcases s with s | ⟨u,s⟩
   ·exact .inl (by rw [Q7 ne]; exact s)
   ·exact .inr ⟨u,by rw [Q7 ne]; exact s⟩
 | .ref i,v,r=>r
 | .dic,v,⟨b,e,s,n⟩=>⟨b,e,by rw [Q7 (show b≠a from fun z=>n (.inr (by rw [z]; exact h)))]; exact s,n⟩
theorem RepL.rehide {a:aB} {o:HO} (h:a∈ρ.hid):∀ {ps:List PV} {vs:List V},RepL H ρ ps vs->RepL (upd H a o) ρ ps vs
 | [],_,r=>r
 | p :: ps,_,⟨v,t,e,B,I⟩=>⟨v,t,e,Rep.rehide h B,RepL.rehide h I⟩
end
mutual
theorem Rep.retr {a:aB} {o:HO} (h:a∈ρ.tr):∀ {p:PV} {v:V},Rep H ρ p v->Rep (upd H a o) ρ p v
 | .non,_,r=>r
 | .bl _,_,r=>r
 | .int _,_,r=>r
 | .str _,_,r=>r
 | .tup ps,v,⟨b,vs,e,s,n,r⟩=>⟨b,vs,e,by rw [Q7 (show b≠a from fun z=>n (.inl (by rw [z]; exact h)))]; exact s,n,RepL.retr h r⟩
 | .lst ps,v,⟨b,vs,e,s,n,r⟩=>⟨b,vs,e,by rw [Q7 (show b≠a from fun z=>n (.inl (by rw [z]; exact h)))]; exact s,n,RepL.retr h r⟩
 | .fro ps,v,⟨b,vs,e,s,n,r⟩=>by
   have ne:b≠a:=fun z=>n (.inl (by rw [z]; exact h))
   refine ⟨b,vs,e,?_,n,RepL.retr h r⟩;rcases s with s | ⟨u,s⟩
   ·exact .inl (by rw [Q7 ne]; exact s)
   ·exact .inr ⟨u,by rw [Q7 ne]; exact s⟩
 | .ref i,v,r=>r
 | .dic,v,⟨b,e,s,n⟩=>⟨b,e,by rw [Q7 (show b≠a from fun z=>n (.inl (by rw [z]; exact h)))]; exact s,n⟩
theorem RepL.retr {a:aB} {o:HO} (h:a∈ρ.tr):∀ {ps:List PV} {vs:List V},RepL H ρ ps vs->RepL (upd H a o) ρ ps vs
 | [],_,r=>r
 | p :: ps,_,⟨v,t,e,B,I⟩=>⟨v,t,e,Rep.retr h B,RepL.retr h I⟩
end
mutual
theorem Rep.unhide {hs:List aB} (B:∀ a,a∈hs->a∈ρ.hid):∀ {p:PV} {v:V},Rep H ρ p v->Rep H ⟨ρ.tr,hs⟩ p v
 | .non,_,r=>r
 | .bl _,_,r=>r
 | .int _,_,r=>r
 | .str _,_,r=>r
 | .tup ps,v,⟨b,vs,e,s,n,r⟩=>⟨b,vs,e,s,fun z=>n (z.imp id (B _)),RepL.unhide B r⟩
 | .lst ps,v,⟨b,vs,e,s,n,r⟩=>⟨b,vs,e,s,fun z=>n (z.imp id (B _)),RepL.unhide B r⟩
 | .fro ps,v,⟨b,vs,e,s,n,r⟩=>⟨b,vs,e,s,fun z=>n (z.imp id (B _)),RepL.unhide B r⟩
 | .ref i,v,r=>r
 | .dic,v,⟨b,e,s,n⟩=>⟨b,e,s,fun z=>n (z.imp id (B _))⟩
theorem RepL.unhide {hs:List aB} (B:∀ a,a∈hs->a∈ρ.hid):∀ {ps:List PV} {vs:List V},RepL H ρ ps vs->RepL H ⟨ρ.tr,hs⟩ ps vs
 | [],_,r=>r
 | p :: ps,_,⟨v,t,e,I,J⟩=>⟨v,t,e,Rep.unhide B I,RepL.unhide B J⟩
end
theorem RepL.length:∀ {ps:List PV} {vs:List V},RepL H ρ ps vs->ps.length=vs.length
 | [],_,h=>by cases h; rfl
 | p :: ps,_,⟨v,r,rfl,_,h2⟩=>by rw [E4,E4,RepL.length h2]
theorem RepL.get:∀ {ps:List PV} {vs:List V} {i:Nat} {p:PV},RepL H ρ ps vs->ps[i]?=some p->∃ v,vs[i]?=some v/\Rep H ρ p v
 | [],_,_,_,_,e=>by simp at e
 | p :: ps,_,0,q,⟨v,r,rfl,h1,h2⟩,e=>by simp at e; subst e; exact ⟨v,rfl,h1⟩
 | p :: ps,_,i + 1,q,⟨v,r,rfl,h1,h2⟩,e=>by
  obtain ⟨u,I,B⟩:=RepL.get (i:=i) h2 (by simpa using e);exact ⟨u,by simpa using I,B⟩
theorem RepL.cons {p:PV} (h:Rep H ρ p v) (r:RepL H ρ ps vs):RepL H ρ (p :: ps) (v :: vs):=⟨v,vs,rfl,h,r⟩
theorem RepL.nil:RepL H ρ [] []:=rfl
theorem RepL.append:∀ {ps B:List PV} {vs us:List V},RepL H ρ ps vs->RepL H ρ B us->RepL H ρ (ps ++ B) (vs ++ us)
 | [],_,_,_,h,g=>by cases h; exact g
 | p :: ps,_,_,_,⟨v,r,rfl,h1,h2⟩,g=>⟨v,_,rfl,h1,RepL.append h2 g⟩
theorem RepL.take:∀ {ps:List PV} {vs:List V} (n:Nat),RepL H ρ ps vs->RepL H ρ (ps.take n) (vs.take n)
 | _,_,0,_=>rfl
 | [],_,n + 1,h=>by cases h; rfl
 | p :: ps,_,n + 1,⟨v,r,rfl,h1,h2⟩=>⟨v,_,rfl,h1,RepL.take n h2⟩
theorem RepL.drop:∀ {ps:List PV} {vs:List V} (n:Nat),RepL H ρ ps vs->RepL H ρ (ps.drop n) (vs.drop n)
 | _,_,0,h=>h
 | [],_,n + 1,h=>by cases h; rfl
 | p :: ps,_,n + 1,⟨v,r,rfl,h1,h2⟩=>RepL.drop n h2
theorem RepL.set {p:PV} (h:Rep H ρ p v):∀ {ps:List PV} {vs:List V} (i:Nat),RepL H ρ ps vs->RepL H ρ (ps.set i p) (vs.set i v)
 | [],_,_,g=>by cases g; rfl
 | q :: ps,_,0,⟨u,r,rfl,h1,h2⟩=>⟨v,r,rfl,h,h2⟩
 | q :: ps,_,i + 1,⟨u,r,rfl,h1,h2⟩=>⟨u,_,rfl,h1,RepL.set h i h2⟩
theorem RepL.rep (h:RepL H ρ ps vs):∀ n,RepL H ρ (List.replicate n ps).flatten (List.replicate n vs).flatten
 | 0=>rfl
 | n + 1=>by rw [List.replicate_succ,List.replicate_succ,List.flatten_cons,List.flatten_cons]; exact h.append (RepL.rep h n)
theorem RepL.toInts:∀ {ns:List Int} {vs:List V},RepL H ρ (ns.map .int) vs->vs=ns.map V.int
 | [],_,h=>h
 | n :: ns,_,⟨v,r,rfl,h1,h2⟩=>by
  have e:v=V.int n:=h1;rw [RepL.toInts h2,e]; rfl
theorem RepL.toBls:∀ {ns:List Bool} {vs:List V},RepL H ρ (ns.map .bl) vs->vs=ns.map V.bl
 | [],_,h=>h
 | n :: ns,_,⟨v,r,rfl,h1,h2⟩=>by
  have e:v=V.bl n:=h1;rw [RepL.toBls h2,e]; rfl
end
def RepD {κ:Type} (H:Hp) (ρ:Tk) (kvs:List (κ × PV)) (vs:List (κ × V)):Prop:=vs.map Prod.fst=kvs.map Prod.fst/\RepL H ρ (kvs.map Prod.snd) (vs.map Prod.snd)
theorem RepD.ext {ρ':Tk} {kvs:List (κ × PV)} {vs:List (κ × V)} (x:Ext H ρ H' ρ') (r:RepD H ρ kvs vs):RepD H' ρ' kvs vs:=⟨r.1,r.2.ext x⟩
theorem RepD.length {kvs:List (κ × PV)} {vs:List (κ × V)} (r:RepD H ρ kvs vs):kvs.length=vs.length:=by
 have:=congrArg List.length r.1;rw [O1,O1] at this;exact this.symm
def CellR (H:Hp) (ρ:Tk) (a:aB):Cell->Prop
 | .lst ps=>∃ vs,H a=some (.lst vs)/\RepL H ρ ps vs
 | .dic kvs=>∃ vs,H a=some (.dK vs)/\RepD H ρ kvs vs
 | .dtp kvs=>∃ vs,H a=some (.dT vs)/\RepD H ρ kvs vs
 | .frd kvs=>∃ vs,(∃ o,H a=some (.frz o (.dK vs)))/\RepD H ρ kvs vs
 | .frt kvs=>∃ vs,(∃ o,H a=some (.frz o (.dT vs)))/\RepD H ρ kvs vs
 | .obj C fs=>∃ vs,(∃ dx,H a=some (.ins C dx vs))/\RepD H ρ fs vs
theorem CellR.dom :∀ {c:Cell},CellR H ρ a c->∃ o,H a=some o
 | .lst _,⟨_,e,_⟩=>⟨_,e⟩
 | .dic _,⟨_,e,_⟩=>⟨_,e⟩
 | .dtp _,⟨_,e,_⟩=>⟨_,e⟩
 | .frd _,⟨_,⟨_,e⟩,_⟩=>⟨_,e⟩
 | .frt _,⟨_,⟨_,e⟩,_⟩=>⟨_,e⟩
 | .obj _ _,⟨_,⟨_,e⟩,_⟩=>⟨_,e⟩
theorem CellR.ext {ρ':Tk} (x:Ext H ρ H' ρ') (k:∀ o,H a=some o->H' a=some o):∀ {c:Cell},CellR H ρ a c->CellR H' ρ' a c
 | .lst _,⟨vs,e,r⟩=>⟨vs,k _ e,r.ext x⟩
 | .dic _,⟨vs,e,r⟩=>⟨vs,k _ e,r.ext x⟩
 | .dtp _,⟨vs,e,r⟩=>⟨vs,k _ e,r.ext x⟩
 | .frd _,⟨vs,⟨o,e⟩,r⟩=>⟨vs,⟨o,k _ e⟩,r.ext x⟩
 | .frt _,⟨vs,⟨o,e⟩,r⟩=>⟨vs,⟨o,k _ e⟩,r.ext x⟩
 | .obj _ _,⟨vs,⟨o,e⟩,r⟩=>⟨vs,⟨o,k _ e⟩,r.ext x⟩
structure Rel (H:Hp) (ρ:Tk) (st:Q0):Prop where
 len:ρ.tr.length=st.length
 nd:ρ.tr.Nodup
 hd:∀ a∈ρ.hid,∃ o,H a=some o/\∀ xs,o≠.tup xs
 ap:∀ a∈ρ.hid,a∉ρ.tr
 cell:∀ (i:Nat) (a:aB) (c:Cell),ρ.tr[i]?=some a->st[i]?=some c->CellR H ρ a c
section
variable {H H':Hp} {ρ ρ':Tk} {st st':Q0}
theorem Rel.lst (R:Rel H ρ st) {i:Nat} (h:st[i]?=some (.lst ps)):∃ a vs,ρ.tr[i]?=some a/\H a=some (.lst vs)/\RepL H ρ ps vs:=by
 have hi:i < ρ.tr.length:=by rw [R.len]; exact (O0.mp h).1
 have e:ρ.tr[i]?=some ρ.tr[i]:=O2 hi;obtain ⟨vs,I,B⟩:=R.cell i _ _ e h;exact ⟨_,vs,e,I,B⟩
theorem Rel.dic (R:Rel H ρ st) {i:Nat} {kvs:List (Key × PV)} (h:st[i]?=some (.dic kvs)):∃ a vs,ρ.tr[i]?=some a/\H a=some (.dK vs)/\RepD H ρ kvs vs:=by
 have hi:i < ρ.tr.length:=by rw [R.len]; exact (O0.mp h).1
 have e:ρ.tr[i]?=some ρ.tr[i]:=O2 hi;obtain ⟨vs,I,B⟩:=R.cell i _ _ e h;exact ⟨_,vs,e,I,B⟩
theorem Rel.dtp (R:Rel H ρ st) {i:Nat} {kvs:List (HK × PV)} (h:st[i]?=some (.dtp kvs)):∃ a vs,ρ.tr[i]?=some a/\H a=some (.dT vs)/\RepD H ρ kvs vs:=by
 have hi:i < ρ.tr.length:=by rw [R.len]; exact (O0.mp h).1
 have e:ρ.tr[i]?=some ρ.tr[i]:=O2 hi;obtain ⟨vs,I,B⟩:=R.cell i _ _ e h;exact ⟨_,vs,e,I,B⟩
theorem Rel.frt (R:Rel H ρ st) {i:Nat} {kvs:List (HK × PV)} (h:st[i]?=some (.frt kvs)):∃ a vs o,ρ.tr[i]?=some a/\H a=some (.frz o (.dT vs))/\RepD H ρ kvs vs:=by
 have hi:i < ρ.tr.length:=by rw [R.len]; exact (O0.mp h).1
 have e:ρ.tr[i]?=some ρ.tr[i]:=O2 hi;obtain ⟨vs,⟨o,B⟩,e2⟩:=R.cell i _ _ e h;exact ⟨_,vs,o,e,B,e2⟩
theorem Rel.dom (R:Rel H ρ st) (h:a∈ρ.tr):∃ o,H a=some o:=by
 obtain ⟨i,hi,e⟩:=List.getElem_of_mem h;have hs:i < st.length:=by rw [<- R.len]; exact hi
 have q:=R.cell i a st[i] (by rw [O2 hi,e]) (O2 hs);exact q.dom
theorem Rel.fresh (R:Rel H ρ st) (h:H p=none):p∉ρ:=fun z=>by
 rcases z with z | z
 ·obtain ⟨vs,q⟩:=R.dom z;rw [h] at q; cases q
 ·obtain ⟨o,q,_⟩:=R.hd p z;rw [h] at q; cases q
theorem Rel.later (R:Rel H ρ st) (x:Ext H ρ H' ρ) (k:∀ a o,a∈ρ.tr->H a=some o->H' a=some o):Rel H' ρ st where
 len:=R.len
 nd:=R.nd
 hd:=fun a B=>let ⟨o,e,n⟩:=R.hd a B; ⟨o,x.keep a o e (R.ap a B),n⟩
 ap:=R.ap
 cell:=fun i a c h1 h2=>by
  exact (R.cell i a c h1 h2).ext x fun o e=>k a o (E6 h1) e
end
theorem Rel.add (R:Rel H ρ st) (h:H p=none):Rel (upd H p o) ρ st:=
 R.later (Ext.add h) fun a u B e=>by rw [Q7 (Qb e h)]; exact e
theorem Rel.same (R:Rel H ρ st) (h:Same H H'):Rel H' ρ st:=R.later (Ext.same h) fun a u _ e=>h a u e
theorem Rel.addC (R:Rel H ρ st) (h:H p=none) (r:CellR (upd H p o) (ρ.add p) p cl):Rel (upd H p o) (ρ.add p) (st ++ [cl]) where
 len:=by show (ρ.tr ++ [p]).length=_; rw [O7,O7,R.len]; rfl
 nd:=List.nodup_append.mpr ⟨R.nd,by simp,fun a B b J e=>by
  have:b=p:=by simpa using J
  subst this; subst e;exact R.fresh h (.inl B)⟩
 hd:=fun a B=>let ⟨o,e,n⟩:=R.hd a B; ⟨o,by rw [Q7 (Qb e h)]; exact e,n⟩
 ap:=fun a B z=>by
  rcases D4.mp z with z | z
  ·exact R.ap a B z
  ·have:a=p:=by simpa using z
   subst this;exact R.fresh h (.inr B)
 cell:=fun i a c h1 h2=>by
  have h1:(ρ.tr ++ [p])[i]?=some a:=h1
  by_cases hi:i < st.length
  ·rw [O6 (by rw [R.len]; exact hi)] at h1;rw [O6 hi] at h2;exact (R.cell i a c h1 h2).ext (Ext.addT h) fun u e=>by rw [Q7 (Qb e h)]; exact e
  ·rw [D5 (by rw [R.len]; omega)] at h1;rw [D5 (by omega)] at h2;have I:i - st.length=0:=by
    rcases Nat.eq_zero_or_pos (i - st.length) with z | z
    ·exact z
    ·rw [G8 (by simp; omega)] at h2; cases h2
   rw [R.len,I] at h1;rw [I] at h2;simp at h1 h2;subst h1; subst h2;exact r
theorem Q36 {α:Type} {l:List α} (h:l.Nodup) {i j:Nat} (hi:i < l.length) (B:j < l.length) (e:l[i]=l[j]):i=j:=by
 rcases Nat.lt_trichotomy i j with z | z | z
 ·exact absurd e ((List.pairwise_iff_getElem.mp h) i j hi B z)
 ·exact z
 ·exact absurd e.symm ((List.pairwise_iff_getElem.mp h) j i B hi z)
theorem Ext.put {o':HO} (h:a∈ρ.tr) (e:H a=some o) (B:∀ q u,o≠.frz q u:=by intro _ _ z; cases z):Ext H ρ (upd H a o') ρ where
 pre:=List.prefix_refl _
 hidM:=fun _ h=>h
 hidN:=fun _ h=>.inl h
 keep:=fun b u q n=>by rw [Q7 (show b≠a from fun z=>n (by rw [z]; exact h))]; exact q
 new:=fun b q=>.inl q
 old:=fun b u q=>by
  by_cases z:b=a
  ·exact ⟨o',by rw [z]; exact Qp⟩
  ·exact ⟨u,by rw [Q7 z]; exact q⟩
 frz:=fun b q u k=>by
  by_cases z:b=a
  ·rw [z,e] at k; cases k; exact absurd rfl (B _ _)
  ·rw [Q7 z]; exact k
theorem Rel.putC (R:Rel H ρ st) {i:Nat} {o':HO} (hi:ρ.tr[i]?=some a) (e:H a=some o) (r:CellR (upd H a o') ρ a cl):Rel (upd H a o') ρ (st.set i cl) where
 len:=by rw [L6]; exact R.len
 nd:=R.nd
 hd:=fun b J=>let ⟨u,q,n⟩:=R.hd b J; ⟨u,by rw [Q7 (show b≠a from fun z=>R.ap b J (by rw [z]; exact E6 hi))]; exact q,n⟩
 ap:=R.ap
 cell:=fun j b c h1 h2=>by
  by_cases Y:i=j
  ·subst Y;rw [hi] at h1; cases h1;rw [F0 (by rw [<- R.len]; exact (O0.mp hi).1)] at h2;cases h2;exact r
  ·rw [E5 Y] at h2;have q:=R.cell j b c h1 h2;have J:b≠a:=fun z=>by
    subst z;have l1:=(O0.mp hi);have l2:=(O0.mp h1);exact Y (Q36 R.nd l1.1 l2.1 (l1.2.trans l2.2.symm))
   have O:=E6 hi;cases c with
   | lst ps=>
    obtain ⟨vs,I,B⟩:=q;exact ⟨vs,by rw [Q7 J]; exact I,B.retr O⟩
   | dic ps=>
    obtain ⟨vs,I,B⟩:=q;exact ⟨vs,by rw [Q7 J]; exact I,B.1,B.2.retr O⟩
   | dtp ps=>
    obtain ⟨vs,I,B⟩:=q;exact ⟨vs,by rw [Q7 J]; exact I,B.1,B.2.retr O⟩
   | frd ps=>
    obtain ⟨vs,⟨U,I⟩,B⟩:=q;exact ⟨vs,⟨U,by rw [Q7 J]; exact I⟩,B.1,B.2.retr O⟩
   | frt ps=>
    obtain ⟨vs,⟨U,I⟩,B⟩:=q;exact ⟨vs,⟨U,by rw [Q7 J]; exact I⟩,B.1,B.2.retr O⟩
   | obj C ps=>
    obtain ⟨vs,⟨U,I⟩,B⟩:=q;exact ⟨vs,⟨U,by rw [Q7 J]; exact I⟩,B.1,B.2.retr O⟩
theorem Rel.put (R:Rel H ρ st) {i:Nat} (hi:ρ.tr[i]?=some a) (e:H a=some o) (r:RepL H ρ ps vs):Rel (upd H a (.lst vs)) ρ (st.set i (.lst ps)):=
 R.putC hi e ⟨vs,Qp,r.retr (E6 hi)⟩
theorem Rel.hide (R:Rel H ρ st) (h:H p=none) (Y:∀ xs,o≠.tup xs:=by intro _ z; cases z):Rel (upd H p o) (ρ.hide p) st:=by
 have x:Ext H ρ (upd H p o) ρ:=Ext.add h;have U:=R.add (p:=p) (o:=o) h;refine ⟨U.len,U.nd,fun a J=>?_,fun a J z=>?_,fun i a c h1 h2=>?_⟩
 ·rcases D8.mp J with rfl | J
  ·exact ⟨o,Qp,Y⟩
  ·exact U.hd a J
 ·rcases D8.mp J with rfl | J
  ·exact R.fresh h (.inl z)
  ·exact R.ap a J z
 ·have q:=R.cell i a c h1 h2;cases c with
  | lst ps=>
   obtain ⟨vs,B,I⟩:=q;exact ⟨vs,by rw [Q7 (Qb B h)]; exact B,I.hide h⟩
  | dic ps=>
   obtain ⟨vs,B,I⟩:=q;exact ⟨vs,by rw [Q7 (Qb B h)]; exact B,I.1,I.2.hide h⟩
  | dtp ps=>
   obtain ⟨vs,B,I⟩:=q;exact ⟨vs,by rw [Q7 (Qb B h)]; exact B,I.1,I.2.hide h⟩
  | frd ps=>
   obtain ⟨vs,⟨O,B⟩,I⟩:=q;exact ⟨vs,⟨O,by rw [Q7 (Qb B h)]; exact B⟩,I.1,I.2.hide h⟩
  | frt ps=>
   obtain ⟨vs,⟨O,B⟩,I⟩:=q;exact ⟨vs,⟨O,by rw [Q7 (Qb B h)]; exact B⟩,I.1,I.2.hide h⟩
  | obj C ps=>
   obtain ⟨vs,⟨O,B⟩,I⟩:=q;exact ⟨vs,⟨O,by rw [Q7 (Qb B h)]; exact B⟩,I.1,I.2.hide h⟩
theorem Rel.rehide (R:Rel H ρ st) (h:p∈ρ.hid) (U:∀ xs,o≠.tup xs:=by intro _ z; cases z):Rel (upd H p o) ρ st:=by
 refine ⟨R.len,R.nd,fun a O=>?_,R.ap,fun i a c h1 h2=>?_⟩
 ·by_cases e:a=p
  ·exact ⟨o,by rw [e]; exact Qp,U⟩
  ·obtain ⟨u,q,n⟩:=R.hd a O;exact ⟨u,by rw [Q7 e]; exact q,n⟩
 ·have q:=R.cell i a c h1 h2;have ne:a≠p:=fun z=>R.ap p h (by rw [<- z]; exact E6 h1)
  cases c with
  | lst ps=>
   obtain ⟨vs,I,B⟩:=q;exact ⟨vs,by rw [Q7 ne]; exact I,B.rehide h⟩
  | dic ps=>
   obtain ⟨vs,I,B⟩:=q;exact ⟨vs,by rw [Q7 ne]; exact I,B.1,B.2.rehide h⟩
  | dtp ps=>
   obtain ⟨vs,I,B⟩:=q;exact ⟨vs,by rw [Q7 ne]; exact I,B.1,B.2.rehide h⟩
  | frd ps=>
   obtain ⟨vs,⟨J,I⟩,B⟩:=q;exact ⟨vs,⟨J,by rw [Q7 ne]; exact I⟩,B.1,B.2.rehide h⟩
  | frt ps=>
   obtain ⟨vs,⟨J,I⟩,B⟩:=q;exact ⟨vs,⟨J,by rw [Q7 ne]; exact I⟩,B.1,B.2.rehide h⟩
  | obj C ps=>
   obtain ⟨vs,⟨J,I⟩,B⟩:=q;exact ⟨vs,⟨J,by rw [Q7 ne]; exact I⟩,B.1,B.2.rehide h⟩
theorem Rel.unhide (J:∀ a,a∈hs->a∈ρ.hid) (R:Rel H ρ st):Rel H ⟨ρ.tr,hs⟩ st:=by
 refine ⟨R.len,R.nd,fun a O=>R.hd a (J a O),fun a O=>R.ap a (J a O),fun i a c h1 h2=>?_⟩;have q:=R.cell i a c h1 h2;cases c with
 | lst ps=>
  obtain ⟨vs,I,B⟩:=q;exact ⟨vs,I,RepL.unhide J B⟩
 | dic ps=>
  obtain ⟨vs,I,B⟩:=q;exact ⟨vs,I,B.1,RepL.unhide J B.2⟩
 | dtp ps=>
  obtain ⟨vs,I,B⟩:=q;exact ⟨vs,I,B.1,RepL.unhide J B.2⟩
 | frd ps=>
  obtain ⟨vs,I,B⟩:=q;exact ⟨vs,I,B.1,RepL.unhide J B.2⟩
 | frt ps=>
  obtain ⟨vs,I,B⟩:=q;exact ⟨vs,I,B.1,RepL.unhide J B.2⟩
 | obj C ps=>
  obtain ⟨vs,I,B⟩:=q;exact ⟨vs,I,B.1,RepL.unhide J B.2⟩
theorem Ext.hide (h:H p=none):Ext H ρ (upd H p o) (ρ.hide p) where
 pre:=List.prefix_refl _
 hidM:=fun _ h=>O4 _ h
 hidN:=fun a B=>by
  rcases D8.mp B with rfl | B
  ·exact .inr h
  ·exact .inl B
 keep:=fun a u e _=>by rw [Q7 (Qb e h)]; exact e
 new:=fun a e=>.inl e
 old:=fun a u e=>⟨u,by rw [Q7 (Qb e h)]; exact e⟩
 frz:=fun a o u e=>by rw [Q7 (Qb e h)]; exact e
theorem Ext.put0 {H1:Hp} {ρ1:Tk} (x:Ext H ρ H1 ρ1) (h:H p=none):Ext H ρ (upd H1 p o) ρ1 where
 pre:=x.pre
 hidM:=x.hidM
 hidN:=x.hidN
 keep:=fun a u e n=>by rw [Q7 (Qb e h)]; exact x.keep a u e n
 new:=x.new
 old:=fun a u e=>by rw [Q7 (Qb e h)]; exact x.old a u e
 frz:=fun a o u e=>by rw [Q7 (Qb e h)]; exact x.frz a o u e
theorem Ext.unhide {H1:Hp} {ρ1:Tk} (x:Ext H ρ H1 ρ1):Ext H ρ H1 ⟨ρ1.tr,ρ.hid⟩ where
 pre:=x.pre
 hidM:=fun _ h=>h
 hidN:=fun _ h=>.inl h
 keep:=x.keep
 new:=x.new
 old:=x.old
 frz:=x.frz
def EnvR (H:Hp) (ρ:Tk) (Γ:Gam) (σ:St):Prop:=Γ.length=σ.length/\∀ (i:Nat) (p:PV),Γ[i]?=some (some p)->∃ v,σ[i]?=some (some v)/\Rep H ρ p v
theorem EnvR.ext {ρ':Tk} (x:Ext H ρ H' ρ') (h:EnvR H ρ Γ σ):EnvR H' ρ' Γ σ:=
 ⟨h.1,fun i p e=>let ⟨v,a,b⟩:=h.2 i p e; ⟨v,a,b.ext x⟩⟩
theorem EnvR.hide (n:H a=none) (h:EnvR H ρ Γ σ):EnvR (upd H a o) (ρ.hide a) Γ σ:=⟨h.1,fun i p e=>let ⟨v,a,b⟩:=h.2 i p e; ⟨v,a,b.hide n⟩⟩
theorem EnvR.rehide (n:a∈ρ.hid) (h:EnvR H ρ Γ σ):EnvR (upd H a o) ρ Γ σ:=⟨h.1,fun i p e=>let ⟨v,a,b⟩:=h.2 i p e; ⟨v,a,b.rehide n⟩⟩
theorem EnvR.retr (n:a∈ρ.tr) (h:EnvR H ρ Γ σ):EnvR (upd H a o) ρ Γ σ:=⟨h.1,fun i p e=>let ⟨v,a,b⟩:=h.2 i p e; ⟨v,a,b.retr n⟩⟩
theorem EnvR.set {p:PV} (h:EnvR H ρ Γ σ) (r:Rep H ρ p v) (i:Nat):EnvR H ρ (Γ.set i (some p)) (σ.set i (some v)):=by
 refine ⟨by rw [L6,L6]; exact h.1,fun j q e=>?_⟩;rw [List.getElem?_set] at e;rw [List.getElem?_set]
 by_cases I:i=j
 ·subst I;simp only [if_true] at e ⊢
  by_cases B:i < Γ.length
  ·rw [bN B] at e; cases e;rw [bN (by rw [<- h.1]; exact B)];exact ⟨v,rfl,r⟩
  ·rw [bO B] at e; cases e
 ·rw [bO I] at e ⊢;exact h.2 j q e
end
def Res.bind {α β:Type} (r:Res α) (f:α->Q0->Res β):Res β:=match r with
 | .ok a st=>f a st
 | .exc x st=>.exc x st
 | .stuck=>.stuck
def okO {α:Type} (st:Q0):Option α->Res α
 | some a=>.ok a st
 | none=>.stuck
section
variable (X:Cx)
def WE (e:aH):TE:=fun σ H Q=>∀ (pins:List (aB × Obj)) (s:aC),Inv X pins σ H s->aF (aI X.prog X.w) X.A (aL e X.env) (EP X pins σ Q) X.xe s
def WT (e:aH):TT:=fun σ H Q=>∀ (pins:List (aB × Obj)) (s:aC),Inv X pins σ H s->aF (aI X.prog X.w) X.A (isTrue e X.env (aL e X.env)) (TP X pins σ Q) X.xe s
def WW (e:aH):TT:=fun σ H Q=>∀ (wh:Sem aA) (pins:List (aB × Obj)) (s:aC),Inv X pins σ H s->aF (aI X.prog X.w) X.A (isTrue e X.env wh) (TP X pins σ Q) X.xe s
def WA (es:List aH):TA:=fun σ H Q=>∀ (pos:Pos) (pins:List (aB × Obj)) (s:aC),Inv X pins σ H s->aF (aI X.prog X.w) X.A (spliced (aX pos (aN es X.env))) (AP X pins σ Q) X.xe s
def WS (st:aK):TS:=fun D σ H=>∀ (pins:List (aB × Obj)) (s:aC),Inv X pins σ H s->aF (aI X.prog X.w) X.A (exec st X.env) (SP X pins D) X.xe s
def WB (st:List aK):TS:=fun D σ H=>∀ (pins:List (aB × Obj)) (s:aC),Inv X pins σ H s->aF (aI X.prog X.w) X.A (execs st X.env) (SP X pins D) X.xe s
def WI (tg iter : aH) : TI := fun σ H R => ∀ (pins : List (aB × Obj)) (s : aC), Inv X pins σ H s ->
  aF (aI X.prog X.w) X.A (aL iter X.env) (fun v s1=>aF (aI X.prog X.w) X.A (pyIter v) (PIE X pins σ tg R) X.xe s1) X.xe s
def WO (f:aA->aA->Sem aA):R2:=fun x y H Q=>∀ (pins:List (aB × Obj)) (s:aC) (σ:St) (v u:aA),Inv X pins σ H s->RelV x v->RelV y u->aF (aI X.prog X.w) X.A (f v u) (EP X pins σ Q) X.xe s
def WC (f:aA):List V->Hp->VK->Prop:=fun xs H Q=>∀ (pins:List (aB × Obj)) (s:aC) (σ:St) (us:List aA),Inv X pins σ H s->Vals xs us->aF (aI X.prog X.w) X.A (call f us) (EP X pins σ Q) X.xe s
end
variable {X:Cx}
theorem Ja :PE X e (WE X e):=fun pins s _ _ _ I h=>h pins s I
theorem Q49 :PT X e (WT X e):=fun pins s _ _ _ I h=>h pins s I
theorem Qt4 :PW X e (WW X e):=fun B pins s _ _ _ I h=>h B pins s I
theorem xx :PA X es (WA X es):=fun pos pins s _ _ _ I h=>h pos pins s I
theorem Qt6 {st:aK}:PS X st (WS X st):=fun pins s _ _ _ I h=>h pins s I
theorem Q11 {st:List aK}:PSs X st (WB X st):=fun pins s _ _ _ I h=>h pins s I
theorem Qix {tg iter:aH}:PI X tg iter (WI X tg iter):=fun pins s _ _ _ I h=>h pins s I
theorem Q7v :OpR X f (WO X f):=fun pins s σ _ _ _ v u _ I B J h=>h pins s σ v u I B J
theorem Qgs {f:aA}:Ve X f (WC X f):=fun pins s σ _ _ us _ I r h=>h pins s σ us I r
theorem WE.of {t:TE} {Q:VK} (h:PE X e t) (q:t σ H Q):WE X e σ H Q:=fun pins s I=>h pins s σ H Q I q
theorem WT.of {t:TT} (h:PT X e t) (q:t σ H Q):WT X e σ H Q:=fun pins s I=>h pins s σ H Q I q
theorem WW.of {t:TT} (h:PW X e t) (q:t σ H Q):WW X e σ H Q:=fun B pins s I=>h B pins s σ H Q I q
theorem WA.of {t:TA} {Q:List V->Hp->Prop} (h:PA X es t) (q:t σ H Q):WA X es σ H Q:=fun pos pins s I=>h pos pins s σ H Q I q
theorem WS.of {st:aK} {t:TS} (h:PS X st t) (q:t D σ H):WS X st D σ H:=fun pins s I=>h pins s σ H D I q
theorem WB.of {st:List aK} {t:TS} (h:PSs X st t) (q:t D σ H):WB X st D σ H:=fun pins s I=>h pins s σ H D I q
theorem WI.of {tg iter:aH} {t:TI} {R:It->Hp->Prop} (h:PI X tg iter t) (q:t σ H R):WI X tg iter σ H R:=fun pins s I=>h pins s σ H R I q
theorem WO.of {r:R2} {x y:V} {Q:VK} (h:OpR X f r) (q:r x y H Q):WO X f x y H Q:=fun pins s σ v u I B J=>h pins s σ H x y v u Q I B J q
theorem WC.of {f:aA} {r:List V->Hp->VK->Prop} {xs:List V} {Q:VK} (h:Ve X f r) (q:r xs H Q):WC X f xs H Q:=fun pins s σ us I B=>h pins s σ H xs us Q I B q
def XFs (H:Hp) (ρ:Tk):Option (Str × PV)->Option aB->Prop
 | none,dv=>dv=none
 | some (n,p),dv=>∃ dx v,dv=some dx/\H dx=some (.xd [(n,v)])/\dx∉ρ/\Rep H ρ p v
def Acc {α:Type} (mg:Str->Option aA) (E:XK) (H:Hp) (ρ:Tk) (P:α->Q0->Hp->Tk->Prop):Res α->Prop
 | .ok a st=>∀ H' ρ',Ext H ρ H' ρ'->Rel H' ρ' st->P a st H' ρ'
 | .exc x st=>∀ C dv H' ρ',mg x.cls=some (.ref C)->Ext H ρ H' ρ'->Rel H' ρ' st->XFs H' ρ' x.fs dv->E (.ref C) dv H'
 | .stuck=>False
variable {α β:Type} {mg:Str->Option aA} {E:XK} {H H1:Hp} {ρ ρ1:Tk}
theorem Acc.mono {P J:α->Q0->Hp->Tk->Prop} {r:Res α} (h:Acc mg E H ρ P r) (x:Ext H ρ H1 ρ1) (k:∀ a st H' ρ',P a st H' ρ'->J a st H' ρ'):Acc mg E H1 ρ1 J r:=by
 cases r with
 | ok a st=>exact fun H' ρ' B I=>k _ _ _ _ (h H' ρ' (x.trans B) I)
 | exc e st=>exact fun C O H' ρ' m B I f=>h C O H' ρ' m (x.trans B) I f
 | stuck=>exact h
theorem Acc.later {P:α->Q0->Hp->Tk->Prop} {r:Res α} (h:Acc mg E H ρ P r) (x:Ext H ρ H1 ρ1):Acc mg E H1 ρ1 P r:=h.mono x fun _ _ _ _ p=>p
theorem Acc.bind {P:β->Q0->Hp->Tk->Prop} {r:Res α} {f:α->Q0->Res β} (h:Acc mg E H ρ P (r.bind f)):Acc mg E H ρ (fun a B H1 ρ1=>Acc mg E H1 ρ1 P (f a B)) r:=by
 cases r with
 | ok a st=>exact fun H' ρ' I J=>Acc.later (show Acc mg E H ρ P (f a st) from h) I
 | exc e st=>exact h
 | stuck=>exact h
abbrev QV (Q:VK):PV->Q0->Hp->Tk->Prop:=fun p _ H' ρ'=>∀ v,Rep H' ρ' p v->Q v H'
abbrev QL (Q:List V->Hp->Prop):List PV->Q0->Hp->Tk->Prop:=fun ps _ H' ρ'=>∀ vs,RepL H' ρ' ps vs->Q vs H'
abbrev QB (Q:Bool->Hp->Prop):Bool->Q0->Hp->Tk->Prop:=fun b _ H' _=>Q b H'
structure SimE (X:Cx) (E:XK) (e:aH) (m:ME):Prop where
 run:∀ (Γ:Gam) (σ:St) (H:Hp) (ρ:Tk) (st:Q0) (Q:VK),Rel H ρ st->EnvR H ρ Γ σ->Acc X.mg E H ρ (QV Q) (m Γ st)->WE X e σ H Q
structure SimT (X:Cx) (E:XK) (e:aH) (m:Gam->Q0->Res Bool):Prop where
 run:∀ (Γ:Gam) (σ:St) (H:Hp) (ρ:Tk) (st:Q0) (Q:Bool->Hp->Prop),Rel H ρ st->EnvR H ρ Γ σ->Acc X.mg E H ρ (QB Q) (m Γ st)->WT X e σ H Q
structure SimW (X:Cx) (E:XK) (e:aH) (m:Gam->Q0->Res Bool):Prop where
 run:∀ (Γ:Gam) (σ:St) (H:Hp) (ρ:Tk) (st:Q0) (Q:Bool->Hp->Prop),Rel H ρ st->EnvR H ρ Γ σ->Acc X.mg E H ρ (QB Q) (m Γ st)->WW X e σ H Q
structure SimA (X:Cx) (E:XK) (es:List aH) (m:Gam->Q0->Res (List PV)):Prop where
 run:∀ (Γ:Gam) (σ:St) (H:Hp) (ρ:Tk) (st:Q0) (Q:List V->Hp->Prop),Rel H ρ st->EnvR H ρ Γ σ->Acc X.mg E H ρ (QL Q) (m Γ st)->WA X es σ H Q
abbrev OP:=Q0->PV->PV->Res PV
structure OpS (X:Cx) (E:XK) (f:aA->aA->Sem aA) (o:OP):Prop where
 run:∀ (H:Hp) (ρ:Tk) (st:Q0) (p q:PV) (x y:V) (Q:VK),Rel H ρ st->Rep H ρ p x->Rep H ρ q y->Acc X.mg E H ρ (QV Q) (o st p q)->WO X f x y H Q
abbrev CF:=Q0->List PV->Res PV
structure CallS (X:Cx) (E:XK) (f:aA) (o:CF):Prop where
 run:∀ (H:Hp) (ρ:Tk) (st:Q0) (ps:List PV) (xs:List V) (Q:VK),Rel H ρ st->RepL H ρ ps xs->Acc X.mg E H ρ (QV Q) (o st ps)->WC X f xs H Q
variable {Γ:Gam} {σ:St} {st:Q0}
theorem SimE.use {m:ME} (s:SimE X E e m) {P:PV->Q0->Hp->Tk->Prop} {Q:VK} (R:Rel H ρ st) (G:EnvR H ρ Γ σ) (h:Acc X.mg E H ρ P (m Γ st))
  (k:∀ p B H1 ρ1 v,Ext H ρ H1 ρ1->Rel H1 ρ1 B->EnvR H1 ρ1 Γ σ->Rep H1 ρ1 p v->P p B H1 ρ1->Q v H1):WE X e σ H Q:=by
 refine s.run Γ σ H ρ st Q R G ?_;cases r:m Γ st with
 | ok p B=>rw [r] at h; exact fun H' ρ' I J v O=>k p B H' ρ' v I J (G.ext I) O (h H' ρ' I J)
 | exc e st=>rw [r] at h; exact h
 | stuck=>rw [r] at h; exact h
theorem SimE.use' {m:ME} (s:SimE X E e m) {P:PV->Q0->Hp->Tk->Prop} {Q:VK} (R:Rel H ρ st) (G:EnvR H ρ Γ σ) (h:Acc X.mg E H ρ P (m Γ st))
  (k:∀ p B H1 ρ1 v,m Γ st=.ok p B->Ext H ρ H1 ρ1->Rel H1 ρ1 B->EnvR H1 ρ1 Γ σ->Rep H1 ρ1 p v->P p B H1 ρ1->Q v H1):WE X e σ H Q:=by
 refine s.run Γ σ H ρ st Q R G ?_;cases r:m Γ st with
 | ok p B=>rw [r] at h; exact fun H' ρ' I J v O=>k p B H' ρ' v r I J (G.ext I) O (h H' ρ' I J)
 | exc e st=>rw [r] at h; exact h
 | stuck=>rw [r] at h; exact h
theorem SimA.use' {m:Gam->Q0->Res (List PV)} (s:SimA X E es m) {P:List PV->Q0->Hp->Tk->Prop} {Q:List V->Hp->Prop} (R:Rel H ρ st) (G:EnvR H ρ Γ σ) (h:Acc X.mg E H ρ P (m Γ st))
  (k:∀ ps B H1 ρ1 vs,m Γ st=.ok ps B->Ext H ρ H1 ρ1->Rel H1 ρ1 B->EnvR H1 ρ1 Γ σ->RepL H1 ρ1 ps vs->P ps B H1 ρ1->Q vs H1):WA X es σ H Q:=by
 refine s.run Γ σ H ρ st Q R G ?_;cases r:m Γ st with
 | ok p B=>rw [r] at h; exact fun H' ρ' I J v O=>k p B H' ρ' v r I J (G.ext I) O (h H' ρ' I J)
 | exc e st=>rw [r] at h; exact h
 | stuck=>rw [r] at h; exact h
theorem SimT.use {m:Gam->Q0->Res Bool} (s:SimT X E e m) {P:Bool->Q0->Hp->Tk->Prop} {Q:Bool->Hp->Prop} (R:Rel H ρ st) (G:EnvR H ρ Γ σ) (h:Acc X.mg E H ρ P (m Γ st))
  (k:∀ p B H1 ρ1,Ext H ρ H1 ρ1->Rel H1 ρ1 B->EnvR H1 ρ1 Γ σ->P p B H1 ρ1->Q p H1):WT X e σ H Q:=by
 refine s.run Γ σ H ρ st Q R G ?_;cases r:m Γ st with
 | ok p B=>rw [r] at h; exact fun H' ρ' I J=>k p B H' ρ' I J (G.ext I) (h H' ρ' I J)
 | exc e st=>rw [r] at h; exact h
 | stuck=>rw [r] at h; exact h
theorem SimT.use' {m:Gam->Q0->Res Bool} (s:SimT X E e m) {P:Bool->Q0->Hp->Tk->Prop} {Q:Bool->Hp->Prop} (R:Rel H ρ st) (G:EnvR H ρ Γ σ) (h:Acc X.mg E H ρ P (m Γ st))
  (k:∀ p B H1 ρ1,m Γ st=.ok p B->Ext H ρ H1 ρ1->Rel H1 ρ1 B->EnvR H1 ρ1 Γ σ->P p B H1 ρ1->Q p H1):WT X e σ H Q:=by
 refine s.run Γ σ H ρ st Q R G ?_;cases r:m Γ st with
 | ok p B=>rw [r] at h; exact fun H' ρ' I J=>k p B H' ρ' r I J (G.ext I) (h H' ρ' I J)
 | exc e st=>rw [r] at h; exact h
 | stuck=>rw [r] at h; exact h
theorem SimW.use {m:Gam->Q0->Res Bool} (s:SimW X E e m) {P:Bool->Q0->Hp->Tk->Prop} {Q:Bool->Hp->Prop} (R:Rel H ρ st) (G:EnvR H ρ Γ σ) (h:Acc X.mg E H ρ P (m Γ st))
  (k:∀ p B H1 ρ1,Ext H ρ H1 ρ1->Rel H1 ρ1 B->EnvR H1 ρ1 Γ σ->P p B H1 ρ1->Q p H1):WW X e σ H Q:=by
 refine s.run Γ σ H ρ st Q R G ?_;cases r:m Γ st with
 | ok p B=>rw [r] at h; exact fun H' ρ' I J=>k p B H' ρ' I J (G.ext I) (h H' ρ' I J)
 | exc e st=>rw [r] at h; exact h
 | stuck=>rw [r] at h; exact h
theorem SimA.use {m:Gam->Q0->Res (List PV)} (s:SimA X E es m) {P:List PV->Q0->Hp->Tk->Prop} {Q:List V->Hp->Prop} (R:Rel H ρ st) (G:EnvR H ρ Γ σ) (h:Acc X.mg E H ρ P (m Γ st))
  (k:∀ ps B H1 ρ1 vs,Ext H ρ H1 ρ1->Rel H1 ρ1 B->EnvR H1 ρ1 Γ σ->RepL H1 ρ1 ps vs->P ps B H1 ρ1->Q vs H1):WA X es σ H Q:=by
 refine s.run Γ σ H ρ st Q R G ?_;cases r:m Γ st with
 | ok p B=>rw [r] at h; exact fun H' ρ' I J v O=>k p B H' ρ' v I J (G.ext I) O (h H' ρ' I J)
 | exc e st=>rw [r] at h; exact h
 | stuck=>rw [r] at h; exact h
theorem OpS.use {o:OP} (s:OpS X E f o) {P:PV->Q0->Hp->Tk->Prop} {Q:VK} {p q:PV} {x y:V} (R:Rel H ρ st) (Y:Rep H ρ p x) (O:Rep H ρ q y) (h:Acc X.mg E H ρ P (o st p q))
  (k:∀ p B H1 ρ1 v,Ext H ρ H1 ρ1->Rel H1 ρ1 B->Rep H1 ρ1 p v->P p B H1 ρ1->Q v H1):WO X f x y H Q:=by
 refine s.run H ρ st p q x y Q R Y O ?_;cases r:o st p q with
 | ok p B=>rw [r] at h; exact fun H' ρ' I J v U=>k p B H' ρ' v I J U (h H' ρ' I J)
 | exc e st=>rw [r] at h; exact h
 | stuck=>rw [r] at h; exact h
end Sm
namespace Sm
open PySem PySem.Spec L2 SeqAt
variable {n:Nat} {ps:List PV}
mutual
def peq:PV->PV->Bool
 | .non,.non=>true
 | .bl a,.bl b=>a == b
 | .bl a,.int b=>(if a then 1 else 0) == b
 | .int a,.bl b=>a == (if b then 1 else 0)
 | .int a,.int b=>a == b
 | .str a,.str b=>a == b
 | .tup xs,.tup ys=>peqL xs ys
 | .lst xs,.lst ys=>peqL xs ys
 | .lst xs,.fro ys=>peqL xs ys
 | .fro xs,.lst ys=>peqL xs ys
 | .fro xs,.fro ys=>peqL xs ys
 | _,_=>false
def peqL:List PV->List PV->Bool
 | [],[]=>true
 | x :: xs,y :: ys=>peq x y && peqL xs ys
 | _,_=>false
end
def Qz:Nat->PV->Bool
 | _,.ref _=>false
 | _,.dic=>false
 | 0,.tup _=>false
 | 0,.lst _=>false
 | 0,.fro _=>false
 | n + 1,.tup xs=>xs.all (Qz n)
 | n + 1,.lst xs=>xs.all (Qz n)
 | n + 1,.fro xs=>xs.all (Qz n)
 | _,_=>true
theorem Q14:∀ {xs ys:List PV},xs.length≠ys.length->peqL xs ys=false
 | [],[],h=>absurd rfl h
 | [],_ :: _,_=>by simp [peqL]
 | _ :: _,[],_=>by simp [peqL]
 | x :: xs,y :: ys,h=>by
  rw [peqL,Q14 (xs:=xs) (ys:=ys) fun e=>h (by simp [e]),Bool.and_false]
theorem Q15:∀ {xs ys:List PV},xs.length=ys.length->peqL xs ys=(List.range xs.length).all fun j=>peq (xs.getD j .non) (ys.getD j .non)
 | [],[],_=>by simp [peqL]
 | [],_ :: _,h=>by simp at h
 | _ :: _,[],h=>by simp at h
 | x :: xs,y :: ys,h=>by
  rw [peqL,Q15 (xs:=xs) (ys:=ys) (by simpa using h),E4,List.range_succ_eq_map,List.all_cons,List.all_map];rfl
variable {X:Cx} {pins:List (aB × Obj)} {σ:St} {H:Hp} {s:aC} {ρ:Tk}
mutual
theorem Q5t:∀ {p q:PV} {x:V} {n:Nat},Qz n p=true->Qz n q=true->Rep H ρ p x->Rep H ρ q x->peq p q=true
 | .non,q,x,n,_,J,h1,h2=>by
  cases h1;cases q <;> first | rfl | (cases n <;> cases J; done) | (cases h2; done) | (obtain ⟨_,_,e,_⟩:=h2; cases e) | (obtain ⟨_,_,e⟩:=h2; cases e)
 | .bl b,q,x,n,_,J,h1,h2=>by
  cases h1;cases q <;> first | (cases n <;> cases J; done) | (cases h2; simp [peq]; done) | (obtain ⟨_,_,e,_⟩:=h2; done) | (obtain ⟨_,_,e,_⟩:=h2; cases e; done) | (obtain ⟨_,_,e⟩:=h2; cases e)
 | .int b,q,x,n,_,J,h1,h2=>by
  cases h1;cases q <;> first | (cases n <;> cases J; done) | (cases h2; simp [peq]; done) | (obtain ⟨_,_,e,_⟩:=h2; done) | (obtain ⟨_,_,e,_⟩:=h2; cases e; done) | (obtain ⟨_,_,e⟩:=h2; cases e)
 | .str b,q,x,n,_,J,h1,h2=>by
  cases h1;cases q <;> first | (cases n <;> cases J; done) | (cases h2; simp [peq]; done) | (obtain ⟨_,_,e,_⟩:=h2; done) | (obtain ⟨_,_,e,_⟩:=h2; cases e; done) | (obtain ⟨_,_,e⟩:=h2; cases e)
 | .tup ps,q,x,0,O,_,_,_=>by cases O
 | .tup ps,q,x,n + 1,O,J,⟨a,vs,e,I,_,r⟩,h2=>by
  subst e;cases q with
  | tup Y=>
   obtain ⟨b,us,e,B,_,U⟩:=h2;cases e;rw [I] at B; cases B;rw [peq];exact repL_same O J r U
  | lst Y=>obtain ⟨b,us,e,B,_⟩:=h2; cases e; rw [I] at B; cases B
  | fro Y=>obtain ⟨b,us,e,B,_⟩:=h2; cases e; rcases B with B | ⟨o,B⟩ <;> (rw [I] at B; cases B)
  | ref i=>cases J
  | dic=>cases J
  | _=>cases h2
 | .lst ps,q,x,0,O,_,_,_=>by cases O
 | .lst ps,q,x,n + 1,O,J,⟨a,vs,e,I,_,r⟩,h2=>by
  subst e;cases q with
  | lst Y=>
   obtain ⟨b,us,e,B,_,U⟩:=h2;cases e;rw [I] at B; cases B;rw [peq];exact repL_same O J r U
  | tup Y=>obtain ⟨b,us,e,B,_⟩:=h2; cases e; rw [I] at B; cases B
  | fro Y=>
   obtain ⟨b,us,e,B,_,U⟩:=h2;cases e;rcases B with B | ⟨o,B⟩
   ·rw [I] at B; cases B;rw [peq];exact repL_same O J r U
   ·rw [I] at B; cases B
  | ref i=>cases J
  | dic=>cases J
  | _=>cases h2
 | .fro ps,q,x,0,O,_,_,_=>by cases O
 | .fro ps,q,x,n + 1,O,J,⟨a,vs,e,I,_,r⟩,h2=>by
  subst e;cases q with
  | lst Y=>
   obtain ⟨b,us,e,B,_,U⟩:=h2;cases e;rcases I with I | ⟨o,I⟩
   ·rw [I] at B; cases B;rw [peq];exact repL_same O J r U
   ·rw [I] at B; cases B
  | tup Y=>obtain ⟨b,us,e,B,_⟩:=h2; cases e; rcases I with I | ⟨o,I⟩ <;> (rw [I] at B; cases B)
  | fro Y=>
   obtain ⟨b,us,e,B,_,U⟩:=h2;cases e;have:vs=us:=by
    rcases I with I | ⟨o,I⟩ <;> rcases B with B | ⟨o',B⟩ <;> (rw [I] at B; cases B) <;> rfl
   subst this;rw [peq];exact repL_same O J r U
  | ref i=>cases J
  | dic=>cases J
  | _=>cases h2
 | .ref i,_,_,n,O,_,_,_=>by cases n <;> cases O
 | .dic,_,_,n,O,_,_,_=>by cases n <;> cases O
theorem repL_same:∀ {ps B:List PV} {vs:List V} {n:Nat},ps.all (Qz n)=true->B.all (Qz n)=true->RepL H ρ ps vs->RepL H ρ B vs->peqL ps B=true
 | [],B,vs,n,_,_,h1,h2=>by
  cases h1;cases B with
  | nil=>rfl
  | cons q B=>obtain ⟨_,_,e,_⟩:=h2; cases e
 | p :: ps,B,vs,n,O,g2,⟨v,r,e,h1,I⟩,h2=>by
  subst e;cases B with
  | nil=>cases h2
  | cons q B=>
   obtain ⟨_,_,e,h2,J⟩:=h2;cases e;rw [List.all_cons,L8] at O g2;rw [peqL,Q5t O.1 g2.1 h1 h2,repL_same O.2 g2.2 I J]; rfl
end
inductive Kd (H:Hp) (ρ:Tk) (s:aC):PV->aA->Prop where
 | non:Kd H ρ s .non .none
 | bl (b):Kd H ρ s (.bl b) (.bool b)
 | int (i t):Kd H ρ s (.int i) (.int i t)
 | str (x t):Kd H ρ s (.str x) (.str x t)
 | tup (ps a) (vs:List V) (its:List aA):H a=some (.tup vs)->RepL H ρ ps vs->Vals vs its->s.heap.IsTuple a its.toArray->Kd H ρ s (.tup ps) (.ref a)
 | lst (p ps a) (vs:List V) (its:List aA):(p=.lst ps\/p=.fro ps)->RepL H ρ ps vs->Vals vs its->s.heap.IsList a its.toArray->Kd H ρ s p (.ref a)
theorem Qa0 {p:PV} {x:V} {u:aA} (I:Inv X pins σ H s) (g:Qz n p=true) (r:Rep H ρ p x) (B:RelV x u):Kd H ρ s p u:=by
 cases p with
 | non=>cases r; cases B; exact .non
 | bl b=>cases r; cases B; exact .bl b
 | int i=>cases r; obtain ⟨t,rfl⟩:=B; exact .int i t
 | str i=>cases r; obtain ⟨t,rfl⟩:=B; exact .str i t
 | tup ps=>
  obtain ⟨a,vs,rfl,J,_,O⟩:=r;cases B;obtain ⟨its,U,Y,_⟩:=I.tuple (SqT.of (K:=X.K) J);exact .tup ps a vs its J O U Y
 | lst ps=>
  obtain ⟨a,vs,rfl,J,_,O⟩:=r;cases B;obtain ⟨its,U,Y,_⟩:=I.list (SqL.of (K:=X.K) J);exact .lst _ ps a vs its (.inl rfl) O U Y.isList
 | fro ps=>
  obtain ⟨a,vs,rfl,J,_,O⟩:=r;cases B;obtain ⟨its,U,Y,_⟩:=I.list (show SqL X.K H a vs from .inl J);exact .lst _ ps a vs its (.inr rfl) O U Y.isList
 | ref i=>cases n <;> cases g
 | dic=>cases n <;> cases g
theorem Q0d {vs:List V} {its:List aA} (r:RepL H ρ ps vs) (v:Vals vs its) {j:Nat} (h:j < its.length):∃ x,Rep H ρ (ps.getD j .non) x/\RelV x its[j]:=by
 have l1:=r.length;have l2:=v.length;have B:j < ps.length:=by omega
 obtain ⟨x,J,O⟩:=r.get (O2 B);obtain ⟨u,I,U⟩:=v.get J;rw [O2 h] at I; cases I;refine ⟨x,?_,U⟩;rw [List.getD,O2 B];exact O
theorem qg (g:ps.all (Qz n)=true) (j:Nat) (B:j < ps.length):Qz n (ps.getD j .non)=true:=by
 rw [List.getD,O2 B];exact (F5.mp g) _ (F7 B)
theorem Q7u {B:List PV}:((List.range (min ps.length B.length)).all (fun j=>peq (ps.getD j .non) (B.getD j .non)) && ps.length == B.length)=peqL ps B:=by
 by_cases e:ps.length=B.length
 ·rw [Q15 e,<- e,Nat.min_self,beq_self_eq_true,Bool.and_true]
 ·rw [Q14 e,beq_eq_false_iff_ne.mpr e,Bool.and_false]
theorem Qac:∀ (n:Nat) {A:aQ} {p q:PV} {x y:V} {u v:aA},Inv X pins σ H s->Qz n p=true->Qz n q=true->A.units + n < aO->Rep H ρ p x->RelV x u->Rep H ρ q y->RelV y v ->
  EqAt A s u v (peq p q)/\RcAt A s u v (peq p q)/\RcNeAt A s u v (!peq p q):=by
 intro n
 induction n with
 | zero=>
  intro A p q x y u v I gp U hu rp ru rq rv;have k1:=Qa0 I gp rp ru;have k2:=Qa0 I U rq rv;have hu:A.units < aO:=by omega
  cases k1 with
  | tup=>cases gp
  | lst p ps a vs its h=>rcases h with rfl | rfl <;> cases gp
  | non=>cases k2 with
   | tup=>cases U
   | lst p ps a vs its h=>rcases h with rfl | rfl <;> cases U
   | non=>exact ⟨EqAt.same _,RcAt.none_none,RcNeAt.none_none⟩
   | bl b=>exact ⟨EqAt.none_bool _,RcAt.none_bool _,RcNeAt.none_bool _⟩
   | int i t=>exact ⟨EqAt.none_int _ _,RcAt.none_int _ _,RcNeAt.none_int _ _⟩
   | str i t=>exact ⟨EqAt.none_str _ _,RcAt.none_str _ _,RcNeAt.none_str _ _⟩
  | bl a=>cases k2 with
   | tup=>cases U
   | lst p ps a vs its h=>rcases h with rfl | rfl <;> cases U
   | non=>exact ⟨EqAt.bool_none _,RcAt.bool_none _,RcNeAt.bool_none _⟩
   | bl b=>exact ⟨EqAt.bool_bool _ _,RcAt.bool_bool _ _,RcNeAt.bool_bool _ _⟩
   | int i t=>exact ⟨EqAt.bool_int _ _ _,RcAt.bool_int _ _ _,RcNeAt.bool_int _ _ _⟩
   | str i t=>exact ⟨EqAt.bool_str _ _ _,RcAt.bool_str _ _ _,RcNeAt.bool_str _ _ _⟩
  | int a a4=>cases k2 with
   | tup=>cases U
   | lst p ps a vs its h=>rcases h with rfl | rfl <;> cases U
   | non=>exact ⟨EqAt.int_none _ _,RcAt.int_none _ _,RcNeAt.int_none _ _⟩
   | bl b=>exact ⟨EqAt.int_bool _ _ _,RcAt.int_bool _ _ _,RcNeAt.int_bool _ _ _⟩
   | int i t=>exact ⟨EqAt.int_int _ _ _ _,RcAt.int_int _ _ _ _,RcNeAt.int_int _ _ _ _⟩
   | str i t=>exact ⟨EqAt.int_str _ _ _ _,RcAt.int_str _ _ _ _,RcNeAt.int_str _ _ _ _⟩
  | str a a4=>cases k2 with
   | tup=>cases U
   | lst p ps a vs its h=>rcases h with rfl | rfl <;> cases U
   | non=>exact ⟨EqAt.str_none _ _,RcAt.str_none _ _,RcNeAt.str_none _ _⟩
   | bl b=>exact ⟨EqAt.str_bool _ _ _,RcAt.str_bool _ _ _,RcNeAt.str_bool _ _ _⟩
   | int i t=>exact ⟨EqAt.str_int _ _ _ _,RcAt.str_int _ _ _ _,RcNeAt.str_int _ _ _ _⟩
   | str i t=>exact ⟨EqAt.str_str _ _ _ _,RcAt.str_str _ _ _ _,RcNeAt.str_str _ _ _ _⟩
 | succ n ih=>
  intro A p q x y u v I gp U hu rp ru rq rv;have k1:=Qa0 I gp rp ru;have k2:=Qa0 I U rq rv;have B:A.units < aO:=by omega
  have a5:A.in1.units + n < aO:=by show A.units + 1 + n < aO; omega
  cases k1 with
  | non=>cases k2 with
   | non=>exact ⟨EqAt.same _,RcAt.none_none,RcNeAt.none_none⟩
   | bl b=>exact ⟨EqAt.none_bool _,RcAt.none_bool _,RcNeAt.none_bool _⟩
   | int i t=>exact ⟨EqAt.none_int _ _,RcAt.none_int _ _,RcNeAt.none_int _ _⟩
   | str i t=>exact ⟨EqAt.none_str _ _,RcAt.none_str _ _,RcNeAt.none_str _ _⟩
   | tup ps a vs its ha r Z J=>exact ⟨EqAt.none_tuple J B,RcAt.none_tuple J B,RcNeAt.none_tuple J B⟩
   | lst p ps a vs its h r Z J=>rcases h with rfl | rfl <;> exact ⟨EqAt.none_list J B,RcAt.none_list J B,RcNeAt.none_list J B⟩
  | bl a=>cases k2 with
   | non=>exact ⟨EqAt.bool_none _,RcAt.bool_none _,RcNeAt.bool_none _⟩
   | bl b=>exact ⟨EqAt.bool_bool _ _,RcAt.bool_bool _ _,RcNeAt.bool_bool _ _⟩
   | int i t=>exact ⟨EqAt.bool_int _ _ _,RcAt.bool_int _ _ _,RcNeAt.bool_int _ _ _⟩
   | str i t=>exact ⟨EqAt.bool_str _ _ _,RcAt.bool_str _ _ _,RcNeAt.bool_str _ _ _⟩
   | tup ps a vs its ha r Z J=>exact ⟨EqAt.bool_tuple _ J B,RcAt.bool_tuple _ J B,RcNeAt.bool_tuple _ J B⟩
   | lst p ps a vs its h r Z J=>rcases h with rfl | rfl <;> exact ⟨EqAt.bool_list _ J B,RcAt.bool_list _ J B,RcNeAt.bool_list _ J B⟩
  | int a a4=>cases k2 with
   | non=>exact ⟨EqAt.int_none _ _,RcAt.int_none _ _,RcNeAt.int_none _ _⟩
   | bl b=>exact ⟨EqAt.int_bool _ _ _,RcAt.int_bool _ _ _,RcNeAt.int_bool _ _ _⟩
   | int i t=>exact ⟨EqAt.int_int _ _ _ _,RcAt.int_int _ _ _ _,RcNeAt.int_int _ _ _ _⟩
   | str i t=>exact ⟨EqAt.int_str _ _ _ _,RcAt.int_str _ _ _ _,RcNeAt.int_str _ _ _ _⟩
   | tup ps a vs its ha r Z J=>exact ⟨EqAt.int_tuple _ _ J B,RcAt.int_tuple _ _ J B,RcNeAt.int_tuple _ _ J B⟩
   | lst p ps a vs its h r Z J=>rcases h with rfl | rfl <;> exact ⟨EqAt.int_list _ _ J B,RcAt.int_list _ _ J B,RcNeAt.int_list _ _ J B⟩
  | str a a4=>cases k2 with
   | non=>exact ⟨EqAt.str_none _ _,RcAt.str_none _ _,RcNeAt.str_none _ _⟩
   | bl b=>exact ⟨EqAt.str_bool _ _ _,RcAt.str_bool _ _ _,RcNeAt.str_bool _ _ _⟩
   | int i t=>exact ⟨EqAt.str_int _ _ _ _,RcAt.str_int _ _ _ _,RcNeAt.str_int _ _ _ _⟩
   | str i t=>exact ⟨EqAt.str_str _ _ _ _,RcAt.str_str _ _ _ _,RcNeAt.str_str _ _ _ _⟩
   | tup ps a vs its ha r Z J=>exact ⟨EqAt.str_tuple _ _ J B,RcAt.str_tuple _ _ J B,RcNeAt.str_tuple _ _ J B⟩
   | lst p ps a vs its h r Z J=>rcases h with rfl | rfl <;> exact ⟨EqAt.str_list _ _ J B,RcAt.str_list _ _ J B,RcNeAt.str_list _ _ J B⟩
  | tup ps a vs its ha r Z J=>cases k2 with
   | non=>exact ⟨EqAt.tuple_none J B,RcAt.tuple_none J B,RcNeAt.tuple_none J B⟩
   | bl b=>exact ⟨EqAt.tuple_bool _ J B,RcAt.tuple_bool _ J B,RcNeAt.tuple_bool _ J B⟩
   | int i t=>exact ⟨EqAt.tuple_int _ _ J B,RcAt.tuple_int _ _ J B,RcNeAt.tuple_int _ _ J B⟩
   | str i t=>exact ⟨EqAt.tuple_str _ _ J B,RcAt.tuple_str _ _ J B,RcNeAt.tuple_str _ _ J B⟩
   | tup Y b us O hb r2 v2 p2=>
    have l1:its.toArray.size=ps.length:=by rw [D0,<- Z.length,r.length]
    have l2:O.toArray.size=Y.length:=by rw [D0,<- v2.length,r2.length]
    have he:∀ j (h1:j < its.toArray.size) (h2:j < O.toArray.size),EqAt A.in1 s its.toArray[j] O.toArray[j] (peq (ps.getD j .non) (Y.getD j .non)):=fun j h1 h2=>by
     obtain ⟨x1,a1,b1⟩:=Q0d r Z (j:=j) (by simpa using h1);obtain ⟨x2,a2,b2⟩:=Q0d r2 v2 (j:=j) (by simpa using h2);exact (ih I (qg gp j (by omega)) (qg U j (by omega)) a5 a1 b1 a2 b2).1
    have rc:=RcAt.tuples J p2 B he;have rn:=RcNeAt.tuples J p2 B he;rw [l1,l2,Q7u] at rc rn;refine ⟨?_,rc,rn⟩
    by_cases e:a=b
    ·subst e;have:peqL ps Y=true:=by
      rw [ha] at hb; cases hb;exact repL_same gp U r r2
     show EqAt A s _ _ (peqL ps Y);rw [this];exact EqAt.same _
    ·exact EqAt.of_refs e rc
   | lst q Y b us O h r2 v2 p2=>rcases h with rfl | rfl <;> exact ⟨EqAt.tuple_list J p2 B,RcAt.tuple_list J p2 B,RcNeAt.tuple_list J p2 B⟩
  | lst p ps a vs its h r Z J=>cases k2 with
   | non=>rcases h with rfl | rfl <;> exact ⟨EqAt.list_none J B,RcAt.list_none J B,RcNeAt.list_none J B⟩
   | bl b=>rcases h with rfl | rfl <;> exact ⟨EqAt.list_bool _ J B,RcAt.list_bool _ J B,RcNeAt.list_bool _ J B⟩
   | int i t=>rcases h with rfl | rfl <;> exact ⟨EqAt.list_int _ _ J B,RcAt.list_int _ _ J B,RcNeAt.list_int _ _ J B⟩
   | str i t=>rcases h with rfl | rfl <;> exact ⟨EqAt.list_str _ _ J B,RcAt.list_str _ _ J B,RcNeAt.list_str _ _ J B⟩
   | tup Y b us O hb r2 v2 p2=>rcases h with rfl | rfl <;> exact ⟨EqAt.list_tuple J p2 B,RcAt.list_tuple J p2 B,RcNeAt.list_tuple J p2 B⟩
   | lst q Y b us O h2 r2 v2 p2=>
    have l1:its.toArray.size=ps.length:=by rw [D0,<- Z.length,r.length]
    have l2:O.toArray.size=Y.length:=by rw [D0,<- v2.length,r2.length]
    have a6:ps.all (Qz n)=true:=by rcases h with rfl | rfl <;> exact gp
    have a8:Y.all (Qz n)=true:=by rcases h2 with rfl | rfl <;> exact U
    have ep:peq p q=peqL ps Y:=by rcases h with rfl | rfl <;> rcases h2 with rfl | rfl <;> rfl
    have he:∀ j (h1:j < its.toArray.size) (h2:j < O.toArray.size),EqAt A.in1 s its.toArray[j] O.toArray[j] (peq (ps.getD j .non) (Y.getD j .non)):=fun j h1 h2=>by
     obtain ⟨x1,a1,b1⟩:=Q0d r Z (j:=j) (by simpa using h1);obtain ⟨x2,a2,b2⟩:=Q0d r2 v2 (j:=j) (by simpa using h2);exact (ih I (qg a6 j (by omega)) (qg a8 j (by omega)) a5 a1 b1 a2 b2).1
    rw [ep];have a3:RcAt A s (.ref a) (.ref b) (peqL ps Y)/\RcNeAt A s (.ref a) (.ref b) (!peqL ps Y):=by
     by_cases e:ps.length=Y.length
     ·have rc:=RcAt.lists J p2 (by rw [l1,l2,e]) B he;have rn:=RcNeAt.lists J p2 (by rw [l1,l2,e]) B he;rw [l1,<- Q15 e] at rc rn;exact ⟨rc,rn⟩
     ·have e':(its.toArray.size != O.toArray.size)=true:=by rw [l1,l2]; simpa using e
      rw [Q14 e];exact ⟨RcAt.lists_lengths J p2 e' B,RcNeAt.lists_lengths J p2 e' B⟩
    refine ⟨?_,a3.1,a3.2⟩
    by_cases e:a=b
    ·subst e;have a7:peq p q=true:=by
      have b0:=rp;have a9:=rq;have xa:x=.ref a:=by
       rcases h with rfl | rfl <;> (obtain ⟨b',_,rfl,_⟩:=rp; cases ru; rfl)
      have ya:y=.ref a:=by
       rcases h2 with rfl | rfl <;> (obtain ⟨b',_,rfl,_⟩:=rq; cases rv; rfl)
      subst xa; subst ya;exact Q5t gp U rp rq
     rw [<- ep,a7];exact EqAt.same _
    ·exact EqAt.of_refs e a3.1
end Sm
namespace Sm
open PySem PySem.Spec L2
variable {n j:Nat} {K:PySem.W.Frag} {vs:List V} {mg:Str->Option aA} {E:XK} {Q:VK} {ps:List PV} {x:Str} {o:OP} {Γ:Gam} {σ:St} {P:PV->Q0->Hp->Tk->Prop} {op:CmpOp} {e:aH}
def lim:Nat:=1000000
theorem yn:lim<=sizeLine:=by decide
theorem Yr (h:n<=lim):n<=sizeLine:=F9 h yn
def X7 (st:Q0):PV->Option (List PV)
 | .lst xs=>some xs
 | .ref i=>match st[i]? with
  | some (.lst xs)=>some xs
  | _=>none
 | _=>none
def Y1 (st:Q0):PV->Option (List PV)
 | .fro xs=>some xs
 | p=>X7 st p
def Zu (st:Q0):PV->Option (List PV)
 | .tup xs=>some xs
 | p=>Y1 st p
def der (st:Q0):PV->PV
 | .ref i=>match st[i]? with
  | some (.lst xs)=>.lst xs
  | _=>.ref i
 | p=>p
variable {H:Hp} {ρ:Tk} {st:Q0} {p:PV} {v:V} {xs:List PV}
theorem Q1g (R:Rel H ρ st) (r:Rep H ρ p v) (e:X7 st p=some xs):∃ a vs,v=.ref a/\H a=some (.lst vs)/\RepL H ρ xs vs:=by
 cases p with
 | lst ys=>
  obtain ⟨a,vs,B,I,_,Y⟩:=r;cases e;exact ⟨a,vs,B,I,Y⟩
 | ref i=>
  obtain ⟨a,B,I⟩:=r;simp only [X7] at e
  split at e
  ·rename_i ys hs;cases e;obtain ⟨b,vs,J,U,O⟩:=R.lst hs;rw [B] at J; cases J;exact ⟨a,vs,I,U,O⟩
  ·cases e
 | _=>cases e
theorem Jc (R:Rel H ρ st) (r:Rep H ρ p v) (e:Y1 st p=some xs):∃ a vs,v=.ref a/\Rd H a (.lst vs)/\RepL H ρ xs vs:=by
 cases p with
 | fro ys=>
  obtain ⟨a,vs,J,B,_,I⟩:=r;cases e;exact ⟨a,vs,J,B,I⟩
 | _=>
  obtain ⟨a,vs,J,B,I⟩:=Q1g R r e;exact ⟨a,vs,J,.inl B,I⟩
theorem K9 (R:Rel H ρ st) (r:Rep H ρ p v) (e:Zu st p=some xs):∃ (t:Bool) (a:aB) (vs:List V),v=.ref a/\SqK K t H a vs/\RepL H ρ xs vs:=by
 cases p with
 | tup ys=>
  obtain ⟨a,vs,J,B,_,I⟩:=r;cases e;exact ⟨true,a,vs,J,show SqT K H a vs from SqT.of B,I⟩
 | _=>
  obtain ⟨a,vs,J,B,I⟩:=Jc R r e;exact ⟨false,a,vs,J,show SqL K H a vs from .inl B,I⟩
theorem Q7i {t:Bool} {a:aB} (h:SqK K t H a vs):SqL K H a vs\/SqT K H a vs:=by
 cases t with
 | true=>exact .inr h
 | false=>exact .inl h
mutual
theorem Q9d:∀ {n:Nat} {q:PV} {u:V},Qz n q=true->Rep H ρ q u->Rep H Tk.nil q u
 | _,.non,_,_,r=>r
 | _,.bl _,_,_,r=>r
 | _,.int _,_,_,r=>r
 | _,.str _,_,_,r=>r
 | 0,.tup _,_,g,_=>by cases g
 | 0,.lst _,_,g,_=>by cases g
 | 0,.fro _,_,g,_=>by cases g
 | n + 1,.tup _,_,g,⟨a,vs,e,h,_,r⟩=>⟨a,vs,e,h,Tk.not_nil _,repL_nil g r⟩
 | n + 1,.lst _,_,g,⟨a,vs,e,h,_,r⟩=>⟨a,vs,e,h,Tk.not_nil _,repL_nil g r⟩
 | n + 1,.fro _,_,g,⟨a,vs,e,h,_,r⟩=>⟨a,vs,e,h,Tk.not_nil _,repL_nil g r⟩
 | 0,.ref _,_,g,_=>by cases g
 | _ + 1,.ref _,_,g,_=>by cases g
 | 0,.dic,_,g,_=>by cases g
 | _ + 1,.dic,_,g,_=>by cases g
theorem repL_nil:∀ {n:Nat} {B:List PV} {us:List V},B.all (Qz n)=true->RepL H ρ B us->RepL H Tk.nil B us
 | _,[],_,_,r=>r
 | n,q :: B,_,g,⟨v,r,e,h1,h2⟩=>by
  rw [List.all_cons,L8] at g;exact ⟨v,r,e,Q9d g.1 h1,repL_nil g.2 h2⟩
end
theorem qh (R:Rel H ρ st) (g:Qz n (der st p)=true) (r:Rep H ρ p v):Rep H Tk.nil (der st p) v:=by
 cases p with
 | ref i=>
  obtain ⟨a,O,U⟩:=r;simp only [der] at g ⊢
  split at g
  ·rename_i ys hs;obtain ⟨b,vs,B,J,I⟩:=R.lst hs;rw [O] at B; cases B;cases n with
   | zero=>cases g
   | succ n=>exact ⟨a,vs,U,J,Tk.not_nil _,repL_nil g I⟩
  ·cases n <;> cases g
 | _=>exact Q9d g r
theorem zg (R:Rel H ρ st) (h:Acc mg E H ρ (QV Q) (.ok (.tup ps) st)) (r:RepL H ρ ps vs):∀ p,H p=none->Q (.ref p) (upd H p (.tup vs)):=
 fun p B=>h _ ρ (Ext.add B) (R.add B) _ ⟨p,vs,rfl,Qp,R.fresh B,r.ext (Ext.add B)⟩
theorem zh (R:Rel H ρ st) (h:Acc mg E H ρ (QV Q) (.ok (.lst ps) st)) (r:RepL H ρ ps vs):∀ p,H p=none->Q (.ref p) (upd H p (.lst vs)):=
 fun p B=>h _ ρ (Ext.add B) (R.add B) _ ⟨p,vs,rfl,Qp,R.fresh B,r.ext (Ext.add B)⟩
theorem now (R:Rel H ρ st) (h:Acc mg E H ρ (QV Q) (.ok p st)) (r:Rep H ρ p v):Q v H:=h H ρ (Ext.refl _ _) R v r
section
variable {X:Cx} {E:XK} {pos:Pos}
def Q2 (i:Nat):ME:=fun Γ st=>match Γ[i]? with
 | some (some p)=>.ok p st
 | _=>.stuck
def mC (p:PV):ME:=fun _ st=>.ok p st
theorem Zd (i:Nat) (J:X.N[i]?=some x:=by rfl) (I:Vis X.env.scope x:=by first | exact Or.inl rfl | exact Or.inr (Or.inl rfl) | exact Or.inr (Or.inr rfl)) (hd:(x == ("__debug__" : Str))=false:=by decide)
  (B:(x == ("__classdict__" : Str))=false:=by decide):SimE X E (.Name x pos) (Q2 i):=⟨fun Γ σ H ρ st Q R G h=>WE.of (Qeh J I hd B) (by
 unfold Q2 at h
 split at h
 ·rename_i p e;obtain ⟨v,O,r⟩:=G.2 i p e;exact ⟨v,O,now R h r⟩
 ·exact h.elim)⟩
theorem Q0x {i:Int} :SimE X E (.Constant (.int i) j pos) (mC (.int i)):=⟨fun Γ σ H ρ st Q R G h=>WE.of Qpc (now R h rfl)⟩
theorem Qss {b:Bool} :SimE X E (.Constant (.bool b) j pos) (mC (.bl b)):=⟨fun Γ σ H ρ st Q R G h=>WE.of Qtd (now R h rfl)⟩
theorem Qnb :SimE X E (.Constant .none j pos) (mC .non):=⟨fun Γ σ H ρ st Q R G h=>WE.of Qpb (now R h rfl)⟩
theorem Qn8 :SimE X E (.Constant (.str x) j pos) (mC (.str x)):=⟨fun Γ σ H ρ st Q R G h=>WE.of Qp8 (now R h rfl)⟩
theorem Qi6 {i:Int} {t:Tok} (B:Gl X x) (I:X.mg x=some (.int i t)) (hd:(x == ("__debug__" : Str))=false:=by decide):SimE X E (.Name x pos) (mC (.int i)):=
 ⟨fun Γ σ H ρ st Q R G h=>WE.of (Q9m B I (v:=.int i) ⟨t,rfl⟩ hd) (now R h rfl)⟩
variable {a b c:aH} {ma mb mc:ME}
def mOp (o:OP) (ma mb:ME):ME:=fun Γ st=>(ma Γ st).bind fun x st1=>(mb Γ st1).bind fun y st2=>o st2 x y
theorem Q54 {f:aA->aA->Sem aA} {Q:VK} (ho:OpS X E f o) (ha:SimE X E a ma) (hb:SimE X E b mb) (R:Rel H ρ st) (G:EnvR H ρ Γ σ) (h:Acc X.mg E H ρ P (mOp o ma mb Γ st))
  (k:∀ p B H1 ρ1 v,Ext H ρ H1 ρ1->Rel H1 ρ1 B->Rep H1 ρ1 p v->P p B H1 ρ1->Q v H1):tOp (WO X f) (WE X a) (WE X b) σ H Q:=by
 refine ha.use R G h.bind fun p B H1 ρ1 v x1 Y G1 r1 h1=>?_
 refine hb.use Y G1 h1.bind fun q a1 H2 U u O R2 G2 r2 h2=>?_
 exact ho.use R2 (r1.ext O) r2 h2 fun w J H3 I z x3 R3 Z p3=>k w J H3 I z (x1.trans (O.trans x3)) R3 Z p3
theorem Qsq {op:Operator} (B:OpS X E (aV op) o) (I:SimE X E a ma) (J:SimE X E b mb):SimE X E (.BinOp a op b pos) (mOp o ma mb):=
 ⟨fun Γ σ H ρ st Q R G h=>WE.of (Qta Q7v Ja Ja) (Q54 B I J R G h fun _ _ _ _ v _ _ r q=>q v r)⟩
theorem Qnf (B:OpS X E (aR op) o) (I:SimE X E a ma) (J:SimE X E b mb) (O:bH op b=false:=by first | exact Q82 _ | rfl):SimE X E (.Compare a [op] [b] pos) (mOp o ma mb):=
 ⟨fun Γ σ H ρ st Q R G h=>WE.of (Qj4 Q7v Ja Ja O) (Q54 B I J R G h fun _ _ _ _ v _ _ r q=>q v r)⟩
def asB (p:PV) (st:Q0):Res Bool:=match p with
 | .bl k=>.ok k st
 | _=>.stuck
def toB (m:ME):Gam->Q0->Res Bool:=fun Γ st=>(m Γ st).bind asB
theorem Qhf {P:Bool->Q0->Hp->Tk->Prop} (R:Rel H ρ st) (r:Rep H ρ p v) (h:Acc mg E H ρ P (asB p st)):∃ k,v=.bl k/\P k st H ρ:=by
 cases p with
 | bl k=>exact ⟨k,r,h H ρ (Ext.refl _ _) R⟩
 | _=>exact h.elim
theorem Qd2 (U:OpS X E (aR op) o) (I:SimE X E a ma) (Y:SimE X E b mb) (O:bH op b=false:=by first | exact Q82 _ | rfl):SimT X E (.Compare a [op] [b] pos) (toB (mOp o ma mb)):=
 ⟨fun Γ σ H ρ st Q R G h=>WT.of (Qim Q7v Ja Ja O) (Q54 U I Y R G h.bind fun _ J _ _ v _ B r q=>by
  obtain ⟨k,e,z⟩:=Qhf B r q;exact ⟨k,e,z⟩)⟩
theorem Qmx {m:ME} (h:SimE X E e m) (Y:∀ B,isTrue e X.env B=(do let v <- B; standAt e.pos; ay [v] (truthy v)):=by intro _; rfl):SimT X E e (toB m):=
 ⟨fun Γ σ H ρ st Q R G O=>WT.of (Qnu Ja Y) (h.use R G O.bind fun p J H1 ρ1 v x1 I Z U h1=>by
  obtain ⟨k,e,z⟩:=Qhf I U h1;exact ⟨k,e,z⟩)⟩
def Vz (o o':OP) (ma mb mc:ME):ME:=fun Γ st=>(ma Γ st).bind fun x st1=>(mb Γ st1).bind fun y st2=>(o st2 x y).bind fun k st3=>match k with
 | .bl true=>(mc Γ st3).bind fun z st4=>o' st4 y z
 | .bl false=>.ok (.bl false) st3
 | _=>.stuck
theorem Q3j {I:CmpOp} {o':OP} {Q:VK} (ho:OpS X E (aR op) o) (a2:OpS X E (aR I) o') (ha:SimE X E a ma) (hb:SimE X E b mb) (hc:SimE X E c mc) (R:Rel H ρ st) (G:EnvR H ρ Γ σ) (h:Acc X.mg E H ρ P (Vz o o' ma mb mc Γ st))
  (k:∀ p B H1 ρ1 v,Ext H ρ H1 ρ1->Rel H1 ρ1 B->Rep H1 ρ1 p v->P p B H1 ρ1->Q v H1):Q7h (WO X (aR op)) (WO X (aR I)) (WE X a) (WE X b) (WE X c) σ H Q:=by
 refine ha.use R G h.bind fun p B H1 ρ1 v x1 R1 G1 r1 h1=>?_
 refine hb.use R1 G1 h1.bind fun q a5 H2 a3 u x2 R2 G2 r2 h2=>?_
 refine ho.use R2 (r1.ext x2) r2 h2.bind fun w a6 H3 J z O Z r3 U=>?_
 cases w with
 | bl b=>
  refine ⟨b,r3,?_⟩;cases b with
  | true=>
   rw [bN rfl];refine hc.use Z (G2.ext O) U.bind fun y a4 H4 a7 yv x4 R4 G4 r4 h4=>?_
   exact a2.use R4 (r2.ext (O.trans x4)) r4 h4 fun w Y H5 a1 z x5 R5 r5 p5=>k w Y H5 a1 z (x1.trans (x2.trans (O.trans (x4.trans x5)))) R5 r5 p5
  | false=>
   rw [bO E9];exact k (.bl false) _ H3 J _ (x1.trans (x2.trans O)) Z rfl (U H3 J (Ext.refl _ _) Z)
 | _=>exact U.elim
theorem Qdn {B:CmpOp} {o':OP} (U:OpS X E (aR op) o) (I:OpS X E (aR B) o') (J:SimE X E a ma) (Y:SimE X E b mb) (Z:SimE X E c mc) (O:lastMarks [op,B] [b,c]=false:=by with_unfolding_all rfl):SimE X E (.Compare a [op,B] [b,c] pos) (Vz o o' ma mb mc):=
 ⟨fun Γ σ H ρ st Q R G h=>WE.of (Qeq Q7v Q7v Ja Ja Ja O) (Q3j U I J Y Z R G h fun _ _ _ _ v _ _ r q=>q v r)⟩
theorem Qd3 {B:CmpOp} {o':OP} (Z:OpS X E (aR op) o) (I:OpS X E (aR B) o') (O:SimE X E a ma) (hb:SimE X E b mb) (hc:SimE X E c mc) (Y:lastMarks [op,B] [b,c]=false:=by with_unfolding_all rfl):SimT X E (.Compare a [op,B] [b,c] pos) (toB (Vz o o' ma mb mc)):=
 ⟨fun Γ σ H ρ st Q R G h=>WT.of (Qe3 Q7v Q7v Ja Ja Ja Y) (Q3j Z I O hb hc R G h.bind fun _ U _ _ v _ J r q=>by
  obtain ⟨k,e,z⟩:=Qhf J r q;exact ⟨k,e,z⟩)⟩
variable {rest:List aH}
def zk (ma mb:ME):ME:=fun Γ st=>(ma Γ st).bind fun x st1=>match x with
 | .bl true=>mb Γ st1
 | .bl false=>.ok (.bl false) st1
 | _=>.stuck
def Qjn (ma:ME):ME:=fun Γ st=>(ma Γ st).bind fun x st1=>match x with
 | .bl k=>.ok (.bl (!k)) st1
 | _=>.stuck
theorem Qn9 {op:BoolOp} (B:SimE X E a ma):SimE X E (.BoolOp op [a] pos) ma:=⟨fun Γ σ H ρ st Q R G h=>WE.of (Qp9 Ja) (B.use R G h fun _ _ _ _ v _ _ _ r q=>q v r)⟩
theorem Qnh (J:SimE X E a ma) (Y:SimE X E (.BoolOp .And (b :: rest) pos) mb):SimE X E (.BoolOp .And (a :: b :: rest) pos) (zk ma mb):=
 ⟨fun Γ σ H ρ st Q R G h=>WE.of (Qpe Ja Ja) (J.use R G h.bind fun p O H1 ρ1 v x1 B I U h1=>by
  cases p with
  | bl k=>
   refine ⟨k,U,?_⟩;cases k with
   | true=>rw [bN rfl]; exact Y.use B I h1 fun _ _ _ _ v _ _ _ r q=>q v r
   | false=>rw [bO E9]; exact now B h1 rfl
  | _=>exact h1.elim)⟩
theorem Qna (I:SimE X E a ma):SimE X E (.UnaryOp .Not a pos) (Qjn ma):=
 ⟨fun Γ σ H ρ st Q R G h=>WE.of (Qpa Ja) (I.use R G h.bind fun p J H1 ρ1 v x1 B U O h1=>by
  cases p with
  | bl k=>exact ⟨k,O,now B h1 rfl⟩
  | _=>exact h1.elim)⟩
def Qjp (ma:ME):ME:=fun Γ st=>(ma Γ st).bind fun x st1=>match x with
 | .int k=>.ok (.int (-k)) st1
 | _=>.stuck
theorem Qnc (I:SimE X E a ma):SimE X E (.UnaryOp .USub a pos) (Qjp ma):=
 ⟨fun Γ σ H ρ st Q R G h=>WE.of (Qt9 Qmg Ja) (I.use R G h.bind fun p J H1 ρ1 v x1 B U O h1=>by
  cases p with
  | int k=>exact ⟨k,O,now B h1 rfl⟩
  | _=>exact h1.elim)⟩
abbrev MT:=Gam->Q0->Res Bool
variable {ta tb:MT}
def Vc (ta tb:MT):MT:=fun Γ st=>(ta Γ st).bind fun k st1=>if k=true then tb Γ st1 else .ok false st1
def qp (ta tb:MT):MT:=fun Γ st=>(ta Γ st).bind fun k st1=>if k=true then .ok true st1 else tb Γ st1
def Yh (ta:MT):MT:=fun Γ st=>(ta Γ st).bind fun k st1=>.ok (!k) st1
theorem SimW.t (h:SimW X E e ta):SimT X E e ta:=⟨fun Γ σ H ρ st Q R G q pins s I=>h.run Γ σ H ρ st Q R G q _ pins s I⟩
theorem Qhs (B:SimT X E a ta):SimW X E (.BoolOp .And [a] pos) ta:=⟨fun Γ σ H ρ st Q R G h=>WW.of (Qih Q49) (B.use R G h fun _ _ _ _ _ _ _ q=>q)⟩
theorem Qmu (B:SimT X E a ta):SimW X E (.BoolOp .Or [a] pos) ta:=⟨fun Γ σ H ρ st Q R G h=>WW.of (Qns Q49) (B.use R G h fun _ _ _ _ _ _ _ q=>q)⟩
theorem Qmv (J:SimT X E a ta) (U:SimW X E (.BoolOp .And (b :: rest) pos) tb):SimW X E (.BoolOp .And (a :: b :: rest) pos) (Vc ta tb):=
 ⟨fun Γ σ H ρ st Q R G h=>WW.of (Qnt Q49 Qt4) (J.use R G h.bind fun k O H1 ρ1 x1 B I h1=>by
  cases k with
  | true=>rw [bN rfl] at h1 ⊢; exact U.use B I h1 fun _ _ _ _ _ _ _ q=>q
  | false=>rw [bO E9] at h1 ⊢; exact h1 H1 ρ1 (Ext.refl _ _) B)⟩
theorem Qsk (J:SimT X E a ta) (U:SimW X E (.BoolOp .Or (b :: rest) pos) tb):SimW X E (.BoolOp .Or (a :: b :: rest) pos) (qp ta tb):=
 ⟨fun Γ σ H ρ st Q R G h=>WW.of (Qt5 Q49 Qt4) (J.use R G h.bind fun k O H1 ρ1 x1 B I h1=>by
  cases k with
  | true=>rw [bN rfl] at h1 ⊢; exact h1 H1 ρ1 (Ext.refl _ _) B
  | false=>rw [bO E9] at h1 ⊢; exact U.use B I h1 fun _ _ _ _ _ _ _ q=>q)⟩
theorem Qmy (B:SimT X E a ta):SimT X E (.UnaryOp .Not a pos) (Yh ta):=
 ⟨fun Γ σ H ρ st Q R G h=>WT.of (Qnv Q49) (B.use R G h.bind fun k J H1 ρ1 x1 I O h1=>h1 H1 ρ1 (Ext.refl _ _) I)⟩
def mIf (tc:MT) (ma mb:ME):ME:=fun Γ st=>(tc Γ st).bind fun k st1=>if k=true then ma Γ st1 else mb Γ st1
theorem Qsr (O:SimT X E c ta) (J:SimE X E a ma) (Y:SimE X E b mb):SimE X E (.IfExp c a b pos) (mIf ta ma mb):=
 ⟨fun Γ σ H ρ st Q R G h=>WE.of (Qek Q49 Ja Ja) (O.use R G h.bind fun k U H1 ρ1 x1 B I h1=>by
  cases k with
  | true=>rw [bN rfl] at h1 ⊢; exact J.use B I h1 fun _ _ _ _ v _ _ _ r q=>q v r
  | false=>rw [bO E9] at h1 ⊢; exact Y.use B I h1 fun _ _ _ _ v _ _ _ r q=>q v r)⟩
variable {e:aH} {es:List aH} {m:ME} {mr:Gam->Q0->Res (List PV)}
def Q6:Gam->Q0->Res (List PV):=fun _ st=>.ok [] st
def Q1 (m:ME) (mr:Gam->Q0->Res (List PV)):Gam->Q0->Res (List PV):=fun Γ st=>(m Γ st).bind fun p st1=>(mr Γ st1).bind fun ps st2=>.ok (p :: ps) st2
theorem Ka:SimA X E [] Q6:=⟨fun Γ σ H ρ st Q R G h=>WA.of Q4c (h H ρ (Ext.refl _ _) R [] rfl)⟩
theorem Za (O:SimE X E e m) (hr:SimA X E es mr) (hs:aN (e :: es) X.env=(false,aL e X.env) :: aN es X.env:=by rfl):SimA X E (e :: es) (Q1 m mr):=
 ⟨fun Γ σ H ρ st Q R G h=>WA.of (zc Ja xx hs) (O.use R G h.bind fun p U H1 ρ1 v x1 I J Z h1=>hr.use I J h1.bind fun ps a1 H2 B vs Y R2 G2 r2 h2=>
  h2 H2 B (Ext.refl _ _) R2 (v :: vs) ⟨v,vs,rfl,Z.ext Y,r2⟩)⟩
def Z5 (mr:Gam->Q0->Res (List PV)):ME:=fun Γ st=>(mr Γ st).bind fun ps st1=>if ps.length<=lim then .ok (.tup ps) st1 else .stuck
def Q88 (mr:Gam->Q0->Res (List PV)):ME:=fun Γ st=>(mr Γ st).bind fun ps st1=>if ps.length<=lim then .ok (.lst ps) st1 else .stuck
theorem Qdh {k:Nat} (h:SimA X E es mr):SimE X E (.Tuple es k pos) (Z5 mr):=
 ⟨fun Γ σ H ρ st Q R G U=>WE.of (Qp7 xx) (h.use R G U.bind fun ps O H1 ρ1 vs x1 J Y I h1=>by
  by_cases B:ps.length<=lim
  ·rw [bN B] at h1;exact ⟨by rw [<- I.length]; exact Yr B,zg J h1 I⟩
  ·rw [bO B] at h1; exact h1.elim)⟩
theorem Qnd (h:SimA X E es mr):SimE X E (.List es pos) (Q88 mr):=
 ⟨fun Γ σ H ρ st Q R G U=>WE.of (Qej xx) (h.use R G U.bind fun ps O H1 ρ1 vs x1 J Y I h1=>by
  by_cases B:ps.length<=lim
  ·rw [bN B] at h1;exact ⟨by rw [<- I.length]; exact Yr B,zh J h1 I⟩
  ·rw [bO B] at h1; exact h1.elim)⟩
end
end Sm
namespace HT
open PySem PySem.Spec PyProof.Rows
variable {prog:aM} {A:aQ} {E:aA->aC->Prop} {s:aC}
section
variable {w:aJ}
theorem getItem_tuple_whole {t Z:aB} {B:Array aA} {vl vu:aA} {lo hi:Option Int} {Q:aA->aC->Prop} (I:IsTup s.heap t B) (hs:s.heap.IsSliceOf Z vl vu .none) (pl:IsPart vl lo) (pu:IsPart vu hi)
  (hw:sIx B.size 0 lo=0/\sIx B.size B.size hi=B.size)
  (h:Q (.ref t) s):aF (aI prog w) A (getItem (.ref t) (.ref Z)) Q E s:=by
 obtain ⟨os,O,Y,a1⟩:=id hs;have U:s.TypeIs (.ref Z) "slice" := ⟨os,O,Y⟩;unfold getItem
 try with_reducible refine aa ?_
 first | refine aD (wpAny_pure ?_) | skip
 refine aD (wpAny_sequenceKey I.typeIs (by decide) ?_);refine aD (wpAny_callSpecial?_slot (name:=Str.ofString "__getitem__") I.typeIs PyProof.Rows.slot_tuple_getitem
  (ag PyProof.Rows.slot_tuple_getitem I.typeIs entry_tuple_getitem ?_ (args_tuple_getitem _ _)))
 show aF _ _ (Builtin.Tuple.tupleItemsOf (.ref t) >>= _) _ _ s;refine aD (tupleItemsOf_ I ?_);refine aD (bM U ?_);rw [bN (by decide)];refine aD (X1 hs pl pu ?_);have J:(((sIx B.size 0 lo:Nat):Int) == 0 && (1:Int) == 1 && (sIx B.size B.size hi - sIx B.size 0 lo) == B.size)=true:=by
  rw [hw.1,hw.2]; simp
 show aF _ _ (if (((sIx B.size 0 lo:Nat):Int) == 0 && (1:Int) == 1 && (sIx B.size B.size hi - sIx B.size 0 lo) == B.size)=true then _ else _) _ _ s;rw [bN J];refine aD (aD (bM I.typeIs (wpAny_pure ?_)));rw [bN (by rfl)];exact aD (ah (wpAny_pure ⟨_,rfl,wpAny_pure h⟩))
end
end HT
namespace L2
open PySem PySem.Spec PyProof.Rows
def Qwr (K:PySem.W.Frag):V->Option Int->Option Int->Hp->VK->Prop:=fun x lo hi H Q=>∃ a xs,x=.ref a/\SqT K H a xs /\
 (HT.sIx xs.length 0 lo=0/\HT.sIx xs.length xs.length hi=xs.length)/\Q (.ref a) H
theorem sl_whole {X:Cx}:SlR X (Qwr X.K):=by
 intro pins s σ H x v vl vu lo hi sl Q I Z hs pl U h;obtain ⟨a,xs,rfl,Y,O,q⟩:=h;cases Z;obtain ⟨its,r,J,hz⟩:=I.tuple Y;have B:its.toArray.size=xs.length:=by rw [D0]; exact r.length.symm
 refine ⟨"tuple",_,PyProof.Rows.slot_tuple_getitem.lookup,J.typeIs,?_⟩;exact HT.getItem_tuple_whole J hs pl U (by rw [B]; exact O) ⟨.ref a,H,I,rfl,q⟩
end L2
namespace Sm
open PySem PySem.Spec L2
variable {H H1:Hp} {ρ:Tk} {p:PV} {x:Str} {σ:St} {A:aQ} {st:Q0} {xs ps:List PV} {vs:List V} {o:CF} {Q:VK} {T:String} {K:PySem.W.Frag} {v:V} {tp:Pos} {e c:aH} {es:List aH} {n k kt:Nat} {mg:Str->Option aA} {b:aB} {hs:List aB} {α β:Type} {Γ:Gam} {P:List PV->Q0->Hp->Tk->Prop} {s:aK} {fd:aP}
variable {X:Cx} {E:XK}
section
variable {pos:Pos}
def oI (g:Int->Int->PV):OP:=fun st p q=>match p,q with
 | .int a,.int b=>.ok (g a b) st
 | _,_=>.stuck
def Yv:OP:=fun st p q=>match p,q with
 | .int a,.int b=>.ok (.int (a + b)) st
 | .str a,.str b=>if a.length + b.length<=lim then .ok (.str (a ++ b)) st else .stuck
 | .tup xs,.tup ys=>if xs.length + ys.length<=lim then .ok (.tup (xs ++ ys)) st else .stuck
 | p,q=>match X7 st p,X7 st q with
  | some xs,some ys=>if xs.length + ys.length<=lim then .ok (.lst (xs ++ ys)) st else .stuck
  | _,_=>.stuck
theorem Qpn:OpS X E (aV .Add) Yv:=⟨fun H ρ st p q x y Q R Y U h=>by
 unfold Yv at h
 split at h
 ·cases Y; cases U;exact WO.of Qpw ⟨_,_,rfl,rfl,now R h rfl⟩
 ·cases Y; cases U
  split at h
  ·rename_i J;exact WO.of Q7w ⟨_,_,rfl,rfl,Yr J,now R h rfl⟩
  ·exact h.elim
 ·split at h
  ·rename_i xs ys J;obtain ⟨a,vs,rfl,I,na,B⟩:=Y;obtain ⟨b,us,rfl,O,Z,rb⟩:=U;refine WO.of Qjb ?_
   by_cases e:xs=[]
   ·subst e;cases B;exact .inr ⟨a,b,us,rfl,rfl,SqT.of I,SqT.of O,now R h ⟨b,us,rfl,O,Z,rb⟩⟩
   ·refine .inl ⟨a,b,vs,us,rfl,rfl,SqT.of I,SqT.of O,fun z=>e ?_,by rw [<- B.length,<- rb.length]; exact Yr J,fun z=>?_,fun z=>zg R h (B.append rb)⟩
    ·subst z;cases xs with
     | nil=>rfl
     | cons _ _=>have:=B.length; simp at this
    ·subst z;have:ys=[]:=by
      cases ys with
      | nil=>rfl
      | cons _ _=>have:=rb.length; simp at this
     subst this;rw [G7] at h;exact now R h ⟨a,vs,rfl,I,na,B⟩
  ·exact h.elim
 ·split at h
  ·rename_i xs ys e1 e2
   split at h
   ·rename_i J;obtain ⟨a,vs,rfl,I,B⟩:=Q1g R Y e1;obtain ⟨b,us,rfl,O,rb⟩:=Q1g R U e2;exact WO.of Qpv ⟨a,b,vs,us,rfl,rfl,I,O,by rw [<- B.length,<- rb.length]; exact Yr J,zh R h (B.append rb)⟩
   ·exact h.elim
  ·exact h.elim⟩
theorem Qpg:OpS X E (aV .Sub) (oI fun a b=>.int (a - b)):=⟨fun H ρ st p q x y Q R I B h=>by
 unfold oI at h
 split at h
 ·cases I; cases B;exact WO.of Qpp ⟨_,_,rfl,rfl,now R h rfl⟩
 ·exact h.elim⟩
def Q4h:OP:=fun st p q=>match p,q with
 | .int a,.int b=>if (-(2 ^ 64) < a/\a < 2 ^ 64)\/(-(2 ^ 64) < b/\b < 2 ^ 64) then .ok (.int (a * b)) st else .stuck
 | .tup xs,.int b=>if xs≠[]/\1<=b/\xs.length * b.toNat<=4096 then .ok (.tup (List.replicate b.toNat xs).flatten) st else .stuck
 | p,.int b=>match X7 st p with
  | some xs=>if -(2 ^ 63)<=b/\b < 2 ^ 63/\xs.length * b.toNat<=lim then .ok (.lst (List.replicate b.toNat xs).flatten) st else .stuck
  | none=>.stuck
 | _,_=>.stuck
theorem Qpi:OpS X E (aV .Mult) Q4h:=⟨fun H ρ st p q x y Q R Y O h=>by
 unfold Q4h at h
 split at h
 ·cases Y; cases O
  split at h
  ·rename_i B;exact WO.of Qps ⟨_,_,rfl,rfl,B,now R h rfl⟩
  ·exact h.elim
 ·cases O
  split at h
  ·rename_i xs b B;obtain ⟨a,vs,rfl,J,Z,I⟩:=Y;refine WO.of Qj8 ⟨a,b,vs,rfl,rfl,SqT.of J,fun z=>B.1 ?_,B.2.1,by rw [<- I.length]; exact B.2.2,fun z=>?_,fun z=>zg R h (I.rep _)⟩
   ·subst z;cases xs with
    | nil=>rfl
    | cons _ _=>have:=I.length; simp at this
   ·subst z;have U:(List.replicate (Int.toNat 1) xs).flatten=xs:=by simp
    rw [U] at h;exact now R h ⟨a,vs,rfl,J,Z,I⟩
  ·exact h.elim
 ·cases O
  split at h
  ·rename_i xs U
   split at h
   ·rename_i B;obtain ⟨a,vs,rfl,J,I⟩:=Q1g R Y U;exact WO.of Qpq ⟨a,_,vs,rfl,rfl,J,B.1,B.2.1,by rw [<- I.length]; exact Yr B.2.2,zh R h (I.rep _)⟩
   ·exact h.elim
  ·exact h.elim
 ·exact h.elim⟩
def Q67:OP:=fun st p q=>match p,q with
 | .int a,.int b=>if 0 < b then .ok (.int (a % b)) st else .stuck
 | _,_=>.stuck
theorem Qpj:OpS X E (aV .Mod) Q67:=⟨fun H ρ st p q x y Q R I B h=>by
 unfold Q67 at h
 split at h
 ·cases I; cases B
  split at h
  ·rename_i J;exact WO.of Qpt ⟨_,_,rfl,rfl,J,now R h rfl⟩
  ·exact h.elim
 ·exact h.elim⟩
def Qez:OP:=fun st p q=>match p,q with
 | .int a,.int b=>if 0 < b/\b < 1073741824 then .ok (.int (a / b)) st else .stuck
 | _,_=>.stuck
theorem Qpm:OpS X E (aV .FloorDiv) Qez:=⟨fun H ρ st p q x y Q R I B h=>by
 unfold Qez at h
 split at h
 ·cases I; cases B
  split at h
  ·rename_i J;exact WO.of Qja ⟨_,_,rfl,rfl,J,now R h rfl⟩
  ·exact h.elim
 ·exact h.elim⟩
def Qje:OP:=fun st p q=>match p,q with
 | .int a,.int b=>if 0<=b/\b<=1000000/\a.natAbs < 2 ^ 64 then .ok (.int (a ^ b.toNat)) st else .stuck
 | _,_=>.stuck
theorem Qph:OpS X E (aV .Pow) Qje:=⟨fun H ρ st p q x y Q R I B h=>by
 unfold Qje at h
 split at h
 ·cases I; cases B
  split at h
  ·rename_i J;exact WO.of Qpr ⟨_,_,rfl,rfl,J,now R h rfl⟩
  ·exact h.elim
 ·exact h.elim⟩
theorem Qey {op:CmpOp} {g:Int->Int->Bool} (B:OpR X (aR op) (rI0 fun i j=>.bl (g i j))):OpS X E (aR op) (oI fun a b=>.bl (g a b)):=⟨fun H ρ st p q x y Q R J I h=>by
 unfold oI at h
 split at h
 ·cases J; cases I;exact WO.of B ⟨_,_,rfl,rfl,now R h rfl⟩
 ·exact h.elim⟩
theorem Qtf:OpS X E (aR .LtE) (oI fun a b=>.bl (decide (a<=b))):=Qey Qtm
theorem Qth:OpS X E (aR .Gt) (oI fun a b=>.bl (decide (b < a))):=Qey Qtn
def Uu:List PV->Option (List Int)
 | []=>some []
 | .int i :: ps=>(Uu ps).map (i :: ·)
 | _ :: _=>none
def xt:List PV->Option (List Bool)
 | []=>some []
 | .bl i :: ps=>(xt ps).map (i :: ·)
 | _ :: _=>none
theorem zr (ns:List Int):Uu (ns.map .int)=some ns:=by
 induction ns with
 | nil=>rfl
 | cons n ns B=>rw [D3,Uu,B]; rfl
theorem Qka (ns:List Bool):xt (ns.map .bl)=some ns:=by
 induction ns with
 | nil=>rfl
 | cons n ns B=>rw [D3,xt,B]; rfl
theorem Q0b:∀ {ps:List PV} {ns:List Int},Uu ps=some ns->ps=ns.map .int
 | [],ns,h=>by cases h; rfl
 | .int i :: ps,ns,h=>by
  rw [Uu] at h;cases e:Uu ps with
  | none=>rw [e] at h; cases h
  | some ms=>rw [e] at h; cases h; rw [Q0b e]; rfl
 | .non :: _,_,h | .bl _ :: _,_,h | .str _ :: _,_,h | .tup _ :: _,_,h | .lst _ :: _,_,h | .fro _ :: _,_,h | .ref _ :: _,_,h | .dic :: _,_,h=>by cases h
theorem Qh7:∀ {ps:List PV} {ns:List Bool},xt ps=some ns->ps=ns.map .bl
 | [],ns,h=>by cases h; rfl
 | .bl i :: ps,ns,h=>by
  rw [xt] at h;cases e:xt ps with
  | none=>rw [e] at h; cases h
  | some ms=>rw [e] at h; cases h; rw [Qh7 e]; rfl
 | .non :: _,_,h | .int _ :: _,_,h | .str _ :: _,_,h | .tup _ :: _,_,h | .lst _ :: _,_,h | .fro _ :: _,_,h | .ref _ :: _,_,h | .dic :: _,_,h=>by cases h
def oLt:OP:=fun st p q=>match p,q with
 | .int a,.int b=>.ok (.bl (decide (a < b))) st
 | .tup xs,.tup ys=>match Uu xs,Uu ys with
  | some ns,some ms=>.ok (.bl (HT.lexLt ns ms)) st
  | _,_=>.stuck
 | _,_=>.stuck
theorem Qte (hu:X.A.units + 64 < aO):OpS X E (aR .Lt) oLt:=⟨fun H ρ st p q x y Q R U B h=>by
 unfold oLt at h
 split at h
 ·cases U; cases B;exact WO.of Qtk ⟨_,_,rfl,rfl,now R h rfl⟩
 ·split at h
  ·rename_i ns ms Y Z;obtain ⟨a,vs,rfl,J,na,I⟩:=U;obtain ⟨b,us,rfl,O,nb,rb⟩:=B;rw [Q0b Y] at I;rw [Q0b Z] at rb;rw [I.toInts] at J;rw [rb.toInts] at O;exact WO.of (Qpu (by omega)) ⟨a,b,ns,ms,rfl,rfl,SqT.of J,SqT.of O,now R h rfl⟩
  ·exact h.elim
 ·exact h.elim⟩
def dep:Nat:=12
def oEq:OP:=fun st p q=>if Qz dep (der st p)=true/\Qz dep (der st q)=true then .ok (.bl (peq (der st p) (der st q))) st else .stuck
def oNe:OP:=fun st p q=>if Qz dep (der st p)=true/\Qz dep (der st q)=true then .ok (.bl (!peq (der st p) (der st q))) st else .stuck
theorem Qti (Y:X.A.units + 64 < aO):OpS X E (aR .Eq) oEq:=⟨fun H ρ st p q x y Q R O B h=>by
 unfold oEq at h
 split at h
 ·rename_i g;intro pins s σ v u I J U;exact (Qac dep I g.1 g.2 (by unfold dep; omega) (qh R g.1 O) J (qh R g.2 B) U).2.1 _ _ _ _ ⟨.bl _,H,I,rfl,now R h rfl⟩
 ·exact h.elim⟩
theorem Qkx (Y:X.A.units + 64 < aO):OpS X E (aR .NotEq) oNe:=⟨fun H ρ st p q x y Q R O B h=>by
 unfold oNe at h
 split at h
 ·rename_i g;intro pins s σ v u I J U;exact (Qac dep I g.1 g.2 (by unfold dep; omega) (qh R g.1 O) J (qh R g.2 B) U).2.2 _ _ _ _ ⟨.bl _,H,I,rfl,now R h rfl⟩
 ·exact h.elim⟩
def Q3d:PV->Bool
 | .non=>true
 | _=>false
theorem Qbt {x:V} (r:Rep H ρ p x):decide (x=.non)=Q3d p:=by
 cases p with
 | non=>cases r; rfl
 | bl _=>cases r; rfl
 | int _=>cases r; rfl
 | str _=>cases r; rfl
 | tup _=>obtain ⟨_,_,rfl,_⟩:=r; rfl
 | lst _=>obtain ⟨_,_,rfl,_⟩:=r; rfl
 | fro _=>obtain ⟨_,_,rfl,_⟩:=r; rfl
 | ref _=>obtain ⟨_,_,rfl⟩:=r; rfl
 | dic=>obtain ⟨_,rfl,_⟩:=r; rfl
def oIs:OP:=fun st p q=>match q with
 | .non=>.ok (.bl (Q3d p)) st
 | .bl c=>match p with
  | .bl b=>.ok (.bl (b == c)) st
  | _=>.stuck
 | _=>.stuck
def j8:OP:=fun st p q=>match q with
 | .non=>.ok (.bl (!Q3d p)) st
 | .bl c=>match p with
  | .bl b=>.ok (.bl (b != c)) st
  | _=>.stuck
 | _=>.stuck
theorem Qev:OpS X E (aR .IsNot) j8:=⟨fun H ρ st p q x y Q R I B h=>by
 unfold j8 at h
 split at h
 ·cases B;refine WO.of Qj9 ⟨rfl,?_⟩;rw [Qbt I];exact now R h rfl
 ·split at h
  ·cases I; cases B;exact WO.of Q62 ⟨_,_,rfl,rfl,now R h rfl⟩
  ·exact h.elim
 ·exact h.elim⟩
def oIn (neg:Bool):OP:=fun st p q=>match Zu st q with
 | some xs=>if Qz dep (der st p)=true/\xs.all (Qz dep)=true then .ok (.bl ((xs.any fun y=>peq y (der st p)) != neg)) st else .stuck
 | none=>.stuck
open Classical in
theorem zt {pins:List (aB × Obj)} {s:aC} {p:PV} {xs:List PV} {x:V} {v:aA} {vs:List V} {its:List aA} (I:Inv X pins σ H s) (hu:A.units + dep < aO) (R:Rel H ρ st)
  (gp:Qz dep (der st p)=true) (gx:xs.all (Qz dep)=true) (rp:Rep H ρ p x) (rv:RelV x v) (Z:RepL H ρ xs vs) (vi:Vals vs its):∃ e:aA->Bool,(∀ u,u∈its.toArray->SeqAt.EqAt A s u v (e u))/\its.toArray.any e=xs.any fun y=>peq y (der st p):=by
 have key:∀ u∈its,∃ q∈xs,∃ y,Rep H Tk.nil q y/\RelV y u:=fun u hu=>by
  obtain ⟨j,hj,rfl⟩:=List.getElem_of_mem hu;have l1:=vi.length;have l2:=Z.length;obtain ⟨y,e1,e2⟩:=(repL_nil gx Z).get (O2 (show j < xs.length by omega));obtain ⟨w,O,e4⟩:=vi.get e1;rw [O2 hj] at O; cases O;exact ⟨_,F7 _,y,e2,e4⟩
 refine ⟨fun u=>decide (∃ q∈xs,∃ y,Rep H Tk.nil q y/\RelV y u/\peq q (der st p)=true),fun u hm=>?_,?_⟩
 ·have a1:u∈its:=by simpa using hm
  by_cases z:∃ q∈xs,∃ y,Rep H Tk.nil q y/\RelV y u/\peq q (der st p)=true
  ·show SeqAt.EqAt A s u v (decide _);rw [bQ z];obtain ⟨q,B,y,U,Y,e⟩:=z;have:=(Qac dep I ((F5.mp gx) q B) gp hu U Y (qh R gp rp) rv).1;rw [e] at this;exact this
  ·show SeqAt.EqAt A s u v (decide _);rw [bP z];obtain ⟨q,B,y,U,Y⟩:=key u a1;have:=(Qac dep I ((F5.mp gx) q B) gp hu U Y (qh R gp rp) rv).1;cases e:peq q (der st p) with
   | true=>exact absurd ⟨q,B,y,U,Y,e⟩ z
   | false=>rw [e] at this; exact this
 ·rw [Bool.eq_iff_iff,Array.any_eq_true,List.any_eq_true];constructor
  ·rintro ⟨j,hj,e⟩;obtain ⟨q,B,y,U,Y,e⟩:=of_decide_eq_true e;exact ⟨q,B,e⟩
  ·rintro ⟨q,B,e⟩;obtain ⟨j,hj,rfl⟩:=List.getElem_of_mem B;have l1:=vi.length;have l2:=Z.length;have J:j < its.length:=by omega
   obtain ⟨y,e1,e2⟩:=(repL_nil gx Z).get (O2 hj);obtain ⟨w,O,e4⟩:=vi.get e1;refine ⟨j,by simpa using J,bQ ⟨_,B,y,e2,?_,e⟩⟩;rw [O2 J] at O; cases O;simpa using e4
theorem Qtg (hu:X.A.units + 64 < aO):OpS X E (aR .In) (oIn false):=⟨fun H ρ st p q x y Q R Z rq h=>by
 unfold oIn at h
 split at h
 ·rename_i xs es
  split at h
  ·rename_i g;obtain ⟨t,a,vs,rfl,Y,O⟩:=K9 (K:=X.K) R rq es;intro pins s σ v u I U ru;cases ru;rw [Bool.bne_false] at h;cases t with
   | true=>
    obtain ⟨its,r,pl,hz⟩:=I.tuple Y;obtain ⟨e,J,B⟩:=zt (A:=X.A.in1) I (by show X.A.units + 1 + dep < aO; unfold dep; omega) R g.1 g.2 Z U O r;refine SeqAt.in_tupleAt e pl J ⟨.bl _,H,I,rfl,?_⟩;rw [B];exact now R h rfl
   | false=>
    obtain ⟨its,r,pl,hz⟩:=I.list Y;obtain ⟨e,J,B⟩:=zt (A:=X.A.in1) I (by show X.A.units + 1 + dep < aO; unfold dep; omega) R g.1 g.2 Z U O r;refine SeqAt.in_listAt e pl.isList J ⟨.bl _,H,I,rfl,?_⟩;rw [B];exact now R h rfl
  ·exact h.elim
 ·exact h.elim⟩
theorem Qeu (hu:X.A.units + 64 < aO):OpS X E (aR .NotIn) (oIn true):=⟨fun H ρ st p q x y Q R Z rq h=>by
 unfold oIn at h
 split at h
 ·rename_i xs es
  split at h
  ·rename_i g;obtain ⟨t,a,vs,rfl,Y,O⟩:=K9 (K:=X.K) R rq es;intro pins s σ v u I U ru;cases ru;rw [Bool.bne_true] at h;cases t with
   | true=>
    obtain ⟨its,r,pl,hz⟩:=I.tuple Y;obtain ⟨e,J,B⟩:=zt (A:=X.A.in1) I (by show X.A.units + 1 + dep < aO; unfold dep; omega) R g.1 g.2 Z U O r;refine SeqAt.notIn_tupleAt e pl J ⟨.bl _,H,I,rfl,?_⟩;rw [B];exact now R h rfl
   | false=>
    obtain ⟨its,r,pl,hz⟩:=I.list Y;obtain ⟨e,J,B⟩:=zt (A:=X.A.in1) I (by show X.A.units + 1 + dep < aO; unfold dep; omega) R g.1 g.2 Z U O r;refine SeqAt.notIn_listAt e pl.isList J ⟨.bl _,H,I,rfl,?_⟩;rw [B];exact now R h rfl
  ·exact h.elim
 ·exact h.elim⟩
end
variable {H:Hp} {ρ:Tk}
theorem RepL.atI {ps:List PV} {vs:List V} {i:Int} {p:PV} (r:RepL H ρ ps vs) (e:atI ps i=some p):∃ v,L2.atI vs i=some v/\Rep H ρ p v:=by
 unfold L2.atI at e ⊢;rw [<- r.length];cases q:ixN ps.length i with
 | none=>rw [q] at e; cases e
 | some j=>
  rw [q] at e;exact r.get e
def cut {α:Type} (xs:List α) (lo hi:Option Int):List α:=(xs.drop (HT.sIx xs.length 0 lo)).take (HT.sIx xs.length xs.length hi - HT.sIx xs.length 0 lo)
theorem RepL.cut (r:RepL H ρ ps vs) (lo hi:Option Int):RepL H ρ (Sm.cut ps lo hi) (Q71 vs lo hi):=by
 unfold Sm.cut Q71;rw [<- r.length];exact (r.drop _).take _
section
variable {X:Cx} {E:XK} {pos:Pos} {a b:aH} {ma mb:ME}
def oIx:OP:=fun st p q=>match Zu st p,q with
 | some xs,.int i=>okO st (atI xs i)
 | _,_=>.stuck
theorem Qdj (ha:SimE X E a ma) (hb:SimE X E b mb) (hs:Qai b:=by exact fun _ _=>rfl):SimE X E (.Subscript a b pos) (mOp oIx ma mb):=
 ⟨fun Γ σ H ρ st Q R G h=>WE.of (Qtb Qqm Ja Ja hs) (ha.use R G h.bind fun p a1 H1 ρ1 v x1 Y G1 r1 h1=>hb.use Y G1 h1.bind fun q a2 H2 U u x2 R2 G2 r2 h2=>by
  unfold oIx at h2
  split at h2
  ·rename_i xs i e;cases r2;cases B:atI xs i with
   | none=>rw [B] at h2; exact h2.elim
   | some w=>
    rw [B] at h2;obtain ⟨t,b,vs,rfl,I,Z⟩:=K9 (K:=X.K) R2 (r1.ext x2) e;obtain ⟨z,J,O⟩:=Z.atI B;cases t with
    | true=>exact .inr (.inl ⟨b,vs,i,z,rfl,rfl,I,J,now R2 h2 O⟩)
    | false=>exact .inl ⟨b,vs,i,z,rfl,rfl,I,J,now R2 h2 O⟩
  ·exact h2.elim)⟩
structure SimO (X:Cx) (E:XK) (o:Option aH) (m:Gam->Q0->Res (Option Int)):Prop where
 run:∀ (Γ:Gam) (σ:St) (H:Hp) (ρ:Tk) (st:Q0) (P:Option Int->Q0->Hp->Tk->Prop) (Q:Option Int->Hp->Prop),Rel H ρ st->EnvR H ρ Γ σ->Acc X.mg E H ρ P (m Γ st) ->
  (∀ i st1 H1 ρ1,Ext H ρ H1 ρ1->Rel H1 ρ1 st1->EnvR H1 ρ1 Γ σ->P i st1 H1 ρ1->Q i H1)->∃ t,PO X o t/\t σ H Q
def Yz:Gam->Q0->Res (Option Int):=fun _ st=>.ok none st
def K2 (m:ME):Gam->Q0->Res (Option Int):=fun Γ st=>(m Γ st).bind fun p st1=>match p with
 | .int i=>.ok (some i) st1
 | _=>.stuck
theorem Qi0:SimO X E none Yz:=⟨fun Γ σ H ρ st P Q R G h k=>⟨_,Qiv,k none st H ρ (Ext.refl _ _) R G (h H ρ (Ext.refl _ _) R)⟩⟩
theorem Qhz (O:SimE X E a ma):SimO X E (some a) (K2 ma):=⟨fun Γ σ H ρ st P Q R G h k=>⟨_,Qiu Ja,O.use R G h.bind fun p B H1 ρ1 v x1 I J U h1=>by
 cases p with
 | int i=>exact ⟨i,U,k (some i) B H1 ρ1 x1 I J (h1 H1 ρ1 (Ext.refl _ _) I)⟩
 | _=>exact h1.elim⟩⟩
def oSl (st:Q0) (p:PV) (lo hi:Option Int):Res PV:=match p with
 | .tup xs=>.ok (.tup (cut xs lo hi)) st
 | p=>match Y1 st p with
  | some xs=>.ok (.lst (cut xs lo hi)) st
  | none=>.stuck
def mSl (ma:ME) (ml mh:Gam->Q0->Res (Option Int)):ME:=fun Γ st=>(ma Γ st).bind fun p st1=>(ml Γ st1).bind fun lo st2=>(mh Γ st2).bind fun hi st3=>oSl st3 p lo hi
def TO.w (X:Cx) (o:Option aH):TO:=fun σ H Q=>∃ t,PO X o t/\t σ H Q
theorem Qt8 {o:Option aH}:PO X o (TO.w X o):=fun pins s σ H Q I ⟨t,h,q⟩=>h pins s σ H Q I q
theorem Qdi {lo hi:Option aH} {ml mh:Gam->Q0->Res (Option Int)} {p2:Pos} (I:SimE X E a ma) (hl:SimO X E lo ml) (hh:SimO X E hi mh):SimE X E (.Subscript a (.Slice lo hi none p2) pos) (mSl ma ml mh):=
 ⟨fun Γ σ H ρ st Q R G h=>WE.of (Qei (sl_tup.or (sl_whole.or Qi2)) Ja Qt8 Qt8) (I.use R G h.bind fun p Z H1 ρ1 v x1 R1 G1 r1 h1=>by
  refine hl.run Γ σ H1 ρ1 Z _ _ R1 G1 h1.bind fun l a1 H2 Y x2 R2 G2 h2=>?_
  refine hh.run Γ σ H2 Y a1 _ _ R2 G2 h2.bind fun u a3 H3 a2 x3 O G3 B=>?_
  have r3:=r1.ext (x2.trans x3);unfold oSl at B
  split at B
  ·rename_i xs;obtain ⟨a,vs,rfl,I,na,J⟩:=r3
   by_cases U:HT.sIx vs.length 0 l=0/\HT.sIx vs.length vs.length u=vs.length
   ·refine .inr (.inl ⟨a,vs,rfl,SqT.of I,U,?_⟩);have e:cut xs l u=xs:=by
     unfold cut;rw [J.length,U.1,U.2,List.drop_zero,Nat.sub_zero,<- J.length,List.take_length]
    rw [e] at B;exact now O B ⟨a,vs,rfl,I,na,J⟩
   ·exact .inl ⟨a,vs,rfl,SqT.of I,U,zg O B (J.cut l u)⟩
  ·split at B
   ·rename_i xs e;obtain ⟨a,vs,rfl,I,J⟩:=Jc O r3 e;exact .inr (.inr ⟨a,vs,rfl,.inl I,zh O B (J.cut l u)⟩)
   ·exact B.elim)⟩
variable {es:List aH} {e:aH} {mr:Gam->Q0->Res (List PV)}
def Qj (o:CF) (mr:Gam->Q0->Res (List PV)):ME:=fun Γ st=>(mr Γ st).bind fun ps st1=>o st1 ps
theorem CallS.use {f:aA} (s:CallS X E f o) {P:PV->Q0->Hp->Tk->Prop} {Q:VK} {xs:List V} (R:Rel H ρ st) (U:RepL H ρ ps xs) (h:Acc X.mg E H ρ P (o st ps))
  (k:∀ p B H1 ρ1 v,Ext H ρ H1 ρ1->Rel H1 ρ1 B->Rep H1 ρ1 p v->P p B H1 ρ1->Q v H1):WC X f xs H Q:=by
 refine s.run H ρ st ps xs Q R U ?_;cases r:o st ps with
 | ok p B=>rw [r] at h; exact fun H' ρ' I J v O=>k p B H' ρ' v I J O (h H' ρ' I J)
 | exc e st=>rw [r] at h; exact h
 | stuck=>rw [r] at h; exact h
theorem Q5p {id:String} {p:Pos} (hc:CallS X E (.builtin id) o) (hg:Gl X x) (Z:X.mg x=none) (O:aW x=some (.builtin id)) (U:SimA X E (e :: es) mr) (hn:x≠"__name__" := by decide) (B:(x == ("__debug__" : Str))=false:=by decide)
  (he:aN (e :: es) X.env=(false,aL e X.env) :: aN es X.env:=by rfl) (I:(aX pos (aN es X.env)).any (·.1)=false:=by rfl):SimE X E (.Call (.Name x p) (e :: es) [] pos) (Qj o mr):=
 ⟨fun Γ σ H ρ st Q R G h=>WE.of (Q61 Qgs hg Z O xx hn B he I) (U.use R G h.bind fun ps Y H1 ρ1 vs x1 J G1 r1 h1=>hc.use J r1 h1 fun _ _ _ _ v _ _ r q=>q v r)⟩
theorem Q5n {p:Pos} (hc:CallS X E (.type T) o) (hg:Gl X x) (Z:X.mg x=none) (O:aW x=some (.type T)) (U:SimA X E (e :: es) mr) (hn:x≠"__name__" := by decide) (B:(x == ("__debug__" : Str))=false:=by decide)
  (he:aN (e :: es) X.env=(false,aL e X.env) :: aN es X.env:=by rfl) (I:(aX pos (aN es X.env)).any (·.1)=false:=by rfl):SimE X E (.Call (.Name x p) (e :: es) [] pos) (Qj o mr):=
 ⟨fun Γ σ H ρ st Q R G h=>WE.of (Q34 Qgs hg Z O xx hn B he I) (U.use R G h.bind fun ps Y H1 ρ1 vs x1 J G1 r1 h1=>hc.use J r1 h1 fun _ _ _ _ v _ _ r q=>q v r)⟩
theorem Ze {xs:List V} (r:RepL H ρ [p] xs):∃ v,xs=[v]/\Rep H ρ p v:=by
 obtain ⟨v,t,rfl,h1,h2⟩:=r;cases h2;exact ⟨v,rfl,h1⟩
theorem jz {q:PV} {xs:List V} (r:RepL H ρ [p,q] xs):∃ v u,xs=[v,u]/\Rep H ρ p v/\Rep H ρ q u:=by
 obtain ⟨v,t,rfl,h1,h2⟩:=r;obtain ⟨u,rfl,B⟩:=Ze h2;exact ⟨v,u,rfl,h1,B⟩
def Y3:CF:=fun st ps=>match ps with
 | [p]=>match Zu st p with
  | some xs=>.ok (.int xs.length) st
  | none=>match p with
   | .str x=>if x.length<=lim then .ok (.int x.length) st else .stuck
   | _=>.stuck
 | _=>.stuck
theorem Qr7:CallS X E (.builtin "len") Y3:=⟨fun H ρ st ps xs Q R J h=>by
 unfold Y3 at h
 split at h
 ·rename_i p;obtain ⟨v,rfl,r⟩:=Ze J
  split at h
  ·rename_i ys e;obtain ⟨t,a,vs,rfl,O,B⟩:=K9 (K:=X.K) R r e;rw [B.length] at h;exact WC.of Q53 ⟨a,vs,rfl,Q7i O,now R h rfl⟩
  ·split at h
   ·cases r
    split at h
    ·rename_i I;exact WC.of Q52 ⟨_,rfl,Yr I,now R h rfl⟩
    ·exact h.elim
   ·exact h.elim
 ·exact h.elim⟩
def Zj (g:List Int->Option PV):CF:=fun st ps=>match ps with
 | [p]=>match (Zu st p).bind Uu with
  | some ns=>okO st (g ns)
  | none=>.stuck
 | _=>.stuck
def Q01 (g:List Bool->PV):CF:=fun st ps=>match ps with
 | [p]=>match (Zu st p).bind xt with
  | some ns=>.ok (g ns) st
  | none=>.stuck
 | _=>.stuck
theorem Q1q {ns:List Int} (R:Rel H ρ st) (r:Rep H ρ p v) (e:(Zu st p).bind Uu=some ns):∃ (t:Bool) (a:aB),v=.ref a/\SqK K t H a (ns.map V.int):=by
 cases q:Zu st p with
 | none=>rw [q] at e; cases e
 | some xs=>
  rw [q] at e;obtain ⟨t,a,vs,rfl,I,B⟩:=K9 (K:=K) R r q;rw [Q0b e] at B;rw [B.toInts] at I;exact ⟨t,a,rfl,I⟩
theorem Qkb {ns:List Bool} (R:Rel H ρ st) (r:Rep H ρ p v) (e:(Zu st p).bind xt=some ns):∃ (t:Bool) (a:aB),v=.ref a/\SqK K t H a (ns.map V.bl):=by
 cases q:Zu st p with
 | none=>rw [q] at e; cases e
 | some xs=>
  rw [q] at e;obtain ⟨t,a,vs,rfl,I,B⟩:=K9 (K:=K) R r q;rw [Qh7 e] at B;rw [B.toBls] at I;exact ⟨t,a,rfl,I⟩
theorem Qr4 (B:X.calm=true):CallS X E (.builtin "sum") (Zj fun ns=>some (.int ns.sum)):=⟨fun H ρ st ps xs Q R I h=>by
 unfold Zj at h
 split at h
 ·obtain ⟨v,rfl,r⟩:=Ze I
  split at h
  ·rename_i ns e;obtain ⟨t,a,rfl,J⟩:=Q1q (K:=X.K) R r e;exact WC.of (Qgt t B) ⟨a,ns,rfl,J,now R h rfl⟩
  ·exact h.elim
 ·exact h.elim⟩
theorem Qr8 (B:X.calm=true):CallS X E (.builtin "all") (Q01 fun ns=>.bl (ns.all id)):=⟨fun H ρ st ps xs Q R I h=>by
 unfold Q01 at h
 split at h
 ·obtain ⟨v,rfl,r⟩:=Ze I
  split at h
  ·rename_i ns e;obtain ⟨t,a,rfl,J⟩:=Qkb (K:=X.K) R r e;exact WC.of (Qgu t B) ⟨a,ns,rfl,J,now R h rfl⟩
  ·exact h.elim
 ·exact h.elim⟩
def Qx2:List Int->Option Int
 | []=>none
 | n :: ns=>some (ns.foldl (fun a b=>if b > a then b else a) n)
def Qf7:List Int->Option Int
 | []=>none
 | n :: ns=>some (ns.foldl (fun a b=>if b < a then b else a) n)
theorem Q3g:∀ (ns:List Int) (n:Int),(ns.foldl (fun a b=>if b > a then b else a) n=n\/ns.foldl (fun a b=>if b > a then b else a) n∈ns)/\n<=ns.foldl (fun a b=>if b > a then b else a) n/\∀ k∈ns,k<=ns.foldl (fun a b=>if b > a then b else a) n
 | [],n=>⟨.inl rfl,Int.le_refl _,fun k h=>by cases h⟩
 | m :: ns,n=>by
  obtain ⟨h1,h2,J⟩:=Q3g ns (if m > n then m else n);rw [List.foldl_cons];refine ⟨?_,?_,fun k I=>?_⟩
  ·rcases h1 with e | e
   ·by_cases B:m > n
    ·rw [bN B] at e ⊢; exact .inr (by rw [e]; exact O9)
    ·rw [bO B] at e ⊢; exact .inl e
   ·exact .inr (O4 _ e)
  ·by_cases B:m > n
   ·rw [bN B] at h2 ⊢; omega
   ·rw [bO B] at h2 ⊢; exact h2
  ·rcases D8.mp I with rfl | I
   ·by_cases B:k > n
    ·rw [bN B] at h2 ⊢; exact h2
    ·rw [bO B] at h2 ⊢; omega
   ·exact J k I
theorem Q3f:∀ (ns:List Int) (n:Int),(ns.foldl (fun a b=>if b < a then b else a) n=n\/ns.foldl (fun a b=>if b < a then b else a) n∈ns)/\ns.foldl (fun a b=>if b < a then b else a) n<=n/\∀ k∈ns,ns.foldl (fun a b=>if b < a then b else a) n<=k
 | [],n=>⟨.inl rfl,Int.le_refl _,fun k h=>by cases h⟩
 | m :: ns,n=>by
  obtain ⟨h1,h2,J⟩:=Q3f ns (if m < n then m else n);rw [List.foldl_cons];refine ⟨?_,?_,fun k I=>?_⟩
  ·rcases h1 with e | e
   ·by_cases B:m < n
    ·rw [bN B] at e ⊢; exact .inr (by rw [e]; exact O9)
    ·rw [bO B] at e ⊢; exact .inl e
   ·exact .inr (O4 _ e)
  ·by_cases B:m < n
   ·rw [bN B] at h2 ⊢; omega
   ·rw [bO B] at h2 ⊢; exact h2
  ·rcases D8.mp I with rfl | I
   ·by_cases B:k < n
    ·rw [bN B] at h2 ⊢; exact h2
    ·rw [bO B] at h2 ⊢; omega
   ·exact J k I
def Qc8:CF:=fun st ps=>match ps with
 | [.int a,.int b]=>.ok (.int (if b > a then b else a)) st
 | ps=>Zj (fun ns=>(Qx2 ns).map .int) st ps
def Q24:CF:=fun st ps=>match ps with
 | [.int a,.int b]=>.ok (.int (if b < a then b else a)) st
 | ps=>Zj (fun ns=>(Qf7 ns).map .int) st ps
theorem Qr6 (I:X.calm=true):CallS X E (.builtin "max") Qc8:=⟨fun H ρ st ps xs Q R O h=>by
 unfold Qc8 at h
 split at h
 ·obtain ⟨v,u,rfl,Y,r2⟩:=jz O;cases Y; cases r2;exact WC.of (Qc7 I) ⟨_,_,rfl,now R h rfl⟩
 ·unfold Zj at h
  split at h
  ·obtain ⟨v,rfl,r⟩:=Ze O
   split at h
   ·rename_i ns e;cases ns with
    | nil=>exact h.elim
    | cons n ns=>
     obtain ⟨t,a,rfl,Z⟩:=Q1q (K:=X.K) R r e;refine WC.of (Qc6 t I) ⟨a,_,rfl,Z,by simp,fun m B J=>?_⟩;have em:m=ns.foldl (fun a b=>if b > a then b else a) n:=by
      obtain ⟨h1,h2,U⟩:=Q3g ns n;have g1:ns.foldl (fun a b=>if b > a then b else a) n<=m:=by
       rcases h1 with e | e
       ·rw [e]; exact J _ O9
       ·exact J _ (O4 _ e)
      have g2:m<=ns.foldl (fun a b=>if b > a then b else a) n:=by
       rcases D8.mp B with rfl | B
       ·exact h2
       ·exact U m B
      omega
     subst em;exact now R h rfl
   ·exact h.elim
  ·exact h.elim⟩
theorem Qr5 (I:X.calm=true):CallS X E (.builtin "min") Q24:=⟨fun H ρ st ps xs Q R O h=>by
 unfold Q24 at h
 split at h
 ·obtain ⟨v,u,rfl,Y,r2⟩:=jz O;cases Y; cases r2;exact WC.of (Qc5 I) ⟨_,_,rfl,now R h rfl⟩
 ·unfold Zj at h
  split at h
  ·obtain ⟨v,rfl,r⟩:=Ze O
   split at h
   ·rename_i ns e;cases ns with
    | nil=>exact h.elim
    | cons n ns=>
     obtain ⟨t,a,rfl,Z⟩:=Q1q (K:=X.K) R r e;refine WC.of (Qc4 t I) ⟨a,_,rfl,Z,by simp,fun m B J=>?_⟩;have em:m=ns.foldl (fun a b=>if b < a then b else a) n:=by
      obtain ⟨h1,h2,U⟩:=Q3f ns n;have g1:m<=ns.foldl (fun a b=>if b < a then b else a) n:=by
       rcases h1 with e | e
       ·rw [e]; exact J _ O9
       ·exact J _ (O4 _ e)
      have g2:ns.foldl (fun a b=>if b < a then b else a) n<=m:=by
       rcases D8.mp B with rfl | B
       ·exact h2
       ·exact U m B
      omega
     subst em;exact now R h rfl
   ·exact h.elim
  ·exact h.elim⟩
def K6:CF:=fun st ps=>match ps with
 | [p]=>match Zu st p with
  | some xs=>.ok (.lst xs) st
  | none=>.stuck
 | _=>.stuck
def U5:CF:=fun st ps=>match ps with
 | [p]=>match Zu st p with
  | some xs=>.ok (.tup xs) st
  | none=>.stuck
 | _=>.stuck
theorem Qk9:CallS X E (.type "list") K6:=⟨fun H ρ st ps xs Q R I h=>by
 unfold K6 at h
 split at h
 ·obtain ⟨v,rfl,r⟩:=Ze I
  split at h
  ·rename_i ys e;obtain ⟨t,a,vs,rfl,J,B⟩:=K9 (K:=X.K) R r e;exact WC.of y0 ⟨a,vs,rfl,Q7i J,zh R h B⟩
  ·exact h.elim
 ·exact h.elim⟩
theorem Qgn:CallS X E (.type "tuple") U5:=⟨fun H ρ st ps xs Q R O h=>by
 unfold U5 at h
 split at h
 ·rename_i p;obtain ⟨v,rfl,r⟩:=Ze O
  split at h
  ·rename_i ys e;cases p with
   | tup zs=>
    cases e;obtain ⟨a,vs,rfl,B,J,I⟩:=r;exact WC.of qw ⟨a,vs,rfl,.inr ⟨SqT.of B,now R h ⟨a,vs,rfl,B,J,I⟩⟩⟩
   | _=>
    obtain ⟨a,vs,rfl,B,I⟩:=Jc R r e;exact WC.of qw ⟨a,vs,rfl,.inl ⟨.inl B,zg R h I⟩⟩
  ·exact h.elim
 ·exact h.elim⟩
def tyN:PV->String
 | .non => "NoneType"
 | .bl _ => "bool"
 | .int _ => "int"
 | .str _ => "str"
 | .tup _ => "tuple"
 | .lst _ => "list"
 | .fro _ => "list"
 | .ref _ => "list"
 | .dic => "dict"
def dpv (st:Q0):PV->PV
 | .ref i=>match st[i]? with
  | some (.dic _)=>.dic
  | some (.dtp _)=>.dic
  | _=>.ref i
 | p=>p
def isI (T:String) (p:PV):Bool:=tyN p == T || (T == "int" && tyN p == "bool")
def Xy (st:Q0):PV->Bool
 | .ref i=>match st[i]? with
  | some (.frd _)=>true
  | some (.frt _)=>true
  | some (.obj _ _)=>true
  | _=>false
 | _=>false
theorem Qs7 (B:Xy st p=false) (R:Rel H ρ st) (r:Rep H ρ p v):TyOf K H v (.type (tyN (dpv st p))):=by
 cases p with
 | non=>cases r; exact .non
 | bl b=>cases r; exact .bl b
 | int i=>cases r; exact .int i
 | str x=>cases r; exact .str x
 | tup ps=>obtain ⟨a,vs,rfl,h,_⟩:=r; exact .tup h
 | lst ps=>obtain ⟨a,vs,rfl,h,_⟩:=r; exact .lst h
 | fro ps=>
  obtain ⟨a,vs,rfl,h,_⟩:=r;rcases h with h | ⟨o,h⟩
  ·exact .lst h
  ·exact .frz h
 | ref i=>
  obtain ⟨a,e,rfl⟩:=r;have J:i < st.length:=by rw [<- R.len]; exact (O0.mp e).1
  have hs:=O2 J;have q:=R.cell i a st[i] e hs;cases I:st[i] with
  | lst xs=>rw [I] at q hs; simp only [dpv,hs]; obtain ⟨vs,h,_⟩:=q; exact .lst h
  | dic xs=>rw [I] at q hs; simp only [dpv,hs]; obtain ⟨vs,h,_⟩:=q; exact .dK h
  | dtp xs=>rw [I] at q hs; simp only [dpv,hs]; obtain ⟨vs,h,_⟩:=q; exact .dT h
  | frd xs=>rw [I] at hs; simp only [Xy,hs] at B; cases B
  | frt xs=>rw [I] at hs; simp only [Xy,hs] at B; cases B
  | obj C xs=>rw [I] at hs; simp only [Xy,hs] at B; cases B
 | dic=>obtain ⟨a,rfl,h,_⟩:=r; exact .dK h
def Q1m:List String:=["int", "bool", "str", "tuple", "list", "dict"]
theorem Qqf (K:PySem.W.Frag) (B:T∈Q1m) (p:PV):PySem.W.kitOne K (.type (tyN p)) (.type T)=some (isI T p):=by
 have B:T = "int" \/ T = "bool" \/ T = "str" \/ T = "tuple" \/ T = "list" \/ T = "dict" := by simpa [Q1m] using B
 rcases B with rfl | rfl | rfl | rfl | rfl | rfl <;> cases p <;> first | rfl | kernel_rfl
def ym (T:String) (m:ME):ME:=fun Γ st=>(m Γ st).bind fun p st1=>if Xy st1 p=true then .stuck else .ok (.bl (isI T (dpv st1 p))) st1
theorem Qne {tx:Str} {p tp:Pos} (hT:T∈Q1m) (ha:SimE X E a ma) (hg:Gl X "isinstance") (hm:X.mg "isinstance" = none) (J:Gl X tx) (O:X.mg tx=none) (I:aW tx=some (.type T))
  (hn:tx≠"__name__" := by decide) (hd:(tx == ("__debug__" : Str))=false:=by decide)
  (he:aN [a,.Name tx tp] X.env=(false,aL a X.env) :: aN [.Name tx tp] X.env:=by rfl) (U:aN [.Name tx tp] X.env=(false,aL (.Name tx tp) X.env) :: aN [] X.env:=by rfl) (Z:(aX pos (aN [.Name tx tp] X.env)).any (·.1)=false:=by rfl) :
  SimE X E (.Call (.Name "isinstance" p) [a,.Name tx tp] [] pos) (ym T ma):=
 ⟨fun Γ σ H ρ st Q R G h=>WE.of (Q61 Q75 hg hm Q02 (zc Ja (zc (Qj6 J O I (v:=.ty T) rfl hn hd) Q4c U) he) (by decide) (by decide) he Z)
  (ha.use R G h.bind fun q B H1 ρ1 v x1 R1 G1 r1 h1=>by
   by_cases Y:Xy B q=true
   ·rw [bN Y] at h1; exact h1.elim
   ·rw [bO Y] at h1;exact ⟨v,.ty T,.type T,_,_,rfl,rfl,Qs7 (by simpa using Y) R1 r1,Qqf X.K hT (dpv B q),now R1 h1 rfl⟩)⟩
end
abbrev GA:=PV->Gam->Option Gam
abbrev GAs:=List PV->Gam->Option Gam
variable {gs:GAs}
structure SimG (X:Cx) (tg:aH) (ga:GA):Prop where
 run:∀ (Γ Γ':Gam) (σ:St) (H:Hp) (ρ:Tk) (p:PV) (v:V) (Q:St->Hp->Prop),EnvR H ρ Γ σ->Rep H ρ p v->ga p Γ=some Γ'->(∀ σ',EnvR H ρ Γ' σ'->Q σ' H)->∃ t,PG X tg t/\t v σ H Q
structure SimGs (X:Cx) (tgs:List aH) (n:Nat) (ga:GAs):Prop where
 run:∀ (Γ Γ':Gam) (σ:St) (H:Hp) (ρ:Tk) (ps:List PV) (vs:List V) (Q:St->Hp->Prop),EnvR H ρ Γ σ->RepL H ρ ps vs->ga ps Γ=some Γ'->(∀ σ',EnvR H ρ Γ' σ'->Q σ' H)->∃ t,PGs X tgs t/\t vs σ H Q
 len:∀ ps Γ Γ',ga ps Γ=some Γ'->ps.length=n
def Q4 (i:Nat):GA:=fun p Γ=>some (Γ.set i (some p))
def Qw:GAs:=fun ps Γ=>match ps with
 | []=>some Γ
 | _=>none
def Q5 (g:GA) (gs:GAs):GAs:=fun ps Γ=>match ps with
 | p :: r=>(g p Γ).bind (gs r)
 | []=>none
def Qv (gs:GAs):GA:=fun p Γ=>match p with
 | .tup ps=>gs ps Γ
 | _=>none
section
variable {pos:Pos}
theorem q9 {i:Nat} (I:X.N.Nodup) (hi:X.N[i]?=some x:=by rfl) (J:Loc X.env.scope x:=by first | exact Or.inl rfl | exact Or.inr rfl) (O:X.fn x=true\/X.env.scope.names.lookup x=some .local:=by first | exact .inl rfl | exact .inr rfl):SimG X (.Name x pos) (Q4 i):=
 ⟨fun Γ B σ H ρ p v Q G r e k=>⟨_,Qj2 I hi J O,by cases e; exact k _ (G.set r i)⟩⟩
theorem Qi4:SimGs X [] 0 Qw:=⟨fun Γ B σ H ρ ps vs Q G r e k=>⟨_,Qj0,by
 cases ps with
 | nil=>cases e; cases r; exact ⟨rfl,k σ G⟩
 | cons _ _=>cases e⟩,fun ps Γ B e=>by
 cases ps with
 | nil=>rfl
 | cons _ _=>cases e⟩
def WGx (X:Cx) (tg:aH):TG:=fun v σ H Q=>∃ t,PG X tg t/\t v σ H Q
theorem Qj1 {tg:aH}:PG X tg (WGx X tg):=fun pins s σ H v u Q I r ⟨t,h,q⟩=>h pins s σ H v u Q I r q
def Qxe (X:Cx) (tgs:List aH):TGs:=fun v σ H Q=>∃ t,PGs X tgs t/\t v σ H Q
theorem Qkw {B:List aH}:PGs X B (Qxe X B):=fun pins s σ H v u Q I r ⟨t,h,q⟩=>h pins s σ H v u Q I r q
theorem Qdd {g:GA} (h1:SimG X e g) (h2:SimGs X es n gs) (hs:(ar (e :: es) X.env).map (·.2)=assign e X.env :: (ar es X.env).map (·.2):=by rfl):SimGs X (e :: es) (n + 1) (Q5 g gs):=
 ⟨fun Γ B σ H ρ ps vs Q G r eq k=>⟨_,Qee Qj1 Qkw hs,by
  cases ps with
  | nil=>cases eq
  | cons p ps=>
   obtain ⟨v,t,rfl,U,Y⟩:=r;have eq:(g p Γ).bind (gs ps)=some B:=eq;cases I:g p Γ with
   | none=>rw [I] at eq; cases eq
   | some Γ1=>
    rw [I] at eq;exact ⟨v,t,rfl,h1.run Γ Γ1 σ H ρ p v _ G U I fun J O=>h2.run Γ1 B J H ρ ps t _ O Y eq k⟩⟩,fun ps Γ B e=>by
  cases ps with
  | nil=>cases e
  | cons p ps=>
   have e:(g p Γ).bind (gs ps)=some B:=e;cases I:g p Γ with
   | none=>rw [I] at e; cases e
   | some Γ1=>rw [I] at e; rw [E4,h2.len ps Γ1 B e]⟩
theorem Qn5 (Y:X.calm=true) (h:SimGs X es n gs) (U:(ar es X.env).length=n:=by rfl) (I:(ar es X.env).findIdx? (·.1)=none:=by rfl):SimG X (.Tuple es k pos) (Qv gs):=
 ⟨fun Γ B σ H ρ p v Q G r e q=>⟨_,Qp4 Y Qkw U I,by
  cases p with
  | tup ps=>
   obtain ⟨a,vs,rfl,O,Z,J⟩:=r;exact ⟨a,vs,rfl,SqT.of O,by rw [<- J.length]; exact h.len ps Γ B e,h.run Γ B σ H ρ ps vs Q G J e q⟩
  | _=>cases e⟩⟩
end
abbrev Wt:=List (Nat × Cell)
def wOk (w:Wt) (st:Q0):Prop:=∀ x∈w,st[x.1]?=some x.2
theorem Jb (st:Q0):wOk [] st:=fun x h=>by cases h
structure Src (J:It) (items:List PV) (w:Wt) (H:Hp) (ρ:Tk):Prop where
 stop:∀ H2 ρ2 st2,Ext H ρ H2 ρ2->Rel H2 ρ2 st2->wOk w st2->J.stop items.length H2
 go:∀ H2 ρ2 st2,Ext H ρ H2 ρ2->Rel H2 ρ2 st2->wOk w st2->∀ i,i < items.length->J.go i H2
 yld:∀ H2 ρ2 st2,Ext H ρ H2 ρ2->Rel H2 ρ2 st2->wOk w st2->∀ i p,items[i]?=some p->∀ x H3,J.yld i H2 x H3->Same H2 H3/\Rep H3 ρ2 p x
abbrev MI:=Gam->Q0->Res (List PV × Wt)
structure SimI (X:Cx) (E:XK) (tg iter:aH) (mi:MI):Prop where
 run:∀ (Γ:Gam) (σ:St) (H:Hp) (ρ:Tk) (st:Q0) (P:List PV × Wt->Q0->Hp->Tk->Prop) (R':It->Hp->Prop),Rel H ρ st->EnvR H ρ Γ σ->Acc X.mg E H ρ P (mi Γ st) ->
  (∀ iw st1 H1 ρ1 J,mi Γ st=.ok iw st1->Ext H ρ H1 ρ1->Rel H1 ρ1 st1->EnvR H1 ρ1 Γ σ->wOk iw.2 st1->iw.1.length<=sizeLine->Src J iw.1 iw.2 H1 ρ1->P iw st1 H1 ρ1->R' J H1)->WI X tg iter σ H R'
def Zc (st:Q0):PV->Option (List PV × Wt)
 | .tup xs=>some (xs,[])
 | .lst xs=>some (xs,[])
 | .fro xs=>some (xs,[])
 | .ref i=>match st[i]? with
  | some (.lst xs)=>some (xs,[(i,.lst xs)])
  | _=>none
 | _=>none
theorem Q0u {K:PySem.W.Frag} {w:Wt} (R:Rel H ρ st) (r:Rep H ρ p v) (e:Zc st p=some (xs,w)) :
  wOk w st/\∃ (t:Bool) (a:aB),v=.ref a/\(t=true->∃ ys,p=.tup ys)/\(t=false->∀ ys,p≠.tup ys)/\∀ H2 B I,Ext H ρ H2 B->Rel H2 B I->wOk w I->∃ vs,SqK K t H2 a vs/\RepL H2 B xs vs:=by
 cases p with
 | tup ys=>
  obtain ⟨a,vs,rfl,J,O,U⟩:=r;cases e;exact ⟨Jb _,true,a,rfl,fun _=>⟨_,rfl⟩,(fun z=>by cases z),fun H2 B I x R2 _=>⟨vs,show SqT K H2 a vs from SqT.of (x.kp J O),U.ext x⟩⟩
 | lst ys=>
  obtain ⟨a,vs,rfl,J,O,U⟩:=r;cases e;exact ⟨Jb _,false,a,rfl,(fun z=>by cases z),(fun _ _ z=>by cases z),fun H2 B I x R2 _=>⟨vs,show SqL K H2 a vs from SqL.of (x.kp J O),U.ext x⟩⟩
 | fro ys=>
  obtain ⟨a,vs,rfl,J,O,U⟩:=r;cases e;refine ⟨Jb _,false,a,rfl,(fun z=>by cases z),(fun _ _ z=>by cases z),fun H2 B I x R2 _=>⟨vs,show SqL K H2 a vs from ?_,U.ext x⟩⟩
  rcases J with J | ⟨o,J⟩
  ·exact .inl (.inl (x.kp J O))
  ·exact .inl (.inr ⟨o,x.kp J O⟩)
 | ref i=>
  obtain ⟨a,ea,rfl⟩:=r;simp only [Zc] at e
  split at e
  ·rename_i ys hs;cases e;refine ⟨fun x hx=>?_,false,a,rfl,(fun z=>by cases z),(fun _ _ z=>by cases z),fun H2 B I x R2 ok=>?_⟩
   ·have:x=(i,.lst xs):=by simpa using hx
    subst this; exact hs
   ·have Y:=ok (i,.lst xs) (by simp);obtain ⟨b,vs,Z,f2,f3⟩:=R2.lst Y;obtain ⟨t,et⟩:=x.pre;rw [<- et,O6 (O0.mp ea).1,ea] at Z;cases Z;exact ⟨vs,show SqL K H2 a vs from SqL.of f2,f3⟩
  ·cases e
 | _=>cases e
section
variable {X:Cx} {E:XK} {pos:Pos} {tg:aH} {e:aH} {m:ME}
def V7 (m:ME):MI:=fun Γ st=>(m Γ st).bind fun p st1=>match Zc st1 p with
 | some (xs,w)=>if xs.length<=lim then .ok (xs,w) st1 else .stuck
 | none=>.stuck
theorem RepL.i {H:Hp} {ρ:Tk} {ps:List PV} {vs:List V} {i:Nat} {p:PV} {x:V} (r:RepL H ρ ps vs) (h:ps[i]?=some p) (h':vs[i]?=some x):Rep H ρ p x:=by
 obtain ⟨v,e,q⟩:=r.get h;rw [h'] at e; cases e;exact q
theorem Q98 {t:Bool} {a:aB} {w:Wt} (h:∀ H2 B I,Ext H ρ H2 B->Rel H2 B I->wOk w I->∃ vs,SqK K t H2 a vs/\RepL H2 B xs vs):Src (if t=true then Itt K a else Itl K a) xs w H ρ:=by
 cases t with
 | true=>
  rw [bN rfl];refine ⟨fun H2 B I x R ok=>?_,fun H2 B I x R ok i hi=>?_,fun H2 B I x R ok i p U y Z Y=>?_⟩
  ·obtain ⟨vs,s,r⟩:=h H2 B I x R ok;exact ⟨vs,s,by rw [r.length]; exact O8 _⟩
  ·obtain ⟨vs,s,r⟩:=h H2 B I x R ok;have J:i < vs.length:=by rw [<- r.length]; exact hi
   exact ⟨vs,vs[i],s,O2 J⟩
  ·obtain ⟨vs,s,r⟩:=h H2 B I x R ok;obtain ⟨rfl,O⟩:=Y;exact ⟨Same.refl _,r.i U (O vs s)⟩
 | false=>
  rw [bO E9];refine ⟨fun H2 B I x R ok=>?_,fun H2 B I x R ok i hi=>?_,fun H2 B I x R ok i p U y Z Y=>?_⟩
  ·obtain ⟨vs,s,r⟩:=h H2 B I x R ok;exact ⟨vs,s,by rw [r.length]; exact O8 _⟩
  ·obtain ⟨vs,s,r⟩:=h H2 B I x R ok;have J:i < vs.length:=by rw [<- r.length]; exact hi
   exact ⟨vs,vs[i],s,O2 J⟩
  ·obtain ⟨vs,s,r⟩:=h H2 B I x R ok;obtain ⟨rfl,O⟩:=Y;exact ⟨Same.refl _,r.i U (O vs s)⟩
theorem Q9u {P:List PV × Wt->Q0->Hp->Tk->Prop} (R:Rel H ρ st) (h:Acc mg E H ρ P (match Zc st p with | some (xs,w)=>if xs.length<=lim then .ok (xs,w) st else .stuck | none=>.stuck)) :
  ∃ xs w,Zc st p=some (xs,w)/\xs.length<=lim/\P (xs,w) st H ρ:=by
 split at h
 ·rename_i xs w e
  split at h
  ·rename_i B;exact ⟨xs,w,e,B,h H ρ (Ext.refl _ _) R⟩
  ·exact h.elim
 ·exact h.elim
theorem Q0w (ha:SimE X E e m):SimI X E tg e (V7 m):=⟨fun Γ σ H ρ st P R' R G h k=>by
 have hb:Acc X.mg E H ρ _ (m Γ st):=Acc.bind h
 by_cases ht:∃ ys B,m Γ st=.ok (.tup ys) B
 ·obtain ⟨ys,a1,e0⟩:=ht;refine WI.of (Qp3 Ja) (ha.use' R G hb fun p B H1 ρ1 v eq x1 I U Y h1=>?_);obtain ⟨xs,w,e,O,Z⟩:=Q9u I h1;obtain ⟨ok,t,a,rfl,t1,t2,J⟩:=Q0u (K:=X.K) I Y e;have ep:p=.tup ys:=by rw [eq] at e0; injection e0
  cases t with
  | false=>exact absurd ep (t2 rfl ys)
  | true=>
   obtain ⟨vs,s,_⟩:=J H1 ρ1 B (Ext.refl _ _) I ok;exact ⟨a,rfl,⟨vs,s⟩,k (xs,w) B H1 ρ1 _ (by simp only [V7,eq,Res.bind,e,bN O]) x1 I U ok (Yr O) (Q98 J) Z⟩
 ·refine WI.of (Qiy Ja) (ha.use' R G hb fun p B H1 ρ1 v eq x1 I U Y h1=>?_);obtain ⟨xs,w,e,O,Z⟩:=Q9u I h1;obtain ⟨ok,t,a,rfl,t1,t2,J⟩:=Q0u (K:=X.K) I Y e;cases t with
  | true=>
   obtain ⟨ys,rfl⟩:=t1 rfl;exact absurd ⟨ys,B,eq⟩ ht
  | false=>
   obtain ⟨vs,s,_⟩:=J H1 ρ1 B (Ext.refl _ _) I ok;exact ⟨a,rfl,⟨vs,s⟩,k (xs,w) B H1 ρ1 _ (by simp only [V7,eq,Res.bind,e,bN O]) x1 I U ok (Yr O) (Q98 J) Z⟩⟩
def Jj (lo:Int) (n:Nat):List PV:=(List.range n).map fun (k:Nat)=>PV.int (lo + (k:Int))
theorem Q2y {lo:Int} :Src (Itr lo n) (Jj lo n) [] H ρ:=by
 have O:(Jj lo n).length=n:=by unfold Jj; rw [O1,F6]
 refine ⟨fun H2 B I x R ok=>?_,fun H2 B I x R ok i hi=>?_,fun H2 B I x R ok i p J y Y U=>?_⟩
 ·show n<=(Jj lo n).length;omega
 ·show i < n;omega
 ·obtain ⟨rfl,rfl⟩:=U;have hi:i < n:=by rw [<- O]; exact (O0.mp J).1
  unfold Jj at J;rw [F4,List.getElem?_range hi] at J;cases J;exact ⟨Same.refl _,rfl⟩
def Jq (mr:Gam->Q0->Res (List PV)):MI:=fun Γ st=>(mr Γ st).bind fun ps st1=>match ps with
 | [.int j]=>if -(lim:Int)<=j/\j<=lim then .ok (Jj 0 j.toNat,[]) st1 else .stuck
 | _=>.stuck
def zj (mr:Gam->Q0->Res (List PV)):MI:=fun Γ st=>(mr Γ st).bind fun ps st1=>match ps with
 | [.int i,.int j]=>if -(lim:Int)<=i/\i<=lim/\-(lim:Int)<=j/\j<=lim then .ok (Jj i (j - i).toNat,[]) st1 else .stuck
 | _=>.stuck
variable {a b:aH} {mr:Gam->Q0->Res (List PV)} {p:Pos}
theorem Q0z (lo:Int) (n:Nat):(Jj lo n).length=n:=by unfold Jj; rw [O1,F6]
theorem Qax (hg:Gl X "range") (Z:X.mg "range" = none) (U:SimA X E [a] mr) (hs:aN [a] X.env=[(false,aL a X.env)]:=by rfl):SimI X E tg (.Call (.Name "range" p) [a] [] pos) (Jq mr):=⟨fun Γ σ H ρ st P R' R G h k=>by
 refine WI.of (Qb9 hg Z xx hs) (U.use' R G h.bind fun ps B H1 ρ1 vs eq x1 I O r1 h1=>?_)
 split at h1
 ·rename_i j
  split at h1
  ·rename_i Y;obtain ⟨v,rfl,J⟩:=Ze r1;cases J;have hl:(lim:Int)=1000000:=rfl;refine ⟨j,rfl,by omega,by omega,k (Jj 0 j.toNat,[]) B H1 ρ1 _ (by simp only [Jq,eq,Res.bind,bN Y]) x1 I O (Jb _) ?_ Q2y (h1 H1 ρ1 (Ext.refl _ _) I)⟩;show (Jj 0 j.toNat).length<=sizeLine;rw [Q0z];exact Yr (by omega)
  ·exact h1.elim
 ·exact h1.elim⟩
theorem Qaw (hg:Gl X "range") (hm:X.mg "range" = none) (Y:SimA X E [a,b] mr) (hs:aN [a,b] X.env=[(false,aL a X.env),(false,aL b X.env)]:=by rfl) (B:aN [b] X.env=[(false,aL b X.env)]:=by rfl):SimI X E tg (.Call (.Name "range" p) [a,b] [] pos) (zj mr):=⟨fun Γ σ H ρ st P R' R G h k=>by
 refine WI.of (Qb8 hg hm xx hs B) (Y.use' R G h.bind fun ps I H1 ρ1 vs eq x1 J U r1 h1=>?_)
 split at h1
 ·rename_i i j
  split at h1
  ·rename_i Z;obtain ⟨v,u,rfl,O,ru⟩:=jz r1;cases O; cases ru;have hl:(lim:Int)=1000000:=rfl;refine ⟨i,j,rfl,⟨by omega,by omega,by omega,by omega⟩,k (Jj i (j - i).toNat,[]) I H1 ρ1 _ (by simp only [zj,eq,Res.bind,bN Z]) x1 J U (Jb _) ?_ Q2y (h1 H1 ρ1 (Ext.refl _ _) J)⟩;show (Jj i (j - i).toNat).length<=sizeLine;rw [Q0z];exact F9 (show (j - i).toNat<=2000000 by omega) (by decide)
  ·exact h1.elim
 ·exact h1.elim⟩
def Xf:List PV->List PV->List PV
 | x :: xs,y :: ys=>.tup [x,y] :: Xf xs ys
 | _,_=>[]
theorem jp (xs ys:List PV):Xf xs ys=(xs.zip ys).map fun z=>.tup [z.1,z.2]:=by
 induction xs generalizing ys with
 | nil=>rfl
 | cons x xs B=>
  cases ys with
  | nil=>rfl
  | cons y ys=>rw [Xf,B]; rfl
theorem Q0i (xs ys:List PV):(Xf xs ys).length=min xs.length ys.length:=by rw [jp,O1,List.length_zip]
theorem Qcm {ys:List PV} {i:Nat} {p:PV} (h:(Xf xs ys)[i]?=some p):∃ x y,p=.tup [x,y]/\xs[i]?=some x/\ys[i]?=some y:=by
 rw [jp,F4] at h;cases e:(xs.zip ys)[i]? with
 | none=>rw [e] at h; cases h
 | some z=>
  rw [e] at h; cases h;rw [List.getElem?_zip_eq_some] at e;exact ⟨z.1,z.2,rfl,e.1,e.2⟩
def yk (mr:Gam->Q0->Res (List PV)):MI:=fun Γ st=>(mr Γ st).bind fun ps st1=>match ps with
 | [p,q]=>match Zc st1 p,Zc st1 q with
  | some (xs,w),some (ys,w')=>if xs.length<=lim then .ok (Xf xs ys,w ++ w') st1 else .stuck
  | _,_=>.stuck
 | _=>.stuck
theorem Kz {w I:Wt} (h:wOk (w ++ I) st):wOk w st/\wOk I st:=⟨fun x B=>h x (M6 _ B),fun x B=>h x (G6 _ B)⟩
theorem Qhx {t1 t2:Bool} {a b:aB} {ys:List PV} {w U:Wt} (h:∀ H2 B I,Ext H ρ H2 B->Rel H2 B I->wOk w I->∃ vs,SqK K t1 H2 a vs/\RepL H2 B xs vs)
  (h':∀ H2 B I,Ext H ρ H2 B->Rel H2 B I->wOk U I->∃ vs,SqK K t2 H2 b vs/\RepL H2 B ys vs):Src (Itz K t1 t2 a b) (Xf xs ys) (w ++ U) H ρ:=by
 refine ⟨fun H2 B I x R ok=>?_,fun H2 B I x R ok i hi=>?_,fun H2 B I x R ok i p hp y H3 hy=>?_⟩
 ·obtain ⟨vs,s,r⟩:=h H2 B I x R (Kz ok).1;obtain ⟨us,s',J⟩:=h' H2 B I x R (Kz ok).2;refine ⟨vs,us,s,s',?_⟩;rw [Q0i,<- r.length,<- J.length];omega
 ·obtain ⟨vs,s,r⟩:=h H2 B I x R (Kz ok).1;obtain ⟨us,s',J⟩:=h' H2 B I x R (Kz ok).2;rw [Q0i,r.length,J.length] at hi;have h1:i < vs.length:=by omega
  have h2:i < us.length:=by omega
  exact ⟨vs,us,vs[i],us[i],s,s',O2 h1,O2 h2⟩
 ·obtain ⟨vs,s,r⟩:=h H2 B I x R (Kz ok).1;obtain ⟨us,s',J⟩:=h' H2 B I x R (Kz ok).2;obtain ⟨q,u,v,Y,rfl,rfl,Z⟩:=hy;obtain ⟨e1,e2⟩:=Z vs us s s';obtain ⟨xp,yp,rfl,p1,p2⟩:=Qcm hp;have O:Same H2 (upd H2 q (.tup [u,v])):=Q5q Y;exact ⟨O,q,[u,v],rfl,Qp,R.fresh Y,RepL.cons ((r.i p1 e1).ext (Ext.same O)) (RepL.cons ((J.i p2 e2).ext (Ext.same O)) RepL.nil)⟩
theorem Qn4 {elts:List aH} {kt:Nat} {tp:Pos} (hg:Gl X "zip") (hm:X.mg "zip" = none) (ha:SimA X E [a,b] mr) (hs:aN [a,b] X.env=[(false,aL a X.env),(false,aL b X.env)]:=by rfl) (a5:aN [b] X.env=[(false,aL b X.env)]:=by rfl) :
  SimI X E (.Tuple elts kt tp) (.Call (.Name "zip" p) [a,b] [] pos) (yk mr):=⟨fun Γ σ H ρ st P R' R G h k=>by
 have hb:Acc X.mg E H ρ _ (mr Γ st):=Acc.bind h;have I:∀ t1 t2:Bool,(∀ p q B,mr Γ st=.ok [p,q] B->(t1=true <-> ∃ ys,p=.tup ys)/\(t2=true <-> ∃ ys,q=.tup ys))->WI X (.Tuple elts kt tp) (.Call (.Name "zip" p) [a,b] [] pos) σ H R':=fun t1 t2 ht=>by
  refine WI.of (Qp2 t1 t2 hg hm xx hs a5) (ha.use' R G hb fun ps B H1 ρ1 vs eq x1 J G1 r1 h1=>?_)
  split at h1
  ·rename_i p' q'
   split at h1
   ·rename_i xs w ys w' e1 e2
    split at h1
    ·rename_i hl;obtain ⟨v,u,rfl,rv,ru⟩:=jz r1;obtain ⟨U,b1,a1,rfl,z1,a6,Z⟩:=Q0u (K:=X.K) J rv e1;obtain ⟨Y,b2,a2,rfl,z2,a8,O⟩:=Q0u (K:=X.K) J ru e2;obtain ⟨g1,g2⟩:=ht _ _ _ eq;have a3:b1=t1:=by
      cases b1 with
      | true=>exact (g1.mpr (z1 rfl)).symm
      | false=>
       cases t1 with
       | false=>rfl
       | true=>obtain ⟨ys,e⟩:=g1.mp rfl; exact absurd e (a6 rfl ys)
     have a9:b2=t2:=by
      cases b2 with
      | true=>exact (g2.mpr (z2 rfl)).symm
      | false=>
       cases t2 with
       | false=>rfl
       | true=>obtain ⟨ys,e⟩:=g2.mp rfl; exact absurd e (a8 rfl ys)
     subst a3; subst a9;obtain ⟨a4,s1,_⟩:=Z H1 ρ1 B (Ext.refl _ _) J U;obtain ⟨a7,s2,_⟩:=O H1 ρ1 B (Ext.refl _ _) J Y;refine ⟨a1,a2,a4,a7,rfl,s1,s2,k (Xf xs ys,w ++ w') B H1 ρ1 _ (by simp only [yk,eq,Res.bind,e1,e2,bN hl]) x1 J G1 (fun x hx=>?_) ?_ (Qhx Z O) (h1 H1 ρ1 (Ext.refl _ _) J)⟩
     ·rcases D4.mp hx with hx | hx
      ·exact U x hx
      ·exact Y x hx
     ·show (Xf xs ys).length<=sizeLine;rw [Q0i];exact Yr (F9 (Nat.min_le_left _ _) hl)
    ·exact h1.elim
   ·exact h1.elim
  ·exact h1.elim
 have tt:∀ p:PV,∃ t:Bool,t=true <-> ∃ ys,p=.tup ys:=fun p=>by
  cases p with
  | tup ys=>exact ⟨true,fun _=>⟨ys,rfl⟩,fun _=>rfl⟩
  | _=>exact ⟨false,⟨fun z=>(by cases z),fun ⟨_,z⟩=>(by cases z)⟩⟩
 by_cases hz:∃ p q B,mr Γ st=.ok [p,q] B
 ·obtain ⟨p0,q0,b0,e0⟩:=hz;obtain ⟨t1,g1⟩:=tt p0;obtain ⟨t2,g2⟩:=tt q0;refine I t1 t2 fun p q B e=>?_
  rw [e0] at e; cases e;exact ⟨g1,g2⟩
 ·exact I true true fun p q B e=>absurd ⟨p,q,B,e⟩ hz⟩
def W9:Nat->List PV->List PV
 | _,[]=>[]
 | n,x :: xs=>.tup [.int n,x] :: W9 (n + 1) xs
theorem Vq:∀ (n:Nat) (xs:List PV),(W9 n xs).length=xs.length
 | _,[]=>rfl
 | n,x :: xs=>by rw [W9,E4,Vq (n + 1) xs,E4]
theorem yy:∀ {n:Nat} {xs:List PV} {i:Nat} {p:PV},(W9 n xs)[i]?=some p->∃ x,p=.tup [.int (n + i:Nat),x]/\xs[i]?=some x
 | n,[],i,p,h=>by simp [W9] at h
 | n,x :: xs,0,p,h=>by
  simp [W9] at h;exact ⟨x,h.symm,rfl⟩
 | n,x :: xs,i + 1,p,h=>by
  rw [W9,List.getElem?_cons_succ] at h;obtain ⟨y,I,B⟩:=yy h;exact ⟨y,by rw [I,show n + 1 + i=n + (i + 1) by omega],by simpa using B⟩
def qu (mr:Gam->Q0->Res (List PV)):MI:=fun Γ st=>(mr Γ st).bind fun ps st1=>match ps with
 | [p]=>match Zc st1 p with
  | some (xs,w)=>if xs.length<=lim then .ok (W9 0 xs,w) st1 else .stuck
  | none=>.stuck
 | _=>.stuck
theorem Qdb {t:Bool} {a:aB} {w:Wt} (h:∀ H2 B I,Ext H ρ H2 B->Rel H2 B I->wOk w I->∃ vs,SqK K t H2 a vs/\RepL H2 B xs vs):Src (Ite K t a) (W9 0 xs) w H ρ:=by
 refine ⟨fun H2 B I x R ok=>?_,fun H2 B I x R ok i hi=>?_,fun H2 B I x R ok i p Y y H3 hy=>?_⟩
 ·obtain ⟨vs,s,r⟩:=h H2 B I x R ok;exact ⟨vs,s,by rw [Vq,r.length]; exact O8 _⟩
 ·obtain ⟨vs,s,r⟩:=h H2 B I x R ok;rw [Vq,r.length] at hi;exact ⟨vs,vs[i],s,O2 hi⟩
 ·obtain ⟨vs,s,r⟩:=h H2 B I x R ok;obtain ⟨q,u,O,rfl,rfl,U⟩:=hy;have Z:=U vs s;obtain ⟨xp,rfl,p1⟩:=yy Y;have J:Same H2 (upd H2 q (.tup [.int i,u])):=Q5q O;exact ⟨J,q,[.int i,u],rfl,Qp,R.fresh O,RepL.cons (by rw [Nat.zero_add]; rfl) (RepL.cons ((r.i p1 Z).ext (Ext.same J)) RepL.nil)⟩
theorem Qi3 {elts:List aH} {kt:Nat} {tp:Pos} (hg:Gl X "enumerate") (hm:X.mg "enumerate" = none) (ha:SimA X E [a] mr) (hs:aN [a] X.env=[(false,aL a X.env)]:=by rfl) :
  SimI X E (.Tuple elts kt tp) (.Call (.Name "enumerate" p) [a] [] pos) (qu mr):=⟨fun Γ σ H ρ st P R' R G h k=>by
 have hb:Acc X.mg E H ρ _ (mr Γ st):=Acc.bind h;have I:∀ t1:Bool,(∀ p B,mr Γ st=.ok [p] B->(t1=true <-> ∃ ys,p=.tup ys))->WI X (.Tuple elts kt tp) (.Call (.Name "enumerate" p) [a] [] pos) σ H R':=fun t1 ht=>by
  refine WI.of (Qiz t1 hg hm xx hs) (ha.use' R G hb fun ps B H1 ρ1 vs eq x1 Y G1 r1 h1=>?_)
  split at h1
  ·rename_i p'
   split at h1
   ·rename_i xs w e1
    split at h1
    ·rename_i hl;obtain ⟨v,rfl,rv⟩:=Ze r1;obtain ⟨J,b1,a1,rfl,z1,a3,O⟩:=Q0u (K:=X.K) Y rv e1;have U:=ht _ _ eq;have Z:b1=t1:=by
      cases b1 with
      | true=>exact (U.mpr (z1 rfl)).symm
      | false=>
       cases t1 with
       | false=>rfl
       | true=>obtain ⟨ys,e⟩:=U.mp rfl; exact absurd e (a3 rfl ys)
     subst Z;obtain ⟨a2,s1,_⟩:=O H1 ρ1 B (Ext.refl _ _) Y J;refine ⟨a1,a2,rfl,s1,k (W9 0 xs,w) B H1 ρ1 _ (by simp only [qu,eq,Res.bind,e1,bN hl]) x1 Y G1 J ?_ (Qdb O) (h1 H1 ρ1 (Ext.refl _ _) Y)⟩;show (W9 0 xs).length<=sizeLine;rw [Vq];exact Yr hl
    ·exact h1.elim
   ·exact h1.elim
  ·exact h1.elim
 have tt:∀ p:PV,∃ t:Bool,t=true <-> ∃ ys,p=.tup ys:=fun p=>by
  cases p with
  | tup ys=>exact ⟨true,fun _=>⟨ys,rfl⟩,fun _=>rfl⟩
  | _=>exact ⟨false,⟨fun z=>(by cases z),fun ⟨_,z⟩=>(by cases z)⟩⟩
 by_cases hz:∃ p B,mr Γ st=.ok [p] B
 ·obtain ⟨p0,a4,e0⟩:=hz;obtain ⟨t1,U⟩:=tt p0;refine I t1 fun p B e=>?_
  rw [e0] at e; cases e;exact U
 ·exact I true fun p B e=>absurd ⟨p,B,e⟩ hz⟩
end
section
abbrev ML:=Gam->Q0->Res (List PV)
structure SimN (X:Cx) (E:XK) (e:aH) (m:ML):Prop where
 run:∀ (Γ:Gam) (σ:St) (H:Hp) (ρ:Tk) (st:Q0) (P:List PV->Q0->Hp->Tk->Prop) (Q:VK),Rel H ρ st->EnvR H ρ Γ σ->Acc X.mg E H ρ P (m Γ st) ->
  (∀ ps st1 H1 ρ1 a vs,m Γ st=.ok ps st1->Ext H ρ H1 ρ1->Rel H1 ρ1 st1->a∈ρ1.hid->H a=none->H1 a=some (.lst vs)->RepL H1 ρ1 ps vs->Q (.ref a) H1)->WE X e σ H Q
def Wv (m:ML):ME:=fun Γ st=>(m Γ st).bind fun ps st1=>.ok (.lst ps) st1
def V5 (m:ML):ME:=fun Γ st=>(m Γ st).bind fun ps st1=>.ok (.ref st1.length) (st1 ++ [.lst ps])
section
variable {H0 H:Hp} {ρ0 ρ:Tk} {st:Q0} {a:aB} {ps:List PV} {vs:List V}
theorem Q9n (I:Rel H0 ρ0 st) (x:Ext H0 ρ0 H ρ) {B:Q0} (R:Rel H ρ B) (O:a∈ρ.hid) (U:H0 a=none) (J:H a=some (.lst vs)) (r:RepL H ρ ps vs) :
  Ext H0 ρ0 H ⟨ρ.tr,ρ0.hid⟩/\Rel H ⟨ρ.tr,ρ0.hid⟩ B/\Rep H ⟨ρ.tr,ρ0.hid⟩ (.lst ps) (.ref a):=
 ⟨x.unhide,R.unhide x.hidM,a,vs,rfl,J,(fun z=>by
  rcases z with z | z
  ·exact R.ap a O z
  ·obtain ⟨o,e,_⟩:=I.hd a z;rw [U] at e; cases e),r.unhide x.hidM⟩
mutual
theorem Rep.trk {b:aB} {hs:List aB} (B:b∈ρ.hid) (I:∀ c,c∈hs->c∈ρ.hid):∀ {p:PV} {v:V},Rep H ρ p v->Rep H ⟨ρ.tr ++ [b],hs⟩ p v
 | .non,_,r=>r
 | .bl _,_,r=>r
 | .int _,_,r=>r
 | .str _,_,r=>r
 | .tup ps,v,⟨c,vs,e,s,n,r⟩=>⟨c,vs,e,s,fun z=>by
   rcases z with z | z
   ·rcases D4.mp z with z | z
    ·exact n (.inl z)
    ·have:c=b:=by simpa using z
     subst this; exact n (.inr B)
   ·exact n (.inr (I _ z)),RepL.trk B I r⟩
 | .lst ps,v,⟨c,vs,e,s,n,r⟩=>⟨c,vs,e,s,fun z=>by
   rcases z with z | z
   ·rcases D4.mp z with z | z
    ·exact n (.inl z)
    ·have:c=b:=by simpa using z
     subst this; exact n (.inr B)
   ·exact n (.inr (I _ z)),RepL.trk B I r⟩
 | .fro ps,v,⟨c,vs,e,s,n,r⟩=>⟨c,vs,e,s,fun z=>by
   rcases z with z | z
   ·rcases D4.mp z with z | z
    ·exact n (.inl z)
    ·have:c=b:=by simpa using z
     subst this; exact n (.inr B)
   ·exact n (.inr (I _ z)),RepL.trk B I r⟩
 | .ref i,v,⟨c,e,J⟩=>⟨c,by show (ρ.tr ++ [b])[i]?=some c; rw [O6 (O0.mp e).1]; exact e,J⟩
 | .dic,v,⟨c,e,s,n⟩=>⟨c,e,s,fun z=>by
   rcases z with z | z
   ·rcases D4.mp z with z | z
    ·exact n (.inl z)
    ·have:c=b:=by simpa using z
     subst this; exact n (.inr B)
   ·exact n (.inr (I _ z))⟩
theorem RepL.trk {b:aB} {hs:List aB} (B:b∈ρ.hid) (I:∀ c,c∈hs->c∈ρ.hid):∀ {ps:List PV} {vs:List V},RepL H ρ ps vs->RepL H ⟨ρ.tr ++ [b],hs⟩ ps vs
 | [],_,r=>r
 | p :: ps,_,⟨v,t,e,J,O⟩=>⟨v,t,e,Rep.trk B I J,RepL.trk B I O⟩
end
theorem Q9p (R0:Rel H0 ρ0 st) (x:Ext H0 ρ0 H ρ) {I:Q0} (R:Rel H ρ I) (O:a∈ρ.hid) (hn:H0 a=none) (ha:H a=some (.lst vs)) (r:RepL H ρ ps vs) :
  Ext H0 ρ0 H ⟨ρ.tr ++ [a],ρ0.hid⟩/\Rel H ⟨ρ.tr ++ [a],ρ0.hid⟩ (I ++ [.lst ps])/\Rep H ⟨ρ.tr ++ [a],ρ0.hid⟩ (.ref I.length) (.ref a):=by
 have Z:a∉ρ0.hid:=fun z=>by
  obtain ⟨o,e,_⟩:=R0.hd a z;rw [hn] at e; cases e
 refine ⟨⟨x.pre.trans (List.prefix_append _ _),fun _ h=>h,fun _ h=>.inl h,x.keep,fun b U=>?_,x.old,x.frz⟩,⟨?_,?_,fun b U=>R.hd b (x.hidM b U),fun b U z=>?_,fun i b c h1 h2=>?_⟩,a,?_,rfl⟩
 ·rcases D4.mp U with z | z
  ·exact x.new b z
  ·have:b=a:=by simpa using z
   subst this; exact .inr hn
 ·show (ρ.tr ++ [a]).length=_;rw [O7,O7,R.len]; rfl
 ·show (ρ.tr ++ [a]).Nodup;refine List.nodup_append.mpr ⟨R.nd,by simp,fun b U c hc e=>?_⟩;have:c=a:=by simpa using hc
  subst this; subst e;exact R.ap b O U
 ·rcases D4.mp z with z | z
  ·exact R.ap b (x.hidM b U) z
  ·have:b=a:=by simpa using z
   subst this; exact Z U
 ·have h1:(ρ.tr ++ [a])[i]?=some b:=h1
  by_cases hi:i < I.length
  ·rw [O6 (by rw [R.len]; exact hi)] at h1;rw [O6 hi] at h2;have q:=R.cell i b c h1 h2;cases c with
   | lst Y=>
    obtain ⟨us,J,B⟩:=q;exact ⟨us,J,B.trk O x.hidM⟩
   | dic Y=>
    obtain ⟨us,J,B⟩:=q;exact ⟨us,J,B.1,B.2.trk O x.hidM⟩
   | dtp Y=>
    obtain ⟨us,J,B⟩:=q;exact ⟨us,J,B.1,B.2.trk O x.hidM⟩
   | frd Y=>
    obtain ⟨us,J,B⟩:=q;exact ⟨us,J,B.1,B.2.trk O x.hidM⟩
   | frt Y=>
    obtain ⟨us,J,B⟩:=q;exact ⟨us,J,B.1,B.2.trk O x.hidM⟩
   | obj C Y=>
    obtain ⟨us,J,B⟩:=q;exact ⟨us,J,B.1,B.2.trk O x.hidM⟩
  ·rw [D5 (by rw [R.len]; omega)] at h1;rw [D5 (by omega)] at h2;have e0:i - I.length=0:=by
    rcases Nat.eq_zero_or_pos (i - I.length) with z | z
    ·exact z
    ·rw [G8 (by simp; omega)] at h2; cases h2
   rw [R.len,e0] at h1;rw [e0] at h2;simp at h1 h2;subst h1; subst h2;exact ⟨vs,ha,r.trk O x.hidM⟩
 ·show (ρ.tr ++ [a])[I.length]?=some a;rw [<- R.len,D5 (O8 _),L0]; rfl
end
section
variable {X:Cx} {E:XK} {pos:Pos} {e:aH} {m:ML}
theorem Qdg (h:SimN X E e m):SimE X E e (Wv m):=⟨fun Γ σ H ρ st Q R G B=>h.run Γ σ H ρ st _ Q R G B.bind fun ps U H1 ρ1 a vs eq x I O Z J r=>by
 obtain ⟨Y,R2,r2⟩:=Q9n R x I O Z J r;unfold Wv at B;rw [eq] at B;exact B _ _ Y R2 _ r2⟩
theorem Q7m (h:SimN X E e m):SimE X E e (V5 m):=⟨fun Γ σ H ρ st Q R G B=>h.run Γ σ H ρ st _ Q R G B.bind fun ps U H1 ρ1 a vs eq x I O Z J r=>by
 obtain ⟨Y,R2,r2⟩:=Q9p R x I O Z J r;unfold V5 at B;rw [eq] at B;exact B _ _ Y R2 _ r2⟩
variable {es:List aH} {mr:Gam->Q0->Res (List PV)} {a b:aH} {ma mb:ME}
theorem Qf0 {ρ1:Tk} {B:Q0} {Q:VK} (x:Ext H ρ H1 ρ1) (O:Rel H1 ρ1 B) (r:RepL H1 ρ1 ps vs)
  (k:∀ H1 ρ1 a vs,Ext H ρ H1 ρ1->Rel H1 ρ1 B->a∈ρ1.hid->H a=none->H1 a=some (.lst vs)->RepL H1 ρ1 ps vs->Q (.ref a) H1):∀ p,H1 p=none->Q (.ref p) (upd H1 p (.lst vs)):=fun p I=>by
 refine k _ (ρ1.hide p) p vs (x.trans (Ext.hide I)) (O.hide I) O9 ?_ Qp (r.hide I);cases e:H p with
 | none=>rfl
 | some o=>
  obtain ⟨o',J⟩:=x.old p o e;rw [I] at J; cases J
def Uc (mr:Gam->Q0->Res (List PV)):ML:=fun Γ st=>(mr Γ st).bind fun ps st1=>if ps.length<=lim then .ok ps st1 else .stuck
theorem Qn3 (h:SimA X E es mr):SimN X E (.List es pos) (Uc mr):=
 ⟨fun Γ σ H ρ st P Q R G Y k=>WE.of (Qej xx) (h.use' R G Y.bind fun ps J H1 ρ1 vs eq x1 U Z O h1=>by
  by_cases I:ps.length<=lim
  ·refine ⟨by rw [<- O.length]; exact Yr I,Qf0 x1 U O fun H2 B a us=>k ps J H2 B a us ?_⟩;unfold Uc;rw [eq];exact bN I
  ·rw [bO I] at h1; exact h1.elim)⟩
def Km (ma:ME):ML:=fun Γ st=>(ma Γ st).bind fun p st1=>match Zu st1 p with
 | some xs=>.ok xs st1
 | none=>.stuck
theorem Qi1 {p:Pos} (Z:SimE X E a ma) (hg:Gl X "list") (hm:X.mg "list" = none) (U:aN [a] X.env=(false,aL a X.env) :: aN [] X.env:=by rfl):SimN X E (.Call (.Name "list" p) [a] [] pos) (Km ma):=
 ⟨fun Γ σ H ρ st P Q R G hq k=>WE.of (Q34 y0 hg hm Q3m (zc Ja Q4c U) (by decide) (by decide) U rfl) (Z.use' R G hq.bind fun q B H1 ρ1 v eq x1 O G1 r1 h1=>by
  split at h1
  ·rename_i xs e;obtain ⟨t,b,vs,rfl,J,Y⟩:=K9 (K:=X.K) O r1 e;refine ⟨b,vs,rfl,Q7i J,Qf0 x1 O Y fun H2 I a us=>k xs B H2 I a us ?_⟩;unfold Km;rw [eq];show (match Zu B q with | some xs=>Res.ok xs B | none=>.stuck)=_;rw [e]
  ·exact h1.elim)⟩
end
end
def Z7 (cap:List (Option Nat)) (Γ:Gam):Gam:=cap.map fun c=>c.bind fun j=>(Γ[j]?).join
theorem EnvR.cap {H:Hp} {ρ:Tk} {Γ:Gam} {σ:St} (h:EnvR H ρ Γ σ) (cap:List (Option Nat)):EnvR H ρ (Z7 cap Γ) (zz cap σ):=by
 refine ⟨by unfold Z7 zz; rw [O1,O1],fun i p e=>?_⟩;unfold Z7 at e;unfold zz;rw [F4] at e ⊢;cases q:cap[i]? with
 | none=>rw [q] at e; cases e
 | some c=>
  rw [q] at e;cases c with
  | none=>cases e
  | some j=>
   have B:(Γ[j]?).join=some p:=Option.some.inj e;cases r:Γ[j]? with
   | none=>rw [r] at B; cases B
   | some o=>
    rw [r] at B;have:o=some p:=B;subst this;obtain ⟨v,J,I⟩:=h.2 j p r;exact ⟨v,by show some ((σ[j]?).join)=some (some v); rw [J]; rfl,I⟩
def qy (cap:List (Option Nat)) (ga:GA):Prop:=∀ Γ p Γ1,ga p (Z7 cap Γ)=some Γ1->Γ1.length=(Z7 cap Γ).length/\∀ (i:Nat) (q:PV),(Z7 cap Γ)[i]?=some (some q)->Γ1[i]?=some (some q)
theorem Q3k {cap:List (Option Nat)} {i:Nat} (h:cap[i]?=some none) (Γ:Gam):(Z7 cap Γ)[i]?=some none:=by
 unfold Z7;rw [F4,h]; rfl
theorem Vn {cap:List (Option Nat)} {i:Nat} (h:cap[i]?=some none:=by rfl):qy cap (Q4 i):=fun Γ p Γ1 e=>by
 cases e;refine ⟨L6 ..,fun j q B=>?_⟩;rw [E5 fun z=>?_]
 ·exact B
 ·subst z; rw [Q3k h] at B; cases B
def Qaj (cap:List (Option Nat)) (ga:GAs):Prop:=∀ Γ ps Γ0 Γ1,(∀ (i:Nat) (q:PV),(Z7 cap Γ)[i]?=some (some q)->Γ0[i]?=some (some q))->ga ps Γ0=some Γ1->Γ1.length=Γ0.length/\∀ (i:Nat) (q:PV),(Z7 cap Γ)[i]?=some (some q)->Γ1[i]?=some (some q)
theorem Qga {cap:List (Option Nat)}:Qaj cap Qw:=fun Γ ps Γ0 Γ1 h e=>by
 cases ps with
 | nil=>cases e; exact ⟨rfl,h⟩
 | cons _ _=>cases e
theorem Qby {cap:List (Option Nat)} {i:Nat} (hs:Qaj cap gs) (h:cap[i]?=some none:=by rfl):Qaj cap (Q5 (Q4 i) gs):=fun Γ ps Γ0 Γ1 I e=>by
 cases ps with
 | nil=>cases e
 | cons p ps=>
  obtain ⟨a,b⟩:=hs Γ ps (Γ0.set i (some p)) Γ1 (fun k r B=>by
   rw [E5 fun z=>?_]
   ·exact I k r B
   ·subst z; rw [Q3k h] at B; cases B) e
  exact ⟨by rw [a,L6],b⟩
theorem Qg9 {cap:List (Option Nat)} (hs:Qaj cap gs):qy cap (Qv gs):=fun Γ p Γ1 e=>by
 cases p with
 | tup ps=>exact hs Γ ps _ Γ1 (fun _ _ h=>h) e
 | _=>cases e
open Classical in
def Jf (ga:GA) (mt:MT) (me:ME) (w:Wt) (Γ0:Gam):List PV->Q0->Res (List PV)
 | [],st=>if wOk w st then .ok [] st else .stuck
 | x :: xs,st=>if wOk w st then (match ga x Γ0 with
  | none=>.stuck
  | some Γ1=>(mt Γ1 st).bind fun b st1=>if b=true then (me Γ1 st1).bind fun y st2=>(Jf ga mt me w Γ0 xs st2).bind fun ys st3=>.ok (y :: ys) st3 else Jf ga mt me w Γ0 xs st1) else .stuck
def noX {α:Type}:Res α->Res α
 | .exc _ _=>.stuck
 | r=>r
def Qy (cap:List (Option Nat)) (ga:GA) (mi:MI) (mt:MT) (me:ME):ML:=fun Γ st=>(mi Γ st).bind fun iw st1=>noX (Jf ga mt me iw.2 (Z7 cap Γ) iw.1 st1)
structure SimTs (X:Cx) (ifs:List aH) (m:MT):Prop where
 run:∀ (Γ:Gam) (σ:St) (H:Hp) (ρ:Tk) (st:Q0) (P:Bool->Q0->Hp->Tk->Prop) (Q:Bool->Hp->Prop),Rel H ρ st->EnvR H ρ Γ σ->Acc X.mg E0 H ρ P (m Γ st) ->
  (∀ b st1 H1 ρ1,m Γ st=.ok b st1->Ext H ρ H1 ρ1->Rel H1 ρ1 st1->EnvR H1 ρ1 Γ σ->Q b H1)->∃ t,PTs X ifs t/\t σ H Q
def Jt:MT:=fun _ st=>.ok true st
theorem jt :SimTs X [] Jt:=⟨fun Γ σ H ρ st P Q R G h k=>⟨_,Qik,k true st H ρ rfl (Ext.refl _ _) R G⟩⟩
theorem Q97 {m:MT} (J:SimT X E0 c m):SimTs X [c] m:=⟨fun Γ σ H ρ st P Q R G h k=>⟨_,Qij Q49,J.use' R G h fun b B H1 ρ1 e x1 I O p=>k b B H1 ρ1 e x1 I O⟩⟩
theorem Qkj {E':XK} {P:α->Q0->Hp->Tk->Prop} {r:Res α} (h:Acc mg E H ρ P (noX r)):Acc mg E' H ρ P r:=by
 cases r with
 | ok a st=>exact h
 | exc x st=>exact h.elim
 | stuck=>exact h
theorem Res.assoc {B:Type} (r:Res α) (f:α->Q0->Res β) (g:β->Q0->Res B):(r.bind f).bind g=r.bind fun a st=>(f a st).bind g:=by cases r <;> rfl
theorem Acc.assoc {B:Type} {P:B->Q0->Hp->Tk->Prop} {r:Res α} {f:α->Q0->Res β} {g:β->Q0->Res B} (h:Acc mg E H ρ P ((r.bind f).bind g)):Acc mg E H ρ P (r.bind fun a st=>(f a st).bind g):=by
 rw [<- Res.assoc]; exact h
theorem EnvR.le {B:Gam} (h:EnvR H ρ B σ) (I:Γ.length=σ.length) (k:∀ (i:Nat) (q:PV),Γ[i]?=some (some q)->B[i]?=some (some q)):EnvR H ρ Γ σ:=⟨I,fun i p e=>h.2 i p (k i p e)⟩
variable {tg iter elt:aH} {ifs:List aH} {N N':List Str} {sc scE:Scope} {ga:GA} {mi:MI} {mt:MT} {me:ME}
section
variable {pos:Pos} {cap:List (Option Nat)}
def aE (X:Cx) (N':List Str) (sc:Scope) (e:aH):TE:=fun σ H Q=>∀ cl C s0 H0 ex,WE (Z8 X N' sc cl C s0 H0 ex) e σ H Q
def aG (X:Cx) (N':List Str) (sc:Scope) (tg:aH):TG:=fun v σ H Q=>∀ cl C s0 H0 ex,WGx (Z8 X N' sc cl C s0 H0 ex) tg v σ H Q
def aT (X:Cx) (N':List Str) (sc:Scope) (ifs:List aH):TT:=fun σ H Q=>∀ cl C s0 H0 ex,∃ t,PTs (Z8 X N' sc cl C s0 H0 ex) ifs t/\t σ H Q
theorem Qc2 {Γ:Gam} {σ:St} {H1:Hp} {ρ1:Tk} {Z:Q0} {J:It} {B:List PV} {w:Wt} {Q:VK} {P:List PV->Q0->Hp->Tk->Prop} (hg:∀ cl C s0 H0 ex,SimG (Z8 X N' sc cl C s0 H0 ex) tg ga) (he:∀ cl C s0 H0 ex,SimE (Z8 X N' sc cl C s0 H0 ex) E0 elt me) (ht:∀ cl C s0 H0 ex,SimTs (Z8 X N' sc cl C s0 H0 ex) ifs mt)
  (hf:qy cap ga) (R1:Rel H1 ρ1 Z) (G1:EnvR H1 ρ1 Γ σ) (a9:Src J B w H1 ρ1) (c6:B.length<=sizeLine) (h:Acc X.mg E0 H1 ρ1 P (Jf ga mt me w (Z7 cap Γ) B Z))
  (k:∀ ys b7 H2 a5 I vs,Jf ga mt me w (Z7 cap Γ) B Z=.ok ys b7->Ext H1 ρ1 H2 a5->Rel H2 a5 b7->I∈a5.hid->H1 I=none->H2 I=some (.lst vs)->RepL H2 a5 ys vs->Q (.ref I) H2):Q3i J cap (aG X N' sc tg) (aT X N' sc ifs) (aE X N' sc elt) σ H1 Q:=by
 intro I O;let W:Nat->Nat->List V->St->Hp->Prop:=fun i m vs b3 H'=>m=B.length - i/\i<=B.length/\vs.length<=i/\∃ ρ' st' ys,Ext H1 ρ1 H' ρ'/\I∈ρ'.hid/\Rel H' ρ' st'/\EnvR H' ρ' (Z7 cap Γ) b3/\H' I=some (.lst vs)/\RepL H' ρ' ys vs /\
  Jf ga mt me w (Z7 cap Γ) B Z=(Jf ga mt me w (Z7 cap Γ) (B.drop i) st').bind fun zs a4=>.ok (ys ++ zs) a4
 refine ⟨W,⟨_,rfl,M9 _,O8 _,ρ1.hide I,Z,[],Ext.hide O,O9,R1.hide O,(G1.cap cap).hide O,Qp,rfl,?_⟩,?_⟩
 ·rw [List.drop_zero];cases r:Jf ga mt me w (Z7 cap Γ) B Z with
  | ok zs a4=>rfl
  | exc x a4=>rfl
  | stuck=>rfl
 rintro i m vs b3 H' ⟨hm,hi,c7,ρ',st',ys,x,a1,R',G',ha,ry,Y⟩;have U:Acc X.mg E0 H1 ρ1 P ((Jf ga mt me w (Z7 cap Γ) (B.drop i) st').bind fun zs a4=>.ok (ys ++ zs) a4):=by rw [<- Y]; exact h
 refine ⟨ha,?_⟩
 by_cases a2:i < B.length
 ·right
  have hd:B.drop i=B[i] :: B.drop (i + 1):=List.drop_eq_getElem_cons a2;rw [hd,Jf] at U Y
  by_cases hw:wOk w st'
  ·rw [bN hw] at U Y;refine ⟨a9.go H' _ st' x R' hw i a2,by omega,fun y H2 hy=>?_⟩;obtain ⟨sm,c5⟩:=a9.yld H' _ st' x R' hw i _ (O2 a2) y H2 hy;cases eg:ga B[i] (Z7 cap Γ) with
   | none=>rw [eg] at U; exact U.elim
   | some Γ1=>
    rw [eg] at U Y;have x2:Ext H' ρ' H2 ρ':=Ext.same sm;have R2:=R'.same sm;intro cl C s0 H0 ex;refine (hg cl C s0 H0 ex).run (Z7 cap Γ) Γ1 b3 H2 ρ' _ y _ (G'.ext x2) c5 eg fun b1 G3=>?_
    intro cl C s0 H0 ex;have c2:=Acc.later U (x.trans x2);refine (ht cl C s0 H0 ex).run Γ1 b1 H2 ρ' st' _ _ R2 G3 (Acc.bind (Acc.assoc c2)) fun b c1 H4 a7 e4 x4 R4 G4=>?_
    simp only [e4,Res.bind] at U Y;have G0:∀ {b5:Hp} {a3:Tk},EnvR b5 a3 Γ1 b1->EnvR b5 a3 (Z7 cap Γ) b1:=fun {b5 a3} g=>g.le (by
     rw [<- G3.1];exact (hf Γ _ Γ1 eg).1.symm) (hf Γ _ Γ1 eg).2
    have b0:Ext H1 ρ1 H4 a7:=x.trans (x2.trans x4);have b4:I∈a7.hid:=x4.hidM I a1;have na:I∉ρ'.tr:=R'.ap I a1;have b8:H4 I=some (.lst vs):=x4.keep I _ (sm I _ ha) na;have b6:RepL H4 a7 ys vs:=ry.ext (x2.trans x4);cases b with
    | false=>
     rw [bO E9] at U Y ⊢;exact ⟨_,show B.length - (i + 1) < m by omega,rfl,a2,by omega,a7,c1,ys,b0,b4,R4,G0 G4,b8,b6,Y⟩
    | true=>
     rw [bN rfl] at U Y ⊢;intro cl C s0 H0 ex;have c3:=Acc.later U b0;refine (he cl C s0 H0 ex).use' R4 G4 (Acc.bind (Acc.assoc c3)) fun z b9 H5 b2 zv e5 x5 R5 G5 r5 h5=>?_
     simp only [e5,Res.bind] at U Y;have a6:I∈b2.hid:=x5.hidM I b4;have c4:H5 I=some (.lst vs):=x5.keep I _ b8 (R4.ap I b4);have c0:Ext H1 ρ1 H5 b2:=b0.trans x5;refine ⟨c4,_,show B.length - (i + 1) < m by omega,rfl,a2,by rw [O7]; simp; omega,b2,b9,ys ++ [z],c0.put0 O,a6,R5.rehide a6,(G0 G5).rehide a6,Qp,((b6.ext x5).append (RepL.cons r5 RepL.nil)).rehide a6,?_⟩;refine Y.trans ?_;cases rr:Jf ga mt me w (Z7 cap Γ) (B.drop (i + 1)) b9 with
     | ok zs a8=>
      show Res.ok (ys ++ z :: zs) a8=Res.ok ((ys ++ [z]) ++ zs) a8;rw [N4]; rfl
     | exc x6 a8=>rfl
     | stuck=>rfl
  ·rw [bO hw] at U; exact U.elim
 ·left
  have ei:i=B.length:=by omega
  subst ei;rw [List.drop_length,Jf] at U Y
  by_cases hw:wOk w st'
  ·rw [bN hw] at U Y;refine ⟨a9.stop H' _ st' x R' hw,?_⟩;have Y:Jf ga mt me w (Z7 cap Γ) B Z=.ok (ys ++ []) st':=Y;rw [G7] at Y;exact k ys st' H' ρ' I vs Y x R' a1 O ha ry
  ·rw [bO hw] at U; exact U.elim
theorem Q21 {Γ:Gam} {σ:St} {H:Hp} {ρ:Tk} {st:Q0} {Q:VK} {P:List PV->Q0->Hp->Tk->Prop} (hi:SimI X E tg iter mi) (hg:∀ cl C U H0 ex,SimG (Z8 X N' sc cl C U H0 ex) tg ga) (he:∀ cl C U H0 ex,SimE (Z8 X N' sc cl C U H0 ex) E0 elt me) (ht:∀ cl C U H0 ex,SimTs (Z8 X N' sc cl C U H0 ex) ifs mt)
  (hf:qy cap ga) (R:Rel H ρ st) (G:EnvR H ρ Γ σ) (h:Acc X.mg E H ρ P (Qy cap ga mi mt me Γ st)) (k:∀ ps I H2 B a vs,Qy cap ga mi mt me Γ st=.ok ps I->Ext H ρ H2 B->Rel H2 B I->a∈B.hid->H a=none->H2 a=some (.lst vs)->RepL H2 B ps vs->Q (.ref a) H2):Q42 cap (WI X tg iter) (aG X N' sc tg) (aT X N' sc ifs) (aE X N' sc elt) σ H Q:=by
 refine hi.run Γ σ H ρ st _ _ R G h.bind fun iw a1 H1 ρ1 J eq x1 R1 G1 ok hl Y h1=>?_
 refine Qc2 hg he ht hf R1 G1 Y hl (Qkj (E':=E0) h1) fun ys I H2 B O vs Z x2 R2 hm hn ha ry=>?_
 refine k ys I H2 B O vs ?_ (x1.trans x2) R2 hm ?_ ha ry
 ·unfold Qy;rw [eq];show noX _=_;rw [Z]; rfl
 cases e:H O with
 | none=>rfl
 | some o=>
  obtain ⟨o',e'⟩:=x1.old O o e;rw [hn] at e'; cases e'
theorem Qp6 :∀ cl C B H0 ex,PG (Z8 X N' sc cl C B H0 ex) tg (aG X N' sc tg):=fun cl C B H0 ex pins s σ H v u Q I r h=>Qj1 pins s σ H v u Q I r (h cl C B H0 ex)
theorem Qpf :∀ cl C B H0 ex,PE (Z8 X N' sc cl C B H0 ex) e (aE X N' sc e):=fun cl C B H0 ex pins s σ H Q I h=>h cl C B H0 ex pins s I
theorem Qe2 :∀ cl C B H0 ex,PTs (Z8 X N' sc cl C B H0 ex) ifs (aT X N' sc ifs):=fun cl C B H0 ex pins s σ H Q I h=>by
 obtain ⟨t,a,b⟩:=h cl C B H0 ex;exact a pins s σ H Q I b
theorem Q05 (cap:List (Option Nat)) (N':List Str) (B:X.calm=true) (hi:SimI X E tg iter mi) (Z:∀ cl C I H0 ex,SimG (Z8 X N' sc cl C I H0 ex) tg ga) (he:∀ cl C I H0 ex,SimE (Z8 X N' sc cl C I H0 ex) E0 elt me) (J:∀ cl C I H0 ex,SimTs (Z8 X N' sc cl C I H0 ex) ifs mt)
  (hf:qy cap ga) (O:X.N=N:=by rfl) (Y:X.env.scope=scE:=by rfl) (U:compOkC N N' sc scE cap=true:=by kernel_rfl) (hs:∀ x,av iter X.env x=pure x:=by intro _; rfl) :
  SimN X E (.ListComp elt [⟨tg,iter,ifs,0⟩] sc pos) (Qy cap ga mi mt me):=
 ⟨fun Γ σ H ρ st P Q R G h k=>WE.of (Qep B Qix Qp6 Qpf Qe2 O Y U hs) (Q21 hi Z he J hf R G h k)⟩
end
inductive SR where
 | nx (Γ:Gam) (st:Q0) | rt (v:PV) (st:Q0) | bk (Γ:Gam) (st:Q0) | ct (Γ:Gam) (st:Q0) | exc (x:Exc) (st:Q0) | stuck
abbrev MS:=Gam->Q0->SR
variable {m1:MS}
def Res.sbind {α:Type} (r:Res α) (f:α->Q0->SR):SR:=match r with
 | .ok a st=>f a st
 | .exc x st=>.exc x st
 | .stuck=>.stuck
def AccS (mg:Str->Option aA) (E:XK) (D:Ends) (H:Hp) (ρ:Tk):SR->Prop
 | .nx Γ st=>∀ σ' H' ρ',Ext H ρ H' ρ'->Rel H' ρ' st->EnvR H' ρ' Γ σ'->D.nx σ' H'
 | .bk Γ st=>∀ σ' H' ρ',Ext H ρ H' ρ'->Rel H' ρ' st->EnvR H' ρ' Γ σ'->D.bk σ' H'
 | .ct Γ st=>∀ σ' H' ρ',Ext H ρ H' ρ'->Rel H' ρ' st->EnvR H' ρ' Γ σ'->D.ct σ' H'
 | .rt p st=>∀ v H' ρ',Ext H ρ H' ρ'->Rel H' ρ' st->Rep H' ρ' p v->D.rt v H'
 | .exc x st=>∀ C dv H' ρ',mg x.cls=some (.ref C)->Ext H ρ H' ρ'->Rel H' ρ' st->XFs H' ρ' x.fs dv->E (.ref C) dv H'
 | .stuck=>False
variable {α:Type} {mg:Str->Option aA} {D:Ends} {H1:Hp} {ρ1:Tk}
theorem AccS.later {r:SR} (h:AccS mg E D H ρ r) (x:Ext H ρ H1 ρ1):AccS mg E D H1 ρ1 r:=by
 cases r with
 | nx Γ st=>exact fun B H' ρ' I=>h B H' ρ' (x.trans I)
 | bk Γ st=>exact fun B H' ρ' I=>h B H' ρ' (x.trans I)
 | ct Γ st=>exact fun B H' ρ' I=>h B H' ρ' (x.trans I)
 | rt p st=>exact fun v H' ρ' I=>h v H' ρ' (x.trans I)
 | exc y st=>exact fun C J H' ρ' m I=>h C J H' ρ' m (x.trans I)
 | stuck=>exact h
theorem AccS.bind {r:Res α} {f:α->Q0->SR} (h:AccS mg E D H ρ (r.sbind f)):Acc mg E H ρ (fun a B H1 ρ1=>AccS mg E D H1 ρ1 (f a B)) r:=by
 cases r with
 | ok a st=>exact fun H' ρ' I J=>AccS.later (show AccS mg E D H ρ (f a st) from h) I
 | exc e st=>exact h
 | stuck=>exact h
theorem Res.sassoc (r:Res α) (f:α->Q0->Res β) (g:β->Q0->SR):(r.bind f).sbind g=r.sbind fun a st=>(f a st).sbind g:=by cases r <;> rfl
theorem AccS.assoc {r:Res α} {f:α->Q0->Res β} {g:β->Q0->SR} (h:AccS mg E D H ρ ((r.bind f).sbind g)):AccS mg E D H ρ (r.sbind fun a st=>(f a st).sbind g):=by
 rw [<- Res.sassoc]; exact h
structure SimS (X:Cx) (E:XK) (s:aK) (m:MS):Prop where
 run:∀ (Γ:Gam) (σ:St) (H:Hp) (ρ:Tk) (st:Q0) (D:Ends),Rel H ρ st->EnvR H ρ Γ σ->AccS X.mg E D H ρ (m Γ st)->WS X s D σ H
structure SimB (X:Cx) (E:XK) (ss:List aK) (m:MS):Prop where
 run:∀ (Γ:Gam) (σ:St) (H:Hp) (ρ:Tk) (st:Q0) (D:Ends),Rel H ρ st->EnvR H ρ Γ σ->AccS X.mg E D H ρ (m Γ st)->WB X ss D σ H
variable {e:aH} {m:ME}
section
variable {pos:Pos}
def J8:MS:=fun Γ st=>.nx Γ st
def Qc (m1 m2:MS):MS:=fun Γ st=>match m1 Γ st with
 | .nx Γ1 st1=>m2 Γ1 st1
 | r=>r
theorem Qni:SimB X E [] J8:=⟨fun Γ σ H ρ st D R G h=>WB.of Qip (h σ H ρ (Ext.refl _ _) R G)⟩
theorem jw {rest:List aK} {J:MS} (h1:SimS X E s m1) (h2:SimB X E rest J):SimB X E (s :: rest) (Qc m1 J):=
 ⟨fun Γ σ H ρ st D R G h=>WB.of (Qe4 Qt6 Q11) (h1.run Γ σ H ρ st _ R G (by
  unfold Qc at h;cases r:m1 Γ st with
  | nx Γ1 B=>rw [r] at h; exact fun I H' ρ' O U G'=>h2.run Γ1 I H' ρ' B D U G' (AccS.later h O)
  | bk Γ1 B=>rw [r] at h; exact h
  | ct Γ1 B=>rw [r] at h; exact h
  | rt p B=>rw [r] at h; exact h
  | exc x B=>rw [r] at h; exact h
  | stuck=>rw [r] at h; exact h))⟩
theorem Qdp (h1:SimS X E s m1):SimB X E [s] m1:=⟨fun Γ σ H ρ st D R G h=>WB.of (Qin Qt6) (h1.run Γ σ H ρ st D R G h)⟩
def Yj (m:ME):MS:=fun Γ st=>(m Γ st).sbind fun _ st1=>.nx Γ st1
theorem Qhu (O:SimE X E e m) (hs:swapsWith e none pos.line X.env=pure false:=by rfl):SimS X E (.Expr e pos) (Yj m):=
 ⟨fun Γ σ H ρ st D R G h=>WS.of (Qiq Ja hs) (O.use R G h.bind fun p J H1 ρ1 v x1 B I U h1=>h1 σ H1 ρ1 (Ext.refl _ _) B I)⟩
def J0 (m:ME):MS:=fun Γ st=>(m Γ st).sbind fun p st1=>.rt p st1
theorem Qd6 (O:SimE X E e m):SimS X E (.Return (some e) pos) (J0 m):=
 ⟨fun Γ σ H ρ st D R G h=>WS.of (Qnx Ja) (O.use R G h.bind fun p I H1 ρ1 v x1 B U J h1=>h1 v H1 ρ1 (Ext.refl _ _) B J)⟩
def Qu (i:Nat) (m:ME):MS:=fun Γ st=>(m Γ st).sbind fun p st1=>.nx (Γ.set i (some p)) st1
theorem Q0s (i:Nat) {pos':Pos} (J:X.N.Nodup) (Z:SimE X E e m) (hi:X.N[i]?=some x:=by rfl) (O:Loc X.env.scope x:=by first | exact Or.inl rfl | exact Or.inr rfl) (hs:swapsWith e (some (.Name x pos')) pos.line X.env=pure false:=by rfl) (hf:X.fn x=true\/X.env.scope.names.lookup x=some .local:=by first | exact .inl rfl | exact .inr rfl) :
  SimS X E (.Assign [.Name x pos'] e pos) (Qu i m):=
 ⟨fun Γ σ H ρ st D R G h=>WS.of (Qnw J hi O Ja hs hf) (Z.use R G h.bind fun p U H1 ρ1 v x1 B I Y h1=>h1 _ H1 ρ1 (Ext.refl _ _) B (I.set Y i))⟩
section
variable {tg iter elt:aH} {ifs:List aH} {N N':List Str} {sc scE:Scope} {ga:GA} {mi:MI} {mt:MT} {me:ME}
theorem Qd9 (cap:List (Option Nat)) (N':List Str) (i:Nat) {x:Str} {px cpos:Pos} (J:X.N.Nodup) (B:X.calm=true) (hi:SimI X E tg iter mi) (hg:∀ cl C I H0 ex,SimG (Z8 X N' sc cl C I H0 ex) tg ga) (he:∀ cl C I H0 ex,SimE (Z8 X N' sc cl C I H0 ex) E0 elt me) (ht:∀ cl C I H0 ex,SimTs (Z8 X N' sc cl C I H0 ex) ifs mt)
  (hf:qy cap ga) (Y:X.N[i]?=some x:=by rfl) (hx:Loc X.env.scope x:=by first | exact Or.inl rfl | exact Or.inr rfl) (O:swapsWith (.ListComp elt [⟨tg,iter,ifs,0⟩] sc cpos) (some (.Name x px)) pos.line X.env=pure true:=by rfl)
  (hN:X.N=N:=by rfl) (hE:X.env.scope=scE:=by rfl) (hc:compOkC N N' sc scE cap=true:=by kernel_rfl) (hs:∀ x,av iter X.env x=pure x:=by intro _; rfl) (U:X.fn x=true\/X.env.scope.names.lookup x=some .local:=by first | exact .inl rfl | exact .inr rfl) :
  SimS X E (.Assign [.Name x px] (.ListComp elt [⟨tg,iter,ifs,0⟩] sc cpos) pos) (Qu i (Wv (Qy cap ga mi mt me))):=
 ⟨fun Γ σ H ρ st D R G h=>WS.of (Q5y J Y hx B Qix Qp6 Qpf Qe2 O hN hE hc hs U) (Q21 hi hg he ht hf R G (AccS.bind (by unfold Qu Wv at h; exact AccS.assoc h)) fun ps a1 H1 ρ1 a vs eq x R1 hm hn ha r=>by
  obtain ⟨Z,R2,r2⟩:=Q9n R x R1 hm hn ha r;simp only [Qu,Wv,eq,Res.bind,Res.sbind] at h;exact h _ _ _ Z R2 ((G.ext Z).set r2 i))⟩
theorem Q0t (cap:List (Option Nat)) (N':List Str) (i:Nat) {x:Str} {px cpos:Pos} (J:X.N.Nodup) (B:X.calm=true) (hi:SimI X E tg iter mi) (hg:∀ cl C I H0 ex,SimG (Z8 X N' sc cl C I H0 ex) tg ga) (he:∀ cl C I H0 ex,SimE (Z8 X N' sc cl C I H0 ex) E0 elt me) (ht:∀ cl C I H0 ex,SimTs (Z8 X N' sc cl C I H0 ex) ifs mt)
  (hf:qy cap ga) (Y:X.N[i]?=some x:=by rfl) (hx:Loc X.env.scope x:=by first | exact Or.inl rfl | exact Or.inr rfl) (O:swapsWith (.ListComp elt [⟨tg,iter,ifs,0⟩] sc cpos) (some (.Name x px)) pos.line X.env=pure true:=by rfl)
  (hN:X.N=N:=by rfl) (hE:X.env.scope=scE:=by rfl) (hc:compOkC N N' sc scE cap=true:=by kernel_rfl) (hs:∀ x,av iter X.env x=pure x:=by intro _; rfl) (U:X.fn x=true\/X.env.scope.names.lookup x=some .local:=by first | exact .inl rfl | exact .inr rfl) :
  SimS X E (.Assign [.Name x px] (.ListComp elt [⟨tg,iter,ifs,0⟩] sc cpos) pos) (Qu i (V5 (Qy cap ga mi mt me))):=
 ⟨fun Γ σ H ρ st D R G h=>WS.of (Q5y J Y hx B Qix Qp6 Qpf Qe2 O hN hE hc hs U) (Q21 hi hg he ht hf R G (AccS.bind (by unfold Qu V5 at h; exact AccS.assoc h)) fun ps a1 H1 ρ1 a vs eq x R1 hm hn ha r=>by
  obtain ⟨Z,R2,r2⟩:=Q9p R x R1 hm hn ha r;simp only [Qu,V5,eq,Res.bind,Res.sbind] at h;exact h _ _ _ Z R2 ((G.ext Z).set r2 i))⟩
end
def Q8a (ga:GA) (m:ME):MS:=fun Γ st=>(m Γ st).sbind fun p st1=>match ga p Γ with
 | some Γ1=>.nx Γ1 st1
 | none=>.stuck
theorem Qn2 (he:SimE X E e m) (Z:SimG X tg ga) (hs:swapsWithSole [tg] e pos.line X.env=pure false:=by rfl) (O:swappedStores [tg] e X.env=pure none:=by rfl) (h1:(ar [tg] X.env).map (·.2)=[assign tg X.env]:=by rfl):SimS X E (.Assign [tg] e pos) (Q8a ga m):=
 ⟨fun Γ σ H ρ st D R G h=>WS.of (Qe6 Ja Qj1 hs O h1) (he.use R G h.bind fun p Y H1 ρ1 v x1 J U r1 h1=>by
  cases I:ga p Γ with
  | none=>rw [I] at h1; exact h1.elim
  | some Γ1=>
   rw [I] at h1;exact Z.run Γ Γ1 σ H1 ρ1 p v _ U r1 I fun B G'=>h1 B H1 ρ1 (Ext.refl _ _) J G')⟩
def W8 (st:Q0) (o i p:PV):Option Q0:=match o,i with
 | .ref k,.int j=>match st[k]? with
  | some (.lst xs)=>(ixN xs.length j).map fun n=>st.set k (.lst (xs.set n p))
  | _=>none
 | _,_=>none
def jd (mo mi m:ME):MS:=fun Γ st=>(m Γ st).sbind fun p st1=>(mo Γ st1).sbind fun o st2=>(mi Γ st2).sbind fun i st3=>match W8 st3 o i p with
 | some st4=>.nx Γ st4
 | none=>.stuck
theorem Q99 {st':Q0} {o i:PV} {x y z:V} (R:Rel H ρ st) (Z:Rep H ρ o x) (Y:Rep H ρ i y) (rp:Rep H ρ p z) (e:W8 st o i p=some st') :
  ∃ a vs k j,x=.ref a/\y=.int k/\H a=some (.lst vs)/\ixN vs.length k=some j/\Ext H ρ (upd H a (.lst (vs.set j z))) ρ/\Rel (upd H a (.lst (vs.set j z))) ρ st':=by
 unfold W8 at e
 split at e
 ·rename_i k j
  split at e
  ·rename_i xs hs;cases J:ixN xs.length j with
   | none=>rw [J] at e; cases e
   | some n=>
    rw [J] at e;have e:st.set k (.lst (xs.set n p))=st':=Option.some.inj e;subst e;obtain ⟨a,I,rfl⟩:=Z;cases Y;obtain ⟨b,vs,O,B,U⟩:=R.lst hs;rw [I] at O; cases O;exact ⟨a,vs,j,n,rfl,rfl,B,by rw [<- U.length]; exact J,Ext.put (E6 I) B,R.put I B (U.set rp n)⟩
  ·cases e
 ·cases e
theorem Qmz {o i:aH} {mo mi:ME} {tpos:Pos} (he:SimE X E e m) (ho:SimE X E o mo) (hi:SimE X E i mi)
  (ha:∀ v,assign (.Subscript o i tpos) X.env v=(do
   let B <- ay [v] (aL o X.env)
   let I <- ay [v,B] (aL i X.env)
   standAt tpos
   ay [v,B,I] (setItem B I v)
   release [v,B,I] []):=by intro _; rfl)
  (hs:swapsWithSole [.Subscript o i tpos] e pos.line X.env=pure false:=by rfl) (hw:swappedStores [.Subscript o i tpos] e X.env=pure none:=by rfl) (h1:(ar [.Subscript o i tpos] X.env).map (·.2)=[assign (.Subscript o i tpos) X.env]:=by rfl) :
  SimS X E (.Assign [.Subscript o i tpos] e pos) (jd mo mi m):=
 ⟨fun Γ σ H ρ st D R G h=>WS.of (Qe6 Ja (Qp5 Ja Ja Q5m ha) hs hw h1) (he.use R G h.bind fun p a2 H1 ρ1 z x1 R1 G1 r1 h1=>ho.use R1 G1 h1.bind fun B a3 H2 Z x x2 R2 G2 r2 h2=>hi.use R2 G2 h2.bind fun I U H3 O y Y R3 G3 r3 J=>by
  cases es:W8 U B I p with
  | none=>rw [es] at J; exact J.elim
  | some a1=>
   rw [es] at J;obtain ⟨a,vs,k,j,rfl,rfl,f1,f2,x4,R4⟩:=Q99 R3 (r2.ext Y) r3 (r1.ext (x2.trans Y)) es;exact ⟨a,vs,k,j,rfl,rfl,f1,f2,J σ _ O x4 R4 (G3.ext x4)⟩)⟩
def Zp (mt:MT) (ma mb:MS):MS:=fun Γ st=>(mt Γ st).sbind fun b st1=>if b=true then ma Γ st1 else mb Γ st1
theorem Qsn {a b:List aK} {ma mb:MS} (Y:SimT X E c mt) (O:SimB X E a ma) (U:SimB X E b mb):SimS X E (.If c a b pos) (Zp mt ma mb):=
 ⟨fun Γ σ H ρ st D R G h=>WS.of (Qt7 Q49 Q11 Q11) (Y.use R G h.bind fun k B H1 ρ1 x1 I J h1=>by
  cases k with
  | true=>rw [bN rfl] at h1 ⊢; exact O.run Γ σ H1 ρ1 B D I J h1
  | false=>rw [bO E9] at h1 ⊢; exact U.run Γ σ H1 ρ1 B D I J h1)⟩
open Classical in
def Jw (ga:GA) (body:MS) (w:Wt):List PV->Gam->Q0->SR
 | [],Γ,st=>if wOk w st then .nx Γ st else .stuck
 | x :: xs,Γ,st=>if wOk w st then (match ga x Γ with
  | none=>.stuck
  | some Γ1=>match body Γ1 st with
   | .nx Γ2 st2=>Jw ga body w xs Γ2 st2
   | .ct Γ2 st2=>Jw ga body w xs Γ2 st2
   | .bk Γ2 st2=>.nx Γ2 st2
   | .rt v st2=>.rt v st2
   | .exc x st2=>.exc x st2
   | .stuck=>.stuck) else .stuck
def Yw (ga:GA) (mi:MI) (body:MS):MS:=fun Γ st=>(mi Γ st).sbind fun iw st1=>Jw ga body iw.2 iw.1 Γ st1
theorem Qn0 {bd:List aK} {body:MS} (hp:PassesOwn (aI X.prog X.w) X.A X.env X.xe) (hc:X.calm=true) (hi:SimI X E tg iter mi) (hg:SimG X tg ga) (hb:SimB X E bd body)
  (hs:∀ x,av iter X.env x=pure x:=by intro _; rfl):SimS X E (.For tg iter bd [] pos) (Yw ga mi body):=
 ⟨fun Γ σ H ρ st D R G h=>WS.of (Qny hp hc Qix Qj1 Q11 hs) (hi.run Γ σ H ρ st _ _ R G h.bind fun O a7 H1 ρ1 J eq x1 R1 G1 ok hl a5 h1=>by
  let W:Nat->Nat->St->Hp->Prop:=fun i m U H'=>m=O.1.length - i/\i<=O.1.length/\∃ a2 ρ' st',Ext H1 ρ1 H' ρ'/\Rel H' ρ' st'/\EnvR H' ρ' a2 U/\AccS X.mg E D H' ρ' (Jw ga body O.2 (O.1.drop i) a2 st')
  refine ⟨W,⟨_,rfl,M9 _,Γ,ρ1,a7,Ext.refl _ _,R1,G1,by rw [List.drop_zero]; exact h1⟩,?_⟩;rintro i m U H' ⟨hm,a9,a2,ρ',st',x,R',G',Z⟩
  by_cases a3:i < O.1.length
  ·right
   have hd:O.1.drop i=O.1[i] :: O.1.drop (i + 1):=List.drop_eq_getElem_cons a3;rw [hd,Jw] at Z
   by_cases hw:wOk O.2 st'
   ·rw [bN hw] at Z;refine ⟨a5.go H' ρ' st' x R' hw i a3,fun a6 H2=>W (i + 1) (O.1.length - (i + 1)) a6 H2,fun a6 H2 z=>⟨_,by omega,z⟩,fun y H2 hy=>?_⟩
    obtain ⟨sm,ry⟩:=a5.yld H' ρ' st' x R' hw i _ (O2 a3) y H2 hy;have x2:Ext H' ρ' H2 ρ':=Ext.same sm;cases eg:ga O.1[i] a2 with
    | none=>rw [eg] at Z; exact Z.elim
    | some Γ1=>
     rw [eg] at Z;refine hg.run a2 Γ1 U H2 ρ' _ y _ (G'.ext x2) ry eg fun a8 G3=>?_
     have B:=AccS.later Z x2;simp only at B;refine hb.run Γ1 a8 H2 ρ' st' _ (R'.same sm) G3 ?_;have again:∀ {Y:Gam} {I:Q0},AccS X.mg E D H2 ρ' (Jw ga body O.2 (O.1.drop (i + 1)) Y I)->∀ U a4 a1,Ext H2 ρ' a4 a1->Rel a4 a1 I->EnvR a4 a1 Y U->W (i + 1) (O.1.length - (i + 1)) U a4:=fun {Y I} a σ4 H4 ρ4 x4 R4 G4=>
      ⟨rfl,a3,Y,ρ4,I,x.trans (x2.trans x4),R4,G4,AccS.later a x4⟩
     cases rb:body Γ1 st' with
     | nx Y I=>rw [rb] at B; exact again B
     | ct Y I=>rw [rb] at B; exact again B
     | bk Y I=>rw [rb] at B; exact B
     | rt v I=>rw [rb] at B; exact B
     | exc y I=>rw [rb] at B; exact B
     | stuck=>rw [rb] at B; exact B.elim
   ·rw [bO hw] at Z; exact Z.elim
  ·left
   have ei:i=O.1.length:=by omega
   subst ei;rw [List.drop_length,Jw] at Z
   by_cases hw:wOk O.2 st'
   ·rw [bN hw] at Z;exact ⟨a5.stop H' ρ' st' x R' hw,Z U H' ρ' (Ext.refl _ _) R' G'⟩
   ·rw [bO hw] at Z; exact Z.elim)⟩
def Z2 (mt:MT) (body:MS):Nat->Gam->Q0->SR
 | 0,_,_=>.stuck
 | n + 1, Γ, st => (mt Γ st).sbind fun b st1 => if b = true then (match body Γ st1 with
   | .nx Γ2 st2=>Z2 mt body n Γ2 st2
   | .ct Γ2 st2=>Z2 mt body n Γ2 st2
   | .bk Γ2 st2=>.nx Γ2 st2
   | .rt v st2=>.rt v st2
   | .exc x st2=>.exc x st2
   | .stuck=>.stuck) else .nx Γ st1
theorem Qd4 (n:Nat) {bd:List aK} {body:MS} (hp:PassesOwn (aI X.prog X.w) X.A X.env X.xe) (hc:SimT X E c mt) (hb:SimB X E bd body):SimS X E (.While c bd [] pos) (Z2 mt body n):=
 ⟨fun Γ σ H ρ st D R G h=>WS.of (Qe5 hp Q49 Q11) (by
  let W:Nat->St->Hp->Prop:=fun m I H'=>∃ U ρ' st',Rel H' ρ' st'/\EnvR H' ρ' U I/\AccS X.mg E D H' ρ' (Z2 mt body m U st')
  refine ⟨W,⟨n,Γ,ρ,st,R,G,h⟩,?_⟩;rintro m I H' ⟨U,ρ',st',R',G',hA⟩;cases m with
  | zero=>exact hA.elim
  | succ m=>
   rw [Z2] at hA;refine hc.use R' G' hA.bind fun b Z H1 ρ1 x1 R1 G1 h1=>?_
   cases b with
   | false=>rw [bO E9] at h1 ⊢; exact h1 I H1 ρ1 (Ext.refl _ _) R1 G1
   | true=>
    rw [bN rfl] at h1 ⊢;refine ⟨fun a1 H2=>W m a1 H2,fun a1 H2 z=>⟨m,Nat.lt_succ_self _,z⟩,hb.run U I H1 ρ1 Z _ R1 G1 ?_⟩
    have again:∀ {J:Gam} {B:Q0},AccS X.mg E D H1 ρ1 (Z2 mt body m J B)->∀ I Y O,Ext H1 ρ1 Y O->Rel Y O B->EnvR Y O J I->W m I Y:=fun {J B} a σ4 H4 ρ4 x4 R4 G4=>⟨J,ρ4,B,R4,G4,AccS.later a x4⟩
    cases rb:body U Z with
    | nx J B=>rw [rb] at h1; exact again h1
    | ct J B=>rw [rb] at h1; exact again h1
    | bk J B=>rw [rb] at h1; exact h1
    | rt v B=>rw [rb] at h1; exact h1
    | exc y B=>rw [rb] at h1; exact h1
    | stuck=>rw [rb] at h1; exact h1.elim)⟩
def Q87 (x:Str) (m:ME):MS:=fun Γ st=>(m Γ st).sbind fun _ st1=>.exc ⟨x,none⟩ st1
theorem Qd7 {C:aB} {np cpos:Pos} (B:X.calm=true) (Y:Q8y X E) (hg:Gl X x) (O:X.mg x=some (.ref C)) (q:PySem.W.excIn X.K C Qh6 "ValueError.__new__" = true) (he:SimE X E e m)
  (J:(x == ("__debug__" : Str))=false:=by decide) (I:aN [e] X.env=[(false,aL e X.env)]:=by rfl):SimS X E (.Raise (some (.Call (.Name x np) [e] [] cpos)) none pos) (Q87 x m):=
 ⟨fun Γ σ H ρ st D R G h=>WS.of (Qb6 B Y hg O q (zc Ja Q4c (by rw [I]; rfl)) J I) (he.use R G h.bind fun p Z H1 ρ1 v x1 U G1 r1 h1=>⟨F9 (show 1<=lim by decide) yn,h1 C none H1 ρ1 O (Ext.refl _ _) U rfl⟩)⟩
end
def WM (X:Cx) (id:String):V->List V->Hp->VK->Prop:=fun x xs H Q=>∀ (pins:List (aB × Obj)) (s:aC) (σ:St) (v:aA) (us:List aA),Inv X pins σ H s->RelV x v->Vals xs us->aF (aI X.prog X.w) X.A (call (.builtin id) (v :: us)) (EP X pins σ Q) X.xe s
theorem Qq3 {id:String}:MtR X id (WM X id):=fun pins s σ _ _ _ v us _ I r rs h=>h pins s σ v us I r rs
theorem WM.of {id:String} {r:V->List V->Hp->VK->Prop} {x:V} {xs:List V} (h:MtR X id r) (q:r x xs H Q):WM X id x xs H Q:=fun pins s σ v us I B J=>h pins s σ H x xs v us Q I B J q
abbrev MF:=Q0->PV->List PV->Res PV
structure MtS (X:Cx) (E:XK) (id:String) (o:MF):Prop where
 run:∀ (H:Hp) (ρ:Tk) (st:Q0) (p:PV) (ps:List PV) (x:V) (xs:List V) (Q:VK),Rel H ρ st->Rep H ρ p x->RepL H ρ ps xs->Acc X.mg E H ρ (QV Q) (o st p ps)->WM X id x xs H Q
variable {o:aH} {es:List aH} {mo:ME} {mr:Gam->Q0->Res (List PV)} {name:Str} {apos cpos:Pos} {T:String} {f:MF}
section
variable {id:String}
def mBM (f:MF) (mo:ME) (mr:Gam->Q0->Res (List PV)):ME:=fun Γ st=>(mo Γ st).bind fun p st1=>match Y1 st1 p with
 | some _=>(mr Γ st1).bind fun ps st2=>f st2 p ps
 | none=>.stuck
theorem Qks (pa:PlainAttrs "list") (slot:Slot "list" name id) (Z:typeOf (.builtin id)=pure (.type "method_descriptor")) (hm:MtS X E id f) (ho:SimE X E o mo) (ha:SimA X E (e :: es) mr)
  (J:bC o name X.env (aL o X.env)=aL o X.env:=by rfl)
  (O:((aX cpos (aN (e :: es) X.env)).all (fun x=>!x.1) && (backToKw cpos (keywordEach [] X.env)).all (fun x=>x.1.isSome)
   && decide ((e :: es).length + ([]:List Keyword).length + (if ([]:List Keyword).isEmpty then 0 else 1) < 30))=true:=by rfl)
  (I:(apos.endLine == cpos.line)=true:=by rfl) (hs:aN (e :: es) X.env=(false,aL e X.env) :: aN es X.env:=by rfl) (B:(aX cpos (aN es X.env)).any (·.1)=false:=by rfl) :
  SimE X E (.Call (.Attribute o name apos) (e :: es) [] cpos) (mBM f mo mr):=
 ⟨fun Γ σ H ρ st Q R G h=>WE.of (Qtc pa slot Z Qq3 Ja xx J O I hs B) (ho.use R G h.bind fun p a1 H1 ρ1 v x1 R1 G1 r1 h1=>by
  split at h1
  ·rename_i ys el;obtain ⟨a,vs,rfl,hr,_⟩:=Jc R1 r1 el;exact ⟨.inl ⟨rfl,vs,.inl hr⟩,ha.use R1 G1 h1.bind fun ps Y H2 U us x2 R2 G2 r2 h2=>hm.run H2 U Y p ps _ us Q R2 (r1.ext x2) r2 h2⟩
  ·exact h1.elim)⟩
def chg (st:Q0) (p:PV) (g:List PV->Option (PV × List PV)):Res PV:=match p with
 | .ref i=>match st[i]? with
  | some (.lst xs)=>match g xs with
   | some (r,ys)=>.ok r (st.set i (.lst ys))
   | none=>.stuck
  | _=>.stuck
 | _=>.stuck
theorem Q50 {x:V} {g:List PV->Option (PV × List PV)} (R:Rel H ρ st) (Z:Rep H ρ p x) (h:Acc mg E H ρ (QV Q) (chg st p g)) :
  ∃ a xs vs r ys,x=.ref a/\H a=some (.lst vs)/\RepL H ρ xs vs/\g xs=some (r,ys)/\∀ us v,RepL H ρ ys us->Rep H ρ r v->Q v (upd H a (.lst us)):=by
 unfold chg at h
 split at h
 ·rename_i i
  split at h
  ·rename_i xs hs
   split at h
   ·rename_i r ys Y;obtain ⟨a,I,rfl⟩:=Z;obtain ⟨b,vs,J,B,U⟩:=R.lst hs;rw [I] at J; cases J;refine ⟨a,xs,vs,r,ys,rfl,B,U,Y,fun us v ru O=>?_⟩;have x:=Ext.put (o':=.lst us) (E6 I) B;exact h _ ρ x (R.put I B ru) v (O.ext x)
   ·exact h.elim
  ·exact h.elim
 ·exact h.elim
def J4:MF:=fun st p ps=>match ps with
 | [y]=>chg st p fun xs=>if xs.length < lim then some (.non,xs ++ [y]) else none
 | _=>.stuck
theorem Qbi:MtS X E "list.append" J4:=⟨fun H ρ st p ps x xs Q R U rs h=>by
 unfold J4 at h
 split at h
 ·obtain ⟨v,rfl,r⟩:=Ze rs;obtain ⟨a,ys,vs,Y,zs,rfl,J,I,B,k⟩:=Q50 R U h
  split at B
  ·rename_i O;cases B;exact WM.of Qbg ⟨a,vs,v,rfl,rfl,J,by rw [<- I.length]; exact E2 O yn,k _ _ (I.append (RepL.cons r RepL.nil)) rfl⟩
  ·cases B
 ·exact h.elim⟩
def X5:MF:=fun st p ps=>match ps with
 | [q]=>match X7 st q with
  | some ys=>chg st p fun xs=>if xs.length + ys.length<=lim then some (.non,xs ++ ys) else none
  | none=>.stuck
 | _=>.stuck
theorem Qbh:MtS X E "list.extend" X5:=⟨fun H ρ st p ps x xs Q R Z rs h=>by
 unfold X5 at h
 split at h
 ·obtain ⟨v,rfl,r⟩:=Ze rs
  split at h
  ·rename_i ws Y;obtain ⟨b,us,rfl,U,rb⟩:=Q1g R r Y;obtain ⟨a,ys,vs,r0,zs,rfl,J,I,B,k⟩:=Q50 R Z h
   split at B
   ·rename_i O;cases B;exact WM.of Qbe ⟨a,b,vs,us,rfl,rfl,J,U,by rw [<- I.length,<- rb.length]; exact Yr O,k _ _ (I.append rb) rfl⟩
   ·cases B
  ·exact h.elim
 ·exact h.elim⟩
def Qru:MF:=fun st p ps=>match ps with
 | []=>chg st p fun xs=>some (.non,xs.reverse)
 | _=>.stuck
def Q07:MF:=fun st p ps=>match ps with
 | []=>chg st p fun _=>some (.non,[])
 | _=>.stuck
theorem ms_clear:MtS X E "list.clear" Q07:=⟨fun H ρ st p ps x xs Q R J rs h=>by
 unfold Q07 at h
 split at h
 ·cases rs;obtain ⟨a,ys,vs,U,zs,rfl,B,O,I,k⟩:=Q50 R J h;cases I;exact WM.of Qf5 ⟨a,vs,rfl,rfl,B,k _ _ rfl rfl⟩
 ·exact h.elim⟩
theorem Qb2 (U:SimE X E o mo) (O:SimA X E [e] mr) (B:bC o "append" X.env (aL o X.env)=aL o X.env:=by rfl)
  (J:((aX cpos (aN [e] X.env)).all (fun x=>!x.1) && (backToKw cpos (keywordEach [] X.env)).all (fun x=>x.1.isSome) && decide ([e].length + ([]:List Keyword).length + (if ([]:List Keyword).isEmpty then 0 else 1) < 30))=true:=by rfl)
  (I:(apos.endLine == cpos.line)=true:=by rfl) (hs:aN [e] X.env=(false,aL e X.env) :: aN [] X.env:=by rfl):SimE X E (.Call (.Attribute o "append" apos) [e] [] cpos) (mBM J4 mo mr):=
 Qks PySem.F.plainAttrs_list PySem.F.slot_list_append PySem.F.type_list_append Qbi U O B J I hs
theorem Qaz (U:SimE X E o mo) (O:SimA X E [e] mr) (B:bC o "extend" X.env (aL o X.env)=aL o X.env:=by rfl)
  (J:((aX cpos (aN [e] X.env)).all (fun x=>!x.1) && (backToKw cpos (keywordEach [] X.env)).all (fun x=>x.1.isSome) && decide ([e].length + ([]:List Keyword).length + (if ([]:List Keyword).isEmpty then 0 else 1) < 30))=true:=by rfl)
  (I:(apos.endLine == cpos.line)=true:=by rfl) (hs:aN [e] X.env=(false,aL e X.env) :: aN [] X.env:=by rfl):SimE X E (.Call (.Attribute o "extend" apos) [e] [] cpos) (mBM X5 mo mr):=
 Qks PySem.F.plainAttrs_list PySem.F.slot_list_extend PySem.F.type_list_extend Qbh U O B J I hs
end
section
mutual
def fz (n:Nat) (st:Q0):Nat->PV->Option PV
 | 0,_=>none
 | _ + 1,.non=>some .non
 | _ + 1,.bl b=>some (.bl b)
 | _ + 1,.int i=>some (.int i)
 | _ + 1,.str x=>some (.str x)
 | k + 1,.tup xs=>(fzL n st k xs).map .tup
 | k + 1,.lst xs=>(fzL n st k xs).map .lst
 | k + 1,.fro xs=>(fzL n st k xs).map .fro
 | _ + 1,.dic=>some .dic
 | k + 1,.ref i=>if i < n then some (.ref i) else match st[i]? with
  | some (.lst xs)=>(fzL n st k xs).map .lst
  | _=>none
def fzL (n:Nat) (st:Q0):Nat->List PV->Option (List PV)
 | _,[]=>some []
 | k,x :: xs=>(fz n st k x).bind fun y=>(fzL n st k xs).map (y :: ·)
end
theorem zw :∀ {m k:Nat} {p:PV},Qz m p=true->m < k->fz n st k p=some p:=by
 intro m
 induction m with
 | zero=>
  intro k p g J;obtain ⟨k,rfl⟩:∃ j,k=j + 1:=⟨k - 1,by omega⟩;cases p with
  | tup _=>cases g
  | lst _=>cases g
  | fro _=>cases g
  | ref _=>cases g
  | dic=>cases g
  | _=>rw [fz]
 | succ m O=>
  intro k p g J;obtain ⟨k,rfl⟩:∃ j,k=j + 1:=⟨k - 1,by omega⟩;have B:∀ xs:List PV,xs.all (Qz m)=true->fzL n st k xs=some xs:=by
   intro xs
   induction xs with
   | nil=>intro _; rw [fzL]
   | cons x xs I=>
    intro g;rw [List.all_cons,L8] at g;rw [fzL,O g.1 (by omega),I g.2]; rfl
  cases p with
  | tup xs=>rw [fz,B xs g]; rfl
  | lst xs=>rw [fz,B xs g]; rfl
  | fro xs=>rw [fz,B xs g]; rfl
  | ref _=>cases g
  | dic=>cases g
  | _=>rw [fz]
section
variable {H:Hp} {ρ:Tk} {st:Q0} {tr0 rest hs:List aB}
theorem Qg5 (R:Rel H ρ st) (ht:ρ.tr=tr0 ++ rest) (hh:∀ a,a∈hs->a∈ρ.hid):∀ (k:Nat) {p p':PV} {v:V},Rep H ρ p v->fz tr0.length st k p=some p'->Rep H ⟨tr0,hs⟩ p' v:=by
 have O:∀ a,a∉ρ->a∉(⟨tr0,hs⟩:Tk):=fun a n z=>by
  rcases z with z | z
  ·exact n (.inl (by rw [ht]; exact M6 _ z))
  ·exact n (.inr (hh a z))
 intro k
 induction k with
 | zero=>intro p p' v r e; rw [fz] at e; cases e
 | succ k ih=>
  have hL:∀ {ps I:List PV} {vs:List V},RepL H ρ ps vs->fzL tr0.length st k ps=some I->RepL H ⟨tr0,hs⟩ I vs:=by
   intro ps
   induction ps with
   | nil=>intro I vs r e; rw [fzL] at e; cases e; exact r
   | cons x xs a2=>
    intro I vs r e;obtain ⟨v,t,rfl,r1,r2⟩:=r;rw [fzL] at e;cases J:fz tr0.length st k x with
    | none=>rw [J] at e; cases e
    | some y=>
     rw [J] at e;have e:(fzL tr0.length st k xs).map (y :: ·)=some I:=e;cases B:fzL tr0.length st k xs with
     | none=>rw [B] at e; cases e
     | some ys=>
      rw [B] at e;cases e;exact ⟨v,t,rfl,ih r1 J,a2 r2 B⟩
  intro p p' v r e;cases p with
  | non=>rw [fz] at e; cases e; exact r
  | bl b=>rw [fz] at e; cases e; exact r
  | int i=>rw [fz] at e; cases e; exact r
  | str x=>rw [fz] at e; cases e; exact r
  | tup xs=>
   rw [fz] at e;obtain ⟨a,vs,J,Y,U,Z⟩:=r;cases B:fzL tr0.length st k xs with
   | none=>rw [B] at e; cases e
   | some ys=>rw [B] at e; cases e; exact ⟨a,vs,J,Y,O a U,hL Z B⟩
  | lst xs=>
   rw [fz] at e;obtain ⟨a,vs,J,Y,U,Z⟩:=r;cases B:fzL tr0.length st k xs with
   | none=>rw [B] at e; cases e
   | some ys=>rw [B] at e; cases e; exact ⟨a,vs,J,Y,O a U,hL Z B⟩
  | fro xs=>
   rw [fz] at e;obtain ⟨a,vs,J,Y,U,Z⟩:=r;cases B:fzL tr0.length st k xs with
   | none=>rw [B] at e; cases e
   | some ys=>rw [B] at e; cases e; exact ⟨a,vs,J,Y,O a U,hL Z B⟩
  | dic=>
   rw [fz] at e;cases e;obtain ⟨a,J,Y,U⟩:=r;exact ⟨a,J,Y,O a U⟩
  | ref i=>
   rw [fz] at e;obtain ⟨a,ea,rfl⟩:=r
   by_cases hi:i < tr0.length
   ·rw [bN hi] at e;cases e;rw [ht,O6 hi] at ea;exact ⟨a,ea,rfl⟩
   ·rw [bO hi] at e
    split at e
    ·rename_i xs a1;obtain ⟨b,vs,f1,f2,f3⟩:=R.lst a1;rw [ea] at f1; cases f1;cases B:fzL tr0.length st k xs with
     | none=>rw [B] at e; cases e
     | some ys=>
      rw [B] at e; cases e;refine ⟨a,vs,rfl,f2,fun z=>?_,hL f3 B⟩;rcases z with z | z
      ·have z:a∈tr0:=z;obtain ⟨j,hj,ej⟩:=List.getElem_of_mem z;have g1:ρ.tr[j]?=some a:=by rw [ht,O6 hj,O2 hj,ej]
       have l1:=O0.mp g1;have l2:=O0.mp ea;have:=Q36 R.nd l1.1 l2.1 (l1.2.trans l2.2.symm);omega
      ·exact R.ap a (hh a z) (E6 ea)
    ·cases e
mutual
def bel (n:Nat):PV->Prop
 | .tup xs=>belL n xs
 | .lst xs=>belL n xs
 | .fro xs=>belL n xs
 | .ref i=>i < n
 | _=>True
def belL (n:Nat):List PV->Prop
 | []=>True
 | x :: xs=>bel n x/\belL n xs
end
mutual
theorem Rep.bel:∀ {p:PV} {v:V},Rep H ρ p v->bel ρ.tr.length p
 | .non,_,_=>by simp [Sm.bel]
 | .bl _,_,_=>by simp [Sm.bel]
 | .int _,_,_=>by simp [Sm.bel]
 | .str _,_,_=>by simp [Sm.bel]
 | .tup ps,_,⟨_,_,_,_,_,r⟩=>by rw [Sm.bel]; exact RepL.bel r
 | .lst ps,_,⟨_,_,_,_,_,r⟩=>by rw [Sm.bel]; exact RepL.bel r
 | .fro ps,_,⟨_,_,_,_,_,r⟩=>by rw [Sm.bel]; exact RepL.bel r
 | .ref i,_,⟨_,e,_⟩=>by rw [Sm.bel]; exact (O0.mp e).1
 | .dic,_,_=>by simp [Sm.bel]
theorem RepL.bel:∀ {ps:List PV} {vs:List V},RepL H ρ ps vs->belL ρ.tr.length ps
 | [],_,_=>by simp [belL]
 | p :: ps,_,⟨_,_,_,B,I⟩=>by rw [belL]; exact ⟨Rep.bel B,RepL.bel I⟩
end
mutual
theorem Rep.less (B:ρ.tr=tr0 ++ rest) (J:∀ a,a∈hs->a∈ρ.hid):∀ {p:PV} {v:V},Sm.bel tr0.length p->Rep H ρ p v->Rep H ⟨tr0,hs⟩ p v
 | .non,_,_,r=>r
 | .bl _,_,_,r=>r
 | .int _,_,_,r=>r
 | .str _,_,_,r=>r
 | .tup ps,_,b,⟨a,vs,e,O,I,r⟩=>⟨a,vs,e,O,fun z=>I (z.imp (fun z=>by rw [B]; exact M6 _ z) (J a)),RepL.less B J (by rw [Sm.bel] at b; exact b) r⟩
 | .lst ps,_,b,⟨a,vs,e,O,I,r⟩=>⟨a,vs,e,O,fun z=>I (z.imp (fun z=>by rw [B]; exact M6 _ z) (J a)),RepL.less B J (by rw [Sm.bel] at b; exact b) r⟩
 | .fro ps,_,b,⟨a,vs,e,O,I,r⟩=>⟨a,vs,e,O,fun z=>I (z.imp (fun z=>by rw [B]; exact M6 _ z) (J a)),RepL.less B J (by rw [Sm.bel] at b; exact b) r⟩
 | .ref i,_,b,⟨a,e,U⟩=>⟨a,by rw [Sm.bel] at b; rw [B,O6 b] at e; exact e,U⟩
 | .dic,_,_,⟨a,e,O,I⟩=>⟨a,e,O,fun z=>I (z.imp (fun z=>by rw [B]; exact M6 _ z) (J a))⟩
theorem RepL.less (B:ρ.tr=tr0 ++ rest) (I:∀ a,a∈hs->a∈ρ.hid):∀ {ps:List PV} {vs:List V},belL tr0.length ps->RepL H ρ ps vs->RepL H ⟨tr0,hs⟩ ps vs
 | [],_,_,r=>r
 | p :: ps,_,b,⟨v,t,e,J,O⟩=>by
  rw [belL] at b;exact ⟨v,t,e,Rep.less B I b.1 J,RepL.less B I b.2 O⟩
end
end
theorem Q5v {H':Hp} {ρ':Tk} {st':Q0} (R:Rel H ρ st) (x:Ext H ρ H' ρ') (R':Rel H' ρ' st') (hp:st <+: st'):Ext H ρ H' ρ/\Rel H' ρ st:=by
 obtain ⟨rest,O⟩:=x.pre;obtain ⟨Z,hm⟩:=hp;refine ⟨⟨List.prefix_refl _,fun _ h=>h,fun _ h=>.inl h,x.keep,fun _ h=>.inl h,x.old,x.frz⟩,R.len,R.nd,fun a Y=>let ⟨o,e,n⟩:=R.hd a Y; ⟨o,x.keep a o e (R.ap a Y),n⟩,R.ap,fun i a c h1 h2=>?_⟩
 have hi:i < st.length:=(O0.mp h2).1;have q:=R'.cell i a c (by rw [<- O,O6 (O0.mp h1).1]; exact h1) (by rw [<- hm,O6 hi]; exact h2);have U:=R.cell i a c h1 h2;cases c with
 | lst ps=>
  obtain ⟨vs,J,B⟩:=q;obtain ⟨us,_,I⟩:=U;exact ⟨vs,J,RepL.less (ρ:=ρ') (tr0:=ρ.tr) (hs:=ρ.hid) O.symm x.hidM I.bel B⟩
 | dic ps=>
  obtain ⟨vs,J,B⟩:=q;obtain ⟨us,_,I⟩:=U;exact ⟨vs,J,B.1,RepL.less (ρ:=ρ') (tr0:=ρ.tr) (hs:=ρ.hid) O.symm x.hidM I.2.bel B.2⟩
 | dtp ps=>
  obtain ⟨vs,J,B⟩:=q;obtain ⟨us,_,I⟩:=U;exact ⟨vs,J,B.1,RepL.less (ρ:=ρ') (tr0:=ρ.tr) (hs:=ρ.hid) O.symm x.hidM I.2.bel B.2⟩
 | frd ps=>
  obtain ⟨vs,J,B⟩:=q;obtain ⟨us,_,I⟩:=U;exact ⟨vs,J,B.1,RepL.less (ρ:=ρ') (tr0:=ρ.tr) (hs:=ρ.hid) O.symm x.hidM I.2.bel B.2⟩
 | frt ps=>
  obtain ⟨vs,J,B⟩:=q;obtain ⟨us,_,I⟩:=U;exact ⟨vs,J,B.1,RepL.less (ρ:=ρ') (tr0:=ρ.tr) (hs:=ρ.hid) O.symm x.hidM I.2.bel B.2⟩
 | obj C ps=>
  obtain ⟨vs,J,B⟩:=q;obtain ⟨us,_,I⟩:=U;exact ⟨vs,J,B.1,RepL.less (ρ:=ρ') (tr0:=ρ.tr) (hs:=ρ.hid) O.symm x.hidM I.2.bel B.2⟩
abbrev FN:=List PV->Q0->Res PV
variable {FF:FN}
open Classical in
def fin (st:Q0) (v:PV) (st':Q0):Res PV:=if st <+: st' then okO st (fz st.length st' 16 v) else .ok v st'
open Classical in
def Qqy (st:Q0) (x:Exc) (st':Q0):Res PV:=if st <+: st' then (match x.fs with
 | none=>.exc x st
 | some (n,p)=>match fz st.length st' 16 p with
  | some q=>.exc ⟨x.cls,some (n,q)⟩ st
  | none=>.stuck) else .exc x st'
def Qk (body:MS) (nl:Nat):FN:=fun ps st=>match body (ps.map some ++ List.replicate (nl - ps.length) none) st with
 | .rt v st'=>fin st v st'
 | .nx _ st'=>fin st .non st'
 | .exc x st'=>Qqy st x st'
 | _=>.stuck
theorem Qaa {st':Q0} (R:Rel H ρ st) (h:Acc mg E H ρ (QV Q) (fin st p st')):∀ v H' ρ',Ext H ρ H' ρ'->Rel H' ρ' st'->Rep H' ρ' p v->Q v H':=fun v H' ρ' x B r=>by
 unfold fin at h
 by_cases I:st <+: st'
 ·rw [bN I] at h;cases e:fz st.length st' 16 p with
  | none=>rw [e] at h; exact h.elim
  | some q=>
   rw [e] at h;obtain ⟨O,R2⟩:=Q5v R x B I;obtain ⟨rest,J⟩:=x.pre;rw [<- R.len] at e;exact h H' ρ O R2 v (Qg5 (tr0:=ρ.tr) (hs:=ρ.hid) B J.symm x.hidM 16 r e)
 ·rw [bO I] at h;exact h H' ρ' x B v r
def spF (mg:Str->Option aA) (n:Nat) (F:FN):Sp:=fun vs H Q E=>vs.length=n/\∃ ρ st ps,Rel H ρ st/\RepL H ρ ps vs/\Acc mg E H ρ (QV Q) (F ps st)
theorem Q2x (r:RepL H ρ ps vs):EnvR H ρ (ps.map some ++ List.replicate (N.length - ps.length) none) (L2.start N vs):=by
 have I:=r.length;unfold L2.start;refine ⟨by simp [I],fun i p e=>?_⟩
 by_cases hi:i < ps.length
 ·rw [O6 (by simpa using hi),F4] at e;rw [O6 (by simp; omega),F4];cases q:ps[i]? with
  | none=>rw [q] at e; cases e
  | some O=>
   rw [q] at e;cases e;obtain ⟨v,J,B⟩:=r.get q;exact ⟨v,by rw [J]; rfl,B⟩
 ·rw [D5 (by simpa using hi),List.getElem?_replicate] at e
  split at e <;> cases e
section
variable {P:aM} {w:aJ} {K:PySem.W.Frag} {mg:Str->Option aA} {base:Heap}
theorem Qqx {qual:Str} {st:aK} {f:aB} {ps:List Str} {k:Nat} {m:MS} (F:Fun K x qual st f fd) (S:FnScope N ps (Qa st))
  (hb:∀ (O:aA) (A:aQ) (outer:List PySem.Env) (s:aC) (H:Hp) (E:XK),Room k (A.deeper (PyProof.Rows.envOfC qual (Qa st) s.heap.objs.size f O))->SimB (cxD P w K mg base N qual (Qa st) f O A outer s H E) E (Js st) m) :
  FnOk P w K mg base (CXD P w) (k + 1) f fd ps (spF mg ps.length (Qk m N.length)):=by
 refine Fun.okD F S (fun vs H Q E h=>h.1) fun O A outer s H vs Q E hr a1=>⟨_,Q11,?_⟩
 obtain ⟨hl,ρ,J,Z,R,rl,B⟩:=a1;refine (hb O A outer s H E hr).run _ (L2.start N vs) H ρ J _ R (Q2x rl) ?_;unfold Qk at B;cases Y:m (Z.map some ++ List.replicate (N.length - Z.length) none) J with
 | rt v I=>rw [Y] at B; exact Qaa R B
 | nx Γ I=>rw [Y] at B; exact fun a2 H' ρ' U R' G'=>Qaa R B .non H' ρ' U R' rfl
 | bk Γ I=>rw [Y] at B; exact B.elim
 | ct Γ I=>rw [Y] at B; exact B.elim
 | stuck=>rw [Y] at B; exact B.elim
 | exc y I=>
  rw [Y] at B;have B:Acc mg E H ρ (QV Q) (Qqy J y I):=B;intro C dv H' ρ' hm U R' hf;unfold Qqy at B
  by_cases hp:J <+: I
  ·rw [bN hp] at B;obtain ⟨x2,R2⟩:=Q5v R U R' hp;obtain ⟨cls,fs⟩:=y;cases fs with
   | none=>exact B C dv H' ρ hm x2 R2 hf
   | some np=>
    obtain ⟨nm,p⟩:=np;simp only at B;cases e:fz J.length I 16 p with
    | none=>rw [e] at B; exact B.elim
    | some q=>
     rw [e] at B;obtain ⟨rest,ht⟩:=U.pre;rw [<- R.len] at e;obtain ⟨dx,v,e1,e2,e3,e4⟩:=hf;refine B C dv H' ρ hm x2 R2 ⟨dx,v,e1,e2,fun z=>e3 (z.imp (fun z=>by rw [<- ht]; exact M6 _ z) (U.hidM dx)),Qg5 (tr0:=ρ.tr) (hs:=ρ.hid) R' ht.symm U.hidM 16 e4 e⟩
  ·rw [bO hp] at B;exact B C dv H' ρ' hm U R' hf
end
theorem Qk2 {P:aM} {w:aJ} {mg:Str->Option aA} {base:Heap} {qual:Str} {st:aK} {f:aB} {ps:List Str} {k nl:Nat} {m:MS} (F:Fun K x qual st f fd) (S:FnScope N ps (Qa st)) (O:ps.length=n) (I:N.length=nl) (J:FF=Qk m nl)
  (U:∀ (B:aA) (A:aQ) (outer:List PySem.Env) (s:aC) (H:Hp) (E:XK),Room k (A.deeper (PyProof.Rows.envOfC qual (Qa st) s.heap.objs.size f B))->SimB (cxD P w K mg base N qual (Qa st) f B A outer s H E) E (Js st) m) :
  FnOk P w K mg base (CXD P w) (k + 1) f fd ps (spF mg n FF):=by
 subst O; subst I; subst J;exact Qqx F S U
structure DefS (P:aM) (w:aJ) (K:PySem.W.Frag) (mg:Str->Option aA) (base:Heap) (k:Nat) (x:Str) (n:Nat) (F:FN):Prop where
 ex:∃ (f:aB) (fd:aP) (ps:List Str),FnOk P w K mg base (CXD P w) k f fd ps (spF mg n F)/\mg x=some (.ref f)/\PySem.W.keepIn K (.ref f)=true/\Binds K fd ps []/\ps.length=n
def Qd (n:Nat) (F:FN) (mr:Gam->Q0->Res (List PV)):ME:=fun Γ st=>(mr Γ st).bind fun ps st1=>if ps.length=n then F ps st1 else .stuck
section
variable {X:Cx} {E:XK} {k n:Nat} {x:Str} {F:FN} {p pos:Pos} {e:aH} {es:List aH} {mr:Gam->Q0->Res (List PV)}
theorem qa (D:DefS X.prog X.w X.K X.mg X.base k x n F) (hr:Room k X.A) (hx:Q2a (CXD X.prog X.w) X E) (hg:Gl X x) (ha:SimA X E (e :: es) mr) (J:(x == ("__debug__" : Str))=false:=by decide)
  (he:aN (e :: es) X.env=(false,aL e X.env) :: aN es X.env:=by rfl) (O:(aX pos (aN es X.env)).any (·.1)=false:=by rfl):SimE X E (.Call (.Name x p) (e :: es) [] pos) (Qd n F mr):=by
 obtain ⟨f,fd,ps,hF,hm,hk,hb,hl⟩:=D.ex;exact ⟨fun Γ σ H ρ st Q R G h=>WE.of (Qj5 hF hr hg hm hk hb .nil hx xx J he O) (ha.use R G h.bind fun U I H1 ρ1 vs x1 Z G1 Y h1=>by
  by_cases B:U.length=n
  ·rw [bN B] at h1;show spF X.mg n F (vs ++ []) H1 Q E;rw [G7];exact ⟨by rw [<- Y.length]; exact B,ρ1,I,U,Z,Y,h1⟩
  ·rw [bO B] at h1; exact h1.elim)⟩
end
end
@[simp] theorem Qg (a:α) (st:Q0) (f:α->Q0->Res β):(Res.ok a st).bind f=f a st:=rfl
@[simp] theorem Qrd (f:α->Q0->Res β):(Res.stuck:Res α).bind f=.stuck:=rfl
@[simp] theorem Qv5 (x:Exc) (st:Q0) (f:α->Q0->Res β):(Res.exc x st:Res α).bind f=.exc x st:=rfl
@[simp] theorem Vt (a:α) (st:Q0) (f:α->Q0->SR):(Res.ok a st).sbind f=f a st:=rfl
@[simp] theorem Qkt (f:α->Q0->SR):(Res.stuck:Res α).sbind f=.stuck:=rfl
@[simp] theorem Qrr (x:Exc) (st:Q0) (f:α->Q0->SR):(Res.exc x st:Res α).sbind f=.exc x st:=rfl
@[simp] theorem Qvq (i:Nat) (Γ:Gam) (st:Q0):Q2 i Γ st=(match Γ[i]? with | some (some p)=>.ok p st | _=>.stuck):=rfl
@[simp] theorem Qxj (p:PV) (Γ:Gam) (st:Q0):mC p Γ st=.ok p st:=rfl
@[simp] theorem Qq6 (o:OP) (a b:ME) (Γ:Gam) (st:Q0):mOp o a b Γ st=(a Γ st).bind fun x B=>(b Γ B).bind fun y I=>o I x y:=rfl
@[simp] theorem Qxc (b:Bool) (st:Q0):asB (.bl b) st=.ok b st:=rfl
@[simp] theorem Qmj (m:ME) (Γ:Gam) (st:Q0):toB m Γ st=(m Γ st).bind asB:=rfl
def Qn7 {α:Type} (x:PV) (A B:Res α):Res α:=match x with
 | .bl true=>A
 | .bl false=>B
 | _=>.stuck
@[simp] theorem Qvc (b:Bool) (A B:Res α):Qn7 (.bl b) A B=if b=true then A else B:=by cases b <;> rfl
@[simp] theorem Qbm (o o':OP) (a b c:ME) (Γ:Gam) (st:Q0):Vz o o' a b c Γ st=(a Γ st).bind fun x I=>(b Γ I).bind fun y J=>(o J x y).bind fun k B=>Qn7 k ((c Γ B).bind fun z O=>o' O y z) (.ok (.bl false) B):=by
 unfold Vz;refine congrArg _ (funext fun x=>funext fun I=>congrArg _ (funext fun y=>funext fun J=>congrArg _ (funext fun k=>funext fun B=>?_)))
 cases k with
 | bl b=>cases b <;> rfl
 | _=>rfl
@[simp] theorem Qvv (a b:ME) (Γ:Gam) (st:Q0):zk a b Γ st=(a Γ st).bind fun x B=>Qn7 x (b Γ B) (.ok (.bl false) B):=by
 unfold zk;refine congrArg _ (funext fun x=>funext fun B=>?_);cases x with
 | bl b=>cases b <;> rfl
 | _=>rfl
@[simp] theorem Qvr (a:ME) (Γ:Gam) (st:Q0):Qjn a Γ st=(a Γ st).bind fun x B=>(match x with | .bl k=>.ok (.bl (!k)) B | _=>.stuck):=rfl
@[simp] theorem Qvt (a:ME) (Γ:Gam) (st:Q0):Qjp a Γ st=(a Γ st).bind fun x B=>(match x with | .int k=>.ok (.int (-k)) B | _=>.stuck):=rfl
@[simp] theorem Q5h (a b:MT) (Γ:Gam) (st:Q0):Vc a b Γ st=(a Γ st).bind fun k B=>if k=true then b Γ B else .ok false B:=rfl
@[simp] theorem Q96 (a b:MT) (Γ:Gam) (st:Q0):qp a b Γ st=(a Γ st).bind fun k B=>if k=true then .ok true B else b Γ B:=rfl
@[simp] theorem Qcx (a:MT) (Γ:Gam) (st:Q0):Yh a Γ st=(a Γ st).bind fun k B=>.ok (!k) B:=rfl
@[simp] theorem Qx3 (c:MT) (a b:ME) (Γ:Gam) (st:Q0):mIf c a b Γ st=(c Γ st).bind fun k B=>if k=true then a Γ B else b Γ B:=rfl
@[simp] theorem Qvs (Γ:Gam) (st:Q0):Q6 Γ st=.ok [] st:=rfl
@[simp] theorem Qfe (m:ME) (mr:ML) (Γ:Gam) (st:Q0):Q1 m mr Γ st=(m Γ st).bind fun p B=>(mr Γ B).bind fun ps I=>.ok (p :: ps) I:=rfl
@[simp] theorem Qjh (mr:ML) (Γ:Gam) (st:Q0):Z5 mr Γ st=(mr Γ st).bind fun ps B=>if ps.length<=lim then .ok (.tup ps) B else .stuck:=rfl
@[simp] theorem Qvu (mr:ML) (Γ:Gam) (st:Q0):Q88 mr Γ st=(mr Γ st).bind fun ps B=>if ps.length<=lim then .ok (.lst ps) B else .stuck:=rfl
@[simp] theorem Qu3 (mr:ML) (Γ:Gam) (st:Q0):Uc mr Γ st=(mr Γ st).bind fun ps B=>if ps.length<=lim then .ok ps B else .stuck:=rfl
@[simp] theorem Qfc (m:ME) (l h:Gam->Q0->Res (Option Int)) (Γ:Gam) (st:Q0):mSl m l h Γ st=(m Γ st).bind fun p I=>(l Γ I).bind fun lo J=>(h Γ J).bind fun hi B=>oSl B p lo hi:=rfl
@[simp] theorem Qq7 (Γ:Gam) (st:Q0):Yz Γ st=.ok none st:=rfl
@[simp] theorem Qu1 (m:ME) (Γ:Gam) (st:Q0):K2 m Γ st=(m Γ st).bind fun p B=>(match p with | .int i=>.ok (some i) B | _=>.stuck):=rfl
@[simp] theorem Qfg (o:CF) (mr:ML) (Γ:Gam) (st:Q0):Qj o mr Γ st=(mr Γ st).bind fun ps B=>o B ps:=rfl
@[simp] theorem Qjq (T:String) (m:ME) (Γ:Gam) (st:Q0):ym T m Γ st=(m Γ st).bind fun p B=>if Xy B p=true then .stuck else .ok (.bl (isI T (dpv B p))) B:=rfl
@[simp] theorem Qut (st:Q0):Xy st .non=false:=rfl
@[simp] theorem Qvx (st:Q0) (b:Bool):Xy st (.bl b)=false:=rfl
@[simp] theorem Quv (st:Q0) (b:Int):Xy st (.int b)=false:=rfl
@[simp] theorem Qur (st:Q0) (b:Str):Xy st (.str b)=false:=rfl
@[simp] theorem Quq (st:Q0) (b:List PV):Xy st (.tup b)=false:=rfl
@[simp] theorem Quu (st:Q0) (b:List PV):Xy st (.lst b)=false:=rfl
@[simp] theorem Quw (st:Q0) (b:List PV):Xy st (.fro b)=false:=rfl
@[simp] theorem Qux (st:Q0):Xy st .dic=false:=rfl
@[simp] theorem Qus (st:Q0) (i:Nat):Xy st (.ref i)=(match st[i]? with | some (.frd _)=>true | some (.frt _)=>true | some (.obj _ _)=>true | _=>false):=rfl
@[simp] theorem Qw1 (st:Q0):dpv st .non=.non:=rfl
@[simp] theorem Qxa (st:Q0) (b:Bool):dpv st (.bl b)=(.bl b):=rfl
@[simp] theorem Qw3 (st:Q0) (b:Int):dpv st (.int b)=(.int b):=rfl
@[simp] theorem Qw0 (st:Q0) (b:Str):dpv st (.str b)=(.str b):=rfl
@[simp] theorem Qvz (st:Q0) (b:List PV):dpv st (.tup b)=(.tup b):=rfl
@[simp] theorem Qw2 (st:Q0) (b:List PV):dpv st (.lst b)=(.lst b):=rfl
@[simp] theorem Qw4 (st:Q0) (b:List PV):dpv st (.fro b)=(.fro b):=rfl
@[simp] theorem Qx9 (st:Q0):dpv st .dic=.dic:=rfl
@[simp] theorem Qxk (st:Q0) (i:Nat):dpv st (.ref i)=(match st[i]? with | some (.dic _)=>.dic | some (.dtp _)=>.dic | _=>.ref i):=rfl
@[simp] theorem Qjg (m:ML) (Γ:Gam) (st:Q0):Wv m Γ st=(m Γ st).bind fun ps B=>.ok (.lst ps) B:=rfl
@[simp] theorem Qji (m:ML) (Γ:Gam) (st:Q0):V5 m Γ st=(m Γ st).bind fun ps B=>.ok (.ref B.length) (B ++ [.lst ps]):=rfl
@[simp] theorem Qbk (cap:List (Option Nat)) (ga:GA) (mi:MI) (mt:MT) (me:ME) (Γ:Gam) (st:Q0):Qy cap ga mi mt me Γ st=(mi Γ st).bind fun I B=>noX (Jf ga mt me I.2 (Z7 cap Γ) I.1 B):=rfl
@[simp] theorem Qu0 (Γ:Gam) (st:Q0):Jt Γ st=.ok true st:=rfl
@[simp] theorem Qbn (n:Nat) (F:FN) (mr:ML) (Γ:Gam) (st:Q0):Qd n F mr Γ st=(mr Γ st).bind fun ps B=>if ps.length=n then F ps B else .stuck:=rfl
@[simp] theorem Qu2 (Γ:Gam) (st:Q0):J8 Γ st=.nx Γ st:=rfl
@[simp] theorem Q6h (a b:MS) (Γ:Gam) (st:Q0):Qc a b Γ st=(match a Γ st with | .nx Γ1 B=>b Γ1 B | r=>r):=rfl
@[simp] theorem Q6i (m:ME) (Γ:Gam) (st:Q0):Yj m Γ st=(m Γ st).sbind fun _ B=>.nx Γ B:=rfl
@[simp] theorem Qjm (m:ME) (Γ:Gam) (st:Q0):J0 m Γ st=(m Γ st).sbind fun p B=>.rt p B:=rfl
@[simp] theorem Qjj (i:Nat) (m:ME) (Γ:Gam) (st:Q0):Qu i m Γ st=(m Γ st).sbind fun p B=>.nx (Γ.set i (some p)) B:=rfl
@[simp] theorem Q9v (c:MT) (a b:MS) (Γ:Gam) (st:Q0):Zp c a b Γ st=(c Γ st).sbind fun k B=>if k=true then a Γ B else b Γ B:=rfl
@[simp] theorem Qjr (ga:GA) (mi:MI) (b:MS) (Γ:Gam) (st:Q0):Yw ga mi b Γ st=(mi Γ st).sbind fun I B=>Jw ga b I.2 I.1 Γ B:=rfl
@[simp] theorem Qjk (m:ME) (Γ:Gam) (st:Q0):V7 m Γ st=(m Γ st).bind fun p B=>(match Zc B p with | some (xs,w)=>if xs.length<=lim then .ok (xs,w) B else .stuck | none=>.stuck):=rfl
@[simp] theorem Q86 (mr:ML) (Γ:Gam) (st:Q0):Jq mr Γ st=(mr Γ st).bind fun ps B=>(match ps with | [.int j]=>if -(lim:Int)<=j/\j<=lim then .ok (Jj 0 j.toNat,[]) B else .stuck | _=>.stuck):=rfl
@[simp] theorem Q85 (mr:ML) (Γ:Gam) (st:Q0):zj mr Γ st=(mr Γ st).bind fun ps B=>(match ps with | [.int i,.int j]=>if -(lim:Int)<=i/\i<=lim/\-(lim:Int)<=j/\j<=lim then .ok (Jj i (j - i).toNat,[]) B else .stuck | _=>.stuck):=rfl
@[simp] theorem Qvp (mr:ML) (Γ:Gam) (st:Q0):yk mr Γ st=(mr Γ st).bind fun ps B=>(match ps with | [p,q]=>(match Zc B p,Zc B q with | some (xs,w),some (ys,I)=>if xs.length<=lim then .ok (Xf xs ys,w ++ I) B else .stuck | _,_=>.stuck) | _=>.stuck):=rfl
@[simp] theorem Qu4 (mr:ML) (Γ:Gam) (st:Q0):qu mr Γ st=(mr Γ st).bind fun ps B=>(match ps with | [p]=>(match Zc B p with | some (xs,w)=>if xs.length<=lim then .ok (W9 0 xs,w) B else .stuck | none=>.stuck) | _=>.stuck):=rfl
@[simp] theorem Qq9 (f:MF) (mo:ME) (mr:ML) (Γ:Gam) (st:Q0):mBM f mo mr Γ st=(mo Γ st).bind fun p B=>(match Y1 B p with | some _=>(mr Γ B).bind fun ps I=>f I p ps | none=>.stuck):=rfl
@[simp] theorem Qjs (ga:GA) (m:ME) (Γ:Gam) (st:Q0):Q8a ga m Γ st=(m Γ st).sbind fun p B=>(match ga p Γ with | some Γ1=>.nx Γ1 B | none=>.stuck):=rfl
@[simp] theorem Qbj (mo mi m:ME) (Γ:Gam) (st:Q0):jd mo mi m Γ st=(m Γ st).sbind fun p J=>(mo Γ J).sbind fun o O=>(mi Γ O).sbind fun i B=>(match W8 B o i p with | some I=>.nx Γ I | none=>.stuck):=rfl
@[simp] theorem Qrv (x:Str) (m:ME) (Γ:Gam) (st:Q0):Q87 x m Γ st=(m Γ st).sbind fun _ B=>.exc ⟨x,none⟩ B:=rfl
@[simp] theorem Qrz (i:Nat) (p:PV) (Γ:Gam):Q4 i p Γ=some (Γ.set i (some p)):=rfl
@[simp] theorem Qum (Γ:Gam):Qw [] Γ=some Γ:=rfl
@[simp] theorem Qs0 (g:GA) (gs:GAs) (p:PV) (r:List PV) (Γ:Gam):Q5 g gs (p :: r) Γ=(g p Γ).bind (gs r):=rfl
@[simp] theorem Quk (gs:GAs) (ps:List PV) (Γ:Gam):Qv gs (.tup ps) Γ=gs ps Γ:=rfl
@[simp] theorem Qx0 (a:α) (st:Q0):noX (Res.ok a st)=.ok a st:=rfl
@[simp] theorem Qrt :noX (Res.stuck:Res α)=.stuck:=rfl
@[simp] theorem Qtq (st:Q0) (a:α):okO st (some a)=.ok a st:=rfl
@[simp] theorem Qtr (st:Q0):okO st (none:Option α)=.stuck:=rfl
@[simp] theorem Qxi (g:Int->Int->PV) (st:Q0) (a b:Int):oI g st (.int a) (.int b)=.ok (g a b) st:=rfl
@[simp] theorem Qty (st:Q0) (a b:Int):Yv st (.int a) (.int b)=.ok (.int (a + b)) st:=rfl
@[simp] theorem Qtx (st:Q0) (a b:List PV):Yv st (.tup a) (.tup b)=if a.length + b.length<=lim then .ok (.tup (a ++ b)) st else .stuck:=rfl
@[simp] theorem Qtu (st:Q0) (a b:Int):Q4h st (.int a) (.int b)=if (-(2 ^ 64) < a/\a < 2 ^ 64)\/(-(2 ^ 64) < b/\b < 2 ^ 64) then .ok (.int (a * b)) st else .stuck:=rfl
@[simp] theorem Qtt (st:Q0) (xs:List PV) (b:Int):Q4h st (.tup xs) (.int b)=if xs≠[]/\1<=b/\xs.length * b.toNat<=4096 then .ok (.tup (List.replicate b.toNat xs).flatten) st else .stuck:=rfl
@[simp] theorem Qtv (st:Q0) (a b:Int):Q67 st (.int a) (.int b)=if 0 < b then .ok (.int (a % b)) st else .stuck:=rfl
@[simp] theorem Qtw (st:Q0) (a b:Int):Qez st (.int a) (.int b)=if 0 < b/\b < 1073741824 then .ok (.int (a / b)) st else .stuck:=rfl
@[simp] theorem Qts (st:Q0) (a b:Int):Qje st (.int a) (.int b)=if 0<=b/\b<=1000000/\a.natAbs < 2 ^ 64 then .ok (.int (a ^ b.toNat)) st else .stuck:=rfl
@[simp] theorem Qvh (st:Q0) (a b:Int):oLt st (.int a) (.int b)=.ok (.bl (decide (a < b))) st:=rfl
@[simp] theorem Q4i (st:Q0) (a b:Int):oEq st (.int a) (.int b)=.ok (.bl (a == b)) st:=rfl
@[simp] theorem Q9q (st:Q0) (a b:Int):oNe st (.int a) (.int b)=.ok (.bl (!(a == b))) st:=rfl
@[simp] theorem Qwz (st:Q0) (a b:Bool):oEq st (.bl a) (.bl b)=.ok (.bl (a == b)) st:=rfl
@[simp] theorem Qwx (st:Q0) (a b:Bool):oNe st (.bl a) (.bl b)=.ok (.bl (!(a == b))) st:=rfl
@[simp] theorem Qvn (st:Q0) (a b:Str):oEq st (.str a) (.str b)=.ok (.bl (a == b)) st:=rfl
@[simp] theorem Qvg (st:Q0) (a b:Str):oNe st (.str a) (.str b)=.ok (.bl (!(a == b))) st:=rfl
@[simp] theorem Qvm (st:Q0) (p:PV):oIs st p .non=.ok (.bl (Q3d p)) st:=rfl
@[simp] theorem Qwy (st:Q0) (a b:Bool):oIs st (.bl a) (.bl b)=.ok (.bl (a == b)) st:=rfl
@[simp] theorem Q81 (st:Q0) (p:PV):j8 st p .non=.ok (.bl (!Q3d p)) st:=rfl
@[simp] theorem Qrs (st:Q0) (a b:Bool):j8 st (.bl a) (.bl b)=.ok (.bl (a != b)) st:=rfl
@[simp] theorem Qry (st:Q0) (xs:List PV):X7 st (.lst xs)=some xs:=rfl
@[simp] theorem Q8c (st:Q0) (xs:List PV):Y1 st (.lst xs)=some xs:=rfl
@[simp] theorem Qqb (st:Q0) (xs:List PV):Y1 st (.fro xs)=some xs:=rfl
@[simp] theorem Q30 (st:Q0) (xs:List PV):Zu st (.lst xs)=some xs:=rfl
@[simp] theorem Qrq (st:Q0) (xs:List PV):Zu st (.fro xs)=some xs:=rfl
@[simp] theorem Qay (st:Q0) (xs:List PV):Zu st (.tup xs)=some xs:=rfl
@[simp] theorem Qrn (st:Q0) (xs:List PV):Zc st (.lst xs)=some (xs,[]):=rfl
@[simp] theorem Qrp (st:Q0) (xs:List PV):Zc st (.fro xs)=some (xs,[]):=rfl
@[simp] theorem Qrm (st:Q0) (xs:List PV):Zc st (.tup xs)=some (xs,[]):=rfl
theorem Qbp {i:Nat} (h:st[i]?=some (.lst xs)):X7 st (.ref i)=some xs:=by simp only [X7,h]
@[simp] theorem Qvi (st:Q0) (xs:List PV) (i:Int):oIx st (.tup xs) (.int i)=okO st (atI xs i):=rfl
@[simp] theorem Qvj (st:Q0) (xs:List PV) (i:Int):oIx st (.lst xs) (.int i)=okO st (atI xs i):=rfl
@[simp] theorem Qvk (st:Q0) (xs:List PV) (i:Int):oIx st (.fro xs) (.int i)=okO st (atI xs i):=rfl
@[simp] theorem Qvd (st:Q0) (xs:List PV) (l h:Option Int):oSl st (.tup xs) l h=.ok (.tup (cut xs l h)) st:=rfl
@[simp] theorem Qve (st:Q0) (xs:List PV) (l h:Option Int):oSl st (.lst xs) l h=.ok (.lst (cut xs l h)) st:=rfl
@[simp] theorem Qvf (st:Q0) (xs:List PV) (l h:Option Int):oSl st (.fro xs) l h=.ok (.lst (cut xs l h)) st:=rfl
@[simp] theorem Kx (st:Q0) (xs:List PV):Y3 st [.tup xs]=.ok (.int xs.length) st:=rfl
@[simp] theorem Qv3 (st:Q0) (xs:List PV):Y3 st [.lst xs]=.ok (.int xs.length) st:=rfl
@[simp] theorem Qgx (st:Q0) (xs:List PV):Y3 st [.fro xs]=.ok (.int xs.length) st:=rfl
@[simp] theorem Qs1 (st:Q0) (xs:List PV):K6 st [.tup xs]=.ok (.lst xs) st:=rfl
@[simp] theorem Qs2 (st:Q0) (xs:List PV):K6 st [.lst xs]=.ok (.lst xs) st:=rfl
@[simp] theorem Qs3 (st:Q0) (xs:List PV):K6 st [.fro xs]=.ok (.lst xs) st:=rfl
@[simp] theorem Qra (st:Q0) (xs:List PV):U5 st [.tup xs]=.ok (.tup xs) st:=rfl
@[simp] theorem Qrb (st:Q0) (xs:List PV):U5 st [.lst xs]=.ok (.tup xs) st:=rfl
@[simp] theorem Qgy (g:List Bool->PV) (st:Q0) (bs:List Bool):Q01 g st [.lst (bs.map .bl)]=.ok (g bs) st:=by
 simp only [Q01,Q30,Option.bind_some,Qka]
@[simp] theorem xc (g:List Int->Option PV) (st:Q0) (ns:List Int):Zj g st [.lst (ns.map .int)]=okO st (g ns):=by
 simp only [Zj,Q30,Option.bind_some,zr]
@[simp] theorem Qc9 (g:List Int->Option PV) (st:Q0) (ns:List Int):Zj g st [.tup (ns.map .int)]=okO st (g ns):=by
 simp only [Zj,Qay,Option.bind_some,zr]
@[simp] theorem Qgw (st:Q0) (a b:Int):Qc8 st [.int a,.int b]=.ok (.int (if b > a then b else a)) st:=rfl
@[simp] theorem Q76 (st:Q0) (a b:Int):Q24 st [.int a,.int b]=.ok (.int (if b < a then b else a)) st:=rfl
@[simp] theorem Qs6 (st:Q0):wOk [] st=True:=by simp [wOk]
@[simp] theorem Qgc (st:Q0) (b:Bool):fin st (.bl b) st=.ok (.bl b) st:=by simp [fin,fz]
@[simp] theorem Qk4 (st:Q0) (b:Int):fin st (.int b) st=.ok (.int b) st:=by simp [fin,fz]
@[simp] theorem Qk3 (st:Q0):fin st .non st=.ok .non st:=by simp [fin,fz]
@[simp] theorem Qvy (st:Q0) (b:Str):fin st (.str b) st=.ok (.str b) st:=by simp [fin,fz]
theorem Jk:lim=1000000:=rfl
theorem Jz (g f:α->PV) {w:Wt} {Γ0:Gam} (I:wOk w st) {ys:List α} (h:∀ y∈ys,∃ Γ1,ga (g y) Γ0=some Γ1/\me Γ1 st=.ok (f y) st):Jf ga Jt me w Γ0 (ys.map g) st=.ok (ys.map f) st:=by
 induction ys with
 | nil=>simp [Jf,I]
 | cons y ys B=>
  obtain ⟨Γ1,h1,h2⟩:=h y O9;have B:=B fun z hz=>h z (O4 _ hz)
  rw [D3,Jf,bN I,h1];simp [h2,B]
theorem yz (g f:α->PV) (t:α->Bool) {w:Wt} {Γ0:Gam} (I:wOk w st) {ys:List α} (h:∀ y∈ys,∃ Γ1,ga (g y) Γ0=some Γ1/\mt Γ1 st=.ok (t y) st/\(t y=true->me Γ1 st=.ok (f y) st)):Jf ga mt me w Γ0 (ys.map g) st=.ok ((ys.filter t).map f) st:=by
 induction ys with
 | nil=>simp [Jf,I]
 | cons y ys B=>
  obtain ⟨Γ1,h1,h2,J⟩:=h y O9;have B:=B fun z hz=>h z (O4 _ hz)
  rw [D3,Jf,bN I,h1];simp only [h2,Qg,B];cases tx:t y with
  | true=>simp [J tx,tx,B]
  | false=>simp [tx]
@[simp] theorem Qv4 (g:List Bool->PV) (st:Q0) (ys:List α) (b:α->Bool):Q01 g st [.lst (ys.map fun y=>.bl (b y))]=.ok (g (ys.map b)) st:=by
 rw [show (ys.map fun y=>PV.bl (b y))=(ys.map b).map .bl by rw [E7]; rfl,Qgy]
@[simp] theorem Qca (g:List Int->Option PV) (st:Q0) (ys:List α) (b:α->Int):Zj g st [.lst (ys.map fun y=>.int (b y))]=okO st (g (ys.map b)):=by
 rw [show (ys.map fun y=>PV.int (b y))=(ys.map b).map .int by rw [E7]; rfl,xc]
theorem xk {α:Type} (g:α->PV) (J:Gam->Prop) (Pd:α->Bool) (v:PV) {ga:GA} {body:MS} {w:Wt} {st:Q0} (O:wOk w st):∀ {xs:List α},(∀ x∈xs,∀ Γ,J Γ->∃ Γ1,ga (g x) Γ=some Γ1/\(Pd x=true->∃ B,J B/\body Γ1 st=.nx B st)/\(Pd x=false->body Γ1 st=.rt v st)) ->
  ∀ Γ,J Γ->(xs.all Pd=true->∃ I,J I/\Jw ga body w (xs.map g) Γ st=.nx I st)/\(xs.all Pd=false->Jw ga body w (xs.map g) Γ st=.rt v st)
 | [],_,Γ,U=>⟨fun _=>⟨Γ,U,by simp [Jw,O]⟩,fun h=>by simp at h⟩
 | x :: xs,h,Γ,U=>by
  obtain ⟨Γ1,h1,h2,Y⟩:=h x O9 Γ U;rw [D3,Jw,bN O,h1];cases px:Pd x with
  | false=>
   refine ⟨fun z=>by simp [px] at z,fun _=>?_⟩;simp only [Y px]
  | true=>
   obtain ⟨B,Z,e2⟩:=h2 px;have ih:=xk g J Pd v (ga:=ga) (body:=body) O (xs:=xs) (fun y hy=>h y (O4 _ hy)) B Z
   simp only [e2,List.all_cons,px,Bool.true_and];exact ih
theorem Y2 (g:α->PV) {xs:List α} (I:Nat->Gam->Q0->Prop) {ga:GA} {body:MS} {w:Wt} (Y:∀ i Γ st,I i Γ st->wOk w st)
  (h:∀ (i:Nat) x Γ st,xs[i]?=some x->I i Γ st->∃ Γ1,ga (g x) Γ=some Γ1/\∃ O J,body Γ1 st=.nx O J/\I (i + 1) O J) {Γ:Gam} {st:Q0} (U:I 0 Γ st):∃ B st',Jw ga body w (xs.map g) Γ st=.nx B st'/\I xs.length B st':=by
 induction xs generalizing I Γ st with
 | nil=>exact ⟨Γ,st,by simp [Jw,Y 0 Γ st U],U⟩
 | cons x xs ih=>
  obtain ⟨Γ1,h1,O,J,e2,i2⟩:=h 0 x Γ st rfl U;obtain ⟨B,st',e3,Z⟩:=ih (fun i=>I (i + 1)) (fun i Γ st z=>Y (i + 1) Γ st z) (fun i y Γ st hy z=>h (i + 1) y Γ st (by simpa using hy) z) i2
  refine ⟨B,st',?_,Z⟩;rw [D3,Jw,bN (Y 0 Γ st U),h1];simp only [e2];exact e3
theorem Q3e (g:α->PV) {xs:List α} (I:List α->Gam->Q0->Prop) {ga:GA} {body:MS} {w:Wt} (Y:∀ pre Γ st,I pre Γ st->wOk w st)
  (h:∀ pre x B Γ st,xs=pre ++ x :: B->I pre Γ st->∃ Γ1,ga (g x) Γ=some Γ1/\∃ U O,body Γ1 st=.nx U O/\I (pre ++ [x]) U O) {Γ:Gam} {st:Q0} (h0:I [] Γ st):∃ J st',Jw ga body w (xs.map g) Γ st=.nx J st'/\I xs J st':=by
 have key:∀ (B pre:List α) (Γ:Gam) (st:Q0),xs=pre ++ B->I pre Γ st->∃ J st',Jw ga body w (B.map g) Γ st=.nx J st'/\I xs J st':=by
  intro B
  induction B with
  | nil=>intro pre Γ st e i; exact ⟨Γ,st,by simp [Jw,Y pre Γ st i],by rw [e,G7]; exact i⟩
  | cons x B ih=>
   intro pre Γ st e i;obtain ⟨Γ1,h1,U,O,Z,i2⟩:=h pre x B Γ st e i;obtain ⟨J,st',e3,i3⟩:=ih (pre ++ [x]) U O (by rw [e]; simp) i2;refine ⟨J,st',?_,i3⟩;rw [D3,Jw,bN (Y pre Γ st i),h1];simp only [Z];exact e3
 exact key xs [] Γ st rfl h0
theorem Qck (f:α->PV) (g:β->PV) (xs:List α) (ys:List β):Xf (xs.map f) (ys.map g)=(xs.zip ys).map fun z=>.tup [f z.1,g z.2]:=by
 rw [jp,List.zip_map,E7]; rfl
theorem Q0h (f:α->PV) (xs:List α) (i:Int):atI (xs.map f) i=(atI xs i).map f:=by
 unfold atI;rw [O1];cases ixN xs.length i with
 | none=>rfl
 | some j=>simp [F4]
theorem atI_get {xs:List α} {i:Nat} {x:α} (h:xs[i]?=some x):atI xs (i:Int)=some x:=by
 have B:=(O0.mp h).1;unfold atI ixN;rw [bN (by omega),bN (by omega)];simpa using h
theorem Qk8 (f:α->PV) (xs:List α) (l h:Option Int):cut (xs.map f) l h=(cut xs l h).map f:=by
 unfold cut;rw [O1,<- List.map_drop,<- List.map_take]
theorem Yy (n:Nat):Jj 0 n=(List.range n).map fun (k:Nat)=>PV.int (k:Int):=by
 unfold Jj;refine F3 fun k _=>?_
 rw [Int.zero_add]
@[simp] theorem Qwa (st l:List α) (c:α):(st ++ c :: l)[st.length]?=some c:=by
 rw [D5 (O8 _),L0]; rfl
@[simp] theorem Qva (st l:List α) (c d:α):(st ++ c :: d :: l)[st.length + 1]?=some d:=by
 rw [D5 (by omega)];rw [show st.length + 1 - st.length=1 by omega]; rfl
@[simp] theorem Qw9 (st l:List α) (c d:α):(st ++ c :: l).set st.length d=st ++ d :: l:=by
 rw [List.set_append_right _ _ (O8 _),L0]; rfl
@[simp] theorem Qv9 (st l:List α) (c B d:α):(st ++ c :: B :: l).set (st.length + 1) d=st ++ c :: d :: l:=by
 rw [List.set_append_right _ _ (by omega),show st.length + 1 - st.length=1 by omega]; rfl
@[simp] theorem Qw5 (st:Q0) (i:Nat) (g:List PV->Option (PV × List PV)):chg st (.ref i) g=(match st[i]? with | some (.lst xs)=>(match g xs with | some (r,ys)=>.ok r (st.set i (.lst ys)) | none=>.stuck) | _=>.stuck):=rfl
@[simp] theorem Qvw (st:Q0) (i:Nat):X7 st (.ref i)=(match st[i]? with | some (.lst xs)=>some xs | _=>none):=rfl
@[simp] theorem Q6m (st:Q0) (i:Nat):Y1 st (.ref i)=(match st[i]? with | some (.lst xs)=>some xs | _=>none):=rfl
@[simp] theorem jv (st:Q0) (i:Nat):Zu st (.ref i)=(match st[i]? with | some (.lst xs)=>some xs | _=>none):=rfl
@[simp] theorem Qvb (st:Q0) (i:Nat):Zc st (.ref i)=(match st[i]? with | some (.lst xs)=>some (xs,[(i,.lst xs)]) | _=>none):=rfl
@[simp] theorem Qky (st:Q0) (p y:PV):J4 st p [y]=chg st p fun xs=>if xs.length < lim then some (.non,xs ++ [y]) else none:=rfl
@[simp] theorem Qv2 (st:Q0) (i:Nat):U5 st [.ref i]=(match st[i]? with | some (.lst xs)=>.ok (.tup xs) st | _=>.stuck):=by
 unfold U5; simp only [jv];cases st[i]? with
 | none=>rfl
 | some c=>cases c <;> rfl
@[simp] theorem Qw6 (st:Q0) (i:Nat):K6 st [.ref i]=(match st[i]? with | some (.lst xs)=>.ok (.lst xs) st | _=>.stuck):=by
 unfold K6; simp only [jv];cases st[i]? with
 | none=>rfl
 | some c=>cases c <;> rfl
@[simp] theorem Qrc (st:Q0) (i:Nat):Y3 st [.ref i]=(match st[i]? with | some (.lst xs)=>.ok (.int xs.length) st | _=>.stuck):=by
 unfold Y3; simp only [jv];cases st[i]? with
 | none=>rfl
 | some c=>cases c <;> rfl
@[simp] theorem Q68 (st:Q0) (i:Nat) (j:Int):oIx st (.ref i) (.int j)=(match st[i]? with | some (.lst xs)=>okO st (atI xs j) | _=>.stuck):=by
 unfold oIx; simp only [jv];cases st[i]? with
 | none=>rfl
 | some c=>cases c <;> rfl
@[simp] theorem Q46 (st:Q0) (k:Nat) (j:Int) (p:PV):W8 st (.ref k) (.int j) p=(match st[k]? with | some (.lst xs)=>(ixN xs.length j).map fun n=>st.set k (.lst (xs.set n p)) | _=>none):=rfl
theorem qi (xs:List α) (k:Nat):cut xs none (some (k:Int))=xs.take k:=by
 unfold cut;rw [HT.sIx_none,HT.sIx_nat,List.drop_zero,Nat.sub_zero];rcases Nat.le_total k xs.length with h | h
 ·rw [Nat.min_eq_left h]
 ·rw [Nat.min_eq_right h,List.take_length,List.take_of_length_le h]
theorem Qgm (xs:List α) (k:Nat):cut xs (some (k:Int)) none=xs.drop k:=by
 unfold cut;rw [HT.sIx_none,HT.sIx_nat];rcases Nat.le_total k xs.length with h | h
 ·rw [Nat.min_eq_left h,List.take_of_length_le (by rw [List.length_drop]; omega)]
 ·rw [Nat.min_eq_right h,List.drop_length,List.drop_of_length_le h]; simp
theorem Vk {l:List α} {j:Nat} (h:j < l.length) (d:α):l[j]?=some (l.getD j d):=by
 rw [List.getD,O2 h]; rfl
def ListAt (st:Q0) (V:PV) (xs:List PV):Prop:=V=.lst xs\/V=.fro xs\/∃ i,V=.ref i/\st[i]?=some (.lst xs)
theorem ListAt.ix {V:PV} (h:ListAt st V xs) (j:Int):oIx st V (.int j)=okO st (atI xs j):=by
 rcases h with rfl | rfl | ⟨i,rfl,e⟩
 ·rfl
 ·rfl
 ·rw [Q68,e]
theorem Q3h (g:α->PV) {xs:List α} (I:Nat->List PV->Q0->Prop) {ga:GA} {me:ME} {w:Wt} {Γ0:Gam} (U:∀ i B st,I i B st->wOk w st)
  (h:∀ (i:Nat) x B st,xs[i]?=some x->I i B st->∃ Γ1,ga (g x) Γ0=some Γ1/\∃ v J,me Γ1 st=.ok v J/\I (i + 1) (B ++ [v]) J) {st:Q0} (h0:I 0 [] st):∃ B st',Jf ga Jt me w Γ0 (xs.map g) st=.ok B st'/\I xs.length B st':=by
 have key:∀ (ys:List α) (k:Nat) (pre:List PV) (st:Q0),(∀ i,ys[i]?=xs[k + i]?)->k + ys.length=xs.length->I k pre st->∃ B st',Jf ga Jt me w Γ0 (ys.map g) st=.ok B st'/\I xs.length (pre ++ B) st':=by
  intro ys
  induction ys with
  | nil=>
   intro k pre st e O i;refine ⟨[],st,by simp [Jf,U k pre st i],?_⟩;rw [G7,<- O]; exact i
  | cons y ys ih=>
   intro k pre st e O i;have Z:xs[k]?=some y:=by have:=e 0; simpa using this.symm
   obtain ⟨Γ1,h1,v,J,h2,i2⟩:=h k y pre st Z i;obtain ⟨B,st',Y,i3⟩:=ih (k + 1) (pre ++ [v]) J (fun i=>by
    have:=e (i + 1);rw [List.getElem?_cons_succ] at this;rw [this]; congr 1; omega) (by rw [<- O,E4]; omega) i2
   refine ⟨v :: B,st',?_,by simpa using i3⟩;rw [D3,Jf,bN (U k pre st i),h1];simp [Jt,h2,Y]
 obtain ⟨B,st',h1,h2⟩:=key xs 0 [] st (fun i=>by simp) (by simp) h0;exact ⟨B,st',h1,by simpa using h2⟩
@[simp] theorem Qrw (ma:ME) (Γ:Gam) (st:Q0):Km ma Γ st=(ma Γ st).bind fun p B=>match Zu B p with | some xs=>.ok xs B | none=>.stuck:=rfl
theorem Qa2 (h:k < n):ixN n (k:Int)=some k:=by
 unfold ixN;rw [bN (by omega),bN (by omega)];simp
theorem qb:∀ {xs:List PV},(∀ x∈xs,peq x x=true)->peqL xs xs=true
 | [],_=>rfl
 | x :: xs,h=>by
  rw [peqL,h x O9,qb fun y B=>h y (O4 _ B)]; rfl
theorem z9:∀ {n:Nat} {p:PV},Qz n p=true->peq p p=true
 | n,.non,_=>rfl
 | n,.bl b,_=>by simp [peq]
 | n,.int b,_=>by simp [peq]
 | n,.str b,_=>by simp [peq]
 | n,.ref _,g=>by cases n <;> simp [Qz] at g
 | n,.dic,g=>by cases n <;> simp [Qz] at g
 | 0,.tup _,g=>by simp [Qz] at g
 | 0,.lst _,g=>by simp [Qz] at g
 | 0,.fro _,g=>by simp [Qz] at g
 | n + 1,.tup xs,g=>by
  rw [peq]; refine qb fun x B=>z9 (n:=n) ?_
  simp [Qz] at g; exact g x B
 | n + 1,.lst xs,g=>by
  rw [peq]; refine qb fun x B=>z9 (n:=n) ?_
  simp [Qz] at g; exact g x B
 | n + 1,.fro xs,g=>by
  rw [peq]; refine qb fun x B=>z9 (n:=n) ?_
  simp [Qz] at g; exact g x B
def Ue (body:MS) (nl:Nat):FN:=fun ps st=>match body (ps.map some ++ List.replicate (nl - ps.length) none) st with
 | .rt v st'=>.ok v st'
 | .nx _ st'=>.ok .non st'
 | .exc x st'=>.exc x st'
 | _=>.stuck
variable {P:aM} {K:PySem.W.Frag} {base:Heap}
section
variable {w:aJ}
theorem Qk1 {qual:Str} {st:aK} {f:aB} {ps:List Str} {k:Nat} {m:MS} (F:Fun K x qual st f fd) (S:FnScope N ps (Qa st))
  (hb:∀ (J:aA) (A:aQ) (outer:List PySem.Env) (s:aC) (H:Hp) (E:XK),Room k (A.deeper (PyProof.Rows.envOfC qual (Qa st) s.heap.objs.size f J))->SimB (cxD P w K mg base N qual (Qa st) f J A outer s H E) E (Js st) m) :
  FnOk P w K mg base (CXD P w) (k + 1) f fd ps (spF mg ps.length (Ue m N.length)):=by
 refine Fun.okD F S (fun vs H Q E h=>h.1) fun J A outer s H vs Q E hr a1=>⟨_,Q11,?_⟩
 obtain ⟨hl,ρ,Y,U,R,rl,B⟩:=a1;refine (hb J A outer s H E hr).run _ (L2.start N vs) H ρ Y _ R (Q2x rl) ?_;unfold Ue at B;cases O:m (U.map some ++ List.replicate (N.length - U.length) none) Y with
 | rt v I=>rw [O] at B; exact fun v H' ρ' x Z r=>B H' ρ' x Z v r
 | nx Γ I=>rw [O] at B; exact fun a2 H' ρ' x' Z G'=>B H' ρ' x' Z .non rfl
 | bk Γ I=>rw [O] at B; exact B.elim
 | ct Γ I=>rw [O] at B; exact B.elim
 | stuck=>rw [O] at B; exact B.elim
 | exc y I=>rw [O] at B; exact B
end
theorem Q6v {P:aM} {w:aJ} {mg:Str->Option aA} {base:Heap} {qual:Str} {st:aK} {f:aB} {ps:List Str} {k nl:Nat} {m:MS} {FF:FN} (F:Fun K x qual st f fd) (S:FnScope N ps (Qa st)) (O:ps.length=n) (I:N.length=nl) (J:FF=Ue m nl)
  (U:∀ (B:aA) (A:aQ) (outer:List PySem.Env) (s:aC) (H:Hp) (E:XK),Room k (A.deeper (PyProof.Rows.envOfC qual (Qa st) s.heap.objs.size f B))->SimB (cxD P w K mg base N qual (Qa st) f B A outer s H E) E (Js st) m) :
  FnOk P w K mg base (CXD P w) (k + 1) f fd ps (spF mg n FF):=by
 subst O; subst I; subst J;exact Qk1 F S U
theorem Qi9 (r:Room k A):A.units + 9 < aO:=by have:=r.un; omega
def Qw7 (kvs:List (Key × PV)) (k:Key):Option PV:=(kvs.find? fun kv=>decide (kv.1=k)).map (·.2)
def Qm7 (st:Q0):PV->Option (List (Key × PV))
 | .ref i=>match st[i]? with
  | some (.dic kvs)=>some kvs
  | some (.frd kvs)=>some kvs
  | _=>none
 | _=>none
def Q1r:List PV->Option (List Int)
 | []=>some []
 | .int i :: xs=>(Q1r xs).map (i :: ·)
 | _ :: _=>none
def Q0n:List PV->Option (List (List Int))
 | []=>some []
 | .tup ys :: xs=>match Q1r ys with
  | some (n :: ns)=>(Q0n xs).map ((n :: ns) :: ·)
  | _=>none
 | _ :: _=>none
def js (ns:List Int):PV:=.tup (ns.map .int)
theorem Q6t {H:Hp} {ρ:Tk}:∀ {xs:List PV} {ns:List Int} {vs:List V},Q1r xs=some ns->RepL H ρ xs vs->vs=ns.map V.int/\xs=ns.map PV.int
 | [],_,_,e,r=>by cases e; exact ⟨r,rfl⟩
 | .int i :: xs,ns,_,e,⟨v,t,O,B,I⟩=>by
  have e:(Q1r xs).map (i :: ·)=some ns:=e;cases z:Q1r xs with
  | none=>rw [z] at e; cases e
  | some J=>
   rw [z] at e;cases e;obtain ⟨h1,h2⟩:=Q6t z I;have B:v=.int i:=B;exact ⟨by rw [O,B,h1]; rfl,by rw [h2]; rfl⟩
 | .non :: _,_,_,e,_=>by cases e
 | .bl _ :: _,_,_,e,_=>by cases e
 | .str _ :: _,_,_,e,_=>by cases e
 | .tup _ :: _,_,_,e,_=>by cases e
 | .lst _ :: _,_,_,e,_=>by cases e
 | .fro _ :: _,_,_,e,_=>by cases e
 | .ref _ :: _,_,_,e,_=>by cases e
 | .dic :: _,_,_,e,_=>by cases e
theorem Q5c {H:Hp} {ρ:Tk}:∀ {xs:List PV} {nss:List (List Int)} {vs:List V},Q0n xs=some nss->RepL H ρ xs vs->xs=nss.map js/\aq (fun (v:V) (ns:List Int)=>ns≠[]/\∃ a,v=.ref a/\H a=some (.tup (ns.map V.int))) vs nss
 | [],_,_,e,r=>by cases e; cases r; exact ⟨rfl,.nil⟩
 | .tup ys :: xs,nss,vs,e,⟨v,t,O,Y,Z⟩=>by
  have e:(match Q1r ys with | some (n :: ns)=>(Q0n xs).map ((n :: ns) :: ·) | _=>none)=some nss:=e
  cases B:Q1r ys with
  | none=>rw [B] at e; cases e
  | some ms=>
   cases ms with
   | nil=>rw [B] at e; cases e
   | cons n ns=>
    rw [B] at e;cases z:Q0n xs with
    | none=>rw [z] at e; cases e
    | some I=>
     rw [z] at e;cases e;obtain ⟨h1,h2⟩:=Q5c z Z;obtain ⟨a,us,rfl,J,_,ru⟩:=Y;obtain ⟨U,g2⟩:=Q6t B ru;subst O;exact ⟨by rw [h1,g2]; rfl,.cons ⟨by simp,a,rfl,by rw [J,U]⟩ h2⟩
 | .int _ :: _,_,_,e,_=>by cases e
 | .non :: _,_,_,e,_=>by cases e
 | .bl _ :: _,_,_,e,_=>by cases e
 | .str _ :: _,_,_,e,_=>by cases e
 | .lst _ :: _,_,_,e,_=>by cases e
 | .fro _ :: _,_,_,e,_=>by cases e
 | .ref _ :: _,_,_,e,_=>by cases e
 | .dic :: _,_,_,e,_=>by cases e
theorem Q31 {H:Hp} {ρ:Tk} {nss:List (List Int)} {vs:List V} (r:RepL H ρ (nss.map js) vs):∀ (B:List Nat),(∀ x∈B,x < vs.length)->RepL H ρ ((B.map fun i=>nss.getD i []).map js) (B.map fun i=>vs.getD i .non)
 | [],_=>rfl
 | x :: B,h=>by
  have J:=h x (by simp);have I:=r.length;rw [O1] at I;have O:(nss.map js)[x]?=some (js (nss.getD x [])):=by
   rw [F4,O2 (by omega),O3,O2 (by omega)]; rfl
  have U:vs[x]?=some (vs.getD x .non):=by rw [O3,O2 J]; rfl
  exact RepL.cons (r.i O U) (Q31 r B fun y Y=>h y (O4 _ Y))
theorem xr:aW "sorted" = some (.builtin "sorted"):=by decide +kernel
def Qf9 (f:PV->Option HK):List PV->Option (List HK)
 | []=>some []
 | p :: ps=>match f p,Qf9 f ps with
  | some k,some l=>some (k :: l)
  | _,_=>none
def Qbv:Nat->PV->Option HK
 | _,.int i=>some (.int i)
 | _,.str x=>some (.str x)
 | d + 1,.tup ps=>(Qf9 (Qbv d) ps).map .tup
 | _,_=>none
theorem Qfx :∀ (d:Nat) {p:PV} {k:HK} {v:V},Qbv d p=some k->Rep H ρ p v->KAt H k v/\Dp d k:=by
 intro d
 induction d with
 | zero=>
  intro p k v e r;cases p with
  | int i=>cases e; exact ⟨r,trivial⟩
  | str i=>cases e; exact ⟨r,trivial⟩
  | _=>cases e
 | succ d ih=>
  intro p k v e r;cases p with
  | int i=>cases e; exact ⟨r,trivial⟩
  | str i=>cases e; exact ⟨r,trivial⟩
  | tup ps=>
   obtain ⟨a,vs,rfl,U,_,Y⟩:=r;have key:∀ {ps:List PV} {l:List HK} {vs:List V},Qf9 (Qbv d) ps=some l->RepL H ρ ps vs->KAtL H l vs/\∀ k∈l,Dp d k:=by
    intro ps
    induction ps with
    | nil=>intro l vs e r; cases e; exact ⟨r,fun k hk=>nomatch hk⟩
    | cons p ps I=>
     intro l vs e ⟨v,t,e1,O,r2⟩;unfold Qf9 at e
     split at e
     ·rename_i k l' e2 e3;cases e;obtain ⟨h1,h2⟩:=ih e2 O;obtain ⟨J,Z⟩:=I e3 r2;exact ⟨⟨v,t,e1,h1,J⟩,fun x B=>by rcases D8.mp B with rfl | B; exact h2; exact Z x B⟩
     ·cases e
   unfold Qbv at e;cases z:Qf9 (Qbv d) ps with
   | none=>rw [z] at e; cases e
   | some l=>
    rw [z] at e;cases e;obtain ⟨h1,h2⟩:=key z Y;exact ⟨⟨a,vs,rfl,U,h1⟩,h2⟩
  | _=>cases e
def Q2q:PV->Option HK
 | .tup ps=>Qbv 5 (.tup ps)
 | .str x=>some (.str x)
 | _=>none
theorem U0 {k:HK} (e:Q2q p=some k) (r:Rep H ρ p v):KR H k v:=by
 cases p with
 | tup ps=>exact Qfx 5 e r
 | str x=>cases e; exact ⟨r,trivial⟩
 | _=>cases e
def putT (kvs:List (HK × PV)) (k:HK) (v:PV):List (HK × PV):=
 if (kvs.any fun kv=>decide (kv.1=k))=true then kvs.map (fun kv=>if kv.1=k then (kv.1,v) else kv) else kvs ++ [(k,v)]
theorem Q5u {kvs:List (HK × PV)} {vs:List (HK × V)} (r:RepD H ρ kvs vs) (k:HK) (U:Rep H ρ p v):RepD H ρ (putT kvs k p) (X4 vs k v):=by
 have Z:(kvs.any fun B=>decide (B.1=k))=vs.any fun B=>decide (B.1=k):=by
  have I:(kvs.any fun B=>decide (B.1=k))=(kvs.map Prod.fst).any fun x=>decide (x=k):=by rw [List.any_map]; rfl
  have O:(vs.any fun B=>decide (B.1=k))=(vs.map Prod.fst).any fun x=>decide (x=k):=by rw [List.any_map]; rfl
  rw [I,O,r.1]
 unfold putT X4;rw [<- Z]
 by_cases q:(kvs.any fun B=>decide (B.1=k))=true
 ·rw [bN q,bN q];have key:∀ (kvs:List (HK × PV)) (vs:List (HK × V)),RepD H ρ kvs vs->RepD H ρ (kvs.map fun B=>if B.1=k then (B.1,p) else B) (vs.map fun B=>if B.1=k then (B.1,v) else B):=by
   intro kvs
   induction kvs with
   | nil=>
    intro vs r;cases vs with
    | nil=>exact r
    | cons _ _=>have:=r.length; cases this
   | cons a kvs ih=>
    intro vs r;cases vs with
    | nil=>have:=r.length; cases this
    | cons b vs=>
     obtain ⟨r1,x,t,e,r2,Y⟩:=r;obtain ⟨I,O⟩:=List.cons.inj (show b.1 :: vs.map Prod.fst=a.1 :: kvs.map Prod.fst from r1);obtain ⟨e3,e4⟩:=List.cons.inj (show b.2 :: vs.map Prod.snd=x :: t from e);subst e3; subst e4;obtain ⟨i1,i2⟩:=ih vs ⟨O,Y⟩;rw [D3,D3]
     by_cases z:a.1=k
     ·have J:b.1=k:=I.trans z;rw [bN z,bN J];exact ⟨by rw [D3,D3,i1]; show b.1 :: _=a.1 :: _; rw [I],RepL.cons U i2⟩
     ·have J:¬ b.1=k:=fun h=>z (I.symm.trans h)
      rw [bO z,bO J];exact ⟨by rw [D3,D3,i1]; show b.1 :: _=a.1 :: _; rw [I],RepL.cons r2 i2⟩
  exact key kvs vs r
 ·rw [bO q,bO q];refine ⟨?_,?_⟩
  ·rw [E3,E3,r.1]; rfl
  ·rw [E3,E3];exact r.2.append (RepL.cons U RepL.nil)
variable {dpos tpos:Pos} {k:aH}
section
variable {pos:Pos} {i:aH} {mi mk:ME}
def Q4m:ME:=fun Γ st=>.ok (.ref st.length) (st ++ [.dtp []])
theorem Qdk:SimE X E (.Dict [] [] dpos) Q4m:=⟨fun Γ σ H ρ st Q R G h=>WE.of Qem fun d hd=>by
 have x:Ext H ρ (upd H d (.dT [])) (ρ.add d):=Ext.addT hd;refine h _ _ x (R.addC hd ⟨_,Qp,rfl,rfl⟩) _ ⟨d,?_,rfl⟩;show (ρ.tr ++ [d])[st.length]?=some d;rw [<- R.len,D5 (O8 _),L0]; rfl⟩
def Q1z (st:Q0):PV->Option (List (HK × PV))
 | .ref i=>match st[i]? with
  | some (.dtp kvs)=>some kvs
  | _=>none
 | _=>none
theorem Q6y {kvs:List (HK × PV)} (R:Rel H ρ st) (r:Rep H ρ p v) (e:Q1z st p=some kvs):∃ i a vs,p=.ref i/\v=.ref a/\ρ.tr[i]?=some a/\st[i]?=some (.dtp kvs)/\H a=some (.dT vs)/\RepD H ρ kvs vs:=by
 cases p with
 | ref i=>
  obtain ⟨a,B,rfl⟩:=r;unfold Q1z at e;cases z:st[i]? with
  | none=>simp only [z] at e; cases e
  | some c=>
   simp only [z] at e;cases c with
   | dtp J=>
    cases e;obtain ⟨b,vs,I,U,O⟩:=R.dtp z;rw [B] at I;cases I;exact ⟨i,a,vs,rfl,rfl,B,z,U,O⟩
   | lst xs=>cases e
   | dic xs=>cases e
   | frd xs=>cases e
   | frt xs=>cases e
   | obj C xs=>cases e
 | _=>cases e
def zx (st:Q0) (p q v:PV):Option Q0:=match p with
 | .ref n=>match Q1z st (.ref n),Q2q q with
  | some kvs,some k=>if kvs.length < lim then some (st.set n (.dtp (putT kvs k v))) else none
  | _,_=>none
 | _=>none
def Q1f (mo mi m:ME):MS:=fun Γ st=>(m Γ st).sbind fun v st1=>(mo Γ st1).sbind fun p st2=>(mi Γ st2).sbind fun q st3=>match zx st3 p q v with
 | some st4=>.nx Γ st4
 | none=>.stuck
theorem Qd8 (hu:X.A.units + 9 < aO) (he:SimE X E e m) (ho:SimE X E o mo) (hi:SimE X E i mi) (hs:swapsWith e (some (.Subscript o i tpos)) pos.line X.env=pure false:=by rfl):SimS X E (.Assign [.Subscript o i tpos] e pos) (Q1f mo mi m):=
 ⟨fun Γ σ H ρ st D R G h=>WS.of (Qir hu Ja Ja Ja hs) (he.use R G h.bind fun v a3 H1 ρ1 z x1 R1 G1 r1 h1=>ho.use R1 G1 h1.bind fun p a5 H2 a1 x x2 R2 G2 r2 h2=>hi.use R2 G2 h2.bind fun q I O B y x3 R3 G3 r3 J=>by
  cases es:zx I p q v with
  | none=>rw [es] at J; exact J.elim
  | some a2=>
   rw [es] at J;unfold zx at es
   split at es
   ·rename_i n
    split at es
    ·rename_i kvs k e1 e2
     split at es
     ·rename_i hl;cases es;obtain ⟨n',a,vs,en,rfl,Z,a4,Y,rd⟩:=Q6y R3 (r2.ext x3) e1;cases en;have U:=U0 e2 r3;have x4:Ext O B (upd O a (.dT (X4 vs k z))) B:=Ext.put (E6 Z) Y;have rz:=(r1.ext (x2.trans x3)).ext x4;have R4:Rel (upd O a (.dT (X4 vs k z))) B (I.set n (.dtp (putT kvs k v))):=R3.putC Z Y ⟨_,Qp,Q5u (rd.ext x4) k rz⟩;refine ⟨a,_,rfl,DPut.t Y U (by rw [<- rd.length]; exact E2 hl yn),J σ _ B x4 R4 (G3.ext x4)⟩
     ·cases es
    ·cases es
   ·cases es)⟩
def Wz (kvs:List (HK × PV)) (k:HK):Option PV:=(kvs.find? fun kv=>decide (kv.1=k)).map (·.2)
theorem X2 {H:Hp} {ρ:Tk} (k:HK):∀ {kvs:List (HK × PV)} {vs:List (HK × V)},RepD H ρ kvs vs->(Wz kvs k=none/\Ug vs k=none)\/∃ p v,Wz kvs k=some p/\Ug vs k=some v/\Rep H ρ p v
 | [],[],_=>.inl ⟨rfl,rfl⟩
 | [],b :: vs,r=>by have:=r.length; cases this
 | a :: kvs,[],r=>by have:=r.length; cases this
 | a :: kvs,b :: vs,r=>by
  obtain ⟨O,x,t,e,Y,J⟩:=r;obtain ⟨I,U⟩:=List.cons.inj (show b.1 :: vs.map Prod.fst=a.1 :: kvs.map Prod.fst from O);obtain ⟨e3,Z⟩:=List.cons.inj (show b.2 :: vs.map Prod.snd=x :: t from e);subst e3; subst Z;unfold Wz Ug;rw [List.find?_cons,List.find?_cons]
  by_cases z:a.1=k
  ·have B:b.1=k:=I.trans z;rw [bQ z,bQ B];exact .inr ⟨a.2,b.2,rfl,rfl,Y⟩
  ·have B:¬ b.1=k:=fun h=>z (I.symm.trans h)
   rw [bP z,bP B];exact X2 k ⟨U,J⟩
theorem Qhn (R:Rel H ρ st) (b:aB) (xs:List V) (h:H b=some (.tup xs)):b∉ρ:=fun z=>by
 rcases z with z | z
 ·obtain ⟨i,hi,e⟩:=List.getElem_of_mem z;have hs:i < st.length:=by rw [<- R.len]; exact hi
  have q:=R.cell i b st[i] (by rw [O2 hi,e]) (O2 hs);cases B:st[i] with
  | lst xs=>rw [B] at q; obtain ⟨vs,h1,_⟩:=q; rw [h] at h1; cases h1
  | dic xs=>rw [B] at q; obtain ⟨vs,h1,_⟩:=q; rw [h] at h1; cases h1
  | dtp xs=>rw [B] at q; obtain ⟨vs,h1,_⟩:=q; rw [h] at h1; cases h1
  | frd xs=>rw [B] at q; obtain ⟨vs,⟨_,h1⟩,_⟩:=q; rw [h] at h1; cases h1
  | frt xs=>rw [B] at q; obtain ⟨vs,⟨_,h1⟩,_⟩:=q; rw [h] at h1; cases h1
  | obj C xs=>rw [B] at q; obtain ⟨vs,⟨_,h1⟩,_⟩:=q; rw [h] at h1; cases h1
 ·obtain ⟨o,h1,h2⟩:=R.hd b z;rw [h] at h1;cases h1;exact h2 xs rfl
end
variable {H0:Hp} {ρ0:Tk} {st:Q0} {a:aB} {ps:List (HK × PV)} {vs:List (HK × V)}
theorem Qes (R0:Rel H0 ρ0 st) (x:Ext H0 ρ0 H ρ) {I:Q0} (R:Rel H ρ I) (O:a∈ρ.hid) (hn:H0 a=none) (ha:H a=some (.dT vs)) (r:RepD H ρ ps vs) :
  Ext H0 ρ0 H ⟨ρ.tr ++ [a],ρ0.hid⟩/\Rel H ⟨ρ.tr ++ [a],ρ0.hid⟩ (I ++ [.dtp ps])/\Rep H ⟨ρ.tr ++ [a],ρ0.hid⟩ (.ref I.length) (.ref a):=by
 have Z:a∉ρ0.hid:=fun z=>by
  obtain ⟨o,e,_⟩:=R0.hd a z;rw [hn] at e; cases e
 refine ⟨⟨x.pre.trans (List.prefix_append _ _),fun _ h=>h,fun _ h=>.inl h,x.keep,fun b U=>?_,x.old,x.frz⟩,⟨?_,?_,fun b U=>R.hd b (x.hidM b U),fun b U z=>?_,fun i b c h1 h2=>?_⟩,a,?_,rfl⟩
 ·rcases D4.mp U with z | z
  ·exact x.new b z
  ·have:b=a:=by simpa using z
   subst this; exact .inr hn
 ·show (ρ.tr ++ [a]).length=_;rw [O7,O7,R.len]; rfl
 ·show (ρ.tr ++ [a]).Nodup;refine List.nodup_append.mpr ⟨R.nd,by simp,fun b U c hc e=>?_⟩;have:c=a:=by simpa using hc
  subst this; subst e;exact R.ap b O U
 ·rcases D4.mp z with z | z
  ·exact R.ap b (x.hidM b U) z
  ·have:b=a:=by simpa using z
   subst this; exact Z U
 ·have h1:(ρ.tr ++ [a])[i]?=some b:=h1
  by_cases hi:i < I.length
  ·rw [O6 (by rw [R.len]; exact hi)] at h1;rw [O6 hi] at h2;have q:=R.cell i b c h1 h2;cases c with
   | lst Y=>
    obtain ⟨us,J,B⟩:=q;exact ⟨us,J,B.trk O x.hidM⟩
   | dic Y=>
    obtain ⟨us,J,B⟩:=q;exact ⟨us,J,B.1,B.2.trk O x.hidM⟩
   | dtp Y=>
    obtain ⟨us,J,B⟩:=q;exact ⟨us,J,B.1,B.2.trk O x.hidM⟩
   | frd Y=>
    obtain ⟨us,J,B⟩:=q;exact ⟨us,J,B.1,B.2.trk O x.hidM⟩
   | frt Y=>
    obtain ⟨us,J,B⟩:=q;exact ⟨us,J,B.1,B.2.trk O x.hidM⟩
   | obj C Y=>
    obtain ⟨us,J,B⟩:=q;exact ⟨us,J,B.1,B.2.trk O x.hidM⟩
  ·rw [D5 (by rw [R.len]; omega)] at h1;rw [D5 (by omega)] at h2;have e0:i - I.length=0:=by
    rcases Nat.eq_zero_or_pos (i - I.length) with z | z
    ·exact z
    ·rw [G8 (by simp; omega)] at h2; cases h2
   rw [R.len,e0] at h1;rw [e0] at h2;simp at h1 h2;subst h1; subst h2;exact ⟨vs,ha,r.1,r.2.trk O x.hidM⟩
 ·show (ρ.tr ++ [a])[I.length]?=some a;rw [<- R.len,D5 (O8 _),L0]; rfl
section
variable {mk:ME}
def Qgj (st:Q0) (pv pk:PV):Res PV:=match Q2q pk with
 | some ks=>.ok (.ref st.length) (st ++ [.dtp [(ks,pv)]])
 | none=>.stuck
def Q08 (mk m:ME):ME:=fun Γ st=>(mk Γ st).bind fun pk st1=>(m Γ st1).bind fun pv st2=>Qgj st2 pv pk
theorem Qb0 (hu:X.A.units + 9 < aO) (hk:SimE X E k mk) (he:SimE X E e m):SimE X E (.Dict [some k] [e] dpos) (Q08 mk m):=by
 refine ⟨fun Γ σ H ρ st Q R G h=>WE.of (Qbb (by omega) Ja Ja) ?_⟩;intro p O;have U:Ext H ρ (upd H p (.dT [])) (ρ.hide p):=Ext.hide O;refine hk.use' (R.hide O) (G.hide O) (h.bind.later U) fun a1 Z H1 ρ1 v1 f1 x1 R1 G1 r1 _=>?_
 have h:=h;unfold Q08 at h;rw [f1] at h;have h:Acc X.mg E H ρ (QV Q) ((m Γ Z).bind fun pv J=>Qgj J pv a1):=h
 refine he.use' R1 G1 (h.bind.later (U.trans x1)) fun a2 J H2 B v2 f2 x2 R2 G2 r2 _=>?_
 rw [f2] at h;have h:Acc X.mg E H ρ (QV Q) (Qgj J a2 a1):=h;unfold Qgj at h
 split at h
 ·rename_i ks ek;have kr:=U0 ek (r1.ext x2);have xe:Ext (upd H p (.dT [])) (ρ.hide p) H2 B:=x1.trans x2;have Y:p∉(ρ.hide p).tr:=fun z=>R.fresh O (.inl z)
  have a3:H2 p=some (.dT []):=xe.keep p _ Qp Y;have I:p∈B.hid:=xe.hidM p O9;refine ⟨ks,_,v2,rfl,kr,a3,?_⟩;have y:Ext H ρ (upd H2 p (.dT [(ks,v2)])) B:=(U.trans xe).put0 O;have g2:=r2.rehide (o:=.dT [(ks,v2)]) I;obtain ⟨x5,R5,r5⟩:=Qes (ps:=[(ks,a2)]) R y (R2.rehide I) I O Qp ⟨rfl,RepL.cons g2 RepL.nil⟩;exact h _ _ x5 R5 _ r5
 ·exact h.elim
@[simp] theorem Qq8 (Γ:Gam) (st:Q0):Q08 mk m Γ st=(mk Γ st).bind fun J B=>(m Γ B).bind fun pv I=>Qgj I pv J:=rfl
end
mutual
def hkV:HK->PV
 | .int i=>.int i
 | .str x=>.str x
 | .tup l=>.tup (hkVL l)
def hkVL:List HK->List PV
 | []=>[]
 | k :: l=>hkV k :: hkVL l
end
mutual
theorem Qa6 {H:Hp} {ρ:Tk} (o:∀ b xs,H b=some (.tup xs)->b∉ρ):∀ {k:HK} {v:V},KAt H k v->Rep H ρ (hkV k) v
 | .int _,_,r=>r
 | .str _,_,r=>r
 | .tup _,_,⟨a,vs,e,h,r⟩=>⟨a,vs,e,h,o a vs h,hkVL_rep o r⟩
theorem hkVL_rep {H:Hp} {ρ:Tk} (o:∀ b xs,H b=some (.tup xs)->b∉ρ):∀ {l:List HK} {vs:List V},KAtL H l vs->RepL H ρ (hkVL l) vs
 | [],_,r=>r
 | _ :: _,_,⟨v,r,e,h,t⟩=>⟨v,r,e,Qa6 o h,hkVL_rep o t⟩
end
theorem DGet.tr {b:V} {kvs:List (HK × V)} {k:HK} (e:Rd H a (.dT kvs)) (B:KR H k b):DGet H a b (Ug kvs k):=.inr ⟨kvs,k,b,e,rfl,B,rfl⟩
def Ua (st:Q0):PV->Option (List (HK × PV))
 | .ref i=>match st[i]? with
  | some (.dtp kvs)=>some kvs
  | some (.frt kvs)=>some kvs
  | _=>none
 | _=>none
theorem X3 {kvs:List (HK × PV)} (R:Rel H ρ st) (r:Rep H ρ p v) (e:Ua st p=some kvs):∃ i a vs,p=.ref i/\v=.ref a/\ρ.tr[i]?=some a/\Rd H a (.dT vs)/\RepD H ρ kvs vs:=by
 cases p with
 | ref i=>
  obtain ⟨a,J,rfl⟩:=r;unfold Ua at e;cases z:st[i]? with
  | none=>simp only [z] at e; cases e
  | some c=>
   simp only [z] at e;cases c with
   | dtp I=>
    cases e;obtain ⟨b,vs,B,U,O⟩:=R.dtp z;rw [J] at B;cases B;exact ⟨i,a,vs,rfl,rfl,J,.inl U,O⟩
   | frt I=>
    cases e;obtain ⟨b,vs,o,B,U,O⟩:=R.frt z;rw [J] at B;cases B;exact ⟨i,a,vs,rfl,rfl,J,.inr ⟨o,U⟩,O⟩
   | lst xs=>cases e
   | dic xs=>cases e
   | frd xs=>cases e
   | obj C xs=>cases e
 | _=>cases e
variable {tp:Pos} {mf:ME} {elts:List aH} {kt:Nat}
section
variable {pos:Pos} {f i:aH} {mi mk:ME}
theorem Q9b {y:Str} {t:Tok} (B:Gl X x) (I:X.mg x=some (.str y t)) (hd:(x == ("__debug__" : Str))=false:=by decide):SimE X E (.Name x pos) (mC (.str y)):=
 ⟨fun Γ σ H ρ st Q R G h=>WE.of (Q9m B I (v:=.str y) ⟨t,rfl⟩ hd) (now R h rfl)⟩
def xm (st:Q0) (p q:PV):Res PV:=match Ua st p,Q2q q with
 | some kvs,some k=>match Wz kvs k with
  | some v=>.ok v st
  | none=>.stuck
 | _,_=>.stuck
def Wh (mo mi:ME):ME:=fun Γ st=>(mo Γ st).bind fun p st1=>(mi Γ st1).bind fun q st2=>xm st2 p q
theorem Qdm (hu:X.A.units + 9 < aO) (ho:SimE X E o mo) (hi:SimE X E i mi) (hs:Qrk i):SimE X E (.Subscript o i pos) (Wh mo mi):=
 ⟨fun Γ σ H ρ st Q R G h=>WE.of (Qj3 hu Ja Ja hs) (ho.use R G h.bind fun p Z H1 ρ1 v1 x1 U G1 r1 h1=>hi.use U G1 h1.bind fun q a4 H2 J v2 x2 R2 G2 r2 h2=>by
  unfold xm at h2
  split at h2
  ·rename_i kvs k e1 e2
   split at h2
   ·rename_i w B;obtain ⟨n,a,vs,rfl,rfl,_,hb,rd⟩:=X3 R2 (r1.ext x2) e1;have Y:=U0 e2 r2;rcases X2 k rd with ⟨I,_⟩ | ⟨p,v,I,a2,O⟩
    ·rw [I] at B; cases B
    ·rw [I] at B;cases B;exact ⟨a,v,rfl,by have:=DGet.tr (k:=k) hb Y; rwa [a2] at this,now R2 h2 O⟩
   ·exact h2.elim
  ·exact h2.elim)⟩
@[simp] theorem Qrx (Γ:Gam) (st:Q0):Wh mo mi Γ st=(mo Γ st).bind fun p B=>(mi Γ B).bind fun q I=>xm I p q:=rfl
def jk (st:Q0) (p k z:PV):Res PV:=match Ua st p,Q2q k with
 | some kvs,some k=>.ok ((Wz kvs k).getD z) st
 | _,_=>.stuck
def Q09 (mo m mf:ME):ME:=fun Γ st=>(mo Γ st).bind fun p st1=>match Ua st1 p with
 | some _=>(m Γ st1).bind fun k st2=>(mf Γ st2).bind fun z st3=>jk st3 p k z
 | none=>.stuck
theorem Qb1 (hu:X.A.units + 9 < aO) (ho:SimE X E o mo) (he:SimE X E e m) (hf:SimE X E f mf) (mm:M2 X o "get" apos e f cpos):SimE X E (.Call (.Attribute o "get" apos) [e,f] [] cpos) (Q09 mo m mf):=by
 refine ⟨fun Γ σ H ρ st Q R G h=>WE.of (Qen hu Ja Ja Ja mm) ?_⟩;refine ho.use' R G h.bind fun p a6 H1 ρ1 v1 f1 x1 Z G1 r1 h1=>?_
 split at h1
 ·rename_i a4 e1;obtain ⟨n,a,I,rfl,rfl,_,J,_⟩:=X3 Z r1 e1;refine ⟨a,rfl,.inr ⟨I,J⟩,?_⟩;refine he.use Z G1 h1.bind fun k a7 H2 a5 v2 x2 R2 G2 r2 h2=>hf.use R2 G2 h2.bind fun z a9 H3 a8 v3 x3 Y G3 r3 B=>?_
  unfold jk at B
  split at B
  ·rename_i kvs k' e2 e3;obtain ⟨n',a',vs,en,ea,_,hb,rd⟩:=X3 Y ((r1.ext x2).ext x3) e2;cases en;cases ea;have kr:=U0 e3 (r2.ext x3);refine ⟨_,DGet.tr hb kr,?_⟩;rcases X2 k' rd with ⟨U,O⟩ | ⟨p,v,U,O,a3⟩
   ·rw [U] at B;rw [O];exact now Y B r3
   ·rw [U] at B;rw [O];exact now Y B a3
  ·exact B.elim
 ·exact h1.elim
@[simp] theorem Q89 (Γ:Gam) (st:Q0):Q09 mo m mf Γ st=(mo Γ st).bind fun p B=>match Ua B p with
 | some _=>(m Γ B).bind fun k J=>(mf Γ J).bind fun z I=>jk I p k z
 | none=>.stuck:=rfl
def sdT (st:Q0) (p k z:PV):Res PV:=match p with
 | .ref n=>match Q1z st (.ref n),Q2q k with
  | some kvs,some k=>match Wz kvs k with
   | some v=>if kvs.length < lim then .ok v st else .stuck
   | none=>if kvs.length < lim then .ok z (st.set n (.dtp (putT kvs k z))) else .stuck
  | _,_=>.stuck
 | _=>.stuck
def Q39 (mo m mf:ME):ME:=fun Γ st=>(mo Γ st).bind fun p st1=>match Ua st1 p with
 | some _=>(m Γ st1).bind fun k st2=>(mf Γ st2).bind fun z st3=>sdT st3 p k z
 | none=>.stuck
theorem Qi5 (hu:X.A.units + 9 < aO) (ho:SimE X E o mo) (he:SimE X E e m) (hf:SimE X E f mf) (mm:M2 X o "setdefault" apos e f cpos):SimE X E (.Call (.Attribute o "setdefault" apos) [e,f] [] cpos) (Q39 mo m mf):=by
 refine ⟨fun Γ σ H ρ st Q R G h=>WE.of (Qba hu Ja Ja Ja mm) ?_⟩;refine ho.use' R G h.bind fun p a8 H1 ρ1 v1 f1 x1 R1 G1 r1 h1=>?_
 split at h1
 ·rename_i a6 e1;obtain ⟨n,a,a4,rfl,rfl,_,a5,_⟩:=X3 R1 r1 e1;refine ⟨a,rfl,.inr ⟨a4,a5⟩,?_⟩;refine he.use R1 G1 h1.bind fun k b0 H2 a7 v2 x2 R2 G2 r2 h2=>hf.use R2 G2 h2.bind fun z J Y I v3 x3 R3 G3 r3 B=>?_
  unfold sdT at B;have B:Acc X.mg E Y I (QV Q) (match Q1z J (.ref n),Q2q k with
   | some kvs,some k=>match Wz kvs k with
    | some v=>if kvs.length < lim then .ok v J else .stuck
    | none=>if kvs.length < lim then .ok z (J.set n (.dtp (putT kvs k z))) else .stuck
   | _,_=>.stuck):=B
  split at B
  ·rename_i kvs O e2 e3;obtain ⟨n',a',vs,en,ea,er,a9,hb,rd⟩:=Q6y R3 ((r1.ext x2).ext x3) e2;cases en;cases ea;have kr:=U0 e3 (r2.ext x3);rcases X2 O rd with ⟨a1,a2⟩ | ⟨p,v,a1,a2,a3⟩
   ·rw [a1] at B;have B:Acc X.mg E Y I (QV Q) (if kvs.length < lim then Res.ok z (J.set n (.dtp (putT kvs O z))) else .stuck):=B
    by_cases U:kvs.length < lim
    ·rw [bN U] at B;refine ⟨vs,O,hb,kr,by rw [<- rd.length]; exact E2 U yn,fun v Z=>(by rw [a2] at Z; cases Z),fun _=>?_⟩;have x4:Ext Y I (upd Y a (.dT (X4 vs O v3))) I:=Ext.put (E6 er) hb;have rz:=r3.ext x4;have R4:Rel (upd Y a (.dT (X4 vs O v3))) I (J.set n (.dtp (putT kvs O z))):=R3.putC er hb ⟨_,Qp,Q5u (rd.ext x4) O rz⟩;exact B _ I x4 R4 _ rz
    ·rw [bO U] at B; exact B.elim
   ·rw [a1] at B;have B:Acc X.mg E Y I (QV Q) (if kvs.length < lim then Res.ok p J else .stuck):=B
    by_cases U:kvs.length < lim
    ·rw [bN U] at B;exact ⟨vs,O,hb,kr,by rw [<- rd.length]; exact E2 U yn,fun w ew=>(by rw [a2] at ew; cases ew; exact now R3 B a3),fun Z=>(by rw [a2] at Z; cases Z)⟩
    ·rw [bO U] at B; exact B.elim
  ·exact B.elim
 ·exact h1.elim
@[simp] theorem Qfd (Γ:Gam) (st:Q0):Q39 mo m mf Γ st=(mo Γ st).bind fun p B=>match Ua B p with
 | some _=>(m Γ B).bind fun k J=>(mf Γ J).bind fun z I=>sdT I p k z
 | none=>.stuck:=rfl
def Q69 (neg:Bool):OP:=fun st p q=>match Ua st q,Q2q p with
 | some kvs,some k=>.ok (.bl ((Wz kvs k).isSome != neg)) st
 | _,_=>.stuck
theorem Qpk (hu:X.A.units + 9 < aO):OpS X E (aR .In) (Q69 false):=⟨fun H ρ st p q x y Q R rp O h=>by
 unfold Q69 at h
 split at h
 ·rename_i kvs k e1 e2;obtain ⟨n,a,vs,rfl,rfl,_,hb,rd⟩:=X3 R O e1;have Z:=U0 e2 rp;intro pins s σ v u I U ru;cases ru;refine Qxb hu I (DGet.tr hb Z) U fun s' Y=>⟨.bl _,H,Y,rfl,?_⟩
  have:(Ug vs k).isSome=(Wz kvs k).isSome:=by
   rcases X2 k rd with ⟨B,J⟩ | ⟨p,v,B,J,_⟩ <;> rw [B,J] <;> rfl
  rw [this];rw [Bool.bne_false] at h;exact now R h rfl
 ·exact h.elim⟩
theorem Qbc (hu:X.A.units + 9 < aO):OpS X E (aR .NotIn) (Q69 true):=⟨fun H ρ st p q x y Q R rp O h=>by
 unfold Q69 at h
 split at h
 ·rename_i kvs k e1 e2;obtain ⟨n,a,vs,rfl,rfl,_,hb,rd⟩:=X3 R O e1;have kr:=U0 e2 rp;intro pins s σ v u I U ru;cases ru;refine Qk6 hu I (DGet.tr hb kr) U fun s' Z=>⟨.bl _,H,Z,rfl,?_⟩
  have:(Ug vs k).isSome=(Wz kvs k).isSome:=by
   rcases X2 k rd with ⟨B,J⟩ | ⟨p,v,B,J,_⟩ <;> rw [B,J] <;> rfl
  rw [this];have Y:((Wz kvs k).isSome != true)=!(Wz kvs k).isSome:=by cases (Wz kvs k).isSome <;> rfl
  rw [Y] at h;exact now R h rfl
 ·exact h.elim⟩
def Q1n (f:HK × PV->PV) (st:Q0):PV->Option (List PV × Nat × List (HK × PV))
 | .ref i=>match st[i]? with
  | some (.dtp kvs)=>some (kvs.map f,i,kvs)
  | _=>none
 | _=>none
theorem Qfq {f:HK × PV->PV} {ks:List PV} {i:Nat} {kvs:List (HK × PV)} (e:Q1n f st p=some (ks,i,kvs)):p=.ref i/\ks=kvs.map f/\st[i]?=some (.dtp kvs):=by
 unfold Q1n at e
 split at e
 ·split at e
  ·rename_i q;cases e;exact ⟨rfl,rfl,q⟩
  ·cases e
 ·cases e
def Yq (m:ME):MI:=fun Γ st=>(m Γ st).bind fun p st1=>match Q1n (fun kv=>hkV kv.1) st1 p with
 | some (ks,i,kvs)=>if ks.length<=lim then .ok (ks,[(i,.frt kvs)]) (st1.set i (.frt kvs)) else .stuck
 | none=>.stuck
theorem Q5k (ha:SimE X E e m):SimI X E tg e (Yq m):=⟨fun Γ σ H ρ st P R' R G h k=>by
 have hb:Acc X.mg E H ρ _ (m Γ st):=Acc.bind h;refine WI.of (Qed Ja) (ha.use' R G hb fun p B H1 ρ1 v eq x1 R1 G1 r1 _=>?_);have Y:Yq m Γ st=(match Q1n (fun I=>hkV I.1) B p with
  | some (ks,i,kvs)=>if ks.length<=lim then Res.ok (ks,[(i,.frt kvs)]) (B.set i (.frt kvs)) else .stuck
  | none=>.stuck):=by unfold Yq; rw [eq]; rfl
 rw [Y] at h;cases ek:Q1n (fun I=>hkV I.1) B p with
 | none=>rw [ek] at h; exact h.elim
 | some w=>
  obtain ⟨ks,i,kvs⟩:=w;rw [ek] at h Y;obtain ⟨rfl,rfl,ew⟩:=Qfq ek;have h:Acc X.mg E H ρ P (if (kvs.map (fun I=>hkV I.1)).length<=lim then Res.ok (kvs.map (fun I=>hkV I.1),[(i,.frt kvs)]) (B.set i (.frt kvs)) else .stuck):=h
  by_cases hl:(kvs.map (fun I=>hkV I.1)).length<=lim
  ·rw [bN hl] at h;have Y:Yq m Γ st=Res.ok (kvs.map (fun I=>hkV I.1),[(i,.frt kvs)]) (B.set i (.frt kvs)):=Y.trans (bN hl);obtain ⟨a,ea,rfl⟩:=r1;obtain ⟨b,vs,eb,J,rd⟩:=R1.dtp ew;rw [ea] at eb;cases eb;refine ⟨a,vs,rfl,J,fun o hn=>?_⟩;have mem:=E6 ea;have x2:Ext H1 ρ1 (upd H1 a (.frz o (.dT vs))) ρ1:=Ext.put mem J;have R2:Rel (upd H1 a (.frz o (.dT vs))) ρ1 (B.set i (.frt kvs)):=R1.putC ea J ⟨vs,⟨o,Qp⟩,rd.ext x2⟩;have hi:i < B.length:=(O0.mp ew).1;refine k (kvs.map (fun I=>hkV I.1),[(i,.frt kvs)]) (B.set i (.frt kvs)) _ ρ1 _ Y (x1.trans x2) R2 (G1.ext x2) (fun y hy=>?_) (Yr hl) ?_ (h _ _ (x1.trans x2) R2)
   ·have:y=(i,.frt kvs):=by simpa using hy
    subst this;rw [F0 hi]
   ·have kl:vs.map Prod.fst=kvs.map Prod.fst:=rd.1;have len:kvs.length=vs.length:=rd.length;refine ⟨fun H2 U Z x R ok=>⟨x.frz a o _ Qp,by simp [len]⟩,fun H2 U Z x R ok j hj=>⟨x.frz a o _ Qp,by rw [<- len]; simpa using hj⟩,fun H2 U Z x R ok j p hp y H3 hy=>?_⟩
    obtain ⟨rfl,I,a1,kr⟩:=hy;refine ⟨Same.refl _,?_⟩;rw [F4] at hp;have O:(kvs.map Prod.fst)[j]?=some I.1:=by rw [<- kl,F4,a1]; rfl
    rw [F4] at O;cases z:kvs[j]? with
    | none=>rw [z] at O; cases O
    | some q=>
     rw [z] at O hp;cases hp;have O:q.1=I.1:=Option.some.inj O;rw [<- O] at kr;exact Qa6 (Qhn R) kr.1
  ·rw [bO hl] at h; exact h.elim⟩
def thawT (st st':Q0):Nat->Q0
 | 0=>st'
 | n + 1=>match st[n]?,(thawT st st' n)[n]? with
  | some (.dtp _),some (.frt kvs)=>(thawT st st' n).set n (.dtp kvs)
  | _,_=>thawT st st' n
def V6 (m:MS):MS:=fun Γ st=>match m Γ st with
 | .nx Γ' st'=>.nx Γ' (thawT st st' st.length)
 | r=>r
theorem Q5g {pins:List (aB × Obj)} {σ B:St} {H H':Hp} {ρ ρ':Tk} {st st':Q0} {Y:Gam} {s0:aC} (I:Inv X pins σ H s0) (R:Rel H ρ st) (x:Ext H ρ H' ρ') (R':Rel H' ρ' st') (G':EnvR H' ρ' Y B) :
  ∀ n,∃ J,Ext H ρ J ρ'/\Rel J ρ' (thawT st st' n)/\EnvR J ρ' Y B/\∀ pins s',Inv X pins B H' s'->Inv X pins B J s'
 | 0=>⟨H',x,R',G',fun _ _ h=>h⟩
 | n + 1=>by
  obtain ⟨H1,x1,Z,G1,h1⟩:=Q5g I R x R' G' n;rw [thawT]
  split
  ·rename_i a1 kvs e1 e2;obtain ⟨a,a3,ea,ha,_⟩:=R.dtp e1;obtain ⟨b,vs,o,eb,hb,rd⟩:=Z.frt e2;have U:ρ'.tr[n]?=some a:=by
    obtain ⟨a2,em⟩:=x.pre;rw [<- em,O6 (O0.mp ea).1]; exact ea
   rw [U] at eb;cases eb;have O:=E6 U;have mem:=E6 ea;refine ⟨upd H1 a (.dT vs),⟨x1.pre,x1.hidM,x1.hidN,fun b u q nb=>?_,x1.new,fun b u q=>?_,fun b u w q=>?_⟩,Z.putC U hb ⟨vs,Qp,rd.1,rd.2.retr O⟩,G1.retr O,fun pins s' h=>(h1 pins s' h).thawT hb (I.noFrzT ha)⟩
   ·rw [Q7 (show b≠a from fun z=>nb (by rw [z]; exact mem))]; exact x1.keep b u q nb
   ·by_cases z:b=a
    ·exact ⟨_,by rw [z]; exact Qp⟩
    ·rw [Q7 z]; exact x1.old b u q
   ·rw [Q7 (show b≠a from fun z=>by rw [z,ha] at q; cases q)]; exact x1.frz b u w q
  ·exact ⟨H1,x1,Z,G1,h1⟩
theorem Qd5 {m:MS} (h:SimS X E s m):SimS X E s (V6 m):=⟨fun Γ σ H ρ st D R G O pins s0 I=>by
 let D1:Ends:={ D with nx:=fun B H'=>∃ J,(∀ pins s',Inv X pins B H' s'->Inv X pins B J s')/\D.nx B J }
 have a1:AccS X.mg E D1 H ρ (m Γ st):=by
  unfold V6 at O;cases rb:m Γ st with
  | nx Y U=>
   rw [rb] at O;intro B H' ρ' x R' G';obtain ⟨J,x2,R2,G2,h2⟩:=Q5g I R x R' G' st.length;exact ⟨J,h2,O B J ρ' x2 R2 G2⟩
  | ct Y U=>rw [rb] at O; exact O
  | bk Y U=>rw [rb] at O; exact O
  | rt v U=>rw [rb] at O; exact O
  | exc y U=>rw [rb] at O; exact O
  | stuck=>rw [rb] at O; exact O.elim
 refine thn (h.run Γ σ H ρ st D1 R G a1 pins s0 I) fun f s' Z=>?_
 cases f with
 | next=>
  obtain ⟨B,H',I',J,h1,h2⟩:=Z;exact ⟨B,J,h1 pins s' I',h2⟩
 | brk=>exact Z
 | cont=>exact Z
 | ret u=>exact Z⟩
end
end Sm
namespace Sm
open PySem PySem.Spec L2 SeqAt
def dEq (ks ls:List (Key × PV)):Bool:=decide (ks.length=ls.length) && ks.all fun kv=>match Qw7 ls kv.1 with
 | none=>false
 | some v=>peq kv.2 v
def Qeb (ks:List (Key × PV)):Bool:=ks.all fun kv=>Qz 0 kv.2
section
variable {X:Cx} {E:XK}
def Qub (ks:List (Key × PV)):Bool:=ks.all fun kv=>match kv.1 with
 | .inl _=>true
 | .inr _=>false
def eqM (st:Q0) (x y:PV):Option Bool:=
 if Qz dep (der st x)=true/\Qz dep (der st y)=true then some (peq (der st x) (der st y))
 else match Qm7 st x,Qm7 st y with
  | some ks,some ls=>if Qeb ks=true/\Qeb ls=true/\Qub ks=true/\Qub ls=true then some (dEq ks ls) else none
  | _,_=>none
variable {e o i:aH} {m mo mi:ME} {pos tpos:Pos}
def Qfh (i:Nat) (f:Int->Int->Int) (m:ME):MS:=fun Γ st=>match Γ[i]? with
 | some (some (.int a))=>(m Γ st).sbind fun v st1=>match v with
  | .int b=>.nx (Γ.set i (some (.int (f a b)))) st1
  | _=>.stuck
 | _=>.stuck
theorem Qn1 (i:Nat) {x:Str} {pos':Pos} {op:Operator} {f:Int->Int->Int} (U:PIp X op (ipI f)) (O:X.N.Nodup) (he:SimE X E e m) (hi:X.N[i]?=some x:=by rfl) (Z:Loc X.env.scope x:=by first | exact Or.inl rfl | exact Or.inr rfl) (hf:X.fn x=true\/X.env.scope.names.lookup x=some .local:=by first | exact .inl rfl | exact .inr rfl) :
  SimS X E (.AugAssign (.Name x pos') op e pos) (Qfh i f m):=⟨fun Γ σ H ρ st D R G h=>by
 unfold Qfh at h
 split at h
 ·rename_i a ea;obtain ⟨v,ev,I⟩:=G.2 i _ ea;cases I;refine WS.of (Qnz O hi Z Ja U hf) ⟨_,ev,he.use R G h.bind fun p Y H1 ρ1 w x1 B J r1 h1=>?_⟩;cases p with
  | int b=>
   cases r1;exact ⟨a,b,rfl,rfl,h1 _ H1 ρ1 (Ext.refl _ _) B (J.set (p:=.int (f a b)) (v:=.int (f a b)) rfl i)⟩
  | _=>exact h1.elim
 ·exact h.elim⟩
end
end Sm
namespace L2
open PySem PySem.Spec PyProof.Rows
theorem Qbx {X:Cx}:Qv8 X (Qnp X.K):=by
 intro pins s σ H x y v u Q I rx Z h;obtain ⟨p,xs,i,z,rfl,rfl,hq,he,q⟩:=h;cases rx;obtain ⟨t,rfl⟩:=Z;obtain ⟨its,r,pl,hz⟩:=I.list hq;obtain ⟨j,h1,h2,h3,h4,Y⟩:=atI_get he;obtain ⟨w,U,J⟩:=r.get h2;have hl:=r.length;have hn:=je;have fin:EP X pins σ Q w s:=⟨z,H,I,J,q⟩
 by_cases O:0<=i
 ·have B:i.toNat=j:=by
   rw [seqIndex_of O Y] at h1;exact Option.some.inj h1
  exact wpAny_getItem_list pl.isList O (by omega) (by rw [B]; simpa using U) fin
 ·have B:(i + (its.toArray.size:Int)).toNat=j:=by
   rw [seqIndex_neg (by omega) h4] at h1;have:=Option.some.inj h1;simp; omega
  exact wpAny_getItem_list_neg pl.isList (by omega) (by simp; omega) (by simp; omega) (by rw [B]; simpa using U) fin
end L2
namespace Sm
open PySem PySem.Spec PyProof.Rows L2
variable {X:Cx} {E:XK} {e:aH} {m:ME}
section
variable {pos:Pos}
def Q6j (mo mi:ME) (f:Int->Int->Int) (m:ME):MS:=fun Γ st=>(mo Γ st).sbind fun o st1=>(mi Γ st1).sbind fun i st2=>match Y1 st2 o,i with
 | some xs,.int j=>match atI xs j with
  | some (.int a)=>(m Γ st2).sbind fun v st4=>match v with
   | .int b=>match W8 st4 o i (.int (f a b)) with
    | some st5=>.nx Γ st5
    | none=>.stuck
   | _=>.stuck
  | _=>.stuck
 | _,_=>.stuck
theorem Qhv {o i:aH} {mo mi:ME} {tpos:Pos} {op:Operator} {f:Int->Int->Int} (hp:PIp X op (ipI f)) (ho:SimE X E o mo) (hi:SimE X E i mi) (he:SimE X E e m)
  (ha:∀ B J new,augStore i B J new=(do ay [new,B,J] (setItem B J new); release [new,B,J] []; pure .next):=by intros; rfl) :
  SimS X E (.AugAssign (.Subscript o i tpos) op e pos) (Q6j mo mi f m):=
 ⟨fun Γ σ H ρ st D R G h=>WS.of (Qis Ja Ja Qbx Ja hp Q5m ha) (ho.use R G h.bind fun B a2 H1 ρ1 x x1 R1 G1 r1 h1=>hi.use R1 G1 h1.bind fun J a3 H2 a1 y x2 R2 G2 Z h2=>by
  split at h2
  ·rename_i xs j el
   split at h2
   ·rename_i a ea;obtain ⟨b,vs,rfl,hb,rb⟩:=Jc R2 (r1.ext x2) el;obtain ⟨z,ez,rz⟩:=rb.atI ea;cases rz;have ey:=Z;cases Z;refine ⟨b,vs,j,_,rfl,rfl,.inl hb,ez,he.use R2 G2 h2.bind fun p O H4 Y w x4 R4 G4 r4 I=>?_⟩;cases p with
    | int c=>
     cases r4;dsimp only at I;cases es:W8 O B (.int j) (.int (f a c)) with
     | none=>rw [es] at I; exact I.elim
     | some a4=>
      rw [es] at I;obtain ⟨a',U,k',j',e1,e2,f1,f2,x5,R5⟩:=Q99 (p:=.int (f a c)) (z:=.int (f a c)) R4 (r1.ext (x2.trans x4)) (ey.ext x4) rfl es;exact ⟨a,c,rfl,rfl,a',U,k',j',e1,e2,f1,f2,I σ _ Y x5 R5 (G4.ext x5)⟩
    | _=>exact I.elim
   ·exact h2.elim
  ·exact h2.elim)⟩
@[simp] theorem Qu5 (mo mi:ME) (f:Int->Int->Int) (m:ME) (Γ:Gam) (st:Q0):Q6j mo mi f m Γ st=(mo Γ st).sbind fun o O=>(mi Γ O).sbind fun i B=>(match Y1 B o,i with
 | some xs,.int j=>(match atI xs j with
  | some (.int a)=>(m Γ B).sbind fun v J=>(match v with
   | .int b=>(match W8 J o i (.int (f a b)) with
    | some I=>.nx Γ I
    | none=>.stuck)
   | _=>.stuck)
  | _=>.stuck)
 | _,_=>.stuck):=rfl
end
end Sm
namespace Sm
open PySem PySem.Spec L2
variable {K:PySem.W.Frag} {mg:Str->Option aA} {h:Heap} {st s:aK} {ps:List Str} {f a:aB} {oc:aA} {P:aM} {fd:aP} {k n:Nat} {F:FN} {α:Type}
variable {X:Cx} {E:XK} {o:aH} {mo:ME} {apos cpos:Pos} {to:TE}
theorem Qpd (Z:PE X o to) (B:bC o "clear" X.env (aL o X.env)=aL o X.env:=by rfl) (J:(apos.endLine == cpos.line)=true:=by rfl):PE X (.Call (.Attribute o "clear" apos) [] [] cpos)
  (fun σ H Q=>to σ H fun x H1=>(tyV X.K "list" x H1/\WM X "list.clear" x [] H1 Q)\/(tyV X.K "dict" x H1/\WM X "dict.clear" x [] H1 Q)):=by
 intro pins s σ H Q I h;refine wpAny_Call_method0_late B J (thn (Z pins s σ H _ I h) fun v s1 ⟨x,H1,O,U,q⟩=>?_)
 rcases q with ⟨ty,Y⟩ | ⟨ty,Y⟩
 ·obtain ⟨h1,h2⟩:=Q7b O U ty;exact ⟨"list", "list.clear",PySem.F.plainAttrs_list,PySem.F.slot_list_clear,PySem.F.type_list_clear,h1,h2,Calls.callWith_builtin rfl (PySem.evalArgs_none (Qq3 pins s1 σ H1 x [] v [] Q O U .nil Y))⟩
 ·obtain ⟨h1,h2⟩:=Q7b O U ty;exact ⟨"dict", "dict.clear",PySem.F.plainAttrs_dict,PySem.F.slot_dict_clear,PySem.F.type_dict_clear,h1,h2,Calls.callWith_builtin rfl (PySem.evalArgs_none (Qq3 pins s1 σ H1 x [] v [] Q O U .nil Y))⟩
def Qff (mo:ME):ME:=fun Γ st=>(mo Γ st).bind fun p st1=>match p with
 | .ref i=>match st1[i]? with
  | some (.lst _)=>.ok .non (st1.set i (.lst []))
  | some (.dic _)=>.ok .non (st1.set i (.dic []))
  | _=>.stuck
 | _=>.stuck
theorem Qng (ho:SimE X E o mo) (I:bC o "clear" X.env (aL o X.env)=aL o X.env:=by rfl) (J:(apos.endLine == cpos.line)=true:=by rfl):SimE X E (.Call (.Attribute o "clear" apos) [] [] cpos) (Qff mo):=
 ⟨fun Γ σ H ρ st Q R G h=>WE.of (Qpd Ja I J) (ho.use R G h.bind fun p B H1 ρ1 v x1 O G1 Z h1=>by
  split at h1
  ·rename_i i
   split at h1
   ·rename_i xs e;have el:Y1 B (.ref i)=some xs:=Qbp e;obtain ⟨a,vs,rfl,hr,_⟩:=Jc O Z el;refine .inl ⟨.inl ⟨rfl,vs,.inl hr⟩,ms_clear.run (E:=E) H1 ρ1 B (.ref i) [] _ [] Q O Z rfl ?_⟩;have:Q07 B (.ref i) []=.ok .non (B.set i (.lst [])):=by
     simp only [Q07,chg,e]
    rw [this]; exact h1
   ·rename_i kvs e;obtain ⟨a,Y,rfl⟩:=Z;obtain ⟨b,vs,eb,U,rd⟩:=O.dic e;rw [Y] at eb;cases eb;refine .inr ⟨.inr (.inr (.inl ⟨rfl,.inl ⟨vs,U⟩⟩)),WM.of Qbf ⟨a,vs,rfl,rfl,U,?_⟩⟩;have x2:Ext H1 ρ1 (upd H1 a (.dK [])) ρ1:=Ext.put (E6 Y) U;exact h1 _ ρ1 x2 (O.putC Y U ⟨_,Qp,rfl,rfl⟩) _ rfl
   ·exact h1.elim
  ·exact h1.elim)⟩
def Q23:CF:=fun st ps=>match ps with
 | [p]=>match Y1 st p with
  | some xs=>match Q0n xs with
   | some nss=>if nss.length < 64 then .ok (.ref st.length) (st ++ [.lst ((X0 nss).map js)]) else .stuck
   | none=>.stuck
  | none=>.stuck
 | _=>.stuck
theorem Q72:CallS X E (.builtin "sorted") Q23:=⟨fun H ρ st ps xs Q R rp h=>by
 unfold Q23 at h
 split at h
 ·rename_i p;obtain ⟨v,rfl,r⟩:=Ze rp
  split at h
  ·rename_i ys el
   split at h
   ·rename_i nss en
    split at h
    ·rename_i a1;obtain ⟨a,vs,rfl,hr,B⟩:=Jc R r el;obtain ⟨g1,g2⟩:=Q5c en B;subst g1;have O:=B.length;rw [O1] at O;refine WC.of Q51 ⟨a,vs,nss,rfl,.inl hr,by omega,g2,fun d I hd U Z=>?_⟩;have J:=Q31 B I fun x Y=>by have:=U.mem_iff.mp Y; simpa using this
     rw [Z] at J;have x:Ext H ρ (upd H d (.lst (I.map fun i=>vs.getD i .non))) (ρ.add d):=Ext.addT hd;refine h _ _ x (R.addC hd ⟨_,Qp,J.ext x⟩) _ ⟨d,?_,rfl⟩;show (ρ.tr ++ [d])[st.length]?=some d;rw [<- R.len,D5 (O8 _),L0]; rfl
    ·exact h.elim
   ·exact h.elim
  ·exact h.elim
 ·exact h.elim⟩
def tgN:aH->List Str
 | .Name x _=>[x]
 | .Tuple es _ _=>es.flatMap fun e=>match e with
  | .Name x _=>[x]
  | _=>[]
 | _=>[]
def K5 (N:List Str) (tg:aH) (cap:List (Option Nat)):List Str:=tgN tg ++ cap.filterMap fun o=>o.bind (N[·]?)
theorem Qtz {l:List Str} (h:decide l.Nodup=true):l.Nodup:=of_decide_eq_true h
structure KR (b:Bool):Prop where
 h:b=true
variable {tg iter elt:aH} {ifs:List aH} {sc:Scope} {ga:GA} {mi:MI} {mt:MT} {me:ME} {x:Str} {px:Pos}
section
variable {pos:Pos} {cap:List (Option Nat)} {i:Nat}
theorem Qdc (B:X.calm=true) (Z:KR (compOkC X.N (K5 X.N tg cap) sc X.env.scope cap)) (hs:∀ x,av iter X.env x=pure x) (O:qy cap ga) (hi:SimI X E tg iter mi) (U:∀ cl C I H0 ex,SimG (Z8 X (K5 X.N tg cap) sc cl C I H0 ex) tg ga) (Y:∀ cl C I H0 ex,SimE (Z8 X (K5 X.N tg cap) sc cl C I H0 ex) E0 elt me) (J:∀ cl C I H0 ex,SimTs (Z8 X (K5 X.N tg cap) sc cl C I H0 ex) ifs mt):SimN X E (.ListComp elt [⟨tg,iter,ifs,0⟩] sc pos) (Qy cap ga mi mt me):=
 Q05 cap _ B hi U Y J O rfl rfl Z.h hs
theorem Qas (Y:swapsWith (.ListComp elt [⟨tg,iter,ifs,0⟩] sc cpos) (some (.Name x px)) pos.line X.env=pure true) (J:X.N.Nodup) (B:X.calm=true) (O:X.N[i]?=some x) (hx:Loc X.env.scope x) (hc:KR (compOkC X.N (K5 X.N tg cap) sc X.env.scope cap)) (hs:∀ x,av iter X.env x=pure x) (U:X.fn x=true\/X.env.scope.names.lookup x=some .local) (hf:qy cap ga) (hi:SimI X E tg iter mi) (hg:∀ cl C I H0 ex,SimG (Z8 X (K5 X.N tg cap) sc cl C I H0 ex) tg ga) (he:∀ cl C I H0 ex,SimE (Z8 X (K5 X.N tg cap) sc cl C I H0 ex) E0 elt me) (Z:∀ cl C I H0 ex,SimTs (Z8 X (K5 X.N tg cap) sc cl C I H0 ex) ifs mt):SimS X E (.Assign [.Name x px] (.ListComp elt [⟨tg,iter,ifs,0⟩] sc cpos) pos) (Qu i (Wv (Qy cap ga mi mt me))):=
 Qd9 cap _ i J B hi hg he Z hf O hx Y rfl rfl hc.h hs U
theorem Qat (Y:swapsWith (.ListComp elt [⟨tg,iter,ifs,0⟩] sc cpos) (some (.Name x px)) pos.line X.env=pure true) (J:X.N.Nodup) (B:X.calm=true) (O:X.N[i]?=some x) (hx:Loc X.env.scope x) (hc:KR (compOkC X.N (K5 X.N tg cap) sc X.env.scope cap)) (hs:∀ x,av iter X.env x=pure x) (U:X.fn x=true\/X.env.scope.names.lookup x=some .local) (hf:qy cap ga) (hi:SimI X E tg iter mi) (hg:∀ cl C I H0 ex,SimG (Z8 X (K5 X.N tg cap) sc cl C I H0 ex) tg ga) (he:∀ cl C I H0 ex,SimE (Z8 X (K5 X.N tg cap) sc cl C I H0 ex) E0 elt me) (Z:∀ cl C I H0 ex,SimTs (Z8 X (K5 X.N tg cap) sc cl C I H0 ex) ifs mt):SimS X E (.Assign [.Name x px] (.ListComp elt [⟨tg,iter,ifs,0⟩] sc cpos) pos) (Qu i (V5 (Qy cap ga mi mt me))):=
 Q0t cap _ i J B hi hg he Z hf O hx Y rfl rfl hc.h hs U
end
structure AtS (K:PySem.W.Frag) (mg:Str->Option aA) (name:Str) (st:aK) (ps:List Str) (f:aB) (fd:aP):Prop where
 F:Fun K name name st f fd
 m:mg name=some (.ref f)
 b:Binds K fd ps []
theorem Qrg {name:Str} {st:aK} {ps:List Str} {f:aB} {oc:aA} {Y O:Option aB} {U:Array (Option aA)} {kV I J B ct:aA} (X:K.In h) (G:h.Ns aS mg)
  (a:PySem.W.nsIn K aS name=some (some (.ref f))) (l:K.lookup f=some ⟨oc,Y,.func (PySem.W.fnOf name name (Yb st) (Js st) (Qa st) .none kV I J O B ct),U⟩) (c:PySem.W.codeIn K B name=true) (k:PySem.W.keepIn K (.ref f)=true)
  (b:∀ (kV I J:aA) (O:Option aB) (B ct:aA) (us:List aA),us.length=ps.length->bindArgs (PySem.W.fnOf name name (Yb st) (Js st) (Qa st) .none kV I J O B ct) ⟨us,[]⟩=pure (ps.zip us)) :
  AtS K mg name st ps f (PySem.W.fnOf name name (Yb st) (Js st) (Qa st) .none kV I J O B ct):=
 have F:=Qg6 (st:=st) l c k
 ⟨F,PySem.W.mg_of X G a,F.binds b⟩
theorem AtS.def {w:aJ} {base:Heap} {name:Str} (a:AtS K mg name st ps f fd) (B:ps.length=n) (G:FnOk P w K mg base (CXD P w) k f fd ps (spF mg n F)):DefS P w K mg base k name n F:=
 ⟨f,fd,ps,G,a.m,a.F.kp,a.b,B⟩
def FL (K:PySem.W.Frag) (x ql:Str) (s:aK) (f:aB):Prop:=∃ (oc:aA) (od:Option aB) (kV dc pm:aA) (an:Option aB) (cd ct:aA) (sl:Array (Option aA)),K.lookup f=some ⟨oc,od,.func (PySem.W.fnOf x ql (Yb s) (Js s) (Qa s) .none kV dc pm an cd ct),sl⟩/\PySem.W.codeIn K cd ql=true/\PySem.W.keepIn K (.ref f)=true
theorem FL.fn {B:Str} (h:FL K x B s f):∃ fd,Fun K x B s f fd:=let ⟨_,_,_,_,_,_,_,_,_,l,c,k⟩:=h; ⟨_,Qg6 l c k⟩
def FA (K:PySem.W.Frag) (x:Str) (s:aK) (f:aB):Prop:=PySem.W.nsIn K aS x=some (some (.ref f))/\FL K x x s f
theorem FA.mk {B O:Option aB} {U:Array (Option aA)} {kV J I cd ct:aA} (a:PySem.W.nsIn K aS x=some (some (.ref f))) (l:K.lookup f=some ⟨oc,B,.func (PySem.W.fnOf x x (Yb s) (Js s) (Qa s) .none kV J I O cd ct),U⟩) (c:PySem.W.codeIn K cd x=true) (k:PySem.W.keepIn K (.ref f)=true):FA K x s f:=⟨a,_,_,_,_,_,_,_,_,_,l,c,k⟩
theorem ln1 {l:List α} (h:l.length=1):∃ a,l=[a]:=match l,h with | [_],_=>⟨_,rfl⟩
theorem ln2 {l:List α} (h:l.length=2):∃ a b,l=[a,b]:=match l,h with | [_,_],_=>⟨_,_,rfl⟩
theorem ln3 {l:List α} (h:l.length=3):∃ a b c,l=[a,b,c]:=match l,h with | [_,_,_],_=>⟨_,_,_,rfl⟩
theorem ln4 {l:List α} (h:l.length=4):∃ a b c d,l=[a,b,c,d]:=match l,h with | [_,_,_,_],_=>⟨_,_,_,_,rfl⟩
theorem ln5 {l:List α} (h:l.length=5):∃ a b c d e,l=[a,b,c,d,e]:=match l,h with | [_,_,_,_,_],_=>⟨_,_,_,_,_,rfl⟩
theorem ln6 {l:List α} (h:l.length=6):∃ a b c d e f,l=[a,b,c,d,e,f]:=match l,h with | [_,_,_,_,_,_],_=>⟨_,_,_,_,_,_,rfl⟩
theorem ln7 {l:List α} (h:l.length=7):∃ a b c d e f g,l=[a,b,c,d,e,f,g]:=match l,h with | [_,_,_,_,_,_,_],_=>⟨_,_,_,_,_,_,_,rfl⟩
theorem FL.bd {B:Str} {ps:List Str} (h:FL K x B s f)
  (b:∀ (kV J O:aA) (U:Option aB) (I ct:aA) (us:List aA),us.length=ps.length->bindArgs (PySem.W.fnOf x B (Yb s) (Js s) (Qa s) .none kV J O U I ct) ⟨us,[]⟩=pure (ps.zip us)):∃ fd,Fun K x B s f fd/\Binds K fd ps []:=
 let ⟨_,F⟩:=h.fn
 ⟨_,F,F.binds b⟩
theorem Yc {name:Str} (ps:List Str) (X:K.In h) (G:h.Ns aS mg) (a:FA K name st f)
  (b:∀ (kV O U:aA) (Y:Option aB) (J ct:aA) (us:List aA),us.length=ps.length->bindArgs (PySem.W.fnOf name name (Yb st) (Js st) (Qa st) .none kV O U Y J ct) ⟨us,[]⟩=pure (ps.zip us):=by
   intro _ _ _ _ _ _ us I
   first | (obtain ⟨_,rfl⟩:=ln1 I; rfl) | (obtain ⟨_,_,rfl⟩:=ln2 I; rfl) | (obtain ⟨_,_,_,rfl⟩:=ln3 I; rfl) | (obtain ⟨_,_,_,_,rfl⟩:=ln4 I; rfl) | (obtain ⟨_,_,_,_,_,rfl⟩:=ln5 I; rfl) | (obtain ⟨_,_,_,_,_,_,rfl⟩:=ln6 I; rfl) | (obtain ⟨_,_,_,_,_,_,_,rfl⟩:=ln7 I; rfl)):∃ fd,AtS K mg name st ps f fd:=
 let ⟨a,l⟩:=a
 let ⟨_,F,B⟩:=l.bd b
 ⟨_,F,PySem.W.mg_of X G a,B⟩
theorem AtS.d {name:Str} (a:AtS K mg name st ps f fd) (P:aM) (w:aJ) (base:Heap) (B:ps.length=n) (G:FnOk P w K mg base (CXD P w) k f fd ps (spF mg n F)):DefS P w K mg base k name n F:=a.def B G
def noL (K:PySem.W.Frag):Bool:=K.all fun p=>match p.2.data with
 | .seq _ _=>(match p.2.cls with
  | .type n=>!(n == ("list" : Str))
  | _=>true)
 | _=>true
theorem Q8b {o:Obj} (h:K.lookup a=some o):(a,o)∈K:=by
 induction K with
 | nil=>cases h
 | cons p K B=>
  obtain ⟨b,u⟩:=p;rw [List.lookup_cons] at h;cases e:a == b with
  | true=>
   rw [e] at h;have:a=b:=by simpa using e
   subst this;cases h;exact O9
  | false=>
   rw [e] at h;exact O4 _ (B h)
theorem Qq1 {o:Obj} {its:Array aA} (B:noL K=true) (h:K.lookup a=some o) (I:o.cls=.type "list") (hd:o.data=.seq its n):False:=by
 have:=F5.mp B _ (Q8b h);simp [I,hd] at this
theorem Q32 {H:Hp} {ρ:Tk}:∀ ns:List Int,RepL H ρ (ns.map .int) (ns.map V.int)
 | []=>rfl
 | n :: ns=>⟨_,_,rfl,rfl,Q32 ns⟩
theorem Qid (H:Hp):Rel H Tk.nil []:=⟨rfl,List.nodup_nil,fun a h=>(by cases h),fun a h=>(by cases h),fun i a c h=>(by simp [Tk.nil] at h)⟩
def Q44 (K:PySem.W.Frag):Sp:=fun vs H Q _=>∃ (a:aB) (ns:List Int),vs=[.ref a]/\SqL K H a (ns.map V.int)/\ns.length<=63/\∀ H',Q (.bl true) H'
theorem Qjw {w:aJ} {base:Heap} {CX:CXT} {FL:FN} (O:noL K=true) (F:FnOk P w K mg base CX k f fd ps (spF mg 1 FL)) (B:∀ ns:List Int,ns.length<=63->∃ st',FL [.fro (ns.map .int)] []=.ok (.bl true) st'):FnOk P w K mg base CX k f fd ps (Q44 K):=F.imp fun vs H Q E ⟨a,ns,e,hS,U,J⟩=>by
 subst e;obtain ⟨st',Y⟩:=B ns U;have I:Rd H a (.lst (ns.map V.int)):=by
  rcases hS with h | ⟨o,its,n,h1,h2,h3,Z,_⟩
  ·exact h
  ·exact (Qq1 O h1 h2 Z).elim
 refine ⟨rfl,Tk.nil,[],[.fro (ns.map .int)],Qid H,⟨_,_,rfl,⟨a,_,rfl,I,Tk.not_nil a,Q32 ns⟩,rfl⟩,?_⟩;rw [Y];intro H' ρ' x R v r;have e:v=.bl true:=r;subst e;exact J H'
theorem Qgk {w:aJ} {H:Hp} {s:aC} {e:aA} {s':aC} (h:CXD P w [] H s (fun _ _ _=>False) e s'):False:=by
 obtain ⟨_,_,_,_,_,_,_,_,_,z⟩:=h;exact z
theorem walkS {l:PySem.W.OpenLaw} {q:aM} {B:List Str} {Y:(Str->Option aA)->Heap->Prop} {O:aJ->Heap->Prop} {d:DefRec} {K:Params->PySem.W.Frag} (hn:l.most=some 63) (hr:Room k callerA) (I:d.params.defaults=[])
  (U:∀ (w:aJ) (h:Heap),O w h->(K w.params).In h)
  (F:∀ (w:aJ) (mg:Str->Option aA) (J:aB) (h:Heap),(K w.params).In h->h.Ns aS mg->mg d.name=some (.ref J) ->
   ∃ fd:aP,(∀ (s:aC) (u:aA),BindsTo s fd ⟨[u],[]⟩ [("script",u)])/\∀ base:Heap,(K w.params).In base->base.Ns aS mg->FnOk l.prog w (K w.params) mg base (CXD l.prog w) k J fd ["script"] (Q44 (K w.params))) :
  PySem.W.WalkO q B Y O l.row.toRowW d [] (fun f vs=>PySem.call f vs):=
 L2.walk_of (n:=63) (k:=k) (x := "script") (CX:=fun w=>CXD l.prog w) (sp:=fun w=>Q44 (K w.params)) hn (by decide) I hr U F (fun _ _ a ns Z _ hS=>⟨a,ns,rfl,hS,Z,fun _=>rfl⟩) fun _ _ _ _ _ z=>Qgk z
end Sm
namespace Lw
open PySem PySem.Spec L2 Sm
variable {f:aB} {fd:aP} {b:Bool} {α:Type} {n L R nl D Ld:Nat} {st S S1 S2 S3 A:Q0} {zs:List (PV × Bool)} {xs ls h:List Int} {Γ:Gam} {r:Res PV} {m mo:ME} {v x p q k Vm Vs Va:PV} {mr:ML} {ps l:List PV} {ga:GA} {mi:MI} {c:List (Nat × Nat)} {mt:MT} {a sv:Int} {ss:List (Nat × Bool)}
def top (i:Nat):aK:=PySem.Challenge.pw_lendwharf_k48_first_come_first_served.main.body.getD i (.Pass ⟨0,0,0,0⟩)
abbrev j4:aK:=top 4
abbrev Xj:aK:=top 5
abbrev Ke:aK:=top 6
abbrev Wc:aK:=top 7
abbrev yd:aK:=top 9
abbrev j5:aK:=top 15
abbrev Ye:aK:=top 16
abbrev Z3:aK:=top 17
abbrev Yf:aK:=top 18
abbrev j6:aK:=top 19
abbrev Kc:aK:=top 20
abbrev Uk:aK:=top 21
abbrev Uj:aK:=top 22
abbrev V0:aK:=top 23
abbrev y8:aK:=top 26
abbrev Ui:aK:=top 27
abbrev Kb:aK:=top 28
abbrev yc:aK:=top 29
abbrev Xi:aK:=top 30
abbrev y9:aK:=top 31
abbrev Q47:aK:=top 32
abbrev j3:aK:=top 33
abbrev Xk:aK:=top 34
abbrev Q7n:aK:=top 35
abbrev Vu:aK:=top 36
abbrev Xn:aK:=top 38
abbrev Xm:aK:=top 39
abbrev Uq:aK:=top 40
abbrev Um:aK:=top 41
abbrev Kf:aK:=top 42
abbrev Wd:aK:=top 43
abbrev Yp:aK:=top 44
abbrev Vv:aK:=top 45
abbrev Up:aK:=top 46
abbrev jx:aK:=top 47
structure Txt (mg:Str->Option aA):Prop where
 b_all:mg "all" = none
 b_bool:mg "bool" = none
 b_enumerate:mg "enumerate" = none
 b_int:mg "int" = none
 b_isinstance:mg "isinstance" = none
 b_len:mg "len" = none
 b_list:mg "list" = none
 b_max:mg "max" = none
 b_min:mg "min" = none
 b_range:mg "range" = none
 b_sorted:mg "sorted" = none
 b_sum:mg "sum" = none
 b_tuple:mg "tuple" = none
 b_zip:mg "zip" = none
 c_MOST_HOUSES_OF_PLAN:∃ t,mg "MOST_HOUSES_OF_PLAN" = some (.int 6 t)
 c_MOST_ROUNDS_OF_PLAN:∃ t,mg "MOST_ROUNDS_OF_PLAN" = some (.int 10 t)
 c_MOST_TAKINGS:∃ t,mg "MOST_TAKINGS" = some (.int 20 t)
 c_MOST_AT_ONCE:∃ t,mg "MOST_AT_ONCE" = some (.int 1000000 t)
 x_SPRING:∃ t,mg "SPRING" = some (.str "spring" t)
local macro_rules|`(tactic|fail "m")=>do let a:=(("Zd Za Ka Q0x jw Qdp qa Qdj Qd6 Qsq Qd2 q9 Qby Vn Qga Qg9 Qni Qnh Qb2 Qss Qdn Qng Qnf Qb1 Qdm Qb0 Qdk Qaz Qi6 Q9b Qsr Qne Qnd Qnc Qnb Qna Qn9 Qi5 Qdi Qn8 Q7m Qdh Qdg Qn5 Qdd Qi4 Qi3 Q5k Qax Qaw Q0w Qn4 Qi1 Qn3 Qi0 Qhz Qn2 Qn1 Qhv Qd8 Qhu Qn0 Qsn Qd7 Qmz Qd5 Qd4 Qd3 Qmy Qmx jt Q97 Qmv Qhs Qsk Qmu".splitOn " ").map λn=>Lean.mkIdent (.mkSimple n)).toArray;`(tactic|with_reducible first $[|apply $a]* | refine Q5n (T := "list") (o:=K6) ?_ ?_ ?_ ?_ ?_ ?_ ?_ ?_ ?_ | refine Q5n (T := "tuple") (o:=U5) ?_ ?_ ?_ ?_ ?_ ?_ ?_ ?_ ?_ | apply Q5p | apply Qdc | apply SimW.t)
local macro_rules|`(tactic|fail "o")=>do let a:=(("Qr8 Qr7 Qk9 Qr6 Qr5 Q72 Qr4 Qgn Qqq Qpn Qpm Qti Qth Qtg Qpk Qev Qtf Qte Qpj Qpi Qkx Qeu Qbc Qph Qpg".splitOn " ").map λn=>Lean.mkIdent (.mkSimple n)).toArray;`(tactic|first | (with_reducible first $[|apply $a]*))
local macro_rules | `(tactic| fail "r")=>`(tactic| first | rfl | assumption | decide | exact .inl rfl | exact .inr rfl | exact .inr (.inl rfl) | exact .inr (.inr rfl) | exact fun _=>rfl | exact fun _ _=>rfl | exact fun _ _ _=>rfl | exact ⟨rfl,rfl,rfl,rfl⟩ | exact ⟨by kernel_rfl⟩ | exact Q82 _ | exact Room.mono ‹_› (by decide) | exact za | exact Q4b | exact PassesOwn.leaving | exact FnScope.nd ‹_› | exact Qtz (by kernel_rfl) | exact Qi9 ‹_› | exact Room.units ‹_› | exact Qdw | with_unfolding_all rfl)
local macro_rules | `(tactic| fail "s")=>`(tactic| first | (with_reducible first | exact PySem.boot_len | exact Qh5 | exact Qcb | exact Qh4 | exact Q3m | exact Qh3 | exact Qh2 | exact xr | exact Qh1 | exact Q8r) | rfl | (fail "m" <;> fail "s") | (fail "o" <;> fail "r") | ((first | apply Qas | apply Qat | apply Q0s) <;> fail "s") | fail "r" | (intro _ _ _ _ _; fail "s"))
local macro_rules | `(tactic| fail "k")=>`(tactic| (refine Qk2 ‹_› ‹_› rfl rfl rfl ?_; fail "j"))
local macro_rules | `(tactic| fail "K")=>`(tactic| (refine Q6v ‹_› ‹_› rfl rfl rfl ?_; fail "j"))
local macro_rules | `(tactic| fail "j")=>`(tactic| (intros; rcases ‹Txt _› with ⟨_,_,_,_,_,_,_,_,_,_,_,_,_,_,⟨_,_⟩,⟨_,_⟩,⟨_,_⟩,⟨_,_⟩,⟨_,_⟩⟩; show SimB _ _ (_ :: _) _; fail "s"))
local macro_rules | `(tactic| fail "c")=>`(tactic| exact ⟨rfl,rfl,rfl,by decide +kernel,rfl,by decide +kernel,by decide +kernel⟩)
variable {P:aM} {K:PySem.W.Frag} {mg:Str->Option aA} {base:Heap}
section
variable {w:aJ}
def ja:MS:=(J0 (zk (ym "int" (Q2 0)) (Qjn (ym "bool" (Q2 0)))))
def Wm:FN:=Qk ja 1
theorem Q64 (F:Fun K "is_whole" "is_whole" j4 f fd) (T:Txt mg)   : FnOk P w K mg base (CXD P w) 1 f fd ["thing"] (spF mg 1 Wm):=by
 have:FnScope ["thing"] ["thing"] (Qa j4):=by fail "c"
 delta Wm ja
 fail "k"
def Xt:MS:=(J0 (zk (Qd 1 Wm (Q1 (Q2 0) Q6)) (Vz (oI fun a b=>.bl (decide (a<=b))) (oI fun a b=>.bl (decide (a<=b))) (Q2 1) (Q2 0) (Q2 2))))
def Qf:FN:=Qk Xt 3
theorem Q2j (F:Fun K "is_between" "is_between" Xj f fd) (T:Txt mg)  (B:DefS P w K mg base 1 "is_whole" 1 Wm):FnOk P w K mg base (CXD P w) 2 f fd ["thing", "least", "most"] (spF mg 3 Qf):=by
 have:FnScope ["thing", "least", "most"] ["thing", "least", "most"] (Qa Xj):=by fail "c"
 delta Qf Xt
 fail "k"
def Wr:ME:=(mOp oLt (Q2 0) (Q2 1))
def Kk:MS:=(J0 (Qj (Q01 fun ns=>.bl (ns.all id)) (Q1 (Wv (Qy [none,none] (Qv (Q5 (Q4 0) (Q5 (Q4 1) Qw))) (yk (Q1 (Q2 0) (Q1 (mSl (Q2 0) (K2 (mC (.int 1))) Yz) Q6))) Jt Wr)) Q6)))
def Yu:FN:=Qk Kk 1
theorem Q4f (F:Fun K "is_rising" "is_rising" Ke f fd) (T:Txt mg)   : FnOk P w K mg base (CXD P w) 1 f fd ["things"] (spF mg 1 Yu):=by
 have:FnScope ["things"] ["things"] (Qa Ke):=by fail "c"
 delta Yu Kk Wr
 fail "k"
def Wg:MS:=(J0 (zk (ym "tuple" (Q2 0)) (Vz (oI fun a b=>.bl (decide (a<=b))) (oI fun a b=>.bl (decide (a<=b))) (Q2 1) (Qj Y3 (Q1 (Q2 0) Q6)) (Q2 2))))
def Qe:FN:=Qk Wg 3
theorem zd (F:Fun K "is_sized_tuple" "is_sized_tuple" Wc f fd) (T:Txt mg)   : FnOk P w K mg base (CXD P w) 1 f fd ["thing", "least", "most"] (spF mg 3 Qe):=by
 have:FnScope ["thing", "least", "most"] ["thing", "least", "most"] (Qa Wc):=by fail "c"
 delta Qe Wg
 fail "k"
def Ys:ME:=(Qd 3 Qf (Q1 (Q2 0) (Q1 (mC (.int 0)) (Q1 (mOp (oI fun a b=>.int (a - b)) (Q2 1) (mC (.int 1))) Q6))))
def qe : MS := (Qc (Zp (qp (Yh (toB (ym "tuple" (Q2 1)))) (toB (mOp oNe (Qj Y3 (Q1 (Q2 1) Q6)) (mC (.int 2))))) (J0 (mC (.bl false))) J8)
  (J0 (zk (Qj (Q01 fun ns=>.bl (ns.all id)) (Q1 (Wv (Qy [none,some 0] (Q4 0) (V7 (Q2 1)) Jt Ys)) Q6)) (mOp oNe (mOp oIx (Q2 1) (mC (.int 0))) (mOp oIx (Q2 1) (mC (.int 1)))))))
def Zy:FN:=Qk qe 2
theorem Q80 (F:Fun K "is_road" "is_road" yd f fd) (T:Txt mg)  (B:DefS P w K mg base 2 "is_between" 3 Qf):FnOk P w K mg base (CXD P w) 3 f fd ["n", "thing"] (spF mg 2 Zy):=by
 have:FnScope ["n", "thing"] ["n", "thing"] (Qa yd):=by fail "c"
 delta Zy qe Ys
 fail "k"
def Vi:ME:=(Qd 3 Qf (Q1 (Q2 0) (Q1 (mC (.int 0)) (Q1 (mC (.int 1000000)) Q6))))
def jb : MS := (Qc (Zp (Yh (toB (Qd 3 Qe (Q1 (Q2 0) (Q1 (mC (.int 1)) (Q1 (mC (.int 6)) Q6)))))) (J0 (mC (.bl false))) J8)
  (J0 (Qj (Q01 fun ns=>.bl (ns.all id)) (Q1 (Wv (Qy [none] (Q4 0) (V7 (Q2 0)) Jt Vi)) Q6))))
def Y6:FN:=Qk jb 1
theorem Q65 (F:Fun K "is_start" "is_start" j5 f fd) (T:Txt mg)  (B:DefS P w K mg base 1 "is_sized_tuple" 3 Qe) (I:DefS P w K mg base 2 "is_between" 3 Qf):FnOk P w K mg base (CXD P w) 3 f fd ["thing"] (spF mg 1 Y6):=by
 have:FnScope ["thing"] ["thing"] (Qa j5):=by fail "c"
 delta Y6 jb Vi
 fail "k"
def Zb:MS:=(J0 (zk (Qd 3 Qe (Q1 (Q2 1) (Q1 (mC (.int 3)) (Q1 (mC (.int 3)) Q6)))) (zk (Qd 2 Zy (Q1 (Q2 0) (Q1 (mSl (Q2 1) Yz (K2 (mC (.int 2)))) Q6))) (Qd 3 Qf (Q1 (mOp oIx (Q2 1) (mC (.int 2))) (Q1 (mC (.int 1)) (Q1 (mC (.int 1000000)) Q6)))))))
def Qr:FN:=Qk Zb 2
theorem Kh (F:Fun K "is_road_with_most" "is_road_with_most" Ye f fd) (T:Txt mg)  (B:DefS P w K mg base 1 "is_sized_tuple" 3 Qe) (J:DefS P w K mg base 3 "is_road" 2 Zy) (I:DefS P w K mg base 2 "is_between" 3 Qf):FnOk P w K mg base (CXD P w) 4 f fd ["n", "thing"] (spF mg 2 Qr):=by
 have:FnScope ["n", "thing"] ["n", "thing"] (Qa Ye):=by fail "c"
 delta Qr Zb
 fail "k"
def J6:ME:=(Qd 2 Qr (Q1 (Q2 1) (Q1 (Q2 0) Q6)))
def J5:ME:=(mSl (Q2 0) Yz (K2 (mC (.int 2))))
def Z4 : MS := (Qc (Zp (qp (Yh (toB (ym "tuple" (Q2 1)))) (Yh (toB (Qj (Q01 fun ns => .bl (ns.all id)) (Q1 (Wv (Qy [none, some 0] (Q4 0) (V7 (Q2 1)) Jt J6)) Q6))))) (J0 (mC (.bl false))) J8)
  (J0 (Qd 1 Yu (Q1 (Wv (Qy [none] (Q4 0) (V7 (Q2 1)) Jt J5)) Q6))))
def Qi:FN:=Qk Z4 2
theorem U9 (F:Fun K "are_roads_of_one_round" "are_roads_of_one_round" Z3 f fd) (T:Txt mg)  (B:DefS P w K mg base 4 "is_road_with_most" 2 Qr) (I:DefS P w K mg base 1 "is_rising" 1 Yu):FnOk P w K mg base (CXD P w) 5 f fd ["n", "thing"] (spF mg 2 Qi):=by
 have:FnScope ["n", "thing"] ["n", "thing"] (Qa Z3):=by fail "c"
 delta Qi Z4 J5 J6
 fail "k"
def Jr:ME:=(Qd 2 Qi (Q1 (Q2 1) (Q1 (Q2 0) Q6)))
def Yg:MS:=(J0 (zk (Qd 3 Qe (Q1 (Q2 1) (Q1 (mC (.int 0)) (Q1 (mC (.int 10)) Q6)))) (Qj (Q01 fun ns=>.bl (ns.all id)) (Q1 (Wv (Qy [none,some 0] (Q4 0) (V7 (Q2 1)) Jt Jr)) Q6))))
def Qs:FN:=Qk Yg 2
theorem Ki (F:Fun K "are_roads_of_plan" "are_roads_of_plan" Yf f fd) (T:Txt mg)  (I:DefS P w K mg base 1 "is_sized_tuple" 3 Qe) (B:DefS P w K mg base 5 "are_roads_of_one_round" 2 Qi):FnOk P w K mg base (CXD P w) 6 f fd ["n", "thing"] (spF mg 2 Qs):=by
 have:FnScope ["n", "thing"] ["n", "thing"] (Qa Yf):=by fail "c"
 delta Qs Yg Jr
 fail "k"
def jc:MS:=(J0 (zk (Qd 3 Qf (Q1 (Q2 2) (Q1 (mC (.int 0)) (Q1 (mOp (oI fun a b=>.int (a - b)) (Q2 0) (mC (.int 1))) Q6)))) (Qd 3 Qf (Q1 (Q2 3) (Q1 (mC (.int 0)) (Q1 (Q2 1) Q6))))))
def Wn:FN:=Qk jc 4
theorem Q66 (F:Fun K "is_place" "is_place" j6 f fd) (T:Txt mg)  (B:DefS P w K mg base 2 "is_between" 3 Qf):FnOk P w K mg base (CXD P w) 3 f fd ["n", "rounds", "house", "moment"] (spF mg 4 Wn):=by
 have:FnScope ["n", "rounds", "house", "moment"] ["n", "rounds", "house", "moment"] (Qa j6):=by fail "c"
 delta Wn jc
 fail "k"
def Kj : MS := (Qc (Zp (qp (Yh (toB (Qd 3 Qe (Q1 (Q2 2) (Q1 (mC (.int 3)) (Q1 (mC (.int 3)) Q6)))))) (Yh (toB (Qd 4 Wn (Q1 (Q2 0) (Q1 (Q2 1) (Q1 (mOp oIx (Q2 2) (mC (.int 1))) (Q1 (mOp oIx (Q2 2) (mC (.int 0))) Q6)))))))) (J0 (mC (.bl false))) J8)
  (J0 (Qd 3 Qf (Q1 (mOp oIx (Q2 2) (mC (.int 2))) (Q1 (mC (.int 1)) (Q1 (mC (.int 1000000)) Q6))))))
def Zk:FN:=Qk Kj 3
theorem Q4e (F:Fun K "is_taking" "is_taking" Kc f fd) (T:Txt mg)  (B:DefS P w K mg base 1 "is_sized_tuple" 3 Qe) (J:DefS P w K mg base 3 "is_place" 4 Wn) (I:DefS P w K mg base 2 "is_between" 3 Qf):FnOk P w K mg base (CXD P w) 4 f fd ["n", "rounds", "thing"] (spF mg 3 Zk):=by
 have:FnScope ["n", "rounds", "thing"] ["n", "rounds", "thing"] (Qa Kc):=by fail "c"
 delta Zk Kj
 fail "k"
def Yn:ME:=(Qd 3 Zk (Q1 (Q2 1) (Q1 (Q2 2) (Q1 (Q2 0) Q6))))
def Us:MS:=(J0 (zk (Qd 3 Qe (Q1 (Q2 2) (Q1 (mC (.int 0)) (Q1 (mC (.int 20)) Q6)))) (Qj (Q01 fun ns=>.bl (ns.all id)) (Q1 (Wv (Qy [none,some 0,some 1] (Q4 0) (V7 (Q2 2)) Jt Yn)) Q6))))
def Jg:FN:=Qk Us 3
theorem Q18 (F:Fun K "are_takings" "are_takings" Uk f fd) (T:Txt mg)  (B:DefS P w K mg base 1 "is_sized_tuple" 3 Qe) (I:DefS P w K mg base 4 "is_taking" 3 Zk):FnOk P w K mg base (CXD P w) 5 f fd ["n", "rounds", "thing"] (spF mg 3 Jg):=by
 have:FnScope ["n", "rounds", "thing"] ["n", "rounds", "thing"] (Qa Uk):=by fail "c"
 delta Jg Us Yn
 fail "k"
def Ur : MS := (Qc (Zp (qp (Yh (toB (Qd 3 Qe (Q1 (Q2 0) (Q1 (mC (.int 3)) (Q1 (mC (.int 3)) Q6)))))) (Yh (toB (Qd 1 Y6 (Q1 (mOp oIx (Q2 0) (mC (.int 0))) Q6))))) (J0 (mC (.bl false))) J8)
  (Qc (Qu 1 (Qj Y3 (Q1 (mOp oIx (Q2 0) (mC (.int 0))) Q6)))
  (J0 (zk (Qd 2 Qs (Q1 (Q2 1) (Q1 (mOp oIx (Q2 0) (mC (.int 1))) Q6))) (Qd 3 Jg (Q1 (Q2 1) (Q1 (Qj Y3 (Q1 (mOp oIx (Q2 0) (mC (.int 1))) Q6)) (Q1 (mOp oIx (Q2 0) (mC (.int 2))) Q6))))))))
def Z9:FN:=Qk Ur 2
theorem Q17 (F:Fun K "is_question" "is_question" Uj f fd) (T:Txt mg)  (I:DefS P w K mg base 1 "is_sized_tuple" 3 Qe) (O:DefS P w K mg base 3 "is_start" 1 Y6) (B:DefS P w K mg base 6 "are_roads_of_plan" 2 Qs) (J:DefS P w K mg base 5 "are_takings" 3 Jg):FnOk P w K mg base (CXD P w) 7 f fd ["thing"] (spF mg 1 Z9):=by
 have:FnScope ["thing", "n"] ["thing"] (Qa Uj):=by fail "c"
 delta Z9 Ur
 fail "k"
def V3:MS:=(Zp (Yh (toB (Qd 1 Z9 (Q1 (Q2 0) Q6)))) (Q87 "NoPlan" (mC (.str "this is no question of a plan"))) J8)
def J9:FN:=Qk V3 1
theorem yg (F:Fun K "need_question" "need_question" V0 f fd) (T:Txt mg) (B:∃ C,mg "NoPlan" = some (.ref C)/\PySem.W.excIn K C Qh6 "ValueError.__new__" = true) (I:DefS P w K mg base 7 "is_question" 1 Z9):FnOk P w K mg base (CXD P w) 8 f fd ["question"] (spF mg 1 J9):=by
 obtain ⟨_,_,_⟩:=B;have:FnScope ["question"] ["question"] (Qa V0):=by fail "c"
 delta J9 V3
 fail "k"
def Kt:ME:=(Z5 (Q1 (mC (.str "spring")) (Q1 (Z5 (Q1 (Q2 0) (Q1 (mC (.int 0)) Q6))) (Q1 (Q2 1) Q6))))
def Ks:ME:=(Z5 (Q1 (Z5 (Q1 (Q2 0) (Q1 (Q2 1) Q6))) (Q1 (Z5 (Q1 (Q2 0) (Q1 (mOp Yv (Q2 1) (mC (.int 1))) Q6))) (Q1 (Qj (Zj fun ns=>some (.int ns.sum)) (Q1 (Q2 2) Q6)) Q6))))
def Kr:ME:=(Z5 (Q1 (Z5 (Q1 (Q2 0) (Q1 (Q2 3) Q6))) (Q1 (Z5 (Q1 (Q2 1) (Q1 (mOp Yv (Q2 3) (mC (.int 1))) Q6))) (Q1 (Q2 2) Q6))))
def Ky : MS := (Qc (Yj (mBM X5 (Q2 2) (Q1 (Wv (Qy [none, some 3, some 1] (Q4 0) (Jq (Q1 (Qj Y3 (Q1 (Q2 1) Q6)) Q6)) Jt Ks)) Q6)))
  (Yj (mBM X5 (Q2 2) (Q1 (Wv (Qy [none,none,none,some 3] (Qv (Q5 (Q4 0) (Q5 (Q4 1) (Q5 (Q4 2) Qw)))) (V7 (Q2 4)) Jt Kr)) Q6))))
def yj : MS := (Qc (Qu 1 (mOp oIx (Q2 0) (mC (.int 0))))
  (Qc (Qu 2 (V5 (Qy [none,none] (Qv (Q5 (Q4 0) (Q5 (Q4 1) Qw))) (qu (Q1 (Q2 1) Q6)) Jt Kt)))
  (Qc (Yw (Qv (Q5 (Q4 3) (Q5 (Q4 4) Qw))) (qu (Q1 (mOp oIx (Q2 0) (mC (.int 1))) Q6)) Ky)
  (J0 (Q2 2)))))
def Xd:FN:=Qk yj 5
theorem Q7x (F:Fun K "ways_of" "ways_of" y8 f fd) (T:Txt mg)   : FnOk P w K mg base (CXD P w) 1 f fd ["question"] (spF mg 1 Xd):=by
 have:FnScope ["question", "starts", "ways", "number", "roads"] ["question"] (Qa y8):=by fail "c"
 delta Xd yj Ky Kr Ks Kt
 fail "k"
def V9 : MS := (Qc (Yj (mBM J4 (Q39 (Q2 1) (mOp oIx (Q2 3) (mC (.int 0))) (V5 (Uc Q6))) (Q1 (Q2 2) Q6)))
  (Yj (mBM J4 (Q39 (Q2 1) (mOp oIx (Q2 3) (mC (.int 1))) (V5 (Uc Q6))) (Q1 (Q2 2) Q6))))
def qt : MS := (Qc (Qu 1 Q4m)
  (Qc (Yw (Qv (Q5 (Q4 2) (Q5 (Q4 3) Qw))) (qu (Q1 (Q2 0) Q6)) V9)
  (J0 (Q2 1))))
def Yk:FN:=Ue qt 4
theorem Q16 (F:Fun K "ways_by_end" "ways_by_end" Ui f fd) (T:Txt mg)   : FnOk P w K mg base (CXD P w) 1 f fd ["ways"] (spF mg 1 Yk):=by
 have:FnScope ["ways", "numbers", "number", "way"] ["ways"] (Qa Ui):=by fail "c"
 delta Yk qt V9
 fail "K"
def xg : MS := (Qc (Zp (Vc (toB (mOp oEq (mOp oIx (Q2 0) (mC (.int 0))) (Q2 2))) (toB (mOp oLt (Q2 1) (mOp oIx (Q2 0) (mC (.int 2)))))) (J0 (mOp oIx (Q2 0) (mC (.int 1)))) J8)
  (Qc (Zp (Vc (toB (mOp oEq (mOp oIx (Q2 0) (mC (.int 1))) (Q2 2))) (toB (mOp (oI fun a b=>.bl (decide (b < a))) (Q2 1) (mC (.int 0))))) (J0 (mOp oIx (Q2 0) (mC (.int 0)))) J8)
  (J0 (mC .non))))
def Yt:FN:=Qk xg 3
theorem Q4d (F:Fun K "other_end" "other_end" Kb f fd) (T:Txt mg)   : FnOk P w K mg base (CXD P w) 1 f fd ["way", "load", "end"] (spF mg 3 Yt):=by
 have:FnScope ["way", "load", "end"] ["way", "load", "end"] (Qa Kb):=by fail "c"
 delta Yt xg
 fail "k"
def Ww : MS := (Qc (Qu 8 (Qd 3 Yt (Q1 (mOp oIx (Q2 0) (Q2 7)) (Q1 (mOp oIx (Q2 1) (Q2 7)) (Q1 (Q2 6) Q6)))))
  (Zp (Vc (toB (mOp j8 (Q2 8) (mC .non))) (toB (mOp (Q69 true) (Q2 8) (Q2 3)))) (Qc (Q1f (Q2 3) (Q2 8) (Z5 (Q1 (Q2 7) (Q1 (Q2 6) Q6))))
  (Yj (mBM J4 (Q2 5) (Q1 (Q2 8) Q6)))) J8))
def Uf:MS:=(Yw (Q4 7) (V7 (Wh (Q2 2) (Q2 6))) Ww)
def Wx : MS := (Qc (Qu 5 (V5 (Uc Q6)))
  (Qc (Yw (Q4 6) (V7 (Q2 4)) Uf)
  (Qu 4 (Q2 5))))
def Y0:MT:=(toB (mOp (oI fun a b=>.bl (decide (b < a))) (Qj Y3 (Q1 (Q2 4) Q6)) (mC (.int 0))))
def Q38 : MS := (Qc (Qu 2 (Qd 1 Yk (Q1 (Q2 0) Q6)))
  (Qc (Qu 3 (Q08 (mC (.str "spring")) (mC .non)))
  (Qc (Qu 4 (Q88 (Q1 (mC (.str "spring")) Q6)))
  (Qc (Z2 Y0 Wx 100000)
  (J0 (Q2 3))))))
def Yd:FN:=Ue Q38 9
theorem Q7z (F:Fun K "reached" "reached" yc f fd) (T:Txt mg)  (B:DefS P w K mg base 1 "ways_by_end" 1 Yk) (I:DefS P w K mg base 1 "other_end" 3 Yt):FnOk P w K mg base (CXD P w) 2 f fd ["ways", "loads"] (spF mg 2 Yd):=by
 have:FnScope ["ways", "loads", "by_end", "found", "fresh", "further", "end", "number", "other"] ["ways", "loads"] (Qa yc):=by fail "c"
 delta Yd Q38 Y0 Wx Uf Ww
 fail "K"
def U6 : MS := (Qc (Qu 5 (Wh (Q2 1) (Q2 4)))
  (Qc (Yj (mBM J4 (Q2 3) (Q1 (Z5 (Q1 (mOp oIx (Q2 5) (mC (.int 0))) (Q1 (mOp oEq (mOp oIx (mOp oIx (Q2 0) (mOp oIx (Q2 5) (mC (.int 0)))) (mC (.int 1))) (Q2 4)) Q6))) Q6)))
  (Qu 4 (mOp oIx (Q2 5) (mC (.int 1))))))
def Vr:MT:=(toB (mOp j8 (Wh (Q2 1) (Q2 4)) (mC .non)))
def Xs : MS := (Qc (Qu 3 (V5 (Uc Q6)))
  (Qc (Qu 4 (Q2 2))
  (Qc (Z2 Vr U6 100000)
  (J0 (Q2 3)))))
def W6:FN:=Qk Xs 6
theorem Q2i (F:Fun K "steps_back" "steps_back" Xi f fd) (T:Txt mg)   : FnOk P w K mg base (CXD P w) 1 f fd ["ways", "found", "place"] (spF mg 3 W6):=by
 have:FnScope ["ways", "found", "place", "steps", "at", "step"] ["ways", "found", "place"] (Qa Xi):=by fail "c"
 delta W6 Xs Vr U6
 fail "k"
def Ud:ME:=(mIf (toB (Q2 1)) (mOp (oI fun a b=>.int (a - b)) (mOp oIx (mOp oIx (Q2 3) (Q2 0)) (mC (.int 2))) (mOp oIx (Q2 2) (Q2 0))) (mOp oIx (Q2 2) (Q2 0)))
def Q37:MS:=(J0 (Qj Q24 (Q1 (Wv (Qy [none,none,some 1,some 0] (Qv (Q5 (Q4 0) (Q5 (Q4 1) Qw))) (V7 (Q2 2)) Jt Ud)) Q6)))
def Xe:FN:=Qk Q37 3
theorem Q7y (F:Fun K "room_by" "room_by" y9 f fd) (T:Txt mg)   : FnOk P w K mg base (CXD P w) 1 f fd ["ways", "loads", "steps"] (spF mg 3 Xe):=by
 have:FnScope ["ways", "loads", "steps"] ["ways", "loads", "steps"] (Qa y9):=by fail "c"
 delta Xe Q37 Ud
 fail "k"
def qj:MS:=(Q6j (Q2 1) (Q2 8) (fun i j=>i + j) (mIf (toB (Q2 9)) (Q2 7) (Qjp (Q2 7))))
def qk : MS := (Qc (Qu 6 (Qd 3 W6 (Q1 (Q2 0) (Q1 (Q2 5) (Q1 (Q2 3) Q6)))))
  (Qc (Qu 7 (Qj Q24 (Q1 (Qd 3 Xe (Q1 (Q2 0) (Q1 (Q2 1) (Q1 (Q2 6) Q6)))) (Q1 (mOp (oI fun a b=>.int (a - b)) (mOp oIx (Q2 2) (mC (.int 2))) (Q2 4)) Q6))))
  (Qc (Yw (Qv (Q5 (Q4 8) (Q5 (Q4 9) Qw))) (V7 (Q2 6)) qj)
  (Qc (Qfh 4 (fun i j=>i + j) (Q2 7))
  (Qu 5 (Qd 2 Yd (Q1 (Q2 0) (Q1 (Q2 1) Q6))))))))
def Uy:MT:=(Vc (toB (mOp oLt (Q2 4) (mOp oIx (Q2 2) (mC (.int 2))))) (toB (mOp (Q69 false) (Q2 3) (Q2 5))))
def Q9t : MS := (Qc (Qu 3 (Z5 (Q1 (mOp oIx (Q2 2) (mC (.int 1))) (Q1 (mOp oIx (Q2 2) (mC (.int 0))) Q6))))
  (Qc (Qu 4 (mC (.int 0)))
  (Qc (Qu 5 (Qd 2 Yd (Q1 (Q2 0) (Q1 (Q2 1) Q6))))
  (Qc (Z2 Uy qk 2000000)
  (J0 (Q2 4))))))
def y4:FN:=Ue Q9t 10
theorem Qex (F:Fun K "serve" "serve" Q47 f fd) (T:Txt mg)  (J:DefS P w K mg base 2 "reached" 2 Yd) (B:DefS P w K mg base 1 "steps_back" 3 W6) (I:DefS P w K mg base 1 "room_by" 3 Xe):FnOk P w K mg base (CXD P w) 3 f fd ["ways", "loads", "taking"] (spF mg 3 y4):=by
 have:FnScope ["ways", "loads", "taking", "place", "served", "found", "steps", "amount", "number", "onward"] ["ways", "loads", "taking"] (Qa Q47):=by fail "c"
 delta y4 Q9t Uy qk qj
 fail "K"
def K0:MS:=(Zp (Vc (toB (mOp oNe (mOp oIx (Q2 3) (mC (.int 0))) (mC (.str "spring")))) (Vc (toB (mOp oNe (mOp oIx (mOp oIx (Q2 3) (mC (.int 0))) (mC (.int 0))) (mOp oIx (mOp oIx (Q2 3) (mC (.int 1))) (mC (.int 0))))) (toB (mOp (oI fun a b=>.bl (decide (b < a))) (Q2 4) (mC (.int 0)))))) (Yj (mBM J4 (Q2 2) (Q1 (Z5 (Q1 (mOp oIx (mOp oIx (Q2 3) (mC (.int 0))) (mC (.int 1))) (Q1 (mOp oIx (mOp oIx (Q2 3) (mC (.int 0))) (mC (.int 0))) (Q1 (mOp oIx (mOp oIx (Q2 3) (mC (.int 1))) (mC (.int 0))) (Q1 (Q2 4) Q6))))) Q6))) J8)
def j9 : MS := (Qc (Qu 2 (V5 (Uc Q6)))
  (Qc (Yw (Qv (Q5 (Q4 3) (Q5 (Q4 4) Qw))) (yk (Q1 (Q2 0) (Q1 (Q2 1) Q6))) K0)
  (J0 (Q2 2))))
def U7:FN:=Ue j9 5
theorem Q63 (F:Fun K "moves_by" "moves_by" j3 f fd) (T:Txt mg)   : FnOk P w K mg base (CXD P w) 1 f fd ["ways", "loads"] (spF mg 2 U7):=by
 have:FnScope ["ways", "loads", "moves", "way", "load"] ["ways", "loads"] (Qa j3):=by fail "c"
 delta U7 j9 K0
 fail "K"
def Kw:ME:=(mC (.int 0))
def Kv:ME:=(Qd 3 y4 (Q1 (Q2 1) (Q1 (Q2 2) (Q1 (Q2 0) Q6))))
def Ku:ME:=(Q2 0)
def K8:MT:=(toB (mOp oNe (Q2 0) (mC (.str "spring"))))
def Xu : MS := (Qc (Qu 1 (Qd 1 Xd (Q1 (Q2 0) Q6)))
  (Qc (Qu 2 (V5 (Qy [none] (Q4 0) (V7 (Q2 1)) Jt Kw)))
  (Qc (Qu 3 (V5 (Qy [none,some 1,some 2] (Q4 0) (V7 (mOp oIx (Q2 0) (mC (.int 2)))) Jt Kv)))
  (Qc (Qu 4 (Qj Q23 (Q1 (Wv (Qy [none] (Q4 0) (Yq (Qd 2 Yd (Q1 (Q2 1) (Q1 (Q2 2) Q6)))) K8 Ku)) Q6)))
  (J0 (Z5 (Q1 (Q2 3) (Q1 (Qd 2 U7 (Q1 (Q2 1) (Q1 (Q2 2) Q6))) (Q1 (Q2 4) Q6)))))))))
def Zr:FN:=Ue Xu 5
theorem sc_all_served:FnScope ["question", "ways", "loads", "served", "cut"] ["question"] (Qa Xk):=⟨rfl,rfl,rfl,by decide +kernel,rfl,by decide +kernel,by decide +kernel⟩
theorem Q2k (F:Fun K "all_served" "all_served" Xk f fd) (T:Txt mg)  (J:DefS P w K mg base 1 "ways_of" 1 Xd) (B:DefS P w K mg base 3 "serve" 3 y4) (O:DefS P w K mg base 2 "reached" 2 Yd) (I:DefS P w K mg base 1 "moves_by" 2 U7):FnOk P w K mg base (CXD P w) 4 f fd ["question"] (spF mg 1 Zr):=by
 refine Q6v (k:=3) (m:=Xu) F sc_all_served rfl rfl rfl fun Y A outer s H E U=>?_
 exact (jw (Q0s 1 sc_all_served.nd (qa J (U.mono (by decide)) za rfl (Za (Zd 0) Ka)))
  (jw (by first | exact Q0t [none] ["way"] 2 sc_all_served.nd rfl (Q0w (Zd 1)) (fun _ _ _ _ _=>(q9 (i:=0) (show (["way"]:List Str).Nodup by decide +kernel))) (fun _ _ _ _ _=>Q0x) (fun _ _ _ _ _=>jt) Vn | exact Q0s 2 sc_all_served.nd (Q7m (Q05 [none] ["way"] rfl (Q0w (Zd 1)) (fun _ _ _ _ _=>(q9 (i:=0) (show (["way"]:List Str).Nodup by decide +kernel))) (fun _ _ _ _ _=>Q0x) (fun _ _ _ _ _=>jt) Vn)))
  (jw (by first | exact Q0t [none,some 1,some 2] ["taking", "ways", "loads"] 3 sc_all_served.nd rfl (Q0w (Qdj (Zd 0) Q0x)) (fun _ _ _ _ _=>(q9 (i:=0) (show (["taking", "ways", "loads"]:List Str).Nodup by decide +kernel))) (fun _ _ _ _ _=>(qa B (U.mono (by decide)) Q4b rfl (Za (Zd 1) (Za (Zd 2) (Za (Zd 0) Ka))))) (fun _ _ _ _ _=>jt) Vn | exact Q0s 3 sc_all_served.nd (Q7m (Q05 [none,some 1,some 2] ["taking", "ways", "loads"] rfl (Q0w (Qdj (Zd 0) Q0x)) (fun _ _ _ _ _=>(q9 (i:=0) (show (["taking", "ways", "loads"]:List Str).Nodup by decide +kernel))) (fun _ _ _ _ _=>(qa B (U.mono (by decide)) Q4b rfl (Za (Zd 1) (Za (Zd 2) (Za (Zd 0) Ka))))) (fun _ _ _ _ _=>jt) Vn)))
  (jw (Q0s 4 sc_all_served.nd (Q5p Q72 rfl T.b_sorted xr (Za (Qdg (Q05 [none] ["end"] rfl (Q5k (qa O (U.mono (by decide)) za rfl (Za (Zd 1) (Za (Zd 2) Ka)))) (fun _ _ _ _ _=>(q9 (i:=0) (show (["end"]:List Str).Nodup by decide +kernel))) (fun _ _ _ _ _=>(Zd 0)) (fun _ _ _ _ _=>(Q97 (Qd2 (Qkx U.units) (Zd 0) (Q9b rfl T.x_SPRING.choose_spec)))) Vn)) Ka)))
  (Qdp (Qd6 (Qdh (Za (Zd 3) (Za (qa I (U.mono (by decide)) za rfl (Za (Zd 1) (Za (Zd 2) Ka))) (Za (Zd 4) Ka))))))))))
def Qfb : MS := (Qc (Yj (Qd 1 J9 (Q1 (Q2 0) Q6)))
  (Qc (Qu 1 (Qd 1 Zr (Q1 (Q2 0) Q6)))
  (J0 (Z5 (Q1 (Qj (Zj fun ns=>some (.int ns.sum)) (Q1 (mOp oIx (Q2 1) (mC (.int 0))) Q6)) (Q1 (Z5 (Q1 (mOp oIx (Q2 1) (mC (.int 1))) (Q1 (mOp oIx (Q2 1) (mC (.int 0))) Q6))) (Q1 (mOp oIx (Q2 1) (mC (.int 2))) Q6)))))))
def Q2c:FN:=Qk Qfb 2
theorem Qjc (F:Fun K "best" "best" Q7n f fd) (T:Txt mg)  (B:DefS P w K mg base 8 "need_question" 1 J9) (I:DefS P w K mg base 4 "all_served" 1 Zr):FnOk P w K mg base (CXD P w) 9 f fd ["question"] (spF mg 1 Q2c):=by
 have:FnScope ["question", "told"] ["question"] (Qa Q7n):=by fail "c"
 delta Q2c Qfb
 fail "k"
def Vx : MS := (Qc (Yj (Qd 1 J9 (Q1 (Q2 0) Q6)))
  (Qc (Qu 1 (Qd 1 Zr (Q1 (Q2 0) Q6)))
  (J0 (Z5 (Q1 (mOp oIx (Q2 1) (mC (.int 0))) (Q1 (Z5 (Q1 (mOp oIx (Q2 1) (mC (.int 1))) (Q1 (V5 (Km (mOp oIx (Q2 1) (mC (.int 0))))) Q6))) Q6))))))
def Zh:FN:=Ue Vx 2
theorem xy (F:Fun K "first_served" "first_served" Vu f fd) (T:Txt mg)  (B:DefS P w K mg base 8 "need_question" 1 J9) (I:DefS P w K mg base 4 "all_served" 1 Zr):FnOk P w K mg base (CXD P w) 9 f fd ["question"] (spF mg 1 Zh):=by
 have:FnScope ["question", "told"] ["question"] (Qa Vu):=by fail "c"
 delta Zh Vx
 fail "K"
def Vg : MS := (Qc (Zp (toB (mOp oLt (Q2 1) (Qj Y3 (Q1 (Q2 0) Q6)))) (J0 (mOp oIx (Q2 0) (Q2 1))) J8)
  (J0 (mC (.int 0))))
def Zt:FN:=Qk Vg 2
theorem Q2n (F:Fun K "_law_acell" "_law_acell" Xn f fd) (T:Txt mg)   : FnOk P w K mg base (CXD P w) 1 f fd ["script", "k"] (spF mg 2 Zt):=by
 have:FnScope ["script", "k"] ["script", "k"] (Qa Xn):=by fail "c"
 delta Zt Vg
 fail "k"
def W4 : MS := (Qc (Qu 4 (mOp Yv (mOp Q4h (Q2 4) (Q2 3)) (Q2 5)))
  (Qu 5 (mOp Q67 (mOp Yv (mOp Yv (mOp Q4h (Q2 5) (Q2 5)) (mOp Q4h (mC (.int 40692)) (Q2 1))) (Q2 6)) (Q2 3))))
def Vf : MS := (Qc (Qu 2 (Qd 2 Zt (Q1 (Q2 0) (Q1 (Q2 1) Q6))))
  (Qc (Zp (toB (mOp oEq (mOp Q67 (Q2 2) (mC (.int 2))) (mC (.int 0)))) (J0 (V5 (Uc (Q1 (mOp Qez (Q2 2) (mC (.int 2))) Q6)))) J8)
  (Qc (Qu 3 (mC (.int 2305843009213693951)))
  (Qc (Qu 4 (mC (.int 0)))
  (Qc (Qu 5 (mOp Q67 (mOp Yv (mOp Yv (mOp Q4h (mOp Q67 (Q2 2) (Q2 3)) (mC (.int 48271))) (mOp Q4h (mC (.int 69621)) (Q2 1))) (mC (.int 11))) (Q2 3)))
  (Qc (Yw (Q4 6) (Jq (Q1 (mC (.int 5)) Q6)) W4)
  (J0 (V5 (Uc (Q1 (Q2 4) Q6))))))))))
def Zs:FN:=Ue Vf 7
theorem Q2m (F:Fun K "_law_atape" "_law_atape" Xm f fd) (T:Txt mg)  (B:DefS P w K mg base 1 "_law_acell" 2 Zt):FnOk P w K mg base (CXD P w) 2 f fd ["script", "k"] (spF mg 2 Zs):=by
 have:FnScope ["script", "k", "cell", "p", "number", "last", "turn"] ["script", "k"] (Qa Xm):=by fail "c"
 delta Zs Vf W4
 fail "K"
def Yi : MS := (Qc (Qu 2 (mOp Q67 (mOp oIx (Q2 0) (mC (.int 0))) (Q2 1)))
  (Qc (jd (Q2 0) (mC (.int 0)) (mOp Qez (mOp oIx (Q2 0) (mC (.int 0))) (Q2 1)))
  (J0 (Q2 2))))
def Qn:FN:=Qk Yi 3
theorem Q1b (F:Fun K "_law_adigit" "_law_adigit" Uq f fd) (T:Txt mg)   : FnOk P w K mg base (CXD P w) 1 f fd ["tape", "many"] (spF mg 2 Qn):=by
 have:FnScope ["tape", "many", "found"] ["tape", "many"] (Qa Uq):=by fail "c"
 delta Qn Yi
 fail "k"
def Ut:MS:=(J0 (zk (ym "int" (Q2 0)) (Qjn (ym "bool" (Q2 0)))))
def Zz:FN:=Qk Ut 1
theorem Q19 (F:Fun K "_law_awhole" "_law_awhole" Um f fd) (T:Txt mg)   : FnOk P w K mg base (CXD P w) 1 f fd ["found"] (spF mg 1 Zz):=by
 have:FnScope ["found"] ["found"] (Qa Um):=by fail "c"
 delta Zz Ut
 fail "k"
def Zi : MS := (Qc (Zp (toB (mOp oEq (Qd 2 Qn (Q1 (Q2 0) (Q1 (mC (.int 8)) Q6))) (mC (.int 7)))) (J0 (mOp (oI fun a b => .int (a - b)) (mOp Qje (mC (.int 10)) (mC (.int 6))) (Qd 2 Qn (Q1 (Q2 0) (Q1 (mC (.int 9)) Q6))))) J8)
  (J0 (mOp Yv (mC (.int 1)) (Qd 2 Qn (Q1 (Q2 0) (Q1 (Q2 1) Q6))))))
def Y8:FN:=Qk Zi 2
theorem Q4g (F:Fun K "_law_ahow" "_law_ahow" Kf f fd) (T:Txt mg)  (B:DefS P w K mg base 1 "_law_adigit" 2 Qn):FnOk P w K mg base (CXD P w) 2 f fd ["tape", "few"] (spF mg 2 Y8):=by
 have:FnScope ["tape", "few"] ["tape", "few"] (Qa Kf):=by fail "c"
 delta Y8 Zi
 fail "k"
def Zq:ME:=(mOp (oI fun a b=>.int (a - b)) (Qd 2 Y8 (Q1 (Q2 1) (Q1 (mC (.int 10)) Q6))) (mC (.int 1)))
def J1:MS:=(Zp (Vc (toB (mOp oNe (Q2 9) (Q2 10))) (toB (mOp oLt (Qd 2 Qn (Q1 (Q2 0) (Q1 (mC (.int 4)) Q6))) (Q2 5)))) (Yj (mBM J4 (Q2 8) (Q1 (Z5 (Q1 (Q2 9) (Q1 (Q2 10) (Q1 (Qd 2 Y8 (Q1 (Q2 0) (Q1 (mC (.int 5)) Q6))) Q6)))) Q6))) J8)
def Jn:MS:=(Yw (Q4 10) (Jq (Q1 (Q2 2) Q6)) J1)
def Jp : MS := (Qc (Qu 8 (V5 (Uc Q6)))
  (Qc (Yw (Q4 9) (Jq (Q1 (Q2 2) Q6)) Jn)
  (Yj (mBM J4 (Q2 6) (Q1 (Qj U5 (Q1 (Q2 8) Q6)) Q6)))))
def Jm:MS:=(Yj (mBM J4 (Q2 11) (Q1 (Z5 (Q1 (Qd 2 Qn (Q1 (Q2 0) (Q1 (mOp Yv (Q2 4) (mC (.int 1))) Q6))) (Q1 (Qd 2 Qn (Q1 (Q2 0) (Q1 (Q2 2) Q6))) (Q1 (Qd 2 Y8 (Q1 (Q2 0) (Q1 (mC (.int 7)) Q6))) Q6)))) Q6)))
def Zf : MS := (Qc (Qu 2 (mOp Yv (mC (.int 1)) (Qd 2 Qn (Q1 (Q2 0) (Q1 (Q2 1) Q6)))))
  (Qc (Qu 3 (Qj U5 (Q1 (Wv (Qy [none,some 0] (Q4 0) (Jq (Q1 (Q2 2) Q6)) Jt Zq)) Q6)))
  (Qc (Qu 4 (Qd 2 Qn (Q1 (Q2 0) (Q1 (mOp Yv (Q2 1) (mC (.int 1))) Q6))))
  (Qc (Qu 5 (mOp Yv (mC (.int 1)) (Qd 2 Qn (Q1 (Q2 0) (Q1 (mC (.int 3)) Q6)))))
  (Qc (Qu 6 (V5 (Uc Q6)))
  (Qc (Yw (Q4 7) (Jq (Q1 (Q2 4) Q6)) Jp)
  (Qc (Qu 11 (V5 (Uc Q6)))
  (Qc (Yw (Q4 12) (Jq (Q1 (Qd 2 Qn (Q1 (Q2 0) (Q1 (mC (.int 6)) Q6))) Q6)) Jm)
  (J0 (Z5 (Q1 (Q2 3) (Q1 (Qj U5 (Q1 (Q2 6) Q6)) (Q1 (Qj U5 (Q1 (Q2 11) Q6)) Q6)))))))))))))
def Jh:FN:=Qk Zf 13
theorem ze (F:Fun K "_law_aquestion" "_law_aquestion" Wd f fd) (T:Txt mg)  (B:DefS P w K mg base 1 "_law_adigit" 2 Qn) (I:DefS P w K mg base 2 "_law_ahow" 2 Y8):FnOk P w K mg base (CXD P w) 3 f fd ["tape", "most"] (spF mg 2 Jh):=by
 have:FnScope ["tape", "most", "size", "start", "rounds", "often", "roads", "turn", "told", "i", "j", "takings", "k"] ["tape", "most"] (Qa Wd):=by fail "c"
 delta Jh Zf Jm Jp Jn J1 Zq
 fail "k"
def Jy:ME:=(Vz (oI fun a b=>.bl (decide (a<=b))) (oI fun a b=>.bl (decide (a<=b))) (mC (.int 0)) (Q2 0) (mOp oIx (Q2 1) (mC (.int 2))))
def Je : MS := (Qc (Zp (qp (Yh (toB (Vz (oI fun a b => .bl (decide (a <= b))) oLt (mC (.int 0)) (Q2 7) (Qj Y3 (Q1 (Q2 4) Q6))))) (toB (mOp oLt (Q2 10) (mC (.int 1))))) (J0 (mC (.bl false))) J8)
  (Q1f (Q2 6) (Z5 (Q1 (Q2 7) (Q1 (Q2 8) (Q1 (Q2 9) Q6)))) (mOp Yv (Q09 (Q2 6) (Z5 (Q1 (Q2 7) (Q1 (Q2 8) (Q1 (Q2 9) Q6)))) (mC (.int 0))) (Q2 10))))
def Jx:ME:=(mOp oIx (Q2 0) (mC (.int 2)))
def Ju:MT:=(toB (mOp oEq (mSl (Q2 0) Yz (K2 (mC (.int 2)))) (Z5 (Q1 (Q2 1) (Q1 (Q2 2) Q6)))))
def Jd : MS := (Qc (Qu 11 (Wv (Qy [none, some 8, some 9] (Q4 0) (V7 (mOp oIx (Q2 4) (Q2 7))) Ju Jx)))
  (Zp (qp (toB (mOp oEq (Q2 11) (Q88 Q6))) (toB (mOp (oI fun a b=>.bl (decide (b < a))) (Wh (Q2 6) (Z5 (Q1 (Q2 7) (Q1 (Q2 8) (Q1 (Q2 9) Q6))))) (mOp oIx (Q2 11) (mC (.int 0)))))) (J0 (mC (.bl false))) J8))
def Z0:MS:=(Zp (toB (mOp oEq (mOp oIx (Q2 15) (mC (.int 0))) (Q2 13))) (jd (Q2 12) (mOp oIx (Q2 15) (mC (.int 1))) (mOp (oI fun a b=>.int (a - b)) (mOp oIx (Q2 12) (mOp oIx (Q2 15) (mC (.int 1)))) (Q2 14))) J8)
def Y5:MS:=(Zp (toB (mOp oEq (Q2 7) (Q2 13))) (jd (Q2 12) (Q2 8) (mOp (oI fun a b=>.int (a - b)) (mOp oIx (Q2 12) (Q2 8)) (Wh (Q2 6) (Z5 (Q1 (Q2 7) (Q1 (Q2 8) (Q1 (Q2 9) Q6))))))) J8)
def Y4:MS:=(Zp (toB (mOp oEq (Q2 7) (Q2 13))) (jd (Q2 12) (Q2 9) (mOp Yv (mOp oIx (Q2 12) (Q2 9)) (Wh (Q2 6) (Z5 (Q1 (Q2 7) (Q1 (Q2 8) (Q1 (Q2 9) Q6))))))) J8)
def Z1 : MS := (Qc (Yw (Qv (Q5 (Q4 14) (Q5 (Q4 15) Qw))) (yk (Q1 (Q2 2) (Q1 (Q2 5) Q6))) Z0)
  (Qc (V6 (Yw (Qv (Q5 (Q4 7) (Q5 (Q4 8) (Q5 (Q4 9) Qw)))) (Yq (Q2 6)) Y5))
  (Qc (Zp (toB (mOp oLt (Qj Q24 (Q1 (Q2 12) Q6)) (mC (.int 0)))) (J0 (mC (.bl false))) J8)
  (V6 (Yw (Qv (Q5 (Q4 7) (Q5 (Q4 8) (Q5 (Q4 9) Qw)))) (Yq (Q2 6)) Y4)))))
def Zn : MS := (Qc (Q8a (Qv (Q5 (Q4 3) (Q5 (Q4 4) (Q5 (Q4 5) Qw)))) (Q2 0))
  (Qc (Zp (toB (mOp oNe (Qj Y3 (Q1 (Q2 2) Q6)) (Qj Y3 (Q1 (Q2 5) Q6)))) (J0 (mC (.bl false))) J8)
  (Qc (Zp (toB (mOp (oIn false) (mC (.bl false)) (Wv (Qy [none,none] (Qv (Q5 (Q4 0) (Q5 (Q4 1) Qw))) (yk (Q1 (Q2 2) (Q1 (Q2 5) Q6))) Jt Jy)))) (J0 (mC (.bl false))) J8)
  (Qc (Qu 6 Q4m)
  (Qc (Yw (Qv (Q5 (Q4 7) (Q5 (Q4 8) (Q5 (Q4 9) (Q5 (Q4 10) Qw))))) (V7 (Q2 1)) Je)
  (Qc (V6 (Yw (Qv (Q5 (Q4 7) (Q5 (Q4 8) (Q5 (Q4 9) Qw)))) (Yq (Q2 6)) Jd))
  (Qc (Qu 12 (V5 (Km (Q2 3))))
  (Qc (Yw (Q4 13) (Jq (Q1 (mOp Yv (Qj Y3 (Q1 (Q2 4) Q6)) (mC (.int 1))) Q6)) Z1)
  (J0 (mC (.bl true)))))))))))
def Qm:FN:=Qk Zn 16
theorem qq (F:Fun K "_law_aplan_holds" "_law_aplan_holds" Yp f fd) (T:Txt mg)   : FnOk P w K mg base (CXD P w) 1 f fd ["question", "moves", "served"] (spF mg 3 Qm):=by
 have:FnScope ["question", "moves", "served", "start", "roads", "takings", "taken", "turn", "i", "j", "k", "rooms", "have", "moment", "many", "taking"] ["question", "moves", "served"] (Qa Yp):=by fail "c"
 delta Qm Zn Z1 Y4 Y5 Z0 Jd Ju Jx Je Jy
 fail "k"
def Wk:MS:=(Zp (toB (mOp (oIn true) (Z5 (Q1 (Q2 6) (Q1 (mC (.int 0)) Q6))) (Q2 1))) (Qu 5 (mOp Yv (Q2 5) (mOp oIx (Q2 2) (Q2 6)))) J8)
def Wi:MS:=(Zp (Vc (toB (mOp (oIn false) (Z5 (Q1 (Q2 8) (Q1 (Q2 7) Q6))) (Q2 1))) (toB (mOp (oIn true) (Z5 (Q1 (Q2 9) (Q1 (mOp Yv (Q2 7) (mC (.int 1))) Q6))) (Q2 1)))) (Qu 5 (mOp Yv (Q2 5) (Q2 10))) J8)
def Wj:MS:=(Yw (Qv (Q5 (Q4 8) (Q5 (Q4 9) (Q5 (Q4 10) Qw)))) (V7 (mOp oIx (Q2 3) (Q2 7))) Wi)
def Xa:ME:=(mOp oIx (Q2 0) (mC (.int 2)))
def Uz:MT:=(toB (mOp (oIn false) (Z5 (Q1 (mOp oIx (Q2 0) (mC (.int 1))) (Q1 (mOp oIx (Q2 0) (mC (.int 0))) Q6))) (Q2 1)))
def Vy : MS := (Qc (Q8a (Qv (Q5 (Q4 2) (Q5 (Q4 3) (Q5 (Q4 4) Qw)))) (Q2 0))
  (Qc (Qu 5 (mC (.int 0)))
  (Qc (Yw (Q4 6) (Jq (Q1 (Qj Y3 (Q1 (Q2 2) Q6)) Q6)) Wk)
  (Qc (Yw (Q4 7) (Jq (Q1 (Qj Y3 (Q1 (Q2 3) Q6)) Q6)) Wj)
  (J0 (mOp Yv (Q2 5) (Qj (Zj fun ns=>some (.int ns.sum)) (Q1 (Wv (Qy [none,some 1] (Q4 0) (V7 (Q2 4)) Uz Xa)) Q6))))))))
def Y7:FN:=Qk Vy 11
theorem xz (F:Fun K "_law_aweight" "_law_aweight" Vv f fd) (T:Txt mg)   : FnOk P w K mg base (CXD P w) 1 f fd ["question", "cut"] (spF mg 2 Y7):=by
 have:FnScope ["question", "cut", "start", "roads", "takings", "total", "house", "turn", "i", "j", "most"] ["question", "cut"] (Qa Vv):=by fail "c"
 delta Y7 Vy Uz Xa Wj Wi Wk
 fail "k"
def V8:ME:=(Qd 1 Zz (Q1 (Q2 0) Q6))
def Zw : MS := (Qc (Qu 3 (Z5 (Q1 (mOp oIx (Q2 0) (mC (.int 0))) (Q1 (mOp oIx (Q2 0) (mC (.int 1))) (Q1 (mSl (mOp oIx (Q2 0) (mC (.int 2))) Yz (K2 (Q2 2))) Q6)))))
  (Qc (Q8a (Qv (Q5 (Q4 4) (Q5 (Q4 5) (Q5 (Q4 6) Qw)))) (Qd 1 Q2c (Q1 (Q2 3) Q6)))
  (Qc (Zp (qp (Yh (toB (Qd 3 Qm (Q1 (Q2 3) (Q1 (mOp oIx (Q2 5) (mC (.int 0))) (Q1 (mOp oIx (Q2 5) (mC (.int 1))) Q6)))))) (toB (mOp oNe (Qd 2 Y7 (Q1 (Q2 3) (Q1 (Q2 6) Q6))) (Qj (Zj fun ns=>some (.int ns.sum)) (Q1 (mOp oIx (Q2 5) (mC (.int 1))) Q6))))) (J0 (mC (.bl false))) J8)
  (Zp (qp (toB (mOp oNe (Qj (Zj fun ns=>some (.int ns.sum)) (Q1 (mSl (mOp oIx (Q2 1) (mC (.int 0))) Yz (K2 (Q2 2))) Q6)) (Qj (Zj fun ns=>some (.int ns.sum)) (Q1 (mOp oIx (Q2 5) (mC (.int 1))) Q6)))) (toB (mOp oNe (Q2 4) (Qj (Zj fun ns=>some (.int ns.sum)) (Q1 (mOp oIx (Q2 5) (mC (.int 1))) Q6))))) (J0 (mC (.bl false))) J8))))
def Wp : MS := (Qc (Zp (qp (Yh (toB (ym "tuple" (Q2 1)))) (toB (mOp oNe (Qj Y3 (Q1 (Q2 1) Q6)) (mC (.int 2))))) (J0 (mC (.bl false))) J8)
  (Qc (Zp (qp (Yh (toB (ym "list" (mOp oIx (Q2 1) (mC (.int 0)))))) (Yh (toB (ym "tuple" (mOp oIx (Q2 1) (mC (.int 1))))))) (J0 (mC (.bl false))) J8)
  (Qc (Zp (qp (toB (mOp (oIn false) (mC (.bl false)) (Wv (Qy [none] (Q4 0) (V7 (mOp oIx (Q2 1) (mC (.int 0)))) Jt V8)))) (toB (mOp oNe (Qj K6 (Q1 (mOp oIx (mOp oIx (Q2 1) (mC (.int 1))) (mC (.int 1))) Q6)) (mOp oIx (Q2 1) (mC (.int 0)))))) (J0 (mC (.bl false))) J8)
  (Qc (Zp (Yh (toB (Qd 3 Qm (Q1 (Q2 0) (Q1 (mOp oIx (mOp oIx (Q2 1) (mC (.int 1))) (mC (.int 0))) (Q1 (mOp oIx (mOp oIx (Q2 1) (mC (.int 1))) (mC (.int 1))) Q6)))))) (J0 (mC (.bl false))) J8)
  (Qc (Yw (Q4 2) (Jq (Q1 (mOp Yv (Qj Y3 (Q1 (mOp oIx (Q2 0) (mC (.int 2))) Q6)) (mC (.int 1))) Q6)) Zw)
  (J0 (mC (.bl true))))))))
def Ym:FN:=Qk Wp 7
theorem Q1a (F:Fun K "_law_aright" "_law_aright" Up f fd) (T:Txt mg)  (J:DefS P w K mg base 1 "_law_awhole" 1 Zz) (B:DefS P w K mg base 1 "_law_aplan_holds" 3 Qm) (O:DefS P w K mg base 9 "best" 1 Q2c) (I:DefS P w K mg base 1 "_law_aweight" 2 Y7):FnOk P w K mg base (CXD P w) 10 f fd ["question", "found"] (spF mg 2 Ym):=by
 have:FnScope ["question", "found", "many", "part", "most", "plan", "cut"] ["question", "found"] (Qa Up):=by fail "c"
 delta Ym Wp Zw V8
 fail "k"
def Q0g : MS := (Qc (Qu 2 (Qd 2 Jh (Q1 (Qd 2 Zs (Q1 (Q2 0) (Q1 (Q2 1) Q6))) (Q1 (mC (.int 4)) Q6))))
  (Qc (Qu 3 (Qd 1 Zh (Q1 (Q2 2) Q6)))
  (Qc (Zp (Yh (toB (Qd 2 Ym (Q1 (Q2 2) (Q1 (Q2 3) Q6))))) (J0 (mC (.bl false))) J8)
  (Qc (Qu 4 (Qj K6 (Q1 (mOp oIx (Q2 3) (mC (.int 0))) Q6)))
  (Qc (Yj (Qff (mOp oIx (Q2 3) (mC (.int 0)))))
  (Qc (Zp (toB (mOp oNe (Qj K6 (Q1 (mOp oIx (mOp oIx (Q2 3) (mC (.int 1))) (mC (.int 1))) Q6)) (Q2 4))) (J0 (mC (.bl false))) J8)
  (Qc (Yj (Qff (mOp oIx (mOp oIx (Q2 3) (mC (.int 1))) (mC (.int 0)))))
  (Qc (Qu 5 (Qd 1 Zh (Q1 (Q2 2) Q6)))
  (Zp (qp (toB (mOp oNe (mOp oIx (Q2 5) (mC (.int 0))) (Q2 4))) (Yh (toB (Qd 3 Qm (Q1 (Q2 2) (Q1 (mOp oIx (mOp oIx (Q2 5) (mC (.int 1))) (mC (.int 0))) (Q1 (mOp oIx (Q2 5) (mC (.int 0))) Q6))))))) (J0 (mC (.bl false))) J8)))))))))
def Qfa : MS := (Qc (Yw (Q4 1) (zj (Q1 (mC (.int 0)) (Q1 (Qj Qc8 (Q1 (mC (.int 1)) (Q1 (Qj Q24 (Q1 (mC (.int 4)) (Q1 (Qj Y3 (Q1 (Q2 0) Q6)) Q6))) Q6))) Q6))) Q0g)
  (J0 (mC (.bl true))))
def Qak:FN:=Qk Qfa 6
theorem Qpz (F:Fun K "law" "law" jx f fd) (T:Txt mg)  (I:DefS P w K mg base 3 "_law_aquestion" 2 Jh) (U:DefS P w K mg base 2 "_law_atape" 2 Zs) (J:DefS P w K mg base 9 "first_served" 1 Zh) (O:DefS P w K mg base 10 "_law_aright" 2 Ym) (B:DefS P w K mg base 1 "_law_aplan_holds" 3 Qm):FnOk P w K mg base (CXD P w) 11 f fd ["script"] (spF mg 1 Qak):=by
 have:FnScope ["script", "start", "question", "found", "kept", "again"] ["script"] (Qa jx):=by fail "c"
 delta Qak Qfa Q0g
 fail "k"
end
theorem Q4z (a:Int) {b:Int} (h:0 < b):0<=a % b/\a % b < b:=⟨Int.emod_nonneg a (by omega),Int.emod_lt_of_pos a h⟩
theorem Qrh (xs:List α) (p:α->Bool):(xs.map p).all id=xs.all p:=by
 rw [List.all_map]; rfl
theorem Qx1 (x:Int) (h:1<=n):∃ k:Nat,k < n/\x % (n:Int)=(k:Int):=by
 have:=Q4z x (b:=(n:Int)) (by omega);exact ⟨(x % (n:Int)).toNat,by omega,by omega⟩
def U8 (n:Nat) (f:Nat->Int):Int:=((List.range n).map f).sum
theorem Wb (n:Nat) (f:Nat->Int):U8 (n + 1) f=U8 n f + f n:=by
 unfold U8;rw [List.range_succ,E3,List.sum_append];simp
theorem J2 {f g:Nat->Int} (h:∀ i,i < n->f i=g i):U8 n f=U8 n g:=by
 induction n with
 | zero=>rfl
 | succ n B=>rw [Wb,Wb,B fun i hi=>h i (by omega),h n (by omega)]
theorem Y9 (n:Nat):U8 n (fun _=>0)=0:=by
 induction n with
 | zero=>rfl
 | succ n B=>rw [Wb,B]; rfl
theorem Qf8 {β:Type} (l:List α) (d:α) (f:α->β):l.map f=(List.range l.length).map fun i=>f (l.getD i d):=by
 refine List.ext_getElem? fun i=>?_
 rw [F4,F4]
 by_cases hi:i < l.length
 ·rw [List.getElem?_range hi,Vk hi d]; rfl
 ·rw [G8 (by omega),G8 (by rw [F6]; omega)]; rfl
theorem Qcy (r:List Int):r.sum=U8 r.length fun j=>r.getD j 0:=by
 have:=Qf8 r 0 id;rw [List.map_id] at this;rw [U8]
 conv=>lhs; rw [this]
 rfl
theorem Q8i {st':Q0} (h:st'.length=st.length) (d:Int):fin st (.int d) st'=.ok (.int d) st':=by
 unfold fin
 by_cases q:st <+: st'
 ·rw [bN q];have:st=st':=q.eq_of_length h.symm;rw [<- this,fz]; rfl
 ·rw [bO q]
structure Mv (L:Nat) (S S':Q0):Prop where
 len:S'.length=S.length
 keep:∀ t,t≠L->S'[t]?=S[t]?
theorem Mv.refl (L:Nat) (S:Q0):Mv L S S:=⟨rfl,fun _ _=>rfl⟩
theorem Mv.trans (a:Mv L S S1) (b:Mv L S1 S2):Mv L S S2:=⟨b.len.trans a.len,fun t B=>(b.keep t B).trans (a.keep t B)⟩
def Tp (S:Q0) (L:Nat):Prop:=∃ c:Int,S[L]?=some (.lst [.int c])
theorem Tp.lt (h:Tp S L):L < S.length:=let ⟨_,e⟩:=h; (O0.mp e).1
theorem Tp.of {B:Q0} (h:Tp S L) (e:B[L]?=S[L]?):Tp B L:=let ⟨c,q⟩:=h; ⟨c,by rw [e]; exact q⟩
theorem Zx (T:Tp S L) (m:Nat) (h1:1<=m) (hm:m < 1000000000):∃ (d:Nat) (O:Q0),d < m/\Tp O L/\Mv L S O/\Qn [.ref L,.int m] S=.ok (.int d) O:=by
 obtain ⟨c,U⟩:=T;have hL:=(O0.mp U).1;have hV:ListAt S (.ref L) [.int c]:=.inr (.inr ⟨L,rfl,U⟩);have Z:oIx S (.ref L) (.int 0)=.ok (.int c) S:=by rw [hV.ix]; rfl
 obtain ⟨d,hd,ed⟩:=Qx1 c h1;have Y:W8 S (.ref L) (.int 0) (.int (c / (m:Int)))=some (S.set L (.lst [.int (c / (m:Int))])):=by
  unfold W8;simp only [U];rfl
 obtain ⟨S1,B⟩:∃ S1,S.set L (.lst [.int (c / (m:Int))])=S1:=⟨_,rfl⟩;rw [B] at Y;have M:Mv L S S1:=⟨by rw [<- B,L6],fun t ht=>by rw [<- B,E5 (fun u=>ht u.symm)]⟩;refine ⟨d,S1,hd,⟨_,by rw [<- B,F0 hL]⟩,M,?_⟩;have J:0 < m:=h1;have I:(m:Int) < 1073741824:=by omega
 have step:Yi [some (.ref L),some (.int m),none] S=.rt (.int d) S1:=by
  simp -implicitDefEqProofs [Yi,Z,J,I,ed,Y,-Q68,-Q46]
 show Qk Yi 3 _ S=_;unfold Qk;rw [show (([PV.ref L,.int m]:List PV).map some ++ List.replicate (3 - [PV.ref L,.int m].length) none)=[some (.ref L),some (.int m),none] from rfl,step];exact Q8i M.len d
theorem Q8g (T:Tp S L) (few:Nat) (h1:1<=few) (h2:few<=100):∃ (v:Int) (U:Q0),(1<=v/\v<=1000000)/\Tp U L/\Mv L S U/\Y8 [.ref L,.int few] S=.ok (.int v) U:=by
 obtain ⟨d,S1,hd,Y,M1,J⟩:=Zx T 8 (by decide) (by decide);rw [show ((8:Nat):Int)=8 from rfl] at J
 by_cases q:d=7
 ·obtain ⟨x,S2,Z,O,M2,B⟩:=Zx Y 9 (by decide) (by decide);rw [show ((9:Nat):Int)=9 from rfl] at B;have I:(d:Int)=7:=by omega
  have M:=M1.trans M2;refine ⟨1000000 - (x:Int),S2,by omega,O,M,?_⟩;have step:Zi [some (.ref L),some (.int few)] S=.rt (.int (1000000 - (x:Int))) S2:=by
   simp -implicitDefEqProofs [Zi,J,I,B]
  show Qk Zi 2 _ S=_;unfold Qk;rw [show (([PV.ref L,.int few]:List PV).map some ++ List.replicate (2 - [PV.ref L,.int few].length) none)=[some (.ref L),some (.int few)] from rfl,step];exact Q8i M.len _
 ·obtain ⟨x,S2,Z,O,M2,B⟩:=Zx Y few h1 (by omega);have I:¬ (d:Int)=7:=by omega
  have M:=M1.trans M2;refine ⟨1 + (x:Int),S2,by omega,O,M,?_⟩;have step:Zi [some (.ref L),some (.int few)] S=.rt (.int (1 + (x:Int))) S2:=by
   simp -implicitDefEqProofs [Zi,J,q,I,B]
  show Qk Zi 2 _ S=_;unfold Qk;rw [show (([PV.ref L,.int few]:List PV).map some ++ List.replicate (2 - [PV.ref L,.int few].length) none)=[some (.ref L),some (.int few)] from rfl,step];exact Q8i M.len _
theorem Qhb (ns:List Int) (k:Nat) (S:Q0):∃ c:Int,Zs [.fro (ns.map .int),.int k] S=.ok (.ref S.length) (S ++ [.lst [.int c]]):=by
 obtain ⟨c,hc⟩:∃ c:Int,Zt [.fro (ns.map .int),.int k] S=.ok (.int c) S:=by
  by_cases q:k < ns.length
  ·have e:atI (ns.map PV.int) (k:Int)=some (.int (ns.getD k 0)):=by rw [Q0h,Sm.atI_get (Vk q 0)]; rfl
   have O:(ns.map PV.int).length=ns.length:=O1 _;refine ⟨ns.getD k 0,?_⟩;generalize ns.getD k 0=x at *;generalize ns.length=nl at *;generalize ns.map PV.int=I at *;simp -implicitDefEqProofs [Zt,Qk,Vg,O,q,e]
  ·have O:(ns.map PV.int).length=ns.length:=O1 _;have q':¬ (k:Int) < (ns.length:Int):=by omega
   refine ⟨0,?_⟩;generalize ns.length=nl at *;generalize ns.map PV.int=I at *;simp -implicitDefEqProofs [Zt,Qk,Vg,O,q,q']
 by_cases q:c % 2=0
 ·refine ⟨c / 2,?_⟩;generalize ns.map PV.int=I at *;simp -implicitDefEqProofs [Zs,Ue,Vf,hc,q,Jk]
 ·obtain ⟨U,B⟩:∃ U:Int,(c % 2305843009213693951 * 48271 + 69621 * k + 11) % 2305843009213693951=U:=⟨_,rfl⟩;have J:=Q4z (c % 2305843009213693951 * 48271 + 69621 * k + 11) (b:=2305843009213693951) (by decide);rw [B] at J;obtain ⟨a1,S1,e,x,y,z,rfl,rfl,_⟩:=Y2 (g:=fun k:Nat=>PV.int (k:Int)) (xs:=List.range 5) (ga:=Q4 6) (body:=W4) (w:=[]) (Γ:=[some (.fro (ns.map .int)),some (.int k),some (.int c),some (.int 2305843009213693951),some (.int 0),some (.int U),none]) (st:=S)
   (fun _ Γ st'=>∃ (x y:Int) (z:Option PV),Γ=[some (.fro (ns.map .int)),some (.int k),some (.int c),some (.int 2305843009213693951),some (.int x),some (.int y),z]/\st'=S/\0<=y/\y < 2305843009213693951)
   (fun _ _ _ _=>by simp)
   (fun i t Γ st' hx ⟨x,y,z,e1,e2,y1,y2⟩=>by
    subst e1; subst e2;obtain ⟨w,Z⟩:∃ w:Int,(y * y + 40692 * k + t) % 2305843009213693951=w:=⟨_,rfl⟩;have Y:=Q4z (y * y + 40692 * k + t) (b:=2305843009213693951) (by decide);rw [Z] at Y;have yb:-18446744073709551616 < y/\y < 18446744073709551616:=by omega
    refine ⟨_,rfl,[some (.fro (ns.map .int)),some (.int k),some (.int c),some (.int 2305843009213693951),some (.int (x * 2305843009213693951 + y)),some (.int w),some (.int t)],st',?_,_,_,_,rfl,rfl,Y.1,Y.2⟩;generalize ns.map PV.int=I at *;simp -implicitDefEqProofs [W4,yb,Z])
   ⟨_,_,_,rfl,rfl,J.1,J.2⟩
  rw [<- Yy] at e;refine ⟨x,?_⟩;generalize ns.map PV.int=I at *;simp -implicitDefEqProofs [Zs,Ue,Vf,hc,q,Jk,B,e]
theorem Q4s (i:Int) (st:Q0):Wm [.int i] st=.ok (.bl true) st:=by
 simp [Wm,Qk,ja,isI,tyN]
theorem Xz (x a b:Int) (st:Q0):Qf [.int x,.int a,.int b] st=.ok (.bl (decide (a<=x) && decide (x<=b))) st:=by
 have:=Q4s x st
 by_cases q:a<=x <;> simp [Qf,Qk,Xt,this,q]
theorem Qsv {n:Int} {a b:PV} {u v:Bool} (O:Qf [a,.int 0,.int (n - 1)] st=.ok (.bl u) st) (U:Qf [b,.int 0,.int (n - 1)] st=.ok (.bl v) st):((u && v)=false->Zy [.int n,.tup [a,b]] st=.ok (.bl false) st)/\((u && v)=true->∀ w,oNe st a b=.ok (.bl w) st->Zy [.int n,.tup [a,b]] st=.ok (.bl w) st):=by
 have I:Jf (Q4 0) Jt Ys [] (Z7 [none,some 0] [some (.int n),some (.tup [a,b])]) [a,b] st=.ok [.bl u,.bl v] st:=by
  have:=Jz (ga:=Q4 0) (me:=Ys) (w:=[]) (Γ0:=Z7 [none,some 0] [some (.int n),some (.tup [a,b])]) (st:=st) (fun z:PV × Bool=>z.1) (fun z=>PV.bl z.2) (by simp) (ys:=[(a,u),(b,v)]) (fun z hz=>⟨_,rfl,by
   rcases D8.mp hz with rfl | hz
   ·simp [Z7,Ys,O]
   ·rw [List.mem_singleton.mp hz];simp [Z7,Ys,U]⟩)
  exact this
 have B:Q01 (fun ns=>.bl (ns.all id)) st [.lst [.bl u,.bl v]]=.ok (.bl (u && v)) st:=by cases u <;> cases v <;> rfl
 refine ⟨fun q=>?_,fun q w J=>?_⟩
 ·rw [q] at B;simp -implicitDefEqProofs [Zy,Qk,qe,isI,tyN,I,B,Jk]
 ·rw [q] at B;simp -implicitDefEqProofs [Zy,Qk,qe,isI,tyN,I,B,Jk,atI,ixN,J]
def rdV (r:Nat × Nat):PV:=.tup [.int r.1,.int r.2]
def Qv7 (n:Nat) (r:Nat × Nat):Prop:=r.1 < n/\r.2 < n/\r.1≠r.2
theorem Qib {r:Nat × Nat} (h:Qv7 n r) (st:Q0):Zy [.int n,rdV r] st=.ok (.bl true) st:=by
 obtain ⟨h1,h2,I⟩:=h;have B:¬ ((r.1:Int)=r.2):=by omega
 refine (Qsv (Xz _ _ _ st) (Xz _ _ _ st)).2 ?_ true ?_
 ·simp; omega
 ·simp [B]
def lx (a b:Nat × Nat):Bool:=HT.lexLt [(a.1:Int),a.2] [(b.1:Int),b.2]
def LxP (a b:Nat × Nat):Prop:=a.1 < b.1\/(a.1=b.1/\a.2 < b.2)
theorem Qu8 (a b:Nat × Nat) (st:Q0):oLt st (rdV a) (rdV b)=.ok (.bl (lx a b)) st:=rfl
def xf (rs:List (Nat × Nat)):Bool:=(rs.zip (rs.drop 1)).all fun z=>lx z.1 z.2
theorem Qqa (a b:Nat × Nat):lx a b=true <-> LxP a b:=by
 unfold lx LxP;rw [HT.lexLt_cons,HT.lexLt_cons,HT.lexLt_nil_nil]
 by_cases h1:(a.1:Int)=b.1
 ·rw [bN h1]
  by_cases h2:(a.2:Int)=b.2
  ·rw [bN h2];constructor
   ·intro z; cases z
   ·intro z; omega
  ·rw [bO h2,decide_eq_true_iff]; omega
 ·rw [bO h1,decide_eq_true_iff]; omega
theorem Qb4 (x y:Nat × Nat) (t:List (Nat × Nat)):xf (x :: y :: t)=(lx x y && xf (y :: t)):=rfl
theorem Q9c:∀ {rs:List (Nat × Nat)},rs.Pairwise LxP->xf rs=true
 | [],_=>rfl
 | [_],_=>rfl
 | x :: y :: t,h=>by
  rw [Qb4,Q9c (List.pairwise_cons.mp h).2,(Qqa x y).mpr ((List.pairwise_cons.mp h).1 y (by simp))]; rfl
theorem Vj (xs:List PV) (a b:Int) (st:Q0):Qe [.tup xs,.int a,.int b] st=.ok (.bl (decide (a<=(xs.length:Int)) && decide ((xs.length:Int)<=b))) st:=by
 by_cases q:a<=(xs.length:Int) <;> simp -implicitDefEqProofs [Qe,Qk,Wg,isI,tyN,q]
theorem Qd1 (h1:1<=zs.length) (U:zs.length<=6) (h:∀ z∈zs,Qf [z.1,.int 0,.int 1000000] st=.ok (.bl z.2) st):Y6 [.tup (zs.map Prod.fst)] st=.ok (.bl ((zs.map Prod.snd).all id)) st:=by
 have hs:=Vj (zs.map Prod.fst) 1 6 st;rw [O1] at hs;have O:(decide ((1:Int)<=zs.length) && decide ((zs.length:Int)<=6))=true:=by simp; omega
 rw [O] at hs;have I:Jf (Q4 0) Jt Vi [] (Z7 [none] [some (.tup (zs.map Prod.fst))]) (zs.map Prod.fst) st=.ok ((zs.map Prod.snd).map .bl) st:=by
  rw [E7];refine Jz _ _ (by simp) fun z hz=>⟨_,rfl,?_⟩
  have:=h z hz;show _=Res.ok (PV.bl z.2) st;generalize zs.map Prod.fst=J at *;simp [Z7,Vi,this]
 have B:(zs.map Prod.fst).length<=1000000:=by rw [O1]; omega
 generalize zs.map Prod.fst=J at *;generalize zs.map Prod.snd=bs at *;simp -implicitDefEqProofs [Y6,Qk,jb,hs,B,Jk,I]
theorem Qwn {a b c:PV} {u w:Bool} (h1:Zy [.int n,.tup [a,b]] st=.ok (.bl u) st) (h2:Qf [c,.int 1,.int 1000000] st=.ok (.bl w) st):Qr [.int n,.tup [a,b,c]] st=.ok (.bl (u && w)) st:=by
 have hs:=Vj [a,b,c] 3 3 st;have hs:Qe [.tup [a,b,c],.int 3,.int 3] st=.ok (.bl true) st:=hs;have B:cut [a,b,c] none (some 2)=[a,b]:=qi [a,b,c] 2;cases u
 ·simp -implicitDefEqProofs [Qr,Qk,Zb,hs,B,h1]
 ·simp -implicitDefEqProofs [Qr,Qk,Zb,hs,B,h1,atI,ixN,h2]
abbrev Tr:=(Nat × Nat) × Int
variable {ts ks:List Tr} {rs:List (List Tr)}
def trV (t:Tr):PV:=.tup [.int t.1.1,.int t.1.2,.int t.2]
def Q8x (n:Nat) (t:Tr):Prop:=Qv7 n t.1/\1<=t.2/\t.2<=1000000
theorem Qnk {t:Tr} (h:Q8x n t) (st:Q0):Qr [.int n,trV t] st=.ok (.bl true) st:=by
 have h1:=Qib h.1 st;have h2:=Xz t.2 1 1000000 st;have B:(decide ((1:Int)<=t.2) && decide (t.2<=1000000))=true:=by have:=h.2; simp; omega
 rw [B] at h2;exact Qwn h1 h2
theorem Qds (rs:List (Nat × Nat)) (Z:rs.length<=1000) (st:Q0):Yu [.lst (rs.map rdV)] st=.ok (.bl (xf rs)) st:=by
 have B:cut (rs.map rdV) (some 1) none=(rs.drop 1).map rdV:=by
  rw [Qk8];exact congrArg _ (Qgm rs 1)
 have J:Jf (Qv (Q5 (Q4 0) (Q5 (Q4 1) Qw))) Jt Wr [] (Z7 [none,none] [some (.lst (rs.map rdV))]) ((rs.zip (rs.drop 1)).map fun z=>.tup [rdV z.1,rdV z.2]) st=.ok (((rs.zip (rs.drop 1)).map fun z=>lx z.1 z.2).map .bl) st:=by
  rw [E7];refine Jz _ _ (by simp) fun z hz=>⟨_,rfl,?_⟩
  have:=Qu8 z.1 z.2 st;show _=Res.ok (PV.bl (lx z.1 z.2)) st;generalize rdV z.1=v1 at *;generalize rdV z.2=U at *;simp [Z7,Wr,this]
 have O:xf rs=((rs.zip (rs.drop 1)).map fun z=>lx z.1 z.2).all id:=by unfold xf; rw [List.all_map]; rfl
 have I:(rs.map rdV).length<=1000000:=by rw [O1]; omega
 rw [O];rw [<- Qck] at J;generalize ((rs.zip (rs.drop 1)).map fun z=>lx z.1 z.2)=bs at *
 generalize (rs.drop 1).map rdV=ds at *;generalize rs.map rdV=Y at *;simp -implicitDefEqProofs [Yu,Qk,Kk,B,I,Jk,J]
theorem Qpy (h:∀ t∈ts,Q8x n t) (hl:ts.length<=900) (st:Q0):Qi [.int n,.tup (ts.map trV)] st=.ok (.bl (xf (ts.map Prod.fst))) st:=by
 have hc:Jf (Q4 0) Jt J6 [] (Z7 [none,some 0] [some (.int n),some (.tup (ts.map trV))]) (ts.map trV) st=.ok ((ts.map fun _=>true).map .bl) st:=by
  rw [E7];refine Jz _ _ (by simp) fun t O=>⟨_,rfl,?_⟩
  have:=Qnk (h t O) st;show _=Res.ok (PV.bl true) st;generalize ts.map trV=U at *;generalize trV t=x at *;simp [Z7,J6,this]
 have I:Jf (Q4 0) Jt J5 [] (Z7 [none] [some (.int n),some (.tup (ts.map trV))]) (ts.map trV) st=.ok ((ts.map Prod.fst).map rdV) st:=by
  rw [E7];refine Jz _ _ (by simp) fun t O=>⟨_,rfl,?_⟩
  have B:cut [PV.int t.1.1,.int t.1.2,.int t.2] none (some 2)=[.int t.1.1,.int t.1.2]:=qi [PV.int t.1.1,.int t.1.2,.int t.2] 2;show _=Res.ok (PV.tup [.int t.1.1,.int t.1.2]) st;generalize ts.map trV=U at *;unfold trV;simp [Z7,J5,B]
 have Y:(ts.map fun _=>true).all id=true:=by rw [List.all_map,F5]; intro r _; rfl
 have Z:=Qds (ts.map Prod.fst) (by rw [O1]; omega) st;have J:(ts.map trV).length<=1000000:=by rw [O1]; omega
 generalize xf (ts.map Prod.fst)=b at *;generalize (ts.map Prod.fst).map rdV=pv at *;generalize (ts.map fun _=>true)=bs at *;generalize ts.map trV=U at *;simp -implicitDefEqProofs [Qi,Qk,Z4,isI,tyN,J,Jk,hc,Y,I,Z]
theorem Qiw (U:zs.length<=10) (h:∀ z∈zs,Qi [.int n,z.1] st=.ok (.bl z.2) st):Qs [.int n,.tup (zs.map Prod.fst)] st=.ok (.bl ((zs.map Prod.snd).all id)) st:=by
 have hs:=Vj (zs.map Prod.fst) 0 10 st;rw [O1] at hs;have I:(decide ((0:Int)<=zs.length) && decide ((zs.length:Int)<=10))=true:=by simp; omega
 rw [I] at hs;have O:Jf (Q4 0) Jt Jr [] (Z7 [none,some 0] [some (.int n),some (.tup (zs.map Prod.fst))]) (zs.map Prod.fst) st=.ok ((zs.map Prod.snd).map .bl) st:=by
  rw [E7];refine Jz _ _ (by simp) fun z hz=>⟨_,rfl,?_⟩
  have:=h z hz;show _=Res.ok (PV.bl z.2) st;generalize zs.map Prod.fst=J at *;simp [Z7,Jr,this]
 have B:(zs.map Prod.fst).length<=1000000:=by rw [O1]; omega
 generalize zs.map Prod.fst=J at *;generalize zs.map Prod.snd=bs at *;simp -implicitDefEqProofs [Qs,Qk,Yg,hs,B,Jk,O]
theorem Qhq {r:Nat} {a b c:PV} {u v w:Bool} (h1:Qf [b,.int 0,.int ((n:Int) - 1)] st=.ok (.bl u) st) (h2:Qf [a,.int 0,.int r] st=.ok (.bl v) st) (B:Qf [c,.int 1,.int 1000000] st=.ok (.bl w) st):Zk [.int n,.int r,.tup [a,b,c]] st=.ok (.bl (u && v && w)) st:=by
 have hs:Qe [.tup [a,b,c],.int 3,.int 3] st=.ok (.bl true) st:=Vj [a,b,c] 3 3 st;have I:Wn [.int n,.int r,b,a] st=.ok (.bl (u && v)) st:=by
  cases u <;> simp -implicitDefEqProofs [Wn,Qk,jc,h1,h2]
 generalize (u && v)=J at *;cases J <;> simp -implicitDefEqProofs [Zk,Qk,Kj,hs,atI,ixN,I,B]
theorem Q7f {r:Nat} (U:zs.length<=20) (h:∀ z∈zs,Zk [.int n,.int r,z.1] st=.ok (.bl z.2) st):Jg [.int n,.int r,.tup (zs.map Prod.fst)] st=.ok (.bl ((zs.map Prod.snd).all id)) st:=by
 have hs:=Vj (zs.map Prod.fst) 0 20 st;rw [O1] at hs;have I:(decide ((0:Int)<=zs.length) && decide ((zs.length:Int)<=20))=true:=by simp; omega
 rw [I] at hs;have O:Jf (Q4 0) Jt Yn [] (Z7 [none,some 0,some 1] [some (.int n),some (.int r),some (.tup (zs.map Prod.fst))]) (zs.map Prod.fst) st=.ok ((zs.map Prod.snd).map .bl) st:=by
  rw [E7];refine Jz _ _ (by simp) fun z hz=>⟨_,rfl,?_⟩
  have:=h z hz;show _=Res.ok (PV.bl z.2) st;generalize zs.map Prod.fst=J at *;simp [Z7,Yn,this]
 have B:(zs.map Prod.fst).length<=1000000:=by rw [O1]; omega
 generalize zs.map Prod.fst=J at *;generalize zs.map Prod.snd=bs at *;simp -implicitDefEqProofs [Jg,Qk,Us,hs,B,Jk,O]
theorem Qnr {xs ys:List PV} {C:PV} (h:Y6 [.tup xs] st=.ok (.bl true) st) (h2:Qs [.int xs.length,.tup ys] st=.ok (.bl true) st) (B:Jg [.int xs.length,.int ys.length,C] st=.ok (.bl b) st):Z9 [.tup [.tup xs,.tup ys,C]] st=.ok (.bl b) st:=by
 have hs:Qe [.tup [.tup xs,.tup ys,C],.int 3,.int 3] st=.ok (.bl true) st:=Vj [.tup xs,.tup ys,C] 3 3 st;simp -implicitDefEqProofs [Z9,Qk,Ur,hs,atI,ixN,h,h2,B]
structure Mv2 (L M:Nat) (S S':Q0):Prop where
 len:S'.length=S.length
 keep:∀ t,t≠L->t≠M->S'[t]?=S[t]?
abbrev qΓ (L n:Nat) (st:PV) (r:Nat) (often:Int) (R:Nat) (a7 a8 a9 a10 a11 a12:Option PV):Gam:=[some (.ref L),some (.int 4),some (.int n),some st,some (.int r),some (.int often),some (.ref R),a7,a8,a9,a10,a11,a12]
theorem Qr9 {M:Nat} (T:Tp S L) (O:L≠M) {i j:Nat} (hi:i < n) (hj:j < n) (hl:ts.length<=500) (hM:S[M]?=some (.lst (ts.map trV))) (V:PV) (r:Nat) (B:Int) (R:Nat) (a7 Y Z:Option PV) :
  ∃ (J:List Tr) (S':Q0),(J=ts\/∃ v,J=ts ++ [((i,j),v)]/\i≠j/\1<=v/\v<=1000000)/\Tp S' L/\S'[M]?=some (.lst (J.map trV))/\Mv2 L M S S'/\J1 (qΓ L n V r B R a7 (some (.ref M)) (some (.int i)) (some (.int j)) Y Z) S=.nx (qΓ L n V r B R a7 (some (.ref M)) (some (.int i)) (some (.int j)) Y Z) S':=by
 by_cases q:i=j
 ·refine ⟨ts,S,.inl rfl,T,hM,⟨rfl,fun _ _ _=>rfl⟩,?_⟩;unfold qΓ;simp -implicitDefEqProofs [J1,q]
 ·have q':¬ ((i:Int)=j):=by omega
  obtain ⟨d,S1,hd,T1,M1,e1⟩:=Zx T 4 (by decide) (by decide);rw [show ((4:Nat):Int)=4 from rfl] at e1;have I:S1[M]?=some (.lst (ts.map trV)):=by rw [M1.keep M (fun z=>O z.symm)]; exact hM
  by_cases q2:(d:Int) < B
  ·obtain ⟨v,S2,hv,T2,M2,e2⟩:=Q8g T1 5 (by decide) (by decide);rw [show ((5:Nat):Int)=5 from rfl] at e2;have U:S2[M]?=some (.lst (ts.map trV)):=by rw [M2.keep M (fun z=>O z.symm)]; exact I
   have a3:M < S2.length:=(O0.mp U).1;refine ⟨ts ++ [((i,j),v)],S2.set M (.lst ((ts ++ [((i,j),v)]).map trV)),.inr ⟨v,rfl,q,hv⟩,T2.of (by rw [E5 (fun z=>O z.symm)]),by rw [F0 a3],⟨by rw [L6,M2.len,M1.len],fun t h1 h2=>by rw [E5 (fun z=>h2 z.symm),M2.keep t h1,M1.keep t h1]⟩,?_⟩;have a4:(ts ++ [((i,j),v)]).map trV=ts.map trV ++ [.tup [.int i,.int j,.int v]]:=by rw [E3]; rfl
   have a2:Y1 S1 (.ref M)=some (ts.map trV):=by simp [I]
   have a1:(ts.map trV).length < 1000000:=by rw [O1]; omega
   rw [a4];unfold qΓ;generalize ts.map trV=tv at *;simp -implicitDefEqProofs [J1,q,q',e1,q2,a2,e2,Jk,J4,chg,U,a1,-Q6m]
  ·refine ⟨ts,S1,.inl rfl,T1,I,⟨M1.len,fun t h1 _=>M1.keep t h1⟩,?_⟩;unfold qΓ;simp -implicitDefEqProofs [J1,q,q',e1,q2]
theorem Qsu {M:Nat} (T:Tp S L) (a9:L≠M) {i:Nat} (hn:n<=8) (hi:i < n) (a4:∀ t∈ts,Q8x n t/\t.1.1 < i) (hp:(ts.map Prod.fst).Pairwise LxP) (hl:ts.length<=100) (hM:S[M]?=some (.lst (ts.map trV))) (V:PV) (r:Nat) (I:Int) (R:Nat) (a7 a2 U Y:Option PV) :
  ∃ (O:Option PV) (B:List Tr) (S':Q0),(∀ t∈B,Q8x n t/\t.1.1 < i + 1)/\(B.map Prod.fst).Pairwise LxP/\B.length<=ts.length + n/\Tp S' L/\S'[M]?=some (.lst (B.map trV))/\Mv2 L M S S'/\Jn (qΓ L n V r I R a7 (some (.ref M)) (some (.int i)) a2 U Y) S=.nx (qΓ L n V r I R a7 (some (.ref M)) (some (.int i)) O U Y) S':=by
 have a8:-1000000<=(n:Int)/\(n:Int)<=1000000:=by omega
 obtain ⟨b1,S',e,O,B,rfl,h1,h2,h3,T',Z,m⟩:=Y2 (g:=fun k:Nat=>PV.int (k:Int)) (xs:=List.range n) (ga:=Q4 10) (body:=J1) (w:=[]) (Γ:=qΓ L n V r I R a7 (some (.ref M)) (some (.int i)) a2 U Y) (st:=S)
  (fun j Γ st'=>∃ (O:Option PV) (B:List Tr),Γ=qΓ L n V r I R a7 (some (.ref M)) (some (.int i)) O U Y/\(∀ t∈B,Q8x n t/\(t.1.1 < i\/(t.1.1=i/\t.1.2 < j)))/\(B.map Prod.fst).Pairwise LxP/\B.length<=ts.length + j/\Tp st' L/\st'[M]?=some (.lst (B.map trV))/\Mv2 L M S st')
  (fun _ _ _ _=>by simp)
  (fun j k Γ st' hx ⟨O,B,e1,h1,h2,h3,T',Z,m⟩=>by
   subst e1;have a1:j < n:=by simpa using (O0.mp hx).1
   have b0:k=j:=by
    rw [List.getElem?_range a1] at hx;exact (Option.some.inj hx).symm
   subst b0;obtain ⟨a6,S2,hc,T2,a5,m2,e2⟩:=Qr9 T' a9 hi a1 (by omega) Z V r I R a7 U Y;refine ⟨_,rfl,_,S2,e2,_,a6,rfl,?_,?_,?_,T2,a5,⟨m2.len.trans m.len,fun t u1 u2=>(m2.keep t u1 u2).trans (m.keep t u1 u2)⟩⟩
   ·rcases hc with rfl | ⟨v,rfl,a3,hv⟩
    ·intro t J;have:=h1 t J;exact ⟨this.1,by omega⟩
    ·intro t J;rcases D4.mp J with J | J
     ·have:=h1 t J;exact ⟨this.1,by omega⟩
     ·rw [List.mem_singleton.mp J];exact ⟨⟨⟨hi,a1,a3⟩,hv⟩,.inr ⟨rfl,by simp⟩⟩
   ·rcases hc with rfl | ⟨v,rfl,a3,hv⟩
    ·exact h2
    ·rw [E3,List.pairwise_append];refine ⟨h2,by simp,fun a ha b hb=>?_⟩;obtain ⟨t,J,rfl⟩:=D7.mp ha;have hb:b=(i,k):=by simpa using hb
     rw [hb];exact (h1 t J).2
   ·rcases hc with rfl | ⟨v,rfl,_⟩
    ·omega
    ·rw [O7]; simp; omega)
  ⟨_,ts,rfl,fun t J=>⟨(a4 t J).1,.inl (a4 t J).2⟩,hp,by omega,T,hM,⟨rfl,fun _ _ _=>rfl⟩⟩
 rw [<- Yy] at e;rw [F6] at h1 h3;refine ⟨O,B,S',fun t J=>⟨(h1 t J).1,by have:=(h1 t J).2; omega⟩,h2,h3,T',Z,m,?_⟩
 unfold qΓ at e ⊢;simp -implicitDefEqProofs [Jn,Jk,a8,e]
structure TsOk (n:Nat) (ts:List Tr):Prop where
 ok:∀ t∈ts,Q8x n t
 inc:(ts.map Prod.fst).Pairwise LxP
 len:ts.length<=100
def tsV (ts:List Tr):PV:=.tup (ts.map trV)
theorem Qi8 (T:Tp S L) (b5:L < R) (hn:n<=8) (b4:rs.length<=50) (hR:S[R]?=some (.lst (rs.map tsV))) (V:PV) (r:Nat) (B:Int) (a7 a8 a9 a2 J O:Option PV) :
  ∃ b8 U I ts S',TsOk n ts/\Tp S' L/\S'[R]?=some (.lst ((rs ++ [ts]).map tsV))/\Jp (qΓ L n V r B R a7 a8 a9 a2 J O) S=.nx (qΓ L n V r B R a7 b8 U I J O) S':=by
 have b0:-1000000<=(n:Int)/\(n:Int)<=1000000:=by omega
 have b1:R < S.length:=(O0.mp hR).1;have T1:Tp (S ++ [.lst []]) L:=T.of (by rw [O6 (by omega)]);obtain ⟨b7,S2,e,U,I,ts,rfl,h1,h2,h3,T2,hM,m⟩:=Y2 (g:=fun k:Nat=>PV.int (k:Int)) (xs:=List.range n) (ga:=Q4 9) (body:=Jn) (w:=[]) (Γ:=qΓ L n V r B R a7 (some (.ref S.length)) a9 a2 J O) (st:=S ++ [.lst []])
  (fun i Γ st'=>∃ (U I:Option PV) (ts:List Tr),Γ=qΓ L n V r B R a7 (some (.ref S.length)) U I J O/\(∀ t∈ts,Q8x n t/\t.1.1 < i)/\(ts.map Prod.fst).Pairwise LxP/\ts.length<=i * n/\Tp st' L/\st'[S.length]?=some (.lst (ts.map trV))/\Mv2 L S.length (S ++ [.lst []]) st')
  (fun _ _ _ _=>by simp)
  (fun i k Γ st' hx ⟨U,I,ts,g1,h1,h2,h3,T',hM,m⟩=>by
   subst g1;have Y:i < n:=by simpa using (O0.mp hx).1
   have b3:k=i:=by
    rw [List.getElem?_range Y] at hx;exact (Option.some.inj hx).symm
   subst b3;have a3:k * n<=64:=F9 (Nat.mul_le_mul (show k<=8 by omega) hn) (by decide);obtain ⟨b6,a5,S3,g2,g3,g4,T3,a6,m3,e3⟩:=Qsu T' (by omega) hn Y h1 h2 (by omega) hM V r B R a7 I J O;exact ⟨_,rfl,_,S3,e3,_,_,a5,rfl,g2,g3,by rw [Nat.succ_mul]; omega,T3,a6,⟨m3.len.trans m.len,fun t u1 u2=>(m3.keep t u1 u2).trans (m.keep t u1 u2)⟩⟩)
  ⟨_,_,[],rfl,fun t ht=>(by cases ht),List.Pairwise.nil,by simp,T1,by simp,⟨rfl,fun _ _ _=>rfl⟩⟩
 rw [<- Yy] at e;rw [F6] at h3;have a3:n * n<=64:=F9 (Nat.mul_le_mul hn hn) (by decide);have Z:S2[R]?=some (.lst (rs.map tsV)):=by rw [m.keep R (by omega) (by omega),O6 b1]; exact hR
 have a1:R < S2.length:=(O0.mp Z).1;refine ⟨some (.ref S.length),U,I,ts,S2.set R (.lst ((rs ++ [ts]).map tsV)),⟨fun t ht=>(h1 t ht).1,h2,by omega⟩,T2.of (by rw [E5 (by omega)]),by rw [F0 a1],?_⟩;have b2:(rs ++ [ts]).map tsV=rs.map tsV ++ [tsV ts]:=by rw [E3]; rfl
 have hT:PV.tup (ts.map trV)=tsV ts:=rfl;have a4:(rs.map tsV).length < 1000000:=by rw [O1]; omega
 rw [b2];unfold qΓ at e ⊢;generalize rs.map tsV=rv at *;generalize ts.map trV=ov at *;generalize tsV ts=o at *;simp -implicitDefEqProofs [Jp,Jk,b0,e,Z,hM,hT,J4,chg,a4]
def Qkk (n r:Nat) (t:Tr):Prop:=t.1.1<=r/\t.1.2 < n/\1<=t.2/\t.2<=1000000
structure Qok (xs:List Int) (rs:List (List Tr)) (ks:List Tr):Prop where
 x1:1<=xs.length
 x4:xs.length<=4
 xb:∀ x∈xs,0<=x/\x<=1000000
 r4:rs.length<=4
 rb:∀ ts∈rs,TsOk xs.length ts
 k5:ks.length<=5
 kb:∀ t∈ks,Qkk xs.length rs.length t
def qV (xs:List Int) (rs:List (List Tr)) (ks:List Tr):PV:=.tup [.tup (xs.map .int),.tup (rs.map tsV),.tup (ks.map trV)]
theorem Qqv (xs:List Int) (rs:List (List Tr)) (ks:List Tr):Qz 12 (qV xs rs ks)=true:=by simp [Qz,qV,tsV,trV]
theorem Qdy (T:Tp S L):∃ xs rs ks S',Qok xs rs ks/\Tp S' L/\Jh [.ref L,.int 4] S=.ok (qV xs rs ks) S':=by
 obtain ⟨d1,S1,d9,T1,M1,e1⟩:=Zx T 4 (by decide) (by decide);rw [show ((4:Nat):Int)=4 from rfl] at e1;obtain ⟨n,hn⟩:∃ n:Nat,1 + (d1:Int)=n:=⟨1 + d1,by push_cast; rfl⟩;have d5:1<=n/\n<=4:=by omega
 have a8:-1000000<=(n:Int)/\(n:Int)<=1000000:=by omega
 obtain ⟨a1,S2,e2,xs,rfl,Y,b5,T2,M2⟩:=Q3h (g:=fun k:Nat=>PV.int (k:Int)) (xs:=List.range n) (ga:=Q4 0) (me:=Zq) (w:=[]) (Γ0:=Z7 [none,some 0] [some (.ref L),some (.int 4),some (.int n),none,none,none,none,none,none,none,none,none,none]) (st:=S1)
  (fun i a1 st'=>∃ xs:List Int,a1=xs.map .int/\xs.length=i/\(∀ x∈xs,0<=x/\x<=1000000)/\Tp st' L/\Mv L S1 st')
  (fun _ _ _ _=>by simp)
  (fun i k a1 st' J ⟨xs,g1,g2,g3,T',M'⟩=>by
   subst g1;obtain ⟨v,S3,hv,T3,M3,e3⟩:=Q8g T' 10 (by decide) (by decide);rw [show ((10:Nat):Int)=10 from rfl] at e3;refine ⟨_,rfl,.int (v - 1),S3,?_,xs ++ [v - 1],by rw [E3]; rfl,by rw [O7,g2]; rfl,fun x J=>?_,T3,M'.trans M3⟩
   ·simp -implicitDefEqProofs [Z7,Zq,e3]
   ·rcases D4.mp J with J | J
    ·exact g3 x J
    ·rw [List.mem_singleton.mp J]; omega)
  ⟨[],rfl,rfl,fun x J=>(by cases J),T1,Mv.refl L S1⟩
 rw [F6] at Y;rw [<- Yy] at e2;obtain ⟨r,S3,hr,T3,M3,e3⟩:=Zx T2 5 (by decide) (by decide);rw [show ((5:Nat):Int)=5 from rfl] at e3;obtain ⟨d4,I,d3,T4,M4,e4⟩:=Zx T3 3 (by decide) (by decide);rw [show ((3:Nat):Int)=3 from rfl] at e4;have T5:Tp (I ++ [.lst []]) L:=T4.of (by rw [O6 T4.lt]);have c1:-1000000<=(r:Int)/\(r:Int)<=1000000:=by omega
 obtain ⟨c2,O,e6,b7,b8,Z,B,rs,rfl,h1,h2,T6,a5⟩:=Y2 (g:=fun k:Nat=>PV.int (k:Int)) (xs:=List.range r) (ga:=Q4 7) (body:=Jp) (w:=[]) (Γ:=qΓ L n (.tup (xs.map .int)) r (1 + (d4:Int)) I.length none none none none none none) (st:=I ++ [.lst []])
  (fun i Γ st'=>∃ (b7 b8 Z B:Option PV) (rs:List (List Tr)),Γ=qΓ L n (.tup (xs.map .int)) r (1 + (d4:Int)) I.length b7 b8 Z B none none/\(∀ ts∈rs,TsOk n ts)/\rs.length=i/\Tp st' L/\st'[I.length]?=some (.lst (rs.map tsV)))
  (fun _ _ _ _=>by simp)
  (fun i k Γ st' J ⟨b7,b8,Z,B,rs,g1,h1,h2,T',hR⟩=>by
   subst g1;have hi:i < r:=by simpa using (O0.mp J).1
   obtain ⟨c8,c9,d7,ts,S',ok,T8,a2,e8⟩:=Qi8 (n:=n) T' T4.lt (by omega) (by omega) hR (.tup (xs.map .int)) r (1 + (d4:Int)) (some (.int k)) b8 Z B none none;refine ⟨_,rfl,_,S',e8,_,_,_,_,rs ++ [ts],rfl,fun u hu=>?_,by rw [O7,h2]; rfl,T8,a2⟩;rcases D4.mp hu with hu | hu
   ·exact h1 u hu
   ·rw [List.mem_singleton.mp hu]; exact ok)
  ⟨_,_,_,_,[],rfl,fun u hu=>(by cases hu),rfl,T5,by simp⟩
 rw [<- Yy] at e6;rw [F6] at h2;have a6:I.length < O.length:=(O0.mp a5).1;have T7:Tp (O ++ [.lst []]) L:=T6.of (by rw [O6 T6.lt]);obtain ⟨c,S8,hc,T8,M8,e8⟩:=Zx T7 6 (by decide) (by decide);rw [show ((6:Nat):Int)=6 from rfl] at e8;have c4:S8[O.length]?=some (.lst []):=by rw [M8.keep _ (by have:=T6.lt; omega)]; simp
 have a2:S8[I.length]?=some (.lst (rs.map tsV)):=by rw [M8.keep _ (by have:=T4.lt; omega),O6 a6]; exact a5
 have a7:-1000000<=(c:Int)/\(c:Int)<=1000000:=by omega
 obtain ⟨c2,S9,e9,a3,ks,rfl,g1,g2,T9,b1,b3⟩:=Y2 (g:=fun k:Nat=>PV.int (k:Int)) (xs:=List.range c) (ga:=Q4 12) (body:=Jm) (w:=[]) (Γ:=qΓ L n (.tup (xs.map .int)) r (1 + (d4:Int)) I.length b7 b8 Z B (some (.ref O.length)) none) (st:=S8)
  (fun i Γ st'=>∃ (a3:Option PV) (ks:List Tr),Γ=qΓ L n (.tup (xs.map .int)) r (1 + (d4:Int)) I.length b7 b8 Z B (some (.ref O.length)) a3/\(∀ t∈ks,Qkk n r t)/\ks.length=i/\Tp st' L/\st'[O.length]?=some (.lst (ks.map trV))/\st'[I.length]?=some (.lst (rs.map tsV)))
  (fun _ _ _ _=>by simp)
  (fun i k Γ st' J ⟨a3,ks,u1,g1,g2,T',hK,hR⟩=>by
   subst u1;have hi:i < c:=by simpa using (O0.mp J).1
   obtain ⟨t1,U1,d6,b6,N1,f1⟩:=Zx T' (r + 1) (by omega) (by omega);rw [show ((r + 1:Nat):Int)=(r:Int) + 1 by push_cast; rfl] at f1;obtain ⟨t2,U2,b4,c7,N2,f2⟩:=Zx b6 n (by omega) (by omega);obtain ⟨v,U3,hv,c0,N3,f3⟩:=Q8g c7 7 (by decide) (by decide);rw [show ((7:Nat):Int)=7 from rfl] at f3;have N:=(N1.trans N2).trans N3;have d8:=T6.lt;have d0:=T4.lt;have a4:U3[O.length]?=some (.lst (ks.map trV)):=by rw [N.keep _ (by omega)]; exact hK
   have c3:U3[I.length]?=some (.lst (rs.map tsV)):=by rw [N.keep _ (by omega)]; exact hR
   have c5:O.length < U3.length:=(O0.mp a4).1;refine ⟨_,rfl,qΓ L n (.tup (xs.map .int)) r (1 + (d4:Int)) I.length b7 b8 Z B (some (.ref O.length)) (some (.int k)),U3.set O.length (.lst ((ks ++ [((t1,t2),v)]).map trV)),?_,_,ks ++ [((t1,t2),v)],rfl,fun t U=>?_,by rw [O7,g2]; rfl,c0.of (by rw [E5 (by omega)]),by rw [F0 c5],by rw [E5 (by omega)]; exact c3⟩
   ·have b2:(ks ++ [((t1,t2),v)]).map trV=ks.map trV ++ [.tup [.int t1,.int t2,.int v]]:=by rw [E3]; rfl
    have b0:Y1 st' (.ref O.length)=some (ks.map trV):=by simp [hK]
    have a9:(ks.map trV).length < 1000000:=by rw [O1]; omega
    rw [b2];unfold qΓ;generalize ks.map trV=kv at *;generalize xs.map PV.int=xv at *;show Jm [some (.ref L),some (.int 4),some (.int n),some (.tup xv),some (.int r),some (.int (1 + (d4:Int))),some (.ref I.length),b7,b8,Z,B,some (.ref O.length),some (.int k)] st'=_;simp -implicitDefEqProofs [Jm,b0,f1,f2,f3,Jk,J4,chg,a4,a9,-Q6m]
   ·rcases D4.mp U with U | U
    ·exact g1 t U
    ·rw [List.mem_singleton.mp U];exact ⟨by show t1<=r; omega,b4,hv⟩)
  ⟨_,[],rfl,fun t U=>(by cases U),rfl,T8,c4,a2⟩
 rw [<- Yy] at e9;rw [F6] at g2;have Q:Qok xs rs ks:=⟨by omega,by omega,b5,by omega,fun ts c6=>by rw [Y]; exact h1 ts c6,by omega,fun t U=>by rw [Y,h2]; exact g1 t U⟩;have step:Zf [some (.ref L),some (.int 4),none,none,none,none,none,none,none,none,none,none,none] S=.rt (qV xs rs ks) S9:=by
  have d2:(xs.map PV.int).length=n:=by rw [O1,Y]
  unfold qV;unfold qΓ at e6 e9;generalize xs.map PV.int=xv at *;generalize rs.map tsV=rv at *;generalize ks.map trV=kv at *;simp -implicitDefEqProofs [Zf,e1,hn,a8,Jk,e2,e3,e4,c1,e6,e8,a7,e9,b3,b1]
 have hF:Jh [.ref L,.int 4] S=fin S (qV xs rs ks) S9:=by
  show Qk Zf 13 _ S=_;unfold Qk;rw [show (([PV.ref L,.int 4]:List PV).map some ++ List.replicate (13 - [PV.ref L,.int 4].length) none)=[some (.ref L),some (.int 4),none,none,none,none,none,none,none,none,none,none,none] from rfl,step]
 by_cases hp:S <+: S9
 ·refine ⟨xs,rs,ks,S,Q,T,?_⟩;rw [hF];unfold fin;rw [bN hp,zw (Qqv xs rs ks) (by decide)]; rfl
 ·refine ⟨xs,rs,ks,S9,Q,T9,?_⟩;rw [hF];unfold fin;rw [bO hp]
theorem Q9 {a b:MS} {Γ1:Gam} {r:SR} (h1:a Γ S=.nx Γ1 S1) (h2:b Γ1 S1=r):Qc a b Γ S=r:=by rw [Q6h,h1]; exact h2
theorem Qt {i:Nat} (h:m Γ S=.ok v S1):Qu i m Γ S=.nx (Γ.set i (some v)) S1:=by rw [Qjj,h]; rfl
theorem Qx {F:FN} (h1:mr Γ S=.ok ps S1) (h2:ps.length=n) (B:F ps S1=.ok v S2):Qd n F mr Γ S=.ok v S2:=by rw [Qbn,h1,Qg,bN h2,B]
theorem Q8 {o:OP} {a b:ME} {y:PV} (h1:a Γ S=.ok x S1) (h2:b Γ S1=.ok y S2) (B:o S2 x y=.ok v S3):mOp o a b Γ S=.ok v S3:=by rw [Qq6,h1,Qg,h2,Qg,B]
theorem Q3 (h1:m Γ S=.ok p S1) (h2:mr Γ S1=.ok ps S2):Q1 m mr Γ S=.ok (p :: ps) S2:=by rw [Qfe,h1,Qg,h2,Qg]
theorem Zg {o:CF} (h1:mr Γ S=.ok ps S1) (h2:o S1 ps=.ok v S2):Qj o mr Γ S=.ok v S2:=by rw [Qfg,h1,Qg,h2]
theorem Z6 {b:MS} {xs:List PV} {w:Wt} {r:SR} (h1:mi Γ S=.ok (xs,w) S1) (h2:Jw ga b w xs Γ S1=r):Yw ga mi b Γ S=r:=by rw [Qjr,h1]; exact h2
theorem ji {c:MT} {a b:MS} {r:SR} (h1:c Γ S=.ok true S1) (h2:a Γ S1=r):Zp c a b Γ S=r:=by rw [Q9v,h1]; exact h2
theorem Ya {c:MT} {a b:MS} {r:SR} (h1:c Γ S=.ok false S1) (h2:b Γ S1=r):Zp c a b Γ S=r:=by rw [Q9v,h1]; exact h2
theorem Q8u {Γ1:Gam} (h1:m Γ S=.ok p S1) (h2:ga p Γ=some Γ1):Q8a ga m Γ S=.nx Γ1 S1:=by rw [Qjs,h1]; show (match ga p Γ with | some Γ1=>SR.nx Γ1 S1 | none=>.stuck)=_; rw [h2]
theorem K1 {xs:List PV} {w:Wt} (h1:m Γ S=.ok p S1) (h2:Zc S1 p=some (xs,w)) (B:xs.length<=1000000):V7 m Γ S=.ok (xs,w) S1:=by rw [Qjk,h1,Qg,h2]; exact bN B
theorem K7 {m:ML} (h:m Γ S=.ok ps S1):Wv m Γ S=.ok (.lst ps) S1:=by rw [Qjg,h,Qg]
theorem W1 {cap:List (Option Nat)} {me:ME} {xs ys:List PV} {w:Wt} (h1:mi Γ S=.ok (xs,w) S1) (h2:Jf ga mt me w (Z7 cap Γ) xs S1=.ok ys S2):Qy cap ga mi mt me Γ S=.ok ys S2:=by rw [Qbk,h1,Qg,h2]; rfl
theorem Uh {m:ML} (h:m Γ S=.ok ps S1):V5 m Γ S=.ok (.ref S1.length) (S1 ++ [.lst ps]):=by rw [Qji,h,Qg]
theorem Xq {t:MT} (h:t Γ S=.ok b S1):Yh t Γ S=.ok (!b) S1:=by rw [Qcx,h,Qg]
theorem Qq (h:m Γ S=.ok (.bl b) S1):toB m Γ S=.ok b S1:=by rw [Qmj,h]; rfl
theorem Q7j {mi:ME} {B:Q0} {o i:PV} (h1:m Γ S=.ok p S1) (h2:mo Γ S1=.ok o S2) (J:mi Γ S2=.ok i S3) (I:W8 S3 o i p=some B):jd mo mi m Γ S=.nx Γ B:=by
 rw [Qbj,h1,Vt,h2,Vt,J,Vt,I]
theorem jn {f:MF} {xs:List PV} (h1:mo Γ S=.ok p S1) (h2:Y1 S1 p=some xs) (I:mr Γ S1=.ok ps S2) (B:f S2 p ps=.ok v S3):Yj (mBM f mo mr) Γ S=.nx Γ S3:=by
 rw [Q6i,Qq9,h1,Qg];simp only [h2];rw [I,Qg,B,Vt]
theorem Q8j (h:m Γ S=.ok v S1):Yj m Γ S=.nx Γ S1:=by rw [Q6i,h]; rfl
theorem Qtj {a b:MT} (h:a Γ S=.ok true S1):qp a b Γ S=.ok true S1:=by rw [Q96,h]; rfl
theorem Q2h {a b:MT} {r:Res Bool} (h:a Γ S=.ok false S1) (h2:b Γ S1=r):qp a b Γ S=r:=by rw [Q96,h]; exact h2
theorem Xh {a b:MS} (h:a Γ S=.rt v S1):Qc a b Γ S=.rt v S1:=by rw [Q6h,h]
theorem J3 (h1:mr Γ S=.ok ps S1) (h2:ps.length<=1000000):Z5 mr Γ S=.ok (.tup ps) S1:=by rw [Qjh,h1,Qg]; exact bN h2
theorem Xb {m:MS} {B:Q0} (h:m (ps.map some ++ List.replicate (nl - ps.length) none) S=.rt v B):Ue m nl ps S=.ok v B:=by unfold Ue; rw [h]
theorem Zv {m:MS} {B:Q0} (h:m (ps.map some ++ List.replicate (nl - ps.length) none) S=.rt v B):Qk m nl ps S=fin S v B:=by unfold Qk; rw [h]
theorem y3 {xs:List PV} (h:S[L]?=some (.lst xs)) (B:xs.length < 1000000) (y:PV):J4 S (.ref L) [y]=.ok .non (S.set L (.lst (xs ++ [y]))):=by
 simp only [J4,chg,h];rw [bN (show xs.length < lim from B)]
theorem Q28 {a b:MT} {r:Res Bool} (h:a Γ S=.ok true S1) (h2:b Γ S1=r):Vc a b Γ S=r:=by rw [Q5h,h]; exact h2
theorem Qag {a b:MT} (h:a Γ S=.ok false S1):Vc a b Γ S=.ok false S1:=by rw [Q5h,h]; rfl
theorem Ji (h:m Γ S=.ok v S1):J0 m Γ S=.rt v S1:=by rw [Qjm,h]; rfl
theorem Qu6 (S:Q0) {b:Int} (h:a < b):oLt S (.int a) (.int b)=.ok (.bl true) S:=by simp [h]
theorem Qu7 (S:Q0) {b:Int} (h:¬ a < b):oLt S (.int a) (.int b)=.ok (.bl false) S:=by
 have:oLt S (.int a) (.int b)=.ok (.bl (decide (a < b))) S:=by simp
 rw [this,bP h]
theorem Q2u (S:Q0) (a b:Int):Yv S (.int a) (.int b)=.ok (.int (a + b)) S:=by simp
theorem Qha (h:mr Γ S=.ok ps S1) (B:ps.length<=1000000:=by decide):Q88 mr Γ S=.ok (.lst ps) S1:=by
 unfold Q88;rw [h,Qg];exact bN B
theorem Q9r (S:Q0) (a:Int):oNe S (.int a) (.int a)=.ok (.bl false) S:=by simp
theorem Q5s (B:n<=1000) (h:m Γ S=.ok (.int n) S):Jq (Q1 m Q6) Γ S=.ok (Jj 0 n,[]) S:=by
 rw [Q86,Q3 h (show Q6 Γ S=.ok [] S from rfl),Qg];show (if -(lim:Int)<=(n:Int)/\(n:Int)<=lim then _ else _)=_;rw [bN (by rw [Jk]; omega),Int.toNat_natCast]
def LA (S:Q0) (V:PV) (xs:List PV):Prop:=V=.lst xs\/∃ i,V=.ref i/\S[i]?=some (.lst xs)
theorem Qab {xs ys:List PV} (h:S[L]?=some (.lst xs)) (B:xs.length + ys.length<=1000000):X5 S (.ref L) [.lst ys]=.ok .non (S.set L (.lst (xs ++ ys))):=by
 show (match X7 S (.lst ys) with | some ys=>chg S (.ref L) fun xs=>if xs.length + ys.length<=lim then some (PV.non,xs ++ ys) else none | none=>.stuck)=_
 rw [show X7 S (.lst ys)=some ys from rfl];simp only [chg,h];rw [bN (show xs.length + ys.length<=lim from B)]
structure Gw (P:Nat->Prop) (S A:Q0):Prop where
 len:S.length<=A.length
 keep:∀ t,t < S.length->¬ P t->A[t]?=S[t]?
theorem Gw.refl (P:Nat->Prop) (S:Q0):Gw P S S:=⟨O8 _,fun _ _ _=>rfl⟩
theorem Gw.trans {P:Nat->Prop} {B:Q0} (a:Gw P S A) (b:Gw P A B):Gw P S B:=⟨F9 a.len b.len,fun t h1 h2=>(b.keep t (E2 h1 a.len) h2).trans (a.keep t h1 h2)⟩
theorem Gw.add (P:Nat->Prop) (S T:Q0):Gw P S (S ++ T):=⟨by rw [O7]; omega,fun t h _=>O6 h⟩
theorem Gw.put {P:Nat->Prop} (S:Q0) (h:P n) (c:Cell):Gw P S (S.set n c):=⟨by rw [L6]; exact O8 _,fun t _ h2=>E5 fun e=>h2 (by rw [<- e]; exact h)⟩
theorem Gw.mono {P Q:Nat->Prop} (a:Gw P S A) (h:∀ t,t < S.length->P t->Q t):Gw Q S A:=⟨a.len,fun t h1 h2=>a.keep t h1 fun z=>h2 (h t h1 z)⟩
theorem Gw.at {P:Nat->Prop} (a:Gw P S A) {t:Nat} {c:Cell} (h:S[t]?=some c) (B:¬ P t):A[t]?=some c:=by rw [a.keep t (O0.mp h).1 B]; exact h
theorem Gw.w {P:Nat->Prop} {S A:Q0} (a:Gw P S A) {w:Wt} (h:wOk w S) (I:∀ x∈w,¬ P x.1):wOk w A:=fun x B=>a.at (h x B) (I x B)
theorem jj {mi:ME} (h1:mo Γ S=.ok p S1) (h2:mi Γ S1=.ok q S2) (B:xm S2 p q=r):Wh mo mi Γ S=r:=by
 unfold Wh;rw [h1,Qg,h2,Qg,B]
theorem Xg {xs:List PV} (h:S[D]?=some (.lst xs)):Zc S (.ref D)=some (xs,[(D,.lst xs)]):=by
 show (match S[D]? with | some (.lst xs)=>some (xs,[(D,Cell.lst xs)]) | _=>none)=_
 rw [h]
theorem Q3u {xs:List PV} (h:S[D]?=some (.lst xs)):wOk [(D,.lst xs)] S:=fun x B=>by
 have:x=(D,.lst xs):=by simpa using B
 rw [this]; exact h
theorem Jc {xs:List PV} (h:S[D]?=some (.lst xs)):Y1 S (.ref D)=some xs:=by
 show (match S[D]? with | some (.lst xs)=>some xs | _=>none)=_; rw [h]
theorem Wq {body:MS} {w:Wt} {xs:List PV} {Γ1 I:Gam} {r:SR} (O:wOk w S) (h1:ga x Γ=some Γ1) (h2:body Γ1 S=.nx I S2) (J:Jw ga body w xs I S2=r):Jw ga body w (x :: xs) Γ S=r:=by
 rw [Jw,bN O,h1];show (match body Γ1 S with | .nx I B=>Jw ga body w xs I B | .ct I B=>Jw ga body w xs I B | .bk I B=>.nx I B | .rt v B=>.rt v B | .exc x B=>.exc x B | .stuck=>.stuck)=_;rw [h2];exact J
theorem Q4w {body:MS} {w:Wt} {xs:List PV} {Γ1:Gam} (J:wOk w S) (h1:ga x Γ=some Γ1) (h2:body Γ1 S=.rt v S2):Jw ga body w (x :: xs) Γ S=.rt v S2:=by
 rw [Jw,bN J,h1];show (match body Γ1 S with | .nx I B=>Jw ga body w xs I B | .ct I B=>Jw ga body w xs I B | .bk I B=>.nx I B | .rt v B=>.rt v B | .exc x B=>.exc x B | .stuck=>.stuck)=_;rw [h2]
theorem U4 {body:MS} {w:Wt} (B:wOk w S):Jw ga body w [] Γ S=.nx Γ S:=by rw [Jw,bN B]
theorem Ux {body:MS} {I:Gam} {r:SR} (h1:mt Γ S=.ok true S1) (h2:body Γ S1=.nx I S2) (J:Z2 mt body n I S2=r):Z2 mt body (n + 1) Γ S=r:=by
 unfold Z2;rw [h1];show (match body Γ S1 with | .nx I B=>Z2 mt body n I B | .ct I B=>Z2 mt body n I B | .bk I B=>.nx I B | .rt v B=>.rt v B | .exc x B=>.exc x B | .stuck=>.stuck)=_;rw [h2];exact J
theorem qz {body:MS} (h1:mt Γ S=.ok false S1):Z2 mt body (n + 1) Γ S=.nx Γ S1:=by
 unfold Z2;rw [h1];rfl
abbrev Nd:=Option (Nat × Nat)
variable {fr ns:List Nd}
def ndV:Nd->PV
 | none=>.str "spring"
 | some z=>.tup [.int z.1,.int z.2]
def ndK:Nd->HK
 | none=>.str "spring"
 | some z=>.tup [.int z.1,.int z.2]
theorem Q1d (v:Nd):Q2q (ndV v)=some (ndK v):=by cases v <;> rfl
theorem Q4j:∀ {a b:Nd},ndK a=ndK b->a=b
 | none,none,_=>rfl
 | none,some _,h=>by cases h
 | some _,none,h=>by cases h
 | some (a,b),some (c,d),h=>by
  unfold ndK at h;simp at h;rw [Int.ofNat.inj h.1,Int.ofNat.inj h.2]
theorem Qeg (a b:Nd):peq (ndV a) (ndV b)=decide (a=b):=by
 cases a with
 | none=>cases b with
  | none=>simp [ndV,peq]
  | some z=>simp [ndV,peq]
 | some y=>cases b with
  | none=>simp [ndV,peq]
  | some z=>
   have e:(some y=some z) <-> ((y.1:Int)=z.1/\(y.2:Int)=z.2):=by
    rw [Option.some.injEq,Prod.ext_iff]; omega
   have B:decide (some y=some z)=(decide ((y.1:Int)=z.1) && decide ((y.2:Int)=z.2)):=by rw [<- Bool.decide_and]; exact decide_eq_decide.mpr e
   rw [B];simp only [ndV,peq,peqL,Bool.and_true];rfl
theorem Qgd (S:Q0) (a b:Nd):oEq S (ndV a) (ndV b)=.ok (.bl (decide (a=b))) S:=by
 rw [<- Qeg];cases a <;> cases b <;> rfl
def J7 {α:Type} (f:α->PV) (G:List (Nd × α)):List (HK × PV):=G.map fun e=>(ndK e.1,f e.2)
theorem Q91 (f:α->PV) (G:List (Nd × α)) (t:Nd):(Wz (J7 f G) (ndK t)).isSome=decide (t∈G.map (·.1)):=by
 unfold Wz J7;rw [Option.isSome_map]
 by_cases q:t∈G.map (·.1)
 ·rw [bQ q,List.find?_isSome];obtain ⟨e,B,rfl⟩:=D7.mp q;exact ⟨_,D7.mpr ⟨e,B,rfl⟩,by simp⟩
 ·rw [bP q];cases z:List.find? (fun J=>decide (J.1=ndK t)) (G.map fun e=>(ndK e.1,f e.2)) with
  | none=>rfl
  | some x=>
   have h1:=List.mem_of_find?_eq_some z;have h2:=List.find?_some z;obtain ⟨y,I,rfl⟩:=D7.mp h1;have h2:ndK y.1=ndK t:=by simpa using h2
   exact absurd (D7.mpr ⟨y,I,Q4j h2⟩) q
theorem Q79 {α:Type} (f:α->PV):∀ {G:List (Nd × α)} {t:Nd} {a:α},(G.map (·.1)).Nodup->(t,a)∈G->Wz (J7 f G) (ndK t)=some (f a)
 | e :: G,t,a,J,B=>by
  unfold Wz J7;rw [D3,List.find?_cons];rw [D3] at J;obtain ⟨h1,h2⟩:=L5.mp J;rcases D8.mp B with rfl | B
  ·simp
  ·have I:¬ e.1=t:=fun z=>h1 (by rw [z]; exact D7.mpr ⟨_,B,rfl⟩)
   have:decide (ndK e.1=ndK t)=false:=bP fun z=>I (Q4j z)
   simp only [this];exact Q79 f h2 B
theorem Q9f (f:α->PV) {G:List (Nd × α)} {t:Nd} {a:α} (h:t∉G.map (·.1)):Sm.putT (J7 f G) (ndK t) (f a)=J7 f (G ++ [(t,a)]):=by
 unfold Sm.putT;rw [bO]
 ·unfold J7; rw [E3]; rfl
 ·unfold J7;rw [List.any_map,List.any_eq_true];rintro ⟨x,B,e⟩;have e:ndK x.1=ndK t:=by simpa using e
  exact h (D7.mpr ⟨x,B,Q4j e⟩)
theorem Qgh (f:α->PV) {G:List (Nd × α)} (h:S[D]?=some (.dtp (J7 f G))):Q1z S (.ref D)=some (J7 f G):=by show (match S[D]? with | some (.dtp kvs)=>some kvs | _=>none)=_; rw [h]
theorem K4 (f:α->PV) {G:List (Nd × α)} (h:S[D]?=some (.dtp (J7 f G))):Ua S (.ref D)=some (J7 f G):=by show (match S[D]? with | some (.dtp kvs)=>some kvs | some (.frt kvs)=>some kvs | _=>none)=_; rw [h]
theorem Qgg (f:α->PV) {G:List (Nd × α)} (h:S[D]?=some (.dtp (J7 f G))) (t:Nd) (B:Bool):Q69 B S (ndV t) (.ref D)=.ok (.bl (decide (t∈G.map (·.1)) != B)) S:=by
 unfold Q69;rw [K4 f h,Q1d];show Res.ok (PV.bl ((Wz (J7 f G) (ndK t)).isSome != B)) S=_;rw [Q91]
theorem Q8k (f:α->PV) {G:List (Nd × α)} (h:S[D]?=some (.dtp (J7 f G))) (B:(G.map (·.1)).Nodup) {t:Nd} {a:α} (I:(t,a)∈G):xm S (.ref D) (ndV t)=.ok (f a) S:=by
 unfold xm;rw [K4 f h,Q1d];show (match Wz (J7 f G) (ndK t) with | some v=>Res.ok v S | none=>.stuck)=_
 rw [Q79 f B I]
theorem Qr1 (f:α->PV) {G:List (Nd × α)} (h:S[D]?=some (.dtp (J7 f G))) (I:G.length < 1000000) {t:Nd} (B:t∉G.map (·.1)) (a:α):zx S (.ref D) (ndV t) (f a)=some (S.set D (.dtp (J7 f (G ++ [(t,a)])))):=by
 unfold zx;simp only [Qgh f h,Q1d];rw [bN (by unfold J7; rw [O1]; exact I),Q9f f B]
abbrev Wy:=Nd × Nd × Int
variable {ws:List Wy}
def wyV (w:Wy):PV:=.tup [ndV w.1,ndV w.2.1,.int w.2.2]
def oth (w:Wy) (l:Int) (u:Nd):Option Nd:=if w.1=u/\l < w.2.2 then some w.2.1 else if w.2.1=u/\0 < l then some w.1 else none
def otV:Option Nd->PV
 | none=>.non
 | some v=>ndV v
theorem Qa7 (v:Nd):Qz 12 (ndV v)=true:=by cases v <;> rfl
theorem yx (g:Qz 12 v=true):fin S v S=.ok v S:=by
 unfold fin;rw [bN List.prefix_rfl,zw g (by decide)];rfl
theorem Q6k (S:Q0) (a b:Int):oLt S (.int a) (.int b)=.ok (.bl (decide (a < b))) S:=by
 by_cases h:a < b
 ·rw [Qu6 S h,bQ h]
 ·rw [Qu7 S h,bP h]
theorem Q55 {a b:MT} {x y:Bool} (h:a Γ S=.ok x S) (h2:b Γ S=.ok y S):Vc a b Γ S=.ok (x && y) S:=by
 cases x with
 | true=>exact Q28 h h2
 | false=>exact Qag h
theorem Qet (w:Wy) (l:Int) (u:Nd) (S:Q0):Yt [wyV w,.int l,ndV u] S=.ok (otV (oth w l u)) S:=by
 have B:Vc (toB (mOp oEq (mOp oIx (Q2 0) (mC (.int 0))) (Q2 2))) (toB (mOp oLt (Q2 1) (mOp oIx (Q2 0) (mC (.int 2))))) [some (wyV w),some (.int l),some (ndV u)] S=.ok (decide (w.1=u) && decide (l < w.2.2)) S:=
  Q55 (Qq (Q8 (Q8 rfl rfl rfl) rfl (Qgd S w.1 u))) (Qq (Q8 rfl (Q8 rfl rfl rfl) (Q6k S l w.2.2)))
 have I:Vc (toB (mOp oEq (mOp oIx (Q2 0) (mC (.int 1))) (Q2 2))) (toB (mOp (oI fun a b=>.bl (decide (b < a))) (Q2 1) (mC (.int 0)))) [some (wyV w),some (.int l),some (ndV u)] S=.ok (decide (w.2.1=u) && decide (0 < l)) S:=
  Q55 (Qq (Q8 (Q8 rfl rfl rfl) rfl (Qgd S w.2.1 u))) (Qq (Q8 rfl rfl rfl))
 unfold oth
 by_cases h:w.1=u/\l < w.2.2
 ·rw [bN h];rw [bQ h.1,bQ h.2] at B;exact (Zv (Xh (ji B (Ji (Q8 rfl rfl rfl))))).trans (yx (Qa7 _))
 ·rw [bO h];have h':(decide (w.1=u) && decide (l < w.2.2))=false:=by rw [<- Bool.decide_and]; exact bP h
  rw [h'] at B
  by_cases g:w.2.1=u/\0 < l
  ·rw [bN g];rw [bQ g.1,bQ g.2] at I;exact (Zv (Q9 (Ya B rfl) (Xh (ji I (Ji (Q8 rfl rfl rfl)))))).trans (yx (Qa7 _))
  ·rw [bO g];have g':(decide (w.2.1=u) && decide (0 < l))=false:=by rw [<- Bool.decide_and]; exact bP g
   rw [g'] at I;exact (Zv (Q9 (Ya B rfl) (Q9 (Ya I rfl) (Ji rfl)))).trans (yx rfl)
theorem Q4y (g:α->PV) (d:α) (l:List α):W9 0 (l.map g)=(List.range l.length).map fun i:Nat=>PV.tup [.int (i:Int),g (l.getD i d)]:=by
 refine List.ext_getElem? fun i=>?_
 by_cases h:i < l.length
 ·rw [F4,List.getElem?_range h];obtain ⟨p,I⟩:∃ p,(W9 0 (l.map g))[i]?=some p:=⟨_,O2 (by rw [Vq,O1]; exact h)⟩;obtain ⟨x,J,B⟩:=yy I;rw [F4,Vk h d] at B;cases B;rw [I,J];simp
 ·rw [G8 (by rw [Vq,O1]; omega),G8 (by rw [O1,F6]; omega)]
abbrev Be:=Nd × Nat × List Nat
def beV (b:Nat × List Nat):PV:=.ref b.1
def nuV (n:Nat):PV:=.int (n:Int)
structure BE (S:Q0) (D:Nat) (bs:List Be):Prop where
 d:S[D]?=some (.dtp (J7 beV bs))
 c:∀ b∈bs,S[b.2.1]?=some (.lst (b.2.2.map nuV))
 n:(bs.map (·.2.1)).Nodup
 k:(bs.map (·.1)).Nodup
 g:∀ b∈bs,D<=b.2.1
def adB (v:Nd) (n i:Nat) (bs:List Be):List Be:=if v∈bs.map (·.1) then bs.map (fun b=>if b.1=v then (b.1,b.2.1,b.2.2 ++ [n]) else b) else bs ++ [(v,i,[n])]
theorem Q9a {mf:ME} {z:PV} {kvs:List (HK × PV)} (h1:mo Γ S=.ok p S) (h2:Ua S p=some kvs) (O:m Γ S=.ok k S) (U:mf Γ S=.ok z S3) (J:sdT S3 p k z=r):Q39 mo m mf Γ S=r:=by
 rw [Qfd,h1,Qg,h2];show ((m Γ S).bind fun k I=>(mf Γ I).bind fun z B=>sdT B p k z)=_
 rw [O,Qg,U,Qg,J]
theorem Q06 {α β:Type} (f:α->β):∀ {l:List α} {x y:α},(l.map f).Nodup->x∈l->y∈l->f x=f y->x=y
 | z :: l,x,y,B,J,I,e=>by
  rw [D3] at B;obtain ⟨h1,h2⟩:=L5.mp B;rcases D8.mp J with a | a
  ·rcases D8.mp I with b | b
   ·rw [a,b]
   ·exact absurd (D7.mpr ⟨y,b,by rw [<- e,a]⟩) h1
  ·rcases D8.mp I with b | b
   ·exact absurd (D7.mpr ⟨x,a,by rw [e,b]⟩) h1
   ·exact Q06 f h2 a b e
theorem Qhe {bs:List Be} (B:BE S D bs) (hl:bs.length<=1000) (hn:∀ b∈bs,b.2.2.length<=1000) {mk:ME} {v:Nd} (h1:Q2 1 Γ S=.ok (.ref D) S) (h2:∀ A,Q2 2 Γ A=.ok (nuV n) A) (h3:mk Γ S=.ok (ndV v) S) :
  ∃ S',Yj (mBM J4 (Q39 (Q2 1) mk (V5 (Uc Q6))) (Q1 (Q2 2) Q6)) Γ S=.nx Γ S'/\BE S' D (adB v n S.length bs)/\Gw (fun t=>D<=t) S S':=by
 have hD:D < S.length:=(O0.mp B.d).1;have lt:∀ b∈bs,b.2.1 < S.length:=fun b O=>(O0.mp (B.c b O)).1
 have nD:∀ b∈bs,b.2.1≠D:=fun b O e=>by have:=B.c b O; rw [e,B.d] at this; cases this
 have d1:(S ++ [.lst []])[D]?=some (.dtp (J7 beV bs)):=by rw [O6 hD]; exact B.d
 have len:(J7 beV bs).length < lim:=by unfold J7; rw [O1,Jk]; omega
 unfold adB
 by_cases q:v∈bs.map (·.1)
 ·rw [bN q];obtain ⟨b,O,rfl⟩:=D7.mp q;have Z:(S ++ [.lst []])[b.2.1]?=some (.lst (b.2.2.map nuV)):=by rw [O6 (lt b O)]; exact B.c b O
  have sd:sdT (S ++ [.lst []]) (.ref D) (ndV b.1) (.ref S.length)=.ok (.ref b.2.1) (S ++ [.lst []]):=by
   unfold sdT;simp only [Qgh beV d1,Q1d,Q79 beV B.k O,len,if_true];rfl
  have ap:=y3 Z (by rw [O1]; have:=hn b O; omega) (nuV n);refine ⟨_,jn (Q9a h1 (K4 beV B.d) h3 (Uh rfl) sd) (Jc Z) (Q3 (h2 _) rfl) ap,⟨?_,fun U I=>?_,?_,?_,fun U I=>?_⟩,?_⟩
  ·rw [E5 (nD b O),d1];congr 2;unfold J7;rw [E7];refine F3 fun x _=>?_
   show (ndK x.1,beV x.2)=(ndK (if x.1=b.1 then (x.1,x.2.1,x.2.2 ++ [n]) else x).1,beV (if x.1=b.1 then (x.1,x.2.1,x.2.2 ++ [n]) else x).2)
   by_cases e:x.1=b.1
   ·rw [bN e]; rfl
   ·rw [bO e]
  ·obtain ⟨x,Y,rfl⟩:=D7.mp I
   by_cases e:x.1=b.1
   ·have:x=b:=Q06 (·.1) B.k Y O e;subst this;rw [bN rfl];show ((S ++ [Cell.lst []]).set x.2.1 _)[x.2.1]?=_;rw [F0 (by rw [O7]; have:=lt x Y; omega)];show _=some (Cell.lst ((x.2.2 ++ [n]).map nuV));rw [E3]; rfl
   ·rw [bO e];have ne:b.2.1≠x.2.1:=fun z=>by
     exact e (by rw [Q06 (·.2.1) B.n Y O z.symm])
    rw [E5 ne,O6 (lt x Y)];exact B.c x Y
  ·rw [E7,show ((fun x:Be=>x.2.1) ∘ fun J=>if J.1=b.1 then (J.1,J.2.1,J.2.2 ++ [n]) else J)=fun x:Be=>x.2.1 from funext fun x=>by show (if x.1=b.1 then (x.1,x.2.1,x.2.2 ++ [n]) else x).2.1=_; split <;> rfl]
   exact B.n
  ·rw [E7,show ((fun x:Be=>x.1) ∘ fun J=>if J.1=b.1 then (J.1,J.2.1,J.2.2 ++ [n]) else J)=fun x:Be=>x.1 from funext fun x=>by show (if x.1=b.1 then (x.1,x.2.1,x.2.2 ++ [n]) else x).1=_; split <;> rfl]
   exact B.k
  ·obtain ⟨x,Y,rfl⟩:=D7.mp I;have:=B.g x Y
   by_cases e:x.1=b.1
   ·rw [bN e]; exact this
   ·rw [bO e]; exact this
  ·exact (Gw.add _ S _).trans (Gw.put _ (B.g b O) _)
 ·rw [bO q];have vn:Wz (J7 beV bs) (ndK v)=none:=by
   have:=Q91 beV bs v;rw [bP q] at this;exact Option.isSome_eq_false_iff.mp this |> Option.isNone_iff_eq_none.mp
  have sd:sdT (S ++ [.lst []]) (.ref D) (ndV v) (.ref S.length)=.ok (.ref S.length) ((S ++ [Cell.lst []]).set D (.dtp (J7 beV (bs ++ [(v,S.length,[n])])))):=by
   unfold sdT;simp only [Qgh beV d1,Q1d,vn,len,if_true];rw [<- Q9f beV (a:=(S.length,[n])) q];rfl
  have Z:((S ++ [Cell.lst []]).set D (.dtp (J7 beV (bs ++ [(v,S.length,[n])]))))[S.length]?=some (.lst []):=by
   rw [E5 (by omega),D5 (O8 _),L0]; rfl
  have ap:=y3 Z (by decide) (nuV n);refine ⟨_,jn (Q9a h1 (K4 beV B.d) h3 (Uh rfl) sd) (Jc Z) (Q3 (h2 _) rfl) ap,⟨?_,fun U I=>?_,?_,?_,fun U I=>?_⟩,?_⟩
  ·rw [E5 (by omega),F0 (by rw [O7]; omega)]
  ·rcases D4.mp I with I | I
   ·rw [E5 (by have:=lt U I; omega),E5 (fun z=>nD U I z.symm),O6 (lt U I)];exact B.c U I
   ·have:U=(v,S.length,[n]):=by simpa using I
    subst this;rw [F0 (by rw [L6,O7]; show S.length < S.length + 1; omega)];rfl
  ·rw [E3];refine List.nodup_append.mpr ⟨B.n,by simp,fun a ha c hc e=>?_⟩;obtain ⟨x,Y,rfl⟩:=D7.mp ha;have:c=S.length:=by simpa using hc
   have:=lt x Y;omega
  ·rw [E3];refine List.nodup_append.mpr ⟨B.k,by simp,fun a ha c hc e=>?_⟩;have:c=v:=by simpa using hc
   exact q (by rw [<- this,<- e]; exact ha)
  ·rcases D4.mp I with I | I
   ·exact B.g U I
   ·have:U=(v,S.length,[n]):=by simpa using I
    subst this;exact Nat.le_of_lt hD
  ·exact (Gw.add _ S _).trans ((Gw.put _ (O8 D) _).trans (Gw.put _ (Nat.le_of_lt hD) _))
theorem Q57 (v:Nd) (n i:Nat) (bs:List Be):(adB v n i bs).length<=bs.length + 1:=by
 unfold adB
 split
 ·rw [O1]; omega
 ·rw [O7]; exact O8 _
theorem Q29 (v:Nd) (n i:Nat) (bs:List Be) (I:Be) (h:I∈adB v n i bs):(∀ k∈I.2.2,k=n\/∃ b∈bs,k∈b.2.2)/\(I.2.2.length<=1\/∃ b∈bs,I.2.2.length<=b.2.2.length + 1):=by
 unfold adB at h
 split at h
 ·obtain ⟨b,J,rfl⟩:=D7.mp h
  split
  ·refine ⟨fun k B=>?_,.inr ⟨b,J,by show (b.2.2 ++ [n]).length<=_; rw [O7]; exact O8 _⟩⟩
   rcases D4.mp (show k∈b.2.2 ++ [n] from B) with B | B
   ·exact .inr ⟨b,J,B⟩
   ·exact .inl (by simpa using B)
  ·exact ⟨fun k B=>.inr ⟨b,J,B⟩,.inr ⟨b,J,by omega⟩⟩
 ·rcases D4.mp h with h | h
  ·exact ⟨fun k B=>.inr ⟨I,h,B⟩,.inr ⟨I,h,by omega⟩⟩
  ·have:I=(v,i,[n]):=by simpa using h
   subst this;exact ⟨fun k B=>.inl (by simpa using B),.inl (O8 _)⟩
theorem Q56 (v:Nd) (n i:Nat) (bs:List Be) (b:Be) (I:b∈bs):∃ J∈adB v n i bs,J.1=b.1/\∀ k∈b.2.2,k∈J.2.2:=by
 unfold adB
 split
 ·refine ⟨_,D7.mpr ⟨b,I,rfl⟩,?_⟩
  split
  ·exact ⟨rfl,fun k B=>D4.mpr (.inl B)⟩
  ·exact ⟨rfl,fun k B=>B⟩
 ·exact ⟨b,D4.mpr (.inl I),rfl,fun k B=>B⟩
theorem Qah (v:Nd) (n i:Nat) (bs:List Be):∃ B∈adB v n i bs,B.1=v/\n∈B.2.2:=by
 unfold adB
 split
 ·rename_i h;obtain ⟨b,I,rfl⟩:=D7.mp h;exact ⟨_,D7.mpr ⟨b,I,rfl⟩,by rw [bN rfl],by rw [bN rfl]; exact D4.mpr (.inr (by simp))⟩
 ·exact ⟨(v,i,[n]),D4.mpr (.inr (by simp)),rfl,by simp⟩
def wy0:Wy:=(none,none,0)
structure BeI (ws:List Wy) (m:Nat) (bs:List Be):Prop where
 l:bs.length<=2 * m
 e:∀ b∈bs,b.2.2.length<=2 * m
 n:∀ b∈bs,∀ k∈b.2.2,k < m
 c:∀ k,k < m->∀ v,((ws.getD k wy0).1=v\/(ws.getD k wy0).2.1=v)->∃ b∈bs,b.1=v/\k∈b.2.2
theorem BeI.step {m:Nat} {bs:List Be} (B:BeI ws m bs) (i j:Nat):BeI ws (m + 1) (adB (ws.getD m wy0).2.1 m j (adB (ws.getD m wy0).1 m i bs)):=by
 refine ⟨?_,fun b U=>?_,fun b U k hk=>?_,fun k hk v J=>?_⟩
 ·have:=B.l;have:=Q57 (ws.getD m wy0).1 m i bs;have:=Q57 (ws.getD m wy0).2.1 m j (adB (ws.getD m wy0).1 m i bs);omega
 ·rcases (Q29 _ _ _ _ b U).2 with h | ⟨c,I,h⟩
  ·omega
  ·rcases (Q29 _ _ _ _ c I).2 with g | ⟨d,hd,g⟩
   ·omega
   ·have:=B.e d hd;omega
 ·rcases (Q29 _ _ _ _ b U).1 k hk with h | ⟨c,I,h⟩
  ·omega
  ·rcases (Q29 _ _ _ _ c I).1 k h with g | ⟨d,hd,g⟩
   ·omega
   ·have:=B.n d hd k g;omega
 ·by_cases e:k=m
  ·subst e;rcases J with J | J
   ·obtain ⟨c,I,O,Y⟩:=Qah (ws.getD k wy0).1 k i bs;obtain ⟨d,hd,d1,Z⟩:=Q56 (ws.getD k wy0).2.1 k j _ c I;exact ⟨d,hd,d1.trans (O.trans J),Z k Y⟩
   ·obtain ⟨c,I,O,Y⟩:=Qah (ws.getD k wy0).2.1 k j (adB (ws.getD k wy0).1 k i bs);exact ⟨c,I,O.trans J,Y⟩
  ·obtain ⟨b,U,b1,b2⟩:=B.c k (by omega) v J;obtain ⟨c,I,O,Y⟩:=Q56 (ws.getD m wy0).1 m i bs b U;obtain ⟨d,hd,d1,Z⟩:=Q56 (ws.getD m wy0).2.1 m j _ c I;exact ⟨d,hd,d1.trans (O.trans b1),Z k (Y k b2)⟩
theorem Qgz (hl:ws.length<=500) (S:Q0):∃ O bs,Yk [.lst (ws.map wyV)] S=.ok (.ref S.length) O/\BE O S.length bs/\BeI ws ws.length bs/\Gw (fun _=>False) S O:=by
 obtain ⟨a4,O,e,bs,Y,U,rfl,B,J,G⟩:=Y2 (g:=fun i:Nat=>PV.tup [.int (i:Int),wyV (ws.getD i wy0)]) (xs:=List.range ws.length) (ga:=Qv (Q5 (Q4 2) (Q5 (Q4 3) Qw))) (body:=V9) (w:=[]) (Γ:=[some (.lst (ws.map wyV)),some (.ref S.length),none,none]) (st:=S ++ [.dtp []])
  (fun m Γ st=>∃ bs Y U,Γ=[some (.lst (ws.map wyV)),some (.ref S.length),Y,U]/\BE st S.length bs/\BeI ws m bs/\Gw (fun t=>S.length<=t) (S ++ [.dtp []]) st)
  (fun _ _ _ _ x Z=>by cases Z)
  (fun m x Γ st Z ⟨bs,Y,U,a1,B,J,G⟩=>by
   obtain ⟨hm,rfl⟩:m < ws.length/\x=m:=by
    have:=O0.mp Z;obtain ⟨h1,h2⟩:=this;rw [F6] at h1;rw [List.getElem_range] at h2;exact ⟨h1,h2.symm⟩
   subst a1;have l1:=J.l;have l2:=Q57 (ws.getD x wy0).1 x st.length bs;obtain ⟨S1,e1,B1,G1⟩:=Qhe B (by omega) (fun b I=>by have:=J.e b I; omega) (Γ:=[some (.lst (ws.map wyV)),some (.ref S.length),some (.int (x:Int)),some (wyV (ws.getD x wy0))]) (mk:=mOp oIx (Q2 3) (mC (.int 0))) (v:=(ws.getD x wy0).1) (n:=x) rfl (fun _=>rfl) (Q8 rfl rfl rfl);obtain ⟨S2,e2,B2,G2⟩:=Qhe B1 (by omega) (fun b I=>by
    rcases (Q29 _ _ _ _ b I).2 with h | ⟨c,hc,h⟩
    ·omega
    ·have:=J.e c hc;omega) (Γ:=[some (.lst (ws.map wyV)),some (.ref S.length),some (.int (x:Int)),some (wyV (ws.getD x wy0))]) (mk:=mOp oIx (Q2 3) (mC (.int 1))) (v:=(ws.getD x wy0).2.1) (n:=x) rfl (fun _=>rfl) (Q8 rfl rfl rfl)
   exact ⟨_,rfl,_,S2,Q9 e1 e2,_,_,_,rfl,B2,J.step _ _,(G.trans G1).trans G2⟩)
  ⟨[],_,_,rfl,⟨by rw [D5 (O8 _),L0]; rfl,fun b I=>(by cases I),List.nodup_nil,List.nodup_nil,fun b I=>(by cases I)⟩,⟨O8 _,fun b I=>(by cases I),fun b I=>(by cases I),fun k hk=>(by omega)⟩,Gw.refl _ _⟩
 rw [<- Q4y wyV wy0 ws] at e;rw [F6] at J;have en:qu (Q1 (Q2 0) Q6) [some (.lst (ws.map wyV)),some (.ref S.length),none,none] (S ++ [.dtp []])=.ok (W9 0 (ws.map wyV),[]) (S ++ [.dtp []]):=by
  unfold qu;show (if (ws.map wyV).length<=lim then Res.ok (W9 0 (ws.map wyV),[]) (S ++ [Cell.dtp []]) else .stuck)=_;rw [bN (by rw [O1,Jk]; omega)]
 exact ⟨O,bs,Xb (Q9 (Qt rfl) (Q9 (Z6 en e) (Ji rfl))),B,J,⟨F9 (by rw [O7]; omega) G.len,fun t ht _=>(G.keep t (by rw [O7]; omega) (by omega)).trans (O6 ht)⟩⟩
theorem Q3a {mi:ME} {I:Q0} (h1:m Γ S=.ok v S1) (h2:mo Γ S1=.ok p S2) (O:mi Γ S2=.ok q S3) (J:zx S3 p q v=some I):Q1f mo mi m Γ S=.nx Γ I:=by
 unfold Q1f;rw [h1];show (mo Γ S1).sbind _=_;rw [h2];show (mi Γ S2).sbind _=_;rw [O];show (match zx S3 p q v with | some B=>SR.nx Γ B | none=>.stuck)=_;rw [J]
theorem qc {α:Type} [DecidableEq α]:∀ {l m:List α},l.Nodup->(∀ x∈l,x∈m)->l.length<=m.length
 | [],_,_,_=>M9 _
 | a :: l,m,h,hs=>by
  obtain ⟨h1,h2⟩:=L5.mp h;have B:=hs a (by simp);have:=qc (m:=m.erase a) h2 fun x I=>(List.mem_erase_of_ne (show x≠a from fun e=>h1 (by rw [<- e]; exact I))).mpr (hs x (O4 _ I))
  rw [List.length_erase_of_mem B] at this;have:=List.length_pos_of_mem B;rw [E4];omega
def stV:Option (Nat × Nd)->PV
 | none=>.non
 | some (n,s)=>.tup [.int (n:Int),ndV s]
abbrev Fd:=List (Nd × Option (Nat × Nd))
variable {F:Fd}
abbrev kys (F:Fd):List Nd:=F.map (·.1)
inductive FT (ws:List Wy) (ls:List Int):Fd->Prop where
 | base:FT ws ls [(none,none)]
 | snoc {F:Fd} {v u:Nd} {k:Nat}:FT ws ls F->v∉kys F->u∈kys F->k < ws.length->oth (ws.getD k wy0) (ls.getD k 0) u=some v->FT ws ls (F ++ [(v,some (k,u))])
theorem Xp {w:Wy} {l:Int} {u v:Nd} (h:oth w l u=some v):(w.1=u/\w.2.1=v/\l < w.2.2)\/(w.2.1=u/\w.1=v/\0 < l):=by
 unfold oth at h
 split at h
 ·rename_i q;exact .inl ⟨q.1,Option.some.inj h,q.2⟩
 ·split at h
  ·rename_i q;exact .inr ⟨q.1,Option.some.inj h,q.2⟩
  ·cases h
theorem FT.nd (t:FT ws ls F):(kys F).Nodup:=by
 induction t with
 | base=>simp
 | @snoc F v u k _ h1 _ _ _ B=>
  unfold kys at *;rw [E3];refine List.nodup_append.mpr ⟨B,by simp,fun a J c I e=>?_⟩;have:c=v:=by simpa using I
  exact h1 (by rw [<- this,<- e]; exact J)
theorem FT.root (t:FT ws ls F):none∈kys F:=by
 induction t with
 | base=>simp
 | snoc _ _ _ _ _ B=>unfold kys at *; rw [E3]; exact D4.mpr (.inl B)
theorem FT.ends (t:FT ws ls F):∀ v∈kys F,v=none\/∃ k,k < ws.length/\((ws.getD k wy0).1=v\/(ws.getD k wy0).2.1=v):=by
 induction t with
 | base=>intro v B; left; simpa using B
 | @snoc F x u k _ _ _ I O J=>
  intro v B;unfold kys at *;rw [E3] at B;rcases D4.mp B with B | B
  ·exact J v B
  ·have:v=x:=by simpa using B
   subst this;refine .inr ⟨_,I,?_⟩;rcases Xp O with h | h
   ·exact .inr h.2.1
   ·exact .inl h.2.1
theorem FT.few (t:FT ws ls F):F.length<=2 * ws.length + 1:=by
 have h:=qc (m:=none :: (ws.map (·.1) ++ ws.map (·.2.1))) t.nd fun v J=>by
  rcases t.ends v J with rfl | ⟨k,B,h⟩
  ·exact O9
  ·have I:ws.getD k wy0∈ws:=by rw [O3,O2 B]; exact F7 B
   refine O4 _ (D4.mpr ?_);rcases h with rfl | rfl
   ·exact .inl (D7.mpr ⟨_,I,rfl⟩)
   ·exact .inr (D7.mpr ⟨_,I,rfl⟩)
 rw [O1,E4,O7,O1,O1] at h;omega
theorem Qq0 (v:Nd):Q3d (ndV v)=false:=by cases v <;> rfl
theorem Xw (f:α->PV) (d:α) (l:List α) {k:Nat} (h:k < l.length):atI (l.map f) (k:Int)=some (f (l.getD k d)):=by
 rw [Q0h,atI_get (O2 h),O3,O2 h]; rfl
abbrev rG (ws:List Wy) (Ld B D:Nat) (V:PV) (U:Nat) (u:PV) (a7 a8:Option PV):Gam:=[some (.lst (ws.map wyV)),some (.ref Ld),some (.ref B),some (.ref D),some V,some (.ref U),some u,a7,a8]
theorem Qsw {ws:List Wy} {ls:List Int} (hl:ws.length<=500) (b2:ls.length=ws.length) {Ld B D U:Nat} (a2:D≠U) (a5:Ld≠D) (a9:Ld≠U) {w:Wt} {u:Nd} {V:PV}:∀ (ns:List Nat) (F:Fd) (Y:List Nd) (A:Q0) (a7 a8:Option PV),(∀ k∈ns,k < ws.length)->FT ws ls F->u∈kys F->Y.length<=F.length ->
  A[D]?=some (.dtp (J7 stV F))->A[U]?=some (.lst (Y.map ndV))->A[Ld]?=some (.lst (ls.map .int))->wOk w A->(∀ x∈w,x.1≠D/\x.1≠U) ->
  ∃ O J new b7 b8,Jw (Q4 7) Ww w (ns.map nuV) (rG ws Ld B D V U (ndV u) a7 a8) A=.nx (rG ws Ld B D V U (ndV u) b7 b8) O/\FT ws ls J/\kys J=kys F ++ new/\O[D]?=some (.dtp (J7 stV J))/\O[U]?=some (.lst ((Y ++ new).map ndV))/\Gw (fun t=>t=D\/t=U) A O /\
   ∀ k∈ns,∀ v,oth (ws.getD k wy0) (ls.getD k 0) u=some v->v∈kys J
 | [],F,Y,A,a7,a8,_,t,_,_,Z,hU,_,hw,_=>⟨A,F,[],a7,a8,U4 hw,t,by rw [G7],Z,by rw [G7]; exact hU,Gw.refl _ _,fun k hk=>by cases hk⟩
 | n :: ns,F,Y,A,a7,a8,hk,t,hu,b9,Z,hU,hL,hw,a1=>by
  have hn:n < ws.length:=hk n O9;have b5:∀ k∈ns,k < ws.length:=fun k h=>hk k (O4 _ h)
  have few:=t.few;have s1:Qu 8 (Qd 3 Yt (Q1 (mOp oIx (Q2 0) (Q2 7)) (Q1 (mOp oIx (Q2 1) (Q2 7)) (Q1 (Q2 6) Q6)))) (rG ws Ld B D V U (ndV u) (some (nuV n)) a8) A=.nx (rG ws Ld B D V U (ndV u) (some (nuV n)) (some (otV (oth (ws.getD n wy0) (ls.getD n 0) u)))) A:=by
   refine Qt (Qx (n:=3) (Q3 (Q8 rfl rfl (v:=wyV (ws.getD n wy0)) (S3:=A) ?_) (Q3 (Q8 rfl rfl (v:=.int (ls.getD n 0)) (S3:=A) ?_) (Q3 rfl rfl))) rfl (Qet _ _ _ _))
   ·show okO A (atI (ws.map wyV) (n:Int))=_;rw [Xw wyV wy0 ws hn]; rfl
   ·show oIx A (.ref Ld) (.int (n:Int))=_;rw [Q68,hL];show okO A (atI (ls.map PV.int) (n:Int))=_;rw [Xw PV.int 0 ls (by omega)]; rfl
  have rest:∀ {A1:Q0} {F1:Fd} {a4 new1:List Nd} {c8:Option PV},Ww (rG ws Ld B D V U (ndV u) (some (nuV n)) a8) A=.nx (rG ws Ld B D V U (ndV u) (some (nuV n)) c8) A1->FT ws ls F1->kys F1=kys F ++ new1->a4=Y ++ new1->A1[D]?=some (.dtp (J7 stV F1))->A1[U]?=some (.lst (a4.map ndV))->Gw (fun t=>t=D\/t=U) A A1 ->
    (∀ v,oth (ws.getD n wy0) (ls.getD n 0) u=some v->v∈kys F1) ->
    ∃ O J new b7 b8,Jw (Q4 7) Ww w ((n :: ns).map nuV) (rG ws Ld B D V U (ndV u) a7 a8) A=.nx (rG ws Ld B D V U (ndV u) b7 b8) O/\FT ws ls J/\kys J=kys F ++ new/\O[D]?=some (.dtp (J7 stV J))/\O[U]?=some (.lst ((Y ++ new).map ndV))/\Gw (fun t=>t=D\/t=U) A O /\
     ∀ k∈n :: ns,∀ v,oth (ws.getD k wy0) (ls.getD k 0) u=some v->v∈kys J:=by
   intro A1 F1 a4 new1 c8 e1 t1 k1 f1 d1 u1 g1 c1;subst f1;have b6:F1.length=F.length + new1.length:=by
    have:=congrArg List.length k1;rw [O7,O1,O1] at this;exact this
   obtain ⟨O,J,new,b7,b8,e,t',k',d',u',g',c'⟩:=Qsw hl b2 a2 a5 a9 ns F1 (Y ++ new1) A1 (some (nuV n)) c8 b5 t1 (by rw [k1]; exact D4.mpr (.inl hu)) (by rw [O7]; omega) d1 u1 (g1.at hL (fun z=>z.elim a5 a9)) (g1.w hw fun x hx z=>z.elim (a1 x hx).1 (a1 x hx).2) a1
   refine ⟨O,J,new1 ++ new,b7,b8,Wq hw rfl e1 e,t',by rw [k',k1,N4],d',by rw [<- N4]; exact u',g1.trans g',fun k a3 v I=>?_⟩;rcases D8.mp a3 with rfl | a3
   ·rw [k']; exact D4.mpr (.inl (c1 v I))
   ·exact c' k a3 v I
  cases ho:oth (ws.getD n wy0) (ls.getD n 0) u with
  | none=>
   rw [ho] at s1;exact rest (Q9 s1 (Ya (Qag (Qq (Q8 rfl rfl rfl))) rfl)) t (new1:=[]) (by rw [G7]) rfl Z (by rw [G7]; exact hU) (Gw.refl _ _) (fun v I=>by rw [ho] at I; cases I)
  | some v=>
   rw [ho] at s1;have i1:toB (mOp j8 (Q2 8) (mC .non)) (rG ws Ld B D V U (ndV u) (some (nuV n)) (some (ndV v))) A=.ok true A:=Qq (Q8 rfl rfl (by rw [Q81,Qq0]; rfl))
   by_cases q:v∈kys F
   ·exact rest (Q9 s1 (Ya (Q28 i1 (Qq (Q8 rfl rfl ((Qgg stV Z v true).trans (by rw [bQ q]; rfl))))) rfl)) t (new1:=[]) (by rw [G7]) rfl Z (by rw [G7]; exact hU) (Gw.refl _ _) (fun v' I=>by rw [ho] at I; cases I; exact q)
   ·have b1:=Qr1 stV Z (by omega) q (some (n,u));have a6:(A.set D (.dtp (J7 stV (F ++ [(v,some (n,u))]))))[U]?=some (.lst (Y.map ndV)):=by rw [E5 a2]; exact hU
    have b0:=y3 a6 (by rw [O1]; omega) (ndV v);have b3:D < A.length:=(O0.mp Z).1;have b4:U < A.length:=(O0.mp hU).1;refine rest (new1:=[v]) (F1:=F ++ [(v,some (n,u))]) (Q9 s1 (ji (Q28 i1 (Qq (Q8 rfl rfl ((Qgg stV Z v true).trans (by rw [bP q]; rfl))))) (Q9 (Q3a (J3 (Q3 rfl (Q3 rfl rfl)) (show 2<=1000000 by decide)) rfl rfl b1) (jn rfl (Jc a6) (Q3 rfl rfl) b0)))) (t.snoc q hu hn ho) (by unfold kys; rw [E3]; rfl) rfl ?_ ?_ ?_ ?_
    ·rw [E5 (fun z=>a2 z.symm),F0 b3]
    ·rw [F0 (by rw [L6]; exact b4),E3]; rfl
    ·exact (Gw.put _ (.inl rfl) _).trans (Gw.put _ (.inr rfl) _)
    ·intro v' I;rw [ho] at I;cases I;unfold kys;rw [E3];exact D4.mpr (.inr (by simp))
abbrev rH (ws:List Wy) (Ld B D:Nat) (V:PV) (U:Nat) (a6 a7 a8:Option PV):Gam:=[some (.lst (ws.map wyV)),some (.ref Ld),some (.ref B),some (.ref D),some V,some (.ref U),a6,a7,a8]
theorem Qv6 (hl:ws.length<=500) (a1:ls.length=ws.length) (a4:∃ k,k < ws.length/\(ws.getD k wy0).1=none) {B U:Nat} (a3:D≠U) (a2:Ld≠D) (a5:Ld≠U) (O:B≠D) (J:B≠U) {bs:List Be} (I:∀ b∈bs,b.2.1≠D/\b.2.1≠U) (BI:BeI ws ws.length bs) {Z:Q0} (E:BE A B bs) (g:Gw (fun t=>t=D\/t=U) A Z):BE Z B bs:=⟨g.at E.d (fun z=>z.elim O J),fun b Y=>g.at (E.c b Y) (fun z=>z.elim (I b Y).1 (I b Y).2),E.n,E.k,E.g⟩
theorem Qsx {ws:List Wy} {ls:List Int} (hl:ws.length<=500) (a1:ls.length=ws.length) (a4:∃ k,k < ws.length/\(ws.getD k wy0).1=none) {Ld B D U:Nat} (a3:D≠U) (Y:Ld≠D) (Z:Ld≠U) (b0:B≠D) (b1:B≠U) {bs:List Be} (a5:∀ b∈bs,b.2.1≠D/\b.2.1≠U) (BI:BeI ws ws.length bs) {w:Wt} {V:PV}:∀ (fr:List Nd) (F:Fd) (fu:List Nd) (A:Q0) (a6 a7 a8:Option PV),(∀ u∈fr,u∈kys F)->FT ws ls F->fu.length<=F.length->BE A B bs ->
  A[D]?=some (.dtp (J7 stV F))->A[U]?=some (.lst (fu.map ndV))->A[Ld]?=some (.lst (ls.map .int))->wOk w A->(∀ x∈w,x.1≠D/\x.1≠U) ->
  ∃ A' F' new b6 b7 b8,Jw (Q4 6) Uf w (fr.map ndV) (rH ws Ld B D V U a6 a7 a8) A=.nx (rH ws Ld B D V U b6 b7 b8) A'/\FT ws ls F'/\kys F'=kys F ++ new/\A'[D]?=some (.dtp (J7 stV F'))/\A'[U]?=some (.lst ((fu ++ new).map ndV))/\Gw (fun t=>t=D\/t=U) A A' /\
   ∀ u∈fr,∀ k,k < ws.length->∀ v,oth (ws.getD k wy0) (ls.getD k 0) u=some v->v∈kys F'
 | [],F,fu,A,a6,a7,a8,_,t,_,_,hD,hU,_,hw,_=>⟨A,F,[],a6,a7,a8,U4 hw,t,by rw [G7],hD,by rw [G7]; exact hU,Gw.refl _ _,fun k hk=>by cases hk⟩
 | u :: fr,F,fu,A,a6,a7,a8,hk,t,b3,E,hD,hU,hL,hw,a2=>by
  have hu:=hk u O9;obtain ⟨b,J,b4⟩:∃ b∈bs,b.1=u:=by
   rcases t.ends u hu with rfl | ⟨k,I,h⟩
   ·obtain ⟨k,I,h⟩:=a4;obtain ⟨b,J,h1,_⟩:=BI.c k I none (.inl h);exact ⟨b,J,h1⟩
   ·obtain ⟨b,J,h1,_⟩:=BI.c k I u h;exact ⟨b,J,h1⟩
  subst b4;have hc:=E.c b J;obtain ⟨A1,F1,new1,c7,c8,e1,t1,k1,d1,u1,g1,c1⟩:=Qsw (B:=B) hl a1 a3 Y Z (w:=[(b.2.1,.lst (b.2.2.map nuV))]) (V:=V) b.2.2 F fu A a7 a8 (BI.n b J) t hu b3 hD hU hL (Q3u hc) (fun x O=>by
   have:x=(b.2.1,.lst (b.2.2.map nuV)):=by simpa using O
   rw [this]; exact a5 b J)
  have b5:F1.length=F.length + new1.length:=by
   have:=congrArg List.length k1;rw [O7,O1,O1] at this;exact this
  have a9:Uf (rH ws Ld B D V U (some (ndV b.1)) a7 a8) A=.nx (rH ws Ld B D V U (some (ndV b.1)) c7 c8) A1:=
   Z6 (K1 (jj rfl rfl (Q8k beV E.d E.k J)) (Xg hc) (by rw [O1]; have:=BI.e b J; omega)) e1
  obtain ⟨A',F',new,b6,b7,b8,e,t',k',d',u',g',c'⟩:=Qsx hl a1 a4 a3 Y Z b0 b1 a5 BI fr F1 (fu ++ new1) A1 (some (ndV b.1)) c7 c8 (fun x O=>by rw [k1]; exact D4.mpr (.inl (hk x (O4 _ O)))) t1 (by rw [O7]; omega) (Qv6 hl a1 a4 a3 Y Z b0 b1 a5 BI E g1) d1 u1 (g1.at hL (fun z=>z.elim Y Z)) (g1.w hw fun x O z=>z.elim (a2 x O).1 (a2 x O).2) a2
  refine ⟨A',F',new1 ++ new,b6,b7,b8,Wq hw rfl a9 e,t',by rw [k',k1,N4],d',by rw [<- N4]; exact u',g1.trans g',fun x O k I v hv=>?_⟩;rcases D8.mp O with rfl | O
  ·rw [k'];refine D4.mpr (.inl (c1 k ?_ v hv));have inc:(ws.getD k wy0).1=b.1\/(ws.getD k wy0).2.1=b.1:=by
    rcases Xp hv with h | h
    ·exact .inl h.1
    ·exact .inr h.1
   obtain ⟨b',b2,h1,h2⟩:=BI.c k I b.1 inc;rw [<- Q06 (·.1) E.k b2 J h1];exact h2
  ·exact c' x O k I v hv
def Cld (ws:List Wy) (ls:List Int) (F:Fd) (u:Nd):Prop:=∀ k,k < ws.length->∀ v,oth (ws.getD k wy0) (ls.getD k 0) u=some v->v∈kys F
theorem Q1k {V:PV} {xs:List PV} (h:LA S V xs):∃ w,Zc S V=some (xs,w)/\wOk w S/\∀ x∈w,x.1 < S.length/\V=.ref x.1:=by
 rcases h with rfl | ⟨i,rfl,e⟩
 ·exact ⟨[],rfl,Jb _,fun x B=>by cases B⟩
 ·refine ⟨_,Xg e,Q3u e,fun x B=>?_⟩;have:x=(i,.lst xs):=by simpa using B
  rw [this];exact ⟨(O0.mp e).1,rfl⟩
theorem Qfn {V:PV} {xs:List PV} (h:LA S V xs):Y3 S [V]=.ok (.int (xs.length:Nat)) S:=by
 rcases h with rfl | ⟨i,rfl,e⟩
 ·rfl
 ·rw [Qrc,e]
theorem Qu9 {P:Nat->Prop} {V:PV} {xs:List PV} (h:LA S V xs) (g:Gw P S A) (B:∀ i,V=.ref i->¬ P i):LA A V xs:=by
 rcases h with rfl | ⟨i,rfl,e⟩
 ·exact .inl rfl
 ·exact .inr ⟨i,rfl,g.at e (B i rfl)⟩
abbrev rK (ws:List Wy) (Ld B D:Nat) (a4 a5 a6 a7 a8:Option PV):Gam:=[some (.lst (ws.map wyV)),some (.ref Ld),some (.ref B),some (.ref D),a4,a5,a6,a7,a8]
structure RS (ws:List Wy) (ls:List Int) (Ld B D:Nat) (bs:List Be) (F:Fd) (fr:List Nd) (A:Q0) (V:PV):Prop where
 fR:∀ u∈fr,u∈kys F
 fl:fr.length<=F.length
 cl:∀ u∈kys F,u∉fr->Cld ws ls F u
 t:FT ws ls F
 bE:BE A B bs
 dD:A[D]?=some (.dtp (J7 stV F))
 lV:LA A V (fr.map ndV)
 VD:V≠.ref D
 lL:A[Ld]?=some (.lst (ls.map .int))
theorem RS.w {B:Nat} {bs:List Be} {V:PV} (R:RS ws ls Ld B D bs F fr A V) (J I U O:Option PV):Y0 (rK ws Ld B D (some V) J I U O) A=.ok (decide ((0:Int) < (fr.length:Nat))) A:=by
 have Y:Y0 (rK ws Ld B D (some V) J I U O) A=.ok (decide ((0:Int) < ((fr.map ndV).length:Nat))) A:=Qq (Q8 (Zg (Q3 rfl rfl) (Qfn R.lV)) rfl rfl)
 rwa [O1] at Y
theorem RS.turn (hl:ws.length<=500) (a4:ls.length=ws.length) (b2:∃ k,k < ws.length/\(ws.getD k wy0).1=none) {B:Nat} (Y:Ld≠D) (a1:B≠D) {bs:List Be} (BI:BeI ws ws.length bs) {V:PV} (R:RS ws ls Ld B D bs F fr A V) (a5 a6 a7 a8:Option PV) :
  ∃ O F2 new c6 c7 c8,Wx (rK ws Ld B D (some V) a5 a6 a7 a8) A=.nx (rK ws Ld B D (some (.ref A.length)) (some (.ref A.length)) c6 c7 c8) O/\RS ws ls Ld B D bs F2 new O (.ref A.length)/\F2.length=F.length + new.length/\Gw (fun t=>t=D) A O:=by
 obtain ⟨b1,b9,b4,t,E,hD,hV,b3,hL⟩:=R;have c0:D < A.length:=(O0.mp hD).1;have b7:Ld < A.length:=(O0.mp hL).1;have b8:B < A.length:=(O0.mp E.d).1;have Z:Gw (fun _=>False) A (A ++ [.lst []]):=Gw.add _ _ _;have V1:=Qu9 hV Z fun _ _ z=>z
 obtain ⟨w,es,hw,a9⟩:=Q1k V1;have E1:BE (A ++ [.lst []]) B bs:=⟨Z.at E.d id,fun b J=>Z.at (E.c b J) id,E.n,E.k,E.g⟩;have few:=t.few;have a2:∀ b∈bs,b.2.1≠D/\b.2.1≠A.length:=fun b J=>⟨fun z=>(by have:=E.c b J; rw [z,hD] at this; cases this),fun z=>(by have:=(O0.mp (E.c b J)).1; omega)⟩
 have b5:∀ x∈w,x.1≠D/\x.1≠A.length:=fun x hx=>by
  obtain ⟨_,e2⟩:=a9 x hx;refine ⟨fun z=>b3 (by rw [e2,z]),fun z=>?_⟩;rcases hV with e | ⟨i,e,q⟩
  ·rw [e2] at e; cases e
  ·rw [e2] at e;cases e;have:=(O0.mp q).1;omega
 obtain ⟨O,F2,new,c6,c7,c8,e,t2,k2,d2,u2,g2,b0⟩:=Qsx hl a4 b2 (U:=A.length) (by omega) Y (by omega) a1 (by omega) a2 BI (w:=w) (V:=V) fr F [] (A ++ [.lst []]) a6 a7 a8 b1 t (M9 _) E1 (Z.at hD id) (by rw [D5 (O8 _),L0]; rfl) (Z.at hL id) hw b5;have a3:F2.length=F.length + new.length:=by
  have:=congrArg List.length k2;rw [O7,O1,O1] at this;exact this
 have b6:=t2.few;have g3:Gw (fun t=>t=D) A O:=⟨F9 (by rw [O7]; omega) g2.len,fun x hx hn=>(g2.keep x (by rw [O7]; omega) (fun z=>z.elim hn (by omega))).trans (O6 hx)⟩;refine ⟨O,F2,new,c6,c7,c8,Q9 (Qt (Uh rfl)) (Q9 (Z6 (K1 rfl es (by rw [O1]; omega)) e) (Qt rfl)),⟨fun u I=>by rw [k2]; exact D4.mpr (.inr I),by omega,fun u I hn=>?_,t2,?_,d2,.inr ⟨_,rfl,by rw [List.nil_append] at u2; exact u2⟩,fun z=>?_,g3.at hL Y⟩,a3,g3⟩
 ·rw [k2] at I;rcases D4.mp I with I | I
  ·by_cases q:u∈fr
   ·exact b0 u q
   ·intro k hk v hv;rw [k2];exact D4.mpr (.inl (b4 u I q k hk v hv))
  ·exact absurd I hn
 ·exact ⟨g3.at E.d a1,fun b J=>g3.at (E.c b J) (a2 b J).1,E.n,E.k,E.g⟩
 ·cases z;omega
theorem Qwq (hl:ws.length<=500) (a1:ls.length=ws.length) (a4:∃ k,k < ws.length/\(ws.getD k wy0).1=none) {B:Nat} (a2:Ld≠D) (a3:B≠D) {bs:List Be} (BI:BeI ws ws.length bs):∀ (d m:Nat) (F:Fd) (fr:List Nd) (A:Q0) (V:PV) (Y J I O:Option PV),2 * ws.length + 1 - F.length<=d->RS ws ls Ld B D bs F fr A V ->
  ∃ Z U b4 b5 b6 b7 b8,Z2 Y0 Wx (m + d + 2) (rK ws Ld B D (some V) Y J I O) A=.nx (rK ws Ld B D b4 b5 b6 b7 b8) Z/\FT ws ls U/\(∀ u∈kys U,Cld ws ls U u)/\Z[D]?=some (.dtp (J7 stV U))/\Gw (fun t=>t=D) A Z:=by
 have fin:∀ {F:Fd} {A:Q0} {V:PV} (n:Nat) (Y J I O:Option PV),RS ws ls Ld B D bs F [] A V->∃ Z U b4 b5 b6 b7 b8,Z2 Y0 Wx (n + 1) (rK ws Ld B D (some V) Y J I O) A=.nx (rK ws Ld B D b4 b5 b6 b7 b8) Z/\FT ws ls U/\(∀ u∈kys U,Cld ws ls U u)/\Z[D]?=some (.dtp (J7 stV U))/\Gw (fun t=>t=D) A Z:=
  fun n Y J I O R=>⟨_,_,_,Y,J,I,O,qz (R.w Y J I O),R.t,fun u hu=>R.cl u hu (by simp),R.dD,Gw.refl _ _⟩
 intro d
 induction d with
 | zero=>
  intro m F fr A V Y J I O hd R;cases fr with
  | nil=>exact fin (m + 1) Y J I O R
  | cons u0 fr=>
   obtain ⟨A2,F2,new,c6,c7,c8,e,R2,len,g⟩:=R.turn hl a1 a4 a2 a3 BI Y J I O;have:=R2.t.few;have hn:new=[]:=List.eq_nil_of_length_eq_zero (by omega);subst hn;obtain ⟨Z,U,b4,b5,b6,b7,b8,e',h1,h2,h3,h4⟩:=fin m (some (.ref A.length)) c6 c7 c8 R2;exact ⟨Z,U,b4,b5,b6,b7,b8,Ux ((R.w Y J I O).trans (by rw [bQ (by rw [E4]; omega)])) e e',h1,h2,h3,g.trans h4⟩
 | succ d ih=>
  intro m F fr A V Y J I O hd R;cases fr with
  | nil=>exact fin (m + d + 2) Y J I O R
  | cons u0 fr=>
   obtain ⟨A2,F2,new,c6,c7,c8,e,R2,len,g⟩:=R.turn hl a1 a4 a2 a3 BI Y J I O;have hw:Y0 (rK ws Ld B D (some V) Y J I O) A=.ok true A:=(R.w Y J I O).trans (by rw [bQ (by rw [E4]; omega)]);cases new with
   | nil=>
    obtain ⟨Z,U,b4,b5,b6,b7,b8,e',h1,h2,h3,h4⟩:=fin (m + d + 1) (some (.ref A.length)) c6 c7 c8 R2;exact ⟨Z,U,b4,b5,b6,b7,b8,Ux hw e e',h1,h2,h3,g.trans h4⟩
   | cons u1 new=>
    rw [E4] at len;obtain ⟨Z,U,b4,b5,b6,b7,b8,e',h1,h2,h3,h4⟩:=ih m F2 (u1 :: new) A2 (.ref A.length) (some (.ref A.length)) c6 c7 c8 (by omega) R2;exact ⟨Z,U,b4,b5,b6,b7,b8,Ux hw e e',h1,h2,h3,g.trans h4⟩
theorem j7 (hl:ws.length<=500) (I:ls.length=ws.length) (J:∃ k,k < ws.length/\(ws.getD k wy0).1=none) (hL:S[Ld]?=some (.lst (ls.map .int))) :
  ∃ U D F,Yd [.lst (ws.map wyV),.ref Ld] S=.ok (.ref D) U/\U[D]?=some (.dtp (J7 stV F))/\FT ws ls F/\(∀ u∈kys F,Cld ws ls F u)/\Gw (fun _=>False) S U/\S.length<=D:=by
 obtain ⟨S1,bs,e1,B,BI,Z⟩:=Qgz hl S;have a1:Ld < S.length:=(O0.mp hL).1;have a2:S.length < S1.length:=(O0.mp B.d).1;have g2:Gw (fun _=>False) S1 (S1 ++ [.dtp (J7 stV [(none,none)])]):=Gw.add _ _ _;have R:RS ws ls Ld S.length S1.length bs [(none,none)] [none] (S1 ++ [.dtp (J7 stV [(none,none)])]) (.lst [.str "spring"]):=⟨fun u O=>O,O8 _,fun u O hn=>absurd O hn,.base,⟨g2.at B.d id,fun b hb=>g2.at (B.c b hb) id,B.n,B.k,B.g⟩,by rw [D5 (O8 _),L0]; rfl,.inl rfl,fun z=>(by cases z),g2.at (Z.at hL id) id⟩
 obtain ⟨A',F,b4,b5,b6,b7,b8,e,t,c,d,g⟩:=Qwq hl I J (by omega) (by omega) BI (2 * ws.length + 1) (99998 - (2 * ws.length + 1)) _ _ _ _ none none none none (by omega) R;rw [show 99998 - (2 * ws.length + 1) + (2 * ws.length + 1) + 2=100000 by omega] at e;refine ⟨A',S1.length,F,Xb (Q9 (Qt (Qx (n:=1) (Q3 rfl rfl) rfl e1)) (Q9 (Qt rfl) (Q9 (Qt (Qha (Q3 rfl rfl))) (Q9 e (Ji rfl))))),d,t,c,?_,by omega⟩;have Y:=Z.trans g2;refine ⟨F9 Y.len g.len,fun x hx _=>?_⟩;rw [g.keep x (E2 hx Y.len) (by omega)];exact Y.keep x hx id
theorem Qe7 (g:Gw (fun _=>False) S A):S <+: A:=List.prefix_iff_getElem?.mpr fun i hi=>by rw [g.keep i hi id]; exact O2 hi
theorem Qa9 {xs:List PV} (g:Gw (fun _=>False) S A) (h:A[R]?=some (.lst xs)) (I:S.length<=R) (B:Qz 12 (.lst xs)=true):fin S (.ref R) A=.ok (.lst xs) S:=by
 unfold fin;rw [bN (Qe7 g)];have:fz S.length A 16 (.ref R)=fz S.length A 16 (.lst xs):=by
  simp only [fz,bO (show ¬ R < S.length by omega),h]
 rw [this,zw B (by decide)]; rfl
def spV (s:Nat × Bool):PV:=.tup [.int (s.1:Int),.bl s.2]
inductive Pt (ws:List Wy) (ls:List Int) (F:Fd):Nd->List Nd->List (Nat × Bool)->Prop where
 | nil:(none,none)∈F->Pt ws ls F none [] []
 | cons {v u:Nd} {k:Nat} {ns:List Nd} {ss:List (Nat × Bool)}:(v,some (k,u))∈F->k < ws.length->oth (ws.getD k wy0) (ls.getD k 0) u=some v->v∉u :: ns->Pt ws ls F u ns ss->Pt ws ls F v (u :: ns) ((k,decide ((ws.getD k wy0).2.1=v)) :: ss)
theorem Pt.mem {v:Nd} (p:Pt ws ls F v ns ss):∀ x∈v :: ns,x∈kys F:=by
 induction p with
 | nil h=>exact fun x B=>by rw [show x=none by simpa using B]; exact D7.mpr ⟨_,h,rfl⟩
 | cons h _ _ _ _ I=>
  intro x B;rcases D8.mp B with rfl | B
  ·exact D7.mpr ⟨_,h,rfl⟩
  ·exact I x B
theorem Pt.mono {G:Fd} (hs:∀ x∈F,x∈G) {v:Nd} (p:Pt ws ls F v ns ss):Pt ws ls G v ns ss:=by
 induction p with
 | nil h=>exact .nil (hs _ h)
 | cons h h1 h2 I _ B=>exact .cons (hs _ h) h1 h2 I B
theorem Pt.len {v:Nd} (p:Pt ws ls F v ns ss):ss.length=ns.length/\(v :: ns).Nodup:=by
 induction p with
 | nil h=>simp
 | cons _ _ _ I _ B=>exact ⟨by rw [E4,E4,B.1],L5.mpr ⟨I,B.2⟩⟩
theorem FT.path (t:FT ws ls F):∀ v∈kys F,∃ ns ss,Pt ws ls F v ns ss:=by
 induction t with
 | base=>exact fun v U=>by rw [show v=none by simpa using U]; exact ⟨[],[],.nil (by simp)⟩
 | @snoc F v u k t h1 h2 O Y J=>
  intro x B;unfold kys at B;rw [E3] at B;rcases D4.mp B with B | B
  ·obtain ⟨ns,ss,p⟩:=J x B;exact ⟨ns,ss,p.mono fun y I=>D4.mpr (.inl I)⟩
  ·have:x=v:=by simpa using B
   subst this;obtain ⟨ns,ss,p⟩:=J u h2;exact ⟨_,_,.cons (D4.mpr (.inr (by simp))) O Y (fun z=>h1 (p.mem _ z)) (p.mono fun y I=>D4.mpr (.inl I))⟩
def room (ws:List Wy) (ls:List Int) (s:Nat × Bool):Int:=if s.2=true then (ws.getD s.1 wy0).2.2 - ls.getD s.1 0 else ls.getD s.1 0
theorem Pt.room {ws:List Wy} {ls:List Int} {F:Fd} {v:Nd} {ns:List Nd} {ss:List (Nat × Bool)} (p:Pt ws ls F v ns ss):∀ s∈ss,s.1 < ws.length/\1<=room ws ls s:=by
 induction p with
 | nil h=>intro s hs; cases hs
 | @cons v u k ns ss _ h1 h2 J _ O=>
  intro s hs;rcases D8.mp hs with rfl | hs
  ·refine ⟨h1,?_⟩;unfold Lw.room;rcases Xp h2 with ⟨_,B,I⟩ | ⟨U,B,I⟩
   ·rw [bN (show decide _=true from bQ B)];show 1<=(ws.getD k wy0).2.2 - ls.getD k 0;omega
   ·have:(ws.getD k wy0).2.1≠v:=fun z=>J (by rw [<- z,U]; exact O9)
    rw [bO (show ¬ decide _=true by simpa using this)];exact I
  ·exact O s hs
theorem Qcf (hn:(kys F).Nodup) (a2:D≠R) {P:PV}:∀ {v:Nd} {ns:List Nd} {ss:List (Nat × Bool)},Pt ws ls F v ns ss->∀ (m:Nat) (B:List (Nat × Bool)) (A:Q0) (a5:Option PV),A[D]?=some (.dtp (J7 stV F))->A[R]?=some (.lst (B.map spV))->B.length + ss.length<=2000 ->
  ∃ Y b4 b5,Z2 Vr U6 (m + ss.length + 1) [some (.lst (ws.map wyV)),some (.ref D),some P,some (.ref R),some (ndV v),a5] A=.nx [some (.lst (ws.map wyV)),some (.ref D),some P,some (.ref R),b4,b5] Y/\Y[R]?=some (.lst ((B ++ ss).map spV))/\Gw (fun t=>t=R) A Y:=by
 intro v ns ss p
 induction p with
 | nil h=>exact fun m B A a5 Z O _=>⟨A,_,_,qz (Qq (Q8 (jj rfl rfl (Q8k stV Z hn h)) rfl rfl)),by rw [G7]; exact O,Gw.refl _ _⟩
 | @cons v u k ns ss h h1 h2 h3 p ih=>
  intro m B A a5 Z O hl;have hg:=Q8k stV Z hn h;rw [E4] at hl;have a1:=(O0.mp O).1;obtain ⟨J,I⟩:∃ J,A.set R (.lst ((B ++ [(k,decide ((ws.getD k wy0).2.1=v))]).map spV))=J:=⟨_,rfl⟩;have U:J4 A (.ref R) [spV (k,decide ((ws.getD k wy0).2.1=v))]=.ok .non J:=by
   rw [y3 O (by rw [O1]; omega),<- I,E3];rfl
  have d1:J[D]?=some (.dtp (J7 stV F)):=by rw [<- I,E5 (Ne.symm a2)]; exact Z
  have r1:J[R]?=some (.lst ((B ++ [(k,decide ((ws.getD k wy0).2.1=v))]).map spV)):=by rw [<- I]; exact F0 a1
  have g1:Gw (fun t=>t=R) A J:=by rw [<- I]; exact Gw.put (P:=fun t=>t=R) A rfl _
  obtain ⟨Y,b4,b5,e,q1,q2⟩:=ih m (B ++ [(k,decide ((ws.getD k wy0).2.1=v))]) J (some (stV (some (k,u)))) d1 r1 (by rw [O7]; simp; omega);refine ⟨Y,b4,b5,?_,by rw [q1]; simp,g1.trans q2⟩;rw [E4,show m + (ss.length + 1) + 1=(m + ss.length + 1) + 1 from rfl];have ix:∀ T:Q0,oIx T (.lst (ws.map wyV)) (.int (k:Int))=.ok (wyV (ws.getD k wy0)) T:=fun T=>by
   show okO T (atI (ws.map wyV) (k:Int))=_;rw [Xw wyV wy0 ws h1]; rfl
  exact Ux (Qq (Q8 (jj rfl rfl hg) rfl rfl)) (Q9 (Qt (jj rfl rfl hg)) (Q9 (jn rfl (Jc O) (Q3 (J3 (Q3 (Q8 rfl rfl rfl) (Q3 (Q8 (Q8 (Q8 rfl (Q8 rfl rfl rfl) (ix A)) rfl rfl) rfl (Qgd A _ v)) rfl)) (show 2<=1000000 by decide)) rfl) U) (Qt (Q8 rfl rfl rfl)))) e
theorem Qkd (t:FT ws ls F) (hl:ws.length<=500) (J:S[D]?=some (.dtp (J7 stV F))) {v:Nd} (p:Pt ws ls F v ns ss):ss.length<=1001/\W6 [.lst (ws.map wyV),.ref D,ndV v] S=.ok (.lst (ss.map spV)) S:=by
 have I:=(O0.mp J).1;have few:=t.few;have B:ss.length<=1001:=by
  have h1:=p.len;have h2:=qc h1.2 p.mem;rw [E4,O1] at h2;omega
 obtain ⟨U,b4,b5,e,Y,O⟩:=Qcf t.nd (D:=D) (R:=S.length) (by omega) (P:=ndV v) p (99999 - ss.length) [] (S ++ [Cell.lst []]) none (by rw [O6 I]; exact J) (by rw [D5 (O8 _),L0]; rfl) (by rw [List.length_nil]; omega);rw [show 99999 - ss.length + ss.length + 1=100000 by omega] at e;have g:Gw (fun _=>False) S U:=((Gw.add (fun t=>t=S.length) S _).trans O).mono fun t Z z=>by omega
 exact ⟨B,(Zv (show Xs [some (.lst (ws.map wyV)),some (.ref D),some (ndV v),none,none,none] S=_ from Q9 (Qt (Uh rfl)) (Q9 (Qt rfl) (Q9 e (Ji rfl))))).trans (Qa9 g Y (O8 _) (by simp [Qz,spV]))⟩
theorem Qq4:∀ (a:Int) (l:List Int),∃ m,Qf7 (a :: l)=some m/\m∈a :: l/\∀ x∈a :: l,m<=x:=by
 have key:∀ (l:List Int) (a:Int),(l.foldl (fun m x=>if x < m then x else m) a)∈a :: l/\∀ x∈a :: l,(l.foldl (fun m x=>if x < m then x else m) a)<=x:=by
  intro l
  induction l with
  | nil=>intro a; exact ⟨by simp,fun x B=>by rw [show x=a by simpa using B]; exact Int.le_refl _⟩
  | cons b l I=>
   intro a;rw [List.foldl_cons]
   by_cases q:b < a
   ·rw [bN q];obtain ⟨h1,h2⟩:=I b;refine ⟨O4 _ h1,fun x B=>?_⟩;rcases D8.mp B with rfl | B
    ·have:=h2 b O9;omega
    ·exact h2 x B
   ·rw [bO q];obtain ⟨h1,h2⟩:=I a;refine ⟨?_,fun x B=>?_⟩
    ·rcases D8.mp h1 with h | h
     ·rw [h]; exact O9
     ·exact O4 _ (O4 _ h)
    ·rcases D8.mp B with rfl | B
     ·exact h2 _ O9
     ·rcases D8.mp B with rfl | B
      ·have:=h2 a O9;omega
      ·exact h2 x (O4 _ B)
 intro a l;exact ⟨_,rfl,key l a⟩
theorem Qia (a1:ls.length=ws.length) (Z:S[Ld]?=some (.lst (ls.map .int))) (hs:∀ s∈ss,s.1 < ws.length) (hl:ss.length<=2000) (O:ss≠[]) :
  ∃ r,Xe [.lst (ws.map wyV),.ref Ld,.lst (ss.map spV)] S=.ok (.int r) S/\(∃ s∈ss,r=room ws ls s)/\∀ s∈ss,r<=room ws ls s:=by
 have e:=Jz (ga:=Qv (Q5 (Q4 0) (Q5 (Q4 1) Qw))) (me:=Ud) (w:=[]) (Γ0:=[none,none,some (.ref Ld),some (.lst (ws.map wyV))]) (st:=S) (g:=spV) (f:=fun s=>PV.int (room ws ls s)) (Jb _) (ys:=ss) fun s h=>by
  have hk:=hs s h;have U:oIx S (.lst (ws.map wyV)) (.int (s.1:Int))=.ok (wyV (ws.getD s.1 wy0)) S:=by
   show okO S (atI (ws.map wyV) (s.1:Int))=_;rw [Xw wyV wy0 ws hk]; rfl
  have J:oIx S (.ref Ld) (.int (s.1:Int))=.ok (.int (ls.getD s.1 0)) S:=by
   rw [Q68,Z];show okO S (atI (ls.map PV.int) (s.1:Int))=_;rw [Xw PV.int 0 ls (by omega)]; rfl
  refine ⟨_,rfl,?_⟩;unfold room Ud mIf;obtain ⟨k,b⟩:=s;cases b with
  | true=>
   rw [bN rfl];exact Q8 (Q8 (Q8 rfl rfl U) rfl rfl) (Q8 rfl rfl J) rfl
  | false=>
   show mOp oIx (Q2 2) (Q2 0) [some (.int (k:Int)),some (.bl false),some (.ref Ld),some (.lst (ws.map wyV))] S=.ok (.int (ls.getD k 0)) S;exact Q8 rfl rfl J
 obtain ⟨I,B,rfl⟩:∃ I B,ss=I :: B:=by cases ss with
  | nil=>exact absurd rfl O
  | cons a l=>exact ⟨a,l,rfl⟩
 obtain ⟨r,e1,Y,e3⟩:=Qq4 (room ws ls I) (B.map (room ws ls));refine ⟨r,(Zv (Ji (Zg (Q3 (K7 (W1 (K1 rfl rfl (by rw [O1]; omega)) e)) rfl) (S2:=S) (v:=.int r) ?_))).trans (yx rfl),?_,?_⟩
 ·show Zj (fun ns=>(Qf7 ns).map .int) S [.lst ((I :: B).map fun s=>PV.int (room ws ls s))]=_
  rw [show (I :: B).map (fun s=>PV.int (room ws ls s))=(room ws ls I :: B.map (room ws ls)).map PV.int by rw [<- D3 (f:=room ws ls),E7]; rfl,xc,e1]; rfl
 ·rw [<- D3 (f:=room ws ls)] at Y;obtain ⟨s,h1,h2⟩:=D7.mp Y;exact ⟨s,h1,h2.symm⟩
 ·intro s h;exact e3 _ (by rw [<- D3 (f:=room ws ls)]; exact D7.mpr ⟨s,h,rfl⟩)
def Vd (a:Int) (ls:List Int) (s:Nat × Bool):List Int:=ls.set s.1 (ls.getD s.1 0 + if s.2=true then a else -a)
def push (a:Int) (ls:List Int) (ss:List (Nat × Bool)):List Int:=ss.foldl (Vd a) ls
theorem Q10 (a:Int):∀ (ss:List (Nat × Bool)) (ls:List Int),(push a ls ss).length=ls.length
 | [],_=>rfl
 | s :: ss,ls=>by
  show (push a (Vd a ls s) ss).length=_;rw [Q10 a ss]; exact L6
theorem Qke {mi:ME} {f:Int->Int->Int} {J O:Q0} {o:PV} {xs:List PV} {j b:Int} (h1:mo Γ S=.ok o S1) (h2:mi Γ S1=.ok (.int j) S2) (Y:Y1 S2 o=some xs) (h4:atI xs j=some (.int a)) (U:m Γ S2=.ok (.int b) J) (Z:W8 J o (.int j) (.int (f a b))=some O):Q6j mo mi f m Γ S=.nx Γ O:=by
 unfold Q6j;rw [h1,Vt,h2,Vt,Y];show (match atI xs j with | some (.int a)=>(m Γ S2).sbind fun v I=>(match v with | .int b=>(match W8 I o (.int j) (.int (f a b)) with | some B=>SR.nx Γ B | none=>.stuck) | _=>.stuck) | _=>.stuck)=_
 rw [h4];show ((m Γ S2).sbind fun v I=>(match v with | .int b=>(match W8 I o (.int j) (.int (f a b)) with | some B=>SR.nx Γ B | none=>.stuck) | _=>.stuck))=_
 rw [U,Vt];show (match W8 J o (.int j) (.int (f a b)) with | some B=>SR.nx Γ B | none=>.stuck)=_
 rw [Z]
theorem Q9h {Ld:Nat} {a:Int} {V T P:PV} {sv D6:Option PV} {X6:PV} {n:Nat}:∀ (ss:List (Nat × Bool)) (ls:List Int) (A:Q0) (U O:Option PV),ls.length=n->(∀ s∈ss,s.1 < n)->A[Ld]?=some (.lst (ls.map .int)) ->
  ∃ I Z b9,Jw (Qv (Q5 (Q4 8) (Q5 (Q4 9) Qw))) qj [] (ss.map spV) [some V,some (.ref Ld),some T,some P,sv,D6,some X6,some (.int a),U,O] A=.nx [some V,some (.ref Ld),some T,some P,sv,D6,some X6,some (.int a),Z,b9] I/\I[Ld]?=some (.lst ((push a ls ss).map .int))/\Gw (fun t=>t=Ld) A I
 | [],ls,A,U,O,_,_,J=>⟨A,U,O,U4 (Jb _),J,Gw.refl _ _⟩
 | s :: ss,ls,A,U,O,hn,hs,J=>by
  have hk:s.1 < ls.length:=by rw [hn]; exact hs s O9
  have Y:=(O0.mp J).1;have a1:W8 A (.ref Ld) (.int (s.1:Int)) (.int (ls.getD s.1 0 + if s.2=true then a else -a))=some (A.set Ld (.lst ((Vd a ls s).map .int))):=by
   rw [Q46,J];show (ixN (ls.map PV.int).length (s.1:Int)).map _=_;rw [show ixN (ls.map PV.int).length (s.1:Int)=some s.1 by rw [O1]; exact Qa2 hk];unfold Vd;rw [List.map_set]; rfl
  have B:qj [some V,some (.ref Ld),some T,some P,sv,D6,some X6,some (.int a),some (.int (s.1:Int)),some (.bl s.2)] A=.nx [some V,some (.ref Ld),some T,some P,sv,D6,some X6,some (.int a),some (.int (s.1:Int)),some (.bl s.2)] (A.set Ld (.lst ((Vd a ls s).map .int))):=by
   have hv:mIf (toB (Q2 9)) (Q2 7) (Qjp (Q2 7)) [some V,some (.ref Ld),some T,some P,sv,D6,some X6,some (.int a),some (.int (s.1:Int)),some (.bl s.2)] A=.ok (.int (if s.2=true then a else -a)) A:=by
    obtain ⟨k,b⟩:=s;cases b <;> rfl
   refine Qke rfl rfl (Jc J) (a:=ls.getD s.1 0) ?_ hv a1;rw [Xw PV.int 0 ls hk]
  obtain ⟨I,Z,b9,e,q1,q2⟩:=Q9h (V:=V) (T:=T) (P:=P) (sv:=sv) (D6:=D6) (X6:=X6) ss (Vd a ls s) (A.set Ld (.lst ((Vd a ls s).map .int))) (some (.int (s.1:Int))) (some (.bl s.2)) ((Q10 a [s] ls).trans hn) (fun x hx=>hs x (O4 _ hx)) (F0 Y)
  exact ⟨I,Z,b9,Wq (Jb _) rfl B e,q1,(Gw.put (P:=fun t=>t=Ld) A rfl _).trans q2⟩
theorem Qrf {i:Nat} {f:Int->Int->Int} {b:Int} (h1:Γ[i]?=some (some (.int a))) (h2:m Γ S=.ok (.int b) S1):Qfh i f m Γ S=.nx (Γ.set i (some (.int (f a b)))) S1:=by
 unfold Qfh;rw [h1];show (m Γ S).sbind _=_;rw [h2]; rfl
abbrev sG (ws:List Wy) (Ld:Nat) (t:Tr) (sv:Int) (D:Nat) (a6 a7 a8 a9:Option PV):Gam:=[some (.lst (ws.map wyV)),some (.ref Ld),some (trV t),some (ndV (some (t.1.2,t.1.1))),some (.int sv),some (.ref D),a6,a7,a8,a9]
theorem Q7k (hl:ws.length<=500) (a4:∃ k,k < ws.length/\(ws.getD k wy0).1=none) {t:Tr} (J:List Int->Int->Prop) (hJ:∀ (ls:List Int) (sv a:Int) (F:Fd) (ns:List Nd) (ss:List (Nat × Bool)),ls.length=ws.length->J ls sv->FT ws ls F->Pt ws ls F (some (t.1.2,t.1.1)) ns ss->1<=a->(∀ s∈ss,a<=room ws ls s)->a<=t.2 - sv->J (push a ls ss) (sv + a)):∀ (d m:Nat) (ls:List Int) (sv:Int) (D:Nat) (F:Fd) (A:Q0) (Z Y U O:Option PV),(t.2 - sv).toNat<=d->sv<=t.2->ls.length=ws.length->J ls sv->A[Ld]?=some (.lst (ls.map .int))->A[D]?=some (.dtp (J7 stV F))->FT ws ls F->(∀ u∈kys F,Cld ws ls F u) ->
  ∃ A' B I D' F' b6 b7 b8 b9,Z2 Uy qk (m + d + 1) (sG ws Ld t sv D Z Y U O) A=.nx (sG ws Ld t I D' b6 b7 b8 b9) A'/\I<=t.2/\B.length=ws.length/\J B I/\A'[Ld]?=some (.lst (B.map .int))/\FT ws B F'/\(∀ u∈kys F',Cld ws B F' u)/\(I=t.2\/some (t.1.2,t.1.1)∉kys F')/\Gw (fun x=>x=Ld) A A':=by
 have wt:∀ {A:Q0} {D:Nat} {F:Fd} (sv:Int) (Z Y U O:Option PV),A[D]?=some (.dtp (J7 stV F))->Uy (sG ws Ld t sv D Z Y U O) A=.ok (decide (sv < t.2) && decide (some (t.1.2,t.1.1)∈kys F)) A:=fun sv Z Y U O hD=>
  Q55 (Qq (Q8 rfl (Q8 rfl rfl rfl) (Q6k _ _ _))) (Qq (Q8 rfl rfl ((Qgg stV hD (some (t.1.2,t.1.1)) false).trans (by rw [Bool.bne_false]))))
 have stop:∀ {A:Q0} {D:Nat} {F:Fd} {ls:List Int} (n:Nat) (sv:Int) (Z Y U O:Option PV),(decide (sv < t.2) && decide (some (t.1.2,t.1.1)∈kys F))=false->sv<=t.2->ls.length=ws.length->J ls sv->A[Ld]?=some (.lst (ls.map .int))->A[D]?=some (.dtp (J7 stV F))->FT ws ls F->(∀ u∈kys F,Cld ws ls F u) ->
   ∃ A' B I D' F' b6 b7 b8 b9,Z2 Uy qk (n + 1) (sG ws Ld t sv D Z Y U O) A=.nx (sG ws Ld t I D' b6 b7 b8 b9) A'/\I<=t.2/\B.length=ws.length/\J B I/\A'[Ld]?=some (.lst (B.map .int))/\FT ws B F'/\(∀ u∈kys F',Cld ws B F' u)/\(I=t.2\/some (t.1.2,t.1.1)∉kys F')/\Gw (fun x=>x=Ld) A A':=by
  intro A D F ls n sv Z Y U O hf h1 h2 h3 h4 h5 h6 h7;have w:=wt sv Z Y U O h5;rw [hf] at w;refine ⟨A,ls,sv,D,F,Z,Y,U,O,qz w,h1,h2,h3,h4,h6,h7,?_,Gw.refl _ _⟩
  by_cases q:sv < t.2
  ·rw [bQ q,Bool.true_and] at hf;exact .inr (of_decide_eq_false hf)
  ·exact .inl (by omega)
 intro d
 induction d with
 | zero=>
  intro m ls sv D F A Z Y U O hd h1 h2 h3 h4 h5 h6 h7;exact stop m sv Z Y U O (by rw [bP (by omega)]; rfl) h1 h2 h3 h4 h5 h6 h7
 | succ d ih=>
  intro m ls sv D F A Z Y U O hd h1 h2 h3 h4 h5 h6 h7;cases hc:(decide (sv < t.2) && decide (some (t.1.2,t.1.1)∈kys F)) with
  | false=>exact stop (m + d + 1) sv Z Y U O hc h1 h2 h3 h4 h5 h6 h7
  | true=>
   have w:=wt sv Z Y U O h5;rw [hc] at w;obtain ⟨c1,c2⟩:=Bool.and_eq_true_iff.mp hc;have c1:=of_decide_eq_true c1;have c2:=of_decide_eq_true c2;obtain ⟨ns,ss,p⟩:=h6.path _ c2;obtain ⟨l1,eb⟩:=Qkd h6 hl h5 p;have hr:=p.room;have a5:ss≠[]:=by
    intro z;subst z;cases p
   obtain ⟨r,er,⟨s0,b0,r0⟩,hrm⟩:=Qia h2 h4 (ss:=ss) (fun s hs=>(hr s hs).1) (by omega) a5
   have b1:1<=r:=by rw [r0]; exact (hr s0 b0).2
   obtain ⟨a,ha⟩:∃ a,a=if t.2 - sv < r then t.2 - sv else r:=⟨_,rfl⟩
   have a2:1<=a/\a<=r/\a<=t.2 - sv:=by
    rw [ha]
    split <;> omega
   obtain ⟨A1,b8,b9,e1,q1,g1⟩:=Q9h (Ld:=Ld) (a:=a) (V:=.lst (ws.map wyV)) (T:=trV t) (P:=ndV (some (t.1.2,t.1.1))) (sv:=some (.int sv)) (D6:=some (.ref D)) (X6:=.lst (ss.map spV)) (n:=ws.length) ss ls A U O h2 (fun s hs=>(hr s hs).1) h4
   have a1:(push a ls ss).length=ws.length:=(Q10 a ss ls).trans h2;obtain ⟨A2,D2,F2,e2,d2,t2,a3,g2,_⟩:=j7 hl a1 a4 q1;have L2:A2[Ld]?=some (.lst ((push a ls ss).map .int)):=g2.at q1 id;obtain ⟨A',B,I,D',F',x6,x7,x8,x9,e,k1,k2,k3,k4,k5,k6,k7,k8⟩:=ih m (push a ls ss) (sv + a) D2 F2 A2 (some (.lst (ss.map spV))) (some (.int a)) b8 b9 (by omega) (by omega) a1 (hJ ls sv a F ns ss h2 h3 h6 p a2.1 (fun s hs=>Int.le_trans a2.2.1 (hrm s hs)) a2.2.2) L2 d2 t2 a3
   refine ⟨A',B,I,D',F',x6,x7,x8,x9,?_,k1,k2,k3,k4,k5,k6,k7,(g1.trans (g2.mono fun _ _ z=>z.elim)).trans k8⟩;refine Ux w (Q9 (Qt (Qx (n:=3) (Q3 rfl (Q3 rfl (Q3 rfl rfl))) rfl eb)) (Q9 (Qt (Zg (Q3 (Qx (n:=3) (Q3 rfl (Q3 rfl (Q3 rfl rfl))) rfl er) (Q3 (Q8 (Q8 rfl rfl rfl) rfl rfl) rfl)) (S2:=A) (v:=.int a) ?_)) (Q9 (Z6 (K1 rfl rfl (by rw [O1]; omega)) e1) (Q9 (Qrf rfl rfl) (Qt (Qx (n:=2) (Q3 rfl (Q3 rfl rfl)) rfl e2)))))) e;rw [Q76,ha]
theorem Qdf (hl:ws.length<=500) (U:∃ k,k < ws.length/\(ws.getD k wy0).1=none) {t:Tr} (J:List Int->Int->Prop) (hJ:∀ (ls:List Int) (sv a:Int) (F:Fd) (ns:List Nd) (ss:List (Nat × Bool)),ls.length=ws.length->J ls sv->FT ws ls F->Pt ws ls F (some (t.1.2,t.1.1)) ns ss->1<=a->(∀ s∈ss,a<=room ws ls s)->a<=t.2 - sv->J (push a ls ss) (sv + a)) (ht:0<=t.2/\t.2<=1000000) (h2:ls.length=ws.length) (h3:J ls 0) (h4:S[Ld]?=some (.lst (ls.map .int))) :
  ∃ Z B I O,y4 [.lst (ws.map wyV),.ref Ld,trV t] S=.ok (.int I) Z/\I<=t.2/\B.length=ws.length/\J B I/\Z[Ld]?=some (.lst (B.map .int))/\FT ws B O/\(∀ u∈kys O,Cld ws B O u)/\(I=t.2\/some (t.1.2,t.1.1)∉kys O)/\Gw (fun x=>x=Ld) S Z:=by
 obtain ⟨A2,D2,F2,e2,d2,t2,Y,g2,_⟩:=j7 hl h2 U h4;obtain ⟨A',B,I,D',O,x6,x7,x8,x9,e,k1,k2,k3,k4,k5,k6,k7,k8⟩:=Q7k hl U J hJ t.2.toNat (1999999 - t.2.toNat) ls 0 D2 F2 A2 none none none none (by omega) ht.1 h2 h3 (g2.at h4 id) d2 t2 Y;rw [show 1999999 - t.2.toNat + t.2.toNat + 1=2000000 by omega] at e;exact ⟨A',B,I,O,Xb (Q9 (Qt (J3 (Q3 (Q8 rfl rfl rfl) (Q3 (Q8 rfl rfl rfl) rfl)) (show 2<=1000000 by decide))) (Q9 (Qt rfl) (Q9 (Qt (Qx (n:=2) (Q3 rfl (Q3 rfl rfl)) rfl e2)) (Q9 e (Ji rfl))))),k1,k2,k3,k4,k5,k6,k7,(g2.mono fun _ _ z=>z.elim).trans k8⟩
def wsp (xs:List Int):List Wy:=(List.range xs.length).map fun h=>(none,some (h,0),xs.getD h 0)
def wst (xs:List Int) (t:Nat):List Wy:=(List.range xs.length).map fun h=>(some (h,t),some (h,t + 1),xs.sum)
def wrd (ts:List Tr) (t:Nat):List Wy:=ts.map fun z=>(some (z.1.1,t),some (z.1.2,t + 1),z.2)
def wsQ (xs:List Int) (rs:List (List Tr)):List Wy:=wsp xs ++ (List.range rs.length).flatMap fun t=>wst xs t ++ wrd (rs.getD t []) t
theorem Q3t (xs:List Int) (t:Nat):(wst xs t).length=xs.length:=by unfold wst; rw [O1,F6]
theorem Q8z (ts:List Tr) (t:Nat):(wrd ts t).length=ts.length:=O1 _
theorem Qwp (n:Nat):Jj 0 n=(List.range n).map fun i:Nat=>PV.int (i:Int):=by
 unfold Jj;exact F3 fun i _=>by rw [Int.zero_add]
theorem Qad (h:m Γ S=.ok (.tup l) S) (B:l.length<=1000):qu (Q1 m Q6) Γ S=.ok (W9 0 l,[]) S:=by
 unfold qu;rw [Q3 h rfl,Qg];show (if l.length<=lim then Res.ok (W9 0 l,[]) S else .stuck)=_;rw [bN (by rw [Jk]; omega)]
theorem Qjz (ws:List Wy):Qz 12 (.lst (ws.map wyV))=true:=by
 have:∀ v:Nd,Qz 10 (ndV v)=true:=fun v=>by cases v <;> rfl
 simp [Qz,wyV,this]
theorem Q3v (Q:Qok xs rs ks):(wsQ xs rs).length<=500:=by
 have h1:=Q.x4;have h2:=Q.r4;have key:∀ m,m<=rs.length->((List.range m).flatMap fun t=>wst xs t ++ wrd (rs.getD t []) t).length<=m * 104:=by
  intro m
  induction m with
  | zero=>intro _; simp
  | succ m B=>
   intro J;rw [List.range_succ,List.flatMap_append,O7];have:=B (by omega);have I:((List.flatMap (fun t=>wst xs t ++ wrd (rs.getD t []) t) [m])).length<=104:=by
    rw [List.flatMap_singleton,O7];rw [Q3t,Q8z];have:rs.getD m []∈rs:=by rw [O3,O2 (by omega)]; exact F7 _
    have:=(Q.rb _ this).len;omega
   omega
 unfold wsQ wsp;rw [O7,O1,F6];have:=key rs.length (O8 _);omega
theorem Qhi (Q:Qok xs rs ks) (S:Q0):Xd [qV xs rs ks] S=.ok (.lst ((wsQ xs rs).map wyV)) S:=by
 have h4:=Q.x4;have a7:=Q.r4;have a6:-1000000<=(xs.length:Int)/\(xs.length:Int)<=1000000:=by omega
 have e1:=Jz (ga:=Qv (Q5 (Q4 0) (Q5 (Q4 1) Qw))) (me:=Kt) (w:=[]) (Γ0:=[none,none]) (st:=S) (g:=fun i:Nat=>PV.tup [.int (i:Int),.int (xs.getD i 0)]) (f:=fun h:Nat=>wyV (none,some (h,0),xs.getD h 0)) (Jb _) (ys:=List.range xs.length) fun h _=>⟨_,rfl,J3 (Q3 rfl (Q3 (J3 (Q3 rfl (Q3 rfl rfl)) (show 2<=1000000 by decide)) (Q3 rfl rfl))) (show 3<=1000000 by decide)⟩
 rw [<- Q4y PV.int 0 xs,show (List.range xs.length).map (fun h:Nat=>wyV (none,some (h,0),xs.getD h 0))=(wsp xs).map wyV by unfold wsp; rw [E7]; rfl] at e1
 obtain ⟨a8,S',e2,O,Y,rfl,q,g⟩:=Y2 (g:=fun i:Nat=>PV.tup [.int (i:Int),tsV (rs.getD i [])]) (xs:=List.range rs.length) (ga:=Qv (Q5 (Q4 3) (Q5 (Q4 4) Qw))) (body:=Ky) (w:=[]) (Γ:=[some (qV xs rs ks),some (.tup (xs.map .int)),some (.ref S.length),none,none]) (st:=S ++ [.lst ((wsp xs).map wyV)])
  (fun m Γ st=>∃ O Y,Γ=[some (qV xs rs ks),some (.tup (xs.map .int)),some (.ref S.length),O,Y]/\st[S.length]?=some (.lst ((wsp xs ++ (List.range m).flatMap fun t=>wst xs t ++ wrd (rs.getD t []) t).map wyV))/\Gw (fun t=>t=S.length) (S ++ [.lst ((wsp xs).map wyV)]) st)
  (fun _ _ _ _ x Z=>by cases Z)
  (fun m x Γ st Z ⟨O,Y,a1,q,g⟩=>by
   obtain ⟨hm,rfl⟩:m < rs.length/\x=m:=by
    obtain ⟨h1,h2⟩:=O0.mp Z;rw [F6] at h1;rw [List.getElem_range] at h2;exact ⟨h1,h2.symm⟩
   subst a1;have U:rs.getD x []∈rs:=by rw [O3,O2 hm]; exact F7 _
   have a5:=(Q.rb _ U).len;have a2:(wsp xs ++ (List.range x).flatMap fun t=>wst xs t ++ wrd (rs.getD t []) t).length<=1000:=by
    have h1:=Q3v Q;unfold wsQ at h1;have h2:((List.range x).flatMap fun t=>wst xs t ++ wrd (rs.getD t []) t).length<=((List.range rs.length).flatMap fun t=>wst xs t ++ wrd (rs.getD t []) t).length:=by
     rw [show rs.length=x + (rs.length - x) by omega,List.range_add,List.flatMap_append,O7];omega
    rw [O7] at h1 ⊢;omega
   have c2:=Jz (ga:=Q4 0) (me:=Ks) (w:=[]) (Γ0:=[none,some (.int (x:Int)),some (.tup (xs.map .int))]) (st:=st) (g:=fun i:Nat=>PV.int (i:Int)) (f:=fun h:Nat=>wyV (some (h,x),some (h,x + 1),xs.sum)) (Jb _) (ys:=List.range xs.length) fun h _=>⟨_,rfl,J3 (Q3 (J3 (Q3 rfl (Q3 rfl rfl)) (show 2<=1000000 by decide)) (Q3 (J3 (Q3 rfl (Q3 (Q8 rfl rfl (Q2u _ _ _)) rfl)) (show 2<=1000000 by decide)) (Q3 (Zg (Q3 rfl rfl) (Qc9 _ _ _)) rfl))) (show 3<=1000000 by decide)⟩
   rw [show (List.range xs.length).map (fun h:Nat=>wyV (some (h,x),some (h,x + 1),xs.sum))=(wst xs x).map wyV by unfold wst; rw [E7]; rfl] at c2
   have s1:=Qab q (ys:=(wst xs x).map wyV) (by rw [O1,O1,Q3t]; omega);rw [<- E3] at s1;obtain ⟨J,B⟩:∃ J,st.set S.length (.lst ((wsp xs ++ (List.range x).flatMap (fun t=>wst xs t ++ wrd (rs.getD t []) t) ++ wst xs x).map wyV))=J:=⟨_,rfl⟩
   rw [B] at s1;have I:S.length < st.length:=(O0.mp q).1;have q1:J[S.length]?=some (.lst ((wsp xs ++ (List.range x).flatMap (fun t=>wst xs t ++ wrd (rs.getD t []) t) ++ wst xs x).map wyV)):=by rw [<- B]; exact F0 I
   have c3:=Jz (ga:=Qv (Q5 (Q4 0) (Q5 (Q4 1) (Q5 (Q4 2) Qw)))) (me:=Kr) (w:=[]) (Γ0:=[none,none,none,some (.int (x:Int))]) (st:=J) (g:=trV) (f:=fun z:Tr=>wyV (some (z.1.1,x),some (z.1.2,x + 1),z.2)) (Jb _) (ys:=rs.getD x []) fun z _=>⟨_,rfl,J3 (Q3 (J3 (Q3 rfl (Q3 rfl rfl)) (show 2<=1000000 by decide)) (Q3 (J3 (Q3 rfl (Q3 (Q8 rfl rfl (Q2u _ _ _)) rfl)) (show 2<=1000000 by decide)) (Q3 rfl rfl))) (show 3<=1000000 by decide)⟩
   rw [show (rs.getD x []).map (fun z:Tr=>wyV (some (z.1.1,x),some (z.1.2,x + 1),z.2))=(wrd (rs.getD x []) x).map wyV by unfold wrd; rw [E7]; rfl] at c3
   have s2:=Qab q1 (ys:=(wrd (rs.getD x []) x).map wyV) (by rw [O1,O1,O7,Q3t,Q8z]; omega);rw [<- E3] at s2;refine ⟨_,rfl,_,_,Q9 (jn rfl (Jc q) (Q3 (K7 (W1 (Q5s (n:=xs.length) (by omega) (Zg (Q3 rfl rfl) (by rw [Kx,O1]))) (by rw [Qwp]; exact c2))) rfl) s1) (jn rfl (Jc q1) (Q3 (K7 (W1 (K1 rfl rfl (by rw [O1]; omega)) c3)) rfl) s2),_,_,rfl,?_,?_⟩
   ·rw [F0 (by rw [<- B,L6]; exact I),List.range_succ,List.flatMap_append,List.flatMap_singleton,N4,N4]
   ·rw [<- B];exact (g.trans (Gw.put (P:=fun t=>t=S.length) st rfl _)).trans (Gw.put (P:=fun t=>t=S.length) _ rfl _))
  ⟨_,_,rfl,by rw [List.range_zero,List.flatMap_nil,G7,D5 (O8 _),L0]; rfl,Gw.refl _ _⟩
 rw [<- Q4y tsV [] rs] at e2;rw [F6] at q;have g':Gw (fun _=>False) S S':=((Gw.add (fun t=>t=S.length) S _).trans g).mono fun t ht z=>by omega
 exact (Zv (show yj [some (qV xs rs ks),none,none,none,none] S=_ from Q9 (Qt (Q8 rfl rfl rfl)) (Q9 (Qt (Uh (W1 (Qad rfl (by rw [O1]; omega)) e1))) (Q9 (Z6 (Qad (Q8 rfl rfl rfl) (by rw [O1]; omega)) e2) (Ji rfl))))).trans (Qa9 g' q (O8 _) (Qjz _))
structure Mv4 where
 t:Int
 i:Int
 j:Int
 k:Int
variable {ms:List Mv4}
def mvI (m:Mv4):List Int:=[m.t,m.i,m.j,m.k]
def mvV (m:Mv4):PV:=js (mvI m)
def InN (n:Nat) (m:Mv4):Prop:=(0<=m.i/\m.i < n)/\0<=m.j/\m.j < n
def Xc (xs:List Int) (at' d:Int):List Int:=xs.set at'.toNat (xs.getD at'.toNat 0 + d)
theorem W3 (xs:List Int) (a d:Int):(Xc xs a d).length=xs.length:=by unfold Xc; simp
theorem Q25 (B:0<=a) (I:a < xs.length) (d:Int) (k:Nat):(Xc xs a d).getD k 0=xs.getD k 0 + if (k:Int)=a then d else 0:=by
 unfold Xc;rw [O3,List.getElem?_set,O3,O3]
 by_cases q:a.toNat=k
 ·rw [bN q,bN (by omega),bN (by omega),q]; rfl
 ·rw [bO q,bO (by omega)]; simp
theorem Qjf:∀ (a:Int) (l:List Int),∃ m,Qf7 (a :: l)=some m/\(m < 0 <-> ∃ x∈a :: l,x < 0):=by
 have key:∀ (l:List Int) (a:Int),(l.foldl (fun m x=>if x < m then x else m) a < 0 <-> ∃ x∈a :: l,x < 0):=by
  intro l
  induction l with
  | nil=>intro a; simp
  | cons b l J=>
   intro a;rw [List.foldl_cons,J];constructor
   ·rintro ⟨x,I,B⟩;rcases D8.mp I with rfl | I
    ·by_cases q:b < a
     ·rw [bN q] at B; exact ⟨b,by simp,B⟩
     ·rw [bO q] at B; exact ⟨a,by simp,B⟩
    ·exact ⟨x,by simp [I],B⟩
   ·rintro ⟨x,I,B⟩;rcases D8.mp I with rfl | I
    ·by_cases q:b < x
     ·exact ⟨b,by simp [q],by omega⟩
     ·exact ⟨x,by simp [q],B⟩
    ·rcases D8.mp I with rfl | I
     ·by_cases q:x < a
      ·exact ⟨x,by simp [q],B⟩
      ·exact ⟨a,by simp [q],by omega⟩
     ·exact ⟨x,by simp [I],B⟩
 intro a l;exact ⟨_,rfl,key l a⟩
theorem Qde (S:Q0) (c d:Cell):(S ++ [c]).set S.length d=S ++ [d]:=by
 rw [List.set_append_right _ _ (O8 _),L0]; rfl
theorem Q1j (S:Q0) (c:Cell):(S ++ [c])[S.length]?=some c:=by rw [D5 (O8 _),L0]; rfl
theorem Qf2 (S:Q0) (a b:Nd):oNe S (ndV a) (ndV b)=.ok (.bl (!decide (a=b))) S:=by
 rw [<- Qeg];cases a <;> cases b <;> rfl
structure WOk (n r:Nat) (w:Wy):Prop where
 h:∃ b,w.2.1=some b/\b.1 < n/\b.2<=r/\(w.1=none\/∃ a,w.1=some a/\a.1 < n/\a.2 < r/\b.2=a.2 + 1)
theorem Q78 (Q:Qok xs rs ks):∀ w∈wsQ xs rs,WOk xs.length rs.length w:=by
 intro w B;unfold wsQ at B;rcases D4.mp B with B | B
 ·unfold wsp at B;obtain ⟨h,J,rfl⟩:=D7.mp B;exact ⟨_,rfl,M0.mp J,M9 _,.inl rfl⟩
 ·obtain ⟨t,I,B⟩:=List.mem_flatMap.mp B;have I:=M0.mp I;rcases D4.mp B with B | B
  ·unfold wst at B;obtain ⟨h,J,rfl⟩:=D7.mp B;exact ⟨_,rfl,M0.mp J,I,.inr ⟨_,rfl,M0.mp J,I,rfl⟩⟩
  ·unfold wrd at B;obtain ⟨z,hz,rfl⟩:=D7.mp B;have:rs.getD t []∈rs:=by rw [O3,O2 I]; exact F7 _
   obtain ⟨⟨h1,h2,_⟩,_⟩:=(Q.rb _ this).ok z hz;exact ⟨_,rfl,h2,I,.inr ⟨_,rfl,h1,I,rfl⟩⟩
theorem Qma (Q:Qok xs rs ks):∃ k,k < (wsQ xs rs).length/\((wsQ xs rs).getD k wy0).1=none:=by
 have h1:=Q.x1;have B:(wsp xs).length=xs.length:=by unfold wsp; rw [O1,F6]
 refine ⟨0,by unfold wsQ; rw [O7]; omega,?_⟩;unfold wsQ;rw [O3,O6 (by omega)];unfold wsp;rw [F4,List.getElem?_range h1]; rfl
def mvO (z:Wy × Int):Option Mv4:=match z.1.1,z.1.2.1 with
 | some a,some b=>if a.1≠b.1/\0 < z.2 then some ⟨a.2,a.1,b.1,z.2⟩ else none
 | _,_=>none
def mvs (ws:List Wy) (ls:List Int):List Mv4:=(ws.zip ls).filterMap mvO
theorem Qf6 (hl:ws.length<=500) (hw:∀ w∈ws,w.2.1≠none) (hL:S[Ld]?=some (.lst (ls.map .int))):∃ O,U7 [.lst (ws.map wyV),.ref Ld] S=.ok (.ref S.length) O/\O[S.length]?=some (.lst ((mvs ws ls).map mvV))/\Gw (fun _=>False) S O:=by
 have Y:=(O0.mp hL).1;obtain ⟨a7,O,e,J,U,rfl,q,g⟩:=Q3e (g:=fun z:Wy × Int=>PV.tup [wyV z.1,.int z.2]) (xs:=ws.zip ls) (ga:=Qv (Q5 (Q4 3) (Q5 (Q4 4) Qw))) (body:=K0) (w:=[] ++ [(Ld,.lst (ls.map .int))]) (Γ:=[some (.lst (ws.map wyV)),some (.ref Ld),some (.ref S.length),none,none]) (st:=S ++ [.lst []])
  (fun pre Γ st=>∃ J U,Γ=[some (.lst (ws.map wyV)),some (.ref Ld),some (.ref S.length),J,U]/\st[S.length]?=some (.lst ((pre.filterMap mvO).map mvV))/\Gw (fun t=>t=S.length) (S ++ [.lst []]) st)
  (fun pre Γ st ⟨_,_,_,_,g⟩=>g.w (Q3u (by rw [O6 Y]; exact hL)) fun x hx=>by
   have:x=(Ld,.lst (ls.map .int)):=by simpa using hx
   rw [this];show ¬ Ld=S.length;omega)
  (fun pre z a6 Γ st hz ⟨J,U,a5,q,g⟩=>by
   subst a5;have a2:z.1∈ws:=(List.of_mem_zip (show (z.1,z.2)∈ws.zip ls by rw [hz]; simp)).1;have a8:(pre.filterMap mvO).length<=500:=by
    have h1:=List.length_filterMap_le mvO pre;have h2:=congrArg List.length hz;rw [O7,List.length_zip] at h2;omega
   have a1:S.length < st.length:=(O0.mp q).1;have fm:(pre ++ [z]).filterMap mvO=pre.filterMap mvO ++ (mvO z).toList:=by rw [List.filterMap_append]; cases h:mvO z <;> simp [List.filterMap_cons,h]
   obtain ⟨⟨u,v,c⟩,l⟩:=z;have same:∀ {T:MT},T [some (.lst (ws.map wyV)),some (.ref Ld),some (.ref S.length),some (wyV (u,v,c)),some (.int l)] st=.ok false st->mvO ((u,v,c),l)=none->∀ {B:MS},∃ Γ1,Qv (Q5 (Q4 3) (Q5 (Q4 4) Qw)) (.tup [wyV (u,v,c),.int l]) [some (.lst (ws.map wyV)),some (.ref Ld),some (.ref S.length),J,U]=some Γ1/\∃ Z I,Zp T B J8 Γ1 st=.nx Z I /\
     ∃ J U,Z=[some (.lst (ws.map wyV)),some (.ref Ld),some (.ref S.length),J,U]/\I[S.length]?=some (.lst (((pre ++ [((u,v,c),l)]).filterMap mvO).map mvV))/\Gw (fun t=>t=S.length) (S ++ [.lst []]) I:=fun h1 h2=>⟨_,rfl,_,_,Ya h1 rfl,_,_,rfl,by rw [fm,h2,Option.toList_none,G7]; exact q,g⟩
   cases u with
   | none=>exact same (Qag (Qq (Q8 (Q8 rfl rfl rfl) rfl (Qf2 st none none)))) rfl
   | some a=>
    cases v with
    | none=>exact absurd rfl (hw _ a2)
    | some b=>
     have c1:=Qq (Γ:=[some (.lst (ws.map wyV)),some (.ref Ld),some (.ref S.length),some (wyV (some a,some b,c)),some (.int l)]) (Q8 (a:=mOp oIx (Q2 3) (mC (.int 0))) (b:=mC (.str "spring")) (Q8 rfl rfl rfl) rfl (Qf2 st (some a) none));have c2:Vc (toB (mOp oNe (mOp oIx (mOp oIx (Q2 3) (mC (.int 0))) (mC (.int 0))) (mOp oIx (mOp oIx (Q2 3) (mC (.int 1))) (mC (.int 0))))) (toB (mOp (oI fun a b=>.bl (decide (b < a))) (Q2 4) (mC (.int 0)))) [some (.lst (ws.map wyV)),some (.ref Ld),some (.ref S.length),some (wyV (some a,some b,c)),some (.int l)] st=.ok (!((a.1:Int) == (b.1:Int)) && decide (0 < l)) st:=
      Q55 (Qq (Q8 (Q8 (Q8 rfl rfl rfl) rfl rfl) (Q8 (Q8 rfl rfl rfl) rfl rfl) (Q9q st _ _))) (Qq (Q8 rfl rfl rfl))
     by_cases k:a.1≠b.1/\0 < l
     ·have hb:(!((a.1:Int) == (b.1:Int)) && decide (0 < l))=true:=by
       have:¬ (a.1:Int)=b.1:=by omega
       simp [this,k.2]
      rw [hb] at c2;have hO:mvO ((some a,some b,c),l)=some ⟨a.2,a.1,b.1,l⟩:=bN k;refine ⟨_,rfl,_,_,ji (Q28 c1 c2) (jn rfl (Jc q) (Q3 (J3 (Q3 (Q8 (Q8 rfl rfl rfl) rfl rfl) (Q3 (Q8 (Q8 rfl rfl rfl) rfl rfl) (Q3 (Q8 (Q8 rfl rfl rfl) rfl rfl) (Q3 rfl rfl)))) (show 4<=1000000 by decide)) rfl) (y3 q (by rw [O1]; omega) _)),_,_,rfl,?_,g.trans (Gw.put (P:=fun t=>t=S.length) st rfl _)⟩;rw [F0 a1,fm,hO,E3]; rfl
     ·have hb:(!((a.1:Int) == (b.1:Int)) && decide (0 < l))=false:=by
       by_cases k1:a.1=b.1
       ·simp [k1]
       ·have:¬ 0 < l:=fun z=>k ⟨k1,z⟩
        simp [this]
      rw [hb] at c2;exact same (Q28 c1 c2) (bO k))
  ⟨_,_,rfl,by rw [D5 (O8 _),L0]; rfl,Gw.refl _ _⟩
 have hz:(ws.zip ls).map (fun z:Wy × Int=>PV.tup [wyV z.1,.int z.2])=Xf (ws.map wyV) (ls.map .int):=by
  rw [jp,List.zip_map,E7]; rfl
 rw [hz] at e;have g':Gw (fun _=>False) S O:=((Gw.add (fun t=>t=S.length) S _).trans g).mono fun t ht z=>by omega
 have zp:yk (Q1 (Q2 0) (Q1 (Q2 1) Q6)) [some (.lst (ws.map wyV)),some (.ref Ld),some (.ref S.length),none,none] (S ++ [.lst []])=.ok (Xf (ws.map wyV) (ls.map .int),[] ++ [(Ld,.lst (ls.map .int))]) (S ++ [.lst []]):=by
  unfold yk;rw [Q3 rfl (Q3 rfl rfl),Qg];show (match Zc (S ++ [Cell.lst []]) (.lst (ws.map wyV)),Zc (S ++ [Cell.lst []]) (.ref Ld) with | some (xs,w),some (ys,w')=>if xs.length<=lim then Res.ok (Xf xs ys,w ++ w') (S ++ [Cell.lst []]) else .stuck | _,_=>.stuck)=_
  rw [Xg (show (S ++ [Cell.lst []])[Ld]?=some (.lst (ls.map .int)) by rw [O6 Y]; exact hL)];show (if (ws.map wyV).length<=lim then Res.ok (Xf (ws.map wyV) (ls.map PV.int),[] ++ [(Ld,Cell.lst (ls.map PV.int))]) (S ++ [Cell.lst []]) else .stuck)=_;rw [bN (by rw [O1,Jk]; omega)]
 exact ⟨O,Xb (show j9 [some (.lst (ws.map wyV)),some (.ref Ld),none,none,none] S=_ from Q9 (Qt (Uh rfl)) (Q9 (Z6 zp e) (Ji rfl))),q,g'⟩
def allN:List Nd:=none :: (List.range 4).flatMap fun h=>(List.range 5).map fun t=>some (h,t)
theorem Qhd:allN.length=21:=by decide
theorem Quj (v:Nd):hkV (ndK v)=ndV v:=by cases v <;> rfl
def ndI (v:Nd):List Int:=match v with
 | none=>[]
 | some z=>[(z.1:Int),(z.2:Int)]
theorem Qg7 (Q:Qok xs rs ks) (t:FT (wsQ xs rs) ls F):(∀ v∈kys F,v=none\/∃ z,v=some z/\z.1 < xs.length/\z.2<=rs.length)/\F.length<=21:=by
 have h1:=Q.x4;have h2:=Q.r4;have key:∀ v∈kys F,v=none\/∃ z,v=some z/\z.1 < xs.length/\z.2<=rs.length:=fun v B=>by
  rcases t.ends v B with h | ⟨k,O,h⟩
  ·exact .inl h
  ·have Z:(wsQ xs rs).getD k wy0∈wsQ xs rs:=by rw [O3,O2 O]; exact F7 O
   obtain ⟨b,J,U,e3,I⟩:=(Q78 Q _ Z).h;rcases h with h | h
   ·rcases I with I | ⟨a,e5,Y,e7,_⟩
    ·exact .inl (h.symm.trans I)
    ·exact .inr ⟨a,h.symm.trans e5,Y,by omega⟩
   ·exact .inr ⟨b,h.symm.trans J,U,e3⟩
 refine ⟨key,?_⟩;have h:=qc (m:=allN) t.nd fun v B=>by
  rcases key v B with rfl | ⟨z,rfl,J,U⟩
  ·exact O9
  ·exact O4 _ (List.mem_flatMap.mpr ⟨z.1,M0.mpr (by omega),D7.mpr ⟨z.2,M0.mpr (by omega),rfl⟩⟩)
 rw [O1,Qhd] at h;exact h
theorem Qhc (Q:Qok xs rs ks) (J:List Int->List Int->Int->Prop) (a3:J [] ((wsQ xs rs).map fun _=>0) 0) (b7:∀ (svs ls:List Int) (sv a:Int) (F:Fd) (ns:List Nd) (ss:List (Nat × Bool)) (t:Tr),ks[svs.length]?=some t->ls.length=(wsQ xs rs).length->J svs ls sv->FT (wsQ xs rs) ls F->Pt (wsQ xs rs) ls F (some (t.1.2,t.1.1)) ns ss->1<=a->(∀ s∈ss,a<=room (wsQ xs rs) ls s)->a<=t.2 - sv->J svs (push a ls ss) (sv + a)) (b1:∀ (svs ls:List Int) (sv:Int) (F:Fd) (t:Tr),ks[svs.length]?=some t->ls.length=(wsQ xs rs).length->J svs ls sv->sv<=t.2->FT (wsQ xs rs) ls F->(∀ u∈kys F,Cld (wsQ xs rs) ls F u)->(sv=t.2\/some (t.1.2,t.1.1)∉kys F)->J (svs ++ [sv]) ls 0) (S:Q0):∃ svs ls F S' a c m,Zr [qV xs rs ks] S=.ok (.tup [.ref a,.ref m,.ref c]) S'/\S'[a]?=some (.lst (svs.map .int))/\S'[m]?=some (.lst ((mvs (wsQ xs rs) ls).map mvV))/\S'[c]?=some (.lst ((X0 (((kys F).filter fun v=>!decide (v=none)).map ndI)).map js))/\Gw (fun _=>False) S S'/\S.length<=a/\a < c/\c < m/\svs.length=ks.length/\ls.length=(wsQ xs rs).length/\J svs ls 0/\FT (wsQ xs rs) ls F/\∀ u∈kys F,Cld (wsQ xs rs) ls F u:=by
 have wl:=Q3v Q;have sp:=Qma Q;have k5:=Q.k5;obtain ⟨ws,B⟩:∃ ws,wsQ xs rs=ws:=⟨_,rfl⟩;have ew:=Qhi Q S;have wo:=Q78 Q;rw [B] at wl sp ew a3 wo;obtain ⟨A1,O⟩:∃ A1,S ++ [Cell.lst ((ws.map fun _=>(0:Int)).map .int)]=A1:=⟨_,rfl⟩
 have c1:=Jz (ga:=Q4 0) (me:=Kw) (w:=[]) (Γ0:=[none]) (st:=S) (g:=wyV) (f:=fun _=>PV.int 0) (Jb _) (ys:=ws) fun w _=>⟨_,rfl,rfl⟩
 have a9:ws.map (fun _:Wy=>PV.int 0)=(ws.map fun _=>(0:Int)).map .int:=by rw [E7]; rfl
 rw [a9] at c1;have L1:A1[S.length]?=some (.lst ((ws.map fun _=>(0:Int)).map .int)):=by rw [<- O,D5 (O8 _),L0]; rfl
 obtain ⟨a1,U,e2,svs,ls,a4,b4,a5,hj,L2,g2⟩:=Q3h (g:=trV) (xs:=ks) (ga:=Q4 0) (me:=Kv) (w:=[]) (Γ0:=[none,some (.lst (ws.map wyV)),some (.ref S.length)]) (st:=A1)
  (fun i a1 st'=>∃ svs ls:List Int,a1=svs.map .int/\svs.length=i/\ls.length=ws.length/\J svs ls 0/\st'[S.length]?=some (.lst (ls.map .int))/\Gw (fun t=>t=S.length) A1 st')
  (fun _ _ _ _=>Jb _)
  (fun i t a1 st' hx ⟨svs,ls,ho,hs,b3,hj,hL,g⟩=>by
   subst hs;have a7:=Q.kb t (E6 hx);obtain ⟨S2,a6,sv,F2,e,k1,k2,k3,k4,k5,k6,k7,k8⟩:=Qdf wl sp (Ld:=S.length) (t:=t) (fun l s=>J svs l s) (fun ls sv a F ns ss h1 h2 h3 h4 h5 h6 h7=>by
    subst B;exact b7 svs ls sv a F ns ss t hx h1 h2 h3 h4 h5 h6 h7) ⟨by have:=a7.2.2.1; omega,a7.2.2.2⟩ b3 hj hL
   refine ⟨_,rfl,.int sv,S2,Qx (n:=3) (Q3 rfl (Q3 rfl (Q3 rfl rfl))) rfl e,svs ++ [sv],a6,by rw [ho,E3]; rfl,by rw [O7]; rfl,k2,?_,k4,g.trans k8⟩;subst B;exact b1 svs a6 sv F2 t hx k2 k3 k1 k5 k6 k7)
  ⟨[],ws.map fun _=>0,rfl,rfl,O1 _,a3,L1,Gw.refl _ _⟩
 subst a4;obtain ⟨B2,Y⟩:∃ B2,U ++ [Cell.lst (svs.map .int)]=B2:=⟨_,rfl⟩;have gB:Gw (fun _=>False) U B2:=by rw [<- Y]; exact Gw.add _ _ _
 have V2:B2[U.length]?=some (.lst (svs.map .int)):=by rw [<- Y]; exact Q1j _ _
 have lB:B2.length=U.length + 1:=by rw [<- Y,O7]; rfl
 have b9:S.length < U.length:=(O0.mp L2).1;obtain ⟨A3,D,F,e3,d3,t3,b6,g3,hD⟩:=j7 wl a5 sp (gB.at L2 id);have few:=(by subst B; exact Qg7 Q t3:(∀ v∈kys F,v=none\/∃ z,v=some z/\z.1 < xs.length/\z.2<=rs.length)/\F.length<=21);have b0:D < A3.length:=(O0.mp d3).1;have a8:(J7 stV F).map (fun kv=>hkV kv.1)=(kys F).map ndV:=by
  unfold J7;rw [E7,E7];exact F3 fun x _=>Quj x.1
 have b5:Q1n (fun kv=>hkV kv.1) A3 (.ref D)=some ((kys F).map ndV,D,J7 stV F):=by
  show (match A3[D]? with | some (.dtp kvs)=>some (kvs.map (fun kv:HK × PV=>hkV kv.1),D,kvs) | _=>none)=_
  rw [d3];show some ((J7 stV F).map (fun kv=>hkV kv.1),D,J7 stV F)=_;rw [a8]
 obtain ⟨I,a2⟩:∃ I,A3.set D (.frt (J7 stV F))=I:=⟨_,rfl⟩;have wd:wOk [(D,.frt (J7 stV F))] I:=fun x hx=>by
  have:x=(D,.frt (J7 stV F)):=by simpa using hx
  rw [this,<- a2];exact F0 b0
 have c4:=yz (ga:=Q4 0) (mt:=K8) (me:=Ku) (w:=[(D,.frt (J7 stV F))]) (Γ0:=[none]) (st:=I) (g:=ndV) (f:=ndV) (t:=fun v=>!decide (v=none)) wd (ys:=kys F) fun v _=>⟨_,rfl,Qq (Q8 rfl rfl (Qf2 I v none)),fun _=>rfl⟩
 have hi:Yq (Qd 2 Yd (Q1 (Q2 1) (Q1 (Q2 2) Q6))) [some (qV xs rs ks),some (.lst (ws.map wyV)),some (.ref S.length),some (.ref U.length),none] B2=.ok ((kys F).map ndV,[(D,.frt (J7 stV F))]) I:=by
  unfold Yq;rw [Qx (n:=2) (Q3 rfl (Q3 rfl rfl)) rfl e3,Qg,b5];show (if ((kys F).map ndV).length<=lim then Res.ok ((kys F).map ndV,[(D,Cell.frt (J7 stV F))]) (A3.set D (.frt (J7 stV F))) else .stuck)=_;rw [bN (by rw [O1,O1,Jk]; omega),a2]
 have b2:∀ v∈(kys F).filter (fun v=>!decide (v=none)),v≠none:=fun v hv=>by simpa using (List.mem_filter.mp hv).2
 have b8:∀ (l:List Nd),(∀ v∈l,v≠none)->Q0n (l.map ndV)=some (l.map ndI):=by
  intro l
  induction l with
  | nil=>intro _; rfl
  | cons v l ih=>
   intro h;have:=ih fun x hx=>h x (O4 _ hx)
   cases v with
   | none=>exact absurd rfl (h none O9)
   | some z=>
    show (Q0n (l.map ndV)).map (ndI (some z) :: ·)=_;rw [this]; rfl
 obtain ⟨B4,Z⟩:∃ B4,I ++ [Cell.lst ((X0 (((kys F).filter fun v=>!decide (v=none)).map ndI)).map js)]=B4:=⟨_,rfl⟩
 have so:Q23 I [.lst (((kys F).filter fun v=>!decide (v=none)).map ndV)]=.ok (.ref I.length) B4:=by
  rw [<- Z];unfold Q23;simp only [Q8c,b8 _ b2];rw [bN];rw [O1];have:=List.length_filter_le (fun v=>!decide (v=none)) (kys F)
  rw [O1] at this;omega
 have g4:Gw (fun t=>t=D) A3 I:=by rw [<- a2]; exact Gw.put (P:=fun t=>t=D) A3 rfl _
 have gC:Gw (fun _=>False) I B4:=by rw [<- Z]; exact Gw.add _ _ _
 have C4:B4[I.length]?=some (.lst ((X0 (((kys F).filter fun v=>!decide (v=none)).map ndI)).map js)):=by rw [<- Z]; exact Q1j _ _
 have lC:B4.length=I.length + 1:=by rw [<- Z,O7]; rfl
 have L4:B4[S.length]?=some (.lst (ls.map .int)):=gC.at (g4.at (g3.at (gB.at L2 id) id) (by show ¬ S.length=D; omega)) id;have V4:B4[U.length]?=some (.lst (svs.map .int)):=gC.at (g4.at (g3.at V2 id) (by show ¬ U.length=D; omega)) id;obtain ⟨B5,em,M5,gM⟩:=Qf6 wl (fun w hw z=>by obtain ⟨b,e1,_⟩:=(wo w hw).h; rw [z] at e1; cases e1) L4
 have h1:=g2.len;have h2:=g3.len;have h3:=g4.len;rw [<- O,O7] at h1;have gS:Gw (fun _=>False) S B5:=by
  refine ⟨by have:=gM.len; omega,fun t ht _=>?_⟩;rw [gM.keep t (by omega) id,gC.keep t (by omega) id,g4.keep t (by omega) (by omega),g3.keep t (by omega) id,gB.keep t (by omega) id,g2.keep t (by rw [<- O,O7]; omega) (by omega),<- O];exact O6 ht
 refine ⟨svs,ls,F,B5,U.length,I.length,B4.length,?_,gM.at V4 id,by rw [B]; exact M5,gM.at C4 id,gS,by omega,by omega,by omega,b4,by rw [B]; exact a5,hj,by rw [B]; exact t3,by rw [B]; exact b6⟩;exact Xb (m:=Xu) (nl:=5) (Q9 (Qt (Qx (n:=1) (Q3 rfl rfl) rfl ew)) (Q9 (Qt (Uh (W1 (K1 rfl rfl (by rw [O1]; omega)) c1))) (Q9 (Qt (Uh (W1 (K1 (Q8 rfl rfl rfl) rfl (by rw [O1]; omega)) (by rw [O]; exact e2)))) (Q9 (Qt (Zg (Q3 (K7 (W1 (by rw [Y]; exact hi) c4)) rfl) so)) (Ji (J3 (Q3 rfl (Q3 (Qx (n:=2) (Q3 rfl (Q3 rfl rfl)) rfl em) (Q3 rfl rfl))) (show 3<=1000000 by decide)))))))
abbrev K3:=Int × Int × Int
variable {e:K3 × Int} {z:K3}
def k3K (z:K3):HK:=.tup [.int z.1,.int z.2.1,.int z.2.2]
def k3V (z:K3):PV:=.tup [.int z.1,.int z.2.1,.int z.2.2]
theorem Q8d (z:K3):Q2q (k3V z)=some (k3K z):=rfl
theorem Q8e {a b:K3} (h:k3K a=k3K b):a=b:=by
 unfold k3K at h;simp at h;exact Prod.ext h.1 (Prod.ext h.2.1 h.2.2)
abbrev L3:=List (K3 × Int)
variable {G:L3}
def Qh (G:L3):List (HK × PV):=G.map fun e=>(k3K e.1,.int e.2)
def look:L3->K3->Int
 | [],_=>0
 | e :: G,z=>if e.1=z then e.2 else look G z
def Wu (G:L3) (z:K3) (k:Int):L3:=if z∈G.map (·.1) then G.map (fun e=>if e.1=z then (e.1,look G z + k) else e) else G ++ [(z,k)]
theorem Qmd:∀ (G:L3) (z:K3),Wz (Qh G) (k3K z)=if z∈G.map (·.1) then some (.int (look G z)) else none
 | [],z=>rfl
 | e :: G,z=>by
  unfold Wz Qh;rw [D3,List.find?_cons]
  by_cases q:e.1=z
  ·have h1:decide (k3K e.1=k3K z)=true:=bQ (by rw [q]);rw [h1,bN (by rw [D3,q]; exact O9),look,bN q]; rfl
  ·have h1:decide (k3K e.1=k3K z)=false:=bP fun h=>q (Q8e h)
   rw [h1];have B:=Qmd G z;unfold Wz Qh at B;rw [B,look,bO q]
   by_cases m:z∈G.map (·.1)
   ·rw [bN m,bN (by rw [D3]; exact O4 _ m)]
   ·rw [bO m,bO fun h=>by
     rw [D3] at h;rcases D8.mp h with h | h
     ·exact q h.symm
     ·exact m h]
theorem qf:∀ {G:L3} {z:K3},z∉G.map (·.1)->look G z=0
 | [],_,_=>rfl
 | e :: G,z,h=>by
  rw [D3] at h;rw [look,bO fun q=>h (by rw [q]; exact O9),qf fun m=>h (O4 _ m)]
theorem Qii (G:L3) (z:K3) (k:Int):Sm.putT (Qh G) (k3K z) (.int (look G z + k))=Qh (Wu G z k):=by
 have I:((Qh G).any fun J=>decide (J.1=k3K z))=decide (z∈G.map (·.1)):=by
  unfold Qh;rw [List.any_map]
  by_cases q:z∈G.map (·.1)
  ·rw [bQ q,List.any_eq_true];obtain ⟨e,B,rfl⟩:=D7.mp q;exact ⟨e,B,by simp⟩
  ·rw [bP q,List.any_eq_false];intro e B;have:¬ k3K e.1=k3K z:=fun h=>q (D7.mpr ⟨e,B,Q8e h⟩)
   simp [this]
 unfold Sm.putT Wu;rw [I]
 by_cases q:z∈G.map (·.1)
 ·rw [bQ q,bN rfl,bN q];unfold Qh;rw [E7,E7];refine F3 fun e _=>?_
  show (if k3K e.1=k3K z then (k3K e.1,PV.int (look G z + k)) else (k3K e.1,PV.int e.2))=(k3K (if e.1=z then (e.1,look G z + k) else e).1,PV.int (if e.1=z then (e.1,look G z + k) else e).2)
  by_cases m:e.1=z
  ·rw [bN (by rw [m]),bN m]
  ·rw [bO fun h=>m (Q8e h),bO m]
 ·rw [bP q,bO (by decide),bO q,qf q,Int.zero_add];unfold Qh;rw [E3]; rfl
theorem rd3 (h:S[D]?=some (.dtp (Qh G))):Ua S (.ref D)=some (Qh G):=by show (match S[D]? with | some (.dtp kvs)=>some kvs | some (.frt kvs)=>some kvs | _=>none)=_; rw [h]
theorem Qx7 (h:S[D]?=some (.dtp (Qh G))) (z:K3):jk S (.ref D) (k3V z) (.int 0)=.ok (.int (look G z)) S:=by
 unfold jk;rw [rd3 h,Q8d];show Res.ok ((Wz (Qh G) (k3K z)).getD (.int 0)) S=_;rw [Qmd]
 by_cases q:z∈G.map (·.1)
 ·rw [bN q]; rfl
 ·rw [bO q,qf q]; rfl
theorem Qv0 (h:S[D]?=some (.dtp (Qh G))) (B:G.length < 100000) (z:K3) (k:Int):zx S (.ref D) (k3V z) (.int (look G z + k))=some (S.set D (.dtp (Qh (Wu G z k)))):=by
 unfold zx;have hd:Q1z S (.ref D)=some (Qh G):=by show (match S[D]? with | some (.dtp kvs)=>some kvs | _=>none)=_; rw [h]
 simp only [hd,Q8d];rw [bN (by unfold Qh; rw [O1,Jk]; omega),Qii]
theorem Qk0 {mf:ME} {z:PV} {kvs:List (HK × PV)} (h1:mo Γ S=.ok p S) (h2:Ua S p=some kvs) (O:m Γ S=.ok k S) (U:mf Γ S=.ok z S) (J:jk S p k z=r):Q09 mo m mf Γ S=r:=by
 rw [Q89,h1,Qg,h2];show ((m Γ S).bind fun k I=>(mf Γ I).bind fun z B=>jk B p k z)=_
 rw [O,Qg,U,Qg,J]
def mK (m:Mv4):K3:=(m.t,m.i,m.j)
def ldm (ms:List Mv4):L3:=ms.foldl (fun G m=>Wu G (mK m) m.k) []
theorem Qe0 (G:L3) (z:K3) (k:Int):(Wu G z k).length<=G.length + 1:=by
 unfold Wu
 split
 ·rw [O1]; omega
 ·rw [O7]; exact O8 _
theorem Qjv (ms:List Mv4) (m:Mv4):ldm (ms ++ [m])=Wu (ldm ms) (mK m) m.k:=by unfold ldm; rw [List.foldl_append]; rfl
theorem Q9z (ms:List Mv4):(ldm ms).length<=ms.length:=by
 have:∀ (ms:List Mv4) (G:L3),(ms.foldl (fun G m=>Wu G (mK m) m.k) G).length<=G.length + ms.length:=by
  intro ms
  induction ms with
  | nil=>intro G; exact O8 _
  | cons m ms B=>
   intro G;have h1:=B (Wu G (mK m) m.k);have h2:=Qe0 G (mK m) m.k;rw [List.foldl_cons,E4];omega
 have:=this ms [];rw [List.length_nil,Nat.zero_add] at this;exact this
theorem Q73 {o o':OP} {a b c:ME} {r:PV} {u v:Bool} (h1:a Γ S=.ok p S) (h2:b Γ S=.ok q S) (J:o S p q=.ok (.bl u) S) (O:c Γ S=.ok r S) (I:o' S q r=.ok (.bl v) S):Vz o o' a b c Γ S=.ok (.bl (u && v)) S:=by
 rw [Qbm,h1,Qg,h2,Qg,J,Qg];cases u with
 | true=>show ((c Γ S).bind fun z B=>o' B q z)=_; rw [O,Qg,I]; rfl
 | false=>rfl
theorem Qcj {a b:ME} {xs ys:List PV} {w B:Wt} (h1:a Γ S=.ok p S) (h2:b Γ S=.ok q S) (J:Zc S p=some (xs,w)) (I:Zc S q=some (ys,B)) (O:xs.length<=1000000):yk (Q1 a (Q1 b Q6)) Γ S=.ok (Xf xs ys,w ++ B) S:=by
 unfold yk;rw [Q3 h1 (Q3 h2 rfl),Qg];show (match Zc S p,Zc S q with | some (xs,w),some (ys,B)=>if xs.length<=lim then Res.ok (Xf xs ys,w ++ B) S else .stuck | _,_=>.stuck)=_
 rw [J,I];show (if xs.length<=lim then Res.ok (Xf xs ys,w ++ B) S else .stuck)=_;rw [bN (by rw [Jk]; exact O)]
theorem Qs5 {β:Type} (f:α->PV) (g:β->PV) (xs:List α) (ys:List β):Xf (xs.map f) (ys.map g)=(xs.zip ys).map fun z=>.tup [f z.1,g z.2]:=by
 rw [jp,List.zip_map,E7]; rfl
theorem Qk5 {T:Q0} (g:Qz 12 v=true):fin S v (S ++ T)=.ok v S:=by
 unfold fin;rw [bN (List.prefix_append S T),zw g (by decide)]; rfl
theorem Qq5 (l:List α) (b:α->Bool):(l.map fun x=>PV.bl (b x))=(l.map b).map .bl:=by rw [E7]; rfl
def Qhw (ks:List Tr) (sv:List Int):Bool:=decide (sv.length=ks.length) && (ks.zip sv).all fun z=>decide (0<=z.2) && decide (z.2<=z.1.2)
theorem Qq2 (S:Q0) (a b:Nat):oNe S (.int (a:Int)) (.int (b:Int))=.ok (.bl (!decide (a=b))) S:=by
 rw [Q9q]
 by_cases h:a=b
 ·subst h; simp
 ·have:¬ (a:Int)=b:=by omega
  simp [h,this]
def isR (i j:Int) (z:Tr):Bool:=((z.1.1:Int) == i) && (((z.1.2:Int) == j) && true)
def xw (rs:List (List Tr)) (t i j:Int):List Int:=((rs.getD t.toNat []).filter (isR i j)).map (·.2)
def Q6d (rs:List (List Tr)) (t i j:Int):Int:=if 0<=t/\t < rs.length then (xw rs t i j).sum else 0
theorem Qqp (i j:Int) (z:Tr) {ma mb mc:ME} (h1:ma Γ S=.ok (trV z) S) (h2:mb Γ S=.ok (.int i) S) (B:mc Γ S=.ok (.int j) S):toB (mOp oEq (mSl ma Yz (K2 (mC (.int 2)))) (Z5 (Q1 mb (Q1 mc Q6)))) Γ S=.ok (isR i j z) S:=
 Qq (Q8 (x:=.tup [.int z.1.1,.int z.1.2]) (S1:=S) (by rw [Qfc,h1,Qg]; rfl) (J3 (Q3 h2 (Q3 B rfl)) (show 2<=1000000 by decide)) rfl)
theorem Qua {t:Int} (h:0<=t/\t < rs.length) (S:Q0):oIx S (.tup (rs.map tsV)) (.int t)=.ok (tsV (rs.getD t.toNat [])) S:=by
 obtain ⟨k,rfl⟩:∃ k:Nat,t=k:=⟨t.toNat,by omega⟩;show okO S (atI (rs.map tsV) (k:Int))=_;rw [Xw tsV [] rs (by omega),Int.toNat_natCast]; rfl
theorem Qqr (rs:List (List Tr)) (t:Int) {ma mb:ME} (h1:ma Γ S=.ok (.int t) S) (h2:mb Γ S=.ok (.tup (rs.map tsV)) S):Yh (toB (Vz (oI fun a b=>.bl (decide (a<=b))) oLt (mC (.int 0)) ma (Qj Y3 (Q1 mb Q6)))) Γ S=.ok (!decide (0<=t/\t < rs.length)) S:=by
 have:=Xq (Qq (Q73 (o:=oI fun a b=>.bl (decide (a<=b))) (o':=oLt) (a:=mC (.int 0)) (Γ:=Γ) (S:=S) rfl h1 rfl (c:=Qj Y3 (Q1 mb Q6)) (Zg (Q3 h2 rfl) (by rw [Kx,O1])) (Q6k S t rs.length)))
 rw [<- Bool.decide_and] at this;exact this
theorem Qmi (Q:Qok xs rs ks) (t:Nat):(rs.getD t []).length<=100:=by
 rw [O3]
 by_cases h:t < rs.length
 ·rw [O2 h]; exact (Q.rb _ (F7 h)).len
 ·rw [G8 (by omega)]; exact M9 _
def Qaf (rs:List (List Tr)) (ms:List Mv4):Bool:=!(ms.any fun m=>decide (m.k < 1)) && (ldm ms).all fun e=>decide (e.2<=Q6d rs e.1.1 e.1.2.1 e.1.2.2)
theorem Q6n {xs:List PV} (h1:m Γ S=.ok p S) (h2:Zu S p=some xs):Km m Γ S=.ok xs S:=by
 unfold Km;rw [h1,Qg,h2]
def tkG (mom:Nat) (has:List Int) (zs:List (Tr × Int)):List Int:=zs.foldl (fun h z=>if z.1.1.1=mom then Xc h (z.1.1.2:Nat) (-z.2) else h) has
theorem Q40 (B:Nat):∀ (zs:List (Tr × Int)) (has:List Int),(tkG B has zs).length=has.length
 | [],_=>rfl
 | z :: zs,has=>by
  show (tkG B (if z.1.1.1=B then Xc has (z.1.1.2:Nat) (-z.2) else has) zs).length=_;rw [Q40 B zs]
  split
  ·exact W3 _ _ _
  ·rfl
theorem Quz (S:Q0) (a b:Nat):oEq S (.int (a:Int)) (.int (b:Int))=.ok (.bl (decide (a=b))) S:=by
 rw [Q4i]
 by_cases h:a=b
 ·subst h; simp
 ·have:¬ (a:Int)=b:=by omega
  simp [h,this]
theorem Qmw (h1:1<=xs.length) (I:xs.length<=6) (O:∀ x∈xs,0<=x/\x<=1000000) (st:Q0):Y6 [.tup (xs.map .int)] st=.ok (.bl true) st:=by
 have:=Qd1 (zs:=xs.map fun x=>(.int x,true)) (st:=st) (by rw [O1]; exact h1) (by rw [O1]; exact I) (fun z hz=>by
  obtain ⟨x,B,rfl⟩:=D7.mp hz;have J:=O x B;have:=Xz x 0 1000000 st;rw [show (decide ((0:Int)<=x) && decide (x<=1000000))=true by simp; omega] at this;exact this)
 rw [E7,E7] at this;rw [show xs.map PV.int=xs.map (Prod.fst ∘ fun x=>(PV.int x,true)) from rfl,this]
 congr 2;rw [List.all_map,F5];intro x _;rfl
theorem Qmh (h:TsOk n ts) (st:Q0):Qi [.int n,tsV ts] st=.ok (.bl true) st:=by
 have:=Qpy h.ok (by have:=h.len; omega) st;rw [Q9c h.inc] at this;exact this
theorem Qp1 (I:rs.length<=10) (h:∀ ts∈rs,TsOk n ts) (st:Q0):Qs [.int n,.tup (rs.map tsV)] st=.ok (.bl true) st:=by
 have:=Qiw (n:=n) (zs:=rs.map fun ts=>(tsV ts,true)) (st:=st) (by rw [O1]; exact I) (fun z hz=>by
  obtain ⟨ts,B,rfl⟩:=D7.mp hz;exact Qmh (h ts B) st)
 rw [E7,E7] at this;rw [show rs.map tsV=rs.map (Prod.fst ∘ fun ts=>(tsV ts,true)) from rfl,this]
 congr 2;rw [List.all_map,F5];intro x _;rfl
theorem Qmm {r:Nat} {t:Tr} (h:Qkk n r t) (st:Q0):Zk [.int n,.int r,trV t] st=.ok (.bl true) st:=by
 obtain ⟨h1,h2,O,U⟩:=h;have I:=Xz (t.1.2:Int) 0 ((n:Int) - 1) st;have B:=Xz (t.1.1:Int) 0 r st;have J:=Xz t.2 1 1000000 st;rw [show (decide ((0:Int)<=(t.1.2:Int)) && decide ((t.1.2:Int)<=(n:Int) - 1))=true by simp; omega] at I;rw [show (decide ((0:Int)<=(t.1.1:Int)) && decide ((t.1.1:Int)<=(r:Int)))=true by simp; omega] at B;rw [show (decide ((1:Int)<=t.2) && decide (t.2<=1000000))=true by simp; omega] at J;exact Qhq I B J
theorem Qmk {r:Nat} (h:∀ t∈ks,Qkk n r t) (I:ks.length<=20) (st:Q0):Jg [.int n,.int r,.tup (ks.map trV)] st=.ok (.bl true) st:=by
 have:=Q7f (n:=n) (r:=r) (zs:=ks.map fun t=>(trV t,true)) (st:=st) (by rw [O1]; exact I) (fun z hz=>by
  obtain ⟨t,B,rfl⟩:=D7.mp hz;exact Qmm (h t B) st)
 rw [E7,E7] at this;rw [show ks.map trV=ks.map (Prod.fst ∘ fun t=>(trV t,true)) from rfl,this]
 congr 2;rw [List.all_map,F5];intro x _;rfl
theorem Qt3 (q:Qok xs rs ks) (st:Q0):Z9 [qV xs rs ks] st=.ok (.bl true) st:=by
 have h1:=Qmw q.x1 (by have:=q.x4; omega) q.xb st;have h2:=Qp1 (by have:=q.r4; omega) q.rb st;have B:=Qmk q.kb (by have:=q.k5; omega) st;refine Qnr h1 ?_ ?_
 ·rw [O1]; exact h2
 ·rw [O1,O1]; exact B
theorem Qgv {m:MS} {B:Gam} (h:m (ps.map some ++ List.replicate (nl - ps.length) none) S=.nx B S):Qk m nl ps S=.ok .non S:=by unfold Qk; rw [h]; exact Qk3 S
theorem Q6c (q:Qok xs rs ks) (S:Q0):J9 [qV xs rs ks] S=.ok .non S:=
 Qgv (m:=V3) (nl:=1) (Ya (Xq (Qq (Qx (n:=1) (Q3 rfl rfl) rfl (Qt3 q S)))) rfl)
theorem Qfu {g:List Int->Option PV} {a:Nat} {ns:List Int} (h:S[a]?=some (.lst (ns.map .int))):Zj g S [.ref a]=okO S (g ns):=by
 have:Zu S (.ref a)=some (ns.map .int):=Jc h;simp only [Zj,this,Option.bind_some,zr]
theorem Qkc (Q:Qok xs rs ks) (J:List Int->List Int->Int->Prop) (O:J [] ((wsQ xs rs).map fun _=>0) 0) (I:∀ (svs ls:List Int) (sv a:Int) (F:Fd) (ns:List Nd) (ss:List (Nat × Bool)) (t:Tr),ks[svs.length]?=some t->ls.length=(wsQ xs rs).length->J svs ls sv->FT (wsQ xs rs) ls F->Pt (wsQ xs rs) ls F (some (t.1.2,t.1.1)) ns ss->1<=a->(∀ s∈ss,a<=room (wsQ xs rs) ls s)->a<=t.2 - sv->J svs (push a ls ss) (sv + a)) (U:∀ (svs ls:List Int) (sv:Int) (F:Fd) (t:Tr),ks[svs.length]?=some t->ls.length=(wsQ xs rs).length->J svs ls sv->sv<=t.2->FT (wsQ xs rs) ls F->(∀ u∈kys F,Cld (wsQ xs rs) ls F u)->(sv=t.2\/some (t.1.2,t.1.1)∉kys F)->J (svs ++ [sv]) ls 0) (S:Q0):∃ svs ls F,Q2c [qV xs rs ks] S=.ok (.tup [.int svs.sum,.tup [.lst ((mvs (wsQ xs rs) ls).map mvV),.lst (svs.map .int)],.lst ((X0 (((kys F).filter fun v=>!decide (v=none)).map ndI)).map js)]) S/\svs.length=ks.length/\ls.length=(wsQ xs rs).length/\J svs ls 0/\FT (wsQ xs rs) ls F/\∀ u∈kys F,Cld (wsQ xs rs) ls F u:=by
 obtain ⟨svs,ls,F,B,a,c,m,e,v1,v2,v3,g,b1,b2,b3,h⟩:=Qhc Q J O I U S;refine ⟨svs,ls,F,?_,h⟩;have Y:=Q9 (a:=Yj (Qd 1 J9 (Q1 (Q2 0) Q6))) (Γ:=[some (qV xs rs ks),none]) (Q8j (Qx (n:=1) (Q3 rfl rfl) rfl (Q6c Q S))) (Q9 (a:=Qu 1 (Qd 1 Zr (Q1 (Q2 0) Q6))) (Qt (Qx (n:=1) (Q3 rfl rfl) rfl e)) (Ji (m:=Z5 (Q1 (Qj (Zj fun ns=>some (.int ns.sum)) (Q1 (mOp oIx (Q2 1) (mC (.int 0))) Q6)) (Q1 (Z5 (Q1 (mOp oIx (Q2 1) (mC (.int 1))) (Q1 (mOp oIx (Q2 1) (mC (.int 0))) Q6))) (Q1 (mOp oIx (Q2 1) (mC (.int 2))) Q6)))) (J3 (Q3 (Zg (Q3 (Q8 rfl rfl rfl) rfl) (Qfu v1)) (Q3 (J3 (Q3 (Q8 rfl rfl rfl) (Q3 (Q8 rfl rfl rfl) rfl)) (Nat.le_of_ble_eq_true rfl)) (Q3 (Q8 rfl rfl rfl) rfl))) (Nat.le_of_ble_eq_true rfl))))
 refine (Zv Y).trans ?_;unfold fin;rw [bN (Qe7 g)];have z:∀ {i:Nat} {l:List PV} (k:Nat),B[i]?=some (.lst l)->S.length<=i->Qz 12 (.lst l)=true->fz S.length B (k + 13) (.ref i)=some (.lst l):=fun {i l} k h1 h2 h3=>by
  have:fz S.length B (k + 13) (.ref i)=fz S.length B (k + 13) (.lst l):=by simp only [fz,bO (show ¬ i < S.length by omega),h1]
  rw [this,zw h3 (by omega)]
 have z1:=z 1 v2 (by omega) (by simp [Qz,mvV,js]);have Z:=z 1 v1 (by omega) (by simp [Qz]);have z3:=z 2 v3 (by omega) (by simp [Qz,js]);simp only [fz,fzL] at z1 Z z3 ⊢;rw [z1,Z,z3]; rfl
theorem Q6x (Q:Qok xs rs ks) (J:List Int->List Int->Int->Prop) (O:J [] ((wsQ xs rs).map fun _=>0) 0) (I:∀ (svs ls:List Int) (sv a:Int) (F:Fd) (ns:List Nd) (ss:List (Nat × Bool)) (t:Tr),ks[svs.length]?=some t->ls.length=(wsQ xs rs).length->J svs ls sv->FT (wsQ xs rs) ls F->Pt (wsQ xs rs) ls F (some (t.1.2,t.1.1)) ns ss->1<=a->(∀ s∈ss,a<=room (wsQ xs rs) ls s)->a<=t.2 - sv->J svs (push a ls ss) (sv + a)) (Y:∀ (svs ls:List Int) (sv:Int) (F:Fd) (t:Tr),ks[svs.length]?=some t->ls.length=(wsQ xs rs).length->J svs ls sv->sv<=t.2->FT (wsQ xs rs) ls F->(∀ u∈kys F,Cld (wsQ xs rs) ls F u)->(sv=t.2\/some (t.1.2,t.1.1)∉kys F)->J (svs ++ [sv]) ls 0) (S:Q0):∃ svs ls B a m b,Zh [qV xs rs ks] S=.ok (.tup [.ref a,.tup [.ref m,.ref b]]) B/\B[a]?=some (.lst (svs.map .int))/\B[m]?=some (.lst ((mvs (wsQ xs rs) ls).map mvV))/\B[b]?=some (.lst (svs.map .int))/\Gw (fun _=>False) S B/\S.length<=a/\a < m/\m < b/\svs.length=ks.length/\ls.length=(wsQ xs rs).length/\J svs ls 0:=by
 obtain ⟨svs,ls,F,B,a,c,m,e,v1,Z,v3,g,b1,b2,b3,h1,h2,h3,_⟩:=Qhc Q J O I Y S;have hm:=(O0.mp Z).1;have U:Gw (fun _=>False) B (B ++ [.lst (svs.map .int)]):=Gw.add _ _ _;exact ⟨svs,ls,B ++ [.lst (svs.map .int)],a,m,B.length,Xb (m:=Vx) (nl:=2) (Q9 (Q8j (Qx (n:=1) (Q3 rfl rfl) rfl (Q6c Q S))) (Q9 (Qt (Qx (n:=1) (Q3 rfl rfl) rfl e)) (Ji (J3 (Q3 (Q8 rfl rfl rfl) (Q3 (J3 (Q3 (Q8 rfl rfl rfl) (Q3 (Uh (Q6n (Q8 rfl rfl rfl) (Jc v1))) rfl)) (Nat.le_of_ble_eq_true rfl)) rfl)) (Nat.le_of_ble_eq_true rfl))))),U.at v1 id,U.at Z id,Q1j _ _,g.trans U,b1,by omega,hm,h1,h2,h3⟩
theorem Q4k (Q:Qok xs rs ks) (ls:List Int):(∀ m∈mvs (wsQ xs rs) ls,InN xs.length m)/\(mvs (wsQ xs rs) ls).length<=500:=by
 refine ⟨fun m O=>?_,?_⟩
 ·obtain ⟨⟨w,l⟩,hz,ho⟩:=List.mem_filterMap.mp O;have J:=(List.of_mem_zip hz).1;obtain ⟨b,B,e2,_,I⟩:=(Q78 Q w J).h;obtain ⟨u,v,c⟩:=w;cases u with
  | none=>cases ho
  | some a=>
   rcases I with I | ⟨Z,U,Y,_⟩
   ·cases I
   ·cases U;have B:v=some b:=B;subst B;unfold mvO at ho;simp only at ho
    split at ho
    ·cases ho;exact ⟨⟨by show (0:Int)<=(a.1:Int); omega,by show (a.1:Int) < _; omega⟩,by show (0:Int)<=(b.1:Int); omega,by show (b.1:Int) < _; omega⟩
    ·cases ho
 ·have h1:=List.length_filterMap_le mvO ((wsQ xs rs).zip ls);rw [List.length_zip] at h1;have h2:=Q3v Q;show ((wsQ xs rs).zip ls |>.filterMap mvO).length<=500;omega
theorem Q5f {st st':Q0} {D:Nat} {k0 kvs:List (HK × PV)} (h1:st[D]?=some (.dtp k0)) (h2:st'[D]?=some (.frt kvs)) (I:∀ n,n≠D->∀ a b,st[n]?=some (.dtp a)->st'[n]?=some (.frt b)->False):∀ m,thawT st st' m=if D < m then st'.set D (.dtp kvs) else st'
 | 0=>rfl
 | m + 1=>by
  have O:=Q5f h1 h2 I m;rw [thawT,O]
  by_cases q:m=D
  ·subst q;rw [bO (by omega),bN (by omega),h1,h2]
  ·by_cases p:D < m
   ·rw [bN p,bN (by omega)]
    split
    ·rename_i a b J B;rw [E5 (fun z=>q z.symm)] at B;exact (I m q a b J B).elim
    ·rfl
   ·rw [bO p,bO (by omega)]
    split
    ·rename_i a b J B;exact (I m q a b J B).elim
    ·rfl
theorem Q94 {m:MS} {B:Gam} {st':Q0} (h:m Γ st=.nx B st'):V6 m Γ st=.nx B (thawT st st' st.length):=by unfold V6; rw [h]
theorem Qhp {m:MS} {st':Q0} (h:m Γ st=.rt v st'):V6 m Γ st=.rt v st':=by unfold V6; rw [h]
theorem Qm1 {T:Q0} (O:G.length<=5000) (h:m Γ (S ++ .dtp (Qh G) :: T)=.ok (.ref S.length) (S ++ .dtp (Qh G) :: T)):Yq m Γ (S ++ .dtp (Qh G) :: T)=.ok (G.map fun e=>k3V e.1,[(S.length,.frt (Qh G))]) (S ++ .frt (Qh G) :: T):=by
 unfold Yq;rw [h,Qg];have J:(S ++ Cell.dtp (Qh G) :: T)[S.length]?=some (.dtp (Qh G)):=by rw [D5 (O8 _),L0]; rfl
 have I:Q1n (fun B=>hkV B.1) (S ++ .dtp (Qh G) :: T) (.ref S.length)=some (G.map fun e=>k3V e.1,S.length,Qh G):=by
  show (match (S ++ Cell.dtp (Qh G) :: T)[S.length]? with | some (.dtp kvs)=>some (kvs.map (fun B:HK × PV=>hkV B.1),S.length,kvs) | _=>none)=_
  rw [J];show some ((Qh G).map (fun B:HK × PV=>hkV B.1),S.length,Qh G)=_;unfold Qh;rw [E7]; rfl
 rw [I];show (if (G.map fun e=>k3V e.1).length<=lim then Res.ok (G.map (fun e=>k3V e.1),[(S.length,Cell.frt (Qh G))]) ((S ++ Cell.dtp (Qh G) :: T).set S.length (.frt (Qh G))) else .stuck)=_;rw [bN (by rw [O1,Jk]; omega),List.set_append_right _ _ (O8 _),L0]; rfl
theorem Q9s (S T:Q0) (c:Cell):(S ++ c :: T)[S.length]?=some c:=by rw [D5 (O8 _),L0]; rfl
theorem Qmc (G:L3) (S T:Q0):wOk [(S.length,.frt (Qh G))] (S ++ .frt (Qh G) :: T):=fun x B=>by
 have:x=(S.length,.frt (Qh G)):=by simpa using B
 rw [this]; exact Q9s S T _
theorem Qkp {T T':Q0} (O:∀ (n:Nat) kvs,T'[n]?≠some (Cell.frt kvs)):thawT (S ++ .dtp (Qh G) :: T) (S ++ .frt (Qh G) :: T') (S ++ .dtp (Qh G) :: T).length=S ++ .dtp (Qh G) :: T':=by
 rw [Q5f (Q9s S T _) (Q9s S T' _) (fun n U a b I B=>?_),bN (by rw [O7,E4]; omega),List.set_append_right _ _ (O8 _),L0]; rfl
 by_cases q:n < S.length
 ·rw [O6 q] at I B;rw [I] at B; cases B
 ·rw [D5 (by omega)] at B;obtain ⟨k,J⟩:∃ k,n - S.length=k + 1:=⟨n - S.length - 1,by omega⟩;rw [J,List.getElem?_cons_succ] at B;exact O _ _ B
theorem Q9x:∀ {G:L3} {e:K3 × Int},(G.map (·.1)).Nodup->e∈G->look G e.1=e.2
 | x :: G,e,nd,B=>by
  rw [D3] at nd;obtain ⟨h1,h2⟩:=L5.mp nd;rcases D8.mp B with rfl | B
  ·rw [look,bN rfl]
  ·rw [look,bO fun z=>h1 (by rw [z]; exact D7.mpr ⟨e,B,rfl⟩)]
   exact Q9x h2 B
theorem Q9g (nd:(G.map (·.1)).Nodup) (z:K3) (k:Int):((Wu G z k).map (·.1)).Nodup:=by
 unfold Wu
 split
 ·rw [E7,show ((fun x:K3 × Int=>x.1) ∘ fun e=>if e.1=z then (e.1,look G z + k) else e)=fun x:K3 × Int=>x.1 from funext fun x=>by show (if x.1=z then (x.1,look G z + k) else x).1=_; split <;> rfl]
  exact nd
 ·rename_i q;rw [E3];refine List.nodup_append.mpr ⟨nd,by simp,fun a B c I e=>?_⟩;have:c=z:=by simpa using I
  exact q (by rw [<- this,<- e]; exact B)
theorem Qfj (ms:List Mv4):((ldm ms).map (·.1)).Nodup:=by
 have:∀ (ms:List Mv4) (G:L3),(G.map (·.1)).Nodup->((ms.foldl (fun G m=>Wu G (mK m) m.k) G).map (·.1)).Nodup:=by
  intro ms
  induction ms with
  | nil=>exact fun G h=>h
  | cons m ms B=>exact fun G h=>B _ (Q9g h _ _)
 exact this ms [] List.nodup_nil
theorem Qg1 {T:Q0} (nd:(G.map (·.1)).Nodup) (B:e∈G):xm (S ++ .frt (Qh G) :: T) (.ref S.length) (k3V e.1)=.ok (.int e.2) (S ++ .frt (Qh G) :: T):=by
 unfold xm;have I:Ua (S ++ .frt (Qh G) :: T) (.ref S.length)=some (Qh G):=by show (match (S ++ Cell.frt (Qh G) :: T)[S.length]? with | some (.dtp kvs)=>some kvs | some (.frt kvs)=>some kvs | _=>none)=_; rw [Q9s]
 rw [I,Q8d];show (match Wz (Qh G) (k3K e.1) with | some v=>Res.ok v _ | none=>.stuck)=_
 rw [Qmd,bN (D7.mpr ⟨e,B,rfl⟩),Q9x nd B]
abbrev pG (q Vm Vs s r k:PV) (a6 a7 a8 a9 a10 a11 a12 a13 a14 a15:Option PV):Gam:=[some q,some Vm,some Vs,some s,some r,some k,a6,a7,a8,a9,a10,a11,a12,a13,a14,a15]
def okM (rs:List (List Tr)) (m:Mv4):Bool:=decide (0<=m.t/\m.t < rs.length) && !decide (m.k < 1)
def rmB (rs:List (List Tr)) (e:K3 × Int):Bool:=match xw rs e.1.1 e.1.2.1 e.1.2.2 with
 | []=>false
 | r :: _=>!decide (r < e.2)
theorem Q0a (ms:List Mv4):∀ e∈ldm ms,∃ m∈ms,e.1=mK m:=by
 have:∀ (ms:List Mv4) (G:L3),∀ e∈ms.foldl (fun G m=>Wu G (mK m) m.k) G,(∃ m∈ms,e.1=mK m)\/∃ O∈G,e.1=O.1:=by
  intro ms
  induction ms with
  | nil=>exact fun G e I=>.inr ⟨e,I,rfl⟩
  | cons m ms J=>
   intro G e I;rcases J _ e I with ⟨x,B,q⟩ | ⟨x,B,q⟩
   ·exact .inl ⟨x,O4 _ B,q⟩
   ·have B:x∈Wu G (mK m) m.k:=B;unfold Wu at B
    split at B
    ·obtain ⟨y,U,rfl⟩:=D7.mp B;refine .inr ⟨y,U,q.trans ?_⟩
     split <;> rfl
    ·rcases D4.mp B with B | B
     ·exact .inr ⟨x,B,q⟩
     ·have:x=(mK m,m.k):=by simpa using B
      subst this;exact .inl ⟨m,O9,q⟩
 intro e I;rcases this ms [] e I with h | ⟨x,B,_⟩
 ·exact h
 ·cases B
theorem Qm3 {rs:List (List Tr)} {q Vm Vs s k:PV} {S:Q0} {w:Wt} (hw:∀ T,wOk w (S ++ T)) (I J O U Y:Option PV):∀ (ms pre:List Mv4) (a7 a8 a9 Z:Option PV),pre.length + ms.length<=5000 ->
  (ms.all (okM rs)=true->∃ b7 b8 b9 a3,Jw (Qv (Q5 (Q4 7) (Q5 (Q4 8) (Q5 (Q4 9) (Q5 (Q4 10) Qw))))) Je w (ms.map mvV) (pG q Vm Vs s (.tup (rs.map tsV)) k (some (.ref S.length)) a7 a8 a9 Z I J O U Y) (S ++ [.dtp (Qh (ldm pre))])=.nx (pG q Vm Vs s (.tup (rs.map tsV)) k (some (.ref S.length)) b7 b8 b9 a3 I J O U Y) (S ++ [.dtp (Qh (ldm (pre ++ ms)))])) /\
  (ms.all (okM rs)=false->∃ T,Jw (Qv (Q5 (Q4 7) (Q5 (Q4 8) (Q5 (Q4 9) (Q5 (Q4 10) Qw))))) Je w (ms.map mvV) (pG q Vm Vs s (.tup (rs.map tsV)) k (some (.ref S.length)) a7 a8 a9 Z I J O U Y) (S ++ [.dtp (Qh (ldm pre))])=.rt (.bl false) (S ++ T))
 | [],pre,a7,a8,a9,Z,_=>⟨fun _=>⟨a7,a8,a9,Z,by rw [G7]; exact U4 (hw _)⟩,fun z=>by cases z⟩
 | m :: ms,pre,a7,a8,a9,Z,hl=>by
  rw [E4] at hl;have c1:=Qqr rs m.t (Γ:=pG q Vm Vs s (.tup (rs.map tsV)) k (some (.ref S.length)) (some (.int m.t)) (some (.int m.i)) (some (.int m.j)) (some (.int m.k)) I J O U Y) (S:=S ++ [.dtp (Qh (ldm pre))]) (ma:=Q2 7) (mb:=Q2 4) rfl rfl;have c2:=Qq (Q8 (o:=oLt) (a:=Q2 10) (b:=mC (.int 1)) (Γ:=pG q Vm Vs s (.tup (rs.map tsV)) k (some (.ref S.length)) (some (.int m.t)) (some (.int m.i)) (some (.int m.j)) (some (.int m.k)) I J O U Y) rfl rfl (Q6k (S ++ [.dtp (Qh (ldm pre))]) m.k 1));rw [List.all_cons];have a4:∀ {T:MT} {B:MS},T (pG q Vm Vs s (.tup (rs.map tsV)) k (some (.ref S.length)) (some (.int m.t)) (some (.int m.i)) (some (.int m.j)) (some (.int m.k)) I J O U Y) (S ++ [.dtp (Qh (ldm pre))])=.ok true (S ++ [.dtp (Qh (ldm pre))])->Qc (Zp T (J0 (mC (.bl false))) J8) B (pG q Vm Vs s (.tup (rs.map tsV)) k (some (.ref S.length)) (some (.int m.t)) (some (.int m.i)) (some (.int m.j)) (some (.int m.k)) I J O U Y) (S ++ [.dtp (Qh (ldm pre))])=.rt (.bl false) (S ++ [.dtp (Qh (ldm pre))]):=fun h=>Xh (ji h (Ji rfl))
  by_cases h1:0<=m.t/\m.t < rs.length
  ·rw [bQ h1] at c1
   by_cases h2:m.k < 1
   ·rw [bQ h2] at c2;have ho:okM rs m=false:=by unfold okM; rw [bQ h2]; simp
    rw [ho];exact ⟨fun z=>(by cases z),fun _=>⟨_,Q4w (hw _) rfl (a4 (Q2h c1 c2))⟩⟩
   ·rw [bP h2] at c2;have ho:okM rs m=true:=by unfold okM; rw [bQ h1,bP h2]; rfl
    rw [ho,Bool.true_and];have hd:=Q1j S (.dtp (Qh (ldm pre)));have dl:=Q9z pre;have a2:=Qv0 hd (by omega) (mK m) m.k;rw [Qde,<- Qjv] at a2;have a1:Je (pG q Vm Vs s (.tup (rs.map tsV)) k (some (.ref S.length)) (some (.int m.t)) (some (.int m.i)) (some (.int m.j)) (some (.int m.k)) I J O U Y) (S ++ [.dtp (Qh (ldm pre))])=.nx (pG q Vm Vs s (.tup (rs.map tsV)) k (some (.ref S.length)) (some (.int m.t)) (some (.int m.i)) (some (.int m.j)) (some (.int m.k)) I J O U Y) (S ++ [.dtp (Qh (ldm (pre ++ [m])))]):=
     Q9 (Ya (Q2h c1 c2) rfl) (Q3a (Q8 (Qk0 rfl (rd3 hd) (J3 (Q3 rfl (Q3 rfl (Q3 rfl rfl))) (show 3<=1000000 by decide)) rfl (Qx7 hd (mK m))) rfl (Q2u _ _ _)) rfl (J3 (Q3 rfl (Q3 rfl (Q3 rfl rfl))) (show 3<=1000000 by decide)) a2)
    obtain ⟨i1,i2⟩:=Qm3 hw I J O U Y ms (pre ++ [m]) (some (.int m.t)) (some (.int m.i)) (some (.int m.j)) (some (.int m.k)) (by rw [O7]; simp; omega);refine ⟨fun z=>?_,fun z=>?_⟩
    ·obtain ⟨b7,b8,b9,a3,e⟩:=i1 z;exact ⟨b7,b8,b9,a3,by rw [N4] at e; exact Wq (hw _) rfl a1 e⟩
    ·obtain ⟨T,e⟩:=i2 z;exact ⟨T,Wq (hw _) rfl a1 e⟩
  ·rw [bP h1] at c1;have ho:okM rs m=false:=by unfold okM; rw [bP h1]; rfl
   rw [ho];exact ⟨fun z=>(by cases z),fun _=>⟨_,Q4w (hw _) rfl (a4 (Qtj c1))⟩⟩
theorem Qqz (S:Q0) (l:List Int):oEq S (.lst (l.map .int)) (.lst [])=.ok (.bl l.isEmpty) S:=by
 cases l with
 | nil=>rfl
 | cons a l=>
  show (if Qz dep (.lst ((a :: l).map .int))=true/\Qz dep (.lst [])=true then Res.ok (PV.bl (peq (.lst ((a :: l).map .int)) (.lst []))) S else .stuck)=_;rw [bN ⟨by simp [Qz,dep],rfl⟩];simp [peq,peqL]
theorem Qui {q Vm Vs s k:PV} {S:Q0} {G':L3} (nd:(G.map (·.1)).Nodup) (hs:∀ e∈G',e∈G) (ht:∀ e∈G',0<=e.1.1/\e.1.1 < rs.length) (hr:∀ t,(rs.getD t []).length<=100) (a7 a8 a9 Y a1 B I O U:Option PV) :
  (G'.all (rmB rs)=true->∃ b7 b8 b9 Z,Jw (Qv (Q5 (Q4 7) (Q5 (Q4 8) (Q5 (Q4 9) Qw)))) Jd [(S.length,.frt (Qh G))] (G'.map fun e=>k3V e.1) (pG q Vm Vs s (.tup (rs.map tsV)) k (some (.ref S.length)) a7 a8 a9 Y a1 B I O U) (S ++ [.frt (Qh G)])=.nx (pG q Vm Vs s (.tup (rs.map tsV)) k (some (.ref S.length)) b7 b8 b9 Y Z B I O U) (S ++ [.frt (Qh G)])) /\
  (G'.all (rmB rs)=false->Jw (Qv (Q5 (Q4 7) (Q5 (Q4 8) (Q5 (Q4 9) Qw)))) Jd [(S.length,.frt (Qh G))] (G'.map fun e=>k3V e.1) (pG q Vm Vs s (.tup (rs.map tsV)) k (some (.ref S.length)) a7 a8 a9 Y a1 B I O U) (S ++ [.frt (Qh G)])=.rt (.bl false) (S ++ [.frt (Qh G)])):=by
 obtain ⟨i1,i2⟩:=xk (g:=fun e:K3 × Int=>k3V e.1) (J:=fun Γ=>∃ b7 b8 b9 Z,Γ=pG q Vm Vs s (.tup (rs.map tsV)) k (some (.ref S.length)) b7 b8 b9 Y Z B I O U) (Pd:=rmB rs) (v:=.bl false) (ga:=Qv (Q5 (Q4 7) (Q5 (Q4 8) (Q5 (Q4 9) Qw)))) (body:=Jd) (w:=[(S.length,.frt (Qh G))]) (st:=S ++ [.frt (Qh G)]) (Qmc G S []) (xs:=G') (fun e he Γ a2=>by
  obtain ⟨b7,b8,b9,Z,rfl⟩:=a2;have h:=ht e he;have c:=yz (ga:=Q4 0) (mt:=Ju) (me:=Jx) (w:=[]) (Γ0:=[none,some (.int e.1.2.1),some (.int e.1.2.2)]) (st:=S ++ [.frt (Qh G)]) (g:=trV) (f:=fun z=>PV.int z.2) (t:=isR e.1.2.1 e.1.2.2) (Jb _) (ys:=rs.getD e.1.1.toNat []) fun z _=>⟨_,rfl,Qqp e.1.2.1 e.1.2.2 z rfl rfl rfl,fun _=>Q8 rfl rfl rfl⟩
  rw [show (((rs.getD e.1.1.toNat []).filter (isR e.1.2.1 e.1.2.2)).map fun z=>PV.int z.2)=(xw rs e.1.1 e.1.2.1 e.1.2.2).map .int by unfold xw; rw [E7]; rfl] at c
  have s1:Qu 11 (Wv (Qy [none,some 8,some 9] (Q4 0) (V7 (mOp oIx (Q2 4) (Q2 7))) Ju Jx)) (pG q Vm Vs s (.tup (rs.map tsV)) k (some (.ref S.length)) (some (.int e.1.1)) (some (.int e.1.2.1)) (some (.int e.1.2.2)) Y Z B I O U) (S ++ [.frt (Qh G)])=.nx (pG q Vm Vs s (.tup (rs.map tsV)) k (some (.ref S.length)) (some (.int e.1.1)) (some (.int e.1.2.1)) (some (.int e.1.2.2)) Y (some (.lst ((xw rs e.1.1 e.1.2.1 e.1.2.2).map .int))) B I O U) (S ++ [.frt (Qh G)]):=
   Qt (K7 (W1 (K1 (Q8 rfl rfl (Qua h _)) rfl (by rw [O1]; have:=hr e.1.1.toNat; omega)) c))
  have c1:=Qq (Q8 (o:=oEq) (a:=Q2 11) (b:=Q88 Q6) (Γ:=pG q Vm Vs s (.tup (rs.map tsV)) k (some (.ref S.length)) (some (.int e.1.1)) (some (.int e.1.2.1)) (some (.int e.1.2.2)) Y (some (.lst ((xw rs e.1.1 e.1.2.1 e.1.2.2).map .int))) B I O U) rfl (Qha rfl) (Qqz (S ++ [.frt (Qh G)]) (xw rs e.1.1 e.1.2.1 e.1.2.2)));refine ⟨_,rfl,?_⟩;unfold rmB;cases hz:xw rs e.1.1 e.1.2.1 e.1.2.2 with
  | nil=>
   rw [hz] at s1 c1;exact ⟨fun z=>(by cases z),fun _=>Q9 s1 (ji (Qtj c1) (Ji rfl))⟩
  | cons r l=>
   rw [hz] at s1 c1;have c2:toB (mOp (oI fun a b=>.bl (decide (b < a))) (Wh (Q2 6) (Z5 (Q1 (Q2 7) (Q1 (Q2 8) (Q1 (Q2 9) Q6))))) (mOp oIx (Q2 11) (mC (.int 0)))) (pG q Vm Vs s (.tup (rs.map tsV)) k (some (.ref S.length)) (some (.int e.1.1)) (some (.int e.1.2.1)) (some (.int e.1.2.2)) Y (some (.lst ((r :: l).map .int))) B I O U) (S ++ [.frt (Qh G)])=.ok (decide (r < e.2)) (S ++ [.frt (Qh G)]):=
    Qq (Q8 (jj rfl (J3 (Q3 rfl (Q3 rfl (Q3 rfl rfl))) (show 3<=1000000 by decide)) (Qg1 (S:=S) (T:=[]) nd (hs e he))) (Q8 (y:=.int 0) (v:=.int r) rfl rfl (show okO _ (atI ((r :: l).map PV.int) ((0:Nat):Int))=_ by rw [Xw PV.int 0 (r :: l) (by simp)]; rfl)) rfl)
   refine ⟨fun z=>⟨_,⟨_,_,_,_,rfl⟩,Q9 s1 (Ya (Q2h c1 ?_) rfl)⟩,fun z=>Q9 s1 (ji (Q2h c1 ?_) (Ji rfl))⟩
   ·rw [c2];congr 1;simpa using z
   ·rw [c2];congr 1;simpa using z) (pG q Vm Vs s (.tup (rs.map tsV)) k (some (.ref S.length)) a7 a8 a9 Y a1 B I O U) ⟨_,_,_,_,rfl⟩
 refine ⟨fun z=>?_,i2⟩;obtain ⟨a3,⟨b7,b8,b9,Z,rfl⟩,e⟩:=i1 z;exact ⟨b7,b8,b9,Z,e⟩
theorem Qqu (S:Q0) (c d:Cell):(S ++ [c,d])[S.length + 1]?=some d:=by rw [D5 (by omega),show S.length + 1 - S.length=1 by omega]; rfl
theorem Qqt (S:Q0) (c d e:Cell):(S ++ [c,d]).set (S.length + 1) e=S ++ [c,e]:=by rw [List.set_append_right _ _ (by omega),show S.length + 1 - S.length=1 by omega]; rfl
theorem ixH {c:Cell} {i:Int} (B:0<=i/\i < h.length):oIx (S ++ [c,.lst (h.map .int)]) (.ref (S.length + 1)) (.int i)=.ok (.int (h.getD i.toNat 0)) (S ++ [c,.lst (h.map .int)]):=by
 rw [Q68,Qqu];obtain ⟨k,rfl⟩:∃ k:Nat,i=k:=⟨i.toNat,by omega⟩;show okO _ (atI (h.map PV.int) (k:Int))=_;rw [Xw PV.int 0 h (by omega),Int.toNat_natCast]; rfl
theorem Qn6 {c:Cell} {i:Int} (B:0<=i/\i < h.length) (d:Int):W8 (S ++ [c,.lst (h.map .int)]) (.ref (S.length + 1)) (.int i) (.int (h.getD i.toNat 0 + d))=some (S ++ [c,.lst ((Xc h i d).map .int)]):=by
 rw [Q46,Qqu];obtain ⟨k,rfl⟩:∃ k:Nat,i=k:=⟨i.toNat,by omega⟩;show (ixN (h.map PV.int).length (k:Int)).map _=_;rw [show ixN (h.map PV.int).length (k:Int)=some k by rw [O1]; exact Qa2 (by omega)];unfold Xc;rw [Int.toNat_natCast,List.map_set];show some ((S ++ [c,_]).set (S.length + 1) _)=_;rw [Qqt]
def Q2r (mom:Nat) (G:L3) (h:List Int):List Int:=G.foldl (fun h e=>if e.1.1=(mom:Int) then Xc h e.1.2.1 (-e.2) else h) h
def Q8h (mom:Nat) (G:L3) (h:List Int):List Int:=G.foldl (fun h e=>if e.1.1=(mom:Int) then Xc h e.1.2.2 e.2 else h) h
def tkH (mom:Nat) (has:List Int) (zs:List (Int × Tr)):List Int:=zs.foldl (fun h z=>if z.2.1.1=mom then Xc h (z.2.1.2:Nat) (-z.1) else h) has
theorem Q93 (B:Nat):∀ (sv:List Int) (ks:List Tr) (h:List Int),tkH B h (sv.zip ks)=tkG B h (ks.zip sv)
 | [],ks,h=>by rw [List.zip_nil_right]; rfl
 | a :: sv,[],h=>rfl
 | a :: sv,k :: ks,h=>Q93 B sv ks _
theorem Qm0 {n:Nat} {q Vm Vs s r k:PV} {S:Q0} {G:L3} {body:MS} (Z:List Int->K3 × Int->List Int) (hl:∀ h e,(Z h e).length=h.length) (Y B I J O U:Option PV)
  (hb:∀ e∈G,∀ h:List Int,h.length=n->body (pG q Vm Vs s r k (some (.ref S.length)) (some (.int e.1.1)) (some (.int e.1.2.1)) (some (.int e.1.2.2)) Y B I J O U) (S ++ [.frt (Qh G),.lst (h.map .int)])=.nx (pG q Vm Vs s r k (some (.ref S.length)) (some (.int e.1.1)) (some (.int e.1.2.1)) (some (.int e.1.2.2)) Y B I J O U) (S ++ [.frt (Qh G),.lst ((Z h e).map .int)])) :
  ∀ (G':L3) (h:List Int) (a7 a8 a9:Option PV),(∀ e∈G',e∈G)->h.length=n->∃ b7 b8 b9,Jw (Qv (Q5 (Q4 7) (Q5 (Q4 8) (Q5 (Q4 9) Qw)))) body [(S.length,.frt (Qh G))] (G'.map fun e=>k3V e.1) (pG q Vm Vs s r k (some (.ref S.length)) a7 a8 a9 Y B I J O U) (S ++ [.frt (Qh G),.lst (h.map .int)])=.nx (pG q Vm Vs s r k (some (.ref S.length)) b7 b8 b9 Y B I J O U) (S ++ [.frt (Qh G),.lst ((G'.foldl Z h).map .int)])
 | [],h,a7,a8,a9,_,_=>⟨a7,a8,a9,U4 (Qmc G S _)⟩
 | e :: G',h,a7,a8,a9,hs,hn=>by
  obtain ⟨b7,b8,b9,e'⟩:=Qm0 Z hl Y B I J O U hb G' (Z h e) (some (.int e.1.1)) (some (.int e.1.2.1)) (some (.int e.1.2.2)) (fun x hx=>hs x (O4 _ hx)) ((hl h e).trans hn)
  exact ⟨b7,b8,b9,Wq (Qmc G S _) rfl (hb e (hs e O9) h hn) e'⟩
theorem Qkz {n:Nat} {q Vm Vs s r k:PV} {S:Q0} {body:MS} (Z:List Int->K3 × Int->List Int) (hl:∀ h e,(Z h e).length=h.length) (Y B I J O U:Option PV) (a1:G.length<=5000)
  (hb:∀ e∈G,∀ h:List Int,h.length=n->body (pG q Vm Vs s r k (some (.ref S.length)) (some (.int e.1.1)) (some (.int e.1.2.1)) (some (.int e.1.2.2)) Y B I J O U) (S ++ [.frt (Qh G),.lst (h.map .int)])=.nx (pG q Vm Vs s r k (some (.ref S.length)) (some (.int e.1.1)) (some (.int e.1.2.1)) (some (.int e.1.2.2)) Y B I J O U) (S ++ [.frt (Qh G),.lst ((Z h e).map .int)]))
  (h:List Int) (a7 a8 a9:Option PV) (hn:h.length=n):∃ b7 b8 b9,V6 (Yw (Qv (Q5 (Q4 7) (Q5 (Q4 8) (Q5 (Q4 9) Qw)))) (Yq (Q2 6)) body) (pG q Vm Vs s r k (some (.ref S.length)) a7 a8 a9 Y B I J O U) (S ++ [.dtp (Qh G),.lst (h.map .int)])=.nx (pG q Vm Vs s r k (some (.ref S.length)) b7 b8 b9 Y B I J O U) (S ++ [.dtp (Qh G),.lst ((G.foldl Z h).map .int)]):=by
 obtain ⟨b7,b8,b9,e⟩:=Qm0 Z hl Y B I J O U hb G h a7 a8 a9 (fun e he=>he) hn;refine ⟨b7,b8,b9,(Q94 (Z6 (Qm1 a1 (T:=[.lst (h.map .int)]) rfl) e)).trans ?_⟩;rw [Qkp (T:=[.lst (h.map .int)]) (T':=[.lst ((G.foldl Z h).map .int)]) fun i kvs z=>by
  cases i with
  | zero=>cases z
  | succ i=>cases z]
theorem Quh {s r:PV} (nd:(G.map (·.1)).Nodup) (hi:∀ e∈G,(0<=e.1.2.1/\e.1.2.1 < n)/\0<=e.1.2.2/\e.1.2.2 < n) (Y:G.length<=5000) (B:Nat) (O J I U:Option PV) (h:List Int) (a7 a8 Z:Option PV) (hn:h.length=n) :∃ b7 b8 b9,V6 (Yw (Qv (Q5 (Q4 7) (Q5 (Q4 8) (Q5 (Q4 9) Qw)))) (Yq (Q2 6)) Y5) (pG q Vm Vs s r k (some (.ref S.length)) a7 a8 Z O J (some (.ref (S.length + 1))) (some (.int (B:Int))) I U) (S ++ [.dtp (Qh G),.lst (h.map .int)])=.nx (pG q Vm Vs s r k (some (.ref S.length)) b7 b8 b9 O J (some (.ref (S.length + 1))) (some (.int (B:Int))) I U) (S ++ [.dtp (Qh G),.lst ((Q2r B G h).map .int)]):=
 Qkz (n:=n) (fun h e=>if e.1.1=(B:Int) then Xc h e.1.2.1 (-e.2) else h) (fun h e=>by
  by_cases p:e.1.1=(B:Int)
  ·rw [bN p]; exact W3 _ _ _
  ·rw [bO p]) O J _ _ I U Y (fun e he h hn=>by
  have c:=Qq (Q8 (o:=oEq) (a:=Q2 7) (b:=Q2 13) (Γ:=pG q Vm Vs s r k (some (.ref S.length)) (some (.int e.1.1)) (some (.int e.1.2.1)) (some (.int e.1.2.2)) O J (some (.ref (S.length + 1))) (some (.int (B:Int))) I U) rfl rfl (Q4i (S ++ [.frt (Qh G),.lst (h.map .int)]) e.1.1 B));have hx:=(hi e he).1
  by_cases p:e.1.1=(B:Int)
  ·rw [bN p];rw [show (e.1.1 == (B:Int))=true by simpa using p] at c;have hm:mOp (oI fun a b=>.int (a - b)) (mOp oIx (Q2 12) (Q2 8)) (Wh (Q2 6) (Z5 (Q1 (Q2 7) (Q1 (Q2 8) (Q1 (Q2 9) Q6))))) (pG q Vm Vs s r k (some (.ref S.length)) (some (.int e.1.1)) (some (.int e.1.2.1)) (some (.int e.1.2.2)) O J (some (.ref (S.length + 1))) (some (.int (B:Int))) I U) (S ++ [.frt (Qh G),.lst (h.map .int)])=.ok (.int (h.getD e.1.2.1.toNat 0 + (-e.2))) (S ++ [.frt (Qh G),.lst (h.map .int)]):=
    Q8 (Q8 rfl rfl (ixH (by omega))) (jj rfl (J3 (Q3 rfl (Q3 rfl (Q3 rfl rfl))) (Nat.le_of_ble_eq_true rfl)) (Qg1 nd he)) (by rw [<- Int.sub_eq_add_neg]; rfl)
   exact ji c (Q7j hm rfl rfl (Qn6 (by omega) (-e.2)))
  ·rw [bO p];rw [show (e.1.1 == (B:Int))=false by simpa using p] at c;exact Ya c rfl) h a7 a8 Z hn
theorem Qug {s r:PV} (nd:(G.map (·.1)).Nodup) (hi:∀ e∈G,(0<=e.1.2.1/\e.1.2.1 < n)/\0<=e.1.2.2/\e.1.2.2 < n) (Y:G.length<=5000) (B:Nat) (O J I U:Option PV) (h:List Int) (a7 a8 Z:Option PV) (hn:h.length=n) :∃ b7 b8 b9,V6 (Yw (Qv (Q5 (Q4 7) (Q5 (Q4 8) (Q5 (Q4 9) Qw)))) (Yq (Q2 6)) Y4) (pG q Vm Vs s r k (some (.ref S.length)) a7 a8 Z O J (some (.ref (S.length + 1))) (some (.int (B:Int))) I U) (S ++ [.dtp (Qh G),.lst (h.map .int)])=.nx (pG q Vm Vs s r k (some (.ref S.length)) b7 b8 b9 O J (some (.ref (S.length + 1))) (some (.int (B:Int))) I U) (S ++ [.dtp (Qh G),.lst ((Q8h B G h).map .int)]):=
 Qkz (n:=n) (fun h e=>if e.1.1=(B:Int) then Xc h e.1.2.2 e.2 else h) (fun h e=>by
  by_cases p:e.1.1=(B:Int)
  ·rw [bN p]; exact W3 _ _ _
  ·rw [bO p]) O J _ _ I U Y (fun e he h hn=>by
  have c:=Qq (Q8 (o:=oEq) (a:=Q2 7) (b:=Q2 13) (Γ:=pG q Vm Vs s r k (some (.ref S.length)) (some (.int e.1.1)) (some (.int e.1.2.1)) (some (.int e.1.2.2)) O J (some (.ref (S.length + 1))) (some (.int (B:Int))) I U) rfl rfl (Q4i (S ++ [.frt (Qh G),.lst (h.map .int)]) e.1.1 B));have hx:=(hi e he).2
  by_cases p:e.1.1=(B:Int)
  ·rw [bN p];rw [show (e.1.1 == (B:Int))=true by simpa using p] at c;have hm:mOp Yv (mOp oIx (Q2 12) (Q2 9)) (Wh (Q2 6) (Z5 (Q1 (Q2 7) (Q1 (Q2 8) (Q1 (Q2 9) Q6))))) (pG q Vm Vs s r k (some (.ref S.length)) (some (.int e.1.1)) (some (.int e.1.2.1)) (some (.int e.1.2.2)) O J (some (.ref (S.length + 1))) (some (.int (B:Int))) I U) (S ++ [.frt (Qh G),.lst (h.map .int)])=.ok (.int (h.getD e.1.2.2.toNat 0 + e.2)) (S ++ [.frt (Qh G),.lst (h.map .int)]):=
    Q8 (Q8 rfl rfl (ixH (by omega))) (jj rfl (J3 (Q3 rfl (Q3 rfl (Q3 rfl rfl))) (Nat.le_of_ble_eq_true rfl)) (Qg1 nd he)) (Q2u _ _ _)
   exact ji c (Q7j hm rfl rfl (Qn6 (by omega) e.2))
  ·rw [bO p];rw [show (e.1.1 == (B:Int))=false by simpa using p] at c;exact Ya c rfl) h a7 a8 Z hn
theorem Kq (B:Nat):∀ (G:L3) (h:List Int),(Q2r B G h).length=h.length
 | [],_=>rfl
 | e :: G,h=>by
  show (Q2r B G (if e.1.1=(B:Int) then Xc h e.1.2.1 (-e.2) else h)).length=_;rw [Kq B G]
  split
  ·exact W3 _ _ _
  ·rfl
theorem Q1v (B:Nat):∀ (G:L3) (h:List Int),(Q8h B G h).length=h.length
 | [],_=>rfl
 | e :: G,h=>by
  show (Q8h B G (if e.1.1=(B:Int) then Xc h e.1.2.2 e.2 else h)).length=_;rw [Q1v B G]
  split
  ·exact W3 _ _ _
  ·rfl
theorem Qfw {n:Nat} {q Vm Vs s r k:PV} {S:Q0} {c:Cell} {w:Wt} (hw:∀ T,wOk w (S ++ T)) (B:Nat) (a6 a7 a8 a9 O I:Option PV):∀ (zs:List (Int × Tr)) (h:List Int) (Y Z:Option PV),(∀ z∈zs,z.2.1.2 < n)->h.length=n ->
  ∃ U J,Jw (Qv (Q5 (Q4 14) (Q5 (Q4 15) Qw))) Z0 w (zs.map fun z=>PV.tup [.int z.1,trV z.2]) (pG q Vm Vs s r k a6 a7 a8 a9 O I (some (.ref (S.length + 1))) (some (.int (B:Int))) Y Z) (S ++ [c,.lst (h.map .int)])=.nx (pG q Vm Vs s r k a6 a7 a8 a9 O I (some (.ref (S.length + 1))) (some (.int (B:Int))) U J) (S ++ [c,.lst ((tkH B h zs).map .int)])
 | [],h,Y,Z,_,_=>⟨Y,Z,U4 (hw _)⟩
 | z :: zs,h,Y,Z,hz,hn=>by
  have cc:=Qq (Q8 (o:=oEq) (a:=mOp oIx (Q2 15) (mC (.int 0))) (b:=Q2 13) (Γ:=pG q Vm Vs s r k a6 a7 a8 a9 O I (some (.ref (S.length + 1))) (some (.int (B:Int))) (some (.int z.1)) (some (trV z.2))) (Q8 rfl rfl rfl) rfl (Quz (S ++ [c,.lst (h.map .int)]) z.2.1.1 B));have hk:=hz z O9;show ∃ U J,Jw _ _ w (PV.tup [.int z.1,trV z.2] :: _) _ _=.nx _ (S ++ [c,.lst ((tkH B (if z.2.1.1=B then Xc h (z.2.1.2:Nat) (-z.1) else h) zs).map .int)])
  by_cases p:z.2.1.1=B
  ·rw [bN p];rw [bQ p] at cc;have hb:(0:Int)<=(z.2.1.2:Nat)/\((z.2.1.2:Nat):Int) < h.length:=by omega
   have hm:mOp (oI fun a b=>.int (a - b)) (mOp oIx (Q2 12) (mOp oIx (Q2 15) (mC (.int 1)))) (Q2 14) (pG q Vm Vs s r k a6 a7 a8 a9 O I (some (.ref (S.length + 1))) (some (.int (B:Int))) (some (.int z.1)) (some (trV z.2))) (S ++ [c,.lst (h.map .int)])=.ok (.int (h.getD ((z.2.1.2:Nat):Int).toNat 0 + -z.1)) (S ++ [c,.lst (h.map .int)]):=
    Q8 (Q8 rfl (Q8 rfl rfl rfl) (ixH hb)) rfl (by rw [<- Int.sub_eq_add_neg]; rfl)
   obtain ⟨U,J,e⟩:=Qfw hw B a6 a7 a8 a9 O I zs (Xc h (z.2.1.2:Nat) (-z.1)) (some (.int z.1)) (some (trV z.2)) (fun x hx=>hz x (O4 _ hx)) ((W3 _ _ _).trans hn)
   exact ⟨U,J,Wq (hw _) rfl (ji cc (Q7j hm rfl (Q8 rfl rfl rfl) (Qn6 hb (-z.1)))) e⟩
  ·rw [bO p];rw [bP p] at cc;obtain ⟨U,J,e⟩:=Qfw hw B a6 a7 a8 a9 O I zs h (some (.int z.1)) (some (trV z.2)) (fun x hx=>hz x (O4 _ hx)) hn
   exact ⟨U,J,Wq (hw _) rfl (Ya cc rfl) e⟩
def hlG (ks:List Tr) (sv:List Int) (G:L3):List Nat->List Int->Bool
 | [],_=>true
 | t :: ts,h=>if (Q2r t G (tkG t h (ks.zip sv))).all (fun x=>decide (0<=x))=true then hlG ks sv G ts (Q8h t G (Q2r t G (tkG t h (ks.zip sv)))) else false
theorem Qm2 {n:Nat} (b2:1<=n) {q Vm Vs s r:PV} {ks:List Tr} {sv:List Int} {S:Q0} {G:L3} (nd:(G.map (·.1)).Nodup) (hi:∀ e∈G,(0<=e.1.2.1/\e.1.2.1 < n)/\0<=e.1.2.2/\e.1.2.2 < n) (a3:G.length<=5000) (hk:∀ t∈ks,t.1.2 < n) (b4:sv.length<=1000) (hV:LA S Vs (sv.map .int)) (I B:Option PV) :
  ∀ (ts:List Nat) (h:List Int) (a7 a8 a9 a1 J O:Option PV),h.length=n ->
   (hlG ks sv G ts h=true->∃ a4 T,Jw (Q4 13) Z1 [] (ts.map fun t:Nat=>PV.int (t:Int)) (pG q Vm Vs s r (.tup (ks.map trV)) (some (.ref S.length)) a7 a8 a9 I B (some (.ref (S.length + 1))) a1 J O) (S ++ [.dtp (Qh G),.lst (h.map .int)])=.nx a4 (S ++ T)) /\
   (hlG ks sv G ts h=false->∃ T,Jw (Q4 13) Z1 [] (ts.map fun t:Nat=>PV.int (t:Int)) (pG q Vm Vs s r (.tup (ks.map trV)) (some (.ref S.length)) a7 a8 a9 I B (some (.ref (S.length + 1))) a1 J O) (S ++ [.dtp (Qh G),.lst (h.map .int)])=.rt (.bl false) (S ++ T))
 | [],h,a7,a8,a9,a1,J,O,_=>⟨fun _=>⟨_,_,U4 (Jb _)⟩,fun z=>by cases z⟩
 | t :: ts,h,a7,a8,a9,a1,J,O,hn=>by
  obtain ⟨w,ew,b5,b1⟩:=Q1k hV;have hw:∀ T,wOk w (S ++ T):=fun T x hx=>by rw [O6 (b1 x hx).1]; exact b5 x hx
  have es:∀ T,Zc (S ++ T) Vs=some (sv.map .int,w):=fun T=>by
   rcases hV with rfl | ⟨i,rfl,e⟩
   ·exact ew
   ·rw [Xg e] at ew;rw [Xg (show (S ++ T)[i]?=_ by rw [O6 (O0.mp e).1]; exact e),<- ew]
  obtain ⟨a2,Z,e1⟩:=Qfw (n:=n) (q:=q) (Vm:=Vm) (Vs:=Vs) (s:=s) (r:=r) (k:=.tup (ks.map trV)) (c:=.dtp (Qh G)) (w:=w ++ []) (fun T=>by rw [G7]; exact hw T) t (some (.ref S.length)) a7 a8 a9 I B (sv.zip ks) h J O (fun z hz=>hk _ (List.of_mem_zip (show (z.1,z.2)∈sv.zip ks from hz)).2) hn
  rw [<- Qs5 PV.int trV,Q93] at e1;have l1:=Q40 t (ks.zip sv) h;obtain ⟨b7,b8,b9,e2⟩:=Quh (q:=q) (Vm:=Vm) (Vs:=Vs) (s:=s) (r:=r) (S:=S) nd hi a3 t I B a2 Z (tkG t h (ks.zip sv)) a7 a8 a9 (by omega) (k:=.tup (ks.map trV));have l2:=Kq t G (tkG t h (ks.zip sv));rw [hlG];obtain ⟨g,hg⟩:∃ g,Q2r t G (tkG t h (ks.zip sv))=g:=⟨_,rfl⟩;rw [hg] at e2 l2 ⊢;obtain ⟨x,l,b3⟩:∃ x l,g=x :: l:=by
   cases g with
   | nil=>rw [List.length_nil] at l2; omega
   | cons x l=>exact ⟨x,l,rfl⟩
  obtain ⟨mn,a5,U⟩:=Qjf x l;rw [<- b3] at a5 U;have b0:Q24 (S ++ [.dtp (Qh G),.lst (g.map .int)]) [.ref (S.length + 1)]=.ok (.int mn) (S ++ [.dtp (Qh G),.lst (g.map .int)]):=by
   show Zj (fun ns=>(Qf7 ns).map .int) _ [.ref (S.length + 1)]=_
   have hs:Zu (S ++ [.dtp (Qh G),.lst (g.map .int)]) (.ref (S.length + 1))=some (g.map .int):=Jc (Qqu _ _ _);unfold Zj;simp only [hs,Option.bind_some,zr,a5];rfl
  have c:=Qq (Q8 (o:=oLt) (a:=Qj Q24 (Q1 (Q2 12) Q6)) (b:=mC (.int 0)) (Γ:=pG q Vm Vs s r (.tup (ks.map trV)) (some (.ref S.length)) b7 b8 b9 I B (some (.ref (S.length + 1))) (some (.int (t:Int))) a2 Z) (Zg (Q3 rfl rfl) b0) rfl (Q6k _ mn 0));have f1:Yw (Qv (Q5 (Q4 14) (Q5 (Q4 15) Qw))) (yk (Q1 (Q2 2) (Q1 (Q2 5) Q6))) Z0 (pG q Vm Vs s r (.tup (ks.map trV)) (some (.ref S.length)) a7 a8 a9 I B (some (.ref (S.length + 1))) (some (.int (t:Int))) J O) (S ++ [.dtp (Qh G),.lst (h.map .int)])=_:=Z6 (Qcj rfl rfl (es _) rfl (by rw [O1]; omega)) e1
  by_cases p:g.all (fun x=>decide (0<=x))=true
  ·rw [bN p];have hq:¬ mn < 0:=fun z=>by
    obtain ⟨y,hy,a6⟩:=U.mp z;have:=of_decide_eq_true (F5.mp p y hy);omega
   rw [bP hq] at c;obtain ⟨d7,d8,d9,e3⟩:=Qug (q:=q) (Vm:=Vm) (Vs:=Vs) (s:=s) (r:=r) (S:=S) nd hi a3 t I B a2 Z g b7 b8 b9 (by omega) (k:=.tup (ks.map trV));have l3:=Q1v t G g;obtain ⟨i1,i2⟩:=Qm2 b2 nd hi a3 hk b4 hV I B ts (Q8h t G g) d7 d8 d9 (some (.int (t:Int))) a2 Z (by omega);have Y:=Q9 f1 (Q9 e2 (Q9 (Ya (a:=J0 (mC (.bl false))) (b:=J8) c rfl) e3));refine ⟨fun z=>?_,fun z=>?_⟩
   ·obtain ⟨a4,T,e⟩:=i1 z;exact ⟨a4,T,Wq (Jb _) rfl Y e⟩
   ·obtain ⟨T,e⟩:=i2 z;exact ⟨T,Wq (Jb _) rfl Y e⟩
  ·rw [bO p];have hq:mn < 0:=U.mpr (by
    have p:g.all (fun x=>decide (0<=x))=false:=by simpa using p
    obtain ⟨y,hy,a6⟩:=List.all_eq_false.mp p;exact ⟨y,hy,by simp at a6; omega⟩)
   rw [bQ hq] at c;exact ⟨fun z=>(by cases z),fun _=>⟨_,Q4w (Jb _) rfl (Q9 f1 (Q9 e2 (Xh (ji c (Ji rfl)))))⟩⟩
theorem Qfv (S:Q0) (bs:List Bool):oIn false S (.bl false) (.lst (bs.map .bl))=.ok (.bl (!(bs.all id))) S:=by
 show (if Qz dep (der S (.bl false))=true/\(bs.map PV.bl).all (Qz dep)=true then Res.ok (PV.bl (((bs.map PV.bl).any fun y=>peq y (der S (.bl false))) != false)) S else .stuck)=_
 rw [bN ⟨rfl,by rw [List.all_map]; exact F5.mpr fun b _=>by cases b <;> rfl⟩,List.any_map,Bool.bne_false];congr 2
 induction bs with
 | nil=>rfl
 | cons b bs B=>
  rw [List.any_cons,List.all_cons,B];cases b <;> rfl
theorem Qm9 (sv:List Int) (ks:List Tr):((sv.zip ks).all fun z=>decide (0<=z.1) && decide (z.1<=z.2.2))=(ks.zip sv).all fun z=>decide (0<=z.2) && decide (z.2<=z.1.2):=by
 induction sv generalizing ks with
 | nil=>rw [List.zip_nil_right]; rfl
 | cons a sv B=>
  cases ks with
  | nil=>rfl
  | cons k ks=>
   rw [List.zip_cons_cons,List.zip_cons_cons,List.all_cons,List.all_cons,B]
def Qa4 (xs:List Int) (rs:List (List Tr)) (ks:List Tr) (ms:List Mv4) (sv:List Int):Bool:=Qhw ks sv && (ms.all (okM rs) && ((ldm ms).all (rmB rs) && hlG ks sv (ldm ms) (List.range (rs.length + 1)) xs))
theorem Q4t (Q:Qok xs rs ks) (hM:∀ m∈ms,InN xs.length m) (hl:ms.length<=5000) {sv:List Int} (a5:sv.length<=1000) (a2:LA S Vm (ms.map mvV)) (Z:LA S Vs (sv.map .int)):Qm [qV xs rs ks,Vm,Vs] S=.ok (.bl (Qa4 xs rs ks ms sv)) S:=by
 have r4:=Q.r4;obtain ⟨w,ew,a6,a9⟩:=Q1k Z;obtain ⟨wm,em,a7,a8⟩:=Q1k a2;have a4:∀ T,wOk wm (S ++ T):=fun T x hx=>by rw [O6 (a8 x hx).1]; exact a7 x hx
 have a3:∀ T,Zc (S ++ T) Vm=some (ms.map mvV,wm):=fun T=>by
  rcases a2 with rfl | ⟨i,rfl,e⟩
  ·exact em
  ·rw [Xg e] at em;rw [Xg (show (S ++ T)[i]?=_ by rw [O6 (O0.mp e).1]; exact e),<- em]
 have a1:Q8a (Qv (Q5 (Q4 3) (Q5 (Q4 4) (Q5 (Q4 5) Qw)))) (Q2 0) [some (qV xs rs ks),some Vm,some Vs,none,none,none,none,none,none,none,none,none,none,none,none,none] S=.nx (pG (qV xs rs ks) Vm Vs (.tup (xs.map .int)) (.tup (rs.map tsV)) (.tup (ks.map trV)) none none none none none none none none none none) S:=Q8u rfl rfl;have O:toB (mOp oNe (Qj Y3 (Q1 (Q2 2) Q6)) (Qj Y3 (Q1 (Q2 5) Q6))) (pG (qV xs rs ks) Vm Vs (.tup (xs.map .int)) (.tup (rs.map tsV)) (.tup (ks.map trV)) none none none none none none none none none none) S=.ok (!decide (sv.length=ks.length)) S:=
  Qq (Q8 (Zg (Q3 rfl rfl) (by rw [Qfn Z,O1])) (Zg (Q3 rfl rfl) (by rw [Kx,O1])) (Qq2 S _ _))
 have cc:=Jz (ga:=Qv (Q5 (Q4 0) (Q5 (Q4 1) Qw))) (me:=Jy) (w:=w ++ []) (Γ0:=[none,none]) (st:=S) (g:=fun z:Int × Tr=>PV.tup [.int z.1,trV z.2]) (f:=fun z=>PV.bl (decide (0<=z.1) && decide (z.1<=z.2.2))) (by rw [G7]; exact a6) (ys:=sv.zip ks) fun z _=>⟨_,rfl,Q73 rfl rfl rfl (Q8 rfl rfl rfl) rfl⟩
 rw [<- Qs5 PV.int trV,Qq5] at cc;have Y:toB (mOp (oIn false) (mC (.bl false)) (Wv (Qy [none,none] (Qv (Q5 (Q4 0) (Q5 (Q4 1) Qw))) (yk (Q1 (Q2 2) (Q1 (Q2 5) Q6))) Jt Jy))) (pG (qV xs rs ks) Vm Vs (.tup (xs.map .int)) (.tup (rs.map tsV)) (.tup (ks.map trV)) none none none none none none none none none none) S=.ok (!((ks.zip sv).all fun z=>decide (0<=z.2) && decide (z.2<=z.1.2))) S:=by
  refine Qq (Q8 rfl (K7 (W1 (Qcj rfl rfl ew rfl (by rw [O1]; omega)) cc)) ((Qfv S _).trans ?_));rw [Qrh,Qm9]
 unfold Qa4 Qhw;have done:∀ {v:PV} {T:Q0},Zn [some (qV xs rs ks),some Vm,some Vs,none,none,none,none,none,none,none,none,none,none,none,none,none] S=.rt v (S ++ T)->Qz 12 v=true->Qm [qV xs rs ks,Vm,Vs] S=.ok v S:=fun h g=>(Zv h).trans (Qk5 g)
 have I:∀ {v:PV},Zn [some (qV xs rs ks),some Vm,some Vs,none,none,none,none,none,none,none,none,none,none,none,none,none] S=.rt v S->Qz 12 v=true->Qm [qV xs rs ks,Vm,Vs] S=.ok v S:=fun h g=>(Zv h).trans (yx g)
 cases h1:decide (sv.length=ks.length) with
 | false=>
  rw [h1] at O;exact I (Q9 a1 (Xh (ji O (Ji rfl)))) rfl
 | true=>
  rw [h1] at O;cases h2:(ks.zip sv).all fun z=>decide (0<=z.2) && decide (z.2<=z.1.2) with
  | false=>
   rw [h2] at Y;exact I (Q9 a1 (Q9 (Ya O rfl) (Xh (ji Y (Ji rfl))))) rfl
  | true=>
   rw [h2] at Y;obtain ⟨i1,i2⟩:=Qm3 (rs:=rs) (q:=qV xs rs ks) (Vm:=Vm) (Vs:=Vs) (s:=.tup (xs.map .int)) (k:=.tup (ks.map trV)) (S:=S) a4 none none none none none ms [] none none none none (by rw [List.length_nil]; omega);have fs:V7 (Q2 1) (pG (qV xs rs ks) Vm Vs (.tup (xs.map .int)) (.tup (rs.map tsV)) (.tup (ks.map trV)) (some (.ref S.length)) none none none none none none none none none) (S ++ [.dtp (Qh (ldm []))])=.ok (ms.map mvV,wm) (S ++ [.dtp (Qh (ldm []))]):=K1 rfl (a3 _) (by rw [O1]; omega);have s4:Qu 6 Q4m (pG (qV xs rs ks) Vm Vs (.tup (xs.map .int)) (.tup (rs.map tsV)) (.tup (ks.map trV)) none none none none none none none none none none) S=.nx (pG (qV xs rs ks) Vm Vs (.tup (xs.map .int)) (.tup (rs.map tsV)) (.tup (ks.map trV)) (some (.ref S.length)) none none none none none none none none none) (S ++ [.dtp (Qh (ldm []))]):=Qt rfl;cases h3:ms.all (okM rs) with
   | false=>
    obtain ⟨T,e⟩:=i2 h3;exact done (Q9 a1 (Q9 (Ya O rfl) (Q9 (Ya Y rfl) (Q9 s4 (Xh (Z6 fs e)))))) rfl
   | true=>
    obtain ⟨b7,b8,b9,B,e1⟩:=i1 h3;rw [List.nil_append] at e1;have ml:=Q9z ms;have nd:=Qfj ms;have U:∀ e∈ldm ms,∃ m∈ms,e.1=mK m:=Q0a ms;obtain ⟨j1,j2⟩:=Qui (rs:=rs) (q:=qV xs rs ks) (Vm:=Vm) (Vs:=Vs) (s:=.tup (xs.map .int)) (k:=.tup (ks.map trV)) (S:=S) (G:=ldm ms) (G':=ldm ms) nd (fun e he=>he) (fun e he=>by
     obtain ⟨m,hm,q⟩:=U e he;have:=F5.mp h3 m hm;unfold okM at this;rw [q];exact of_decide_eq_true (Bool.and_eq_true_iff.mp this).1) (Qmi Q) b7 b8 b9 B none none none none none
    have f2:=Qm1 (G:=ldm ms) (S:=S) (T:=[]) (by omega) (Γ:=pG (qV xs rs ks) Vm Vs (.tup (xs.map .int)) (.tup (rs.map tsV)) (.tup (ks.map trV)) (some (.ref S.length)) b7 b8 b9 B none none none none none) (m:=Q2 6) rfl;cases h4:(ldm ms).all (rmB rs) with
    | false=>exact done (Q9 a1 (Q9 (Ya O rfl) (Q9 (Ya Y rfl) (Q9 s4 (Q9 (Z6 fs e1) (Xh (Qhp (Z6 f2 (j2 h4))))))))) rfl
    | true=>
     obtain ⟨d7,d8,d9,J,e2⟩:=j1 h4;have t2:=Q94 (Z6 f2 e2);rw [Qkp (G:=ldm ms) (S:=S) (T:=[]) (T':=[]) fun i kvs z=>by cases z] at t2
     obtain ⟨l1,l2⟩:=Qm2 Q.x1 (q:=qV xs rs ks) (Vm:=Vm) (Vs:=Vs) (s:=.tup (xs.map .int)) (r:=.tup (rs.map tsV)) (ks:=ks) (sv:=sv) (S:=S) (G:=ldm ms) (n:=xs.length) nd (fun e he=>by
      obtain ⟨m,hm,q⟩:=U e he;rw [q];exact hM m hm) (by omega) (fun t ht=>(Q.kb t ht).2.1) a5 Z B J (List.range (rs.length + 1)) xs d7 d8 d9 none none none rfl
     have s7:Qu 12 (V5 (Km (Q2 3))) (pG (qV xs rs ks) Vm Vs (.tup (xs.map .int)) (.tup (rs.map tsV)) (.tup (ks.map trV)) (some (.ref S.length)) d7 d8 d9 B J none none none none) (S ++ [.dtp (Qh (ldm ms))])=.nx (pG (qV xs rs ks) Vm Vs (.tup (xs.map .int)) (.tup (rs.map tsV)) (.tup (ks.map trV)) (some (.ref S.length)) d7 d8 d9 B J (some (.ref (S.length + 1))) none none none) (S ++ [.dtp (Qh (ldm ms)),.lst (xs.map .int)]):=by
      have:=Qt (i:=12) (Uh (Q6n (m:=Q2 3) (Γ:=pG (qV xs rs ks) Vm Vs (.tup (xs.map .int)) (.tup (rs.map tsV)) (.tup (ks.map trV)) (some (.ref S.length)) d7 d8 d9 B J none none none none) (S:=S ++ [.dtp (Qh (ldm ms))]) (xs:=xs.map .int) rfl rfl));rw [O7,N4] at this;exact this
     have hr:Jq (Q1 (mOp Yv (Qj Y3 (Q1 (Q2 4) Q6)) (mC (.int 1))) Q6) (pG (qV xs rs ks) Vm Vs (.tup (xs.map .int)) (.tup (rs.map tsV)) (.tup (ks.map trV)) (some (.ref S.length)) d7 d8 d9 B J (some (.ref (S.length + 1))) none none none) (S ++ [.dtp (Qh (ldm ms)),.lst (xs.map .int)])=.ok ((List.range (rs.length + 1)).map fun t:Nat=>PV.int (t:Int),[]) (S ++ [.dtp (Qh (ldm ms)),.lst (xs.map .int)]):=by
      rw [<- Yy];exact Q5s (n:=rs.length + 1) (by omega) (Q8 (Zg (Q3 rfl rfl) (by rw [Kx,O1])) rfl (Q2u _ _ _))
     cases h5:hlG ks sv (ldm ms) (List.range (rs.length + 1)) xs with
     | false=>
      obtain ⟨T,e⟩:=l2 h5;exact done (Q9 a1 (Q9 (Ya O rfl) (Q9 (Ya Y rfl) (Q9 s4 (Q9 (Z6 fs e1) (Q9 t2 (Q9 s7 (Xh (Z6 hr e))))))))) rfl
     | true=>
      obtain ⟨b0,T,e⟩:=l1 h5;exact done (Q9 a1 (Q9 (Ya O rfl) (Q9 (Ya Y rfl) (Q9 s4 (Q9 (Z6 fs e1) (Q9 t2 (Q9 s7 (Q9 (Z6 hr e) (Ji rfl))))))))) rfl
theorem Q1x {α:Type} (p:α->Bool) (f:α->Int):∀ l:List α,((l.filter p).map f).sum=(l.map fun x=>if p x=true then f x else 0).sum
 | []=>rfl
 | x :: l=>by
  rw [List.filter_cons,D3,G9,<- Q1x p f l]
  split
  ·rw [D3,G9]
  ·omega
def gS (c:K3->Int) (G:L3):Int:=(G.map fun e=>c e.1 * e.2).sum
theorem Qg2 (c:K3->Int) (z:K3) (v:Int):∀ {G:L3},(G.map (·.1)).Nodup->z∈G.map (·.1)->gS c (G.map fun e=>if e.1=z then (e.1,v) else e)=gS c G + c z * (v - look G z)
 | e :: G,nd,hz=>by
  rw [D3] at nd hz;obtain ⟨h1,h2⟩:=L5.mp nd;unfold gS;rw [D3,D3,D3,G9,G9,look]
  by_cases q:e.1=z
  ·rw [bN q,bN q];have:G.map (fun e=>if e.1=z then (e.1,v) else e)=G:=by
    have w:G.map (fun e=>if e.1=z then (e.1,v) else e)=G.map id:=F3 fun x J=>bO fun y=>h1 (by rw [q,<- y]; exact D7.mpr ⟨x,J,rfl⟩)
    rw [w,List.map_id]
   rw [this];show c e.1 * v + _=c e.1 * e.2 + _ + c z * (v - e.2);rw [q,Int.mul_sub];omega
  ·rw [bO q,bO q];have B:z∈G.map (·.1):=by
    rcases D8.mp hz with h | h
    ·exact absurd h.symm q
    ·exact h
   have I:=Qg2 c z v h2 B;unfold gS at I;rw [I];omega
theorem Q4v (c:K3->Int) (e:K3 × Int) (G:L3):gS c (e :: G)=c e.1 * e.2 + gS c G:=by unfold gS; rw [D3,G9]
theorem Qqw (c:K3->Int) (z:K3) (d:Int) (nd:(G.map (·.1)).Nodup):gS c (Wu G z d)=gS c G + c z * d:=by
 unfold Wu
 split
 ·rename_i h;rw [Qg2 c z _ nd h,show look G z + d - look G z=d by omega]
 ·unfold gS;rw [E3,List.sum_append];simp
theorem Qg3 (c:K3->Int) (ms:List Mv4):gS c (ldm ms)=(ms.map fun m=>c (mK m) * m.k).sum:=by
 have:∀ (ms:List Mv4) (G:L3),(G.map (·.1)).Nodup->gS c (ms.foldl (fun G m=>Wu G (mK m) m.k) G)=gS c G + (ms.map fun m=>c (mK m) * m.k).sum:=by
  intro ms
  induction ms with
  | nil=>intro G _; simp
  | cons m ms B=>
   intro G nd;rw [List.foldl_cons,B _ (Q9g nd _ _),Qqw c _ _ nd,D3,G9];omega
 have:=this ms [] List.nodup_nil;rw [show gS c []=0 from rfl,Int.zero_add] at this;exact this
theorem Q1u {n:Nat} (B:Nat):∀ {G:L3},(∀ e∈G,(0<=e.1.2.1/\e.1.2.1 < n)/\0<=e.1.2.2/\e.1.2.2 < n)->∀ {h:List Int},h.length=n->∀ k:Nat,(Q2r B G h).getD k 0=h.getD k 0 - gS (fun z=>if z.1=(B:Int)/\(k:Int)=z.2.1 then 1 else 0) G
 | [],_,h,_,k=>by show h.getD k 0=_ - 0; omega
 | e :: G,hi,h,J,k=>by
  have O:=hi e O9;rw [Q4v];show (Q2r B G (if e.1.1=(B:Int) then Xc h e.1.2.1 (-e.2) else h)).getD k 0=_
  by_cases q:e.1.1=(B:Int)
  ·rw [bN q,Q1u B (fun x I=>hi x (O4 _ I)) ((W3 _ _ _).trans J),Q25 O.1.1 (by omega)]
   by_cases p:(k:Int)=e.1.2.1
   ·simp [q,p]; omega
   ·simp [q,p]
  ·rw [bO q,Q1u B (fun x I=>hi x (O4 _ I)) J]
   simp [q]
theorem Q1w {n:Nat} (B:Nat):∀ {G:L3},(∀ e∈G,(0<=e.1.2.1/\e.1.2.1 < n)/\0<=e.1.2.2/\e.1.2.2 < n)->∀ {h:List Int},h.length=n->∀ k:Nat,(Q8h B G h).getD k 0=h.getD k 0 + gS (fun z=>if z.1=(B:Int)/\(k:Int)=z.2.2 then 1 else 0) G
 | [],_,h,_,k=>by show h.getD k 0=_ + 0; omega
 | e :: G,hi,h,J,k=>by
  have O:=hi e O9;rw [Q4v];show (Q8h B G (if e.1.1=(B:Int) then Xc h e.1.2.2 e.2 else h)).getD k 0=_
  by_cases q:e.1.1=(B:Int)
  ·rw [bN q,Q1w B (fun x I=>hi x (O4 _ I)) ((W3 _ _ _).trans J),Q25 O.2.1 (by omega)]
   by_cases p:(k:Int)=e.1.2.2
   ·simp [q,p]; omega
   ·simp [q,p]
  ·rw [bO q,Q1w B (fun x I=>hi x (O4 _ I)) J]
   simp [q]
theorem Qbr {a b:List Int} (B:a.length=b.length) (h:∀ k:Nat,a.getD k 0=b.getD k 0):a=b:=by
 refine List.ext_getElem B fun k h1 h2=>?_
 have:=h k;rw [O3,O3,O2 h1,O2 h2] at this;exact this
theorem Qqc (B:∀ m∈ms,InN n m):∀ e∈ldm ms,(0<=e.1.2.1/\e.1.2.1 < n)/\0<=e.1.2.2/\e.1.2.2 < n:=fun e I=>by
 obtain ⟨m,J,q⟩:=Q0a ms e I;rw [q];exact B m J
theorem Qdz {d:Int} (h:e∈Wu G z d):e∈G\/e.2=look G z + d:=by
 unfold Wu at h
 split at h
 ·obtain ⟨x,B,rfl⟩:=D7.mp h
  split
  ·exact .inr rfl
  ·exact .inl B
 ·rename_i q;rcases D4.mp h with h | h
  ·exact .inl h
  ·have:e=(z,d):=by simpa using h
   subst this;exact .inr (by rw [qf q,Int.zero_add])
theorem Q9w:∀ {G:L3},(∀ e∈G,1<=e.2)->∀ z,0<=look G z
 | [],_,_=>Int.le_refl _
 | e :: G,h,z=>by
  rw [look]
  split
  ·have:=h e O9; omega
  ·exact Q9w (fun x B=>h x (O4 _ B)) z
theorem Qjt (ms:List Mv4) (B:∀ m∈ms,1<=m.k):∀ e∈ldm ms,1<=e.2:=by
 have:∀ (ms:List Mv4) (G:L3),(∀ m∈ms,1<=m.k)->(∀ e∈G,1<=e.2)->∀ e∈ms.foldl (fun G m=>Wu G (mK m) m.k) G,1<=e.2:=by
  intro ms
  induction ms with
  | nil=>exact fun G _ h=>h
  | cons m ms J=>
   intro G B h;refine J (Wu G (mK m) m.k) (fun x O=>B x (O4 _ O)) fun e I=>?_
   rcases Qdz I with q | q
   ·exact h e q
   ·have:=Q9w h (mK m);have:=B m O9;omega
 exact this ms [] B fun e I=>by cases I
theorem Q33 {d:Int} {y:K3} (h:y∈G.map (·.1)\/y=z):y∈(Wu G z d).map (·.1):=by
 unfold Wu
 split
 ·rename_i q;rw [E7,show ((fun x:K3 × Int=>x.1) ∘ fun e=>if e.1=z then (e.1,look G z + d) else e)=fun x:K3 × Int=>x.1 from funext fun x=>by show (if x.1=z then (x.1,look G z + d) else x).1=_; split <;> rfl]
  rcases h with h | rfl
  ·exact h
  ·exact q
 ·rw [E3];rcases h with h | rfl
  ·exact D4.mpr (.inl h)
  ·exact D4.mpr (.inr (by simp))
theorem Qju (ms:List Mv4):∀ m∈ms,mK m∈(ldm ms).map (·.1):=by
 have:∀ (ms:List Mv4) (G:L3) (y:K3),(y∈G.map (·.1)\/∃ m∈ms,y=mK m)->y∈(ms.foldl (fun G m=>Wu G (mK m) m.k) G).map (·.1):=by
  intro ms
  induction ms with
  | nil=>
   intro G y h;rcases h with h | ⟨_,h,_⟩
   ·exact h
   ·cases h
  | cons m ms I=>
   intro G y h;refine I (Wu G (mK m) m.k) y ?_;rcases h with h | ⟨x,B,rfl⟩
   ·exact .inl (Q33 (.inl h))
   ·rcases D8.mp B with rfl | B
    ·exact .inl (Q33 (.inr rfl))
    ·exact .inr ⟨x,B,rfl⟩
 exact fun m J=>this ms [] _ (.inr ⟨m,J,rfl⟩)
theorem Qic (Q:Qok xs rs ks) (t i j:Int):(xw rs t i j).length<=1:=by
 unfold xw;rw [O1];have O:(rs.getD t.toNat []).Pairwise fun a b=>LxP a.1 b.1:=by
  rw [O3]
  by_cases h:t.toNat < rs.length
  ·rw [O2 h];exact List.pairwise_map.mp (Q.rb _ (F7 h)).inc
  ·rw [G8 (by omega)]; exact List.Pairwise.nil
 have I:=O.filter (isR i j);have B:∀ z∈(rs.getD t.toNat []).filter (isR i j),(z.1.1:Int)=i/\(z.1.2:Int)=j:=fun z hz=>by
  have:=(List.mem_filter.mp hz).2;unfold isR at this;simpa using this
 cases hz:(rs.getD t.toNat []).filter (isR i j) with
 | nil=>exact M9 _
 | cons a l=>
  cases l with
  | nil=>exact O8 _
  | cons b l=>
   rw [hz] at I B;have h1:=B a (by simp);have h2:=B b (by simp);have J:=(List.pairwise_cons.mp I).1 b (by simp);unfold LxP at J;omega
theorem Qce (Q:Qok xs rs ks) :Qaf rs ms=(ms.all (okM rs) && (ldm ms).all (rmB rs)):=by
 unfold Qaf
 by_cases h:∀ m∈ms,1<=m.k
 ·have h1:(ms.any fun m=>decide (m.k < 1))=false:=List.any_eq_false.mpr fun m B=>by have:=h m B; simp; omega
  rw [h1,Bool.not_false,Bool.true_and];have pos:=Qjt ms h
  by_cases g:∀ m∈ms,0<=m.t/\m.t < rs.length
  ·have h2:ms.all (okM rs)=true:=F5.mpr fun m B=>by
    unfold okM;have:=h m B;rw [bQ (g m B),bP (by omega)]; rfl
   rw [h2,Bool.true_and];rw [Bool.eq_iff_iff,F5,F5];have key:∀ e∈ldm ms,(decide (e.2<=Q6d rs e.1.1 e.1.2.1 e.1.2.2)=true <-> rmB rs e=true):=fun e I=>by
    obtain ⟨m,B,q⟩:=Q0a ms e I;have O:0<=e.1.1/\e.1.1 < rs.length:=by rw [q]; exact g m B
    have p:=pos e I;have one:=Qic Q e.1.1 e.1.2.1 e.1.2.2;unfold Q6d rmB;rw [bN O];cases hz:xw rs e.1.1 e.1.2.1 e.1.2.2 with
    | nil=>exact ⟨fun z=>by have:e.2<=0:=of_decide_eq_true z; omega,fun z=>by cases z⟩
    | cons r l=>
     cases l with
     | nil=>simp
     | cons _ _=>rw [hz] at one; simp at one
   exact ⟨fun z e I=>(key e I).mp (z e I),fun z e I=>(key e I).mpr (z e I)⟩
  ·have h2:ms.all (okM rs)=false:=by
    rw [Bool.eq_false_iff];intro z;exact g fun m B=>of_decide_eq_true (Bool.and_eq_true_iff.mp (F5.mp z m B)).1
   rw [h2,Bool.false_and,Bool.eq_false_iff];intro z;refine g fun m B=>?_
   obtain ⟨e,I,q⟩:=D7.mp (Qju ms m B);have J:=of_decide_eq_true (F5.mp z e I);have p:=pos e I;unfold Q6d at J
   by_cases r:0<=e.1.1/\e.1.1 < rs.length
   ·rw [q] at r;exact r
   ·rw [bO r] at J;omega
 ·have h1:(ms.any fun m=>decide (m.k < 1))=true:=by
   refine Bool.not_eq_false _ |>.mp fun z=>h fun m B=>?_
   have:=List.any_eq_false.mp z m B;simp at this;omega
  have h2:ms.all (okM rs)=false:=by
   rw [Bool.eq_false_iff];intro z;refine h fun m B=>?_
   have:=(Bool.and_eq_true_iff.mp (F5.mp z m B)).2;simp at this;omega
  rw [h1,h2]; rfl
theorem q_n (S:Q0):Y3 S [.tup (xs.map .int)]=.ok (.int xs.length) S:=by simp
theorem q_r (S:Q0):Y3 S [.tup (rs.map tsV)]=.ok (.int rs.length) S:=by simp
theorem Qef (y:Nat × Nat) (a b:Nat):peq (rdV y) (.tup [.int a,.int b])=decide ((a,b)=y):=by
 unfold rdV;rw [peq,Bool.eq_iff_iff];simp only [peqL,peq,Bool.and_true,L8,beq_iff_eq,decide_eq_true_eq];constructor
 ·intro h; exact Prod.ext (by simp; omega) (by simp; omega)
 ·intro h; cases h; simp
theorem Qa3 {V:PV} (O:ListAt S V (c.map rdV)) (a b:Nat) (B:Bool):oIn B S (.tup [.int a,.int b]) V=.ok (.bl (decide ((a,b)∈c) != B)) S:=by
 have J:Zu S V=some (c.map rdV):=by
  rcases O with rfl | rfl | ⟨i,rfl,e⟩
  ·rfl
  ·rfl
  ·rw [jv,e]
 have g2:(c.map rdV).all (Qz dep)=true:=by simp [Qz,dep,rdV]
 have U:Qz dep (.tup [.int (a:Int),.int b])=true:=rfl;have hd:der S (.tup [.int (a:Int),.int b])=.tup [.int a,.int b]:=rfl;have I:((c.map rdV).any fun y=>peq y (.tup [.int a,.int b]))=decide ((a,b)∈c):=by
  rw [List.any_map,Bool.eq_iff_iff,List.any_eq_true,decide_eq_true_iff];constructor
  ·rintro ⟨y,Y,e⟩;have e:peq (rdV y) (.tup [.int a,.int b])=true:=e;rw [Qef,decide_eq_true_eq] at e;rw [e]; exact Y
  ·intro h;exact ⟨_,h,by show peq (rdV (a,b)) (.tup [.int a,.int b])=true; rw [Qef,decide_eq_true_eq]⟩
 unfold oIn;rw [J,hd];simp only [U,g2,and_self,if_true,I]
def wA (xs:List Int) (c:List (Nat × Nat)):Int:=U8 xs.length fun h=>if (h,0)∈c then 0 else xs.getD h 0
def wR (c:List (Nat × Nat)) (t:Nat) (ts:List Tr):Int:=(ts.map fun z=>if (z.1.1,t)∈c/\(z.1.2,t + 1)∉c then z.2 else 0).sum
def wB (rs:List (List Tr)) (c:List (Nat × Nat)):Int:=U8 rs.length fun t=>wR c t (rs.getD t [])
def wC (ks:List Tr) (c:List (Nat × Nat)):Int:=(ks.map fun z=>if (z.1.2,z.1.1)∈c then z.2 else 0).sum
theorem Qsm (l:List α) (p:α->Prop) [DecidablePred p] (f:α->Int) (B:Bool):((l.filter fun x=>decide (p x) != B).map f).sum=(l.map fun x=>if (decide (p x) != B)=true then f x else 0).sum:=Q1x _ _ l
theorem hcC {V:PV} {tt:MT} {B:ME} (J:ListAt S V (c.map rdV)) (I:tt=toB (mOp (oIn false) (Z5 (Q1 (mOp oIx (Q2 0) (mC (.int 1))) (Q1 (mOp oIx (Q2 0) (mC (.int 0))) Q6))) (Q2 1))) (O:B=mOp oIx (Q2 0) (mC (.int 2))):Jf (Q4 0) tt B [] [none,some V] (ks.map trV) S=.ok ((ks.filter fun z=>decide ((z.1.2,z.1.1)∈c) != false).map fun z=>.int z.2) S:=by
 rw [I,O];exact yz _ _ _ (by simp) fun z _=>⟨_,rfl,Qq (Q8 (J3 (Q3 (Q8 rfl rfl rfl) (Q3 (Q8 rfl rfl rfl) rfl)) (by simp)) rfl (Qa3 J z.1.2 z.1.1 false)),fun _=>Q8 rfl rfl rfl⟩
theorem suC :Zj (fun ns=>some (.int ns.sum)) S [.lst ((ks.filter fun z=>decide ((z.1.2,z.1.1)∈c) != false).map fun z=>.int z.2)]=.ok (.int (wC ks c)) S:=by
 rw [Qca,Qsm ks (fun z=>(z.1.2,z.1.1)∈c)]
 show Res.ok (PV.int _) S=_;unfold wC;congr 3;refine F3 fun z _=>?_
 by_cases a:(z.1.2,z.1.1)∈c <;> simp [a]
abbrev awG (xs:List Int) (rs:List (List Tr)) (ks:List Tr) (V:PV) (t:Int) (c6 c7 c8 c9 c10:Option PV):Gam:=[some (qV xs rs ks),some V,some (.tup (xs.map .int)),some (.tup (rs.map tsV)),some (.tup (ks.map trV)),some (.int t),c6,c7,c8,c9,c10]
theorem Q8s (q:Qok xs rs ks) {V:PV} (hV:ListAt S V (c.map rdV)):Y7 [qV xs rs ks,V] S=.ok (.int (wA xs c + wB rs c + wC ks c)) S:=by
 have x4:=q.x4;have r4:=q.r4;have k5:=q.k5;obtain ⟨Γ1,S1,f1,O,rfl,rfl⟩:=Y2 (g:=fun k:Nat=>PV.int (k:Int)) (xs:=List.range xs.length) (ga:=Q4 6) (body:=Wk) (w:=[]) (Γ:=awG xs rs ks V 0 none none none none none) (st:=S)
  (fun k Γ st=>∃ O,Γ=awG xs rs ks V (U8 k fun h=>if (h,0)∈c then 0 else xs.getD h 0) O none none none none/\st=S) (fun _ _ _ _=>by simp)
  (fun k x Γ st Z ⟨O,J,B⟩=>by
   subst J; subst B;have hk:k < xs.length:=by simpa using (O0.mp Z).1
   rw [List.getElem?_range hk] at Z;cases Z;have i1:=Qa3 hV k 0 true;have ix:oIx st (.tup (xs.map .int)) (.int k)=.ok (.int (xs.getD k 0)) st:=by
    show okO st (atI (xs.map PV.int) (k:Int))=_;rw [Q0h,Sm.atI_get (Vk hk 0)]; rfl
   refine ⟨_,rfl,?_⟩
   by_cases a:(k,0)∈c
   ·rw [bQ a] at i1;refine ⟨_,_,Ya (Qq (Q8 (J3 (Q3 rfl (Q3 rfl rfl)) (by simp)) rfl i1)) rfl,some (.int k),?_,rfl⟩;rw [Wb,bN a,Int.add_zero]; rfl
   ·rw [bP a] at i1;refine ⟨_,_,ji (Qq (Q8 (J3 (Q3 rfl (Q3 rfl rfl)) (by simp)) rfl i1)) (Qt (Q8 rfl (Q8 rfl rfl ix) (Q2u st _ _))),some (.int k),?_,rfl⟩;rw [Wb,bO a]; rfl)
  ⟨_,rfl,rfl⟩
 rw [<- Yy,F6] at f1;obtain ⟨a5,S2,f2,c7,c8,c9,I,rfl,rfl⟩:=Y2 (g:=fun k:Nat=>PV.int (k:Int)) (xs:=List.range rs.length) (ga:=Q4 7) (body:=Wj) (w:=[]) (Γ:=awG xs rs ks V (wA xs c) O none none none none) (st:=S1)
  (fun k Γ st=>∃ c7 c8 c9 I,Γ=awG xs rs ks V (wA xs c + U8 k fun t=>wR c t (rs.getD t [])) O c7 c8 c9 I/\st=S1) (fun _ _ _ _=>by simp)
  (fun k x Γ st Z ⟨c7,c8,c9,I,J,B⟩=>by
   subst J; subst B;have hk:k < rs.length:=by simpa using (O0.mp Z).1
   rw [List.getElem?_range hk] at Z;cases Z;have ix:oIx st (.tup (rs.map tsV)) (.int k)=.ok (tsV (rs.getD k [])) st:=by
    show okO st (atI (rs.map tsV) (k:Int))=_;rw [Q0h,Sm.atI_get (Vk hk [])]; rfl
   have tl:=(q.rb _ (E6 (Vk hk []))).len;obtain ⟨ts,a2⟩:∃ ts,rs.getD k []=ts:=⟨_,rfl⟩;obtain ⟨Y,a1⟩:∃ Y,(wA xs c + U8 k fun t=>wR c t (rs.getD t []))=Y:=⟨_,rfl⟩
   rw [a2] at ix tl;obtain ⟨a4,S3,f3,d8,d9,U,rfl,rfl⟩:=Q3e (g:=trV) (xs:=ts) (ga:=Qv (Q5 (Q4 8) (Q5 (Q4 9) (Q5 (Q4 10) Qw)))) (body:=Wi) (w:=[]) (Γ:=awG xs rs ks V Y O (some (.int k)) c8 c9 I) (st:=st)
    (fun pre Γ st'=>∃ d8 d9 U,Γ=awG xs rs ks V (Y + wR c k pre) O (some (.int k)) d8 d9 U/\st'=st) (fun _ _ _ _=>by simp)
    (fun pre z a3 Γ st' hz ⟨d8,d9,U,J,B⟩=>by
     subst J; subst B;have i1:=Qa3 hV z.1.1 k false;have i2:=Qa3 hV z.1.2 (k + 1) true;have ws:wR c k (pre ++ [z])=wR c k pre + if (z.1.1,k)∈c/\(z.1.2,k + 1)∉c then z.2 else 0:=by
      unfold wR;rw [E3,List.sum_append]; simp
     have m1:toB (mOp (oIn false) (Z5 (Q1 (Q2 8) (Q1 (Q2 7) Q6))) (Q2 1)) (awG xs rs ks V (Y + wR c k pre) O (some (.int k)) (some (.int z.1.1)) (some (.int z.1.2)) (some (.int z.2))) st'=.ok (decide ((z.1.1,k)∈c) != false) st':=Qq (Q8 (J3 (Q3 rfl (Q3 rfl rfl)) (by simp)) rfl i1);have m2:toB (mOp (oIn true) (Z5 (Q1 (Q2 9) (Q1 (mOp Yv (Q2 7) (mC (.int 1))) Q6))) (Q2 1)) (awG xs rs ks V (Y + wR c k pre) O (some (.int k)) (some (.int z.1.1)) (some (.int z.1.2)) (some (.int z.2))) st'=.ok (decide ((z.1.2,k + 1)∈c) != true) st':=Qq (Q8 (J3 (Q3 rfl (Q3 (Q8 rfl rfl (Q2u st' _ _)) rfl)) (by simp)) rfl i2);refine ⟨_,rfl,?_⟩
     by_cases a:(z.1.1,k)∈c
     ·rw [bQ a] at m1
      by_cases b:(z.1.2,k + 1)∈c
      ·rw [bQ b] at m2;refine ⟨_,_,Ya (Q28 m1 m2) rfl,some (.int z.1.1),some (.int z.1.2),some (.int z.2),?_,rfl⟩;rw [ws,bO (fun h=>h.2 b),Int.add_zero]; rfl
      ·rw [bP b] at m2;refine ⟨_,_,ji (Q28 m1 m2) (Qt (Q8 rfl rfl (Q2u st' _ _))),some (.int z.1.1),some (.int z.1.2),some (.int z.2),?_,rfl⟩;rw [ws,bN ⟨a,b⟩,<- Int.add_assoc]; rfl
     ·rw [bP a] at m1;refine ⟨_,_,Ya (Qag m1) rfl,some (.int z.1.1),some (.int z.1.2),some (.int z.2),?_,rfl⟩;rw [ws,bO (fun h=>a h.1),Int.add_zero]; rfl)
    ⟨_,_,_,by rw [show wR c k []=0 from rfl,Int.add_zero],rfl⟩
   refine ⟨awG xs rs ks V Y O (some (.int k)) c8 c9 I,by rw [a1]; rfl,_,_,Z6 (K1 (p:=tsV ts) (Q8 rfl rfl ix) rfl (by rw [O1]; omega)) f3,some (.int k),d8,d9,U,?_,rfl⟩;rw [Wb,<- Int.add_assoc,a1,a2])
  ⟨none,none,none,none,by rw [show U8 0 (fun t=>wR c t (rs.getD t []))=0 from rfl,Int.add_zero],rfl⟩
 rw [<- Yy,F6] at f2;have step:Vy [some (qV xs rs ks),some V,none,none,none,none,none,none,none,none,none] S2=.rt (.int (wA xs c + wB rs c + wC ks c)) S2:=by
  refine Q9 (Γ1:=[some (qV xs rs ks),some V,some (.tup (xs.map .int)),some (.tup (rs.map tsV)),some (.tup (ks.map trV)),none,none,none,none,none,none]) (Q8u rfl rfl) ?_;refine Q9 (Γ1:=awG xs rs ks V 0 none none none none none) (Qt rfl) ?_;refine Q9 (Z6 (Q5s (by omega) (Zg (Q3 rfl rfl) (q_n S2))) f1) ?_;refine Q9 (Z6 (Q5s (by omega) (Zg (Q3 rfl rfl) (q_r S2))) f2) ?_;exact Ji (Q8 rfl (Zg (Q3 (K7 (W1 (K1 (p:=.tup (ks.map trV)) rfl rfl (by rw [O1]; omega)) (hcC hV rfl rfl))) rfl) suC) (Q2u S2 _ _))
 exact (Zv step).trans (Qk4 S2 _)
abbrev pl (t:Tr):Nd:=some (t.1.2,t.1.1)
def dph (φ:Nd->Int) (w:Wy):Int:=φ w.2.1 - φ w.1
def pot (g:Wy->Int):List Wy->List Int->Int
 | w :: ws,l :: ls=>l * g w + pot g ws ls
 | _,_=>0
theorem Q9j (g:Wy->Int):∀ (ws:List Wy) (ls:List Int) (k:Nat) (d:Int),ls.length=ws.length->k < ws.length->pot g ws (ls.set k (ls.getD k 0 + d))=pot g ws ls + d * g (ws.getD k wy0)
 | w :: ws,l :: ls,0,d,_,_=>by
  show (l + d) * g w + pot g ws ls=l * g w + pot g ws ls + d * g w;rw [Int.add_mul]; omega
 | w :: ws,l :: ls,k + 1,d,h,B=>by
  have h:ls.length + 1=ws.length + 1:=h;have B:k + 1 < ws.length + 1:=B;have:=Q9j g ws ls k d (by omega) (by omega);show l * g w + pot g ws (ls.set k (ls.getD k 0 + d))=l * g w + pot g ws ls + d * g (ws.getD k wy0);rw [this]; omega
 | [],_,k,_,_,B=>absurd B (Nat.not_lt_zero _)
 | _ :: _,[],_,_,h,_=>by cases h
theorem Q7q (g c:Wy->Int):∀ (ws:List Wy) (ls:List Int) (e:Nat->Int),ls.length=ws.length->(∀ k,k < ws.length->ls.getD k 0 * g (ws.getD k wy0) + e k<=c (ws.getD k wy0))->pot g ws ls + ((List.range ws.length).map e).sum<=(ws.map c).sum
 | w :: ws,l :: ls,e,h,B=>by
  have h:ls.length + 1=ws.length + 1:=h;have h1:=Q7q g c ws ls (fun k=>e (k + 1)) (by omega) fun k z=>B (k + 1) (Nat.succ_lt_succ z)
  have h2:l * g w + e 0<=c w:=B 0 (Nat.succ_pos _);rw [E4,List.range_succ_eq_map,D3,D3,G9,G9,E7];have I:((List.range ws.length).map (e ∘ Nat.succ)).sum=((List.range ws.length).map fun k=>e (k + 1)).sum:=rfl
  rw [I];show l * g w + pot g ws ls + _<=_;omega
 | [],ls,_,_,_=>by cases ls <;> simp [pot]
 | _ :: _,[],_,h,_=>by cases h
theorem Qwm (n:Nat):((List.range n).map fun _=>(0:Int)).sum=0:=by
 induction n with
 | zero=>rfl
 | succ n B=>rw [List.range_succ,E3,List.sum_append,B]; rfl
theorem Q7r (g c:Wy->Int) (ws:List Wy) (ls:List Int) (h:ls.length=ws.length) (B:∀ k,k < ws.length->ls.getD k 0 * g (ws.getD k wy0)<=c (ws.getD k wy0)):pot g ws ls<=(ws.map c).sum:=by
 have:=Q7q g c ws ls (fun _=>0) h fun k z=>by have:=B k z; omega
 rw [Qwm] at this;omega
theorem Qea (g c:Wy->Int):∀ (ws:List Wy) (ls:List Int),ls.length=ws.length->(∀ k,k < ws.length->ls.getD k 0 * g (ws.getD k wy0)=c (ws.getD k wy0))->pot g ws ls=(ws.map c).sum
 | w :: ws,l :: ls,h,B=>by
  have h:ls.length + 1=ws.length + 1:=h;have h1:=Qea g c ws ls (by omega) fun k z=>B (k + 1) (Nat.succ_lt_succ z)
  have h2:l * g w=c w:=B 0 (Nat.succ_pos _);rw [D3,G9];show l * g w + pot g ws ls=_;rw [h1,h2]
 | [],ls,_,_=>by cases ls <;> rfl
 | _ :: _,[],h,_=>by cases h
theorem Q7s (g:Wy->Int):∀ (ws:List Wy) (ls:List Int) (k:Nat),ls.length=ws.length->k < ws.length->(∀ k,k < ws.length->0<=ls.getD k 0 * g (ws.getD k wy0))->0<=pot g ws ls/\ls.getD k 0 * g (ws.getD k wy0)<=pot g ws ls
 | w :: ws,l :: ls,k,h,B,I=>by
  have h:ls.length + 1=ws.length + 1:=h;have h2:0<=l * g w:=I 0 (Nat.succ_pos _);have O:0<=pot g ws ls:=by
   cases ws with
   | nil=>cases ls <;> exact Int.le_refl _
   | cons J ws=>exact (Q7s g (J :: ws) ls 0 (by omega) (Nat.succ_pos _) fun k z=>I (k + 1) (Nat.succ_lt_succ z)).1
  cases k with
  | zero=>exact ⟨(by omega:0<=l * g w + pot g ws ls),(by omega:l * g w<=l * g w + pot g ws ls)⟩
  | succ k=>
   have B:k + 1 < ws.length + 1:=B;have h1:=Q7s g ws ls k (by omega) (by omega) fun k z=>I (k + 1) (Nat.succ_lt_succ z)
   exact ⟨(by omega:0<=l * g w + pot g ws ls),show ls.getD k 0 * g (ws.getD k wy0)<=l * g w + pot g ws ls by omega⟩
 | [],_,_,_,B,_=>absurd B (Nat.not_lt_zero _)
 | _ :: _,[],_,h,_,_=>by cases h
theorem Q60 (g:Wy->Int):∀ ws:List Wy,pot g ws (ws.map fun _=>0)=0
 | []=>rfl
 | w :: ws=>by
  show 0 * g w + pot g ws (ws.map fun _=>0)=0;rw [Q60 g ws]; omega
def tot (φ:Nd->Int):List Tr->List Int->Int
 | t :: ks,s :: svs=>s * (φ (pl t) - φ none) + tot φ ks svs
 | _,_=>0
theorem Q5d (B:Nd->Int) (sv:Int):∀ (ks:List Tr) (svs:List Int) (t:Tr),ks[svs.length]?=some t->tot B ks (svs ++ [sv])=tot B ks svs + sv * (B (pl t) - B none)
 | t' :: ks,[],t,h=>by
  cases h;cases ks <;> simp [tot]
 | t' :: ks,s :: svs,t,h=>by
  have:=Q5d B sv ks svs t h;show s * _ + tot B ks (svs ++ [sv])=s * _ + tot B ks svs + _;rw [this]; omega
 | [],_,_,h=>by cases h
def ClC (ws:List Wy) (ls:List Int) (C:Nd->Prop):Prop:=∀ k,k < ws.length->∀ u v,C u->oth (ws.getD k wy0) (ls.getD k 0) u=some v->C v
theorem FT.sub {C:Nd->Prop} (t:FT ws ls F) (O:C none) (Z:ClC ws ls C):∀ v∈kys F,C v:=by
 induction t with
 | base=>intro v U; rw [show v=none by simpa using U]; exact O
 | @snoc F v u k t h1 h2 J Y I=>
  intro x B;unfold kys at B;rw [E3] at B;rcases D4.mp B with B | B
  ·exact I x B
  ·rw [show x=v by simpa using B];exact Z k J u v (I u h2) Y
theorem ye (a:Int) (ls:List Int) (s:Nat × Bool) (j:Nat):(Vd a ls s).getD j 0=if s.1=j/\j < ls.length then ls.getD j 0 + (if s.2=true then a else -a) else ls.getD j 0:=by
 unfold Vd;rw [O3]
 by_cases e:s.1=j
 ·subst e
  by_cases h:s.1 < ls.length
  ·rw [F0 h]; exact (bN (c:=s.1=s.1/\s.1 < ls.length) ⟨rfl,h⟩).symm
  ·rw [G8 (by rw [L6]; omega),bO (c:=s.1=s.1/\s.1 < ls.length) (fun z=>h z.2),O3,G8 (by omega)]
 ·rw [E5 e,bO (c:=s.1=j/\j < ls.length) (fun z=>e z.1),O3]
theorem z8 (a:Int) {j:Nat}:∀ (ss:List (Nat × Bool)) (ls:List Int),j∉ss.map (·.1)->(push a ls ss).getD j 0=ls.getD j 0
 | [],_,_=>rfl
 | s :: ss,ls,h=>by
  rw [D3] at h;have h1:j∉ss.map (·.1):=fun z=>h (O4 _ z)
  have:=z8 a ss (Vd a ls s) h1;show (push a (Vd a ls s) ss).getD j 0=_;rw [this,ye,bO (c:=s.1=j/\j < ls.length) (fun z=>h (by rw [z.1]; exact O9))]
theorem Q9i (a:Int) {j:Nat} {b:Bool}:∀ (ss:List (Nat × Bool)) (ls:List Int),(ss.map (·.1)).Nodup->(j,b)∈ss->j < ls.length->(push a ls ss).getD j 0=ls.getD j 0 + (if b=true then a else -a)
 | s :: ss,ls,B,h,I=>by
  rw [D3] at B;obtain ⟨n1,J⟩:=L5.mp B;show (push a (Vd a ls s) ss).getD j 0=_;rcases D8.mp h with rfl | h
  ·rw [z8 a ss _ n1,ye,bN (c:=(j,b).1=j/\j < ls.length) ⟨rfl,I⟩]
  ·rw [Q9i a ss _ J h (by unfold Vd; rw [L6]; exact I),ye,bO (c:=s.1=j/\j < ls.length) (fun z=>n1 (by rw [z.1]; exact D7.mpr ⟨_,h,rfl⟩))]
theorem Pt.idx {v:Nd} (p:Pt ws ls F v ns ss):(∀ s∈ss,(ws.getD s.1 wy0).1∈v :: ns/\(ws.getD s.1 wy0).2.1∈v :: ns)/\(ss.map (·.1)).Nodup:=by
 induction p with
 | nil h=>exact ⟨fun s hs=>(by cases hs),List.nodup_nil⟩
 | @cons v u k ns ss _ h1 h2 J _ B=>
  have I:(ws.getD k wy0).1∈v :: u :: ns/\(ws.getD k wy0).2.1∈v :: u :: ns/\((ws.getD k wy0).1=v\/(ws.getD k wy0).2.1=v):=by
   rcases Xp h2 with ⟨O,U,_⟩ | ⟨O,U,_⟩ <;> rw [O,U] <;> simp
  refine ⟨fun s hs=>?_,L5.mpr ⟨fun z=>?_,B.2⟩⟩
  ·rcases D8.mp hs with rfl | hs
   ·exact ⟨I.1,I.2.1⟩
   ·exact ⟨O4 _ (B.1 s hs).1,O4 _ (B.1 s hs).2⟩
  ·obtain ⟨s,hs,e⟩:=D7.mp z;have e:s.1=k:=e;have:=B.1 s hs;rw [e] at this;rcases I.2.2 with q | q
   ·exact J (by rw [<- q]; exact this.1)
   ·exact J (by rw [<- q]; exact this.2)
theorem Qe1 (B:Nd->Int) (a:Int) {v:Nd} (p:Pt ws ls F v ns ss):∀ ms:List Int,ms.length=ws.length->pot (dph B) ws (push a ms ss)=pot (dph B) ws ms + a * (B v - B none):=by
 induction p with
 | nil h=>intro ms _; show pot _ ws ms=_; rw [Int.sub_self,Int.mul_zero,Int.add_zero]
 | @cons v u k ns ss _ h1 h2 U _ Y=>
  intro ms O;show pot (dph B) ws (push a (Vd a ms (k,decide ((ws.getD k wy0).2.1=v))) ss)=_;rw [Y _ (by unfold Vd; rw [L6]; exact O)];have e:pot (dph B) ws (Vd a ms (k,decide ((ws.getD k wy0).2.1=v)))=pot (dph B) ws ms + (if decide ((ws.getD k wy0).2.1=v)=true then a else -a) * dph B (ws.getD k wy0):=Q9j _ ws ms k _ O h1;have I:(if decide ((ws.getD k wy0).2.1=v)=true then a else -a) * dph B (ws.getD k wy0)=a * (B v - B u):=by
   unfold dph;rcases Xp h2 with ⟨J,I,_⟩ | ⟨J,I,_⟩
   ·rw [bN (bQ I),J,I]
   ·have:(ws.getD k wy0).2.1≠v:=fun z=>U (by rw [<- z,J]; exact O9)
    rw [bO (by simpa using this),J,I,Int.neg_mul,<- Int.mul_neg,Int.neg_sub]
  rw [e,I,Int.add_assoc,<- Int.mul_add];congr 2;omega
structure FJ (ws:List Wy) (ks:List Tr) (svs ls:List Int) (sv:Int):Prop where
 cap:∀ k,k < ws.length->0<=ls.getD k 0/\ls.getD k 0<=(ws.getD k wy0).2.2
 con:∀ φ,pot (dph φ) ws ls=tot φ ks svs + sv * (match ks[svs.length]? with | some t=>φ (pl t) - φ none | none=>0)
 nn:0<=sv
 don:∀ i t,ks[i]?=some t->i < svs.length->0<=svs.getD i 0/\svs.getD i 0<=t.2/\(svs.getD i 0=t.2\/∃ C:Nd->Prop,C none/\ClC ws ls C/\¬ C (pl t))
theorem FJ.zero (h:∀ w∈ws,0<=w.2.2):FJ ws ks [] (ws.map fun _=>0) 0:=by
 refine ⟨fun k B=>?_,fun I=>?_,Int.le_refl _,fun i t _ hi=>absurd hi (Nat.not_lt_zero _)⟩
 ·have e:(ws.map fun _=>(0:Int)).getD k 0=0:=by rw [O3,F4]; cases ws[k]? <;> rfl
  rw [e];refine ⟨Int.le_refl _,h _ ?_⟩;rw [O3,O2 B]; exact F7 B
 ·rw [Q60];cases ks <;> simp [tot]
theorem FJ.push {ws:List Wy} {ks:List Tr} {svs ls:List Int} {sv:Int} (J:FJ ws ks svs ls sv) {a:Int} {F:Fd} {ns:List Nd} {ss:List (Nat × Bool)} {t:Tr} (ht:ks[svs.length]?=some t) (hl:ls.length=ws.length) (T:FT ws ls F) (p:Pt ws ls F (pl t) ns ss) (ha:1<=a) (hr:∀ s∈ss,a<=room ws ls s):FJ ws ks svs (push a ls ss) (sv + a):=by
 obtain ⟨i1,i2⟩:=p.idx;refine ⟨fun k I=>?_,fun φ=>?_,by have:=J.nn; omega,fun i t' hi h=>?_⟩
 ·have c:=J.cap k I
  by_cases q:k∈ss.map (·.1)
  ·obtain ⟨⟨k',b⟩,hs,rfl⟩:=D7.mp q;have r:=hr _ hs;rw [Q9i a ss ls i2 hs (by rw [hl]; exact I)];unfold room at r;cases b with
   | true=>rw [bN rfl] at r ⊢; simp only at r c ⊢; omega
   | false=>rw [bO E9] at r ⊢; simp only at r c ⊢; omega
  ·rw [z8 a ss ls q]; exact c
 ·rw [Qe1 φ a p ls hl,J.con φ,ht];simp only;rw [Int.add_mul,Int.add_assoc]
 ·obtain ⟨d1,d2,d3⟩:=J.don i t' hi h;refine ⟨d1,d2,d3.imp id fun ⟨C,Z,Y,c2⟩=>⟨C,Z,fun k I u v hu U=>?_,c2⟩⟩
  by_cases q:k∈ss.map (·.1)
  ·obtain ⟨s,hs,rfl⟩:=D7.mp q;have B:=i1 s hs;have sub:=fun x hx=>T.sub Z Y x (p.mem x hx)
   rcases Xp U with ⟨_,O,_⟩ | ⟨_,O,_⟩
   ·rw [<- O]; exact sub _ B.2
   ·rw [<- O]; exact sub _ B.1
  ·rw [z8 a ss ls q] at U;exact Y k I u v hu U
theorem FJ.done {svs:List Int} (J:FJ ws ks svs ls sv) {t:Tr} (B:ks[svs.length]?=some t) (hs:sv<=t.2) (T:FT ws ls F) (hc:∀ u∈kys F,Cld ws ls F u) (h:sv=t.2\/pl t∉kys F):FJ ws ks (svs ++ [sv]) ls 0:=by
 refine ⟨J.cap,fun O=>?_,Int.le_refl _,fun i t' hi I=>?_⟩
 ·rw [J.con O,B,Q5d O sv ks svs t B,Int.zero_mul,Int.add_zero]
 ·rw [O7] at I;have I:i < svs.length + 1:=I
  by_cases e:i=svs.length
  ·subst e;rw [B] at hi;cases hi;rw [show (svs ++ [sv]).getD svs.length 0=sv by rw [O3,D5 (O8 _),L0]; rfl];exact ⟨J.nn,hs,h.imp id fun z=>⟨fun v=>v∈kys F,T.root,fun k Z u v U Y=>hc u U k Z v Y,z⟩⟩
  ·rw [show (svs ++ [sv]).getD i 0=svs.getD i 0 by rw [O3,O6 (by omega),O3]];exact J.don i t' hi (by omega)
theorem Q5i {α β:Type} (f:α->List β) (c:β->Int):∀ l:List α,((l.flatMap f).map c).sum=(l.map fun t=>((f t).map c).sum).sum
 | []=>rfl
 | a :: l=>by rw [List.flatMap_cons,E3,List.sum_append,D3,G9,Q5i f c l]
theorem Q03 (c:Wy->Int) (xs:List Int) (rs:List (List Tr)):((wsQ xs rs).map c).sum=U8 xs.length (fun h=>c (none,some (h,0),xs.getD h 0)) + U8 rs.length (fun t=>U8 xs.length (fun h=>c (some (h,t),some (h,t + 1),xs.sum)) + ((rs.getD t []).map fun z=>c (some (z.1.1,t),some (z.1.2,t + 1),z.2)).sum):=by
 unfold wsQ;rw [E3,List.sum_append,Q5i];have h1:((wsp xs).map c).sum=U8 xs.length (fun h=>c (none,some (h,0),xs.getD h 0)):=by unfold wsp U8; rw [E7]; rfl
 rw [h1];congr 1;show ((List.range rs.length).map _).sum=((List.range rs.length).map _).sum;congr 1;refine F3 fun t _=>?_
 rw [E3,List.sum_append];unfold wst wrd U8;rw [E7,E7];rfl
inductive WF:Wy->Prop where
 | sp (h:Nat) (m:Int):WF (none,some (h,0),m)
 | go (i j t:Nat) (m:Int):WF (some (i,t),some (j,t + 1),m)
theorem y6 :∀ w∈wsQ xs rs,WF w:=by
 intro w B;unfold wsQ at B;rcases D4.mp B with B | B
 ·unfold wsp at B;obtain ⟨h,I,rfl⟩:=D7.mp B;exact .sp _ _
 ·obtain ⟨t,J,B⟩:=List.mem_flatMap.mp B;rcases D4.mp B with B | B
  ·unfold wst at B;obtain ⟨h,I,rfl⟩:=D7.mp B;exact .go _ _ _ _
  ·unfold wrd at B;obtain ⟨z,hz,rfl⟩:=D7.mp B;exact .go _ _ _ _
theorem yf {g g':Wy->Int}:∀ {ws:List Wy} (ls:List Int),(∀ w∈ws,g w=g' w)->pot g ws ls=pot g' ws ls
 | w :: ws,l :: ls,h=>by
  show l * g w + pot g ws ls=l * g' w + pot g' ws ls;rw [h w O9,yf ls fun x B=>h x (O4 _ B)]
 | [],ls,_=>by cases ls <;> rfl
 | _ :: _,[],_=>rfl
theorem Q9k (g g':Wy->Int):∀ (ws:List Wy) (ls:List Int),pot (fun w=>g w + g' w) ws ls=pot g ws ls + pot g' ws ls
 | w :: ws,l :: ls=>by
  show l * (g w + g' w) + pot _ ws ls=l * g w + pot g ws ls + (l * g' w + pot g' ws ls);rw [Q9k g g' ws ls,Int.mul_add]; omega
 | [],ls=>by cases ls <;> rfl
 | _ :: _,[]=>rfl
theorem Q4a (g g':Wy->Int):∀ (ws:List Wy) (ls:List Int),pot (fun w=>g w - g' w) ws ls=pot g ws ls - pot g' ws ls
 | w :: ws,l :: ls=>by
  show l * (g w - g' w) + pot _ ws ls=l * g w + pot g ws ls - (l * g' w + pot g' ws ls);rw [Q4a g g' ws ls,Int.mul_sub]; omega
 | [],ls=>by cases ls <;> rfl
 | _ :: _,[]=>rfl
theorem Qe9 {g:Wy->Int}:∀ {ws:List Wy} {ls:List Int},(∀ w∈ws,0<=g w)->(∀ l∈ls,0<=l)->0<=pot g ws ls
 | w :: ws,l :: ls,h,k=>by
  have h1:=Int.mul_nonneg (k l O9) (h w O9);have h2:=Qe9 (fun x B=>h x (O4 _ B)) fun x B=>k x (O4 _ B)
  show 0<=l * g w + pot g ws ls;omega
 | [],ls,_,_=>by cases ls <;> exact Int.le_refl _
 | _ :: _,[],_,_=>Int.le_refl _
theorem FJ.pos {svs:List Int} (J:FJ ws ks svs ls sv) (I:ls.length=ws.length):∀ l∈ls,0<=l:=fun l h=>by
 obtain ⟨k,B,rfl⟩:=List.mem_iff_getElem.mp h;have:=(J.cap k (by omega)).1;rw [O3,O2 B] at this;exact this
theorem FJ.con0 {svs:List Int} (J:FJ ws ks svs ls 0) (B:Nd->Int):pot (dph B) ws ls=tot B ks svs:=by rw [J.con B,Int.zero_mul,Int.add_zero]
def gm (c:K3->Int) (w:Wy):Int:=match w.1,w.2.1 with
 | some a,some b=>if a.1=b.1 then 0 else c (a.2,a.1,b.1)
 | _,_=>0
theorem Q83 (c:K3->Int):∀ (ws:List Wy) (ls:List Int),(∀ l∈ls,0<=l)->((mvs ws ls).map fun m=>c (mK m) * m.k).sum=pot (gm c) ws ls
 | (u,v,m) :: ws,l :: ls,h=>by
  have B:=Q83 c ws ls fun x I=>h x (O4 _ I)
  have J:=h l O9;show _=l * gm c (u,v,m) + pot (gm c) ws ls;unfold mvs at B ⊢;rw [List.zip_cons_cons,List.filterMap_cons,<- B];cases u with
  | none=>simp [gm,mvO]
  | some a=>
   cases v with
   | none=>simp [gm,mvO]
   | some b=>
    by_cases e:a.1=b.1
    ·simp [gm,mvO,e]
    ·by_cases p:0 < l
     ·simp [gm,mvO,e,p,mK,Int.mul_comm]
     ·have:l=0:=by omega
      subst this;simp [gm,mvO,e]
 | [],ls,_=>by cases ls <;> rfl
 | _ :: _,[],_=>rfl
theorem Q41 (B:Nat):∀ (zs:List (Tr × Int)) (h:List Int),(∀ z∈zs,z.1.1.2 < h.length)->∀ k:Nat,(tkG B h zs).getD k 0=h.getD k 0 - (zs.map fun z=>if z.1.1.1=B/\z.1.1.2=k then z.2 else 0).sum
 | [],h,_,k=>by show h.getD k 0=_ - 0; omega
 | z :: zs,h,hz,k=>by
  have J:=hz z O9;show (tkG B (if z.1.1.1=B then Xc h (z.1.1.2:Nat) (-z.2) else h) zs).getD k 0=_;rw [D3,G9]
  by_cases p:z.1.1.1=B
  ·rw [bN p,Q41 B zs _ (fun x I=>by rw [W3]; exact hz x (O4 _ I)),Q25 (by omega) (by omega)]
   by_cases q:z.1.1.2=k
   ·rw [bN (by omega),bN ⟨p,q⟩]; omega
   ·rw [bO (by omega),bO (fun y=>q y.2)]; omega
  ·rw [bO p,Q41 B zs _ (fun x I=>hz x (O4 _ I)),bO (fun y=>p y.1)]; omega
theorem Qcv (k m:Nat):∀ (ks:List Tr) (svs:List Int),tot (fun x=>if x=some (k,m) then 1 else 0) ks svs=((ks.zip svs).map fun z=>if z.1.1.1=m/\z.1.1.2=k then z.2 else 0).sum
 | t :: ks,s :: svs=>by
  rw [List.zip_cons_cons,D3,G9,<- Qcv k m ks svs];show s * ((if some (t.1.2,t.1.1)=some (k,m) then 1 else 0) - (if (none:Nd)=some (k,m) then 1 else 0)) + _=(if t.1.1=m/\t.1.2=k then s else 0) + _;rw [bO (show ¬ (none:Nd)=some (k,m) from fun z=>by cases z)]
  by_cases p:t.1.1=m/\t.1.2=k
  ·rw [bN p,bN (by rw [p.1,p.2])]; omega
  ·rw [bO p,bO (fun z=>p (by cases z; exact ⟨rfl,rfl⟩))]; omega
 | [],svs=>by cases svs <;> rfl
 | _ :: _,[]=>rfl
theorem Qa5 {xs:List Int} {rs:List (List Tr)} {ks:List Tr} (Q:Qok xs rs ks) {svs ls:List Int} (J:FJ (wsQ xs rs) ks svs ls 0) (hl:ls.length=(wsQ xs rs).length):∀ (d m:Nat) (h:List Int),h.length=xs.length->(∀ k,k < xs.length->pot (fun w=>if w.2.1=some (k,m) then 1 else 0) (wsQ xs rs) ls<=h.getD k 0)->hlG ks svs (ldm (mvs (wsQ xs rs) ls)) (List.range' m d) h=true
 | 0,_,_,_,_=>rfl
 | d + 1,m,h,Z,hi=>by
  have pos:=J.pos hl;have O:=Qqc (Q4k Q ls).1;have l1:=Q40 m (ks.zip svs) h;have hz:∀ z∈ks.zip svs,z.1.1.2 < h.length:=fun z hz=>by rw [Z]; exact (Q.kb z.1 (List.of_mem_zip hz).1).2.1
  obtain ⟨G,B⟩:∃ G,ldm (mvs (wsQ xs rs) ls)=G:=⟨_,rfl⟩;have gs:∀ c:K3->Int,gS c G=pot (gm c) (wsQ xs rs) ls:=fun c=>by rw [<- B,Qg3,Q83 c _ _ pos]
  have left:∀ k,k < xs.length->pot (fun w=>(if w.1=some (k,m) then 1 else 0) - gm (fun z=>if z.1=(m:Int)/\(k:Int)=z.2.1 then 1 else 0) w) (wsQ xs rs) ls<=(Q2r m G (tkG m h (ks.zip svs))).getD k 0:=fun k I=>by
   rw [<- B,Q1u m O (by rw [l1,Z]),B,gs,Q41 m _ h hz,<- Qcv,<- J.con0,Q4a];have e:pot (dph fun x=>if x=some (k,m) then 1 else 0) (wsQ xs rs) ls=pot (fun w=>if w.2.1=some (k,m) then 1 else 0) (wsQ xs rs) ls - pot (fun w=>if w.1=some (k,m) then 1 else 0) (wsQ xs rs) ls:=Q4a (fun w:Wy=>if w.2.1=some (k,m) then (1:Int) else 0) (fun w=>if w.1=some (k,m) then 1 else 0) _ _
   have:=hi k I;omega
  rw [List.range'_succ,B,hlG,bN,<- B]
  ·refine Qa5 Q J hl d (m + 1) _ (by rw [Q1v,Kq]; omega) fun k I=>?_
   rw [B];have e1:=Q1w m (G:=G) (by rw [<- B]; exact O) (show (Q2r m G (tkG m h (ks.zip svs))).length=xs.length by rw [Kq]; omega) k;rw [e1,gs];have Y:=left k I;have e3:pot (fun w=>if w.2.1=some (k,m + 1) then 1 else 0) (wsQ xs rs) ls=pot (fun w=>((if w.1=some (k,m) then 1 else 0) - gm (fun z=>if z.1=(m:Int)/\(k:Int)=z.2.1 then 1 else 0) w) + gm (fun z=>if z.1=(m:Int)/\(k:Int)=z.2.2 then 1 else 0) w) (wsQ xs rs) ls:=by
    refine yf ls fun w hw=>?_
    cases y6 w hw with
    | sp h m'=>
     show (if some (h,0)=some (k,m + 1) then (1:Int) else 0)=(if (none:Nd)=some (k,m) then 1 else 0) - 0 + 0;rw [bO (by simp),bO (by simp)]; rfl
    | go i j t m'=>
     show (if some (j,t + 1)=some (k,m + 1) then (1:Int) else 0)=(if some (i,t)=some (k,m) then 1 else 0) - (if i=j then 0 else if (t:Int)=(m:Int)/\(k:Int)=(i:Int) then 1 else 0) + (if i=j then 0 else if (t:Int)=(m:Int)/\(k:Int)=(j:Int) then 1 else 0);have q1:(some (j,t + 1)=some (k,m + 1)) <-> (j=k/\t=m):=by simp
     have U:(some (i,t)=some (k,m)) <-> (i=k/\t=m):=by simp
     simp only [q1,U]
     by_cases a:i=j
     ·subst a; simp
     ·by_cases b:t=m
      ·subst b
       by_cases c1:i=k <;> by_cases c2:j=k <;> simp [a,c1,c2] <;> omega
      ·have:¬ (t:Int)=(m:Int):=by omega
       simp [b,this]
   rw [e3,Q9k];omega
  ·refine F5.mpr fun x hx=>bQ ?_
   obtain ⟨k,I,rfl⟩:=List.mem_iff_getElem.mp hx;have a1:k < xs.length:=by rw [Kq,l1,Z] at I; exact I
   have Y:=left k a1;rw [O3,O2 I] at Y;refine Int.le_trans (Qe9 (fun w hw=>?_) pos) Y;cases y6 w hw with
   | sp h m'=>
    show (0:Int)<=(if (none:Nd)=some (k,m) then 1 else 0) - 0;rw [bO (by simp)]; exact Int.le_refl _
   | go i j t m'=>
    show (0:Int)<=(if some (i,t)=some (k,m) then 1 else 0) - (if i=j then 0 else if (t:Int)=(m:Int)/\(k:Int)=(i:Int) then 1 else 0);have U:(some (i,t)=some (k,m)) <-> (i=k/\t=m):=by simp
    simp only [U]
    by_cases a:i=j
    ·rw [bN a]; split <;> omega
    ·rw [bO a]
     by_cases b:(t:Int)=(m:Int)/\(k:Int)=(i:Int)
     ·rw [bN b,bN (by omega)]; omega
     ·rw [bO b]; split <;> omega
theorem Q3z {k:Nat} (I:k < n) (f:Nat->Int):U8 n (fun i=>if i=k then f i else 0)=f k:=by
 induction n with
 | zero=>omega
 | succ n B=>
  rw [Wb]
  by_cases e:k=n
  ·subst e;rw [bN rfl,J2 (g:=fun _=>0) fun i hi=>bO (by omega),Y9,Int.zero_add]
  ·rw [B (by omega),bO (by omega),Int.add_zero]
theorem Qm5:∀ {G:L3},(G.map (·.1)).Nodup->∀ e∈G,gS (fun z=>if z=e.1 then 1 else 0) G=e.2
 | x :: G,nd,e,B=>by
  rw [D3] at nd;obtain ⟨h1,h2⟩:=L5.mp nd;rw [Q4v];rcases D8.mp B with rfl | B
  ·have:gS (fun z=>if z=e.1 then 1 else 0) G=0:=by
    unfold gS;rw [F3 (g:=fun _=>(0:Int)) fun y J=>by rw [show ((fun z=>if z=e.1 then (1:Int) else 0) y.1)=0 from bO (fun q=>h1 (by rw [<- q]; exact D7.mpr ⟨y,J,rfl⟩)),Int.zero_mul]]
    clear h1 h2 nd B
    induction G with
    | nil=>rfl
    | cons _ _ I=>rw [D3,G9,I]; rfl
   rw [this,bN rfl]; omega
  ·rw [Qm5 h2 e B,bO (fun q=>h1 (by rw [q]; exact D7.mpr ⟨e,B,rfl⟩)),Int.zero_mul,Int.zero_add]
theorem Qf4 :∀ m∈mvs (wsQ xs rs) ls,1<=m.k/\0<=m.t:=fun m I=>by
 obtain ⟨⟨w,l⟩,hz,ho⟩:=List.mem_filterMap.mp I;cases y6 w (List.of_mem_zip hz).1 with
 | sp h B=>cases ho
 | go i j t B=>
  unfold mvO at ho;simp only at ho
  split at ho
  ·rename_i q;cases ho;exact ⟨q.2,Int.natCast_nonneg _⟩
  ·cases ho
theorem Qcd (Q:Qok xs rs ks) {svs:List Int} (J:FJ (wsQ xs rs) ks svs ls 0) (Y:ls.length=(wsQ xs rs).length):Qaf rs (mvs (wsQ xs rs) ls)=true:=by
 have pos:=J.pos Y;unfold Qaf;rw [show (mvs (wsQ xs rs) ls).any (fun m=>decide (m.k < 1))=false from List.any_eq_false.mpr fun m O=>by have:=(Qf4 m O).1; simp; omega,Bool.not_false,Bool.true_and]
 refine F5.mpr fun e Z=>bQ ?_
 obtain ⟨m,O,I⟩:=Q0a _ e Z;have ht:=(Qf4 m O).2;have e9:((mvs (wsQ xs rs) ls).map fun m=>(if mK m=e.1 then (1:Int) else 0) * m.k).sum=pot (gm fun z=>if z=e.1 then 1 else 0) (wsQ xs rs) ls:=Q83 (fun z=>if z=e.1 then 1 else 0) _ _ pos
 rw [<- Qm5 (Qfj _) e Z,Qg3,e9];refine Int.le_trans (Q7r _ (fun w=>gm (fun z=>if z=e.1 then 1 else 0) w * w.2.2) _ _ Y fun k hk=>?_) ?_
 ·have c:=J.cap k hk;rw [Int.mul_comm];refine Int.mul_le_mul_of_nonneg_left c.2 ?_;unfold gm
  split
  ·split
   ·exact Int.le_refl _
   ·dsimp only
    split <;> omega
  ·exact Int.le_refl _
 ·rw [Q03];rw [J2 (g:=fun _=>0) fun h _=>(show gm _ (none,some (h,0),xs.getD h 0) * _=0 from Int.zero_mul _),Y9,Int.zero_add]
  have h0:0<=e.1.1:=by rw [I]; exact ht
  have q:∀ t,t < rs.length->U8 xs.length (fun h=>gm (fun z=>if z=e.1 then 1 else 0) (some (h,t),some (h,t + 1),xs.sum) * xs.sum) + ((rs.getD t []).map fun z=>gm (fun z=>if z=e.1 then 1 else 0) (some (z.1.1,t),some (z.1.2,t + 1),z.2) * z.2).sum=if t=e.1.1.toNat then ((rs.getD t []).map fun z=>if z.1.1=z.1.2 then 0 else if isR e.1.2.1 e.1.2.2 z=true then z.2 else 0).sum else 0:=fun t B=>by
   rw [J2 (g:=fun _=>0) fun h _=>by
    show (if h=h then 0 else _) * xs.sum=0;rw [bN rfl,Int.zero_mul],Y9,Int.zero_add]
   by_cases p:t=e.1.1.toNat
   ·rw [bN p];congr 1;refine F3 fun z _=>?_
    show (if z.1.1=z.1.2 then 0 else if ((t:Int),(z.1.1:Int),(z.1.2:Int))=e.1 then 1 else 0) * z.2=_
    by_cases a:z.1.1=z.1.2
    ·rw [bN a,bN a,Int.zero_mul]
    ·rw [bO a,bO a];have U:(((t:Int),(z.1.1:Int),(z.1.2:Int))=e.1) <-> isR e.1.2.1 e.1.2.2 z=true:=by
      unfold isR;rw [Bool.and_true,L8,beq_iff_eq,beq_iff_eq,Prod.ext_iff,Prod.ext_iff];constructor
      ·exact fun y=>⟨y.2.1,y.2.2⟩
      ·exact fun y=>⟨by show (t:Int)=e.1.1; omega,y.1,y.2⟩
     simp only [U]
     split <;> omega
   ·rw [bO p];rw [F3 (g:=fun _=>(0:Int)) fun z _=>by
     show (if z.1.1=z.1.2 then 0 else if ((t:Int),(z.1.1:Int),(z.1.2:Int))=e.1 then 1 else 0) * z.2=0;rw [bO (show ¬ (((t:Int),(z.1.1:Int),(z.1.2:Int))=e.1) from fun y=>p (by rw [<- y]; rfl))]
     split <;> exact Int.zero_mul _]
    clear B
    induction rs.getD t [] with
    | nil=>rfl
    | cons _ _ ih=>rw [D3,G9,ih]; rfl
  rw [J2 q];unfold Q6d
  by_cases b:e.1.1 < rs.length
  ·rw [bN ⟨h0,b⟩,Q3z (k:=e.1.1.toNat) (by omega) (fun t=>((rs.getD t []).map fun z=>if z.1.1=z.1.2 then 0 else if isR e.1.2.1 e.1.2.2 z=true then z.2 else 0).sum)]
   unfold xw;rw [Q1x];refine Int.le_of_eq (congrArg _ (F3 fun z hz=>bO ?_));exact ((Q.rb _ (by rw [O3,O2 (show e.1.1.toNat < rs.length by omega)]; exact F7 _)).ok z hz).1.2.2
  ·rw [bO (fun y=>b y.2),J2 (g:=fun _=>0) fun t B=>bO (by omega),Y9]
   exact Int.le_refl _
theorem Qda (Q:Qok xs rs ks) {svs:List Int} (J:FJ (wsQ xs rs) ks svs ls 0) (O:ls.length=(wsQ xs rs).length) (h1:svs.length=ks.length):Qhw ks svs=true:=by
 unfold Qhw;rw [bQ h1,Bool.true_and];refine F5.mpr fun z hz=>?_
 obtain ⟨i,hi,rfl⟩:=List.mem_iff_getElem.mp hz;rw [List.length_zip] at hi;obtain ⟨I,B,_⟩:=J.don i (ks[i]'(by omega)) (O2 _) (by omega);rw [O3,O2 (show i < svs.length by omega)] at I B;rw [List.getElem_zip,L8,decide_eq_true_eq,decide_eq_true_eq];exact ⟨I,B⟩
theorem Qp0 (Q:Qok xs rs ks) {svs:List Int} (J:FJ (wsQ xs rs) ks svs ls 0) (O:ls.length=(wsQ xs rs).length) (k:Nat) (B:k < xs.length):pot (fun w=>if w.2.1=some (k,0) then 1 else 0) (wsQ xs rs) ls<=xs.getD k 0:=by
 refine Int.le_trans (Q7r _ (fun w=>(if w.2.1=some (k,0) then 1 else 0) * w.2.2) _ _ O fun k B=>?_) (Int.le_of_eq ?_)
 ·rw [Int.mul_comm];exact Int.mul_le_mul_of_nonneg_left (J.cap k B).2 (by split <;> omega)
 ·rw [Q03,J2 (n:=rs.length) (g:=fun _=>0) fun t _=>?_,Y9,Int.add_zero,J2 (g:=fun h=>if h=k then xs.getD h 0 else 0) fun h _=>?_,Q3z B]
  ·show (if some (h,0)=some (k,0) then (1:Int) else 0) * xs.getD h 0=_
   by_cases e:h=k
   ·subst e; simp
   ·simp [e]
  ·have I:∀ (j:Nat) (m:Int),(if (some (j,t + 1):Nd)=some (k,0) then (1:Int) else 0) * m=0:=fun j m=>by rw [bO (by simp),Int.zero_mul]
   rw [J2 (g:=fun _=>0) fun h _=>I h xs.sum,Y9,Int.zero_add,F3 (g:=fun _=>(0:Int)) fun z _=>I z.1.2 z.2]
   induction rs.getD t [] with
   | nil=>rfl
   | cons _ _ U=>rw [D3,G9,U]; rfl
theorem yu (Q:Qok xs rs ks) {svs:List Int} (J:FJ (wsQ xs rs) ks svs ls 0) (B:ls.length=(wsQ xs rs).length) (h1:svs.length=ks.length):Qa4 xs rs ks (mvs (wsQ xs rs) ls) svs=true:=by
 unfold Qa4;rw [Qda Q J B h1,Bool.true_and,<- Bool.and_assoc,<- Qce Q,Qcd Q J B,Bool.true_and,List.range_eq_range'];exact Qa5 Q J B _ 0 xs rfl fun k I=>Qp0 Q J B k I
def inB (c:List (Nat × Nat)):Nd->Bool
 | none=>true
 | some z=>decide (z∈c)
def fiB (c:List (Nat × Nat)) (v:Nd):Int:=if inB c v=true then 0 else 1
def cpB (c:List (Nat × Nat)) (w:Wy):Int:=if inB c w.1=true/\inB c w.2.1=false then w.2.2 else 0
def Clo (r:Nat) (c:List (Nat × Nat)):Prop:=∀ h t,(h,t)∈c->t < r->(h,t + 1)∈c
theorem Qm8 (O:Clo rs.length c):((wsQ xs rs).map (cpB c)).sum=wA xs c + wB rs c:=by
 rw [Q03];congr 1
 ·refine J2 fun h _=>?_
  show (if true=true/\decide ((h,0)∈c)=false then xs.getD h 0 else 0)=if (h,0)∈c then 0 else xs.getD h 0
  by_cases p:(h,0)∈c <;> simp [p]
 ·refine J2 fun t J=>?_
  rw [J2 (f:=fun h=>cpB c (some (h,t),some (h,t + 1),xs.sum)) (g:=fun _=>0) fun h _=>bO (fun z=>?_),Y9,Int.zero_add]
  ·unfold wR;congr 1;refine F3 fun z _=>?_
   show (if decide ((z.1.1,t)∈c)=true/\decide ((z.1.2,t + 1)∈c)=false then z.2 else 0)=_;simp only [decide_eq_true_eq,decide_eq_false_iff_not]
  ·have I:(h,t)∈c:=of_decide_eq_true z.1;have B:(h,t + 1)∉c:=of_decide_eq_false z.2;exact B (O h t I J)
theorem Q90 (t:Tr) (ks:List Tr) (c:List (Nat × Nat)):wC (t :: ks) c=(if (t.1.2,t.1.1)∈c then t.2 else 0) + wC ks c:=by unfold wC; rw [D3,G9]
theorem Q5e (c:List (Nat × Nat)) (t:Tr) (ks:List Tr) (s:Int) (svs:List Int):tot (fiB c) (t :: ks) (s :: svs)=(if (t.1.2,t.1.1)∈c then 0 else s) + tot (fiB c) ks svs:=by
 show s * ((if decide ((t.1.2,t.1.1)∈c)=true then 0 else 1) - (if true=true then 0 else 1)) + _=_
 by_cases p:(t.1.2,t.1.1)∈c <;> simp [p]
theorem Qct (c:List (Nat × Nat)):∀ (ks:List Tr) (svs:List Int),svs.length<=ks.length->(∀ i t,ks[i]?=some t->i < svs.length->(t.1.2,t.1.1)∈c->svs.getD i 0=t.2)->tot (fiB c) ks svs + wC (ks.take svs.length) c=svs.sum
 | t :: ks,s :: svs,I,h=>by
  have O:=Qct c ks svs (Nat.le_of_succ_le_succ I) fun i x J hi=>h (i + 1) x J (Nat.succ_lt_succ hi)
  have B:=h 0 t rfl (Nat.succ_pos _);rw [Q5e,E4,List.take_succ_cons,Q90,G9,<- O]
  by_cases p:(t.1.2,t.1.1)∈c
  ·have B:s=t.2:=B p;rw [bN p,bN p,B]; omega
  ·rw [bO p,bO p]; omega
 | ks,[],_,_=>by cases ks <;> rfl
theorem Qcu (c:List (Nat × Nat)):∀ (ks:List Tr) (svs:List Int) (n:Nat),svs.length<=ks.length->(∀ i t,ks[i]?=some t->i < svs.length->0<=svs.getD i 0/\svs.getD i 0<=t.2)->(∀ t∈ks,0<=t.2)->(svs.take n).sum<=tot (fiB c) ks svs + wC (ks.take n) c
 | t :: ks,s :: svs,n,U,h,J=>by
  have Z:0<=s/\s<=t.2:=h 0 t rfl (Nat.succ_pos _);have I:=fun n=>Qcu c ks svs n (Nat.le_of_succ_le_succ U) (fun i x B hi=>h (i + 1) x B (Nat.succ_lt_succ hi)) fun x B=>J x (O4 _ B)
  rw [Q5e];cases n with
  | zero=>
   have:=I 0;simp only [List.take_zero,List.sum_nil] at this ⊢
   split <;> omega
  | succ n=>
   have:=I n;rw [List.take_succ_cons,List.take_succ_cons,Q90,G9]
   split <;> omega
 | ks,[],n,_,_,J=>by
  rw [List.take_nil];have:tot (fiB c) ks []=0:=by cases ks <;> rfl
  rw [this,Int.zero_add];unfold wC;have Y:∀ l:List Tr,(∀ t∈l,0<=t.2)->0<=(l.map fun z=>if (z.1.2,z.1.1)∈c then z.2 else 0).sum:=by
   intro l
   induction l with
   | nil=>exact fun _=>Int.le_refl _
   | cons t l I=>
    intro h;rw [D3,G9];have h1:=I fun x B=>h x (O4 _ B)
    have h2:=h t O9
    split <;> omega
  exact Y _ fun t O=>J t (List.mem_of_mem_take O)
theorem Q0e (Q:Qok xs rs ks) {svs:List Int} (J:FJ (wsQ xs rs) ks svs ls 0) (I:ls.length=(wsQ xs rs).length) (hs:svs.length<=ks.length) (U:Clo rs.length c) (n:Nat):(svs.take n).sum<=wA xs c + wB rs c + wC (ks.take n) c:=by
 have h1:=Qcu c ks svs n hs (fun i t B hi=>(let ⟨a,b,_⟩:=J.don i t B hi; ⟨a,b⟩)) fun t B=>by have:=(Q.kb t B).2.2.1; omega
 rw [<- J.con0,<- Qm8 (xs:=xs) U] at *;have h2:pot (dph (fiB c)) (wsQ xs rs) ls<=((wsQ xs rs).map (cpB c)).sum:=Q7r _ _ _ _ I fun k O=>by
  have q:=J.cap k O;revert q;unfold dph fiB cpB;generalize (wsQ xs rs).getD k wy0=w;generalize ls.getD k 0=l;intro q;cases a:inB c w.1 <;> cases b:inB c w.2.1 <;> simp <;> omega
 omega
theorem Qqd (Q:Qok xs rs ks) {svs:List Int} (J:FJ (wsQ xs rs) ks svs ls 0) (Y:ls.length=(wsQ xs rs).length) (hs:svs.length<=ks.length) (t:Nat) (k:Nat) (hk:k < (wsQ xs rs).length) {h:Nat} (I:(wsQ xs rs).getD k wy0=(some (h,t),some (h,t + 1),xs.sum)):ls.getD k 0<=pot (fun w=>if w.1=none then 1 else 0) (wsQ xs rs) ls:=by
 have pos:=J.pos Y;have e1:=J.con0 (fun v=>match v with | none=>0 | some z=>if t < z.2 then 1 else 0);have e2:=J.con0 (fun v=>match v with | none=>0 | some _=>1);have e3:tot (fun v=>match v with | none=>0 | some z=>if t < z.2 then 1 else 0) ks svs<=tot (fun v=>match v with | none=>0 | some _=>1) ks svs:=by
  have nn:∀ i t,ks[i]?=some t->i < svs.length->0<=svs.getD i 0:=fun i t B hi=>(J.don i t B hi).1
  clear Q J e1 e2 hs
  induction ks generalizing svs with
  | nil=>cases svs <;> exact Int.le_refl _
  | cons z ks Z=>
   cases svs with
   | nil=>exact Int.le_refl _
   | cons s svs=>
    have i1:=Z (svs:=svs) fun i t B hi=>nn (i + 1) t B (Nat.succ_lt_succ hi)
    have i0:0<=s:=nn 0 z rfl (Nat.succ_pos _);show s * ((if t < z.1.1 then 1 else 0) - 0) + _<=s * (1 - 0) + _
    split <;> omega
 have e4:pot (dph fun v=>match v with | none=>0 | some _=>1) (wsQ xs rs) ls=pot (fun w=>if w.1=none then 1 else 0) (wsQ xs rs) ls:=yf ls fun w I=>by
  cases y6 w I with
  | sp h m=>rfl
  | go i j t m=>rfl
 have e5:ls.getD k 0<=pot (dph fun v=>match v with | none=>0 | some z=>if t < z.2 then 1 else 0) (wsQ xs rs) ls:=by
  have:=(Q7s (dph fun v=>match v with | none=>0 | some z=>if t < z.2 then 1 else 0) (wsQ xs rs) ls k Y hk fun j O=>by
   refine Int.mul_nonneg (J.cap j O).1 ?_;have U:(wsQ xs rs).getD j wy0∈wsQ xs rs:=by rw [O3,O2 O]; exact F7 O
   revert U;generalize (wsQ xs rs).getD j wy0=w;intro U;cases y6 w U with
   | sp h m=>
    show (0:Int)<=(if t < 0 then 1 else 0) - 0;rw [bO (by omega)]; exact Int.le_refl _
   | go i j t' m=>
    show (0:Int)<=(if t < t' + 1 then 1 else 0) - (if t < t' then 1 else 0)
    split <;> split <;> omega).2
  rw [I] at this;have d:dph (fun v=>match v with | none=>(0:Int) | some z=>if t < z.2 then 1 else 0) (some (h,t),some (h,t + 1),xs.sum)=1:=by
   show (if t < t + 1 then (1:Int) else 0) - (if t < t then 1 else 0)=1;rw [bN (by omega),bO (by omega)]; rfl
  rw [d,Int.mul_one] at this;exact this
 omega
theorem Qhj (Q:Qok xs rs ks) {svs:List Int} (J:FJ (wsQ xs rs) ks svs ls 0) (hl:ls.length=(wsQ xs rs).length) (hs:svs.length<=ks.length) (T:FT (wsQ xs rs) ls F) (hF:∀ u∈kys F,Cld (wsQ xs rs) ls F u) {h t:Nat} (B:some (h,t)∈kys F) (ht:t < rs.length):some (h,t + 1)∈kys F:=by
 have hh:h < xs.length:=by
  rcases (Qg7 Q T).1 _ B with z | ⟨z,e,z1,_⟩
  ·cases z
  ·cases e; exact z1
 have hw:(some (h,t),some (h,t + 1),xs.sum)∈wsQ xs rs:=by
  unfold wsQ;refine D4.mpr (.inr (List.mem_flatMap.mpr ⟨t,M0.mpr ht,D4.mpr (.inl ?_)⟩));unfold wst;exact D7.mpr ⟨h,M0.mpr hh,rfl⟩
 obtain ⟨k,Z,ek⟩:=List.mem_iff_getElem.mp hw;have U:(wsQ xs rs).getD k wy0=(some (h,t),some (h,t + 1),xs.sum):=by rw [O3,O2 Z,ek]; rfl
 have a2:=J.cap k Z
 by_cases p:ls.getD k 0 < xs.sum
 ·refine hF _ B k Z _ ?_;rw [U];exact bN ⟨rfl,p⟩
 ·have a3:=Qqd Q J hl hs t k Z U;exfalso;have I:∀ j,j < (wsQ xs rs).length->((wsQ xs rs).getD j wy0).1=none->¬ ls.getD j 0 < ((wsQ xs rs).getD j wy0).2.2:=fun j O hn a4=>by
   have:=Q7q (fun w=>if w.1=none then 1 else 0) (fun w=>(if w.1=none then 1 else 0) * w.2.2) (wsQ xs rs) ls (fun i=>if i=j then 1 else 0) hl fun i hi=>by
    have c:=J.cap i hi
    by_cases e:i=j
    ·subst e;rw [hn];simp only [if_true,Int.mul_one,Int.one_mul];omega
    ·rw [bO e,Int.add_zero,Int.mul_comm];exact Int.mul_le_mul_of_nonneg_left c.2 (by split <;> omega)
   rw [show ((List.range (wsQ xs rs).length).map fun i=>if i=j then (1:Int) else 0).sum=1 from Q3z O (fun _=>1)] at this
   have sm:((wsQ xs rs).map fun w:Wy=>(if w.1=none then (1:Int) else 0) * w.2.2).sum=xs.sum:=by
    rw [Q03,J2 (n:=rs.length) (g:=fun _=>0) fun t _=>?_,Y9,Int.add_zero,Qcy xs]
    ·exact J2 fun h _=>Int.one_mul _
    ·have z0:∀ (a:Nat × Nat) (m:Int),(if (some a:Nd)=none then (1:Int) else 0) * m=0:=fun a m=>by rw [bO (by simp),Int.zero_mul]
     rw [J2 (g:=fun _=>0) fun h _=>z0 _ xs.sum,Y9,Int.zero_add,F3 (g:=fun _=>(0:Int)) fun z _=>z0 _ z.2]
     induction rs.getD t [] with
     | nil=>rfl
     | cons _ _ ih=>rw [D3,G9,ih]; rfl
   rw [sm] at this;omega
  have:=T.sub (C:=fun v=>v=none) rfl (fun j O u v hu ho=>by
   have hu:u=none:=hu;subst hu;exfalso;have B:(wsQ xs rs).getD j wy0∈wsQ xs rs:=by rw [O3,O2 O]; exact F7 O
   have wf:=y6 _ B;rcases Xp ho with ⟨Y,_,o2⟩ | ⟨Y,_⟩
   ·exact I j O Y o2
   ·cases a1:(wsQ xs rs).getD j wy0 with
    | mk a b=>
     rw [a1] at wf Y;cases wf <;> cases Y) _ B
  cases this
theorem Q4x (Q:Qok xs rs ks) {svs:List Int} (J:FJ (wsQ xs rs) ks svs ls 0) (Z:ls.length=(wsQ xs rs).length) (hs:svs.length<=ks.length) (T:FT (wsQ xs rs) ls F) (U:∀ u∈kys F,Cld (wsQ xs rs) ls F u) (O:∀ z,z∈c <-> some z∈kys F):Clo rs.length c/\wA xs c + wB rs c + wC (ks.take svs.length) c=svs.sum:=by
 have I:Clo rs.length c:=fun h t h1 h2=>(O _).mpr (Qhj Q J Z hs T U ((O _).mp h1) h2)
 refine ⟨I,?_⟩;have B:∀ v,inB c v=true <-> v∈kys F:=fun v=>by
  cases v with
  | none=>exact ⟨fun _=>T.root,fun _=>rfl⟩
  | some z=>exact decide_eq_true_iff.trans (O z)
 have e1:pot (dph (fiB c)) (wsQ xs rs) ls=((wsQ xs rs).map (cpB c)).sum:=Qea _ _ _ _ Z fun k Y=>by
  have q:=J.cap k Y;unfold dph fiB cpB;cases a:inB c ((wsQ xs rs).getD k wy0).1 with
  | true=>
   cases b:inB c ((wsQ xs rs).getD k wy0).2.1 with
   | true=>simp
   | false=>
    have:¬ ls.getD k 0 < ((wsQ xs rs).getD k wy0).2.2:=fun lt=>by
     have:=U _ ((B _).mp a) k Y _ (bN ⟨rfl,lt⟩);rw [(B _).mpr this] at b;cases b
    revert this q;generalize (wsQ xs rs).getD k wy0=w;generalize ls.getD k 0=l;intro q this;simp;omega
  | false=>
   cases b:inB c ((wsQ xs rs).getD k wy0).2.1 with
   | true=>
    have:¬ 0 < ls.getD k 0:=fun lt=>by
     have:=U _ ((B _).mp b) k Y ((wsQ xs rs).getD k wy0).1 (by
      unfold oth;rw [bO (fun z=>by rw [z.1,b] at a; cases a),bN ⟨rfl,lt⟩])
     rw [(B _).mpr this] at a;cases a
    revert this q;generalize ls.getD k 0=l;intro q this;simp;omega
   | false=>simp
 have e2:=Qct c ks svs hs fun i t ht hi hm=>by
  rcases (J.don i t ht hi).2.2 with z | ⟨C,c0,c1,c2⟩
  ·exact z
  ·exact absurd (T.sub c0 c1 _ ((O _).mp hm)) c2
 rw [<- J.con0,e1,Qm8 I] at e2;exact e2
theorem Q8m (F:Fd):∃ c:List (Nat × Nat),c.map rdV=(X0 (((kys F).filter fun v=>!decide (v=none)).map ndI)).map js/\∀ z,z∈c <-> some z∈kys F:=by
 obtain ⟨l,I⟩:∃ l,X0 (((kys F).filter fun v=>!decide (v=none)).map ndI)=l:=⟨_,rfl⟩
 have mem:∀ x,x∈l <-> ∃ z,some z∈kys F/\x=ndI (some z):=fun x=>by
  rw [<- I,(j0 _).mem_iff,D7];constructor
  ·rintro ⟨v,J,rfl⟩;obtain ⟨h1,h2⟩:=List.mem_filter.mp J;cases v with
   | none=>simp at h2
   | some z=>exact ⟨z,h1,rfl⟩
  ·rintro ⟨z,hz,rfl⟩;exact ⟨some z,List.mem_filter.mpr ⟨hz,by simp⟩,rfl⟩
 rw [I];refine ⟨l.map fun x=>((x.getD 0 0).toNat,(x.getD 1 0).toNat),?_,fun z=>?_⟩
 ·rw [E7];refine F3 fun x B=>?_
  obtain ⟨z,_,rfl⟩:=(mem x).mp B;rfl
 ·rw [D7];constructor
  ·rintro ⟨x,B,rfl⟩;obtain ⟨y,O,rfl⟩:=(mem x).mp B;exact O
  ·intro h;exact ⟨ndI (some z),(mem _).mpr ⟨z,h,rfl⟩,rfl⟩
def Hi (xs:List Int) (rs:List (List Tr)) (ks:List Tr) (svs:List Int):Prop:=∀ i,1<=i->i<=svs.length->∃ c,Clo rs.length c/\wA xs c + wB rs c + wC (ks.take i) c=(svs.take i).sum
structure JH (xs:List Int) (rs:List (List Tr)) (ks:List Tr) (svs ls:List Int) (sv:Int):Prop where
 j:FJ (wsQ xs rs) ks svs ls sv
 l:svs.length<=ks.length
 h:Hi xs rs ks svs
theorem Qd0:∀ {l:List Int},(∀ x∈l,0<=x)->0<=l.sum
 | [],_=>Int.le_refl _
 | a :: l,h=>by
  have h1:=h a O9;have h2:=Qd0 fun x B=>h x (O4 _ B)
  rw [G9]; omega
theorem Qmb (Q:Qok xs rs ks):∀ w∈wsQ xs rs,0<=w.2.2:=by
 intro w B;unfold wsQ at B;rcases D4.mp B with B | B
 ·unfold wsp at B;obtain ⟨h,J,rfl⟩:=D7.mp B;exact (Q.xb _ (by rw [O3,O2 (M0.mp J)]; exact F7 _)).1
 ·obtain ⟨t,I,B⟩:=List.mem_flatMap.mp B;have I:=M0.mp I;rcases D4.mp B with B | B
  ·unfold wst at B;obtain ⟨h,J,rfl⟩:=D7.mp B;exact Qd0 fun x O=>(Q.xb x O).1
  ·unfold wrd at B;obtain ⟨z,hz,rfl⟩:=D7.mp B;have:rs.getD t []∈rs:=by rw [O3,O2 I]; exact F7 _
   have:=((Q.rb _ this).ok z hz).2.1;show 0<=z.2;omega
theorem jh0 (Q:Qok xs rs ks):JH xs rs ks [] ((wsQ xs rs).map fun _=>0) 0:=⟨FJ.zero (Qmb Q),M9 _,fun i h1 h2=>by have h2:i<=0:=h2; omega⟩
theorem jh1 (svs ls:List Int) (sv a:Int) (F:Fd) (ns:List Nd) (ss:List (Nat × Bool)) (t:Tr) (h1:ks[svs.length]?=some t) (h2:ls.length=(wsQ xs rs).length) (B:JH xs rs ks svs ls sv) (U:FT (wsQ xs rs) ls F) (I:Pt (wsQ xs rs) ls F (some (t.1.2,t.1.1)) ns ss) (O:1<=a) (J:∀ s∈ss,a<=room (wsQ xs rs) ls s) (_:a<=t.2 - sv):JH xs rs ks svs (push a ls ss) (sv + a):=⟨B.j.push h1 h2 U I O J,B.l,B.h⟩
theorem jh2 (Q:Qok xs rs ks) (svs ls:List Int) (sv:Int) (F:Fd) (t:Tr) (h1:ks[svs.length]?=some t) (h2:ls.length=(wsQ xs rs).length) (I:JH xs rs ks svs ls sv) (h4:sv<=t.2) (B:FT (wsQ xs rs) ls F) (O:∀ u∈kys F,Cld (wsQ xs rs) ls F u) (U:sv=t.2\/some (t.1.2,t.1.1)∉kys F):JH xs rs ks (svs ++ [sv]) ls 0:=by
 have Y:=(O0.mp h1).1;have J:=I.j.done h1 h4 B O U;have hs:(svs ++ [sv]).length<=ks.length:=by rw [O7]; exact Y
 refine ⟨J,hs,fun i i1 i2=>?_⟩
 by_cases e:i=(svs ++ [sv]).length
 ·obtain ⟨c,_,hc⟩:=Q8m F;obtain ⟨q1,Z⟩:=Q4x Q J h2 hs B O hc;exact ⟨c,q1,by rw [e,List.take_length]; exact Z⟩
 ·rw [O7] at e i2;have e:¬ i=svs.length + 1:=e;have i2:i<=svs.length + 1:=i2;rw [List.take_append_of_le_length (by omega)];exact I.h i i1 (by omega)
theorem Qkq (Q:Qok xs rs ks) (i:Nat):Qok xs rs (ks.take i):=⟨Q.x1,Q.x4,Q.xb,Q.r4,Q.rb,by have:=Q.k5; rw [List.length_take]; omega,fun t B=>Q.kb t (List.mem_of_mem_take B)⟩
theorem Qer (Q:Qok xs rs ks) {svs:List Int} (H:JH xs rs ks svs ls 0) (h1:svs.length=ks.length) (h2:ls.length=(wsQ xs rs).length) {i:Nat} (hi:i<=ks.length) {B I:List Int} (H':JH xs rs (ks.take i) B I 0) (O:B.length=(ks.take i).length) (g2:I.length=(wsQ xs rs).length) (T:FT (wsQ xs rs) I F) (hF:∀ u∈kys F,Cld (wsQ xs rs) I F u):(svs.take i).sum=B.sum:=by
 by_cases z:i=0
 ·subst z;have:B=[]:=List.eq_nil_of_length_eq_zero (by rw [O]; rfl);rw [this]; rfl
 ·have Y:=Qkq Q i;have e1:(ks.take i).take B.length=ks.take i:=by rw [O,List.take_length]
  obtain ⟨c',_,J⟩:=Q8m F;obtain ⟨q1,q2⟩:=Q4x Y H'.j g2 H'.l T hF J;have q3:=Q0e Q H.j h2 H.l q1 i;obtain ⟨c,Z,q5⟩:=H.h i (by omega) (by omega);have U:=Q0e Y H'.j g2 H'.l Z B.length;rw [e1] at q2 U;rw [List.take_length] at U;omega
theorem Qcw {a b:List Int} (I:a.length=b.length) (h:∀ i,i<=a.length->(a.take i).sum=(b.take i).sum):a=b:=by
 refine Qbr I fun k=>?_
 by_cases p:k < a.length
 ·have h1:=h k (by omega);have h2:=h (k + 1) (by omega);have s:∀ (l:List Int),k < l.length->(l.take (k + 1)).sum=(l.take k).sum + l.getD k 0:=fun l B=>by
   rw [List.take_succ,List.sum_append,O3,O2 B];simp
  rw [s a p,s b (by omega)] at h2;omega
 ·rw [O3,G8 (by omega),O3,G8 (by omega)]
theorem Qdq (Q:Qok xs rs ks) {svs B I:List Int} (H:JH xs rs ks svs ls 0) (h1:svs.length=ks.length) (h2:ls.length=(wsQ xs rs).length) (H':JH xs rs ks B I 0) (Y:B.length=ks.length) (g2:I.length=(wsQ xs rs).length):svs=B:=by
 refine Qcw (by rw [h1,Y]) fun i hi=>?_
 by_cases z:i=0
 ·subst z; rfl
 ·obtain ⟨c,U,Z⟩:=H.h i (by omega) hi;obtain ⟨c',J,O⟩:=H'.h i (by omega) (by omega);have:=Q0e Q H.j h2 H.l J i;have:=Q0e Q H'.j g2 H'.l U i;omega
theorem Qfs {T:String} {V:PV} (h1:m Γ S=.ok V S) (h2:(if Xy S V=true then Res.stuck else Res.ok (PV.bl (isI T (dpv S V))) S)=r):ym T m Γ S=r:=by rw [Qjq,h1,Qg]; exact h2
theorem Qqn {V:PV} (h:LA S V l):(if Xy S V=true then Res.stuck else Res.ok (PV.bl (isI "list" (dpv S V))) S)=.ok (.bl true) S:=by
 rcases h with rfl | ⟨i,rfl,e⟩
 ·rfl
 ·simp only [Xy,dpv,e]; rfl
theorem Qfp {V:PV} (h:LA S V l):der S V=.lst l:=by
 rcases h with rfl | ⟨i,rfl,e⟩
 ·rfl
 ·simp only [Sm.der,e]
theorem Qf3 {V W:PV} {l:List Int} (h:LA S V (l.map .int)) (k:LA S W (l.map .int)):oNe S V W=.ok (.bl false) S:=by
 have g:Qz dep (.lst (l.map .int))=true:=by simp [Qz,dep]
 unfold oNe;rw [Qfp h,Qfp k,bN ⟨g,g⟩,z9 g];rfl
theorem Qsp {V:PV} (h:LA S V l) (lo hi:Option Int):oSl S V lo hi=.ok (.lst (cut l lo hi)) S:=by
 rcases h with rfl | ⟨i,rfl,e⟩
 ·rfl
 ·simp only [oSl,Jc e]
theorem Qqe {V:PV} (h:LA S V l):Zu S V=some l:=by
 rcases h with rfl | ⟨i,rfl,e⟩
 ·rfl
 ·exact Jc e
theorem Q4r {V:PV} (h:LA S V l):K6 S [V]=.ok (.lst l) S:=by
 show (match Zu S V with | some xs=>Res.ok (PV.lst xs) S | none=>.stuck)=_
 rw [Qqe h]
theorem Q6w {V W:PV} {i:Nat} {B:ME} (h1:m Γ S=.ok V S) (h2:B Γ S=.ok (.int (i:Int)) S) (I:oSl S V none (some (i:Int))=.ok W S):mSl m Yz (K2 B) Γ S=.ok W S:=by
 have p:K2 B Γ S=.ok (some (i:Int)) S:=by unfold K2; rw [h2,Qg]
 rw [Qfc,h1,Qg,show Yz Γ S=.ok none S from rfl,Qg,p,Qg,I]
theorem Qcg (k:Int) (S:Q0):Zz [.int k] S=.ok (.bl true) S:=by
 simp -implicitDefEqProofs [Zz,Qk,Ut,isI,tyN]
theorem Qcz (S:Q0) (l:List Int):Zj (fun ns=>some (.int ns.sum)) S [.lst (l.map .int)]=.ok (.int l.sum) S:=xc _ _ _
abbrev arG (q V:PV) (a2 a3 a4 a5 a6:Option PV):Gam:=[some q,some V,a2,a3,a4,a5,a6]
theorem Qkf (Q:Qok xs rs ks) {svs:List Int} (H:JH xs rs ks svs ls 0) (h1:svs.length=ks.length) (h2:ls.length=(wsQ xs rs).length) (hV:LA S Va (svs.map .int)) (i:Nat) (hi:i<=ks.length) (Vp:PV) (a3 a4 a5 a6:Option PV):∃ b3 b4 b5 b6,Zw (arG (qV xs rs ks) (.tup [Va,Vp]) (some (.int (i:Int))) a3 a4 a5 a6) S=.nx (arG (qV xs rs ks) (.tup [Va,Vp]) (some (.int (i:Int))) b3 b4 b5 b6) S:=by
 have I:=Qkq Q i;have k5:=Q.k5;obtain ⟨B,a1,F,e,U,g2,H',T,hF⟩:=Qkc I (JH xs rs (ks.take i)) (jh0 I) jh1 (jh2 I) S;have es:=Qer Q H h1 h2 hi H' U g2 T hF;obtain ⟨c,Y,Z⟩:=Q8m F;obtain ⟨_,q2⟩:=Q4x I H'.j g2 H'.l T hF Z;rw [U,List.take_length] at q2;rw [<- Y] at e;obtain ⟨m1,m2⟩:=Q4k I a1;have eh:=Q4t I (S:=S) m1 (by omega) (sv:=B) (by rw [U,List.length_take]; omega) (.inl rfl) (.inl rfl);rw [yu I H'.j g2 U] at eh;have ew:=Q8s I (S:=S) (c:=c) (V:=.lst (c.map rdV)) (.inl rfl);rw [q2] at ew;have a2:oSl S (.tup (ks.map trV)) none (some (i:Int))=.ok (.tup ((ks.take i).map trV)) S:=by
  show Res.ok (PV.tup (cut (ks.map trV) none (some (i:Int)))) S=_;rw [qi,List.map_take]
 have O:=Qsp hV none (some (i:Int));rw [qi,<- List.map_take] at O;have J:=Qcz S (svs.take i);rw [es] at J;have hs:=Qcz S B;exact ⟨_,_,_,_,Q9 (Qt (J3 (Q3 (Q8 rfl rfl rfl) (Q3 (Q8 rfl rfl rfl) (Q3 (Q6w (Q8 rfl rfl rfl) rfl a2) rfl))) (Nat.le_of_ble_eq_true rfl))) (Q9 (Q8u (Qx (n:=1) (Q3 rfl rfl) rfl e) rfl) (Q9 (Ya (Q2h (Xq (Qq (Qx (n:=3) (Q3 rfl (Q3 (Q8 rfl rfl rfl) (Q3 (Q8 rfl rfl rfl) rfl))) rfl eh))) (Qq (Q8 (Qx (n:=2) (Q3 rfl (Q3 rfl rfl)) rfl ew) (Zg (Q3 (Q8 rfl rfl rfl) rfl) hs) (Q9r S _)))) rfl) (Ya (Q2h (Qq (Q8 (Zg (Q3 (Q6w (Q8 rfl rfl rfl) rfl O) rfl) J) (Zg (Q3 (Q8 rfl rfl rfl) rfl) hs) (Q9r S _))) (Qq (Q8 rfl (Zg (Q3 (Q8 rfl rfl rfl) rfl) hs) (Q9r S _)))) rfl)))⟩
theorem Qci (Q:Qok xs rs ks) {svs:List Int} (H:JH xs rs ks svs ls 0) (h1:svs.length=ks.length) (h2:ls.length=(wsQ xs rs).length) {Vb:PV} (hV:LA S Va (svs.map .int)) (a2:LA S Vm ((mvs (wsQ xs rs) ls).map mvV)) (U:LA S Vb (svs.map .int)):Ym [qV xs rs ks,.tup [Va,.tup [Vm,Vb]]] S=.ok (.bl true) S:=by
 have k5:=Q.k5;obtain ⟨m1,m2⟩:=Q4k Q ls;have eh:=Q4t Q m1 (by omega) (sv:=svs) (by omega) a2 U;rw [yu Q H.j h2 h1] at eh;obtain ⟨w,ew,hw,_⟩:=Q1k hV;have c1:=Jz (ga:=Q4 0) (me:=V8) (w:=w) (Γ0:=[none]) (st:=S) (g:=PV.int) (f:=fun _=>PV.bl true) hw (ys:=svs) fun x _=>⟨_,rfl,Qx (n:=1) (Q3 rfl rfl) rfl (Qcg x S)⟩
 have ib:=Qfv S (svs.map fun _=>true);rw [E7,show (svs.map fun _=>true).all id=true from F5.mpr fun b hb=>by obtain ⟨_,_,rfl⟩:=D7.mp hb; rfl] at ib
 obtain ⟨a4,B,e,Z,I,J,O,Y,rfl,rfl⟩:=Y2 (g:=fun k:Nat=>PV.int (k:Int)) (xs:=List.range (ks.length + 1)) (ga:=Q4 2) (body:=Zw) (w:=[]) (Γ:=arG (qV xs rs ks) (.tup [Va,.tup [Vm,Vb]]) none none none none none) (st:=S)
  (fun _ Γ st=>∃ Z I J O Y,Γ=arG (qV xs rs ks) (.tup [Va,.tup [Vm,Vb]]) Z I J O Y/\st=S)
  (fun _ _ _ _=>Jb _)
  (fun i k Γ st hx ⟨Z,I,J,O,Y,a3,a1⟩=>by
   subst a3;subst a1;have hk:k < ks.length + 1:=M0.mp (E6 hx);obtain ⟨d3,d4,d5,d6,e⟩:=Qkf Q H h1 h2 hV k (by omega) (.tup [Vm,Vb]) I J O Y;exact ⟨_,rfl,_,_,e,_,d3,d4,d5,d6,rfl,rfl⟩)
  ⟨_,_,_,_,_,rfl,rfl⟩
 rw [<- Yy] at e;have hr:Jq (Q1 (mOp Yv (Qj Y3 (Q1 (mOp oIx (Q2 0) (mC (.int 2))) Q6)) (mC (.int 1))) Q6) (arG (qV xs rs ks) (.tup [Va,.tup [Vm,Vb]]) none none none none none) B=.ok (Jj 0 (ks.length + 1:Nat),[]) B:=Q5s (n:=ks.length + 1) (by omega) (Q8 (Zg (Q3 (Q8 rfl rfl rfl) rfl) (by rw [Kx,O1])) rfl (Q2u _ _ _));have s5:Yw (Q4 2) (Jq (Q1 (mOp Yv (Qj Y3 (Q1 (mOp oIx (Q2 0) (mC (.int 2))) Q6)) (mC (.int 1))) Q6)) Zw (arG (qV xs rs ks) (.tup [Va,.tup [Vm,Vb]]) none none none none none) B=.nx (arG (qV xs rs ks) (.tup [Va,.tup [Vm,Vb]]) Z I J O Y) B:=Z6 hr e;have st:Wp (arG (qV xs rs ks) (.tup [Va,.tup [Vm,Vb]]) none none none none none) B=.rt (.bl true) B:=(Q9 (Ya (Q2h (Xq (b:=true) (Qq rfl)) (Qq (Q8 (Zg (Q3 rfl rfl) rfl) rfl (Q9r B 2)))) rfl) (Q9 (Ya (Q2h (Xq (b:=true) (Qq (Qfs (Q8 rfl rfl rfl) (Qqn hV)))) (Xq (b:=true) (Qq (Qfs (Q8 rfl rfl rfl) rfl)))) rfl) (Q9 (Ya (Q2h (Qq (Q8 rfl (K7 (W1 (K1 (Q8 rfl rfl rfl) ew (by rw [O1]; omega)) c1)) ib)) (Qq (Q8 (Zg (Q3 (Q8 (Q8 rfl rfl rfl) rfl rfl) rfl) (Q4r U)) (Q8 rfl rfl rfl) (Qf3 (.inl rfl) hV)))) rfl) (Q9 (Ya (Xq (Qq (Qx (n:=3) (Q3 rfl (Q3 (Q8 (Q8 rfl rfl rfl) rfl rfl) (Q3 (Q8 (Q8 rfl rfl rfl) rfl rfl) rfl))) rfl eh))) rfl) (Q9 s5 (Ji rfl))))))
 exact (Zv (m:=Wp) (nl:=7) (ps:=[qV xs rs ks,.tup [Va,.tup [Vm,Vb]]]) st).trans (yx rfl)
theorem Qgr {i:Nat} (h1:m Γ S=.ok (.ref i) S) (h2:S[i]?=some (.lst l)):Yj (Qff m) Γ S=.nx Γ (S.set i (.lst [])):=by
 refine Q8j (v:=.non) ?_;unfold Qff;rw [h1,Qg];show (match S[i]? with | some (.lst _)=>Res.ok PV.non (S.set i (.lst [])) | some (.dic _)=>.ok .non (S.set i (.dic [])) | _=>.stuck)=_
 rw [h2]
abbrev lwG (ns:List Int) (a1 a2 a3 a4 a5:Option PV):Gam:=[some (.fro (ns.map .int)),a1,a2,a3,a4,a5]
theorem Qi7 (ns:List Int) (k:Nat) (S:Q0) (a2 a3 a4 Z:Option PV):∃ b2 b3 b4 b5 S',Q0g (lwG ns (some (.int (k:Int))) a2 a3 a4 Z) S=.nx (lwG ns (some (.int (k:Int))) b2 b3 b4 b5) S':=by
 obtain ⟨c,e1⟩:=Qhb ns k S;have T1:Tp (S ++ [.lst [.int c]]) S.length:=⟨c,Q1j _ _⟩;obtain ⟨xs,rs,ks,S2,Q,T2,e2⟩:=Qdy T1;have k5:=Q.k5;obtain ⟨svs,ls,S3,a,m,b,e3,O,v2,v3,g3,o1,o2,o3,h1,h2,H⟩:=Q6x Q (JH xs rs ks) (jh0 Q) jh1 (jh2 Q) S2;have e4:=Qci Q H h1 h2 (Va:=.ref a) (Vm:=.ref m) (Vb:=.ref b) (.inr ⟨a,rfl,O⟩) (.inr ⟨m,rfl,v2⟩) (.inr ⟨b,rfl,v3⟩);obtain ⟨I,B⟩:∃ I,S3.set a (.lst [])=I:=⟨_,rfl⟩;have w2:I[m]?=some (.lst ((mvs (wsQ xs rs) ls).map mvV)):=by rw [<- B,E5 (by omega)]; exact v2
 have w3:I[b]?=some (.lst (svs.map .int)):=by rw [<- B,E5 (by omega)]; exact v3
 obtain ⟨J,Y⟩:∃ J,I.set m (.lst [])=J:=⟨_,rfl⟩;obtain ⟨a1,U,S6,a',m',b',e6,u1,u2,u3,g6,p1,p2,p3,n1,n2,N⟩:=Q6x Q (JH xs rs ks) (jh0 Q) jh1 (jh2 Q) J;have es:=Qdq Q H h1 h2 N n1 n2;subst es;obtain ⟨m1,m2⟩:=Q4k Q U;have eh:=Q4t Q m1 (by omega) (sv:=svs) (by omega) (.inr ⟨m',rfl,u2⟩) (.inr ⟨a',rfl,u1⟩);rw [yu Q N.j n2 n1] at eh;have x1:=Qgr (m:=mOp oIx (Q2 3) (mC (.int 0))) (Γ:=lwG ns (some (.int (k:Int))) (some (qV xs rs ks)) (some (.tup [.ref a,.tup [.ref m,.ref b]])) (some (.lst (svs.map .int))) Z) (Q8 rfl rfl rfl) O;rw [B] at x1;have x2:=Qgr (m:=mOp oIx (mOp oIx (Q2 3) (mC (.int 1))) (mC (.int 0))) (Γ:=lwG ns (some (.int (k:Int))) (some (qV xs rs ks)) (some (.tup [.ref a,.tup [.ref m,.ref b]])) (some (.lst (svs.map .int))) Z) (Q8 (Q8 rfl rfl rfl) rfl rfl) w2;rw [Y] at x2;exact ⟨_,_,_,_,S6,Q9 (Qt (Qx (n:=2) (Q3 (Qx (n:=2) (Q3 rfl (Q3 rfl rfl)) rfl e1) (Q3 rfl rfl)) rfl e2)) (Q9 (Qt (Qx (n:=1) (Q3 rfl rfl) rfl e3)) (Q9 (Ya (Xq (Qq (Qx (n:=2) (Q3 rfl (Q3 rfl rfl)) rfl e4))) rfl) (Q9 (Qt (Zg (Q3 (Q8 rfl rfl rfl) rfl) (Q4r (.inr ⟨a,rfl,O⟩)))) (Q9 x1 (Q9 (Ya (Qq (Q8 (Zg (Q3 (Q8 (Q8 rfl rfl rfl) rfl rfl) rfl) (Q4r (.inr ⟨b,rfl,w3⟩))) rfl (Qf3 (.inl rfl) (.inl rfl)))) rfl) (Q9 x2 (Q9 (Qt (Qx (n:=1) (Q3 rfl rfl) rfl e6)) (Ya (Q2h (Qq (Q8 (Q8 rfl rfl rfl) rfl (Qf3 (.inr ⟨a',rfl,u1⟩) (.inl rfl)))) (Xq (Qq (Qx (n:=3) (Q3 rfl (Q3 (Q8 (Q8 rfl rfl rfl) rfl rfl) (Q3 (Q8 rfl rfl rfl) rfl))) rfl eh)))) rfl))))))))⟩
theorem Qfk (ns:List Int):Qak [.fro (ns.map .int)] []=.ok (.bl true) []:=by
 obtain ⟨j,a2,a1,Z⟩:∃ j:Int,1<=j/\j<=4/\Qj Qc8 (Q1 (mC (.int 1)) (Q1 (Qj Q24 (Q1 (mC (.int 4)) (Q1 (Qj Y3 (Q1 (Q2 0) Q6)) Q6))) Q6)) (lwG ns none none none none none) []=.ok (.int j) []:=by
  refine ⟨if (if (ns.length:Int) < 4 then (ns.length:Int) else 4) > 1 then (if (ns.length:Int) < 4 then (ns.length:Int) else 4) else 1,by split <;> omega,by split <;> (try split) <;> omega,?_⟩;exact Zg (Q3 rfl (Q3 (Zg (Q3 rfl (Q3 (Zg (Q3 rfl rfl) (by rw [Qgx,O1])) rfl)) (Q76 _ _ _)) rfl)) (Qgw _ _ _)
 obtain ⟨n,rfl⟩:∃ n:Nat,j=n:=⟨j.toNat,by omega⟩;obtain ⟨a3,S1,e1,Y,U,J,I,O,rfl⟩:=Y2 (g:=fun k:Nat=>PV.int (k:Int)) (xs:=List.range n) (ga:=Q4 1) (body:=Q0g) (w:=[]) (Γ:=lwG ns none none none none none) (st:=[])
  (fun _ Γ st'=>∃ Y U J I O,Γ=lwG ns Y U J I O)
  (fun _ _ _ _=>Jb _)
  (fun i k Γ st' _ ⟨Y,U,J,I,O,g1⟩=>by
   subst g1;obtain ⟨d2,d3,d4,d5,S2,h⟩:=Qi7 ns k st' U J I O;exact ⟨_,rfl,_,S2,h,_,_,_,_,_,rfl⟩)
  ⟨_,_,_,_,_,rfl⟩
 rw [<- Yy] at e1;have B:∀ S,fin [] (.bl true) S=.ok (.bl true) []:=fun S=>by simp [fin,fz]
 have hr:zj (Q1 (mC (.int 0)) (Q1 (Qj Qc8 (Q1 (mC (.int 1)) (Q1 (Qj Q24 (Q1 (mC (.int 4)) (Q1 (Qj Y3 (Q1 (Q2 0) Q6)) Q6))) Q6))) Q6)) (lwG ns none none none none none) []=.ok (Jj 0 n,[]) []:=by
  rw [Q85,Q3 (p:=.int 0) rfl (Q3 Z (show Q6 _ _=.ok [] _ from rfl)),Qg];show (if -1000000<=(0:Int)/\(0:Int)<=1000000/\-1000000<=(n:Int)/\(n:Int)<=1000000 then Res.ok (Jj 0 ((n:Int) - 0).toNat,[]) [] else .stuck)=_;rw [bN (by omega),Int.sub_zero,Int.toNat_natCast]
 exact (Zv (m:=Qfa) (nl:=6) (ps:=[.fro (ns.map .int)]) (Q9 (Z6 hr e1) (Ji rfl))).trans (B S1)
theorem Qjx:∀ ns:List Int,ns.length<=63->∃ st',Qak [.fro (ns.map .int)] []=.ok (.bl true) st':=fun ns _=>⟨[],Qfk ns⟩
theorem all_mk {l:PySem.W.OpenLaw} {w:aJ} {h:Heap} {fa f1 f2 f3 f4 f5 f6 f7 f8 f9 r1 r8 m9 o9 o4 q3 n0 r5 q5 q0 r3 r2 o3 p0 r7 s4 s2 n7 q1 p5 m7 q8 m8 o1 o2 g9:aB} (X:K.In h) (G:h.Ns aS mg) (r6:mg "law" = some (.ref fa))
  {m4 f0:Option aB} {j2:Array (Option aA)} {i7 g1 g0 g3 e3 g4:aA}
  {c4:aB}
  {Y:Tok}
  {a1:Tok}
  {b2:Tok}
  {a9:Tok}
  {e2:Tok}
  (k6:PySem.W.nsIn K aS "law" = some (some (.ref g9)))
  (p7:K.lookup g9=some ⟨i7,m4,.func (PySem.W.fnOf "law" "law" (Yb jx) (Js jx) (Qa jx) .none g1 g0 g3 f0 e3 g4),j2⟩)
  (o5:PySem.W.codeIn K e3 "law" = true)
  (p8:PySem.W.keepIn K (.ref g9)=true)
  (g8:PySem.W.nsIn K aS "all" = some none)
  (e9:PySem.W.nsIn K aS "bool" = some none)
  (c9:PySem.W.nsIn K aS "enumerate" = some none)
  (g5:PySem.W.nsIn K aS "int" = some none)
  (c3:PySem.W.nsIn K aS "isinstance" = some none)
  (i3:PySem.W.nsIn K aS "len" = some none)
  (e8:PySem.W.nsIn K aS "list" = some none)
  (g7:PySem.W.nsIn K aS "max" = some none)
  (g6:PySem.W.nsIn K aS "min" = some none)
  (e5:PySem.W.nsIn K aS "range" = some none)
  (d8:PySem.W.nsIn K aS "sorted" = some none)
  (h0:PySem.W.nsIn K aS "sum" = some none)
  (e6:PySem.W.nsIn K aS "tuple" = some none)
  (i0:PySem.W.nsIn K aS "zip" = some none)
  (Z:PySem.W.nsIn K aS "MOST_HOUSES_OF_PLAN" = some (some (.int 6 Y)))
  (a2:PySem.W.nsIn K aS "MOST_ROUNDS_OF_PLAN" = some (some (.int 10 a1)))
  (b0:PySem.W.nsIn K aS "MOST_TAKINGS" = some (some (.int 20 b2)))
  (b3:PySem.W.nsIn K aS "MOST_AT_ONCE" = some (some (.int 1000000 a9)))
  (e0:PySem.W.nsIn K aS "SPRING" = some (some (.str "spring" e2)))
  (d9:PySem.W.nsIn K aS "NoPlan" = some (some (.ref c4)))
  (h1:FA K "is_whole" j4 f1)
  (h2:FA K "is_between" Xj f2)
  (h3:FA K "is_rising" Ke f3)
  (h4:FA K "is_sized_tuple" Wc f4)
  (h5:FA K "is_road" yd f5)
  (h6:FA K "is_start" j5 f6)
  (h7:FA K "is_road_with_most" Ye f7)
  (h8:FA K "are_roads_of_one_round" Z3 f8)
  (h9:FA K "are_roads_of_plan" Yf f9)
  (n9:FA K "is_place" j6 r1)
  (r0:FA K "is_taking" Kc r8)
  (p9:FA K "are_takings" Uk m9)
  (n3:FA K "is_question" Uj o9)
  (o6:FA K "need_question" V0 o4)
  (s6:FA K "ways_of" y8 q3)
  (p3:FA K "ways_by_end" Ui n0)
  (s3:FA K "other_end" Kb r5)
  (p4:FA K "reached" yc q5)
  (p1:FA K "steps_back" Xi q0)
  (q2:FA K "room_by" y9 r3)
  (n4:FA K "serve" Q47 r2)
  (o0:FA K "moves_by" j3 o3)
  (o7:FA K "all_served" Xk p0)
  (p6:FA K "best" Q7n r7)
  (q6:FA K "first_served" Vu s4)
  (n6:FA K "_law_acell" Xn s2)
  (q4:FA K "_law_atape" Xm n7)
  (r9:FA K "_law_adigit" Uq q1)
  (s0:FA K "_law_awhole" Um p5)
  (n2:FA K "_law_ahow" Kf m7)
  (n8:FA K "_law_aquestion" Wd q8)
  (n5:FA K "_law_aplan_holds" Yp m8)
  (q7:FA K "_law_aweight" Vv o1)
  (s5:FA K "_law_aright" Up o2)
  (e1:PySem.W.excIn K c4 Qh6 "ValueError.__new__" = true)
  (hL:noL K=true) :
  ∃ fd:aP,(∀ (s:aC) (v:aA),BindsTo s fd ⟨[v],[]⟩ [("script",v)])/\∀ base:Heap,K.In base->base.Ns aS mg->FnOk l.prog w K mg base (CXD l.prog w) 11 fa fd ["script"] (Q44 K):=by
 have e:=r6.symm.trans (PySem.W.mg_of X G k6);cases e;have T:Txt mg:=⟨PySem.W.mg_none_of X G g8,PySem.W.mg_none_of X G e9,PySem.W.mg_none_of X G c9,PySem.W.mg_none_of X G g5,PySem.W.mg_none_of X G c3,PySem.W.mg_none_of X G i3,PySem.W.mg_none_of X G e8,PySem.W.mg_none_of X G g7,PySem.W.mg_none_of X G g6,PySem.W.mg_none_of X G e5,PySem.W.mg_none_of X G d8,PySem.W.mg_none_of X G h0,PySem.W.mg_none_of X G e6,PySem.W.mg_none_of X G i0,⟨_,PySem.W.mg_of X G Z⟩,⟨_,PySem.W.mg_of X G a2⟩,⟨_,PySem.W.mg_of X G b0⟩,⟨_,PySem.W.mg_of X G b3⟩,⟨_,PySem.W.mg_of X G e0⟩⟩;have d7:∃ C,mg "NoPlan" = some (.ref C)/\PySem.W.excIn K C Qh6 "ValueError.__new__" = true:=⟨_,PySem.W.mg_of X G d9,e1⟩;obtain ⟨_,A1⟩:=Yc ["thing"] X G h1;obtain ⟨_,A2⟩:=Yc ["thing", "least", "most"] X G h2
 obtain ⟨_,A3⟩:=Yc ["things"] X G h3;obtain ⟨_,A4⟩:=Yc ["thing", "least", "most"] X G h4;obtain ⟨_,A5⟩:=Yc ["n", "thing"] X G h5;obtain ⟨_,A6⟩:=Yc ["thing"] X G h6;obtain ⟨_,A7⟩:=Yc ["n", "thing"] X G h7;obtain ⟨_,A8⟩:=Yc ["n", "thing"] X G h8;obtain ⟨_,A9⟩:=Yc ["n", "thing"] X G h9;obtain ⟨_,i5⟩:=Yc ["n", "rounds", "house", "moment"] X G n9;obtain ⟨_,l3⟩:=Yc ["n", "rounds", "thing"] X G r0;obtain ⟨_,k0⟩:=Yc ["n", "rounds", "thing"] X G p9;obtain ⟨_,i4⟩:=Yc ["thing"] X G n3;obtain ⟨_,j1⟩:=Yc ["question"] X G o6;obtain ⟨_,i8⟩:=Yc ["question"] X G s6;obtain ⟨_,l9⟩:=Yc ["ways"] X G p3;obtain ⟨_,k8⟩:=Yc ["way", "load", "end"] X G s3;obtain ⟨_,k9⟩:=Yc ["ways", "loads"] X G p4;obtain ⟨_,l4⟩:=Yc ["ways", "found", "place"] X G p1;obtain ⟨_,k3⟩:=Yc ["ways", "loads", "steps"] X G q2;obtain ⟨_,m3⟩:=Yc ["ways", "loads", "taking"] X G n4;obtain ⟨_,m5⟩:=Yc ["ways", "loads"] X G o0
 obtain ⟨_,l8⟩:=Yc ["question"] X G o7;obtain ⟨_,l7⟩:=Yc ["question"] X G p6;obtain ⟨_,m6⟩:=Yc ["question"] X G q6;obtain ⟨_,k7⟩:=Yc ["script", "k"] X G n6;obtain ⟨_,i9⟩:=Yc ["script", "k"] X G q4;obtain ⟨_,i6⟩:=Yc ["tape", "many"] X G r9;obtain ⟨_,m0⟩:=Yc ["found"] X G s0;obtain ⟨_,l0⟩:=Yc ["tape", "few"] X G n2;obtain ⟨_,m2⟩:=Yc ["tape", "most"] X G n8;obtain ⟨_,l5⟩:=Yc ["question", "moves", "served"] X G n5;obtain ⟨_,k4⟩:=Yc ["question", "cut"] X G q7;obtain ⟨_,l6⟩:=Yc ["question", "found"] X G s5;have o8:=Qrg (st:=jx) (ps:=["script"]) X G k6 p7 o5 p8 fun _ _ _ _ _ _ us hl=>match us,hl with | [_],_=>rfl
 refine ⟨PySem.W.fnOf "law" "law" (Yb jx) (Js jx) (Qa jx) .none g1 g0 g3 f0 e3 g4,fun s v=>.of_eq rfl,fun base kb nb=>?_⟩;have d1:=A1.d l.prog w base rfl (Q64 A1.F T    );have I:=A2.d l.prog w base rfl (Q2j A2.F T   d1 );have c5:=A3.d l.prog w base rfl (Q4f A3.F T    );have B:=A4.d l.prog w base rfl (zd A4.F T    );have d6:=A5.d l.prog w base rfl (Q80 A5.F T   I );have d2:=A6.d l.prog w base rfl (Q65 A6.F T   B I );have a3:=A7.d l.prog w base rfl (Kh A7.F T   B d6 I );have O:=A8.d l.prog w base rfl (U9 A8.F T   a3 c5 );have a4:=A9.d l.prog w base rfl (Ki A9.F T   B O );have d0:=i5.d l.prog w base rfl (Q66 i5.F T   I )
 have c6:=l3.d l.prog w base rfl (Q4e l3.F T   B d0 I );have b8:=k0.d l.prog w base rfl (Q18 k0.F T   B c6 );have b6:=i4.d l.prog w base rfl (Q17 i4.F T   B d2 a4 b8 );have U:=j1.d l.prog w base rfl (yg j1.F T  d7 b6 );have d4:=i8.d l.prog w base rfl (Q7x i8.F T    );have b4:=l9.d l.prog w base rfl (Q16 l9.F T    );have c8:=k8.d l.prog w base rfl (Q4d k8.F T    );have b5:=k9.d l.prog w base rfl (Q7z k9.F T   b4 c8 );have c0:=l4.d l.prog w base rfl (Q2i l4.F T    );have d5:=k3.d l.prog w base rfl (Q7y k3.F T    );have e4:=m3.d l.prog w base rfl (Qex m3.F T   b5 c0 d5 );have d3:=m5.d l.prog w base rfl (Q63 m5.F T    )
 have a6:=l8.d l.prog w base rfl (Q2k l8.F T   d4 e4 b5 d3 );have e7:=l7.d l.prog w base rfl (Qjc l7.F T   U a6 );have a8:=m6.d l.prog w base rfl (xy m6.F T   U a6 );have c1:=k7.d l.prog w base rfl (Q2n k7.F T    );have c2:=i9.d l.prog w base rfl (Q2m i9.F T   c1 );have a5:=i6.d l.prog w base rfl (Q1b i6.F T    );have b7:=m0.d l.prog w base rfl (Q19 m0.F T    );have c7:=l0.d l.prog w base rfl (Q4g l0.F T   a5 );have a7:=m2.d l.prog w base rfl (ze m2.F T   a5 c7 );have J:=l5.d l.prog w base rfl (qq l5.F T    );have b1:=k4.d l.prog w base rfl (xz k4.F T    );have b9:=l6.d l.prog w base rfl (Q1a l6.F T   b7 J e7 b1 )
 exact Qjw hL (Qpz o8.F T   a7 c2 a8 b9 J ) Qjx
end Lw
namespace PySem.W.Fast
local macro_rules|`(command|open $n*)=>return Lean.mkNullNode (<-n.mapM λn=>`(command|theorem $n:ident:True:=trivial))
open tw18337993464990697534 tw7698495938550704157 tw7228532578416086340 tw8973835884464571958 tw6838204466207689578 tw14393223450526619226 tw13157583638506377741 tw8176307433696533973 tw2930866859451057115 te10388864977474172905 te7831166397050165475 te8737437082814079269 te14418330237079166758 te15219450635532988371 te15600502853601092024 te4570671853536677817 te2910903963533907802 te16908114391667113012 te5092532554007519181 te512367479990686530 te10348439409679904758 te12993643331227890090 te2403595774278226531 te3064869926926212782 te4946703310928090697 te13798023402300878144 te11045092095318645702 te10369607229449810995 te15861455499732910473 te2899137485308513929 te6964512303109601919 te4327205119446889914 te9796853137333720130 te10831348123456979583 te9616712676897470619 te13319622480501645473 te11484540858437660845 te1458318934078870580 te2230630700152313270 te13678912219452249127 te6376531205153205351 te17177339265282985482 te6539368556332874500 te7732625838433367254 te4350314142763298892 te15818096034309927336 te16900052272232003110 te5586862626430520582 te8600881833579612076 te16115553654129813361 te1605519255230530437 te14664491393432165776 te16136165750194009345 te11908164720961966681 te15725858551677226029 te4004020654535895796 te1611275416342331228 te15300274817465937765 te708727751452601445 te11688467966264505643 te12039137548504175108 te8861001288613723990 te3082464464304400766 te17903182495496760884 te10849737110731970137 te11610514955793542992 te12328136172668202758 te15192372058373564912 te18441141490583511252 te5949968003264369053 te9479969834338455636 te1340092295386223158 te12777907505451131903 te12727135358852897384 te17823277324674565813 te7969568969887160003 te6211892802786848097 te2835224840149119493 te428656568121576756 te18139116617590591699 te11114329111999971929 te12786428728664692014 te5583984360160613287 te5690624794949233550 te13807395260764901465 te5478651433084289997 te953100002823104352 te10059014019546631386 te4474535731394069942 te15520753084469230851 te9773113415084165036 te18075791695573956665 te14027977190141396096 te11462917599657665629 te2767150976063484220 te17940753156087629359 te5955112904358210713 te12083540684794837949 te15387028172631082104 te11191698788690282383 te2350792064616936660 te17076689679694416658 te17509814601103212447 te1377295971282649905 te857608085657389310 te14846301808985838263 te14729649406837999940 te15087685950961157621 te13507153020441214122 te13502656091231388583 te12419131198450184607 te9763508761491903259 te1046613459505030746 te9126094860530544539 te11106894271539911083 te13898082000757627082 te939337033882644124 te7133391197293755438 te4067342104143023443 te13264603863412444223 te2992728265884326710 te9433763388451452211 te8986503787129150370 te4054993102814544381 te12213170842381845184 te15864598967710084217 te13675419654183730062 te8371663348930361055 te4989998988140984786 te14595811010287595776 te1577008822142758732 te11968666863963474336 te13833830382441481949 te11728490880304660188 te17664087398299616959
end PySem.W.Fast
open PySem PySem.W PyProof.Rows Sm
set_option maxRecDepth 100000 in
set_option maxHeartbeats 0 in
theorem PySem.Challenge.cw_lendwharf_k48_first_come_first_served_holds : PySem.Challenge.rw_lendwharf_k48_first_come_first_served.Holds := by
 w_on; o_law; k_head; (case hw=>w_witness2)
 k_fill
 refine Sm.walkS (l:=PySem.Challenge.rw_lendwharf_k48_first_come_first_served) (k:=11) rfl ⟨rfl,by decide,by decide⟩ rfl (fun w h Y=>PySem.W.kIn_of Y) ?F
 case F=>
  intro w mg fa h KX G hmg;refine' Lw.all_mk KX G hmg ..
  any_goals k_is
  any_goals exact FA.mk (by k_is) (by k_is) (by k_is) (by k_is)
  any_goals k_exc
  all_goals first | rfl | decide
