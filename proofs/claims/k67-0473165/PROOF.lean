import PyProof.Rows.All
import Wide.All
import OpenK.AllK
import Wide.FinOn
import Lean
import PyProof.EqAt
import PyProof.EqKinds
import PyProof.TupleCall
import PyProof.ZipIter
import PyProof.Draws
import PyProof.SumAny
import PyProof.EnumMake
import PyProof.WalkInts
import PyProof.ExcArgsOwn
import PyProof.ExcAttrAll.ValueError
import PyProof.NsDelKeeps
import KE.KTryMore
import OpenK.KOwn
import PyProof.ListMulRoad
import PyProof.FactsAll.tuple_2
import PyProof.NeKinds
import PyProof.Rows.RuleIs
import PyProof.ExcInit
import PyProof.ExcClass3
import OpenK.KCls
import PyProof.InstStoreFacts
import OpenK.KMake
import PyProof.DictRoads
import PyProof.Rows.CountFlat
import PyProof.ListRange
import PyProof.Rows.SetFrom
import PyProof.CollectStr
import PyProof.Rows.TupMore
import PyProof.AttrMissHeap
import KE.KDictOf
import PyProof.DictWalks
import KE.KSortTup
import PyProof.DictItemsLoops
import KE.KDictList
import PyProof.CallStr
import PyProof.StrWalks
import PyProof.StrOps
import PyProof.StrCalls2
import KE.KRevIter
import PyProof.Rows.StrOrd
import PyProof.Rows.StrNews
import PyProof.JoinWalk
import PyProof.CollectIter
import PyProof.Conv_int
import PyProof.FactsAll.str
import PyProof.Conv_int_bool
import PySem.Challenge.RW_lendwharf_k67_whole_sent_again_and_falle
open Lean Parser Command in
local macro_rules|`(command|def $i:declId $s:optDeclSig $v:declVal)=>`(command|noncomputable def $i $s:optDeclSig $v:declVal)
open Lean Parser Command in
local macro_rules|`(command|abbrev $i:declId $s:optDeclSig $v:declVal)=>`(command|noncomputable abbrev $i $s:optDeclSig $v:declVal)
set_option Elab.async false
set_option linter.all false
set_option maxRecDepth 100000
set_option maxHeartbeats 4000000
open List renaming getElem?_eq_some_iff -> O0, length_map -> O1, getElem?_eq_getElem -> O2, mem_cons_of_mem -> O4, length_append -> O5, getElem?_append_left -> O7, size_toArray -> O8, length_cons -> O9, map_cons -> D0, mem_map -> D6, mem_cons -> D7, getElem?_append_right -> D9, mem_append -> E1, getElem?_map -> E2, mem_of_getElem? -> E3, mem_append_right -> E4, map_append -> E5, mem_cons_self -> E7, all_eq_true -> F0, getElem?_set_ne -> F1, getElem?_set_self -> F3, getD_eq_getElem?_getD -> F4, mem_filter -> F5, mem_append_left -> F6, length_range -> F7, foldl_cons -> F8, mem_flatMap -> G7, append_nil -> L0, getElem_of_mem -> L3, nodup_append -> L4, length_set -> L6, length_take -> L7, map_map -> L9, mem_zipIdx_iff_getElem? -> M0, getElem_mem -> M9, map_congr_left -> N0, length_singleton -> N1, getElem?_eq_none -> N2
open PySem.Heap renaming get?_push_of_some -> O3, lt_size -> D5, get?_push_size -> D8, get?_update_other -> G6, size_push -> G9, get?_update_self -> L5
open Nat renaming le_refl -> O6, lt_of_lt_of_le -> D3, le_trans -> E6, ne_of_lt -> E8, le_of_ble_eq_true -> F9, zero_le -> G8, lt_irrefl -> L8
open Bool renaming false_ne_true -> D4, and_eq_true -> E9, false_eq_true -> F2
open PySem renaming Value -> aA, Addr -> aB, Shared -> aC, wpAny_bind -> aD, wpAny -> aF, Expr -> aH, model -> aI, World -> aJ, Program -> aK, Stmt -> aL, Around -> aM, starEach -> aN, eval -> aO, cLine -> aP, FuncData -> aQ, Paired -> aR, compareOp -> aS, mainGlobals -> aU, rawInt -> aV, SetTable -> aW, bootBuiltins -> aX, backTo -> aY, binaryOp -> aZ, wpAny_holding -> ae, sysModules -> af, wpAny_call_entry -> ag, pyNext -> ak, cellsFrom -> ao, wpAny_mono -> aq, holding -> ar, NameKind -> au, wpAny_newObj_type -> av, assignEach -> aw, wpAny_field -> ay, wpAny_ite_split -> az, wpAny_seqItems -> bA, wpAny_truthy_bool -> bB, foldedSetIterable -> bC, wpAny_typeOf -> bD, call_meets -> bE, plainId_quiet -> bF, codeAny_builtin -> bG, wpAny_isInstance -> bH, wpAny_passesOwn -> bI, sliceBounds -> bJ, valueAt -> bK, isSubtype_type -> bL, wpAny_pyIter_tuple -> bM, behindInMarks -> bN, attributeBase -> bO, wpAny_setField_rec -> bP, wpAny_rule -> bQ, codeAny_mono -> bR, raiseNew -> bS
noncomputable section
theorem bT {c:Prop}{h:Decidable c}(q:c){α:Sort _}{t e:α}:ite c t e=t:=if_pos q
theorem bU {c:Prop}{h:Decidable c}(q:¬c){α:Sort _}{t e:α}:ite c t e=e:=if_neg q
theorem bV {p:Prop}[i:Decidable p](h:¬p):decide p=false:=decide_eq_false h
theorem bW {p:Prop}[i:Decidable p](h:p):decide p=true:=decide_eq_true h
namespace L2
open PySem PySem.Spec PyProof.Rows
variable {h:Heap} {a b it dx:aB} {α:Type} {us:List aA} {u:aA} {g':Array GenState} {t' k n:Nat} {d':Drawn} {ch fp:List aB} {M:Model} {A:aM} {E:aA->aC->Prop} {Q:Unit->aC->Prop} {K:PySem.W.Frag} {c tg l:aH} {es:List aH} {g:Int->Int->Int} {f:aA->aA->Sem aA} {op:CmpOp} {mA mg:Str->Option aA} {fd:aQ} {ps:List Str}
section
abbrev Key:=Sum Int Str
def Q3n:Key->aA->Bool
 | .inl k,v=>Value.isInt k v
 | .inr x,v=>Value.isStrOf x v
def Qxi (w:aJ):Key->Int
 | .inl k=>hashInt k
 | .inr x=>hashStr w x
theorem Jq:∀ {k:Key} {v:aA},Q3n k v=true->(∃ i t,k=Sum.inl i/\v=Value.int i t)\/(∃ x t,k=Sum.inr x/\v=Value.str x t)
 | .inl i,v,h=>by
  obtain ⟨t,e⟩:=Value.isInt_shape (k:=i) (v:=v) h;exact .inl ⟨i,t,rfl,e⟩
 | .inr x,v,h=>by
  obtain ⟨t,e⟩:=Value.isStrOf_shape (x:=x) (v:=v) h;exact .inr ⟨x,t,rfl,e⟩
theorem xh (i:Int) (t:Tok):Q3n (.inl i) (.int i t)=true:=by simp [Q3n,Value.isInt]
theorem xg (x:Str) (t:Tok):Q3n (.inr x) (.str x t)=true:=by simp [Q3n,Value.isStrOf]
theorem Qrh (a b:Int):decide ((Sum.inl a:Key)=Sum.inl b)=(a == b):=by
 by_cases e:a=b
 ·subst e; simp
 ·have h:¬ (Sum.inl a:Key)=Sum.inl b:=fun q=>e (Sum.inl.inj q)
  rw [bV h];exact (beq_eq_false_iff_ne.mpr e).symm
theorem Qre (a b:Str):decide ((Sum.inr a:Key)=Sum.inr b)=decide (a=b):=by
 by_cases e:a=b
 ·subst e; simp
 ·have h:¬ (Sum.inr a:Key)=Sum.inr b:=fun q=>e (Sum.inr.inj q)
  rw [bV h,bV e]
theorem Qrg (a:Int) (b:Str):decide ((Sum.inl a:Key)=Sum.inr b)=false:=bV (fun q=>nomatch q)
theorem Qrf (a:Str) (b:Int):decide ((Sum.inr a:Key)=Sum.inl b)=false:=bV (fun q=>nomatch q)
def Z9 (prog:aK) (w:aJ):PySem.KeyKind prog w Key where
 is:=Q3n
 hash:=Qxi w
 inj:=fun v a b ha hb=>by
  rcases Jq ha with ⟨i,t,rfl,rfl⟩ | ⟨x,t,rfl,rfl⟩
  ·rcases Jq hb with ⟨j,u,rfl,e⟩ | ⟨y,u,rfl,e⟩
   ·injection e with e1 _; rw [e1]
   ·exact nomatch e
  ·rcases Jq hb with ⟨j,u,rfl,e⟩ | ⟨y,u,rfl,e⟩
   ·exact nomatch e
   ·injection e with e1 _; rw [e1]
 byValue:=fun k v h=>by
  rcases Jq h with ⟨i,t,rfl,rfl⟩ | ⟨x,t,rfl,rfl⟩ <;> rfl
 pyHash:=fun hv h=>by
  rcases Jq hv with ⟨i,t,rfl,rfl⟩ | ⟨x,t,rfl,rfl⟩
  ·exact wpAny_pyHash_int h
  ·exact wpAny_pyHash_str h
 eqBool:=fun hu hv h=>by
  rcases Jq hu with ⟨i,t,rfl,rfl⟩ | ⟨x,t,rfl,rfl⟩
  ·rcases Jq hv with ⟨j,u,rfl,rfl⟩ | ⟨y,u,rfl,rfl⟩
   ·rw [Qrh] at h; exact wpAny_eqBool_int h
   ·rw [Qrg] at h; exact SeqAt.EqAt.int_str i t y u _ _ _ _ h
  ·rcases Jq hv with ⟨j,u,rfl,rfl⟩ | ⟨y,u,rfl,rfl⟩
   ·rw [Qrf] at h; exact SeqAt.EqAt.str_int x t j u _ _ _ _ h
   ·rw [Qre] at h; exact wpAny_eqBool_str h
 «strs»:=fun k x t v h=>by
  rcases Jq h with ⟨i,u,rfl,e⟩ | ⟨y,u,rfl,e⟩
  ·exact nomatch e
  ·injection e with e1 _
   subst e1;cases v <;> rfl
inductive HK where
 | int (i:Int) | str (x:Str) | tup (l:List HK)
instance:DecidableEq HK:=fun _ _=>Classical.propDecidable _
mutual
def KIs (h:Heap):HK->aA->Prop
 | .int i,v=>∃ t,v=.int i t
 | .str x,v=>∃ t,v=.str x t
 | .tup l,v=>∃ a items,v=.ref a/\IsTup h a items/\KIsL h l items.toList
def KIsL (h:Heap):List HK->List aA->Prop
 | [],vs=>vs=[]
 | k :: l,vs=>∃ v r,vs=v :: r/\KIs h k v/\KIsL h l r
end
def Dp:Nat->HK->Prop
 | _,.int _=>True
 | _,.str _=>True
 | 0,.tup _=>False
 | d + 1,.tup l=>∀ k∈l,Dp d k
theorem KIsL.len :∀ {l:List HK} {vs:List aA},KIsL h l vs->l.length=vs.length
 | [],_,r=>by cases r; rfl
 | k :: l,_,⟨v,r,e,_,q⟩=>by subst e; rw [O9,O9,q.len]
theorem KIsL.get :∀ {l:List HK} {vs:List aA},KIsL h l vs->∀ (j:Nat) (h1:j < l.length) (h2:j < vs.length),KIs h l[j] vs[j]
 | [],_,_,j,h1,_=>by simp at h1
 | k :: l,_,⟨v,r,e,q,t⟩,0,h1,h2=>by subst e; exact q
 | k :: l,_,⟨v,r,e,q,t⟩,j + 1,h1,h2=>by subst e; exact t.get j (by simpa using h1) (by simpa using h2)
theorem KIsL.of {h':Heap}:∀ {l:List HK} {vs:List aA},KIsL h l vs->(∀ k v,k∈l->KIs h k v->KIs h' k v)->KIsL h' l vs
 | [],_,r,_=>r
 | k :: l,_,⟨v,r,e,q,t⟩,f=>⟨v,r,e,f k v (by simp) q,t.of fun k v z=>f k v (O4 _ z)⟩
theorem KIs.keep {h':Heap} (q:∀ a its,IsTup h a its->IsTup h' a its):∀ (d:Nat) {k:HK} {v:aA},Dp d k->KIs h k v->KIs h' k v
 | d,.int _,_,_,r=>r
 | d,.str _,_,_,r=>r
 | 0,.tup _,_,p,_=>p.elim
 | d + 1,.tup l,_,p,⟨a,its,e,i,r⟩=>⟨a,its,e,q a its i,r.of fun k v hm=>KIs.keep q d (p k hm)⟩
theorem Qdx {x y:Array aA} (p:IsTup h a x) (q:IsTup h a y):x=y:=by
 obtain ⟨o,h1,h2,n,J⟩:=p;obtain ⟨o',z,g2,O,I⟩:=q;rw [h1] at z; cases z;rw [J] at I; cases I; rfl
theorem KIs.inj :∀ (d:Nat) {x y:HK} {v:aA},Dp d x->Dp d y->KIs h x v->KIs h y v->x=y:=by
 intro d
 induction d with
 | zero=>
  intro x y v dx z p q;cases x with
  | tup l=>exact dx.elim
  | int i=>
   obtain ⟨t,rfl⟩:=p;cases y with
   | tup l=>exact z.elim
   | int j=>obtain ⟨u,e⟩:=q; cases e; rfl
   | str j=>obtain ⟨u,e⟩:=q; cases e
  | str i=>
   obtain ⟨t,rfl⟩:=p;cases y with
   | tup l=>exact z.elim
   | int j=>obtain ⟨u,e⟩:=q; cases e
   | str j=>obtain ⟨u,e⟩:=q; cases e; rfl
 | succ d O=>
  intro x y v dx z p q;cases x with
  | int i=>
   obtain ⟨t,rfl⟩:=p;cases y with
   | tup l=>obtain ⟨_,_,e,_⟩:=q; cases e
   | int j=>obtain ⟨u,e⟩:=q; cases e; rfl
   | str j=>obtain ⟨u,e⟩:=q; cases e
  | str i=>
   obtain ⟨t,rfl⟩:=p;cases y with
   | tup l=>obtain ⟨_,_,e,_⟩:=q; cases e
   | int j=>obtain ⟨u,e⟩:=q; cases e
   | str j=>obtain ⟨u,e⟩:=q; cases e; rfl
  | tup l=>
   obtain ⟨a,its,rfl,Y,p2⟩:=p;cases y with
   | int j=>obtain ⟨u,e⟩:=q; cases e
   | str j=>obtain ⟨u,e⟩:=q; cases e
   | tup m=>
    obtain ⟨b,U,e,J,I⟩:=q;cases e;have e:=Qdx Y J;subst e;have l1:=p2.len;have Z:=I.len;congr 1;refine List.ext_getElem (by omega) fun j h1 h2=>?_
    exact O (dx _ (M9 h1)) (z _ (M9 h2)) (p2.get j h1 (by omega)) (I.get j h2 (by omega))
theorem Qmv [DecidableEq α] (d:α) (xs ys:List α):((List.range (min xs.length ys.length)).all (fun j=>decide (xs.getD j d=ys.getD j d)) && xs.length == ys.length)=decide (xs=ys):=by
 rw [Bool.eq_iff_iff];simp only [E9,F0,List.mem_range,decide_eq_true_eq,beq_iff_eq];constructor
 ·rintro ⟨h,e⟩;refine List.ext_getElem e fun i h1 h2=>?_
  have:=h i (by omega);simpa [F4,h1,h2] using this
 ·rintro rfl;simp
section
variable {prog:aK} {w:aJ}
mutual
def hkH (prog:aK) (w:aJ):HK->Int
 | .int i=>(Z9 prog w).hash (.inl i)
 | .str x=>(Z9 prog w).hash (.inr x)
 | .tup l=>reduceHash (Builtin.Tuple.tupleHashOf (hkHL prog w l))
def hkHL (prog:aK) (w:aJ):List HK->List Int
 | []=>[]
 | k :: l=>hkH prog w k :: hkHL prog w l
end
mutual
def hkD:HK->Nat
 | .int _=>1
 | .str _=>1
 | .tup l=>hkDL l + 1
def hkDL:List HK->Nat
 | []=>0
 | k :: l=>hkD k + hkDL l
end
theorem Qh2 (l:List HK):hkHL prog w l=l.map (hkH prog w):=by
 induction l with
 | nil=>rfl
 | cons k l q=>rw [hkHL,q]; rfl
theorem Qh3 (l m:List HK):hkDL (l ++ m)=hkDL l + hkDL m:=by
 induction l with
 | nil=>simp [hkDL]
 | cons k l q=>rw [List.cons_append,hkDL,hkDL,q]; omega
variable {A:aM} {E:aA->aC->Prop}
theorem Qmu (xs ys:List HK):((List.range (min xs.length ys.length)).all (fun j=>decide (xs.getD j (.int 0)=ys.getD j (.int 0))) && xs.length == ys.length)=decide (xs=ys):=Qmv (.int 0) xs ys
theorem Qma:∀ (d:Nat) {A:aM} {s:aC} {k:HK} {v:aA} {Q:Int->aC->Prop},Dp d k->A.units + d < aP->KIs s.heap k v->Q (hkH prog w k) { s with toks:=s.toks + hkD k } ->
  aF (aI prog w) A (pyHash v) Q E s:=by
 intro d
 induction d with
 | zero=>
  intro A s k v Q U hu r q;cases k with
  | tup l=>exact U.elim
  | int i=>obtain ⟨t,rfl⟩:=r; exact (Z9 prog w).pyHash (k:=.inl i) (xh i t) q
  | str i=>obtain ⟨t,rfl⟩:=r; exact (Z9 prog w).pyHash (k:=.inr i) (xg i t) q
 | succ d ih=>
  intro A s k v Q U hu r q;cases k with
  | int i=>obtain ⟨t,rfl⟩:=r; exact (Z9 prog w).pyHash (k:=.inl i) (xh i t) q
  | str i=>obtain ⟨t,rfl⟩:=r; exact (Z9 prog w).pyHash (k:=.inr i) (xg i t) q
  | tup ks=>
   obtain ⟨a,Z,rfl,⟨o,ho,hc,n,hd⟩,hi⟩:=r;have Y:s.TypeIs (.ref a) "tuple" := ⟨o,ho,hc⟩;have a2:A.units < aP:=by omega
   unfold pyHash;unfold pyHashByItsType;have nb:¬ (some (Value.builtin "tuple.__hash__") == some Value.none)=true:=by rw [beq_builtin_none]; exact D4
   have sp {Q:Option aA->aC->Prop} (h:Q (some (.builtin "tuple.__hash__")) s):aF (aI prog w) A (specialOf (.ref a) "__hash__") Q E s:=wpAny_specialOf Y F.slot_tuple_hash.lookup h;refine aD (wpAny_cRoomFor_or (.inr a2) (aD (sp ?_)));show aF _ _ (if (some (Value.builtin "tuple.__hash__") == some Value.none)=true then _ else _) _ _ _;rw [bU nb];refine aD (sp (aD (wpAny_callSpecialIfBoundUnlessNone?_slot Y F.slot_tuple_hash (ag F.slot_tuple_hash Y F.entry_tuple_hash ?_ (F.args_tuple_hash_1 _)))));show aF _ A.in1 (Builtin.Tuple.tupleItemsOf (.ref a) >>= _) _ _ s;refine aD (wpAny_tupleItemsOf ho hd (aD ?_));rw [<- Array.forIn_toList];have a1:A.in1.units + d < aP:=by show A.units + 1 + d < aP; omega
   refine wpAny_forIn_list _ (fun rest (b:Array Int) s'=>∃ I J,ks=I ++ J/\KIsL s.heap J rest/\b.toList=I.map (hkH prog w)/\s'={ s with toks:=s.toks + hkDL I }) _ ?_ ?_ _ _ ⟨[],ks,rfl,hi,rfl,rfl⟩
   ·rintro x rest b s' ⟨I,J,rfl,O,hb,rfl⟩;cases J with
    | nil=>cases O
    | cons k J=>
     obtain ⟨v,r,e,h1,h2⟩:=O;cases e;refine aD (ih (s:={ s with toks:=s.toks + hkDL I }) (U k (by simp)) a1 h1 ?_);exact wpAny_pure ⟨I ++ [k],J,by simp,h2,by simp [hb],by simp [Qh3,hkDL,Nat.add_assoc]⟩
   ·rintro b s' ⟨I,J,rfl,O,hb,rfl⟩;cases J with
    | cons k J=>obtain ⟨_,_,e,_⟩:=O; cases e
    | nil=>
     rw [L0] at q;show aF _ _ (retInt (Builtin.Tuple.tupleHashOf b.toList)) _ _ _;rw [hb,<- Qh2];refine wpAny_ret_mkInt ?_;have q:Q (reduceHash (Builtin.Tuple.tupleHashOf (hkHL prog w I))) { s with toks:=s.toks + (hkDL I + 1) }:=q;generalize Builtin.Tuple.tupleHashOf (hkHL prog w I)=z at *;show aF _ _ (if (decide (-(2:Int) ^ 63<=z) && decide (z < 2 ^ 63))=true then _ else _) Q E _;unfold reduceHash at q
     split
     ·rename_i hr;rw [bT hr] at q;exact wpAny_pure (by simpa [Nat.add_assoc] using q)
     ·rename_i hr;rw [bU hr] at q;exact aD (bQ (wpAny_pure (by simpa [Nat.add_assoc] using q)))
theorem Qv0:∀ (d:Nat) {A:aM} {s:aC} {x y:HK} {u v:aA},Dp d x->Dp d y->A.units + d < aP->KIs s.heap x u->KIs s.heap y v->SeqAt.EqAt A s u v (decide (x=y)):=by
 intro d;have J:∀ {A:aM} {s:aC} {x y:HK} {u v:aA},(∀ l,x≠.tup l)->(∀ l,y≠.tup l)->KIs s.heap x u->KIs s.heap y v->SeqAt.EqAt A s u v (decide (x=y)):=by
  intro A s x y u v nx ny p q;cases x with
  | tup l=>exact absurd rfl (nx l)
  | int i=>
   obtain ⟨t,rfl⟩:=p;cases y with
   | tup l=>exact absurd rfl (ny l)
   | int j=>
    obtain ⟨t',rfl⟩:=q;have:=SeqAt.EqAt.int_int (A:=A) (s:=s) i t j t'
    rwa [show (i == j)=decide (HK.int i=HK.int j) by by_cases e:i=j <;> simp [e]] at this
   | str j=>
    obtain ⟨t',rfl⟩:=q;rw [bV (by simp)];exact SeqAt.EqAt.int_str _ _ _ _
  | str i=>
   obtain ⟨t,rfl⟩:=p;cases y with
   | tup l=>exact absurd rfl (ny l)
   | int j=>
    obtain ⟨t',rfl⟩:=q;rw [bV (by simp)];exact SeqAt.EqAt.str_int _ _ _ _
   | str j=>
    obtain ⟨t',rfl⟩:=q;have:=SeqAt.EqAt.str_str (A:=A) (s:=s) i t j t'
    rwa [show (i == j)=decide (HK.str i=HK.str j) by by_cases e:i=j <;> simp [e]] at this
 induction d with
 | zero=>
  intro A s x y u v dx Z hu p q;exact J (fun l e=>by subst e; exact dx) (fun l e=>by subst e; exact Z) p q
 | succ d ih=>
  intro A s x y u v dx Z hu p q;have I:A.units < aP:=by omega
  cases x with
  | tup l=>
   obtain ⟨a,its,rfl,Y,p2⟩:=p;cases y with
   | int j=>
    obtain ⟨t',rfl⟩:=q;rw [bV (by simp)];exact SeqAt.EqAt.tuple_int _ _ Y I
   | str j=>
    obtain ⟨t',rfl⟩:=q;rw [bV (by simp)];exact SeqAt.EqAt.tuple_str _ _ Y I
   | tup m=>
    obtain ⟨b,z,rfl,O,U⟩:=q
    by_cases e:a=b
    ·subst e;have e:=KIs.inj (d + 1) (h:=s.heap) dx Z ⟨a,its,rfl,Y,p2⟩ ⟨a,z,rfl,O,U⟩;rw [bW e];exact SeqAt.EqAt.same _
    ·have l1:=p2.len;have l2:=U.len;have he:∀ j (h1:j < its.size) (h2:j < z.size),SeqAt.EqAt A.in1 s its[j] z[j] (decide (l.getD j (.int 0)=m.getD j (.int 0))):=fun j h1 h2=>by
      have k1:j < l.length:=by rw [l1,Array.length_toList]; exact h1
      have k2:j < m.length:=by rw [l2,Array.length_toList]; exact h2
      have e1:l.getD j (.int 0)=l[j]:=by rw [F4,O2 k1]; rfl
      have e2:m.getD j (.int 0)=m[j]:=by rw [F4,O2 k2]; rfl
      rw [e1,e2];exact ih (dx _ (M9 k1)) (Z _ (M9 k2)) (by show A.units + 1 + d < aP; omega) (p2.get j k1 (by simpa using h1)) (U.get j k2 (by simpa using h2))
     have rc:=SeqAt.RcAt.tuples Y O I he;have s1:its.size=l.length:=by rw [l1,Array.length_toList]
     have s2:z.size=m.length:=by rw [l2,Array.length_toList]
     rw [s1,s2,Qmu] at rc;exact SeqAt.EqAt.of_refs e (by simpa using rc)
  | int i=>
   cases y with
   | tup m=>
    obtain ⟨t',rfl⟩:=p;obtain ⟨b,z,rfl,O,U⟩:=q;rw [bV (by simp)];exact SeqAt.EqAt.int_tuple _ _ O I
   | _=>exact J (by simp) (by simp) p q
  | str i=>
   cases y with
   | tup m=>
    obtain ⟨t',rfl⟩:=p;obtain ⟨b,z,rfl,O,U⟩:=q;rw [bV (by simp)];exact SeqAt.EqAt.str_tuple _ _ O I
   | _=>exact J (by simp) (by simp) p q
theorem Qgz:∀ (d:Nat) {A:aM} {s:aC} {k:HK} {v:aA} {Q:Bool->aC->Prop} (m:Nat),d < m->Dp d k->KIs s.heap k v->Q true s->aF (aI prog w) A (eqIsQuiet m v) Q E s:=by
 intro d;have z:∀ {A:aM} {s:aC} {v:aA} {Q:Bool->aC->Prop} (m:Nat),carriedByValue v=true->Q true s->aF (aI prog w) A (eqIsQuiet m v) Q E s:=by
  intro A s v Q m hv q;rw [eqIsQuiet_byValue m hv];exact wpAny_pure q
 induction d with
 | zero=>
  intro A s k v Q m hm O r q;cases k with
  | tup l=>exact O.elim
  | int i=>obtain ⟨t,rfl⟩:=r; exact z m rfl q
  | str i=>obtain ⟨t,rfl⟩:=r; exact z m rfl q
 | succ d ih=>
  intro A s k v Q m hm O r q;cases k with
  | int i=>obtain ⟨t,rfl⟩:=r; exact z m rfl q
  | str i=>obtain ⟨t,rfl⟩:=r; exact z m rfl q
  | tup ks=>
   obtain ⟨a,J,rfl,⟨o,Y,hc,n,hd⟩,hi⟩:=r;have Z:s.TypeIs (.ref a) "tuple" := ⟨o,Y,hc⟩;obtain ⟨m,rfl⟩:∃ m',m=m' + 1:=⟨m - 1,by omega⟩;unfold eqIsQuiet;refine aD (wpAny_specialOf Z F.slot_tuple_eq.lookup ?_);show aF _ _ (isInstance (.ref a) (.type "tuple") >>= _) _ _ s;refine aD (bH Z isSubtype_tuple_tuple ?_);simp only [Bool.not_true,F2,if_false];refine aD (bA Y hd (aD ?_));show aF _ _ (forIn J _ _) _ _ s;rw [<- Array.forIn_toList];refine wpAny_forIn_list _ (fun rest r s'=>r.1=none/\s'=s/\∃ l,KIsL s.heap l rest/\∀ k∈l,k∈ks) _ ?_ ?_ _ _ ⟨rfl,rfl,ks,hi,fun _ h=>h⟩
   ·rintro v rest r s' ⟨U,rfl,l,hl,I⟩;cases l with
    | nil=>cases hl
    | cons k l=>
     obtain ⟨v',r',e,h1,h2⟩:=hl;cases e;refine aD (ih m (by omega) (O k (I k (by simp))) h1 ?_);simp only [Bool.not_true,F2,if_false];exact wpAny_pure ⟨rfl,rfl,l,h2,fun x hx=>I x (O4 _ hx)⟩
   ·rintro ⟨r1,r2⟩ s' ⟨U,rfl,_⟩;simp only at U;subst U;exact wpAny_pure q
def nk (prog:aK) (w:aJ):HeapKind prog w HK where
 is:=fun h k a=>KIs h k (.ref a)/\Dp 5 k
 hash:=hkH prog w
 draws:=hkD
 room:=fun A=>A.units + 5 < aP
 inj:=fun hx hy=>KIs.inj 5 hx.2 hy.2 hx.1 hy.1
 keeps:=fun {h h' k a d o es ep} x ho hd hs=>⟨KIs.keep (fun b its ⟨ob,h1,h2,n,h3⟩=>⟨ob,(hs.2 b fun e=>by
  subst e;rw [ho] at h1; cases h1;rw [hd] at h3; cases h3).trans h1,h2,n,h3⟩) 5 x.2 x.1,x.2⟩
 pyHash:=fun hu hk h=>Qma 5 hk.2 hu hk.1 h
 eqBool:=fun hu hx hy h=>Qv0 5 hx.2 hy.2 hu hx.1 hy.1 prog w _ _ h
 quiet:=fun hk h=>Qgz 5 8 (by decide) hk.2 hk.1 h
end
theorem Q6x (prog:aK) (w:aJ) (i:Int) (t:Tok):(Z9 prog w).is (.inl i) (.int i t)=true:=xh i t
theorem Q6w (prog:aK) (w:aJ) (x:Str) (t:Tok):(Z9 prog w).is (.inr x) (.str x t)=true:=xg x t
end
inductive V where
 | non | bl (b:Bool) | int (i:Int) | str (x:Str) | byt (b:Array UInt8) | flt (b:UInt64) | ref (a:aB) | ty (n:String)
 deriving DecidableEq
variable {v:V} {vs:List V}
def RelV:V->aA->Prop
 | .non,u=>u=Value.none
 | .bl b,u=>u=Value.bool b
 | .int i,u=>∃ t,u=Value.int i t
 | .str x,u=>∃ t,u=Value.str x t
 | .byt b,u=>∃ t,u=Value.bytes b t
 | .flt b,u=>∃ t,u=Value.float b t
 | .ref a,u=>u=Value.ref a
 | .ty n,u=>u=Value.type n
abbrev Vals:List V->List aA->Prop:=aR RelV
theorem Vals.length {xs:List V} (r:Vals xs us):xs.length=us.length:=Paired.length r
theorem Vals.get:∀ {xs:List V} {us:List aA} {i:Nat} {x:V},Vals xs us->xs[i]?=some x->∃ u,us[i]?=some u/\RelV x u
 | _,_,_,_,.nil,e=>by simp at e
 | _,_,0,_,.cons r _,e=>by simp at e; subst e; exact ⟨_,rfl,r⟩
 | _,_,i + 1,x,.cons _ t,e=>by
  obtain ⟨u,h1,h2⟩:=Vals.get (i:=i) (x:=x) t (by simpa using e);exact ⟨u,by simpa using h1,h2⟩
theorem Vals.set {x:V} (r:RelV x u):∀ {xs:List V} {us:List aA} (i:Nat),Vals xs us->Vals (xs.set i x) (us.set i u)
 | _,_,_,.nil=>.nil
 | _,_,0,.cons _ t=>.cons r t
 | _,_,i + 1,.cons q t=>.cons q (Vals.set r i t)
theorem Vals.append:∀ {xs ys:List V} {us ws:List aA},Vals xs us->Vals ys ws->Vals (xs ++ ys) (us ++ ws)
 | _,_,_,_,.nil,s=>s
 | _,_,_,_,.cons r t,s=>.cons r (Vals.append t s)
theorem Vals.take:∀ {xs:List V} {us:List aA} (n:Nat),Vals xs us->Vals (xs.take n) (us.take n)
 | _,_,0,_=>.nil
 | _,_,_ + 1,.nil=>.nil
 | _,_,n + 1,.cons r t=>.cons r (Vals.take n t)
theorem Vals.drop:∀ {xs:List V} {us:List aA} (n:Nat),Vals xs us->Vals (xs.drop n) (us.drop n)
 | _,_,0,r=>r
 | _,_,_ + 1,.nil=>.nil
 | _,_,n + 1,.cons _ t=>Vals.drop n t
def RelO:Option V->Option aA->Prop
 | some v,some u=>RelV v u
 | none,none=>True
 | _,_=>False
def KV {κ:Type}:List (κ × V)->List (κ × aA)->Prop:=aR fun (p:κ × V) (q:κ × aA)=>p.1=q.1/\RelV p.2 q.2
def kV:Key->V
 | .inl i=>.int i
 | .inr x=>.str x
inductive HO where
 | lst (xs:List V)
 | tup (xs:List V)
 | dK (kvs:List (Key × V)) | dT (kvs:List (HK × V))
 | set (S:Int->Bool) (n:Nat)
 | ins (C dx:aB) (fs:List (Str × V))
 | own (x:aB)
 | xd (fs:List (Str × V))
 | met (f x:aB)
 | rng (lo hi:Int)
 | frz (o:Obj) (u:HO)
 | tbl (ps:Array aA)
 | ext (φ:Heap->Prop)
variable {o:HO}
abbrev Hp:=aB->Option HO
variable {H:Hp}
def upd (H:Hp) (a:aB) (o:HO):Hp:=fun b=>if b=a then some o else H b
theorem Qv :upd H a o a=some o:=by unfold upd; rw [bT rfl]
theorem Qa (h:b≠a):upd H a o b=H b:=by unfold upd; rw [bU h]
theorem Qng {u:HO} (h:H a=some o) (h':H b=some u) (d:o≠u):a≠b:=by
 intro e; subst e; rw [h] at h'; exact d (Option.some.inj h')
theorem Qb (h:H a=some o) (h':H b=none):a≠b:=by
 intro e; subst e; rw [h] at h'; cases h'
mutual
def KAt (H:Hp):HK->V->Prop
 | .int i,v=>v=.int i
 | .str x,v=>v=.str x
 | .tup l,v=>∃ a vs,v=.ref a/\H a=some (.tup vs)/\KAtL H l vs
def KAtL (H:Hp):List HK->List V->Prop
 | [],vs=>vs=[]
 | k :: l,vs=>∃ v r,vs=v :: r/\KAt H k v/\KAtL H l r
end
mutual
theorem KAt.keep {H H':Hp} (q:∀ b xs,H b=some (.tup xs)->H' b=some (.tup xs)):∀ {k:HK} {v:V},KAt H k v->KAt H' k v
 | .int _,_,r=>r
 | .str _,_,r=>r
 | .tup _,_,⟨a,vs,e,h,r⟩=>⟨a,vs,e,q a vs h,KAtL.keep q r⟩
theorem KAtL.keep {H H':Hp} (q:∀ b xs,H b=some (.tup xs)->H' b=some (.tup xs)):∀ {l:List HK} {vs:List V},KAtL H l vs->KAtL H' l vs
 | [],_,r=>r
 | _ :: _,_,⟨v,r,e,h,t⟩=>⟨v,r,e,KAt.keep q h,KAtL.keep q t⟩
end
def KR (H:Hp) (k:HK) (b:aB):Prop:=KAt H k (.ref b)/\Dp 5 k
theorem KR.keep {H':Hp} {k:HK} (r:KR H k b) (q:∀ b xs,H b=some (.tup xs)->H' b=some (.tup xs)):KR H' k b:=⟨r.1.keep q,r.2⟩
section
variable (P:aK) (w:aJ)
def ObjOk (H:Hp) (h:Heap) (a:aB):HO->Prop
 | .lst xs=>xs.length<=sizeLine/\∃ (its:List aA) (n:Nat),Vals xs its/\h.get? a=some { cls:=.type "list",data:=.seq its.toArray n }
 | .tup xs=>xs.length<=sizeLine/\∃ its:List aA,Vals xs its/\IsTup h a its.toArray
 | .dK kvs=>kvs.length<=sizeLine/\(a == af)=false/\∃ vs,KV kvs vs/\h.DictOf (Z9 P w) a vs
 | .dT kvs=>kvs.length<=sizeLine/\(a == af)=false/\∃ xs:List (HK × aB × aA),
   aR (fun (p:HK × V) (q:HK × aB × aA)=>p.1=q.1/\KR H p.1 q.2.1/\RelV p.2 q.2.2) kvs xs /\
   ∃ o es ep,h.get? a=some o/\o.ExactDict/\o.data=.dict es ep/\es.toList=xs.map (entryOfKey (nk P w))/\(xs.map (·.1)).Nodup
 | .set S n=>h.SetOf (intKind P w) a S n
 | .ins C dx fs=>H dx=some (.own a)/\fs.length<=1000/\dx≠a/\h.get? a=some (PySem.W.instObj C dx) /\
   ∃ mA,h.Ns1 dx mA/\(∀ f,RelO (fs.lookup f) (mA f))/\PySem.Within mA (fs.map (·.1))
 | .own _=>∃ o,h.get? a=some o
 | .xd fs=>∃ mA,h.Ns1 a mA/\∀ f,RelO (fs.lookup f) (mA f)
 | .rng lo hi=>∃ t u v,h.get? a=some { cls:=.type "range",data:=.fields #[.int lo t,.int hi u,.int 1 v] }
 | .frz o u=>h.get? a=some o/\ObjOk H h a u
 | .tbl ps=>h.get? a=some { cls:=.none,data:=.fields ps }
 | .met f x=>h.get? a=some (PySem.W.methodObj (.ref f) (.ref x))
 | .ext φ=>φ h/\(∃ o,h.get? a=some o)/\∀ h1 h2:Heap,φ h1->(∀ o,h1.get? a=some o->h2.get? a=some o)->φ h2
def HOk (H:Hp) (h:Heap):Prop:=∀ a o,H a=some o->ObjOk P w H h a o
end
variable {P:aK} {H H':Hp} {h h':Heap} {a:aB} {o:HO}
section
variable {w:aJ}
theorem ObjOk.lt (x:ObjOk P w H h a o):a < h.objs.size:=by
 cases o with
 | lst xs=>obtain ⟨_,_,_,_,e⟩:=x; exact D5 e
 | tup xs=>obtain ⟨_,_,_,p⟩:=x; exact p.lt
 | dK q=>obtain ⟨_,_,_,_,o,_,_,e,_⟩:=x; exact D5 e
 | dT q=>obtain ⟨_,_,_,_,o,_,_,e,_⟩:=x; exact D5 e
 | set S n=>obtain ⟨o,_,_,_,e,_⟩:=x; exact D5 e
 | ins C dx fs=>obtain ⟨_,_,_,e,_⟩:=x; exact D5 e
 | own y=>obtain ⟨_,e⟩:=x; exact D5 e
 | xd fs=>obtain ⟨_,⟨_,_,_,e,_⟩,_⟩:=x; exact D5 e
 | rng lo hi=>obtain ⟨_,_,_,e⟩:=x; exact D5 e
 | frz ob u=>obtain ⟨e,_⟩:=x; exact D5 e
 | tbl ps=>exact D5 (show h.get? a=some _ from x)
 | met f y=>exact D5 (show h.get? a=some _ from x)
 | ext z=>obtain ⟨_,⟨_,e⟩,_⟩:=x; exact D5 e
theorem Paired.mapP {β:Type} {F G:α->β->Prop}:∀ {l₁:List α} {q:List β},aR F l₁ q->(∀ a b,F a b->G a b)->aR G l₁ q
 | _,_,.nil,_=>.nil
 | _,_,.cons r t,f=>.cons (f _ _ r) (Paired.mapP t f)
theorem ObjOk.stay (x:ObjOk P w H h a o) (k:∀ b u,(b=a\/H b=some (.own a))->h.get? b=some u->h'.get? b=some u)
  (U:∀ b,H b=some (.own a)->H' b=some (.own a)) (O:∀ b xs,H b=some (.tup xs)->H' b=some (.tup xs)):ObjOk P w H' h' a o:=by
 induction o with
 | lst xs=>obtain ⟨z,its,n,r,e⟩:=x; exact ⟨z,its,n,r,k _ _ (.inl rfl) e⟩
 | tup xs=>obtain ⟨z,its,r,ob,e,c⟩:=x; exact ⟨z,its,r,ob,k _ _ (.inl rfl) e,c⟩
 | dK I=>obtain ⟨z,y,vs,r,ob,es,ep,e,c⟩:=x; exact ⟨z,y,vs,r,ob,es,ep,k _ _ (.inl rfl) e,c⟩
 | dT I=>
  obtain ⟨z,y,xs,r,ob,es,ep,e,c⟩:=x;exact ⟨z,y,xs,Paired.mapP r fun p q z=>⟨z.1,z.2.1.keep O,z.2.2⟩,ob,es,ep,k _ _ (.inl rfl) e,c⟩
 | set S n=>obtain ⟨ob,es,ep,t,e,c⟩:=x; exact ⟨ob,es,ep,t,k _ _ (.inl rfl) e,c⟩
 | ins C dx fs=>
  obtain ⟨d,z,ne,e,mA,⟨J,es,ep,Y,c⟩,r⟩:=x;exact ⟨U _ d,z,ne,k _ _ (.inl rfl) e,mA,⟨J,es,ep,k _ _ (.inr d) Y,c⟩,r⟩
 | own y=>obtain ⟨ob,e⟩:=x; exact ⟨ob,k _ _ (.inl rfl) e⟩
 | xd fs=>obtain ⟨mA,⟨J,es,ep,e,c⟩,r⟩:=x; exact ⟨mA,⟨J,es,ep,k _ _ (.inl rfl) e,c⟩,r⟩
 | rng lo hi=>obtain ⟨t,u,v,e⟩:=x; exact ⟨t,u,v,k _ _ (.inl rfl) e⟩
 | frz ob u Z=>obtain ⟨e,q⟩:=x; exact ⟨k _ _ (.inl rfl) e,Z q⟩
 | tbl ps=>
  have e:h.get? a=some { cls:=.none,data:=.fields ps }:=x;show h'.get? a=some { cls:=.none,data:=.fields ps };exact k a _ (.inl rfl) e
 | met f y=>
  have e:h.get? a=some (PySem.W.methodObj (.ref f) (.ref y)):=x;show h'.get? a=some (PySem.W.methodObj (.ref f) (.ref y));exact k a _ (.inl rfl) e
 | ext φ=>obtain ⟨p,⟨o,e⟩,st⟩:=x; exact ⟨st _ _ p fun o q=>k _ _ (.inl rfl) q,⟨o,k _ _ (.inl rfl) e⟩,st⟩
theorem HOk.lt (x:HOk P w H h) (e:H a=some o):a < h.objs.size:=(x a o e).lt
theorem HOk.fresh (x:HOk P w H h) (e:h.objs.size<=a):H a=none:=by
 cases q:H a with
 | none=>rfl
 | some u=>exact absurd (D3 (x.lt q) e) (L8 _)
theorem HOk.kept (x:HOk P w H h) (k:∀ b u,h.get? b=some u->h'.get? b=some u):HOk P w H h':=fun a o e=>
 (x a o e).stay (fun b u _ q=>k b u q) (fun _ q=>q) fun _ _ q=>q
theorem HOk.laid (x:HOk P w H h) (k:∀ b u,h.get? b=some u->h'.get? b=some u) (J:h.objs.size<=a) (new:ObjOk P w (upd H a o) h' a o):HOk P w (upd H a o) h':=fun b u e=>by
 have z:=x.fresh J
 by_cases I:b=a
 ·subst I; rw [Qv] at e; cases e; exact new
 ·rw [Qa I] at e;exact (x b u e).stay (fun c v _ q=>k c v q) (fun c q=>by rw [Qa (Qb q z)]; exact q) fun c xs q=>by rw [Qa (Qb q z)]; exact q
end
def Rd (H:Hp) (a:aB) (u:HO):Prop:=H a=some u\/∃ o,H a=some (.frz o u)
theorem Rd.ok {w:aJ} {u:HO} (r:Rd H a u) (x:HOk P w H h):ObjOk P w H h a u:=by
 rcases r with r | ⟨o,r⟩
 ·exact x a u r
 ·obtain ⟨_,q⟩:=x a _ r;exact q
def Mut:Option HO->Prop
 | some (.lst _)=>True
 | some (.dK _)=>True
 | some (.dT _)=>True
 | some (.set _ _)=>True
 | some (.ins _ _ _)=>True
 | some (.ext _)=>True
 | _=>False
variable {x e:aB} {o':HO}
section
variable {w:aJ}
theorem HOk.write (ok:HOk P w H h) (Y:Mut (H x)) (he:e=x\/H e=some (.own x)) (k:∀ b u,b≠e->h.get? b=some u->h'.get? b=some u) (a1:∃ u,h'.get? e=some u)
  (new:ObjOk P w (upd H x o') h' x o'):HOk P w (upd H x o') h':=fun b u q=>by
 have J:∀ c y,H c=some (.own y)->c≠x:=fun c y r z=>by subst z; rw [r] at Y; exact Y
 have O:∀ c xs,H c=some (.tup xs)->c≠x:=fun c xs r z=>by subst z; rw [r] at Y; exact Y
 by_cases Z:b=x
 ·subst Z; rw [Qv] at q; cases q; exact new
 ·rw [Qa Z] at q
  by_cases I:b=e
  ·have q':H b=some (.own x):=by
    rcases he with z | z
    ·exact absurd (I.trans z) Z
    ·rw [I]; exact z
   rw [q] at q'; cases q';obtain ⟨v,hv⟩:=a1;exact ⟨v,by rw [I]; exact hv⟩
  ·refine (ok b u q).stay (fun c v U r=>k c v ?_ r) (fun c r=>by rw [Qa (J c b r)]; exact r) fun c xs r=>by rw [Qa (O c xs r)]; exact r
   rcases U with rfl | U
   ·exact I
   ·rintro rfl;rcases he with z | z
    ·exact J c b U z
    ·rw [U] at z; cases z; exact Z rfl
end
structure Un (fs ex:List aB) (H H':Hp) (h h':Heap):Prop where
 keep:∀ b o,h.get? b=some o->H b=none->b∉fs->b∉ex->h'.get? b=some o
 slot:∀ b o,h.get? b=some o->H b=none->b∈fs->b∉ex->∃ sl,h'.get? b=some { o with slots:=sl }
 free:∀ b o,h.get? b=some o->H b=none->b∉ex->H' b=none
 there:∀ b o,h.get? b=some o->b∉ex->∃ o',h'.get? b=some o'
 tups:∀ b xs,H b=some (.tup xs)->H' b=some (.tup xs)
 frzs:∀ b o u,H b=some (.frz o u)->H' b=some (.frz o u)
 tbls:∀ b ps,H b=some (.tbl ps)->∃ more,H' b=some (.tbl (ps ++ more))
variable {fs' ex ex':List aB} {H1 H2:Hp} {h1 h2:Heap}
section
variable {fs:List aB}
theorem Un.any (u:Un fs ex H H1 h h1) {ob:Obj} (q:h.get? b=some ob) (n:H b=none) (z:b∉ex):∃ J,h1.get? b=some { ob with slots:=J }:=by
 by_cases I:b∈fs
 ·exact u.slot b ob q n I z
 ·exact ⟨ob.slots,u.keep b ob q n I z⟩
theorem Un.kept (k:∀ b u,h.get? b=some u->h'.get? b=some u):Un fs ex H H h h':=
 ⟨fun b ob q _ _ _=>k b ob q,fun b ob q _ _ _=>⟨ob.slots,k b ob q⟩,fun _ _ _ n _=>n,fun b ob q _=>⟨ob,k b ob q⟩,fun _ _ q=>q,fun _ _ _ q=>q,fun _ ps q=>⟨#[],by rw [q]; simp⟩⟩
theorem Un.refl:Un fs ex H H h h:=Un.kept fun _ _ q=>q
theorem Un.laid (k:∀ b u,h.get? b=some u->h'.get? b=some u) (I:h.objs.size<=a) (z:H a=none):Un fs ex H (upd H a o) h h' where
 keep:=fun b u q _ _ _=>k b u q
 slot:=fun b u q _ _ _=>⟨u.slots,k b u q⟩
 free:=fun b u q n _=>by rw [Qa (E8 (D3 (D5 q) I))]; exact n
 there:=fun b u q _=>⟨u,k b u q⟩
 tups:=fun b xs q=>by rw [Qa (Qb q z)]; exact q
 frzs:=fun b u xs q=>by rw [Qa (Qb q z)]; exact q
 tbls:=fun b ps q=>⟨#[],by rw [Qa (Qb q z),q]; simp⟩
theorem Un.write (J:Mut (H x)) (Z:e=x\/H e=some (.own x)) (k:∀ b u,b≠e->h.get? b=some u->h'.get? b=some u) (O:∃ u,h'.get? e=some u):Un fs ex H (upd H x o) h h':=by
 have U:∀ b,H b=none->b≠x:=fun b n z=>by subst z; rw [n] at J; exact J
 have Y:∀ b,H b=none->b≠e:=fun b n z=>by
  subst z;rcases Z with r | r
  ·exact U b n r
  ·rw [n] at r; cases r
 have hm:∀ b u,H b=some u->¬ Mut (some u)->b≠x:=fun b u q nm z=>by subst z; rw [q] at J; exact nm J
 refine ⟨fun b u q n _ _=>k b u (Y b n) q,fun b u q n _ _=>⟨u.slots,k b u (Y b n) q⟩,fun b u q n _=>by rw [Qa (U b n)]; exact n,fun b u q _=>?_,
  fun b xs q=>by rw [Qa (hm b _ q fun z=>z)]; exact q,fun b u xs q=>by rw [Qa (hm b _ q fun z=>z)]; exact q,fun b ps q=>⟨#[],by rw [Qa (hm b _ q fun z=>z),q]; simp⟩⟩
 by_cases I:b=e
 ·subst I; exact O
 ·exact ⟨u,k b u I q⟩
end
def trk (h:Heap) (H:Hp):List aB:=(List.range h.objs.size).filter fun a=>(H a).isSome
def Q5a (h:Heap) (H:Hp):Heap:=PySem.W.hideAll h (trk h H)
theorem Qd6 (h:Heap) (H:Hp):(Q5a h H).objs.size=h.objs.size:=PySem.W.hideAll_size _ _
theorem Qh6 {o:Obj} (e:h.get? b=some o) (n:H b=none):(Q5a h H).get? b=some o:=
 PySem.W.hideAll_get _ e fun hm=>by
  have q:(H b).isSome=true:=(F5.mp hm).2;rw [n] at q; simp at q
theorem Qkm {o:Obj} (e:(Q5a h H).get? b=some o):h.get? b=some o/\H b=none:=by
 have I:h.get? b=some o:=PySem.W.of_hideAll (trk h H) e;refine ⟨I,?_⟩;cases q:H b with
 | none=>rfl
 | some x=>
  have hm:b∈trk h H:=F5.mpr ⟨List.mem_range.mpr (D5 I),by simp [q]⟩;have z:(Q5a h H).get? b=none:=PySem.W.hideAll_none (trk h H) hm;rw [z] at e; cases e
def Qmw (g h:Heap) (L:aB):List (aB × Obj):=(List.range h.objs.size).filterMap fun a=>if a=L\/(g.get? a).isSome=true then none else (h.get? a).map fun o=>(a,o)
def rest (g h:Heap) (L d:aB):List (aB × Obj):=(Qmw g h L).filter fun p=>decide (p.1≠d)
structure Mod (K:PySem.W.Frag) (mg:Str->Option aA) (base:Heap):Prop where
 kin:K.In base
 glob:base.Ns aU mg
 blt:∃ mb,base.Ns builtinsNs mb/\∀ x:Str,x≠"__name__" -> mb x=aX x
 nolimit:base.NoLimit
structure Cx where
 prog:aK
 w:aJ
 K:PySem.W.Frag
 mg:Str->Option aA
 base:Heap
 A:aM
 N:List Str
 s₀:aC
 H₀:Hp
 env:Env
 outer:List Env
 stack:List Env
 ex:List aB
 fn:Str->Bool
 calm:Bool
 pn:List (aB × Obj)
 xe:aA->aC->Prop
def frs (l:List Env):List aB:=l.filterMap (·.frame)
abbrev Cx.fs (X:Cx):List aB:=frs X.outer
def Vis (sc:Scope) (x:Str):Prop:=sc.names.lookup x=some .local\/sc.names.lookup x=some .cell\/sc.names.lookup x=some .free
def Loc (sc:Scope) (x:Str):Prop:=sc.names.lookup x=some .local\/sc.names.lookup x=some .cell
def Qxv (env:Env) (h:Heap) (m:Str->Option aA) (x:Str) (u:aA):Prop:=
 (env.kindOf x=some .local/\m x=some u)\/((env.kindOf x=some .cell\/env.kindOf x=some .free)/\∃ c,env.cells.lookup x=some c/\h.IsCell c (some u))
structure Cx.Ok (X:Cx):Prop where
 mod:Mod X.K X.mg X.base
 kind:X.env.scope.kind=.function
 glob:X.env.globals=aU
 blt:X.env.builtins=builtinsNs
 above:X.s₀.heap.objs.size<=X.env.locals
 inj:∀ x y c,X.env.cells.lookup x=some c->X.env.cells.lookup y=some c->x=y
 has:∀ x,(X.env.kindOf x=some .cell\/X.env.kindOf x=some .free)->∃ c,X.env.cells.lookup x=some c
 cab:∀ x c,X.fn x=true->X.env.cells.lookup x=some c->X.s₀.heap.objs.size<=c
 hd:X.calm=true->X.A.handled=none
 frames:X.A.frames=some X.stack
 stk:X.stack=X.outer\/(X.stack=X.env :: X.outer/\X.env.frame=some X.env.locals)
 exf:∀ b∈X.ex,b≠X.env.locals/\∀ x c,X.env.cells.lookup x=some c->c≠b
 bs:∀ b o,X.base.get? b=some o->X.s₀.heap.get? b=some o/\X.H₀ b=none
 bsz:X.base.objs.size<=X.s₀.heap.objs.size
 noex:∀ b o,X.base.get? b=some o->b∉X.ex
 exfs:∀ b∈X.ex,b∉X.fs
 funs:X.s₀.heap.FunFrames X.base X.outer
 frf:∀ b∈X.fs,X.H₀ b=none
structure Inv (X:Cx) (pins:List (aB × Obj)) (σ:List (Option V)) (H:Hp) (s:aC):Prop where
 ok:X.Ok
 os:s.os=X.s₀.os
 bare:AllBare s.gens
 base:Un X.fs X.ex X.H₀ H X.s₀.heap s.heap
 loc:∃ m,s.heap.Ns X.env.locals m/\∀ (i:Nat) (x:Str) (v:V),X.N[i]?=some x->σ[i]?=some (some v)->Vis X.env.scope x->∃ u,RelV v u/\Qxv X.env s.heap m x u
 cell:∀ x c,X.env.cells.lookup x=some c->∃ v,s.heap.IsCell c v
 free:H X.env.locals=none
 freeC:∀ x c,X.env.cells.lookup x=some c->H c=none
 pin:∀ p∈X.pn ++ pins,s.heap.get? p.1=some p.2/\H p.1=none/\p.1≠X.env.locals/\p.1∉X.fs/\∀ v,p.2.data≠.cell v
 hok:HOk X.prog X.w H s.heap
 len:σ.length=X.N.length
variable {X:Cx} {pins:List (aB × Obj)} {σ:List (Option V)} {s:aC}
theorem Cx.Ok.nofr (ok:X.Ok) {o:Obj} (e:X.base.get? b=some o):b∉X.fs:=fun q=>by
 have:=(ok.funs.mem q).1;rw [e] at this; cases this
theorem Inv.bs (I:Inv X pins σ H s):∀ b o,X.base.get? b=some o->s.heap.get? b=some o/\H b=none:=fun b o e=>
 ⟨I.base.keep b o (I.ok.bs b o e).1 (I.ok.bs b o e).2 (I.ok.nofr e) (I.ok.noex b o e),I.base.free b o (I.ok.bs b o e).1 (I.ok.bs b o e).2 (I.ok.noex b o e)⟩
theorem Inv.bk (I:Inv X pins σ H s):∀ b o,X.base.get? b=some o->s.heap.get? b=some o:=fun b o e=>(I.bs b o e).1
theorem Inv.mod (I:Inv X pins σ H s):Mod X.K X.mg X.base:=I.ok.mod
theorem Inv.kIn (I:Inv X pins σ H s):X.K.In s.heap:=I.ok.mod.kin.keeps I.bk
theorem Inv.lt (I:Inv X pins σ H s):X.env.locals < s.heap.objs.size:=let ⟨_,q,_⟩:=I.loc; q.lt
theorem Inv.sz (I:Inv X pins σ H s):X.s₀.heap.objs.size<=s.heap.objs.size:=E6 I.ok.above (Nat.le_of_lt I.lt)
theorem Inv.nofs (I:Inv X pins σ H s) (h:s.heap.objs.size<=a):a∉X.fs:=fun z=>by
 obtain ⟨_,o,q,_⟩:=I.ok.funs.mem z;exact absurd (D3 (D5 q) (E6 I.sz h)) (L8 _)
theorem Inv.cne (I:Inv X pins σ H s):∀ x c,X.env.cells.lookup x=some c->c≠X.env.locals:=fun x c e z=>by
 obtain ⟨v,o,O,hd⟩:=I.cell x c e;obtain ⟨m,⟨o',es,ep,q,J,_⟩,_⟩:=I.loc;rw [z,q] at O; cases O; rw [J] at hd; cases hd
theorem Inv.funs (I:Inv X pins σ H s):s.heap.FunFrames X.base X.outer:=by
 have all:∀ (l:List Env),(∀ b∈frs l,b∈X.fs)->X.s₀.heap.FunFrames X.base l->s.heap.FunFrames X.base l:=by
  intro l
  induction l with
  | nil=>intro _ _; trivial
  | cons env r ih=>
   intro hs hl;obtain ⟨Z,⟨L,o,J,U,Y,hd⟩,hr⟩:=hl;have q:L∈X.fs:=hs L (by unfold frs; rw [List.filterMap_cons,J]; exact E7);obtain ⟨sl,e⟩:=I.base.slot L o Y (I.ok.frf L q) q fun z=>I.ok.exfs L z q
   exact ⟨Z,⟨L,_,J,U,e,hd⟩,ih (fun b O=>hs b (by unfold frs; rw [List.filterMap_cons,J]; exact O4 _ O)) hr⟩
 exact all X.outer (fun _ O=>O) I.ok.funs
theorem Inv.stack (I:Inv X pins σ H s):s.heap.FunFrames X.base X.stack:=by
 rcases I.ok.stk with e | ⟨e,z⟩
 ·rw [e]; exact I.funs
 ·rw [e];obtain ⟨m,q,_⟩:=I.loc;refine .cons (by rw [I.ok.kind]; decide) z q ?_ I.funs;exact Heap.get?_none_of_le (E6 I.ok.bsz I.ok.above)
theorem Inv.stkSub (I:Inv X pins σ H s):∀ b∈frs X.stack,b∈X.env.locals :: X.fs:=fun b q=>by
 rcases I.ok.stk with e | ⟨e,z⟩
 ·rw [e] at q; exact O4 _ q
 ·rw [e] at q;unfold frs at q;rw [List.filterMap_cons,z] at q;exact q
theorem Inv.stkFree (I:Inv X pins σ H s):∀ b∈frs X.stack,H b=none:=fun b q=>by
 rcases D7.mp (I.stkSub b q) with e | q
 ·rw [e]; exact I.free
 ·obtain ⟨_,o,J,_⟩:=I.ok.funs.mem q;exact I.base.free b o J (I.ok.frf b q) fun z=>I.ok.exfs b z q
theorem Inv.step {g':Array GenState} {t':Nat} {d':Drawn} {ch:List aB} (I:Inv X pins σ H s)
  (Y:∀ b∈ch,(b∈X.ex\/X.s₀.heap.objs.size<=b)/\b≠X.env.locals/\(∀ x c,X.env.cells.lookup x=some c->c≠b)/\∀ p∈X.pn ++ pins,p.1≠b)
  (keep:∀ b o,b≠X.env.locals->b∉X.fs->b∉ch->s.heap.get? b=some o->H b=none->h'.get? b=some o)
  (slot:∀ b o,b≠X.env.locals->b∈X.fs->b∉ch->s.heap.get? b=some o->H b=none->∃ sl,h'.get? b=some { o with slots:=sl }) (free:∀ b o,b∉ch->s.heap.get? b=some o->H b=none->H' b=none)
  (there:∀ b o,b∉ch->s.heap.get? b=some o->∃ o',h'.get? b=some o')
  (tups:∀ b xs,H b=some (.tup xs)->H' b=some (.tup xs)) (frzs:∀ b o u,H b=some (.frz o u)->H' b=some (.frz o u)) (tbls:∀ b ps,H b=some (.tbl ps)->∃ more,H' b=some (.tbl (ps ++ more)))
  (ns:∀ m,s.heap.Ns X.env.locals m->h'.Ns X.env.locals m) (hok:HOk X.prog X.w H' h') (hg:AllBare g') :
  Inv X pins σ H' { s with heap:=h',gens:=g',drawn:=d',toks:=t' }:=by
 have a2:∀ b o,X.s₀.heap.get? b=some o->b≠X.env.locals:=fun b o e=>E8 (D3 (D5 e) I.ok.above)
 have a1:∀ b o,X.s₀.heap.get? b=some o->b∉X.ex->b∉ch:=fun b o e J hb=>by
  rcases (Y b hb).1 with z | z
  ·exact J z
  ·exact absurd (D3 (D5 e) z) (L8 _)
 have O:∀ x c,X.env.cells.lookup x=some c->∀ v,s.heap.IsCell c v->h'.IsCell c v:=fun x c e v ⟨o,ho,hd⟩=>by
  have U:c∉ch:=fun z=>(Y c z).2.2.1 x c e rfl
  by_cases hc:c∈X.fs
  ·obtain ⟨sl,q⟩:=slot c o (I.cne x c e) hc U ho (I.freeC x c e);exact ⟨_,q,hd⟩
  ·exact ⟨o,keep c o (I.cne x c e) hc U ho (I.freeC x c e),hd⟩
 refine ⟨I.ok,I.os,hg,⟨fun b o e n hb J=>?_,fun b o e n hb J=>?_,fun b o e n J=>?_,fun b o e J=>?_,fun b xs e=>tups b xs (I.base.tups b xs e),fun b o xs e=>frzs b o xs (I.base.frzs b o xs e),fun b ps e=>?_⟩,?_,fun x c e=>?_,?_,fun x c e=>?_,fun p hp=>?_,hok,I.len⟩
 ·exact keep b o (a2 b o e) hb (a1 b o e J) (I.base.keep b o e n hb J) (I.base.free b o e n J)
 ·obtain ⟨sl,Z⟩:=I.base.slot b o e n hb J;obtain ⟨a3,e2⟩:=slot b _ (a2 b o e) hb (a1 b o e J) Z (I.base.free b o e n J);exact ⟨a3,e2⟩
 ·obtain ⟨o',Z⟩:=I.base.there b o e J;exact free b o' (a1 b o e J) Z (I.base.free b o e n J)
 ·obtain ⟨o',Z⟩:=I.base.there b o e J;exact there b o' (a1 b o e J) Z
 ·obtain ⟨m1,Z⟩:=I.base.tbls b ps e;obtain ⟨m2,e2⟩:=tbls b _ Z;exact ⟨m1 ++ m2,by rw [e2,Array.append_assoc]⟩
 ·obtain ⟨m,hn,hl⟩:=I.loc;refine ⟨m,ns m hn,fun i x v Z e2 e3=>?_⟩;obtain ⟨u,r,l⟩:=hl i x v Z e2 e3;refine ⟨u,r,?_⟩;rcases l with l | ⟨k,c,e,z⟩
  ·exact .inl l
  ·exact .inr ⟨k,c,e,O x c e _ z⟩
 ·obtain ⟨v,z⟩:=I.cell x c e;exact ⟨v,O x c e v z⟩
 ·obtain ⟨m,⟨o,_,_,ho,_⟩,_⟩:=I.loc;exact free _ o (fun z=>(Y _ z).2.1 rfl) ho I.free
 ·obtain ⟨v,o,ho,hd⟩:=I.cell x c e;exact free c o (fun z=>(Y c z).2.2.1 x c e rfl) ho (I.freeC x c e)
 ·obtain ⟨e,n,ne,nf,d⟩:=I.pin p hp;have U:p.1∉ch:=fun z=>(Y p.1 z).2.2.2 p hp rfl
  exact ⟨keep p.1 p.2 ne nf U e n,free p.1 p.2 U e n,ne,nf,d⟩
theorem Inv.un (I:Inv X pins σ H s) (u:Un X.fs [] H H' s.heap h') (hok:HOk X.prog X.w H' h'):Inv X pins σ H' { s with heap:=h',toks:=t' }:=by
 obtain ⟨m,⟨o,es,ep,Y,r⟩,_⟩:=id I.loc;obtain ⟨sl,hL⟩:=u.any Y I.free (by simp);exact I.step (g':=s.gens) (d':=s.drawn) (ch:=[]) (fun _ z=>nomatch z) (fun b o _ J _ e n=>u.keep b o e n J (by simp)) (fun b o _ J _ e n=>u.slot b o e n J (by simp)) (fun b o _ e n=>u.free b o e n (by simp)) (fun b o _ e=>u.there b o e (by simp)) u.tups u.frzs u.tbls (fun m' hm=>by
  obtain ⟨o',O,U,q,Z⟩:=hm;rw [Y] at q; cases q;exact ⟨_,O,U,hL,Z⟩) hok I.bare
theorem Inv.call {t':Nat} {d':Drawn} (I:Inv X pins σ H s) (u:Un (frs X.stack) ch H H' s.heap h') (hok:HOk X.prog X.w H' h') (hg:AllBare g')
  (O:∀ b∈ch,(b∈X.ex\/X.s₀.heap.objs.size<=b)/\b≠X.env.locals/\(∀ x c,X.env.cells.lookup x=some c->c≠b)/\∀ p∈X.pn ++ pins,p.1≠b) :
  Inv X pins σ H' { s with heap:=h',gens:=g',drawn:=d',toks:=t' }:=by
 obtain ⟨m,⟨o,es,ep,ho,r⟩,_⟩:=id I.loc;obtain ⟨sl,Y⟩:=u.any ho I.free fun z=>(O _ z).2.1 rfl
 exact I.step (ch:=ch) O (fun b o Y hb q e n=>u.keep b o e n (fun z=>(D7.mp (I.stkSub b z)).elim Y hb) q) (fun b o _ _ q e n=>u.any e n q) (fun b o q e n=>u.free b o e n q) (fun b o q e=>u.there b o e q) u.tups u.frzs u.tbls (fun m' hm=>by
  obtain ⟨o',U,Z,J,r'⟩:=hm;rw [ho] at J; cases J;exact ⟨_,U,Z,Y,r'⟩) hok hg
theorem Inv.turned {t':Nat} (I:Inv X pins σ H s) (k:∀ b o,b≠it->s.heap.get? b=some o->h'.get? b=some o) (Y:H it=none) (U:it≠X.env.locals)
  (h1:it∈X.ex\/X.s₀.heap.objs.size<=it) (h2:∀ x c,X.env.cells.lookup x=some c->c≠it) (h3:∀ p∈X.pn ++ pins,p.1≠it):Inv X pins σ H { s with heap:=h',toks:=t' }:=by
 have O:∀ b u,H b=some u->b≠it:=fun b u e z=>by rw [z,Y] at e; cases e
 refine I.step (g':=s.gens) (d':=s.drawn) (ch:=[it]) (fun b hb=>?_) (fun b o _ _ J e _=>k b o (fun z=>J (by simp [z])) e) (fun b o _ _ J e _=>⟨o.slots,k b o (fun z=>J (by simp [z])) e⟩) (fun _ _ _ _ n=>n)
  (fun b o J e=>⟨o,k b o (fun z=>J (by simp [z])) e⟩) (fun _ _ e=>e) (fun _ _ _ e=>e) (fun b ps e=>⟨#[],by rw [e]; simp⟩) (fun m hm=>?_) (fun b u e=>?_) I.bare
 ·have e:b=it:=by simpa using hb
  subst e;exact ⟨h1,U,h2,h3⟩
 ·obtain ⟨o,es,ep,Z,r⟩:=hm;exact ⟨o,es,ep,k _ o (Ne.symm U) Z,r⟩
 ·refine (I.hok b u e).stay (fun c v J q=>k c v ?_ q) (fun _ q=>q) fun _ _ q=>q
  rcases J with z | z
  ·rw [z]; exact O b u e
  ·exact O c _ z
theorem Inv.tok (I:Inv X pins σ H s) (t:Nat):Inv X pins σ H { s with toks:=t }:=I.un (h':=s.heap) (t':=t) Un.refl I.hok
theorem Inv.kept (I:Inv X pins σ H s) (k:∀ b u,s.heap.get? b=some u->h'.get? b=some u):Inv X pins σ H { s with heap:=h',toks:=t' }:=I.un (Un.kept k) (I.hok.kept k)
theorem Inv.laid {t':Nat} (I:Inv X pins σ H s) (k:∀ b u,s.heap.get? b=some u->h'.get? b=some u) (q:s.heap.objs.size<=a) (new:ObjOk X.prog X.w (upd H a o) h' a o) :
  Inv X pins σ (upd H a o) { s with heap:=h',toks:=t' }:=I.un (Un.laid k q (I.hok.fresh q)) (I.hok.laid k q new)
theorem Inv.write {o:HO} {t':Nat} (I:Inv X pins σ H s) (J:Mut (H x)) (z:e=x\/H e=some (.own x)) (k:∀ b u,b≠e->s.heap.get? b=some u->h'.get? b=some u) (q:∃ u,h'.get? e=some u)
  (new:ObjOk X.prog X.w (upd H x o) h' x o):Inv X pins σ (upd H x o) { s with heap:=h',toks:=t' }:=I.un (Un.write J z k q) (I.hok.write J z k q new)
theorem Inv.pins_of {q:List (aB × Obj)} (I:Inv X pins σ H s) (h:∀ p∈q,s.heap.get? p.1=some p.2/\H p.1=none/\p.1≠X.env.locals/\p.1∉X.fs/\∀ v,p.2.data≠.cell v):Inv X q σ H s:=
 ⟨I.ok,I.os,I.bare,I.base,I.loc,I.cell,I.free,I.freeC,fun p J=>(E1.mp J).elim (fun z=>I.pin p (F6 _ z)) (h p),I.hok,I.len⟩
theorem Q6s {N:List Str} (z:N.Nodup) {i j:Nat} {x:Str} (a:N[i]?=some x) (b:N[j]?=some x):i=j:=by
 obtain ⟨h1,q⟩:=O0.mp a;obtain ⟨h2,I⟩:=O0.mp b;exact (List.getElem_inj z).mp (q.trans I.symm)
theorem Q39 {M:Model} {A:aM} {E:aA->aC->Prop} {i:Nat} {x:Str} {Q:Unit->aC->Prop} (I:Inv X pins σ H s) (hN:X.N.Nodup) (hi:X.N[i]?=some x) (Y:Loc X.env.scope x) (r:RelV v u)
  (h:∀ s',Inv X pins (σ.set i (some v)) H s'->(∃ a,Heap.SameBut a s.heap s'.heap/\(a=X.env.locals\/X.env.cells.lookup x=some a))->Q () s') (hf:X.fn x=true\/X.env.scope.names.lookup x=some .local:=by first | exact .inl rfl | exact .inr rfl | assumption):aF M A (storeName X.env x u) Q E s:=by
 obtain ⟨m,hn,hl⟩:=id I.loc;have a3:(X.env.scope.kind == .class || (X.env.scope.kind == .module && X.env.locals != X.env.globals))=false:=by rw [I.ok.kind]; rfl
 have a1:i < σ.length:=by rw [I.len]; exact (O0.mp hi).1
 have cne:=I.cne;have O:∀ {a:aB} {h':Heap},(∃ o,s.heap.get? a=some o/\H a=none)->Heap.SameBut a s.heap h'->HOk X.prog X.w H h':=fun {a h'} ha hs b ob e=>by
  obtain ⟨_,_,Z⟩:=ha;refine (I.hok b ob e).stay (fun c w' U q=>(hs.2 c ?_).trans q) (fun _ q=>q) fun _ _ q=>q
  rintro rfl;rcases U with rfl | U
  ·rw [Z] at e; cases e
  ·rw [Z] at U; cases U
 rcases Y with hk | hk
 ·refine wpAny_storeName_local hk hn (fun h' a8 hs=>?_) a3;obtain ⟨oL,_,_,a9,_⟩:=id hn;refine h _ ⟨I.ok,I.os,I.bare,⟨fun b o e n hb Y=>?_,fun b o e n hb Y=>?_,I.base.free,fun b o e Y=>?_,I.base.tups,I.base.frzs,I.base.tbls⟩,⟨_,a8,fun j y v' J e2 e3=>?_⟩,fun y c e=>?_,I.free,I.freeC,fun p hp=>?_,O ⟨oL,a9,I.free⟩ hs,by simpa using I.len⟩ ⟨_,hs,.inl rfl⟩
  ·exact (hs.2 b (E8 (D3 (D5 e) I.ok.above))).trans (I.base.keep b o e n hb Y)
  ·obtain ⟨sl,J⟩:=I.base.slot b o e n hb Y;exact ⟨sl,(hs.2 b (E8 (D3 (D5 e) I.ok.above))).trans J⟩
  ·obtain ⟨o',J⟩:=I.base.there b o e Y;exact ⟨o',(hs.2 b (E8 (D3 (D5 e) I.ok.above))).trans J⟩
  ·by_cases hj:j=i
   ·subst hj;rw [hi] at J; cases J;rw [F3 a1] at e2;cases e2;exact ⟨u,r,.inl ⟨hk,by simp⟩⟩
   ·rw [F1 (Ne.symm hj)] at e2;obtain ⟨u',r',q⟩:=hl j y v' J e2 e3;refine ⟨u',r',?_⟩;rcases q with ⟨k,e⟩ | ⟨k,c,e,z⟩
    ·refine .inl ⟨k,?_⟩;have:y≠x:=fun e=>hj (Q6s hN J (e ▸ hi))
     simp [this,e]
    ·exact .inr ⟨k,c,e,z.sameBut hs (cne y c e)⟩
  ·obtain ⟨w',z⟩:=I.cell y c e;exact ⟨w',z.sameBut hs (cne y c e)⟩
  ·obtain ⟨e,n,ne,nf,d⟩:=I.pin p hp;exact ⟨(hs.2 p.1 ne).trans e,n,ne,nf,d⟩
 ·have a2:X.fn x=true:=by
   rcases hf with z | z
   ·exact z
   ·rw [z] at hk; cases hk
  obtain ⟨c,U⟩:=I.ok.has x (.inl hk);obtain ⟨w',z⟩:=I.cell x c U;refine wpAny_storeName_cell I.ok.kind hk U z (fun h' a6 hs=>?_);obtain ⟨oc,a5,a7⟩:=id z;refine h { s with heap:=h' } ⟨I.ok,I.os,I.bare,⟨fun b o e n hb Y=>?_,fun b o e n hb Y=>?_,I.base.free,fun b o e Y=>?_,I.base.tups,I.base.frzs,I.base.tbls⟩,⟨m,hn.sameBut hs (Ne.symm (cne x c U)),fun j y v' J e2 e3=>?_⟩,fun y c' e=>?_,I.free,I.freeC,fun p hp=>?_,O ⟨oc,a5,I.freeC x c U⟩ hs,by simpa using I.len⟩ ⟨c,hs,.inr U⟩
  ·exact (hs.2 b (E8 (D3 (D5 e) (I.ok.cab x c a2 U)))).trans (I.base.keep b o e n hb Y)
  ·obtain ⟨sl,J⟩:=I.base.slot b o e n hb Y;exact ⟨sl,(hs.2 b (E8 (D3 (D5 e) (I.ok.cab x c a2 U)))).trans J⟩
  ·obtain ⟨o',J⟩:=I.base.there b o e Y;exact ⟨o',(hs.2 b (E8 (D3 (D5 e) (I.ok.cab x c a2 U)))).trans J⟩
  ·by_cases hj:j=i
   ·subst hj;rw [hi] at J; cases J;rw [F3 a1] at e2;cases e2;exact ⟨u,r,.inr ⟨.inl hk,c,U,a6⟩⟩
   ·rw [F1 (Ne.symm hj)] at e2;obtain ⟨u',r',q⟩:=hl j y v' J e2 e3;refine ⟨u',r',?_⟩;rcases q with q | ⟨k,c',e,z'⟩
    ·exact .inl q
    ·refine .inr ⟨k,c',e,z'.sameBut hs ?_⟩;rintro rfl;exact hj (Q6s hN J (I.ok.inj _ _ _ e U ▸ hi))
  ·by_cases a4:c'=c
   ·subst a4; exact ⟨_,a6⟩
   ·obtain ⟨w2,z2⟩:=I.cell y c' e;exact ⟨w2,z2.sameBut hs a4⟩
  ·obtain ⟨e,n,ne,nf,d⟩:=I.pin p hp;refine ⟨(hs.2 p.1 ?_).trans e,n,ne,nf,d⟩;intro q;rw [q,a5] at e;have q':oc=p.2:=Option.some.inj e;exact d w' (by rw [<- q']; exact a7)
theorem Q5z {M:Model} {A:aM} {E:aA->aC->Prop} {i:Nat} {x:Str} {Q:Unit->aC->Prop} (I:Inv X pins σ H s) (q:X.N.Nodup) (hi:X.N[i]?=some x) (J:Loc X.env.scope x) (r:RelV v u)
  (h:∀ s',Inv X pins (σ.set i (some v)) H s'->Q () s') (O:X.fn x=true\/X.env.scope.names.lookup x=some .local:=by first | exact .inl rfl | exact .inr rfl | assumption):aF M A (storeName X.env x u) Q E s:=
 Q39 I q hi J r (fun s' z _=>h s' z) O
theorem Inv.call' {s':aC} (I:Inv X pins σ H s) (z:s'.os=s.os) (u:Un (frs X.stack) ch H H' s.heap s'.heap) (hok:HOk X.prog X.w H' s'.heap) (J:AllBare s'.gens)
  (q:∀ b∈ch,(b∈X.ex\/X.s₀.heap.objs.size<=b)/\b≠X.env.locals/\(∀ x c,X.env.cells.lookup x=some c->c≠b)/\∀ p∈X.pn ++ pins,p.1≠b):Inv X pins σ H' s':=by
 obtain ⟨h',g',d',t',o'⟩:=s';have e:o'=s.os:=z;subst e;exact I.call (g':=g') (t':=t') (d':=d') u hok J q
abbrev XK:=aA->Option aB->Hp->Prop
abbrev St:=List (Option V)
abbrev VK:=V->Hp->Prop
abbrev TE:=St->Hp->VK->Prop
variable {tl:TE}
abbrev TT:=St->Hp->(Bool->Hp->Prop)->Prop
variable {tc:TT}
abbrev TA:=St->Hp->(List V->Hp->Prop)->Prop
structure Ends where
 nx:St->Hp->Prop
 rt:VK
 bk:St->Hp->Prop:=fun _ _=>False
 ct:St->Hp->Prop:=fun _ _=>False
abbrev TS:=Ends->St->Hp->Prop
variable {tb:TS}
def EP (X:Cx) (pins:List (aB × Obj)) (σ:St) (Q:VK) (u:aA) (s':aC):Prop:=∃ v H',Inv X pins σ H' s'/\RelV v u/\Q v H'
def TP (X:Cx) (pins:List (aB × Obj)) (σ:St) (Q:Bool->Hp->Prop) (b:Bool) (s':aC):Prop:=∃ H',Inv X pins σ H' s'/\Q b H'
def AP (X:Cx) (pins:List (aB × Obj)) (σ:St) (Q:List V->Hp->Prop) (us:List aA) (s':aC):Prop:=∃ vs H',Inv X pins σ H' s'/\Vals vs us/\Q vs H'
def SP (X:Cx) (pins:List (aB × Obj)) (D:Ends) (f:Flow) (s':aC):Prop:=
 match f with
 | .next=>∃ σ' H',Inv X pins σ' H' s'/\D.nx σ' H'
 | .brk=>∃ σ' H',Inv X pins σ' H' s'/\D.bk σ' H'
 | .cont=>∃ σ' H',Inv X pins σ' H' s'/\D.ct σ' H'
 | .ret u=>∃ v σ' H',Inv X pins σ' H' s'/\RelV v u/\D.rt v H'
def PE (X:Cx) (e:aH) (t:TE):Prop:=
 ∀ (pins:List (aB × Obj)) (s:aC) (σ:St) (H:Hp) (Q:VK),Inv X pins σ H s->t σ H Q->aF (aI X.prog X.w) X.A (aO e X.env) (EP X pins σ Q) X.xe s
def PT (X:Cx) (e:aH) (t:TT):Prop:=
 ∀ (pins:List (aB × Obj)) (s:aC) (σ:St) (H:Hp) (Q:Bool->Hp->Prop),Inv X pins σ H s->t σ H Q->aF (aI X.prog X.w) X.A (isTrue e X.env (aO e X.env)) (TP X pins σ Q) X.xe s
def PW (X:Cx) (e:aH) (t:TT):Prop:=
 ∀ (whole:Sem aA) (pins:List (aB × Obj)) (s:aC) (σ:St) (H:Hp) (Q:Bool->Hp->Prop),Inv X pins σ H s->t σ H Q->aF (aI X.prog X.w) X.A (isTrue e X.env whole) (TP X pins σ Q) X.xe s
def PA (X:Cx) (es:List aH) (t:TA):Prop:=
 ∀ (pos:Pos) (pins:List (aB × Obj)) (s:aC) (σ:St) (H:Hp) (Q:List V->Hp->Prop),Inv X pins σ H s->t σ H Q->aF (aI X.prog X.w) X.A (spliced (aY pos (aN es X.env))) (AP X pins σ Q) X.xe s
def PS (X:Cx) (st:aL) (t:TS):Prop:=
 ∀ (pins:List (aB × Obj)) (s:aC) (σ:St) (H:Hp) (D:Ends),Inv X pins σ H s->t D σ H->aF (aI X.prog X.w) X.A (exec st X.env) (SP X pins D) X.xe s
def PSs (X:Cx) (st:List aL) (t:TS):Prop:=
 ∀ (pins:List (aB × Obj)) (s:aC) (σ:St) (H:Hp) (D:Ends),Inv X pins σ H s->t D σ H->aF (aI X.prog X.w) X.A (execs st X.env) (SP X pins D) X.xe s
theorem thn {t:Sem α} {Q q:α->aC->Prop} (h:aF M A t Q E s) (z:∀ a s,Q a s->q a s):aF M A t q E s:=aq h z fun _ _ x=>x
section
variable {X:Cx}
def Qsz (i:Nat):TE:=fun σ H Q=>∃ v,σ[i]?=some (some v)/\Q v H
def tC (v:V):TE:=fun _ H Q=>Q v H
theorem Qfn {i:Nat} {x:Str} {pos:Pos} (Z:X.N[i]?=some x) (Y:Vis X.env.scope x) (hd:(x == ("__debug__" : Str))=false:=by decide) (J:(x == ("__classdict__" : Str))=false:=by decide):PE X (.Name x pos) (Qsz i):=by
 intro pins s σ H Q I h;obtain ⟨v,e,h⟩:=h;obtain ⟨m,U,hl⟩:=I.loc;obtain ⟨u,r,l⟩:=hl i x v Z e Y;have fin:EP X pins σ Q u s:=⟨v,H,I,r,h⟩;rcases l with ⟨z,hm⟩ | ⟨z,c,O,q⟩
 ·exact wpAny_Name (wpAny_loadName_local I.ok.kind z U hm fin) hd
 ·rcases z with z | z
  ·exact wpAny_Name (wpAny_loadName_cell I.ok.kind z O q fin) hd
  ·exact wpAny_Name (wpAny_loadName_free I.ok.kind z O q fin J) hd
theorem Qqa {i j pos}:PE X (.Constant (.int i) j pos) (tC (.int i)):=fun _ _ _ H _ I h=>wpAny_Constant_int ⟨.int i,H,I.tok _,⟨_,rfl⟩,h⟩
theorem Qtw {b j pos}:PE X (.Constant (.bool b) j pos) (tC (.bl b)):=fun _ _ _ H _ I h=>Constant_bool ⟨.bl b,H,I,rfl,h⟩
theorem Qq9 {j pos}:PE X (.Constant .none j pos) (tC .non):=fun _ _ _ H _ I h=>Constant_none ⟨.non,H,I,rfl,h⟩
theorem Qq6 {x j pos}:PE X (.Constant (.str x) j pos) (tC (.str x)):=fun _ _ _ H _ I h=>Calls.Constant_str ⟨.str x,H,I.tok _,⟨_,rfl⟩,h⟩
def Gl (X:Cx) (x:Str):Prop:=X.env.kindOf x=some .globalImplicit
theorem Q56 {E:aA->aC->Prop} {σ:St} {x:Str} {pos:Pos} {Q:aA->aC->Prop} (I:Inv X pins σ H s) (q:Gl X x) (hm:X.mg x=some u) (h:Q u s)
  (hd:(x == ("__debug__" : Str))=false:=by decide):aF (aI X.prog X.w) X.A (aO (.Name x pos) X.env) Q E s:=
 Calls.Name_function_global I.ok.kind q (Calls.loadGlobal_global (by rw [I.ok.glob]; exact I.mod.glob.keeps I.bk) hm h) hd
theorem j4 {E:aA->aC->Prop} {σ:St} {x:Str} {pos:Pos} {Q:aA->aC->Prop} (I:Inv X pins σ H s) (J:Gl X x) (hm:X.mg x=none) (z:aX x=some u) (h:Q u s)
  (q:x≠"__name__" := by decide) (hd:(x == ("__debug__" : Str))=false:=by decide):aF (aI X.prog X.w) X.A (aO (.Name x pos) X.env) Q E s:=by
 obtain ⟨mb,h1,h2⟩:=I.mod.blt;exact Calls.Name_function_global I.ok.kind J (Calls.loadGlobal_builtin (by rw [I.ok.glob]; exact I.mod.glob.keeps I.bk) hm (by rw [I.ok.blt]; exact h1.keeps I.bk) ((h2 x q).trans z) h) hd
theorem Q0m {x:Str} {pos:Pos} (q:Gl X x) (hm:X.mg x=some u) (r:RelV v u) (hd:(x == ("__debug__" : Str))=false:=by decide):PE X (.Name x pos) (tC v):=
 fun _ _ _ H _ I h=>Q56 I q hm ⟨v,H,I,r,h⟩ hd
theorem Qka {x:Str} {pos:Pos} (J:Gl X x) (hm:X.mg x=none) (z:aX x=some u) (r:RelV v u) (q:x≠"__name__" := by decide) (hd:(x == ("__debug__" : Str))=false:=by decide):PE X (.Name x pos) (tC v):=
 fun _ _ _ H _ I h=>j4 I J hm z ⟨v,H,I,r,h⟩ q hd
variable {a b:aH} {ta tb:TE} {pos:Pos}
def tB (t:TE):TT:=fun σ H Q=>t σ H fun x H1=>∃ c,x=.bl c/\Q c H1
theorem Qpu {e:aH} {t:TE} (h:PE X e t) (O:∀ z,isTrue e X.env z=(do let v <- z; standAt e.pos; ar [v] (truthy v)):=by intro _; rfl):PT X e (tB t):=by
 intro pins s σ H Q I U;refine isTrue_plain (thn (h pins s σ H _ I U) fun v s1 ⟨x,H1,Y,Z,J⟩=>?_) (O _)
 obtain ⟨d,rfl,q⟩:=J;cases Z;exact bB ⟨H1,Y,q⟩
variable {tA tB':TT} {rest:List aH}
def tOr (t u:TT):TT:=fun σ H Q=>t σ H fun c H1=>if c=true then Q true H1 else u σ H1 Q
def Qwz (t:TT):TT:=fun σ H Q=>t σ H fun c H1=>Q (!c) H1
theorem Qpt (q:PT X a tA):PW X (.BoolOp .Or [a] pos) tA:=by
 intro z pins s σ H Q I h;refine isTrue_or (thn (q pins s σ H Q I h) fun c s1 e=>?_)
 cases c with
 | false=>exact isTrue_or_nil e
 | true=>exact e
theorem Qtp (O:PT X a tA) (U:PW X (.BoolOp .Or (b :: rest) pos) tB'):PW X (.BoolOp .Or (a :: b :: rest) pos) (tOr tA tB'):=by
 intro J pins s σ H Q I h;refine isTrue_or (thn (O pins s σ H _ I h) fun c s1 ⟨H1,z,q⟩=>?_)
 cases c with
 | true=>exact ⟨H1,z,q⟩
 | false=>exact U J pins s1 σ H1 Q z q
theorem Qpv (q:PT X a tA):PT X (.UnaryOp .Not a pos) (Qwz tA):=by
 intro pins s σ H Q I h;exact isTrue_not (q pins s σ H (fun c H1=>Q (!c) H1) I h)
def Qt8 (ta tb:TE):TE:=fun σ H Q=>ta σ H fun x H1=>∃ c,x=.bl c/\if c=true then tb σ H1 Q else Q (.bl false) H1
def Qwy (ta tb:TE):TE:=fun σ H Q=>ta σ H fun x H1=>∃ c,x=.bl c/\if c=true then Q (.bl true) H1 else tb σ H1 Q
def Qt2 (ta:TE):TE:=fun σ H Q=>ta σ H fun x H1=>∃ c,x=.bl c/\Q (.bl (!c)) H1
theorem Qq7 {op} {t:TE} (h:PE X a t):PE X (.BoolOp op [a] pos) t:=fun pins s σ H Q I q=>BoolOp_one (h pins s σ H Q I q)
theorem Qqb (J:PE X a ta) (U:PE X (.BoolOp .And (b :: rest) pos) tb):PE X (.BoolOp .And (a :: b :: rest) pos) (Qt8 ta tb):=by
 intro pins s σ H Q I h;refine BoolOp_and (thn (J pins s σ H _ I h) fun v s1 ⟨x,H1,z,O,q⟩=>?_)
 obtain ⟨c,rfl,q⟩:=q;cases O;refine bB ?_;cases c with
 | true=>exact U pins s1 σ H1 Q z q
 | false=>exact ⟨.bl false,H1,z,rfl,q⟩
theorem Qtv (J:PE X a ta) (U:PE X (.BoolOp .Or (b :: rest) pos) tb):PE X (.BoolOp .Or (a :: b :: rest) pos) (Qwy ta tb):=by
 intro pins s σ H Q I h;refine BoolOp_or (thn (J pins s σ H _ I h) fun v s1 ⟨x,H1,z,O,q⟩=>?_)
 obtain ⟨c,rfl,q⟩:=q;cases O;refine bB ?_;cases c with
 | false=>exact U pins s1 σ H1 Q z q
 | true=>exact ⟨.bl true,H1,z,rfl,q⟩
theorem Qq8 (O:PE X a ta):PE X (.UnaryOp .Not a pos) (Qt2 ta):=by
 intro pins s σ H Q I h;refine UnaryOp_ (thn (O pins s σ H _ I h) fun v s1 ⟨x,H1,z,J,q⟩=>?_)
 obtain ⟨c,rfl,q⟩:=q;cases J;exact not_of (bB ⟨.bl (!c),H1,z,rfl,q⟩)
end
def SqL (K:PySem.W.Frag) (H:Hp) (a:aB) (xs:List V):Prop:=
 Rd H a (.lst xs) \/
  ∃ (o:Obj) (its:Array aA) (n:Nat),K.lookup a=some o/\o.cls=.type "list" /\ o.dict=none/\o.data=.seq its n/\its.size<=sizeLine/\Vals xs its.toList
def SqT (K:PySem.W.Frag) (H:Hp) (a:aB) (xs:List V):Prop:=
 Rd H a (.tup xs) \/
  ∃ (o:Obj) (its:Array aA) (n:Nat),K.lookup a=some o/\o.cls=.type "tuple" /\ o.data=.seq its n/\its.size<=sizeLine/\Vals xs its.toList
def Qxt:aA->Option V
 | .none=>some .non
 | .bool b=>some (.bl b)
 | .int i _=>some (.int i)
 | .str x _=>some (.str x)
 | .bytes b _=>some (.byt b)
 | .float b _=>some (.flt b)
 | .ref a=>some (.ref a)
 | .type n=>some (.ty n)
 | _=>none
theorem RelV.abs {x:V} (r:RelV x u):Qxt u=some x:=by
 cases x with
 | non=>cases r; rfl
 | bl _=>cases r; rfl
 | int _=>obtain ⟨t,rfl⟩:=r; rfl
 | str _=>obtain ⟨t,rfl⟩:=r; rfl
 | byt _=>obtain ⟨t,rfl⟩:=r; rfl
 | flt _=>obtain ⟨t,rfl⟩:=r; rfl
 | ref _=>cases r; rfl
 | ty _=>cases r; rfl
theorem RelV.inj {x y:V} (r:RelV x u) (q:RelV y u):x=y:=Option.some.inj (r.abs.symm.trans q.abs)
theorem Vals.inj:∀ {xs ys:List V} {us:List aA},Vals xs us->Vals ys us->xs=ys
 | _,_,_,.nil,.nil=>rfl
 | _,_,_,.cons r t,.cons q t'=>by rw [r.inj q,Vals.inj t t']
variable {xs ys:List V}
section
variable {σ:St}
theorem SqL.of (h:H a=some (.lst xs)):SqL K H a xs:=.inl (.inl h)
theorem SqT.of (h:H a=some (.tup xs)):SqT K H a xs:=.inl (.inl h)
theorem Inv.list (I:Inv X pins σ H s) (h:SqL X.K H a xs):∃ its:List aA,Vals xs its/\PlainL s.heap a its.toArray/\xs.length<=sizeLine:=by
 rcases h with h | ⟨o,its,n,J,q,hd,hs,hz,r⟩
 ·obtain ⟨z,its,n,r,e⟩:=h.ok I.hok;exact ⟨its,r,⟨_,n,e,rfl,rfl,rfl⟩,z⟩
 ·refine ⟨its.toList,r,⟨o,n,I.kIn a o J,q,hd,by simpa using hs⟩,?_⟩;have e:=r.length;simp only [Array.length_toList] at e;omega
theorem Inv.tuple (I:Inv X pins σ H s) (h:SqT X.K H a xs):∃ its:List aA,Vals xs its/\IsTup s.heap a its.toArray/\xs.length<=sizeLine:=by
 rcases h with h | ⟨o,its,n,J,q,hs,hz,r⟩
 ·obtain ⟨z,its,r,p⟩:=h.ok I.hok;exact ⟨its,r,p,z⟩
 ·refine ⟨its.toList,r,⟨o,I.kIn a o J,q,n,by simpa using hs⟩,?_⟩;have e:=r.length;simp only [Array.length_toList] at e;omega
theorem Inv.list_inj (I:Inv X pins σ H s) (h:SqL X.K H a xs) (h':SqL X.K H a ys):xs=ys:=by
 obtain ⟨its,r,⟨o,n,e,_,_,d⟩,_⟩:=I.list h;obtain ⟨its',z,⟨o',O,q,_,_,d'⟩,_⟩:=I.list h';rw [e] at q; cases q;rw [d] at d';injection d' with J _
 have:its=its':=by simpa using congrArg Array.toList J
 subst this;exact r.inj z
theorem Inv.tuple_inj (I:Inv X pins σ H s) (h:SqT X.K H a xs) (h':SqT X.K H a ys):xs=ys:=by
 obtain ⟨its,r,⟨o,e,_,n,d⟩,_⟩:=I.tuple h;obtain ⟨its',z,⟨o',q,_,O,d'⟩,_⟩:=I.tuple h';rw [e] at q; cases q;rw [d] at d';injection d' with J _
 have:its=its':=by simpa using congrArg Array.toList J
 subst this;exact r.inj z
end
variable {st:aL} {u:TS} {te:TE}
section
variable {rest:List aL} {t:TS} {e:aH} {pos:Pos}
def Qt3:TS:=fun D σ H=>D.nx σ H
def Qwv (t u:TS):TS:=fun D σ H=>t { D with nx:=u D } σ H
theorem Qjt:PSs X [] Qt3:=fun _ _ σ H _ I h=>wpAny_execs_nil ⟨σ,H,I,h⟩
theorem Qfc (h1:PS X st t) (h2:PSs X rest u):PSs X (st :: rest) (Qwv t u):=by
 intro pins s σ H D I h;refine wpAny_execs_cons (thn (h1 pins s σ H { D with nx:=u D } I h) fun f s1 q=>?_)
 cases f with
 | next=>
  obtain ⟨z,H',J,q⟩:=q;exact h2 pins s1 z H' D J q
 | ret v=>exact q
 | brk=>exact q
 | cont=>exact q
theorem Qjs (h1:PS X st t):PSs X [st] t:=by
 intro pins s σ H D I h;refine wpAny_execs_cons (thn (h1 pins s σ H D I h) fun f s1 q=>?_)
 cases f with
 | next=>exact wpAny_execs_nil q
 | ret v=>exact q
 | brk=>exact q
 | cont=>exact q
theorem Inv.quiet {σ:St} (I:Inv X pins σ H s):interactive X.env=false:=by simp [interactive,I.ok.kind]
def Qt4 (te:TE):TS:=fun D σ H=>te σ H fun _ H1=>D.nx σ H1
theorem Qju (z:PE X e te) (hs:swapsWith e none pos.line X.env=pure false:=by rfl):PS X (.Expr e pos) (Qt4 te):=by
 intro pins s σ H D I h;exact wpAny_Expr_any (thn (z pins s σ H _ I h) fun v s1 ⟨x,H1,J,O,q⟩=>⟨σ,H1,J,q⟩) I.quiet hs
def Qwx (te:TE):TS:=fun D σ H=>te σ H D.rt
theorem Qpx (z:PE X e te):PS X (.Return (some e) pos) (Qwx te):=by
 intro pins s σ H D I h;exact wpAny_Return_some (thn (z pins s σ H _ I h) fun v s1 ⟨x,H1,J,O,q⟩=>⟨x,σ,H1,J,O,q⟩)
def Qx2 (c:TT) (t u:TS):TS:=fun D σ H=>c σ H fun b H1=>if b=true then t D σ H1 else u D σ H1
theorem Qtr {a b:List aL} (J:PT X c tc) (O:PSs X a t) (U:PSs X b u):PS X (.If c a b pos) (Qx2 tc t u):=by
 intro pins s σ H D I h;refine wpAny_If (thn (J pins s σ H _ I h) fun d s1 ⟨H1,z,q⟩=>?_)
 cases d with
 | true=>exact O pins s1 σ H1 D z q
 | false=>exact U pins s1 σ H1 D z q
end
abbrev TG:=V->St->Hp->(St->Hp->Prop)->Prop
abbrev TGs:=List V->St->Hp->(St->Hp->Prop)->Prop
def PG (X:Cx) (target:aH) (t:TG):Prop:=
 ∀ (pins:List (aB × Obj)) (s:aC) (σ:St) (H:Hp) (v:V) (u:aA) (Q:St->Hp->Prop),Inv X pins σ H s->RelV v u->t v σ H Q ->
  aF (aI X.prog X.w) X.A (assign target X.env u) (fun _ s'=>∃ σ' H',Inv X pins σ' H' s'/\Q σ' H') X.xe s
def PGs (X:Cx) (ts:List aH) (t:TGs):Prop:=
 ∀ (pins:List (aB × Obj)) (s:aC) (σ:St) (H:Hp) (vs:List V) (us:List aA) (Q:St->Hp->Prop),Inv X pins σ H s->Vals vs us->t vs σ H Q ->
  aF (aI X.prog X.w) X.A (assignInOrder ((aw ts X.env).map (·.2)) us) (fun _ s'=>∃ σ' H',Inv X pins σ' H' s'/\Q σ' H') X.xe s
abbrev Qs9:=V->V->V->Hp->(Hp->Prop)->Prop
def Qvs (X:Cx) (t:Qs9):Prop:=
 ∀ (pins:List (aB × Obj)) (s:aC) (σ:St) (H:Hp) (o i v:V) (ov iv u:aA) (Q:Hp->Prop),Inv X pins σ H s->RelV o ov->RelV i iv->RelV v u->t o i v H Q ->
  aF (aI X.prog X.w) X.A (setItem ov iv u) (fun _ s'=>∃ H',Inv X pins σ H' s'/\Q H') X.xe s
section
variable {pos:Pos}
def Q7f (i:Nat):TG:=fun v σ H Q=>Q (σ.set i (some v)) H
theorem Qk6 {i:Nat} {x:Str} (q:X.N.Nodup) (hi:X.N[i]?=some x) (J:Loc X.env.scope x) (O:X.fn x=true\/X.env.scope.names.lookup x=some .local:=by first | exact .inl rfl | exact .inr rfl | assumption):PG X (.Name x pos) (Q7f i):=by
 intro pins s σ H v u Q I r h;exact wpAny_assign_Name (Q5z I q hi J r (fun s' z=>⟨_,H,z,h⟩) O)
def Qv4:TGs:=fun vs σ H Q=>vs=[]/\Q σ H
def Qhb (t:TG) (u:TGs):TGs:=fun vs σ H Q=>∃ v r,vs=v :: r/\t v σ H fun σ' H'=>u r σ' H' Q
theorem Qk4:PGs X [] Qv4:=by
 intro pins s σ H vs us Q I r h;obtain ⟨e,h⟩:=h;subst e;cases r;exact assignInOrder_nil ⟨σ,H,I,h⟩
theorem Qfk {e:aH} {t:TG} {u:TGs} (h1:PG X e t) (h2:PGs X es u)
  (hs:(aw (e :: es) X.env).map (·.2)=assign e X.env :: (aw es X.env).map (·.2):=by rfl):PGs X (e :: es) (Qhb t u):=by
 intro pins s σ H vs us Q I r h;obtain ⟨v,Y,J,h⟩:=h;subst J;cases r with
 | cons r U=>
  rw [hs];refine assignInOrder_cons (thn (h1 pins s σ H _ _ _ I r h) fun _ s1 ⟨q,H1,O,z⟩=>?_)
  exact h2 pins s1 q H1 _ _ Q O U z
def Qv3 (K:PySem.W.Frag) (n:Nat) (t:TGs):TG:=fun v σ H Q=>∃ a xs,v=.ref a/\SqT K H a xs/\xs.length=n/\t xs σ H Q
theorem Qq2 {k:Nat} {t:TGs} {n:Nat} (Z:X.calm=true) (h:PGs X es t)
  (U:(aw es X.env).length=n:=by rfl) (q:(aw es X.env).findIdx? (·.1)=none:=by rfl):PG X (.Tuple es k pos) (Qv3 X.K n t):=by
 intro pins s σ H v u Q I r z;obtain ⟨a,xs,Y,hq,hl,z⟩:=z;subst Y;cases r;obtain ⟨its,J,O,hz⟩:=I.tuple hq;refine assign_Tuple_tuple (I.ok.hd Z) O (by simp [U,<- hl,J.length]) q fun h' hx=>?_
 have I1:Inv X pins σ H { s with heap:=h' }:=I.kept (t':=s.toks) fun b o e=>hx b o (E8 (D5 e)) e
 exact h pins _ σ H xs _ Q I1 (by simpa using J) z
def Qxm (to ti:TE) (t:Qs9):TG:=fun v σ H Q=>to σ H fun o H1=>ti σ H1 fun i H2=>t o i v H2 fun H3=>Q σ H3
theorem Qq3 {o i:aH} {to J:TE} {t:Qs9} (ho:PE X o to) (hi:PE X i J) (hs:Qvs X t)
  (ha:∀ v,assign (.Subscript o i pos) X.env v=(do
   let q <- ar [v] (aO o X.env)
   let z <- ar [v,q] (aO i X.env)
   standAt pos
   ar [v,q,z] (setItem q z v)
   release [v,q,z] []):=by intro _; rfl):PG X (.Subscript o i pos) (Qxm to J t):=by
 intro pins s σ H v u Q I r h;rw [ha];refine aD (ae (thn (ho pins s σ H _ I h) fun q s1 ⟨x,H1,I1,r1,Y⟩=>?_))
 refine aD (ae (thn (hi pins s1 σ H1 _ I1 Y) fun z O ⟨y,H2,I2,U,q2⟩=>?_))
 refine aD (wpAny_standAt (aD (ae (thn (hs pins O σ H2 x y v q z u _ I2 r1 U r q2) fun _ s3 ⟨H3,Z,q3⟩=>?_))))
 exact wpAny_release ⟨σ,H3,Z,q3⟩
def Qnz (te:TE) (g:TG):TS:=fun D σ H=>te σ H fun x H1=>g x σ H1 D.nx
theorem Qff {e:aH} {g:TG} (J:PE X e te) (Z:PG X tg g) (hs:swapsWithSole [tg] e pos.line X.env=pure false:=by rfl) (O:swappedStores [tg] e X.env=pure none:=by rfl)
  (h1:(aw [tg] X.env).map (·.2)=[assign tg X.env]:=by rfl):PS X (.Assign [tg] e pos) (Qnz te g):=by
 intro pins s σ H D I h;refine wpAny_Assign_stores (thn (J pins s σ H _ I h) fun v s1 ⟨x,H1,U,Y,z⟩=>?_) hs O
 rw [h1];exact thn (Z pins s1 σ H1 x v _ U Y z) fun _ s2 q=>q
theorem Qpw {i:Nat} {x:Str} {e:aH} {pos':Pos} (J:X.N.Nodup) (hi:X.N[i]?=some x) (U:Loc X.env.scope x) (z:PE X e te) (hs:swapsWith e (some (.Name x pos')) pos.line X.env=pure false:=by rfl) (hf:X.fn x=true\/X.env.scope.names.lookup x=some .local:=by first | exact .inl rfl | exact .inr rfl | assumption) :
  PS X (.Assign [.Name x pos'] e pos) (Qnz te (Q7f i)):=by
 intro pins s σ H D I h;refine wpAny_Assign_Name (thn (z pins s σ H _ I h) fun v s1 ⟨y,H1,O,Z,q⟩=>?_) hs
 exact Q5z O J hi U Z (fun s2 Y=>⟨_,H1,Y,q⟩) hf
end
section
variable {pos:Pos}
def Qnv (c:TT) (tb:TS):TS:=fun D σ H=>∃ W:Nat->St->Hp->Prop,(∃ m,W m σ H)/\∀ m σ H,W m σ H ->
 c σ H fun b H1=>if b=true then ∃ N:St->Hp->Prop,(∀ σ' H',N σ' H'->∃ m',m' < m/\W m' σ' H')/\tb { D with nx:=N,ct:=N,bk:=D.nx } σ H1 else D.nx σ H1
theorem Qfd {body:List aL} (hp:PassesOwn (aI X.prog X.w) X.A X.env X.xe) (hc:PT X c tc) (hb:PSs X body tb):PS X (.While c body [] pos) (Qnv tc tb):=by
 intro pins s σ H D I h;obtain ⟨W,⟨m0,w0⟩,turn⟩:=h;refine wpAny_While (codeAny_whileLoop (fun n s'=>∃ O H',Inv X pins O H' s'/\W n O H') ?_ m0 ⟨σ,H,I,w0⟩);rintro n s1 ⟨z,H1,I1,w1⟩;refine bI hp (thn (hc pins s1 z H1 _ I1 (turn n z H1 w1)) fun b s2 ⟨H2,I2,U⟩=>?_)
 cases b with
 | true=>
  obtain ⟨N,hN,U⟩:=U;rw [bT rfl];refine bI hp (thn (hb pins s2 z H2 _ I2 U) fun f s3 Y=>?_)
  cases f with
  | next=>
   obtain ⟨q,J,I3,Z⟩:=Y;obtain ⟨m',hm,w3⟩:=hN q J Z;exact ⟨m',hm,q,J,I3,w3⟩
  | cont=>
   obtain ⟨q,J,I3,Z⟩:=Y;obtain ⟨m',hm,w3⟩:=hN q J Z;exact ⟨m',hm,q,J,I3,w3⟩
  | brk=>exact Y
  | ret v=>exact Y
 | false=>
  rw [bU D4];exact wpAny_execs_nil ⟨z,H2,I2,U⟩
end
structure It where
 go:Nat->Hp->Prop
 yld:Nat->Hp->V->Hp->Prop
 stop:Nat->Hp->Prop
def Q2s (X:Cx) (pins:List (aB × Obj)) (H:Hp) (b:aB):Prop:=
 H b=none/\b≠X.env.locals/\b∉X.fs/\(b∈X.ex\/X.s₀.heap.objs.size<=b)/\(∀ x c,X.env.cells.lookup x=some c->c≠b)/\∀ p∈X.pn ++ pins,p.1≠b
theorem Inv.fpOk {σ:St} (I:Inv X pins σ H s) (J:s.heap.objs.size<=b) (O:H' b=none):Q2s X pins H' b:=by
 refine ⟨O,Nat.ne_of_gt (D3 I.lt J),I.nofs J,.inr (E6 I.sz J),fun x c e z=>?_,fun p U z=>?_⟩
 ·obtain ⟨v,q⟩:=I.cell x c e;exact absurd (D3 q.lt (by rw [z]; exact J)) (L8 _)
 ·exact absurd (D3 (D5 (I.pin p U).1) (by rw [z]; exact J)) (L8 _)
structure Turn (P:aK) (w:aJ) (K:PySem.W.Frag) (tg:aH) (J:It) (fp:List aB) (it:aB) (tn:Nat->Heap->Prop):Prop where
 mem:it∈fp
 obj:∀ i h,tn i h->∀ b∈fp,∃ o,h.get? b=some o/\∀ v,o.data≠.cell v
 keep:∀ i h h',tn i h->(∀ b∈fp,∀ o,h.get? b=some o->h'.get? b=some o)->tn i h'
 item:∀ (X:Cx),X.prog=P->X.w=w->X.K=K->X.calm=true->∀ (i:Nat) (pins:List (aB × Obj)) (s:aC) (σ:St) (H:Hp) (E:aA->aC->Prop),Inv X pins σ H s->(∀ b∈fp,Q2s X pins H b)->tn i s.heap->J.go i H ->
  aF (aI P w) X.A (ak (.ref it)) (fun r s1=>∃ u,r=some u /\
   aF (aI P w) X.A (letOwnedTupleGo tg (.ref it) u) (fun _ s2=>∃ x H',Inv X pins σ H' s2/\RelV x u/\J.yld i H x H'/\tn (i + 1) s2.heap/\∀ b∈fp,H' b=none) E s1) E s
 done:∀ (X:Cx),X.prog=P->X.w=w->X.K=K->X.calm=true->∀ (i:Nat) (pins:List (aB × Obj)) (s:aC) (σ:St) (H:Hp) (E:aA->aC->Prop),Inv X pins σ H s->(∀ b∈fp,Q2s X pins H b)->tn i s.heap->J.stop i H ->
  aF (aI P w) X.A (ak (.ref it)) (fun r s1=>r=none/\Inv X pins σ H s1) E s
 self:∀ (A:aM) (i:Nat) (s:aC) (Q:aA->aC->Prop) (E:aA->aC->Prop),tn i s.heap->Q (.ref it) s->aF (aI P w) A (pyIter (.ref it)) Q E s
abbrev TI:=St->Hp->(It->Hp->Prop)->Prop
def PIE (X:Cx) (pins:List (aB × Obj)) (σ:St) (tg:aH) (R:It->Hp->Prop) (itv:aA) (s2:aC):Prop:=
 ∃ (it:aB) (fp:List aB) (tn:Nat->Heap->Prop) (J:It) (H':Hp),itv=.ref it/\Inv X pins σ H' s2/\Turn X.prog X.w X.K tg J fp it tn/\tn 0 s2.heap/\(∀ b∈fp,Q2s X pins H' b)/\R J H'
def PI (X:Cx) (tg iter:aH) (wi:TI):Prop:=
 ∀ (pins:List (aB × Obj)) (s:aC) (σ:St) (H:Hp) (R:It->Hp->Prop),Inv X pins σ H s->wi σ H R ->
  aF (aI X.prog X.w) X.A (aO iter X.env) (fun v s1=>aF (aI X.prog X.w) X.A (pyIter v) (PIE X pins σ tg R) X.xe s1) X.xe s
theorem Qb3 {M:Model} {A:aM} {E:aA->aC->Prop} {tg:aH} {u:aA} {o:Obj} {n:String} {vs:Array aA} {Q:Unit->aC->Prop} (J:s.heap.get? it=some o) (z:o.cls=.type n) (hd:o.data=.fields vs)
  (I:["enumerate", "zip", "dict_itemiterator", "dict_reverseitemiterator", "odict_iterator", "itertools.zip_longest", "itertools.pairwise"].contains n=false) (q:Q () s):aF M A (letOwnedTupleGo tg (.ref it) u) Q E s:=by
 unfold letOwnedTupleGo;cases tg <;> first
  | exact wpAny_pure q
  | (cases u <;> first
    | exact wpAny_pure q
    | (refine aD (wpAny_load J ?_)
       rw [z,hd];show aF M A (if (["enumerate", "zip", "dict_itemiterator", "dict_reverseitemiterator", "odict_iterator", "itertools.zip_longest", "itertools.pairwise"].contains n && vs[0]? == some (aV _))=true then _ else _) Q E s;rw [bU (by intro h; rw [I,Bool.false_and] at h; cases h)];exact wpAny_pure q))
def Itl (K:PySem.W.Frag) (a:aB):It:=
 ⟨fun i H=>∃ xs x,SqL K H a xs/\xs[i]?=some x,fun i H x H'=>H'=H/\∀ xs,SqL K H a xs->xs[i]?=some x,fun i H=>∃ xs,SqL K H a xs/\xs.length<=i⟩
def Itt (K:PySem.W.Frag) (a:aB):It:=
 ⟨fun i H=>∃ xs x,SqT K H a xs/\xs[i]?=some x,fun i H x H'=>H'=H/\∀ xs,SqT K H a xs->xs[i]?=some x,fun i H=>∃ xs,SqT K H a xs/\xs.length<=i⟩
def Itr (lo:Int) (n:Nat):It:=⟨fun i _=>i < n,fun i H x H'=>H'=H/\x=.int (lo + i),fun i _=>n<=i⟩
theorem Qbw {w:aJ} (a it:aB):Turn P w K tg (Itl K a) [it] it (fun i h=>h.IsListIter it a i) where
 mem:=by simp
 obj:=fun i h st b q=>by
  have e:b=it:=by simpa using q
  subst e;obtain ⟨o,e,c,d⟩:=st;exact ⟨o,e,fun v z=>by rw [d] at z; cases z⟩
 keep:=fun i h h' st k=>st.at fun o e=>k it (by simp) o e
 item:=by
  intro X hP hw hK hc i pins s σ H E I O st hg;subst hP hw hK;obtain ⟨xs,x,J,hx⟩:=hg;obtain ⟨its,rv,p,hz⟩:=I.list J;obtain ⟨u,hu,ru⟩:=rv.get hx;obtain ⟨f0,Z,f2,f3,U,Y⟩:=O it (by simp);refine wpAny_pyNext_list_item st p.isList (x:=u) (by simpa using hu) fun h' st' sb=>?_
  have I1:Inv X pins σ H { s with heap:=h' }:=I.turned (t':=s.toks) (fun b o q e=>(sb.2 b q).trans e) f0 Z f3 U Y
  obtain ⟨o,e,c,d⟩:=id st';exact ⟨u,rfl,Qb3 (s:={ s with heap:=h' }) e c d (by decide) ⟨x,H,I1,ru,⟨rfl,fun ys hy=>by rw [I.list_inj hy J]; exact hx⟩,st',fun b q=>(O b q).1⟩⟩
 done:=by
  intro X hP hw hK hc i pins s σ H E I O st hg;subst hP hw hK;obtain ⟨xs,J,hx⟩:=hg;obtain ⟨its,rv,p,hz⟩:=I.list J;obtain ⟨f0,Z,f2,f3,U,Y⟩:=O it (by simp);have hl:=rv.length;exact wpAny_pyNext_list_end (I.ok.hd hc) st p.isList (by simp; omega) fun h' eb=>⟨rfl,I.turned (t':=s.toks) (fun b o q e=>eb b o q e) f0 Z f3 U Y⟩
 self:=fun _ _ _ _ _ st h=>wpAny_pyIter_listiter st h
theorem Q8a {w:aJ} (a it:aB):Turn P w K tg (Itt K a) [it] it (fun i h=>h.IsTupleIter it a i) where
 mem:=by simp
 obj:=fun i h st b q=>by
  have e:b=it:=by simpa using q
  subst e;obtain ⟨o,e,c,d⟩:=st;exact ⟨o,e,fun v z=>by rw [d] at z; cases z⟩
 keep:=fun i h h' st k=>st.at fun o e=>k it (by simp) o e
 item:=by
  intro X hP hw hK hc i pins s σ H E I O st hg;subst hP hw hK;obtain ⟨xs,x,J,hx⟩:=hg;obtain ⟨its,rv,p,hz⟩:=I.tuple J;obtain ⟨u,hu,ru⟩:=rv.get hx;obtain ⟨f0,Z,f2,f3,U,Y⟩:=O it (by simp);refine wpAny_pyNext_tuple_item st (show s.heap.IsTuple a its.toArray from p) (x:=u) (by simpa using hu) fun h' st' sb=>?_
  have I1:Inv X pins σ H { s with heap:=h' }:=I.turned (t':=s.toks) (fun b o q e=>(sb.2 b q).trans e) f0 Z f3 U Y
  obtain ⟨o,e,c,d⟩:=id st';exact ⟨u,rfl,Qb3 (s:={ s with heap:=h' }) e c d (by decide) ⟨x,H,I1,ru,⟨rfl,fun ys hy=>by rw [I.tuple_inj hy J]; exact hx⟩,st',fun b q=>(O b q).1⟩⟩
 done:=by
  intro X hP hw hK hc i pins s σ H E I O st hg;subst hP hw hK;obtain ⟨xs,J,hx⟩:=hg;obtain ⟨its,rv,p,hz⟩:=I.tuple J;obtain ⟨f0,Z,f2,f3,U,Y⟩:=O it (by simp);have hl:=rv.length;exact wpAny_pyNext_tuple_end (I.ok.hd hc) st (show s.heap.IsTuple a its.toArray from p) (by simp; omega) fun h' eb=>⟨rfl,I.turned (t':=s.toks) (fun b o q e=>eb b o q e) f0 Z f3 U Y⟩
 self:=fun _ _ _ _ _ st h=>wpAny_pyIter_tupleiter st h
theorem Q8b {w:aJ} (it:aB) (lo:Int) (n:Nat):Turn P w K tg (Itr lo n) [it] it (fun i h=>IsRangeIter h it (lo + (i:Nat) * 1) ((n:Int) - (i:Nat)) 1) where
 mem:=by simp
 obj:=fun i h st b q=>by
  have e:b=it:=by simpa using q
  subst e;exact ⟨_,st,fun v z=>by
   have z':Data.fields _=Data.cell v:=z;cases z'⟩
 keep:=fun i h h' st k=>k it (by simp) _ st
 item:=by
  intro X hP hw hK hc i pins s σ H E I J st hg;subst hP hw hK;obtain ⟨Z,Y,f2,f3,O,U⟩:=J it (by simp);have W:=Walks.range (prog:=X.prog) (w:=X.w) (I.ok.hd hc) it lo 1 n;refine W.item i s _ _ hg st fun v h' tk hv st' kk=>?_
  obtain ⟨t,rfl⟩:=hv;have I1:Inv X pins σ H { s with heap:=h',toks:=tk }:=I.turned (fun b o q e=>kk b o (by simpa using q) e) Z Y f3 O U
  refine ⟨_,rfl,Qb3 (s:={ s with heap:=h',toks:=tk }) (n := "range_iterator") st' rfl rfl (by decide) ⟨.int (lo + i),H,I1,⟨t,?_⟩,⟨rfl,rfl⟩,st',fun b q=>(J b q).1⟩⟩
  rw [Int.mul_one]
 done:=by
  intro X hP hw hK hc i pins s σ H E I J st hg;subst hP hw hK;obtain ⟨Z,Y,f2,f3,O,U⟩:=J it (by simp);exact wpAny_pyNext_range_end (I.ok.hd hc) st (by have:n<=i:=hg; omega) fun h' eb=>⟨rfl,I.turned (t':=s.toks) (fun b o q e=>eb b o q e) Z Y f3 O U⟩
 self:=fun _ _ _ _ _ st h=>wpAny_pyIter_rangeiter st h
variable {tg:aH}
def Quy (K:PySem.W.Frag) (tl:TE):TI:=fun σ H R=>tl σ H fun x H1=>∃ a,x=.ref a/\(∃ xs,SqL K H1 a xs)/\R (Itl K a) H1
def Qxj (K:PySem.W.Frag) (tl:TE):TI:=fun σ H R=>tl σ H fun x H1=>∃ a,x=.ref a/\(∃ xs,SqT K H1 a xs)/\R (Itt K a) H1
theorem Qk2 (Y:PE X l tl):PI X tg l (Quy X.K tl):=by
 intro pins s σ H R I h;refine thn (Y pins s σ H _ I h) fun v s1 ⟨x,H1,z,U,J⟩=>?_
 obtain ⟨a,e,⟨xs,O⟩,q⟩:=J;subst e;cases U;obtain ⟨its,rv,p,hz⟩:=z.list O;refine wpAny_pyIter_list p.isList ?_;refine ⟨s1.heap.objs.size,[s1.heap.objs.size],_,_,H1,rfl,z.kept (t':=s1.toks) fun b o e=>O3 _ e,Qbw a _,⟨_,D8 _ rfl,rfl,rfl⟩,fun b Z=>?_,q⟩
 have e:b=s1.heap.objs.size:=by simpa using Z
 subst e;exact z.fpOk (O6 _) (z.hok.fresh (O6 _))
theorem Qq0 (Y:PE X l tl):PI X tg l (Qxj X.K tl):=by
 intro pins s σ H R I h;refine thn (Y pins s σ H _ I h) fun v s1 ⟨x,H1,z,U,J⟩=>?_
 obtain ⟨a,e,⟨xs,O⟩,q⟩:=J;subst e;cases U;obtain ⟨its,rv,p,hz⟩:=z.tuple O;refine bM (show s1.heap.IsTuple a its.toArray from p) ?_;refine ⟨s1.heap.objs.size,[s1.heap.objs.size],_,_,H1,rfl,z.kept (t':=s1.toks) fun b o e=>O3 _ e,Q8a a _,⟨_,D8 _ rfl,rfl,rfl⟩,fun b Z=>?_,q⟩
 have e:b=s1.heap.objs.size:=by simpa using Z
 subst e;exact z.fpOk (O6 _) (z.hok.fresh (O6 _))
theorem Qf4 {σ:St} {R:It->Hp->Prop} {E:aA->aC->Prop} {lo hi:Int} {t u v:Tok} {J:Nat} (I:Inv X pins σ H s) (h1:-(2 ^ 62)<=lo) (h2:lo < 2 ^ 62) (Z:-(2 ^ 62)<=hi) (O:hi < 2 ^ 62)
  (q:R (Itr lo (hi - lo).toNat) H):aF (aI X.prog X.w) X.A (pyIter (.ref s.heap.objs.size)) (PIE X pins σ tg R) E { s with heap:=s.heap.push { cls:=.type "range",data:=.fields #[.int lo t,.int hi u,.int 1 v] },toks:=J }:=by
 refine wpAny_pyIter_range (IsRange.new ..) (small_one h1 h2 Z O) ?_;have z:Inv X pins σ H { s with heap:=s.heap.push { cls:=.type "range",data:=.fields #[.int lo t,.int hi u,.int 1 v] },toks:=J }:=I.kept fun b o e=>O3 _ e
 refine ⟨(s.heap.push { cls:=.type "range",data:=.fields #[.int lo t,.int hi u,.int 1 v] }).objs.size,[(s.heap.push { cls:=.type "range",data:=.fields #[.int lo t,.int hi u,.int 1 v] }).objs.size],_,_,H,rfl,
  z.kept (t':=J) fun b o e=>O3 _ e,Q8b _ lo (hi - lo).toNat,?_,fun b hb=>?_,q⟩
 ·have Y:lo + ((0:Nat):Int) * 1=lo:=by simp
  have U:(((hi - lo).toNat:Nat):Int) - ((0:Nat):Int)=Builtin.Range.rangeSize lo hi 1:=by rw [rangeSize_one]; split <;> omega
  show IsRangeIter _ _ (lo + ((0:Nat):Int) * 1) ((((hi - lo).toNat:Nat):Int) - ((0:Nat):Int)) 1;rw [Y,U];exact D8 _ rfl
 ·have e:b=(s.heap.push { cls:=.type "range",data:=.fields #[.int lo t,.int hi u,.int 1 v] }).objs.size:=by simpa using hb
  subst e;exact z.fpOk (O6 _) (z.hok.fresh (O6 _))
def Qux (ta:TA):TI:=fun σ H R=>ta σ H fun vs H1=>∃ j:Int,vs=[.int j]/\-(2 ^ 62)<=j/\j < 2 ^ 62/\R (Itr 0 j.toNat) H1
theorem Qci {a:aH} {ta:TA} {p pos:Pos} (hg:Gl X "range") (hm:X.mg "range" = none) (J:PA X [a] ta) (hs:aN [a] X.env=[(false,aO a X.env)]:=by rfl):PI X tg (.Call (.Name "range" p) [a] [] pos) (Qux ta):=by
 intro pins s σ H R I h;refine Call_ (j4 I hg hm boot_range (PyProof.Rows.callWith_type1 (thn (J pos pins s σ H _ I h) fun us s1 ⟨vs,H1,O,Z,z⟩=>?_) hs rfl))
 obtain ⟨j,e,z,U,q⟩:=z;subst e;cases Z with
 | cons r Y=>
  cases Y;obtain ⟨t,rfl⟩:=r;exact call_range_1 (Qf4 O (by omega) (by omega) z U (by simpa using q))
def Qx3 (wi:TI) (g:TG) (tb:TS):TS:=fun D σ H=>wi σ H fun J H1=>∃ W:Nat->Nat->St->Hp->Prop,(∃ m,W 0 m σ H1)/\∀ i m σ H,W i m σ H ->
 (J.stop i H/\D.nx σ H)\/(J.go i H/\∃ N:St->Hp->Prop,(∀ σ' H',N σ' H'->∃ m',m' < m/\W (i + 1) m' σ' H')/\∀ x H',J.yld i H x H'->g x σ H' fun σ2 H2=>tb { D with nx:=N,ct:=N,bk:=D.nx } σ2 H2)
def Q1c (fp:List aB) (h:Heap):List (aB × Obj):=fp.filterMap fun b=>(h.get? b).map fun o=>(b,o)
theorem Wd {o:Obj} (q:b∈fp) (e:h.get? b=some o):(b,o)∈Q1c fp h:=List.mem_filterMap.mpr ⟨b,q,by rw [e]; rfl⟩
theorem Qcs {p:aB × Obj} (I:p∈Q1c fp h):p.1∈fp/\h.get? p.1=some p.2:=by
 obtain ⟨b,J,e⟩:=List.mem_filterMap.mp I;cases q:h.get? b with
 | none=>rw [q] at e; cases e
 | some o=>
  rw [q] at e;have z:(b,o)=p:=Option.some.inj e;subst z;exact ⟨J,q⟩
theorem Inv.pinned {σ:St} (I:Inv X pins σ H s) (Y:∀ b∈fp,Q2s X pins H b) (O:∀ b∈fp,∃ o,s.heap.get? b=some o/\∀ v,o.data≠.cell v):Inv X (pins ++ Q1c fp s.heap) σ H s:=
 I.pins_of fun p hp=>(E1.mp hp).elim (fun z=>I.pin p (E4 _ z)) fun z=>by
  obtain ⟨q,e⟩:=Qcs z;obtain ⟨Z,U,f2,_⟩:=Y p.1 q;obtain ⟨o,J,d⟩:=O p.1 q;rw [e] at J; cases J;exact ⟨e,Z,U,f2,d⟩
theorem Inv.unpinned {z:List (aB × Obj)} {σ:St} (I:Inv X (pins ++ z) σ H s):Inv X pins σ H s:=I.pins_of fun p q=>I.pin p (E4 _ (F6 _ q))
theorem Qpy {iter:aH} {body:List aL} {wi:TI} {g:TG} {pos:Pos} (hp:PassesOwn (aI X.prog X.w) X.A X.env X.xe) (hc:X.calm=true) (hi:PI X tg iter wi) (hg:PG X tg g) (Y:PSs X body tb)
  (hs:∀ x,bC iter X.env x=pure x:=by intro _; rfl):PS X (.For tg iter body [] pos) (Qx3 wi g tb):=by
 intro pins s σ H D I h;refine wpAny_For (thn (hi pins s σ H _ I h) fun v s1 h1=>thn h1 fun a8 s2 h2=>?_) hs
 obtain ⟨it,fp,tn,J,H2,e,I2,T,a6,f2,W,⟨m0,w0⟩,turn⟩:=h2;subst e;have Z:∀ {H':Hp},(∀ b∈fp,H' b=none)->∀ b∈fp,Q2s X pins H' b:=fun hn b Y=>⟨hn b Y,(f2 b Y).2⟩
 refine codeAny_forLoop_any (fun n s'=>∃ i U H',Inv X pins U H' s'/\tn i s'.heap/\(∀ b∈fp,H' b=none)/\W i n U H') ?_ m0 ⟨0,σ,H2,I2,a6,fun b Y=>(f2 b Y).1,w0⟩
 rintro n s3 ⟨i,O,H3,I3,a3,a2,w3⟩;rcases turn i n O H3 w3 with ⟨stop,qn⟩ | ⟨go,N,hN,step⟩
 ·refine bI hp (thn (T.done X rfl rfl rfl hc i pins s3 O H3 X.xe I3 (Z a2) a3 stop) fun r s4 ⟨hr,I4⟩=>?_)
  subst hr;exact wpAny_execs_nil ⟨O,H3,I4,qn⟩
 ·refine bI hp (thn (T.item X rfl rfl rfl hc i pins s3 O H3 X.xe I3 (Z a2) a3 go) fun r s4 ⟨u,hr,h4⟩=>?_)
  subst hr;refine bI hp (thn h4 fun _ s5 ⟨x,H5,I5,r5,y5,a1,a7⟩=>?_);have a4:=I5.pinned (Z a7) (T.obj _ _ a1);refine bI hp (thn (hg _ s5 O H5 x u _ a4 r5 (step x H5 y5)) fun _ s6 ⟨a5,H6,I6,q6⟩=>?_)
  refine bI hp (thn (Y _ s6 a5 H6 _ I6 q6) fun f s7 q7=>?_)
  have again:∀ {q:St} {z:Hp},Inv X (pins ++ Q1c fp s5.heap) q z s7->N q z->∃ m,m < n/\∃ i U H',Inv X pins U H' s7/\tn i s7.heap/\(∀ b∈fp,H' b=none)/\W i m U H':=fun {q z} I7 n7=>by
   obtain ⟨m',hm,w7⟩:=hN q z n7;refine ⟨m',hm,i + 1,q,z,I7.unpinned,T.keep _ _ _ a1 fun b Y o e=>(I7.pin (b,o) (E4 _ (E4 _ (Wd Y e)))).1,fun b Y=>?_,w7⟩;obtain ⟨o,e,d⟩:=T.obj _ _ a1 b Y;exact (I7.pin (b,o) (E4 _ (E4 _ (Wd Y e)))).2.1
  cases f with
  | next=>obtain ⟨q,z,I7,n7⟩:=q7; exact again I7 n7
  | cont=>obtain ⟨q,z,I7,n7⟩:=q7; exact again I7 n7
  | brk=>obtain ⟨q,z,I7,q7⟩:=q7; exact ⟨q,z,I7.unpinned,q7⟩
  | ret v=>obtain ⟨x7,q,z,I7,r7,q7⟩:=q7; exact ⟨x7,q,z,I7.unpinned,r7,q7⟩
abbrev R2:=V->V->Hp->VK->Prop
variable {r:R2}
def OpR (X:Cx) (f:aA->aA->Sem aA) (r:R2):Prop:=
 ∀ (pins:List (aB × Obj)) (s:aC) (σ:St) (H:Hp) (x y:V) (v u:aA) (Q:VK),Inv X pins σ H s->RelV x v->RelV y u->r x y H Q ->
  aF (aI X.prog X.w) X.A (f v u) (EP X pins σ Q) X.xe s
def UnR (X:Cx) (f:aA->Sem aA) (r:V->Hp->VK->Prop):Prop:=
 ∀ (pins:List (aB × Obj)) (s:aC) (σ:St) (H:Hp) (x:V) (v:aA) (Q:VK),Inv X pins σ H s->RelV x v->r x H Q ->
  aF (aI X.prog X.w) X.A (f v) (EP X pins σ Q) X.xe s
def W6 (X:Cx) (f:aA) (r:List V->Hp->VK->Prop):Prop:=
 ∀ (pins:List (aB × Obj)) (s:aC) (σ:St) (H:Hp) (xs:List V) (us:List aA) (Q:VK),Inv X pins σ H s->Vals xs us->r xs H Q ->
  aF (aI X.prog X.w) X.A (call f us) (EP X pins σ Q) X.xe s
def tOp (r:R2) (ta tb:TE):TE:=fun σ H Q=>ta σ H fun x H1=>tb σ H1 fun y H2=>r x y H2 Q
def tUn (r:V->Hp->VK->Prop) (ta:TE):TE:=fun σ H Q=>ta σ H fun x H1=>r x H1 Q
def rI (C:Int->Int->Prop) (g:Int->Int->V):R2:=fun x y H Q=>∃ i j,x=.int i/\y=.int j/\C i j/\Q (g i j) H
def rI0 (g:Int->Int->V):R2:=fun x y H Q=>∃ i j,x=.int i/\y=.int j/\Q (g i j) H
def rU (g:Int->V):V->Hp->VK->Prop:=fun x H Q=>∃ i,x=.int i/\Q (g i) H
variable {b c:aH} {ta tb tc:TE}
section
variable {a:aH} {pos:Pos}
theorem Qs4 (Z:PE X a ta) (O:PE X b tb) {σ:St} {R:V->V->Hp->Prop} (I:Inv X pins σ H s)
  (h:ta σ H fun x H1=>tb σ H1 fun y H2=>R x y H2) {Q:aA->aC->Prop} {f:aA->aA->Sem aA}
  (hf:∀ v u J x y H2,Inv X pins σ H2 J->RelV x v->RelV y u->R x y H2->aF (aI X.prog X.w) X.A (f v u) Q X.xe J) :
  aF (aI X.prog X.w) X.A (aO a X.env) (fun v q=>aF (aI X.prog X.w) X.A (aO b X.env) (fun u z=>aF (aI X.prog X.w) X.A (f v u) Q X.xe z) X.xe q) X.xe s:=by
 refine thn (Z pins s σ H _ I h) fun v s1 ⟨x,H1,I1,r1,Y⟩=>?_
 refine thn (O pins s1 σ H1 _ I1 Y) fun u J ⟨y,H2,I2,U,q2⟩=>?_
 exact hf v u J x y H2 I2 r1 U q2
theorem Qna {op:Operator} (O:OpR X (aZ op) r) (U:PE X a ta) (hb:PE X b tb):PE X (.BinOp a op b pos) (tOp r ta tb):=by
 intro pins s σ H Q I h;exact wpAny_BinOp (Qs4 U hb I h fun v u z x y H2 Z Y J q=>O pins z σ H2 x y v u Q Z Y J q)
theorem Qtu {op:UnaryOp} {r:V->Hp->VK->Prop} (z:UnR X (unaryOp op) r) (U:PE X a ta):PE X (.UnaryOp op a pos) (tUn r ta):=by
 intro pins s σ H Q I h;exact UnaryOp_ (thn (U pins s σ H _ I h) fun v s1 ⟨x,H1,J,O,q⟩=>z pins s1 σ H1 x v Q J O q)
theorem opI {f:aA->aA->Sem aA} {C:Int->Int->Prop} {g:Int->Int->Int}
  (rule:∀ (i j:Int) (t u:Tok) (s:aC) (Q:aA->aC->Prop) (E:aA->aC->Prop),C i j->Q (.int (g i j) s.toks) { s with toks:=s.toks + 1 }->aF (aI X.prog X.w) X.A (f (.int i t) (.int j u)) Q E s) :
  OpR X f (rI C fun i j=>.int (g i j)):=by
 intro pins s σ H x y v u Q I O z h;obtain ⟨i,j,rfl,rfl,J,q⟩:=h;obtain ⟨t,rfl⟩:=O;obtain ⟨t',rfl⟩:=z;exact rule i j t t' s _ _ J ⟨.int (g i j),H,I.tok _,⟨_,rfl⟩,q⟩
theorem Qu9 {f:aA->aA->Sem aA} {g:Int->Int->Int}
  (rule:∀ (i j:Int) (t u:Tok) (s:aC) (Q:aA->aC->Prop) (E:aA->aC->Prop),Q (.int (g i j) s.toks) { s with toks:=s.toks + 1 }->aF (aI X.prog X.w) X.A (f (.int i t) (.int j u)) Q E s) :
  OpR X f (rI0 fun i j=>.int (g i j)):=by
 intro pins s σ H x y v u Q I z J h;obtain ⟨i,j,rfl,rfl,q⟩:=h;obtain ⟨t,rfl⟩:=z;obtain ⟨t',rfl⟩:=J;exact rule i j t t' s _ _ ⟨.int (g i j),H,I.tok _,⟨_,rfl⟩,q⟩
theorem Qkk {f:aA->aA->Sem aA} {g:Int->Int->Bool}
  (rule:∀ (i j:Int) (t u:Tok) (s:aC) (Q:aA->aC->Prop) (E:aA->aC->Prop),Q (.bool (g i j)) s->aF (aI X.prog X.w) X.A (f (.int i t) (.int j u)) Q E s) :
  OpR X f (rI0 fun i j=>.bl (g i j)):=by
 intro pins s σ H x y v u Q I z J h;obtain ⟨i,j,rfl,rfl,q⟩:=h;obtain ⟨t,rfl⟩:=z;obtain ⟨t',rfl⟩:=J;exact rule i j t t' s _ _ ⟨.bl (g i j),H,I,rfl,q⟩
def Qxw (i j:Int):Prop:=0<=j/\j<=1000000/\i.natAbs < 2 ^ 64
def CMul (i j:Int):Prop:=(-(2 ^ 64) < i/\i < 2 ^ 64)\/(-(2 ^ 64) < j/\j < 2 ^ 64)
theorem CMul.ok {i j:Int} (h:CMul i j):IntMulOk i j:=by
 rcases h with ⟨h1,h2⟩ | ⟨h1,h2⟩
 ·exact .of_left (intBits_le_64 h1 h2)
 ·exact .of_right (intBits_le_64 h1 h2)
theorem Qqt:OpR X (aZ .Add) (rI0 fun i j=>.int (i + j)):=Qu9 fun _ _ _ _ _ _ _ q=>add_int q
theorem Qqm:OpR X (aZ .Sub) (rI0 fun i j=>.int (i - j)):=Qu9 fun _ _ _ _ _ _ _ q=>sub_int q
theorem Qqq:OpR X (aZ .Mult) (rI CMul fun i j=>.int (i * j)):=opI fun _ _ _ _ _ _ _ z q=>mul_int q z.ok
theorem Qqr:OpR X (aZ .Mod) (rI (fun _ j=>0 < j) fun i j=>.int (i % j)):=opI fun i j _ _ _ _ _ z q=>by
 have h1:(0:Int) < j:=z;exact mod_int' (by omega) (by rw [Int.fmod_eq_emod_of_nonneg i (by omega)]; exact q)
theorem Qqp:OpR X (aZ .Pow) (rI Qxw fun i j=>.int (i ^ j.toNat)):=opI fun _ _ _ _ _ _ _ z q=>pow_int_small z.1 z.2.1 z.2.2 q
theorem unI {f:aA->Sem aA} {g:Int->Int}
  (rule:∀ (i:Int) (t:Tok) (s:aC) (Q:aA->aC->Prop) (E:aA->aC->Prop),Q (.int (g i) s.toks) { s with toks:=s.toks + 1 }->aF (aI X.prog X.w) X.A (f (.int i t)) Q E s) :
  UnR X f (rU fun i=>.int (g i)):=by
 intro pins s σ H x v Q I z h;obtain ⟨i,rfl,q⟩:=h;obtain ⟨t,rfl⟩:=z;exact rule i t s _ _ ⟨.int (g i),H,I.tok _,⟨_,rfl⟩,q⟩
theorem Qns:UnR X (unaryOp .USub) (rU fun i=>.int (-i)):=unI fun _ _ _ _ _ q=>neg_int q
end
section
variable {a:aH} {pos:Pos}
theorem Q5f {σ:St} {Q:VK} {k z:Bool} (I:Inv X pins σ H s) (q:Q (.bl k) H) (e:k=z):EP X pins σ Q (.bool z) s:=by
 subst e;exact ⟨.bl k,H,I,rfl,q⟩
theorem Qu6:OpR X (aS .Lt) (rI0 fun i j=>.bl (decide (i < j))):=Qkk fun _ _ _ _ _ _ _ q=>lt_int q
theorem Qne:OpR X (aS .LtE) (rI0 fun i j=>.bl (decide (i<=j))):=Qkk fun _ _ _ _ _ _ _ q=>le_int q
theorem Qu7:OpR X (aS .Gt) (rI0 fun i j=>.bl (decide (j < i))):=Qkk fun _ _ _ _ _ _ _ q=>gt_int q
theorem Qu8:OpR X (aS .GtE) (rI0 fun i j=>.bl (decide (j<=i))):=Qkk fun _ _ _ _ _ _ _ q=>ge_int q
theorem Qki:OpR X (aS .IsNot) (fun x y H Q=>y=.non/\Q (.bl (!decide (x=.non))) H):=by
 intro pins s σ H x y v u Q I z J h;obtain ⟨rfl,q⟩:=h;cases J;refine isnot_none_gen (Q5f I q ?_);cases x <;> first
  | (cases z; rfl)
  | (obtain ⟨t,rfl⟩:=z; rfl)
theorem OpR.or {z:R2} (h:OpR X f r) (h':OpR X f z):OpR X f (fun x y H Q=>r x y H Q\/z x y H Q):=by
 intro pins s σ H x y v u Q I O J q;rcases q with q | q
 ·exact h pins s σ H x y v u Q I O J q
 ·exact h' pins s σ H x y v u Q I O J q
theorem Q91 (b:aH) (h:op≠.In:=by decide) (h2:op≠.NotIn:=by decide):bN op b=false:=by
 have q:(op == CmpOp.In)=false:=by cases op <;> first | rfl | exact absurd rfl h
 have z:(op == CmpOp.NotIn)=false:=by cases op <;> first | rfl | exact absurd rfl h2
 cases b <;> simp [bN,q,z]
theorem Q4k (O:OpR X (aS op) r) (U:PE X a ta) (hb:PE X b tb) (hm:bN op b=false):PE X (.Compare a [op] [b] pos) (tOp r ta tb):=by
 intro pins s σ H Q I h;exact wpAny_Compare1 (Qs4 U hb I h fun v u z x y H2 Z Y J q=>O pins z σ H2 x y v u Q Z Y J q) hm
def Qn3 (t:TE):TT:=fun σ H Q=>t σ H fun x H'=>∃ k,x=.bl k/\Q k H'
theorem Qah (Y:OpR X (aS op) r) (ha:PE X a ta) (hb:PE X b tb) (hm:bN op b=false):PT X (.Compare a [op] [b] pos) (Qn3 (tOp r ta tb)):=by
 intro pins s σ H Q I h;refine wpAny_isTrue_Compare1 (thn (ha pins s σ H _ I h) fun v s1 ⟨x,H1,I1,r1,O⟩=>thn (hb pins s1 σ H1 _ I1 O) fun u q ⟨y,H2,I2,J,q2⟩=>
  thn (Y pins q σ H2 x y v u _ I2 r1 J q2) fun c s3 ⟨z,H3,U,Z,k,e,q3⟩=>?_) hm
 subst e;cases Z;exact bB ⟨H3,U,q3⟩
def Q8d (r r':R2) (ta tb tc:TE):TE:=fun σ H Q=>ta σ H fun x H1=>tb σ H1 fun y H2=>r x y H2 fun z H3=>∃ k,z=.bl k /\
 (if k=true then tc σ H3 fun w' H4=>r' y w' H4 Q else Q (.bl false) H3)
theorem Qft {q:CmpOp} {U:R2} (ho:OpR X (aS op) r) (J:OpR X (aS q) U) (ha:PE X a ta) (hb:PE X b tb) (hc:PE X c tc)
  (hm:lastMarks [op,q] [b,c]=false:=by with_unfolding_all rfl):PE X (.Compare a [op,q] [b,c] pos) (Q8d r U ta tb tc):=by
 intro pins s σ H Q I h;refine Compare_chain (thn (ha pins s σ H _ I h) fun v s1 ⟨x,H1,I1,r1,q1⟩=>chain_link (thn (hb pins s1 σ H1 _ I1 q1) fun u s2 ⟨y,H2,I2,Y,q2⟩=>
  thn (ho pins s2 σ H2 x y v u _ I2 r1 Y q2) fun d s3 ⟨z,O,Z,r3,k,e,q3⟩=>?_)) hm
 subst e;cases r3;refine bB ?_;cases k with
 | false=>exact ite_ff ⟨.bl false,O,Z,rfl,q3⟩
 | true=>exact ite_tt (chain_last (thn (hc pins s3 σ O _ Z q3) fun w' s4 ⟨z',H4,I4,r4,q4⟩=>J pins s4 σ H4 y z' u w' Q I4 Y r4 q4))
theorem Qfb {q:CmpOp} {U:R2} (ho:OpR X (aS op) r) (J:OpR X (aS q) U) (ha:PE X a ta) (hb:PE X b tb) (hc:PE X c tc)
  (hm:lastMarks [op,q] [b,c]=false:=by with_unfolding_all rfl):PT X (.Compare a [op,q] [b,c] pos) (Qn3 (Q8d r U ta tb tc)):=by
 intro pins s σ H Q I h;refine isTrue_chain (thn (ha pins s σ H _ I h) fun v s1 ⟨x,H1,I1,r1,q1⟩=>test_link (thn (hb pins s1 σ H1 _ I1 q1) fun u s2 ⟨y,H2,I2,Y,q2⟩=>
  thn (ho pins s2 σ H2 x y v u _ I2 r1 Y q2) fun d s3 ⟨z,O,Z,r3,k,e,q3⟩=>?_)) hm
 subst e;cases r3;refine bB ?_;cases k with
 | false=>
  obtain ⟨k',e',q'⟩:=q3;cases e';exact ite_ff ⟨O,Z,q'⟩
 | true=>
  refine ite_tt (test_last (thn (hc pins s3 σ O _ Z q3) fun w' s4 ⟨z',H4,I4,r4,q4⟩=>thn (J pins s4 σ H4 y z' u w' _ I4 Y r4 q4) fun d' s5 ⟨z2,H5,I5,r5,k2,e2,q5⟩=>?_))
  subst e2;cases r5;exact bB ⟨H5,I5,q5⟩
theorem yz:(sizeLine:Nat) < 2 ^ 63:=by rw [sizeLine_eq]; decide
theorem Q8w:OpR X (aZ .Add) (fun x y H Q=>∃ i j,x=.str i/\y=.str j/\i.length + j.length<=sizeLine/\Q (.str (i ++ j)) H):=by
 intro pins s σ H x y v u Q I J z h;obtain ⟨i,j,rfl,rfl,hz,q⟩:=h;obtain ⟨t,rfl⟩:=J;obtain ⟨t',rfl⟩:=z;exact add_str (fun t' O=>⟨.str (i ++ j),H,I.tok _,⟨_,rfl⟩,q⟩) hz
theorem Uk {x:V} (r:Vals [x] us):∃ u,us=[u]/\RelV x u:=by
 cases r with
 | cons z q=>cases q; exact ⟨_,rfl,z⟩
theorem Qn1 {x y:V} (r:Vals [x,y] us):∃ u q,us=[u,q]/\RelV x u/\RelV y q:=by
 cases r with
 | cons O z=>
  cases z with
  | cons J I=>cases I; exact ⟨_,_,rfl,O,J⟩
theorem Qdh (J:X.calm=true):W6 X (.builtin "min") (fun xs H Q=>∃ i j,xs=[.int i,.int j]/\Q (.int (if j < i then j else i)) H):=by
 intro pins s σ H xs us Q I r h;obtain ⟨i,j,rfl,q⟩:=h;obtain ⟨u,O,rfl,⟨t,rfl⟩,⟨t',rfl⟩⟩:=Qn1 r;refine min_two_ints (I.ok.hd J) fun h' U k=>⟨_,H,I.kept k,?_,q⟩
 by_cases z:j < i
 ·rw [bT z,bT z]; exact ⟨_,rfl⟩
 ·rw [bU z,bU z]; exact ⟨_,rfl⟩
end
structure ObjM (h:Heap) (x dx C:aB) (mA:Str->Option aA):Prop where
 obj:h.get? x=some (PySem.W.instObj C dx)
 ns:h.Ns1 dx mA
 ne:dx≠x
theorem Qd1 (n:h.Ns1 dx mA):∃ J,h.get? dx=some J/\∀ name,PySem.W.lookIn name J=some (mA name):=by
 obtain ⟨o,es,ep,O,hd,Y,_,hm⟩:=n;refine ⟨o,O,fun name=>?_⟩;have e:=hm name;unfold nsFind findBy at e;rw [<- Array.find?_toList] at e;unfold PySem.W.lookIn;rw [hd];dsimp only
 split
 ·rename_i y q;rw [q] at e;exact congrArg some e
 ·rename_i q;rw [q] at e;have a:es.toList.any (·.refKey)=false:=by
   rw [List.any_eq_false];intro y U;obtain ⟨z,t,I⟩:=Y y (Array.mem_toList_iff.mp U);simp [DictEntry.refKey,I]
  have Z:¬ es.toList.any (·.refKey)=true:=by rw [a]; exact D4
  rw [bU Z];exact congrArg some e
theorem ObjM.look {C:aB} (I:ObjM h x dx C mA):∃ q,PySem.W.InstAt h x (PySem.W.instObj C dx) C (some q)/\∀ name,PySem.W.lookIn name q=some (mA name):=
 let ⟨q,J,z⟩:=Qd1 I.ns
 ⟨q,⟨I.obj,rfl,rfl,J⟩,z⟩
theorem RelO.some_of {o:Option aA} (r:RelO (some v) o):∃ u,o=some u/\RelV v u:=by
 cases o with
 | none=>exact (show False from r).elim
 | some u=>exact ⟨u,rfl,r⟩
variable {C dx:aB}
section
variable {w:aJ} {fs fs':List (Str × V)}
theorem Qm8 (hok:HOk P w H h) (e:H a=some (.ins C dx fs)):∃ mA,ObjM h a dx C mA/\(∀ f,RelO (fs.lookup f) (mA f))/\PySem.Within mA (fs.map (·.1))/\fs.length<=1000/\H dx=some (.own a):=by
 obtain ⟨d,z,ne,ob,mA,n,r,q⟩:=(show ObjOk P w H h a (.ins C dx fs) from hok a _ e);exact ⟨mA,⟨ob,n,ne⟩,r,q,z,d⟩
end
structure Cls (K:PySem.W.Frag) (C:aB):Prop where
 pg:PySem.W.plainGet K C Str.empty=true
 hd:PySem.W.hasDictIn K C=true
 po:PySem.W.plainOver K C=true
 sa:PySem.W.findIn K (.ref C) "__setattr__" = some (some (.builtin "object.__setattr__"))
theorem Cls.get (c:Cls K C) (f:Str):PySem.W.plainGet K C f=true:=c.pg
variable {A:aM} {E:aA->aC->Prop} {Q:aA->aC->Prop}
section
variable {σ:St} {c:aA} {b:Bool}
inductive TyOf (K:PySem.W.Frag) (H:Hp):V->aA->Prop where
 | non:TyOf K H .non (.type "NoneType")
 | bl (x:Bool):TyOf K H (.bl x) (.type "bool")
 | int (i:Int):TyOf K H (.int i) (.type "int")
 | str (x:Str):TyOf K H (.str x) (.type "str")
 | flt (x:UInt64):TyOf K H (.flt x) (.type "float")
 | lst {a:aB} {xs:List V} (e:H a=some (.lst xs)):TyOf K H (.ref a) (.type "list")
 | frz {a:aB} {o:Obj} {xs:List V} (e:H a=some (.frz o (.lst xs))):TyOf K H (.ref a) (.type "list")
 | tup {a:aB} {xs:List V} (e:H a=some (.tup xs)):TyOf K H (.ref a) (.type "tuple")
 | dK {a:aB} {kvs:List (Key × V)} (e:H a=some (.dK kvs)):TyOf K H (.ref a) (.type "dict")
 | dT {a:aB} {kvs:List (HK × V)} (e:H a=some (.dT kvs)):TyOf K H (.ref a) (.type "dict")
 | ins {a C dx:aB} {fs:List (Str × V)} (e:H a=some (.ins C dx fs)) (cl:Cls K C) (ha:PySem.W.findIn K (.ref C) "__class__" = some (some (.builtin "object.__class__")))
   (hn:PySem.W.specialIn K (.builtin "object.__class__") "__get__" = some (some (.builtin "getset_descriptor.__get__"))) (htk:PySem.W.takesIn K (.builtin "object.__class__")=some true)
   (hm:PySem.W.mroIn K C (.type "object")=some true):TyOf K H (.ref a) (.ref C)
theorem Qd2 {x:V} {u t:aA} (I:Inv X pins σ H s) (Y:RelV x u) (ty:TyOf X.K H x t) (e:PySem.W.kitOne X.K t c=some b) (h:∀ tk,Q (.bool b) { s with toks:=tk }) :
  aF (aI X.prog X.w) A (call (.builtin "isinstance") [u,c]) Q E s:=by
 cases ty with
 | non=>cases (show u=Value.none from Y); exact PySem.W.kia_one PySem.W.kitx_none I.kIn True.intro e (fun z=>nomatch z) h
 | bl y=>cases (show u=Value.bool y from Y); exact PySem.W.kia_one PySem.W.kitx_bool I.kIn True.intro e (fun z=>nomatch z) h
 | int i=>obtain ⟨t,q⟩:=(show ∃ t,u=Value.int i t from Y); cases q; exact PySem.W.kia_one PySem.W.kitx_int I.kIn True.intro e (fun z=>nomatch z) h
 | str y=>obtain ⟨t,q⟩:=(show ∃ t,u=Value.str y t from Y); cases q; exact PySem.W.kia_one PySem.W.kitx_str I.kIn True.intro e (fun z=>nomatch z) h
 | flt y=>obtain ⟨t,q⟩:=(show ∃ t,u=Value.float y t from Y); cases q; exact PySem.W.kia_one PySem.W.kitx_float I.kIn True.intro e (fun z=>nomatch z) h
 | @lst a xs U=>
  cases (show u=Value.ref a from Y);obtain ⟨_,_,n,_,h1⟩:=(show ObjOk X.prog X.w H s.heap a (.lst xs) from I.hok a _ U);exact PySem.W.kia_one PySem.W.kitx_list I.kIn ⟨_,h1,rfl⟩ e (fun z=>nomatch z) h
 | @frz a ob xs U=>
  cases (show u=Value.ref a from Y);obtain ⟨_,_,_,n,_,h1⟩:=(show ObjOk X.prog X.w H s.heap a (.frz ob (.lst xs)) from I.hok a _ U);exact PySem.W.kia_one PySem.W.kitx_list I.kIn ⟨_,h1,rfl⟩ e (fun z=>nomatch z) h
 | @tup a xs U=>
  cases (show u=Value.ref a from Y);obtain ⟨_,_,_,p⟩:=(show ObjOk X.prog X.w H s.heap a (.tup xs) from I.hok a _ U);obtain ⟨o,h1,h2,_⟩:=p;exact PySem.W.kia_one PySem.W.kitx_tuple I.kIn ⟨o,h1,h2⟩ e (fun z=>nomatch z) h
 | @dK a Z U=>
  cases (show u=Value.ref a from Y);obtain ⟨_,_,vs,_,p⟩:=(show ObjOk X.prog X.w H s.heap a (.dK Z) from I.hok a _ U);obtain ⟨o,es,ep,h1,h2,_⟩:=p;exact PySem.W.kia_one PySem.W.kitx_dict I.kIn ⟨o,h1,h2.1⟩ e (fun z=>nomatch z) h
 | @dT a Z U=>
  cases (show u=Value.ref a from Y);obtain ⟨_,_,xs,_,o,es,ep,h1,h2,_⟩:=(show ObjOk X.prog X.w H s.heap a (.dT Z) from I.hok a _ U);exact PySem.W.kia_one PySem.W.kitx_dict I.kIn ⟨o,h1,h2.1⟩ e (fun z=>nomatch z) h
 | @ins a C dx fs U cl ha hn a1 hm=>
  cases (show u=Value.ref a from Y);obtain ⟨mA,O,_⟩:=Qm8 I.hok U;obtain ⟨od,J,_⟩:=O.look;exact PySem.W.kia_one (PySem.W.kitx_own (cl.get _) cl.hd ha hn a1 hm) I.kIn J e (fun z=>nomatch z) h
end
structure Room (k:Nat) (A:aM):Prop where
 hd:A.handled=none
 dp:A.depth + 3 * k + 5 < recursionLimit
 un:A.units + 16 * k + 200 < aP
theorem Room.mono {j:Nat} (r:Room k A) (h:j<=k):Room j A:=⟨r.hd,by have:=r.dp; omega,by have:=r.un; omega⟩
theorem Room.deeper (r:Room (k + 1) A) (env:Env):Room k (A.deeper env):=
 ⟨r.hd,by have:=r.dp; show A.depth + 1 + 3 * k + 5 < _; omega,by have:=r.un; show A.units + 3 + 16 * k + 200 < _; omega⟩
theorem Room.depth (r:Room k A):A.depth < recursionLimit:=by have:=r.dp; omega
theorem Room.units (r:Room k A):A.units + 64 < aP:=by have:=r.un; omega
def Qx0:TA:=fun _ H Q=>Q [] H
def Qt6 (ta:TE) (tr:TA):TA:=fun σ H Q=>ta σ H fun x H1=>tr σ H1 fun xs H2=>Q (x :: xs) H2
variable {es:List aH}
section
variable {e:aH} {t:TA} {pos:Pos}
theorem X4:PA X [] Qx0:=fun _ _ _ _ H Q I h=>Calls.spliced_nil ⟨[],H,I,.nil,h⟩
theorem Wp (ha:PE X e te) (J:PA X es t) (hs:aN (e :: es) X.env=(false,aO e X.env) :: aN es X.env:=by rfl):PA X (e :: es) (Qt6 te t):=by
 intro pos pins s σ H Q I h;rw [hs];show aF _ _ (spliced ((false,aO e X.env) :: aY pos (aN es X.env))) _ _ s;refine Calls.spliced_cons (thn (ha pins s σ H _ I h) fun u s1 ⟨x,H1,O,Z,z⟩=>?_)
 exact thn (J pos pins s1 σ H1 _ O z) fun us s2 ⟨xs,H2,U,q,Y⟩=>⟨x :: xs,H2,U,.cons Z q,Y⟩
def Qwu (t:TA):TE:=fun σ H Q=>t σ H fun xs H1=>xs.length<=sizeLine/\∀ p,H1 p=none->Q (.ref p) (upd H1 p (.tup xs))
def Qx1 (t:TA):TE:=fun σ H Q=>t σ H fun xs H1=>xs.length<=sizeLine/\∀ p,H1 p=none->Q (.ref p) (upd H1 p (.lst xs))
theorem Qq5 {x1} (h:PA X es t):PE X (.Tuple es x1 pos) (Qwu t):=by
 intro pins s σ H Q I O;refine wpAny_Tuple_spliced (thn (h pos pins s σ H _ I O) fun us s1 ⟨xs,H1,J,r,z,q⟩=>⟨by rw [<- r.length]; exact z,?_⟩)
 have U:H1 s1.heap.objs.size=none:=J.hok.fresh (O6 _);refine ⟨.ref s1.heap.objs.size,upd H1 s1.heap.objs.size (.tup xs),J.laid (t':=s1.toks) (fun b u e=>O3 _ e) (O6 _) ?_,rfl,q _ U⟩;exact ⟨z,us,r,⟨_,D8 _ rfl,rfl,_,rfl⟩⟩
theorem Qfq (h:PA X es t):PE X (.List es pos) (Qx1 t):=by
 intro pins s σ H Q I O;refine wpAny_List_spliced (thn (h pos pins s σ H _ I O) fun us s1 ⟨xs,H1,J,r,z,q⟩=>⟨by rw [<- r.length]; exact z,?_⟩)
 have U:H1 s1.heap.objs.size=none:=J.hok.fresh (O6 _);refine ⟨.ref s1.heap.objs.size,upd H1 s1.heap.objs.size (.lst xs),J.laid (t':=s1.toks) (fun b u e=>O3 _ e) (O6 _) ?_,rfl,q _ U⟩;exact ⟨z,us,0,r,D8 _ rfl⟩
end
abbrev Sp:=List V->Hp->VK->XK->Prop
abbrev CXT:=List Env->Hp->aC->XK->aA->aC->Prop
structure Env0 (P:aK) (w:aJ) (K:PySem.W.Frag) (mg:Str->Option aA) (base:Heap) (A:aM) (outer:List Env) (s:aC) (H:Hp):Prop where
 frames:A.frames=some outer
 mod:Mod K mg base
 bs:∀ b o,base.get? b=some o->s.heap.get? b=some o/\H b=none
 bsz:base.objs.size<=s.heap.objs.size
 funs:s.heap.FunFrames base outer
 frf:∀ b∈frs outer,H b=none
 hok:HOk P w H s.heap
 bare:AllBare s.gens
def CE (outer:List Env) (P:aK) (w:aJ) (H:Hp) (s:aC) (Q:VK) (u:aA) (s':aC):Prop:=
 ∃ v H',s'.os=s.os/\AllBare s'.gens/\Un (frs outer) [] H H' s.heap s'.heap/\HOk P w H' s'.heap/\RelV v u/\Q v H'
def CR (CX:CXT) (outer:List Env) (P:aK) (w:aJ) (H:Hp) (s:aC) (Q:VK) (E:XK) (r:Result) (s':aC):Prop:=
 match r with
 | .ok (.ret u)=>CE outer P w H s Q u s'
 | .ok _=>False
 | .error e=>CX outer H s E e s'
structure FnOk (P:aK) (w:aJ) (K:PySem.W.Frag) (mg:Str->Option aA) (base:Heap) (CX:CXT) (k:Nat) (f:aB) (fd:aQ) (ps:List Str) (sp:Sp):Prop where
 len:∀ vs H Q E,sp vs H Q E->vs.length=ps.length
 run:∀ (A:aM) (outer:List Env) (s:aC) (H:Hp) (args:Args) (us:List aA) (vs:List V) (Q:VK) (E:XK),Room k A->Env0 P w K mg base A outer s H->BindsTo s fd args (ps.zip us)->Vals vs us->sp vs H Q E ->
  codeAny (aI P w) A (.call (.ref f) args) (CR CX outer P w H s Q E) s
theorem FnOk.imp {w:aJ} {base:Heap} {CX:CXT} {f:aB} {sp z:Sp} (F:FnOk P w K mg base CX k f fd ps sp)
  (h:∀ vs H Q E,z vs H Q E->sp vs H Q E):FnOk P w K mg base CX k f fd ps z:=
 ⟨fun vs H Q E q=>F.len vs H Q E (h _ _ _ _ q),fun A outer s H args us vs Q E O J U I hs=>F.run A outer s H args us vs Q E O J U I (h _ _ _ _ hs)⟩
variable {s':aC}
section
variable {σ:St}
theorem Inv.env0 (I:Inv X pins σ H s):Env0 X.prog X.w X.K X.mg X.base X.A X.stack s H:=
 ⟨I.ok.frames,I.ok.mod,I.bs,E6 I.ok.bsz I.sz,I.stack,I.stkFree,I.hok,I.bare⟩
theorem Inv.after {Q:VK} {u:aA} (I:Inv X pins σ H s) (h:CE X.stack X.prog X.w H s Q u s'):EP X pins σ Q u s':=by
 obtain ⟨v,H',os,bare,un,hok,r,q⟩:=h;obtain ⟨O,g,d,t,J⟩:=s';obtain rfl:J=s.os:=os;exact ⟨v,H',I.call (h':=O) (g':=g) (d':=d) (t':=t) (ch:=[]) un hok bare (fun b z=>absurd z (by simp)),r,q⟩
end
def Qt7 (sp:Sp) (dvs:List V) (E:XK) (t:TA):TE:=fun σ H Q=>t σ H fun vs H1=>sp (vs ++ dvs) H1 Q E
def Binds (K:PySem.W.Frag) (fd:aQ) (ps:List Str) (ds:List aA):Prop:=
 ∀ (s:aC) (us:List aA),K.In s.heap->(us ++ ds).length=ps.length->BindsTo s fd ⟨us,[]⟩ (ps.zip (us ++ ds))
theorem Binds.all (h:∀ us:List aA,us.length=ps.length->bindArgs fd ⟨us,[]⟩=pure (ps.zip us)):Binds K fd ps []:=fun s us _ q=>by
 rw [L0] at q ⊢;exact .of_eq (h us q)
def Q2q (CX:CXT) (X:Cx) (E:XK):Prop:=∀ (pins:List (aB × Obj)) (σ:St) (H:Hp) (s:aC) (e:aA) (s':aC),Inv X pins σ H s->CX X.stack H s E e s'->X.xe e s'
variable {CX:CXT} {k:Nat} {f:aB} {fd:aQ} {ps:List Str} {sp:Sp} {dvs:List V} {ds:List aA} {m:Str} {p apos:Pos}
section
variable {E:XK} {x:Str} {pos:Pos} {e o:aH} {t:TA}
theorem Qpq {pins:List (aB × Obj)} {σ:St} {H:Hp} {s:aC} {Q:VK} {us:List aA} {vs:List V} (F:FnOk X.prog X.w X.K X.mg X.base CX k f fd ps sp) (J:Room k X.A) (Y:Binds X.K fd ps ds) (hd:Vals dvs ds) (O:Q2q CX X E)
  (I:Inv X pins σ H s) (r:Vals vs us) (h:sp (vs ++ dvs) H Q E):aF (aI X.prog X.w) X.A (call (.ref f) us) (EP X pins σ Q) X.xe s:=by
 have z:Vals (vs ++ dvs) (us ++ ds):=r.append hd;have U:(us ++ ds).length=ps.length:=by rw [<- z.length]; exact F.len _ _ _ _ h
 refine wpAny_call (bR (F.run X.A X.stack s H ⟨us,[]⟩ (us ++ ds) (vs ++ dvs) Q E J I.env0 (Y s us I.kIn U) z h) fun r s' q=>?_)
 cases r with
 | error e=>exact O pins σ H s e s' I q
 | ok fl=>
  cases fl with
  | ret u=>exact I.after q
  | next=>exact False.elim q
  | brk=>exact False.elim q
  | cont=>exact False.elim q
theorem Qk9 (F:FnOk X.prog X.w X.K X.mg X.base CX k f fd ps sp) (Y:Room k X.A) (hg:Gl X x) (hm:X.mg x=some (.ref f)) (hk:PySem.W.keepIn X.K (.ref f)=true) (hb:Binds X.K fd ps ds) (hd:Vals dvs ds) (hx:Q2q CX X E)
  (Z:PA X (e :: es) t) (z:(x == ("__debug__" : Str))=false:=by decide) (U:aN (e :: es) X.env=(false,aO e X.env) :: aN es X.env:=by rfl) (J:(aY pos (aN es X.env)).any (·.1)=false:=by rfl) :
  PE X (.Call (.Name x p) (e :: es) [] pos) (Qt7 sp dvs E t):=by
 intro pins s σ H Q I h;refine wpAny_Call_Name_kw (Q56 I hg hm ?_ z);refine PySem.W.callWith_K (h₀:=X.base) I.ok.mod.kin hk (thn (Z pos pins s σ H _ I h) fun us s1 ⟨vs,H1,O,r,q⟩=>⟨O.kIn,?_⟩) U J
 exact Qpq F Y hb hd hx O r q
end
structure FnScope (N P:List Str) (sc:Scope):Prop where
 kind:sc.kind=.function
 co:sc.isCoroutine=false
 gen:sc.isGenerator=false
 nd:N.Nodup
 pre:N.take P.length=P
 par:∀ x∈P,sc.names.lookup x=some .local\/sc.names.lookup x=some .cell
 nofree:∀ y∈sc.names,y.2≠.free
theorem Q3y {kindOf:Str->Option au} {x:Str}:∀ {binds:List (Str × aA)} {m:Str->Option aA},(∀ v,(x,v)∉binds)->bindL kindOf binds m x=m x
 | [],_,_=>rfl
 | (n,v) :: r,m,h=>by
  unfold bindL;rw [Q3y fun w q=>h w (O4 _ q)]
  split
  ·have:x≠n:=by rintro rfl; exact h v E7
   simp [this]
  ·rfl
theorem Q40 {kindOf:Str->Option au} {x:Str}:∀ {binds:List (Str × aA)} {m:Str->Option aA},(∀ v,(x,v)∉binds)->bindC kindOf binds m x=m x
 | [],_,_=>rfl
 | (n,v) :: r,m,h=>by
  unfold bindC;rw [Q40 fun w q=>h w (O4 _ q)]
  split
  ·rfl
  ·have:x≠n:=by rintro rfl; exact h v E7
   simp [this]
theorem Q3z {kindOf:Str->Option au} {x:Str} {v:aA}:∀ {P:List Str} {vs:List aA} {i:Nat} {m:Str->Option aA},P.Nodup->P[i]?=some x->vs[i]?=some v->kindOf x=some .local ->
  bindL kindOf (P.zip vs) m x=some v
 | [],_,_,_,_,h,_,_=>by simp at h
 | _ :: _,[],_,_,_,_,h,_=>by simp at h
 | p :: P,w :: vs,0,m,nd,h1,h2,q=>by
  simp at h1 h2; subst h1; subst h2;show bindL kindOf ((p,w) :: P.zip vs) m p=_;unfold bindL;rw [Q3y fun v z=>(List.nodup_cons.mp nd).1 (List.of_mem_zip z).1,bT q]
  simp
 | p :: P,w :: vs,i + 1,m,nd,h1,h2,q=>by
  show bindL kindOf ((p,w) :: P.zip vs) m x=_;unfold bindL;exact Q3z (i:=i) (List.nodup_cons.mp nd).2 (by simpa using h1) (by simpa using h2) q
theorem Q41 {kindOf:Str->Option au} {x:Str} {v:aA}:∀ {P:List Str} {vs:List aA} {i:Nat} {m:Str->Option aA},P.Nodup->P[i]?=some x->vs[i]?=some v->kindOf x≠some .local ->
  bindC kindOf (P.zip vs) m x=some v
 | [],_,_,_,_,h,_,_=>by simp at h
 | _ :: _,[],_,_,_,_,h,_=>by simp at h
 | p :: P,w :: vs,0,m,nd,h1,h2,q=>by
  simp at h1 h2; subst h1; subst h2;show bindC kindOf ((p,w) :: P.zip vs) m p=_;unfold bindC;rw [Q40 fun v z=>(List.nodup_cons.mp nd).1 (List.of_mem_zip z).1,bU q]
  simp
 | p :: P,w :: vs,i + 1,m,nd,h1,h2,q=>by
  show bindC kindOf ((p,w) :: P.zip vs) m x=_;unfold bindC;exact Q41 (i:=i) (List.nodup_cons.mp nd).2 (by simpa using h1) (by simpa using h2) q
def start (N:List Str) (vs:List V):St:=vs.map some ++ List.replicate (N.length - vs.length) none
def Qdc (CX:CXT) (P:aK) (w:aJ) (K:PySem.W.Frag) (mg:Str->Option aA) (base:Heap) (N:List Str) (qual:Str) (scope:Scope) (f:aB) (cd:aA) (A:aM) (outer:List Env) (s:aC) (H:Hp) (E:XK):Cx where
 prog:=P
 w:=w
 K:=K
 mg:=mg
 base:=base
 A:=A.deeper (envOfC qual scope s.heap.objs.size f cd)
 N:=N
 s₀:=s
 H₀:=H
 env:=envOfC qual scope s.heap.objs.size f cd
 outer:=outer
 stack:=envOfC qual scope s.heap.objs.size f cd :: outer
 ex:=[]
 calm:=true
 fn:=fun _=>true
 pn:=[]
 xe:=fun e s'=>aF (aI P w) (A.deeper (envOfC qual scope s.heap.objs.size f cd)) (leaving (envOfC qual scope s.heap.objs.size f cd) e) (fun _ s''=>CX outer H s E e s'') (fun e' s''=>CX outer H s E e' s'') s'
theorem Q7w {sc:Scope} {x:Str} (h:sc.names.lookup x=some .cell):∃ c,(ao n sc.names []).lookup x=some c:=by
 have q:=PySem.W.cellsFrom_some sc.names n [] (.inl h);exact Option.isSome_iff_exists.mp q
theorem Qd4 {CX:CXT} {P:aK} {w:aJ} {K:PySem.W.Frag} {mg:Str->Option aA} {base:Heap} {N ps:List Str} {qual:Str} {scope:Scope} {f:aB} {cd:aA} {A:aM} {outer:List Env} {s s1:aC} {H:Hp} {E:XK} {us:List aA} {vs:List V}
  (S:FnScope N ps scope) (hd:A.handled=none) (I:Env0 P w K mg base A outer s H) (hl:vs.length=ps.length) (r:Vals vs us)
  (x:InCallC s s.heap.objs.size (bindL (envOfC qual scope s.heap.objs.size f cd).kindOf (ps.zip us) fun _=>none) (ao (s.heap.objs.size + 1) scope.names []) (bindC (envOfC qual scope s.heap.objs.size f cd).kindOf (ps.zip us) fun _=>none) s1) :
  Inv (Qdc CX P w K mg base N qual scope f cd A outer s H E) [] (start N vs) H s1:=by
 have a1:ps.length<=N.length:=by have:=congrArg List.length S.pre; rw [L7] at this; omega
 obtain ⟨h1,tk,rfl,Z⟩:=x.done;have J:∀ b:aB,b∉(Qdc CX P w K mg base N qual scope f cd A outer s H E).ex:=fun b z=>absurd (show b∈([]:List aB) from z) (by simp)
 refine ⟨⟨I.mod,S.kind,rfl,rfl,O6 _,fun y z c h1 h2=>?_,fun y O=>?_,fun y c _ h=>?_,fun _=>hd,Around.frames_deeper I.frames,.inr ⟨rfl,rfl⟩,fun b z=>absurd z (J b),I.bs,I.bsz,fun b _ _=>J b,fun b z=>absurd z (J b),I.funs,I.frf⟩,
  rfl,I.bare,Un.kept Z,⟨_,x.toInCall.ns,fun i y v h1 h2 h3=>?_⟩,fun y c h=>⟨_,x.cell y c h⟩,I.hok.fresh (O6 _),fun y c h=>?_,fun p U=>absurd (show p∈([]:List (aB × Obj)) from U) (by simp),I.hok.kept Z,?_⟩
 ·exact name_of_addr x.apart (PySem.mem_of_lookup h1) (PySem.mem_of_lookup h2)
 ·have O:scope.names.lookup y=some .cell\/scope.names.lookup y=some .free:=O;rcases O with O | O
  ·exact Q7w O
  ·exact absurd rfl (S.nofree _ (PySem.mem_of_lookup O))
 ·exact Nat.le_of_lt (x.above y c (PySem.mem_of_lookup h))
 ·have hi:i < vs.length:=by
   unfold start at h2
   by_cases hi:i < vs.length
   ·exact hi
   ·rw [D9 (by simpa using hi)] at h2;rw [List.getElem?_replicate] at h2
    split at h2 <;> cases h2
  have ha:vs[i]?=some v:=by
   unfold start at h2;rw [O7 (by simpa using hi),E2] at h2;cases e:vs[i]? with
   | none=>rw [e] at h2; cases h2
   | some a=>rw [e] at h2; cases h2; rfl
  obtain ⟨u,hu,rv⟩:=r.get ha;have U:ps[i]?=some y:=by
   rw [<- S.pre,List.getElem?_take_of_lt (by omega)]; exact h1
  have Y:ps.Nodup:=by rw [<- S.pre]; exact S.nd.sublist (List.take_sublist _ _)
  refine ⟨u,rv,?_⟩;rcases S.par y (E3 U) with k | k
  ·exact .inl ⟨k,Q3z Y U hu k⟩
  ·obtain ⟨c,e⟩:=Q7w (n:=s.heap.objs.size + 1) k;refine .inr ⟨.inl k,c,e,?_⟩;have q:=x.cell y c e;rw [Q41 Y U hu (by show scope.names.lookup y≠_; rw [k]; decide)] at q;exact q
 ·exact I.hok.fresh (Nat.le_of_lt (x.above y c (PySem.mem_of_lookup h)))
 ·unfold start;show _=N.length;rw [O5,O1,List.length_replicate];omega
theorem Qvd {CX:CXT} {P:aK} {w:aJ} {K:PySem.W.Frag} {mg:Str->Option aA} {base:Heap} {k:Nat} {f:aB} {name qual:Str} {O:Arguments} {body:List aL} {scope:Scope} {dV kV a2 pm z ct oc:aA} {an od:Option aB}
  {a3:Array (Option aA)} {N ps:List Str} {sp:Sp} (lk:K.lookup f=some ⟨oc,od,.func (PySem.W.fnOf name qual O body scope dV kV a2 pm an z ct),a3⟩) (a4:PySem.W.codeIn K z qual=true) (S:FnScope N ps scope)
  (len:∀ vs H Q E,sp vs H Q E->vs.length=ps.length)
  (Y:∀ (A:aM) (outer:List Env) (s:aC) (H:Hp) (vs:List V) (Q:VK) (E:XK),Room k (A.deeper (envOfC qual scope s.heap.objs.size f z))->sp vs H Q E ->
   ∃ t,PSs (Qdc CX P w K mg base N qual scope f z A outer s H E) body t/\t { nx:=fun _ H'=>Q .non H',rt:=Q } (start N vs) H) :
  FnOk P w K mg base CX (k + 1) f (PySem.W.fnOf name qual O body scope dV kV a2 pm an z ct) ps sp:=by
 refine ⟨len,fun A outer s H args us vs Q E hr e0 hb r a1=>?_⟩;have hl:=len _ _ _ _ a1;have KX:K.In s.heap:=e0.mod.kin.keeps fun b o e=>(e0.bs b o e).1
 have lim:s.heap.NoLimit:=e0.mod.nolimit.keeps fun b o e=>(e0.bs b o e).1
 have Z:∀ y∈ps.zip us,scope.names.lookup y.1=some .local\/(scope.names.lookup y.1=some .cell/\((ao (s.heap.objs.size + 1) scope.names []).lookup y.1).isSome=true):=fun ⟨n,v⟩ hy=>by
  rcases S.par n (List.of_mem_zip hy).1 with q | q
  ·exact .inl q
  ·exact .inr ⟨q,PySem.W.cellsFrom_some _ _ _ (.inl q)⟩
 refine codeAny_call_function hr.depth (KX _ _ lk) rfl S.co S.gen rfl (PySem.W.codeRec_of KX a4) (hb _ _ _ _ ?_);refine wpAny_newFunctionEnv_cells S.kind Z fun env he s1 x=>?_
 subst he;refine ⟨lim.keeps x.toInCall.keep,codeAny_func ?_⟩;obtain ⟨t,ht,hq⟩:=Y A outer s H vs Q E (hr.deeper _) a1;have I:Inv (Qdc CX P w K mg base N qual scope f z A outer s H E) [] (start N vs) H s1:=Qd4 S hr.hd e0 hl r x;refine aq (ht [] s1 (start N vs) H _ I hq) (fun fl s' hs=>?_) fun e s' hs=>hs
 have fin:∀ {U:St} {H':Hp} {v:V} {u:aA},Inv (Qdc CX P w K mg base N qual scope f z A outer s H E) [] U H' s'->RelV v u->Q v H'->CE outer P w H s Q u s':=
  fun {U H' v u} J rv q=>⟨v,H',J.os,J.bare,J.base,J.hok,rv,q⟩
 cases fl with
 | ret u=>
  obtain ⟨v,U,H',J,rv,q⟩:=hs;exact fin J rv q
 | next=>
  obtain ⟨U,H',J,q⟩:=hs;exact fin (v:=V.non) (u:=Value.none) J rfl q
 | brk=>
  obtain ⟨_,_,_,q⟩:=hs;exact False.elim q
 | cont=>
  obtain ⟨_,_,_,q⟩:=hs;exact False.elim q
variable {T:String} {r:List V->Hp->VK->Prop}
section
variable {x:Str} {pos:Pos} {e:aH} {t:TA} {id:String}
def tCB (r:List V->Hp->VK->Prop) (t:TA):TE:=fun σ H Q=>t σ H fun vs H1=>r vs H1 Q
theorem jk (Z:W6 X (.builtin id) r) (hg:Gl X x) (hm:X.mg x=none) (O:aX x=some (.builtin id)) (ha:PA X (e :: es) t) (J:x≠"__name__" := by decide) (q:(x == ("__debug__" : Str))=false:=by decide)
  (Y:aN (e :: es) X.env=(false,aO e X.env) :: aN es X.env:=by rfl) (z:(aY pos (aN es X.env)).any (·.1)=false:=by rfl):PE X (.Call (.Name x p) (e :: es) [] pos) (tCB r t):=by
 intro pins s σ H Q I h;refine wpAny_Call_Name_kw (j4 I hg hm O ?_ J q);exact PyProof.Rows.callWith_builtin1 (thn (ha pos pins s σ H _ I h) fun us s1 ⟨vs,H1,I1,r1,U⟩=>Z pins s1 σ H1 vs us Q I1 r1 U) Y z
theorem Ks (Z:W6 X (.type T) r) (hg:Gl X x) (hm:X.mg x=none) (O:aX x=some (.type T)) (ha:PA X (e :: es) t) (J:x≠"__name__" := by decide) (q:(x == ("__debug__" : Str))=false:=by decide)
  (Y:aN (e :: es) X.env=(false,aO e X.env) :: aN es X.env:=by rfl) (z:(aY pos (aN es X.env)).any (·.1)=false:=by rfl):PE X (.Call (.Name x p) (e :: es) [] pos) (tCB r t):=by
 intro pins s σ H Q I h;refine wpAny_Call_Name_kw (j4 I hg hm O ?_ J q);exact PyProof.Rows.callWith_type1 (thn (ha pos pins s σ H _ I h) fun us s1 ⟨vs,H1,I1,r1,U⟩=>Z pins s1 σ H1 vs us Q I1 r1 U) Y z
end
end L2
namespace HT
open PySem PyProof.Rows
def lexLt:List Int->List Int->Bool
 | [],[]=>false
 | [],_ :: _=>true
 | _ :: _,[]=>false
 | x :: xs,y :: ys=>if x=y then lexLt xs ys else decide (x < y)
theorem Q97 (x y:Int) (xs ys:List Int):lexLt (x :: xs) (y :: ys)=if x=y then lexLt xs ys else decide (x < y):=rfl
theorem Q30:lexLt [] []=false:=rfl
theorem Q21 (y:Int) (ys:List Int):lexLt [] (y :: ys)=true:=rfl
theorem Q22 (x:Int) (xs:List Int):lexLt (x :: xs) []=false:=rfl
theorem Qhn (A:aM) (s:aC) (a:Int) (t:Tok) (c:Int) (u:Tok):∃ e,SeqAt.EqAt A s (.int a t) (.int c u) e/\(e=true <-> a=c):=
 ⟨(a == c),SeqAt.EqAt.int_int a t c u,by simp⟩
theorem Qez (A:aM) (s:aC) (a:Int) (t:Tok) (c:Int) (u:Tok) (prog:aK) (w:aJ) (E:aA->aC->Prop) (Q:aA->aC->Prop) (h:Q (.bool (decide (a < c))) s) :
  aF (aI prog w) A (richCompare .Lt (.int a t) (.int c u)) Q E s:=
 (PyProof.Rows.lt_int h:aF (aI prog w) A (aS .Lt (.int a t) (.int c u)) Q E s)
section
open PySem.SeqAt
open PySem.AutoSeq1 (wpAny_loadPart')
open PySem.MeetsSeq PySem.MeetsSeq2 PySem.MeetsSeq3
theorem Q2u (l b:aB) (I z:Array aA) (n n2:Nat) (dd b0:Option aB) (sl a8:Array (Option aA)) (ns ms:List Int) (hi:IntsAre I.toList ns) (hj:IntsAre z.toList ms) :
  Meets (Builtin.«tuple.__lt__» ⟨[.ref l,.ref b],[]⟩)
   (fun _ R s=>s.heap.get? l=some { cls:=.type "tuple",dict:=dd,data:=.seq I n,slots:=sl }/\s.heap.get? b=some { cls:=.type "tuple",dict:=b0,data:=.seq z n2,slots:=a8 } /\
    R (.ok (.ret (.bool (lexLt ns ms)))) s):=
 .of_wp fun prog w A R s h=>by
  obtain ⟨hp,g,d,tk,os⟩:=s; obtain ⟨hl,hb,h⟩:=h;have f2:=AutoSeq1.sub_tuple_tuple;have z1:I.size=ns.length:=by rw [<- hi.length]; simp
  have z2:z.size=ms.length:=by rw [<- hj.length]; simp
  wp_walk using wpAny_loadPart' hl,wpAny_loadPart' hb,wpAny_forIn_list _ (fun rest b s'=>b.1=none/\s'=⟨hp,g,d,tk,os⟩/\∃ (vs ws:List aA) (U O:List Int),rest=vs.zip ws /\
   IntsAre vs U/\IntsAre ws O/\U.length + z.size=O.length + I.size/\R (.ok (.ret (.bool (lexLt U O)))) ⟨hp,g,d,tk,os⟩) _
  case turn=>
   rintro ⟨y,x⟩ rest b s' ⟨a3,rfl,vs,ws,U,O,hz,a2,Y,J,Z⟩;cases a2 with
   | nil=>rw [List.zip_nil_left] at hz; cases hz
   | cons a t a5=>
    cases Y with
    | nil=>rw [List.zip_nil_right] at hz; cases hz
    | cons c u a6=>
     rw [List.zip_cons_cons] at hz;injection hz with a9 a4
     injection a9 with hy hx
     subst hy hx;rw [Q97] at Z;simp only [O9] at J;obtain ⟨e,he,a1⟩:=Qhn A.in1 ⟨hp,g,d,tk,os⟩ a t c u;refine aD (he prog w _ _ ?_);cases e with
     | true=>
      rw [bT (a1.mp rfl)] at Z
      wp_walk
      exact ⟨rfl,rfl,_,_,_,_,a4,a5,a6,by omega,Z⟩
     | false=>
      rw [bU (fun q=>absurd (a1.mpr q) D4)] at Z
      have a7:=Qez A.in1 ⟨hp,g,d,tk,os⟩ a t c u prog w
      wp_walk using a7
      exact ⟨_,rfl,by simpa using Z⟩
  case fin=>
   rintro ⟨b1,b2⟩ s' ⟨a3,rfl,vs,ws,U,O,hz,a2,Y,J,Z⟩;simp only at a3;subst a3;have hv:lexLt U O=decide (I.size < z.size):=by
    cases a2 with
    | nil=>
     cases Y with
     | nil=>
      simp only [List.length_nil] at J;rw [Q30];exact (bV (by omega)).symm
     | cons c u hw=>
      simp only [List.length_nil,O9] at J;rw [Q21];exact (bW (by omega)).symm
    | cons a t hv=>
     cases Y with
     | nil=>
      simp only [List.length_nil,O9] at J;rw [Q22];exact (bV (by omega)).symm
     | cons c u hw=>
      rw [List.zip_cons_cons] at hz;cases hz
   rw [hv] at Z
   wp_walk
   exact ⟨_,rfl,by simpa [Builtin.Tuple.tupleCompareSizes] using Z⟩
  case h=>
   exact ⟨rfl,rfl,I.toList,z.toList,ns,ms,rfl,hi,hj,by omega,h⟩
end
variable {prog:aK} {A:aM} {E:aA->aC->Prop} {s:aC}
section
variable {w:aJ}
theorem lt_tupInts {l b:aB} {z q:Array aA} {ns ms:List Int} {Q:aA->aC->Prop} (hl:IsTup s.heap l z) (U:IsTup s.heap b q) (hi:IntsAre z.toList ns) (Y:IntsAre q.toList ms)
  (Z:A.units < aP) (h:Q (.bool (lexLt ns ms)) s):aF (aI prog w) A (aS .Lt (.ref l) (.ref b)) Q E s:=by
 obtain ⟨⟨cls,dd,data,sl⟩,ho,hc,n,hd⟩:=id hl;obtain ⟨⟨O,I,data2,J⟩,ho2,hc2,n2,hd2⟩:=id U;simp only at hc hd hc2 hd2;subst hc hd hc2 hd2;exact richCompare_meets_room (op:=.Lt) ⟨_,ho,rfl⟩ ⟨_,ho2,rfl⟩ PySem.F.slot_tuple_lt PySem.F.entry_tuple_lt (PySem.F.args_tuple_lt_2 _ _) (Q2u l b z q n n2 dd I sl J ns ms hi Y)
  ⟨ho,ho2,show Value.bool (lexLt ns ms)≠Value.notImplemented/\Q (.bool (lexLt ns ms)) s from ⟨(fun x=>nomatch x),h⟩⟩ Z
theorem cat_tup {t b:aB} {vs ws:List aA} {Q:aA->aC->Prop} (Y:IsTup s.heap t vs.toArray) (Z:IsTup s.heap b ws.toArray) (J:vs≠[])
  (h1:ws=[]->Q (.ref t) s) (h2:ws≠[]->Q (.ref s.heap.objs.size) { s with heap:=s.heap.push { cls:=.type "tuple",data:=.seq (vs ++ ws).toArray } })
  (hsz:vs.length + ws.length<=sizeLine):aF (aI prog w) A (aZ .Add (.ref t) (.ref b)) Q E s:=by
 obtain ⟨⟨cls,dd,data,U⟩,ho,hc,n,hd⟩:=id Y;obtain ⟨⟨O,q,data2,z⟩,ho2,hc2,n2,hd2⟩:=id Z;simp only at hc hd hc2 hd2;subst hc hd hc2 hd2;have e:vs.toArray ++ ws.toArray=(vs ++ ws).toArray:=by simp
 by_cases I:ws=[]
 ·exact concat_meets ⟨_,ho,rfl⟩ ⟨_,ho2,rfl⟩ noFill_tuple_add seq_tuple_add PySem.F.slot_tuple_add PySem.F.entry_tuple_add (PySem.F.args_tuple_add_2 _ _)
   (tuple_addW1 t b vs.toArray ws.toArray n n2 dd q U z (by simpa using J) (by simp [I])) ⟨ho,ho2,h1 I⟩
 ·refine concat_meets ⟨_,ho,rfl⟩ ⟨_,ho2,rfl⟩ noFill_tuple_add seq_tuple_add PySem.F.slot_tuple_add PySem.F.entry_tuple_add (PySem.F.args_tuple_add_2 _ _)
   (tuple_addW2 t b vs.toArray ws.toArray n n2 dd q U z (by simpa using J) (by simpa using I) (by rw [O8,O8]; exact hsz)) ⟨ho,ho2,?_⟩
  rw [e];exact h2 I
def sIx (n d:Nat):Option Int->Nat
 | none=>d
 | some v=>if v < 0 then (v + (n:Int)).toNat else min v.toNat n
theorem sIx_none (n d:Nat):sIx n d none=d:=rfl
theorem sIx_nat (n d k:Nat):sIx n d (some (k:Int))=min k n:=by
 show (if (k:Int) < 0 then ((k:Int) + (n:Int)).toNat else min (k:Int).toNat n)=min k n;rw [bU (by omega),Int.toNat_natCast]
theorem Qpp (n d:Nat) (hd:d<=n) (o:Option Int):sIx n d o<=n:=by
 cases o with
 | none=>exact hd
 | some v=>
  show (if v < 0 then (v + (n:Int)).toNat else min v.toNat n)<=n
  by_cases q:v < 0
  ·rw [bT q]; omega
  ·rw [bU q]; exact Nat.min_le_right _ _
theorem Qbc (v:Int) (n d:Nat):(if v < 0 then max (v + (n:Int)) 0 else min v (n:Int))=((sIx n d (some v):Nat):Int):=by
 show (if v < 0 then max (v + (n:Int)) 0 else min v (n:Int))=(((if v < 0 then (v + (n:Int)).toNat else min v.toNat n):Nat):Int)
 by_cases q:v < 0
 ·simp only [bT q]; omega
 ·simp only [bU q]; omega
theorem Q9y (lo hi:Option Int) (n:Nat):Builtin.Slice.sliceAdjust lo hi 1 (n:Int)=(((sIx n 0 lo:Nat):Int),((sIx n n hi:Nat):Int)):=by
 have h1:¬ ((1:Int) < 0):=by omega
 unfold Builtin.Slice.sliceAdjust;simp only [h1,if_false];refine Prod.ext ?_ ?_
 ·cases lo with
  | none=>rfl
  | some v=>exact Qbc v n 0
 ·cases hi with
  | none=>rfl
  | some v=>exact Qbc v n n
theorem Q8s (i j:Nat):Builtin.Slice.slicePlaces (i:Int) (j:Int) 1=j - i:=by
 unfold Builtin.Slice.slicePlaces;have h1:(1:Int) > 0:=by omega
 simp only [h1,if_true,Int.ediv_one]
 split <;> omega
theorem Q13 {v:aA} {o:Option Int} {Q:Option Int->aC->Prop} (p:IsPart v o) (h:Q o s):aF (aI prog w) A (Builtin.Slice.slicePartIndex v) Q E s:=by
 cases p with
 | none=>exact slicePart_none h
 | int i t=>exact slicePart_int h
theorem Up {O:aB} {J I:aA} {lo hi:Option Int} {n:Nat} {Q:Int × Int × Nat->aC->Prop} (hs:s.heap.IsSliceOf O J I .none) (Z:IsPart J lo) (Y:IsPart I hi)
  (h:Q (((sIx n 0 lo:Nat):Int),1,sIx n n hi - sIx n 0 lo) s):aF (aI prog w) A (Builtin.Slice.sliceApplied (.ref O) (pure (n:Int))) Q E s:=by
 obtain ⟨os,q,U,z⟩:=id hs;unfold Builtin.Slice.sliceApplied Builtin.Slice.sliceFields;refine aD (aD (ay q z (x:=J) rfl (aD (ay q z (x:=I) rfl (aD (ay q z (x:=.none) rfl (wpAny_pure ?_)))))));refine aD (slicePart_none ?_);show aF _ _ (if ((1:Int) == 0)=true then _ else _) _ _ s;rw [bU (by decide)];refine aD (Q13 Z (aD (Q13 Y (aD (wpAny_pure ?_)))));show aF _ _ (match Builtin.Slice.sliceAdjust lo hi 1 (n:Int) with | (lo,hi)=>pure (lo,(1:Int),Builtin.Slice.slicePlaces lo hi 1)) _ _ s
 rw [Q9y lo hi n];show aF _ _ (pure (((sIx n 0 lo:Nat):Int),(1:Int),Builtin.Slice.slicePlaces ((sIx n 0 lo:Nat):Int) ((sIx n n hi:Nat):Int) 1)) _ _ s;rw [Q8s];exact wpAny_pure h
theorem Qfj (xs:Array aA) (i k:Nat):((List.range k).filterMap fun (m:Nat)=>xs[((i:Int) + (m:Int) * 1).toNat]?).toArray=((xs.toList.drop i).take k).toArray:=by
 have e:(fun (m:Nat)=>xs[((i:Int) + (m:Int) * 1).toNat]?)=fun m=>xs[i + m]?:=by
  funext m;have:((i:Int) + (m:Int) * 1).toNat=i + m:=by omega
  rw [this]
 rw [e];have:=pick_run xs i k;rw [List.filterMap_map] at this;have q:((fun x=>xs[x]?) ∘ fun x=>i + x)=fun m=>xs[i + m]?:=rfl
 rw [q] at this;rw [this]
theorem getItem_tuple_cut {t Z:aB} {z:Array aA} {vl vu:aA} {lo hi:Option Int} {Q:aA->aC->Prop} (J:IsTup s.heap t z) (hs:s.heap.IsSliceOf Z vl vu .none) (pl:IsPart vl lo) (pu:IsPart vu hi)
  (hw:¬ (sIx z.size 0 lo=0/\sIx z.size z.size hi=z.size))
  (h:Q (.ref s.heap.objs.size) { s with heap:=s.heap.push { cls:=.type "tuple",data:=.seq ((z.toList.drop (sIx z.size 0 lo)).take (sIx z.size z.size hi - sIx z.size 0 lo)).toArray } })
  (hsz:z.size<=sizeLine):aF (aI prog w) A (getItem (.ref t) (.ref Z)) Q E s:=by
 have I:sizeOk (.seq ((z.toList.drop (sIx z.size 0 lo)).take (sIx z.size z.size hi - sIx z.size 0 lo)).toArray):=by
  show ((z.toList.drop (sIx z.size 0 lo)).take (sIx z.size z.size hi - sIx z.size 0 lo)).toArray.size<=sizeLine;rw [O8,L7,List.length_drop,Array.length_toList];omega
 have hj:sIx z.size z.size hi<=z.size:=Qpp _ _ (O6 _) hi;obtain ⟨os,a1,U,a2⟩:=id hs;have O:s.TypeIs (.ref Z) "slice" := ⟨os,a1,U⟩;unfold getItem
 try with_reducible refine ae ?_
 first | refine aD (wpAny_pure ?_) | skip
 refine aD (wpAny_sequenceKey J.typeIs (by decide) ?_);refine aD (wpAny_callSpecial?_slot (name:=Str.ofString "__getitem__") J.typeIs PyProof.Rows.slot_tuple_getitem
  (ag PyProof.Rows.slot_tuple_getitem J.typeIs entry_tuple_getitem ?_ (args_tuple_getitem _ _)))
 show aF _ _ (Builtin.Tuple.tupleItemsOf (.ref t) >>= _) _ _ s;refine aD (tupleItemsOf_ J ?_);refine aD (bD O ?_);rw [bT (by decide)];refine aD (Up hs pl pu ?_);have Y:¬ ((((sIx z.size 0 lo:Nat):Int) == 0 && (1:Int) == 1 && (sIx z.size z.size hi - sIx z.size 0 lo) == z.size)=true):=by
  intro q;rw [E9,E9] at q;have q1:((sIx z.size 0 lo:Nat):Int)=0:=eq_of_beq q.1.1;have q2:sIx z.size z.size hi - sIx z.size 0 lo=z.size:=eq_of_beq q.2;exact hw ⟨by omega,by omega⟩
 show aF _ _ (if (((sIx z.size 0 lo:Nat):Int) == 0 && (1:Int) == 1 && (sIx z.size z.size hi - sIx z.size 0 lo) == z.size)=true then _ else _) _ _ s;rw [bU Y,Qfj]
 first
  | exact aD (m:=Builtin.Tuple.tupleExact _) (av (wpAny_pure ⟨_,rfl,wpAny_pure h⟩) I)
  | exact aD (m:=Builtin.Tuple.tupleExact _) (av (aD (wpAny_pure (wpAny_pure ⟨_,rfl,wpAny_pure h⟩))) I)
  | exact aD (aD (m:=Builtin.Tuple.tupleExact _) (av (wpAny_pure (wpAny_pure ⟨_,rfl,wpAny_pure h⟩)) I))
  | exact aD (aD (m:=Builtin.Tuple.tupleExact _) (av (wpAny_pure ⟨_,rfl,wpAny_pure h⟩) I))
end
end HT
namespace L2
open PySem PySem.Spec PyProof.Rows
variable {xs:List V} {us:List aA} {n j t':Nat} {α:Type} {σ:St} {H:Hp} {s:aC} {p:aB} {x:V}
abbrev TO:=St->Hp->(Option Int->Hp->Prop)->Prop
def PO (X:Cx) (e:Option aH) (t:TO):Prop:=
 ∀ (pins:List (aB × Obj)) (s:aC) (σ:St) (H:Hp) (Q:Option Int->Hp->Prop),Inv X pins σ H s->t σ H Q ->
  aF (aI X.prog X.w) X.A (evalPart e X.env) (fun u s'=>∃ o H',Inv X pins σ H' s'/\IsPart u o/\Q o H') X.xe s
def Qis:TO:=fun _ H Q=>Q none H
def Qt1 (t:TE):TO:=fun σ H Q=>t σ H fun x H1=>∃ i,x=.int i/\Q (some i) H1
theorem Q26 {ns:List Int}:∀ {us:List aA},Vals (ns.map V.int) us->IntsAre us ns:=by
 induction ns with
 | nil=>intro us r; rw [List.map_nil] at r; cases r; exact .nil
 | cons n ns z=>
  intro us r;rw [D0] at r;cases r with
  | cons I q=>
   obtain ⟨t,e⟩:=I;subst e;exact .cons n t (z q)
variable {X:Cx} {e:aH} {te:TE} {lo hi:Option aH} {tl th:TO} {p2:Pos}
section
variable {pos:Pos}
theorem Qk0:PO X none Qis:=by
 intro pins s σ H Q I h;rw [evalPart_none];exact wpAny_pure ⟨none,H,I,.none,h⟩
theorem Qjz (h:PE X e te):PO X (some e) (Qt1 te):=by
 intro pins s σ H Q I J;rw [evalPart_some];refine thn (h pins s σ H _ I J) fun u s1 ⟨x,H1,O,U,z⟩=>?_
 obtain ⟨i,rfl,q⟩:=z;obtain ⟨t,rfl⟩:=U;exact ⟨some i,H1,O,.int i t,q⟩
def SlR (X:Cx) (r:V->Option Int->Option Int->Hp->VK->Prop):Prop:=
 ∀ (pins:List (aB × Obj)) (s:aC) (σ:St) (H:Hp) (x:V) (v vl vu:aA) (lo hi:Option Int) (sl:aB) (Q:VK),Inv X pins σ H s->RelV x v->s.heap.IsSliceOf sl vl vu .none->IsPart vl lo->IsPart vu hi->r x lo hi H Q ->
  ∃ T id,typeLookup (.type T) "__getitem__" = pure (some (.builtin id))/\s.TypeIs v T/\aF (aI X.prog X.w) X.A (getItem v (.ref sl)) (EP X pins σ Q) X.xe s
theorem SlR.or {r z:V->Option Int->Option Int->Hp->VK->Prop} (h:SlR X r) (h':SlR X z):SlR X (fun x lo hi H Q=>r x lo hi H Q\/z x lo hi H Q):=by
 intro pins s σ H x v U vu lo hi O Q I Y hs Z J q;rcases q with q | q
 ·exact h pins s σ H x v U vu lo hi O Q I Y hs Z J q
 ·exact h' pins s σ H x v U vu lo hi O Q I Y hs Z J q
def tSl (r:V->Option Int->Option Int->Hp->VK->Prop) (te:TE) (tl th:TO):TE:=fun σ H Q=>te σ H fun x H1=>tl σ H1 fun l H2=>th σ H2 fun u H3=>r x l u H3 Q
theorem Qfp {r:V->Option Int->Option Int->Hp->VK->Prop} (hr:SlR X r) (Z:PE X e te) (hl:PO X lo tl) (hu:PO X hi th):PE X (.Subscript e (.Slice lo hi none p2) pos) (tSl r te tl th):=by
 intro pins s σ H Q I h;refine Subscript_ (thn (Z pins s σ H _ I h) fun v s1 ⟨x,H1,I1,r1,Y⟩=>?_)
 refine wpAny_Slice (thn (hl pins s1 σ H1 _ I1 Y) fun O s2 ⟨l,H2,I2,pl,q2⟩=>thn (hu pins s2 σ H2 _ I2 q2) fun J z ⟨u,U,I3,pu,q3⟩=>?_)
 rw [evalPart_none];refine wpAny_pure ?_;have I4:Inv X pins σ U { z with heap:=z.heap.push { cls:=.type "slice",data:=.fields #[O,J,.none] } }:=I3.kept (t':=z.toks) fun b ob q=>O3 _ q
 obtain ⟨T,id,hT,ht,hg⟩:=hr pins { z with heap:=z.heap.push { cls:=.type "slice",data:=.fields #[O,J,.none] } } σ U x v O J l u z.heap.objs.size Q I4 r1 (Heap.IsSliceOf.new ..) pl pu q3;show aF (aI X.prog X.w) X.A (subscriptTail e (.Slice lo hi none p2) v (.ref z.heap.objs.size)) (EP X pins σ Q) X.xe { z with heap:=z.heap.push { cls:=.type "slice",data:=.fields #[O,J,.none] } };exact tail_any (ops:=[.ref z.heap.objs.size,v]) ht hT hg (by with_unfolding_all rfl)
def Q7s (xs:List V) (lo hi:Option Int):List V:=(xs.drop (HT.sIx xs.length 0 lo)).take (HT.sIx xs.length xs.length hi - HT.sIx xs.length 0 lo)
theorem Q03 (xs:List V) (lo hi:Option Int):(Q7s xs lo hi).length<=xs.length:=by
 unfold Q7s;rw [L7,List.length_drop];omega
def Qx5 (K:PySem.W.Frag):V->Option Int->Option Int->Hp->VK->Prop:=fun x lo hi H Q=>∃ a xs,x=.ref a/\SqT K H a xs /\
 ¬ (HT.sIx xs.length 0 lo=0/\HT.sIx xs.length xs.length hi=xs.length)/\∀ p,H p=none->Q (.ref p) (upd H p (.tup (Q7s xs lo hi)))
theorem sl_tup:SlR X (Qx5 X.K):=by
 intro pins s σ H x v vl vu lo hi sl Q I Y hs pl O h;obtain ⟨a,xs,rfl,Z,U,q⟩:=h;cases Y;obtain ⟨its,r,J,hz⟩:=I.tuple Z;have z:its.toArray.size=xs.length:=by rw [O8]; exact r.length.symm
 refine ⟨"tuple",_,PyProof.Rows.slot_tuple_getitem.lookup,J.typeIs,?_⟩;refine HT.getItem_tuple_cut J hs pl O (by rw [z]; exact U) ?_ (by rw [z]; exact hz);rw [z];refine ⟨.ref s.heap.objs.size,_,I.laid (t':=s.toks) (o:=.tup (Q7s xs lo hi)) (fun b ob q=>O3 _ q) (O6 _) ?_,rfl,q _ (I.hok.fresh (O6 _))⟩;exact ⟨E6 (Q03 xs lo hi) hz,_,(r.drop (HT.sIx xs.length 0 lo)).take (HT.sIx xs.length xs.length hi - HT.sIx xs.length 0 lo),IsTup.new _ _⟩
def Qx8 (K:PySem.W.Frag):R2:=fun x y H Q=>∃ a b ns ms,x=.ref a/\y=.ref b/\SqT K H a (ns.map V.int)/\SqT K H b (ms.map V.int)/\Q (.bl (HT.lexLt ns ms)) H
theorem Qqs (hu:X.A.units < aP):OpR X (aS .Lt) (Qx8 X.K):=by
 intro pins s σ H x y v u Q I rx Y h;obtain ⟨a,b,ns,ms,rfl,rfl,ha,J,q⟩:=h;cases rx;cases Y;obtain ⟨its,r1,p1,_⟩:=I.tuple ha;obtain ⟨z,O,p2,_⟩:=I.tuple J;have U:IntsAre its.toArray.toList ns:=Q26 r1;have Z:IntsAre z.toArray.toList ms:=Q26 O;exact HT.lt_tupInts p1 p2 U Z hu ⟨.bl (HT.lexLt ns ms),H,I,rfl,q⟩
def Qn7 (K:PySem.W.Frag):R2:=fun x y H Q=>∃ a b xs ys,x=.ref a/\y=.ref b/\SqT K H a xs/\SqT K H b ys/\xs≠[]/\xs.length + ys.length<=sizeLine /\
 (ys=[]->Q (.ref a) H)/\(ys≠[]->∀ p,H p=none->Q (.ref p) (upd H p (.tup (xs ++ ys))))
theorem Vals.nil_iff (r:Vals xs us):us=[] <-> xs=[]:=by
 cases r with
 | nil=>simp
 | cons _ _=>simp
theorem op_catT:OpR X (aZ .Add) (Qn7 X.K):=by
 intro pins s σ H x y v u Q I rx ry h;obtain ⟨a,b,xs,ys,rfl,rfl,ha,Y,hx,hz,Z,q2⟩:=h;cases rx;cases ry;obtain ⟨its,O,p1,_⟩:=I.tuple ha;obtain ⟨U,J,p2,_⟩:=I.tuple Y;refine HT.cat_tup p1 p2 (fun z=>hx (O.nil_iff.mp z)) (fun z=>⟨.ref a,H,I,rfl,Z (J.nil_iff.mp z)⟩) (fun z=>?_) (by rw [<- O.length,<- J.length]; exact hz)
 refine ⟨.ref s.heap.objs.size,_,I.laid (t':=s.toks) (o:=.tup (xs ++ ys)) (fun b ob q=>O3 _ q) (O6 _) ?_,rfl,q2 (fun w=>z (J.nil_iff.mpr w)) _ (I.hok.fresh (O6 _))⟩;exact ⟨by rw [O5]; exact hz,_,O.append J,IsTup.new _ _⟩
end
def ixN (n:Nat) (i:Int):Option Nat:=if 0<=i then (if i < n then some i.toNat else none) else if -(n:Int)<=i then some (i + n).toNat else none
def atI {α:Type} (xs:List α) (i:Int):Option α:=(ixN xs.length i).bind fun j=>xs[j]?
theorem Qb0 {i:Int} (h:ixN n i=some j):seqIndex? i n=some j/\j < n/\-(n:Int)<=i/\i < n:=by
 unfold ixN at h
 by_cases h0:0<=i
 ·rw [bT h0] at h
  by_cases h1:i < n
  ·rw [bT h1] at h;have e:i.toNat=j:=Option.some.inj h;exact ⟨by rw [seqIndex_of h0 h1,e],by omega,by omega,h1⟩
  ·rw [bU h1] at h; cases h
 ·rw [bU h0] at h
  by_cases h1:-(n:Int)<=i
  ·rw [bT h1] at h;have e:(i + n).toNat=j:=Option.some.inj h;exact ⟨by rw [seqIndex_neg (by omega) h1,e],by omega,h1,by omega⟩
  ·rw [bU h1] at h; cases h
theorem atI_get {xs:List α} {i:Int} {v:α} (h:atI xs i=some v):∃ j,seqIndex? i xs.length=some j/\xs[j]?=some v/\j < xs.length/\-(xs.length:Int)<=i/\i < xs.length:=by
 unfold atI at h;cases e:ixN xs.length i with
 | none=>rw [e] at h; cases h
 | some j=>
  rw [e] at h;obtain ⟨h1,h2,z,q⟩:=Qb0 e;exact ⟨j,h1,h,h2,z,q⟩
theorem Qbh {xs:List α} {v:α} (h:xs[j]?=some v):atI xs (j:Int)=some v:=by
 have q:j < xs.length:=(O0.mp h).1;have e:ixN xs.length (j:Int)=some j:=by
  unfold ixN;rw [bT (by omega),bT (by omega)]; simp
 unfold atI; rw [e]; exact h
def Q5s (b:aH):Prop:=∀ o i,subscripted b false o i=operate [o,i] (getItem o i)
def IxR (X:Cx) (r:R2):Prop:=
 ∀ (value slice:aH) (pins:List (aB × Obj)) (s:aC) (σ:St) (H:Hp) (x y:V) (v u:aA) (Q:VK),Inv X pins σ H s->RelV x v->RelV y u->r x y H Q ->
  subscripted slice false v u=operate [v,u] (getItem v u)->aF (aI X.prog X.w) X.A (subscriptTail value slice v u) (EP X pins σ Q) X.xe s
def MtR (X:Cx) (id:String) (r:V->List V->Hp->VK->Prop):Prop:=
 ∀ (pins:List (aB × Obj)) (s:aC) (σ:St) (H:Hp) (x:V) (xs:List V) (v:aA) (us:List aA) (Q:VK),Inv X pins σ H s->RelV x v->Vals xs us->r x xs H Q ->
  aF (aI X.prog X.w) X.A (call (.builtin id) (v :: us)) (EP X pins σ Q) X.xe s
section
variable {X:Cx} {a b:aH} {ta tb:TE} {pos:Pos}
theorem IxR.or {r J:R2} (h:IxR X r) (h':IxR X J):IxR X (fun x y H Q=>r x y H Q\/J x y H Q):=by
 intro value z pins s σ H x y v u Q I U O q hs;rcases q with q | q
 ·exact h value z pins s σ H x y v u Q I U O q hs
 ·exact h' value z pins s σ H x y v u Q I U O q hs
theorem Qnb {r:R2} (U:IxR X r) (ha:PE X a ta) (z:PE X b tb) (hs:Q5s b):PE X (.Subscript a b pos) (tOp r ta tb):=by
 intro pins s σ H Q I h;exact Subscript_ (Qs4 ha z I h fun v u J x y H2 Z Y O q=>U a b pins J σ H2 x y v u Q Z Y O q (hs _ _))
def Qtm (K:PySem.W.Frag):R2:=fun x y H Q=>∃ p xs i v,x=.ref p/\y=.int i/\SqL K H p xs/\atI xs i=some v/\Q v H
def Qtj (K:PySem.W.Frag):R2:=fun x y H Q=>∃ p xs i v,x=.ref p/\y=.int i/\SqT K H p xs/\atI xs i=some v/\Q v H
def Qtk:R2:=fun x y H Q=>∃ z i c,x=.str z/\y=.int i/\z.length<=sizeLine/\atI z.cps.toList i=some c/\Q (.str ⟨#[c]⟩) H
theorem ix_list:IxR X (Qtm X.K):=by
 intro value U pins s σ H x y v u Q I rx ry h hs;obtain ⟨p,xs,i,z,rfl,rfl,hq,he,q⟩:=h;cases rx;obtain ⟨t,rfl⟩:=ry;obtain ⟨its,r,O,hz⟩:=I.list hq;obtain ⟨j,h1,h2,h3,h4,h5⟩:=atI_get he;obtain ⟨w,Z,Y⟩:=r.get h2;have hl:=r.length;have hn:=yz;have fin:EP X pins σ Q w s:=⟨z,H,I,Y,q⟩
 by_cases h0:0<=i
 ·have J:i.toNat=j:=by
   rw [seqIndex_of h0 h5] at h1;exact Option.some.inj h1
  exact item_listR O.isList h0 (by omega) (by rw [J]; simpa using Z) fin hs
 ·have J:(i + (its.toArray.size:Int)).toNat=j:=by
   rw [seqIndex_neg (by omega) h4] at h1;rw [O8,<- hl];exact Option.some.inj h1
  exact subscriptTail_builtinR (x:=w) O.isList.typeIs slot_list_getitem.lookup
   (wpAny_getItem_list_neg (Q:=fun r s'=>r=w/\EP X pins σ Q r s') O.isList (by omega) (by rw [O8] <;> omega) (by omega) (by rw [J]; simpa using Z) ⟨rfl,fin⟩) hs
theorem ix_tup:IxR X (Qtj X.K):=by
 intro value O pins s σ H x y v u Q I rx Y h hs;obtain ⟨p,xs,i,z,rfl,rfl,hq,Z,q⟩:=h;cases rx;obtain ⟨t,rfl⟩:=Y;obtain ⟨its,r,U,hz⟩:=I.tuple hq;obtain ⟨j,h1,h2,h3,h4,h5⟩:=atI_get Z;obtain ⟨w,ew,J⟩:=r.get h2;have hl:=r.length;have hn:=yz;have fin:EP X pins σ Q w s:=⟨z,H,I,J,q⟩;exact subscriptTail_builtinR (x:=w) U.typeIs slot_tuple_getitem.lookup
  (getItem_tuple (j:=j) (Q:=fun r s'=>r=w/\EP X pins σ Q r s') U (by omega) (by omega) (by rw [O8,<- hl]; exact h1) (by simpa using ew) ⟨rfl,fin⟩) hs
theorem Qrj:IxR X Qtk:=by
 intro value J pins s σ H x y v u Q I rx Y h hs;obtain ⟨z,i,c,rfl,rfl,hz,Z,q⟩:=h;obtain ⟨t,rfl⟩:=rx;obtain ⟨t',rfl⟩:=Y;obtain ⟨j,h1,h2,h3,O,U⟩:=atI_get Z;have hl:z.cps.toList.length=z.length:=by simp [Str.length]
 rw [hl] at h1 O U;have hn:=yz;exact tail_any (typeIs_str s z t) slot_str_getitem.lookup (getItem_str (c:=c) (by
  have e1:decide (i < -(2 ^ 63:Int))=false:=bV (by omega);have e2:decide (i>=2 ^ 63)=false:=bV (by omega);rw [e1,e2,Bool.or_false]) (by rw [h1]; simpa using h2) ⟨.str ⟨#[c]⟩,H,I.tok _,⟨_,rfl⟩,q⟩) hs
def rIx (K:PySem.W.Frag):R2:=fun x y H Q=>Qtm K x y H Q\/Qtj K x y H Q\/Qtk x y H Q
theorem Qgv:IxR X (rIx X.K):=ix_list.or (ix_tup.or Qrj)
theorem Q93 (its:List aA) (n j:Nat) (u:aA):Obj.mapSeq (·.setIfInBounds j u) { cls:=.type "list",data:=.seq its.toArray n }={ cls:=.type "list",data:=.seq (its.set j u).toArray n }:=by
 simp [Obj.mapSeq]
theorem Inv.lst {pins:List (aB × Obj)} (I:Inv X pins σ H s) (h:H p=some (.lst xs)) :
  ∃ (its:List aA) (n:Nat),Vals xs its/\s.heap.get? p=some { cls:=.type "list",data:=.seq its.toArray n }/\xs.length<=sizeLine:=by
 obtain ⟨z,its,n,r,e⟩:=I.hok p _ h;exact ⟨its,n,r,e,z⟩
theorem Inv.lstUpd {pins:List (aB × Obj)} {ys:List V} {its its':List aA} {n z:Nat} {f:Obj->Obj} (I:Inv X pins σ H s) (h:H p=some (.lst xs))
  (U:s.heap.get? p=some { cls:=.type "list",data:=.seq its.toArray n }) (J:f { cls:=.type "list",data:=.seq its.toArray n }={ cls:=.type "list",data:=.seq its'.toArray z }) (r:Vals ys its') (hz:ys.length<=sizeLine) (t:Nat) :
  Inv X pins σ (upd H p (.lst ys)) { s with heap:=s.heap.update p f,toks:=t }:=by
 have e:(s.heap.update p f).get? p=some { cls:=.type "list",data:=.seq its'.toArray z }:=by
  rw [L5 f U (by rw [J] <;> rfl),J]
 refine I.write (x:=p) (e:=p) (by rw [h]; trivial) (.inl rfl) (fun b u O q=>(G6 _ _ (Ne.symm O)).trans q) ⟨_,e⟩ ?_
 exact ⟨hz,its',z,r,e⟩
def Qth:V->V->V->Hp->(Hp->Prop)->Prop:=fun o i v H Q=>∃ p xs k j,o=.ref p/\i=.int k/\H p=some (.lst xs)/\ixN xs.length k=some j/\Q (upd H p (.lst (xs.set j v)))
theorem Qeh:Qvs X Qth:=by
 intro pins s σ H o i v ov iv u Q I ro ri rv h;obtain ⟨p,xs,k,j,rfl,rfl,Z,hj,q⟩:=h;cases ro;obtain ⟨t,rfl⟩:=ri;obtain ⟨its,n,r,z,hz⟩:=I.lst Z;obtain ⟨h1,h2,Y,h4⟩:=Qb0 hj;have J:=r.length;have hn:=yz;have U:Inv X pins σ (upd H p (.lst (xs.set j v))) { s with heap:=s.heap.update p (Obj.mapSeq (·.setIfInBounds j u)) }:=
  I.lstUpd Z z (Q93 its n j u) (r.set rv j) (by rw [L6]; exact hz) s.toks
 by_cases h0:0<=k
 ·have O:k.toNat=j:=by
   rw [seqIndex_of h0 h4] at h1;exact Option.some.inj h1
  exact PySem.W.ki_setAt z h0 (by omega) (by rw [O8,<- J]; exact h4) (by rw [O]; exact ⟨_,U,q⟩)
 ·have O:(k + (its.toArray.size:Int)).toNat=j:=by
   rw [seqIndex_neg (by omega) Y] at h1;rw [O8,<- J];exact Option.some.inj h1
  exact PySem.W.ki_setBack z (by omega) (by rw [O8,<- J]; exact Y) (by omega) (by rw [O]; exact ⟨_,U,q⟩)
theorem Q4a (lo hi:Option Int) (n:Nat):(bJ lo hi none n).1=((HT.sIx n 0 lo:Nat):Int)/\(bJ lo hi none n).2.1=((HT.sIx n n hi:Nat):Int)/\(bJ lo hi none n).2.2=1:=by
 refine ⟨?_,?_,rfl⟩
 ·cases lo with
  | none=>simp [bJ,HT.sIx]
  | some i=>
   simp only [bJ,HT.sIx,Option.getD_none,show (1:Int) > 0 by decide,if_true]
   by_cases h:i < 0
   ·simp only [h,if_true] <;> omega
   ·simp only [h,if_false] <;> omega
 ·cases hi with
  | none=>simp [bJ,HT.sIx]
  | some i=>
   simp only [bJ,HT.sIx,Option.getD_none,show (1:Int) > 0 by decide,if_true]
   by_cases h:i < 0
   ·simp only [h,if_true] <;> omega
   ·simp only [h,if_false] <;> omega
theorem Q2v (its:List aA) (lo hi:Option Int):slicePick its.toArray lo hi none=((its.drop (HT.sIx its.length 0 lo)).take (HT.sIx its.length its.length hi - HT.sIx its.length 0 lo)).toArray:=by
 obtain ⟨h1,h2,q⟩:=Q4a lo hi its.toArray.size;unfold slicePick;rw [h1,h2,q];simp only [sliceRange_one,pick_run,O8] <;> rfl
def Qx6 (K:PySem.W.Frag):V->Option Int->Option Int->Hp->VK->Prop:=fun x lo hi H Q=>∃ a xs,x=.ref a/\SqL K H a xs/\∀ p,H p=none->Q (.ref p) (upd H p (.lst (Q7s xs lo hi)))
theorem Qj5:SlR X (Qx6 X.K):=by
 intro pins s σ H x v vl vu lo hi sl Q I U hs Z O h;obtain ⟨a,xs,rfl,Y,q⟩:=h;cases U;obtain ⟨its,r,J,hz⟩:=I.list Y;have z:=r.length;refine ⟨"list",_,slot_list_getitem.lookup,J.isList.typeIs,?_⟩;refine wpAny_getItem_list_slice J.isList hs Z O .none (by simp) ?_ (by rw [O8] <;> omega);rw [Q2v,<- z];refine ⟨.ref s.heap.objs.size,_,I.laid (t':=s.toks) (o:=.lst (Q7s xs lo hi)) (fun b ob q=>O3 _ q) (O6 _) ?_,rfl,q _ (I.hok.fresh (O6 _))⟩;exact ⟨E6 (Q03 xs lo hi) hz,_,0,(r.drop (HT.sIx xs.length 0 lo)).take (HT.sIx xs.length xs.length hi - HT.sIx xs.length 0 lo),D8 _ rfl⟩
def Kf:V->Bool
 | .non=>true
 | .bl _=>true
 | .int _=>true
 | .str _=>true
 | _=>false
def eqV:V->V->Bool
 | .non,.non=>true
 | .bl a,.bl b=>a == b
 | .bl a,.int b=>(if a then 1 else 0) == b
 | .int a,.bl b=>a == (if b then 1 else 0)
 | .int a,.int b=>a == b
 | .str a,.str b=>a == b
 | _,_=>false
theorem Qrs {A:aM} {y:V} {u v:aA} (z:RelV y u) (q:RelV x v) (J:Kf y=true) (I:Kf x=true):SeqAt.EqAt A s u v (eqV y x):=by
 cases y with
 | non=>
  cases z;cases x with
  | non=>cases q; exact SeqAt.EqAt.same _
  | bl b=>cases q; exact SeqAt.EqAt.none_bool b
  | int b=>obtain ⟨t,rfl⟩:=q; exact SeqAt.EqAt.none_int b t
  | str b=>obtain ⟨t,rfl⟩:=q; exact SeqAt.EqAt.none_str b t
  | _=>exact absurd (show false=true from I) D4
 | bl a=>
  cases z;cases x with
  | non=>cases q; exact SeqAt.EqAt.bool_none a
  | bl b=>cases q; exact SeqAt.EqAt.bool_bool a b
  | int b=>obtain ⟨t,rfl⟩:=q; exact SeqAt.EqAt.bool_int a b t
  | str b=>obtain ⟨t,rfl⟩:=q; exact SeqAt.EqAt.bool_str a b t
  | _=>exact absurd (show false=true from I) D4
 | int a=>
  obtain ⟨t',rfl⟩:=z;cases x with
  | non=>cases q; exact SeqAt.EqAt.int_none a t'
  | bl b=>cases q; exact SeqAt.EqAt.int_bool a t' b
  | int b=>obtain ⟨t,rfl⟩:=q; exact SeqAt.EqAt.int_int a t' b t
  | str b=>obtain ⟨t,rfl⟩:=q; exact SeqAt.EqAt.int_str a t' b t
  | _=>exact absurd (show false=true from I) D4
 | str a=>
  obtain ⟨t',rfl⟩:=z;cases x with
  | non=>cases q; exact SeqAt.EqAt.str_none a t'
  | bl b=>cases q; exact SeqAt.EqAt.str_bool a t' b
  | int b=>obtain ⟨t,rfl⟩:=q; exact SeqAt.EqAt.str_int a t' b t
  | str b=>obtain ⟨t,rfl⟩:=q; exact SeqAt.EqAt.str_str a t' b t
  | _=>exact absurd (show false=true from I) D4
 | _=>exact absurd (show false=true from J) D4
def eqU (x:V) (u:aA):Bool:=match u with
 | .none=>eqV .non x
 | .bool b=>eqV (.bl b) x
 | .int i _=>eqV (.int i) x
 | .str z _=>eqV (.str z) x
 | _=>false
theorem Qhm {y:V} {u:aA} (r:RelV y u) (f:Kf y=true):eqU x u=eqV y x:=by
 cases y with
 | non=>cases r; rfl
 | bl b=>cases r; rfl
 | int i=>obtain ⟨t,rfl⟩:=r; rfl
 | str z=>obtain ⟨t,rfl⟩:=r; rfl
 | _=>exact absurd (show false=true from f) D4
theorem zu {x:V}:∀ {xs:List V} {us:List aA},Vals xs us->xs.all Kf=true->us.any (eqU x)=xs.any fun y=>eqV y x
 | _,_,.nil,_=>rfl
 | y :: xs,u :: us,.cons r t,f=>by
  rw [List.all_cons,E9] at f;rw [List.any_cons,List.any_cons,Qhm r f.1,zu t f.2]
theorem Xz {A:aM} {s:aC} {x:V} {v:aA} (z:RelV x v) (I:Kf x=true):∀ {xs:List V} {us:List aA},Vals xs us->xs.all Kf=true->∀ u∈us,SeqAt.EqAt A s u v (eqU x u)
 | _,_,.nil,_=>fun u q=>by cases q
 | y :: xs,u :: us,.cons r t,f=>fun J q=>by
  rw [List.all_cons,E9] at f;rcases D7.mp q with rfl | q
  ·rw [Qhm r f.1]; exact Qrs r z f.1 I
  ·exact Xz z I t f.2 J q
def inV (x:V) (xs:List V):Bool:=xs.any fun y=>eqV y x
def rIn (K:PySem.W.Frag) (neg:Bool):R2:=fun x y H Q=>∃ p xs,y=.ref p/\(SqL K H p xs\/SqT K H p xs)/\Kf x=true/\xs.all Kf=true/\Q (.bl (if neg then !inV x xs else inV x xs)) H
theorem Qcp:OpR X (aS .In) (rIn X.K false):=by
 intro pins s σ H x y v u Q I Y Z h;obtain ⟨p,xs,rfl,z,U,fs,q⟩:=h;cases Z;rcases z with z | z
 ·obtain ⟨its,r,O,hz⟩:=I.list z;refine SeqAt.in_listAt (eqU x) O.isList (fun w J=>Xz Y U r fs w (by simpa using J)) ⟨.bl _,H,I,rfl,?_⟩
  rw [show its.toArray.any (eqU x)=its.any (eqU x) by simp,zu r fs];exact q
 ·obtain ⟨its,r,O,hz⟩:=I.tuple z;refine SeqAt.in_tupleAt (eqU x) O (fun w J=>Xz Y U r fs w (by simpa using J)) ⟨.bl _,H,I,rfl,?_⟩
  rw [show its.toArray.any (eqU x)=its.any (eqU x) by simp,zu r fs];exact q
theorem jn:OpR X (aS .NotIn) (rIn X.K true):=by
 intro pins s σ H x y v u Q I Y Z h;obtain ⟨p,xs,rfl,z,U,fs,q⟩:=h;cases Z;rcases z with z | z
 ·obtain ⟨its,r,O,hz⟩:=I.list z;refine SeqAt.notIn_listAt (eqU x) O.isList (fun w J=>Xz Y U r fs w (by simpa using J)) ⟨.bl _,H,I,rfl,?_⟩
  rw [show its.toArray.any (eqU x)=its.any (eqU x) by simp,zu r fs];exact q
 ·obtain ⟨its,r,O,hz⟩:=I.tuple z;refine SeqAt.notIn_tupleAt (eqU x) O (fun w J=>Xz Y U r fs w (by simpa using J)) ⟨.bl _,H,I,rfl,?_⟩
  rw [show its.toArray.any (eqU x)=its.any (eqU x) by simp,zu r fs];exact q
theorem Q5n:W6 X (.builtin "len") (fun xs H Q=>∃ p ys,xs=[.ref p]/\(SqL X.K H p ys\/SqT X.K H p ys)/\Q (.int ys.length) H):=by
 intro pins s σ H xs us Q I r h;obtain ⟨p,ys,rfl,J,q⟩:=h;obtain ⟨u,rfl,Y⟩:=Uk r;cases Y;have Z:=yz;rcases J with J | J
 ·obtain ⟨its,O,U,hz⟩:=I.list J;have z:=O.length;exact Calls.call_len_list U.isList (by simp only [O8] <;> omega) ⟨.int ys.length,H,I.tok _,⟨s.toks + 1,by rw [O8,z]⟩,q⟩
 ·obtain ⟨its,O,U,hz⟩:=I.tuple J;have z:=O.length;exact len_tuple U (by simp only [O8] <;> omega) ⟨.int ys.length,H,I.tok _,⟨s.toks + 1,by rw [O8,z]⟩,q⟩
theorem Q5m:W6 X (.builtin "len") (fun xs H Q=>∃ z,xs=[.str z]/\z.length<=sizeLine/\Q (.int z.length) H):=by
 intro pins s σ H xs us Q I r h;obtain ⟨z,rfl,hz,q⟩:=h;obtain ⟨u,rfl,t,rfl⟩:=Uk r;have J:=yz;exact len_str (by omega) ⟨.int z.length,H,I.tok _,⟨_,rfl⟩,q⟩
theorem qq:W6 X (.type "tuple") (fun xs H Q=>∃ p ys,xs=[.ref p]/\((SqL X.K H p ys/\∀ l,H l=none->Q (.ref l) (upd H l (.tup ys)))\/(SqT X.K H p ys/\Q (.ref p) H))):=by
 intro pins s σ H xs us Q I r h;obtain ⟨p,ys,rfl,h⟩:=h;obtain ⟨u,rfl,Z⟩:=Uk r;cases Z;rcases h with ⟨J,q⟩ | ⟨J,q⟩
 ·obtain ⟨its,z,O,hz⟩:=I.list J;have U:=z.length;refine call_tuple_list O.isList (fun h' kp=>?_) (by simp only [O8] <;> omega);have Y:Inv X pins σ H { s with heap:=h' }:=I.kept (t':=s.toks) kp;have I2:Inv X pins σ (upd H h'.objs.size (.tup ys)) { s with heap:=h'.push { cls:=.type "tuple",data:=.seq its.toArray } }:=
   Y.laid (t':=s.toks) (fun b o e=>O3 _ e) (O6 _) (show ObjOk X.prog X.w _ _ _ (.tup ys) from ⟨hz,its,z,IsTup.new _ _⟩)
  exact ⟨.ref h'.objs.size,_,I2,rfl,q _ (Y.hok.fresh (O6 _))⟩
 ·obtain ⟨its,z,O,hz⟩:=I.tuple J;exact call_tuple_same O ⟨.ref p,H,I,rfl,q⟩
def tyV (K:PySem.W.Frag) (T:String) (x:V) (H:Hp):Prop:=match x with
 | .str _=>T = "str"
 | .int _=>T = "int"
 | .ref p=>(T = "list" /\ ∃ xs,SqL K H p xs)\/(T = "tuple" /\ ∃ o,K.lookup p=some o/\o.cls=.type "tuple" /\ o.dict=none) \/
   (T = "dict" /\ ((∃ kvs,H p=some (.dK kvs))\/∃ kvs,H p=some (.dT kvs)))\/(T = "set" /\ ∃ S n,H p=some (.set S n))
 | _=>False
theorem Qnt {pins:List (aB × Obj)} {T:String} {v:aA} (I:Inv X pins σ H s) (r:RelV x v) (ty:tyV X.K T x H) :
  s.TypeIs v T/\∀ a,v=.ref a->∃ ob,s.heap.get? a=some ob/\ob.dict=none:=by
 cases x with
 | str z=>
  obtain ⟨t,rfl⟩:=r;cases (show T = "str" from ty);exact ⟨typeIs_str s z t,fun _ e=>nomatch e⟩
 | int i=>
  obtain ⟨t,rfl⟩:=r;cases (show T = "int" from ty);exact ⟨typeIs_int s i t,fun _ e=>nomatch e⟩
 | ref p=>
  cases r;rcases ty with ⟨rfl,xs,Z⟩ | ⟨rfl,o,q,Y,hd⟩ | ⟨rfl,q⟩ | ⟨rfl,S,n,q⟩
  ·obtain ⟨its,_,U,_⟩:=I.list Z;refine ⟨U.isList.typeIs,fun a e=>?_⟩;cases e;obtain ⟨o,n,e,c,hd,_⟩:=U;exact ⟨o,e,hd⟩
  ·refine ⟨⟨o,I.kIn p o q,Y⟩,fun a e=>?_⟩
   cases e;exact ⟨o,I.kIn _ o q,hd⟩
  ·have z:∃ o,s.heap.get? p=some o/\o.ExactDict:=by
    rcases q with ⟨J,q⟩ | ⟨J,q⟩
    ·obtain ⟨_,_,_,_,o,_,_,e,ex,_⟩:=I.hok p _ q;exact ⟨o,e,ex⟩
    ·obtain ⟨_,_,_,_,o,_,_,e,ex,_⟩:=I.hok p _ q;exact ⟨o,e,ex⟩
   obtain ⟨o,e,ex⟩:=z;refine ⟨⟨o,e,ex.1⟩,fun a O=>?_⟩
   cases O;exact ⟨o,e,ex.2.1⟩
  ·obtain ⟨o,_,_,_,e,ex,_⟩:=I.hok p _ q;refine ⟨⟨o,e,ex.1⟩,fun a O=>?_⟩
   cases O;exact ⟨o,e,ex.2.1⟩
 | _=>exact False.elim ty
def tBM (K:PySem.W.Frag) (T:String) (r:V->List V->Hp->VK->Prop) (to:TE) (t:TA):TE:=fun σ H Q=>to σ H fun x H1=>tyV K T x H1/\t σ H1 fun xs H2=>r x xs H2 Q
variable {o e:aH} {es:List aH} {to:TE} {t:TA} {name:Str} {apos cpos:Pos} {T id:String} {r:V->List V->Hp->VK->Prop}
theorem Qnc (pa:PlainAttrs T) (slot:Slot T name id) (U:typeOf (.builtin id)=pure (.type "method_descriptor")) (hm:MtR X id r) (ho:PE X o to) (ha:PA X (e :: es) t)
  (z:bO o name X.env (aO o X.env)=aO o X.env:=by rfl)
  (O:((aY cpos (aN (e :: es) X.env)).all (fun x=>!x.1) && (backToKw cpos (keywordEach [] X.env)).all (fun x=>x.1.isSome)
   && decide ((e :: es).length + ([]:List Keyword).length + (if ([]:List Keyword).isEmpty then 0 else 1) < 30))=true:=by rfl)
  (J:(apos.endLine == cpos.line)=true:=by rfl) (hs:aN (e :: es) X.env=(false,aO e X.env) :: aN es X.env:=by rfl) (q:(aY cpos (aN es X.env)).any (·.1)=false:=by rfl) :
  PE X (.Call (.Attribute o name apos) (e :: es) [] cpos) (tBM X.K T r to t):=by
 intro pins s σ H Q I h;refine wpAny_Call_method_late z O J rfl (thn (ho pins s σ H _ I h) fun v s1 ⟨x,H1,Y,Z,ty,q1⟩=>?_)
 obtain ⟨h1,h2⟩:=Qnt Y Z ty;refine ⟨T,id,pa,slot,U,h1,h2,?_⟩;have hA:=ha cpos pins s1 σ H1 _ Y q1;rw [hs] at hA ⊢;refine Calls.callWith_builtin (by show (false || (aY cpos (aN es X.env)).any (·.1))=false; rw [q] <;> rfl) (Calls.evalArgs_plain ?_);exact thn hA fun us s2 ⟨vs,H2,I2,r2,q2⟩=>hm pins s2 σ H2 x vs v us Q I2 Z r2 q2
end
def MtM (X:Cx) (id:String) (r:V->List V->Hp->VK->Prop):Prop:=
 ∀ (pins:List (aB × Obj)) (s:aC) (σ:St) (H:Hp) (x:V) (xs:List V) (v:aA) (us:List aA) (Q:VK),Inv X pins σ H s->RelV x v->Vals xs us->r x xs H Q ->
  aF (aI X.prog X.w) X.A (call (.builtin id) (v :: us)) (EP X pins σ Q) X.xe s
theorem Vals.one:∀ {x:V} {us:List aA},Vals [x] us->∃ u,us=[u]/\RelV x u
 | _,_,.cons r .nil=>⟨_,rfl,r⟩
theorem Vals.rep (h:Vals xs us):∀ k:Nat,Vals (List.replicate k xs).flatten (List.replicate k us).flatten
 | 0=>.nil
 | k + 1=>by
  rw [List.replicate_succ,List.replicate_succ,List.flatten_cons,List.flatten_cons];exact Vals.append h (Vals.rep h k)
theorem xk (its:List aA):∀ (k:Nat) (acc:List aA),
  List.foldl (fun q I=>q ++ I) acc.toArray (List.replicate k its.toArray)=(acc ++ (List.replicate k its).flatten).toArray
 | 0,acc=>by simp
 | k + 1,acc=>by
  have e:acc.toArray ++ its.toArray=(acc ++ its).toArray:=by simp
  have z:(acc ++ its) ++ (List.replicate k its).flatten=acc ++ (List.replicate (k + 1) its).flatten:=by
   rw [List.replicate_succ,List.flatten_cons,List.append_assoc]
  rw [<- z,<- xk its k (acc ++ its),<- e,List.replicate_succ,F8]
variable {pins:List (aB × Obj)} {σ:St} {H:Hp} {s:aC} {l b:aB} {xs ys zs:List V}
theorem Inv.lset {its its':List aA} {n:Nat} {f:Array aA->Array aA} {t':Nat} (I:Inv X pins σ H s) (U:H l=some (.lst xs))
  (e:s.heap.get? l=some { cls:=.type "list",data:=.seq its.toArray n }) (Y:f its.toArray=its'.toArray) (J:Vals ys its') (hz:ys.length<=sizeLine) :
  Inv X pins σ (upd H l (.lst ys)) { s with heap:=s.heap.update l (Obj.mapSeq f),toks:=t' }:=by
 have q:=PySem.IsL.update e f;rw [Y] at q;refine I.write (x:=l) (e:=l) (by rw [U]; exact trivial) (.inl rfl) (fun Z u z O=>(G6 s.heap (Obj.mapSeq f) (Ne.symm z)).trans O) ⟨_,q⟩ ?_
 exact ⟨hz,its',_,J,q⟩
theorem Inv.lnew {its:List aA} {t':Nat} (I:Inv X pins σ H s) (z:Vals ys its) (hz:ys.length<=sizeLine) :
  Inv X pins σ (upd H s.heap.objs.size (.lst ys)) { s with heap:=s.heap.push { cls:=.type "list",data:=.seq its.toArray },toks:=t' }:=
 I.laid (fun _ _ q=>O3 _ q) (O6 _) ⟨hz,its,0,z,D8 _ rfl⟩
theorem Inv.fresh (I:Inv X pins σ H s):H s.heap.objs.size=none:=I.hok.fresh (O6 _)
theorem Inv.lstM (I:Inv X pins σ H s) (q:H l=some (.lst xs)):xs.length<=sizeLine/\∃ (its:List aA) (n:Nat),Vals xs its/\xs.length=its.length/\s.heap.get? l=some { cls:=.type "list",data:=.seq its.toArray n }:=by
 obtain ⟨z,its,n,r,e⟩:=I.hok l _ q;exact ⟨z,its,n,r,r.length,e⟩
theorem Qg5 (h:n<=sizeLine):Builtin.List.listTooLong n=false:=by
 unfold Builtin.List.listTooLong;exact bV (by omega)
def Qjp:V->List V->Hp->VK->Prop:=fun x vs H Q=>∃ l xs y,x=.ref l/\vs=[y]/\H l=some (.lst xs)/\xs.length < sizeLine/\Q .non (upd H l (.lst (xs ++ [y])))
theorem Qcv:MtM X "list.append" Qjp:=by
 intro pins s σ H x vs v us Q I O U h;obtain ⟨l,xs,y,rfl,rfl,J,hz,q⟩:=h;cases O;obtain ⟨u,rfl,ru⟩:=U.one;obtain ⟨z,its,n,r,Y,e⟩:=I.lstM J;refine bE F.slot_list_append ⟨_,e,rfl⟩ F.entry_list_append (F.args_list_append_2 _ _) (PySem.list_append l its.toArray n u (by rw [O8]; omega)) ⟨e,?_⟩;refine ⟨.non,_,I.lset (its':=its ++ [u]) J e (by simp) (r.append (.cons ru .nil)) ?_,rfl,q⟩;rw [O5,N1];omega
def Qx9:R2:=fun x y H Q=>∃ l b xs zs,x=.ref l/\y=.ref b/\H l=some (.lst xs)/\H b=some (.lst zs)/\xs.length + zs.length<=sizeLine/\∀ p,H p=none->Q (.ref p) (upd H p (.lst (xs ++ zs)))
theorem Qg1:OpR X (aZ .Add) Qx9:=by
 intro pins s σ H x y v u Q I rx U h;obtain ⟨l,b,xs,zs,rfl,rfl,hH,hB,hz,q⟩:=h;cases rx;cases U;obtain ⟨z,its,n,r,hl,e⟩:=I.lstM hH;obtain ⟨z2,J,n2,O,a1,Y⟩:=I.lstM hB;refine PySem.P.add_list e Y ?_ (by rw [O8,O8]; omega);have Z:its.toArray ++ J.toArray=(its ++ J).toArray:=by simp
 rw [Z];exact ⟨.ref _,_,I.lnew (t':=s.toks) (r.append O) (by rw [O5]; omega),rfl,q _ I.fresh⟩
def Qx7:R2:=fun x y H Q=>∃ l k xs,x=.ref l/\y=.int k/\H l=some (.lst xs)/\-(2 ^ 63)<=k/\k < 2 ^ 63/\xs.length * k.toNat<=sizeLine /\
 ∀ p,H p=none->Q (.ref p) (upd H p (.lst (List.replicate k.toNat xs).flatten))
theorem Q54 (xs:List α) (k:Nat):(List.replicate k xs).flatten.length=k * xs.length:=by
 induction k with
 | zero=>simp
 | succ k q=>rw [List.replicate_succ,List.flatten_cons,O5,q,Nat.succ_mul,Nat.add_comm]
theorem Qqn:OpR X (aZ .Mult) Qx7:=by
 intro pins s σ H x y v u Q I rx ry h;obtain ⟨l,k,xs,rfl,rfl,hH,h1,h2,hz,q⟩:=h;cases rx;obtain ⟨t,rfl⟩:=ry;obtain ⟨z,its,n,r,hl,e⟩:=I.lstM hH;have O:its.toArray.size * k.toNat<=sizeLine:=by rw [O8,<- hl]; exact hz
 have a1:¬ its.toArray.size * k.toNat > (2 ^ 63 - 1) / 8:=by
  have:(sizeLine:Nat)<=(2 ^ 63 - 1) / 8:=by decide
  omega
 have Z:¬ (!Builtin.List.listFitsIndex k)=true:=by
  rw [fitsIndex_both h1 h2];exact D4
 have J:¬ Builtin.List.listTooLong (its.toArray.size * k.toNat)=true:=by
  rw [Qg5 O];exact D4
 have Y:List.foldl (fun x1 x2=>x1 ++ x2) #[] (List.replicate (if its.toArray.isEmpty=true then 0 else k.toNat) its.toArray)=(List.replicate k.toNat its).flatten.toArray:=by
  have f0:∀ m:Nat,List.foldl (fun x1 x2=>x1 ++ x2) #[] (List.replicate m its.toArray)=(List.replicate m its).flatten.toArray:=fun m=>by
   have:=xk its m [];rw [List.nil_append] at this;exact this
  rw [f0];cases its with
  | nil=>simp
  | cons a r'=>rw [bU (by simp)]
 refine wpAny_binaryOp_repeat_ref (T := "list") (U := "int") (by decide) ⟨_,e,rfl⟩ (fun s'=>typeIs_int s' k t) noFill_list_mul F.fills_int_mul F.slot_int_rmul repeat_list F.slot_int_index.lookup
  (bE F.slot_int_rmul (typeIs_int s k t) F.entry_int_rmul (F.args_int_rmul_2 _ _) (int___rmul___int_list k t l its.toArray n)
   ⟨e,rfl,⟨_,e,rfl⟩,bE F.slot_list_mul ⟨_,e,rfl⟩ F.entry_list_mul (F.args_list_mul_2 _ _) (AutoListH.list___mul___list_int_3 l its.toArray n k t Z a1 J) ⟨e,?_⟩⟩)
 rw [Y];exact ⟨.ref _,_,I.lnew (t':=s.toks) (r.rep k.toNat) (by rw [Q54,Nat.mul_comm]; exact hz),rfl,q _ I.fresh⟩
end L2
namespace Att
open PySem PySem.W PySem.Calls PyProof.Rows
theorem Q0f {P:Params} {h:Heap}:∀ (ns:List Int) (vs:List aA),WellAll P h vs (ns.map WData.int)->IntsAre vs ns:=by
 intro ns
 induction ns with
 | nil=>
  intro vs w;rw [List.map_nil] at w;cases w;exact .nil
 | cons n ns q=>
  intro vs w;rw [D0] at w;cases w with
  | cons a b=>
   cases a;exact .cons _ _ (q _ b)
theorem Qc9 {l:OpenLaw} {n:Nat} (hn:l.most=some n) {P:Params} {h:Heap} {args:List WData} {I:List aA}
  (z:l.row.toRowW.claim.pre args=true) (a1:WellAll P h I args) :
  ∃ a vs ns,I=[Value.ref a]/\args=[WData.list (ns.map WData.int)]/\h.get? a=some { cls:=.type "list",data:=.seq vs.toArray }/\IntsAre vs ns/\ns.length<=n:=by
 have Z:WShape.hasAll [] args [.list .int]=true:=(pre_splitW z).1;have hc:l.pre.holds [] { args:=args }=true:=(pre_splitW z).2;obtain ⟨d,r,rfl,h1,h2⟩:=hasAllW_cons Z;obtain rfl:=hasAllW_nil h2;obtain ⟨xs,rfl,h3⟩:=hasW_list h1;obtain ⟨ns,rfl⟩:=items_int h3;have J:ns.length<=n:=by
  unfold OpenLaw.pre at hc;have U:(WTm.not (.lt (.lit (.int (n:Int))) (.len (.arg 0)))).holds [] { args:=[.list (ns.map .int)] }=true:=by
   have U:=(holds_andW hc).1;rw [hn] at U;exact U
  have Y:=condW_of U (w_not (w_lt w_lit (w_len_list (w_arg rfl))));rw [O1] at Y;refine Nat.le_of_not_lt fun q=>?_
  have q':(n:Int) < ((ns.length:Nat):Int):=by omega
  first
   | (rw [bW q'] at Y; exact absurd Y (by decide))
   | (simp at Y; omega)
 cases a1 with
 | cons w1 w2=>
  cases w2;cases w1 with
  | list ho O=>exact ⟨_,_,ns,rfl,rfl,ho,Q0f ns _ O,J⟩
theorem Qcf (l:OpenLaw) (args:List WData):l.row.toRowW.claim.post args (.bool true) args=true:=
 postW_of (r:=l.row.toRowW) (X:=(true == true))
  (show WShape.has [] (.bool true) .bool=true by first | rfl | decide | simp [WShape.has,WShape.arms,WShape.armsAll])
  (show (WTm.eq .res (.lit (.bool true))).value [] { args:=args,res:=some (.bool true),after:=args }=some (.bool (true == true)) from w_eq_bool (w_res rfl) w_lit) rfl
theorem attach_call {l:OpenLaw} {n:Nat} {q:aK} {I:List Str} {XP:(Str->Option aA)->Heap->Prop} {YP:aJ->Heap->Prop} {d:DefRec}
  (hn:l.most=some n) (a3:d.params.defaults=[])
  (call:∀ (w:aJ) (s₀ z:aC) (mg mb:Str->Option aA) (fa:aB) (o:Obj) (pm cd J:aA) (a:aB) (vs:List aA) (ns:List Int),
   Ground q I [] XP w s₀ mg mb z.heap->YP w z.heap ->
   z.heap.get? fa=some o->o.data=.func (docDef d.name d.params d.body d.scope pm cd J)->z.heap.CodeRec cd d.name->mg d.name=some (.ref fa) ->
   z.heap.get? a=some { cls:=.type "list",data:=.seq vs.toArray }->IntsAre vs ns->ns.length<=n->z.gens=#[] ->
   codeAny (aI l.prog w) callerA (.call (.ref fa) ⟨[.ref a],[]⟩) (fun r s'=>r=.ok (.ret (.bool true))/\OldK z.heap s'.heap/\s'.os=z.os/\AllBare s'.gens) z) :
  WalkO q I XP YP l.row.toRowW d [] (fun f vs=>PySem.call f vs):=by
 intro w s₀ z mg mb G Y fa o pm cd J dV kV ho hd a4 hD a2 hg args a6 as a1 a7 a8 a5 a9;obtain rfl:dV=.none:=Dflts.none hD a3;obtain rfl:kV=.none:=Dflts.noKw hD;obtain ⟨a,vs,ns,rfl,rfl,Z,O,U⟩:=Qc9 hn a1 a5;refine enter_call (bR (call w s₀ z mg mb fa o pm cd J a vs ns G Y ho (fd_plain hd) a4 a2 Z O U hg) fun r s' hq=>?_)
 obtain ⟨rfl,h2,h3,h4⟩:=hq;exact ⟨.inl ⟨.bool true,.bool true,[],rfl,fun _=>rfl,.bool true,Qcf l _,fun _=>⟨List.Pairwise.nil,fun _ hm=>(nomatch hm)⟩⟩,h2,h3,h4⟩
end Att
namespace L2
open PySem PySem.Spec PyProof.Rows
variable {k:Nat} {a f it l:aB} {fd:aQ} {x:Str} {ns:List Int} {st:aL} {h h':Heap} {Q:aA->aC->Prop} {xs:List V} {o:HO} {cl:List (Str × aB)}
theorem Q37:∀ {vs:List aA} {ns:List Int},IntsAre vs ns->Vals (ns.map V.int) vs
 | _,_,.nil=>.nil
 | _,_,.cons n t h=>.cons ⟨t,rfl⟩ (Q37 h)
def Qsb (H:Hp):Prop:=∀ b,H b=none\/∃ o xs,H b=some (.frz o (.lst xs))
theorem Qgp {P:aK} {w:aJ} {K:PySem.W.Frag} {mg mb:Str->Option aA} {CX:CXT} {k:Nat} {fa a:aB} {fd:aQ} {x:Str} {sp:Sp} {I:aC} {vs:List aA} {ns:List Int}
  (KX:K.In I.heap) (a4:I.heap.Ns aU mg) (O:I.heap.Ns builtinsNs mb) (a8:∀ x:Str,x≠"__name__" -> mb x=aX x) (a1:I.heap.NoLimit) (hg:I.gens=#[])
  (ha:I.heap.get? a=some { cls:=.type "list",data:=.seq vs.toArray }) (hi:IntsAre vs ns) (hl:ns.length<=sizeLine) (hr:Room k callerA)
  (F:∀ base:Heap,K.In base->base.Ns aU mg->FnOk P w K mg base CX k fa fd [x] sp) (Z:∀ (s:aC) (u:aA),BindsTo s fd ⟨[u],[]⟩ [(x,u)])
  (a7:∀ H:Hp,Qsb H->SqL K H a (ns.map V.int)->sp [.ref a] H (fun v _=>v=.bl true) fun _ _ _=>False)
  (a6:∀ H e s',CX [] H I (fun _ _ _=>False) e s'->False) :
  codeAny (aI P w) callerA (.call (.ref fa) ⟨[.ref a],[]⟩) (fun r s'=>r=.ok (.ret (.bool true))/\OldK I.heap s'.heap/\s'.os=I.os/\AllBare s'.gens) I:=by
 have rv:=Q37 hi;have a2:=hi.length;have Y:∀ H:Hp,Qsb H->SqL K H a (ns.map V.int)->HOk P w H I.heap->(∀ b,H b≠none->b=a)->(H a≠none->K.lookup a=none) ->
   codeAny (aI P w) callerA (.call (.ref fa) ⟨[.ref a],[]⟩) (fun r s'=>r=.ok (.ret (.bool true))/\OldK I.heap s'.heap/\s'.os=I.os/\AllBare s'.gens) I:=by
  intro H hO hS hok hA hK;have J:∀ {b:aB} {o:Obj},I.heap.get? b=some o->H b=none->(Q5a I.heap H).get? b=some o:=fun e n=>Qh6 e n
  have a9:∀ {b:aB} {o:Obj} {es:Array DictEntry} {ep:Nat},I.heap.get? b=some o->o.data=.dict es ep->H b=none:=fun {b o es ep} e d=>by
   cases q:H b with
   | none=>rfl
   | some u=>
    have e':b=a:=hA b (by rw [q]; simp);subst e';rw [ha] at e; cases e;have d':Data.seq vs.toArray _=Data.dict es ep:=d;cases d'
  have U:∀ {b:aB} {m:Str->Option aA},I.heap.Ns b m->(Q5a I.heap H).Ns b m:=fun {b m} ⟨o,es,ep,e,d,r⟩=>⟨o,es,ep,J e (a9 e d),d,r⟩
  have a3:K.In (Q5a I.heap H):=fun b o e=>J (KX b o e) (by
   cases q:H b with
   | none=>rfl
   | some u=>
    have e':b=a:=hA b (by rw [q]; simp);subst e';rw [hK (by rw [q]; simp)] at e; cases e)
  have hM:Mod K mg (Q5a I.heap H):=⟨a3,U a4,⟨mb,U O,a8⟩,let ⟨mc,h1,h2⟩:=a1; ⟨mc,U h1,h2⟩⟩;have e0:Env0 P w K mg (Q5a I.heap H) callerA [] I H:=⟨rfl,hM,fun b o e=>Qkm e,Nat.le_of_eq (Qd6 _ _),trivial,fun b O=>absurd (show b∈([]:List aB) from O) (by simp),hok,.of_eq hg⟩;refine bR ((F _ a3 (U a4)).run callerA [] I H ⟨[.ref a],[]⟩ [.ref a] [.ref a] _ _ hr e0 (Z I (.ref a)) (.cons rfl .nil) (a7 H hO hS)) fun r s' h=>?_
  cases r with
  | error e=>exact (a6 H e s' h).elim
  | ok fl=>
   cases fl with
   | next=>exact False.elim h
   | brk=>exact False.elim h
   | cont=>exact False.elim h
   | ret u=>
    obtain ⟨v,H',os,bare,un,a5,r',q⟩:=h;have q':v=.bl true:=q;subst q';obtain rfl:u=Value.bool true:=r';refine ⟨rfl,OldK.of_keep fun b o e=>?_,os,bare⟩;cases q:H b with
    | none=>exact un.keep b o e q (by intro z; exact absurd (show b∈([]:List aB) from z) (by simp)) (by simp)
    | some u=>
     rcases hO b with z | ⟨ob,xs,z⟩
     ·rw [q] at z; cases z
     ·have z2:=un.frzs b ob _ z;obtain ⟨e1,_⟩:=hok b _ z;obtain ⟨e2,_⟩:=a5 b _ z2;rw [e] at e1; cases e1;exact e2
 cases hk:K.lookup a with
 | some o=>
  have e:=KX a o hk;rw [ha] at e;cases e;refine Y (fun _=>none) (fun _=>.inl rfl) (.inr ⟨_,vs.toArray,_,hk,rfl,rfl,rfl,by rw [O8,a2]; exact hl,by simpa using rv⟩) (fun b u z=>by have z':(none:Option HO)=some u:=z; cases z') (fun b z=>absurd rfl z) fun z=>absurd rfl z
 | none=>
  refine Y (fun b=>if b=a then some (.frz { cls:=.type "list",data:=.seq vs.toArray } (.lst (ns.map V.int))) else none) (fun b=>?_) (.inl (.inr ⟨{ cls:=.type "list",data:=.seq vs.toArray },bT rfl⟩)) (fun b u z=>?_) (fun b z=>?_) fun _=>hk
  ·by_cases O:b=a
   ·exact .inr ⟨_,_,bT O⟩
   ·exact .inl (bU O)
  ·by_cases O:b=a
   ·have z':=(bT O).symm.trans z;cases z';subst O;exact ⟨ha,by rw [O1]; exact hl,vs,_,rv,ha⟩
   ·have z':=(bU O).symm.trans z;cases z'
  ·by_cases O:b=a
   ·exact O
   ·exact absurd (bU O) z
theorem walk_of {l:PySem.W.OpenLaw} {n k:Nat} {q:aK} {I:List Str} {XP:(Str->Option aA)->Heap->Prop} {YP:aJ->Heap->Prop} {d:DefRec} {K:Params->PySem.W.Frag} {CX:aJ->CXT} {sp:aJ->Sp} {x:Str}
  (hn:l.most=some n) (a2:n<=sizeLine) (a5:d.params.defaults=[]) (hr:Room k callerA)
  (hY:∀ (w:aJ) (h:Heap),YP w h->(K w.params).In h)
  (F:∀ (w:aJ) (mg:Str->Option aA) (Z:aB) (h:Heap),(K w.params).In h->h.Ns aU mg->mg d.name=some (.ref Z) ->
   ∃ fd:aQ,(∀ (s:aC) (u:aA),BindsTo s fd ⟨[u],[]⟩ [(x,u)]) /\
    ∀ base:Heap,(K w.params).In base->base.Ns aU mg->FnOk l.prog w (K w.params) mg base (CX w) k Z fd [x] (sp w))
  (a4:∀ (w:aJ) (H:Hp) (a:aB) (ns:List Int),ns.length<=n->Qsb H->SqL (K w.params) H a (ns.map V.int)->sp w [.ref a] H (fun v _=>v=.bl true) fun _ _ _=>False)
  (a3:∀ (w:aJ) (H:Hp) (s:aC) (e:aA) (s':aC),CX w [] H s (fun _ _ _=>False) e s'->False) :
  PySem.W.WalkO q I XP YP l.row.toRowW d [] (fun f vs=>PySem.call f vs):=by
 refine Att.attach_call hn a5 fun w s₀ U mg mb Z o pm cd a6 a vs ns G Y ho hd a7 a1 O J z hg=>?_
 have KX:=hY w _ Y;obtain ⟨fd,hb,hF⟩:=F w mg Z _ KX G.T.g a1;exact Qgp KX G.T.g G.T.b G.T.builtins G.T.nolimit hg O J (E6 z a2) hr hF hb (fun H hO hS=>a4 w H a ns z hO hS) fun H e s'=>a3 w H U e s'
def Zq (s:aL):Arguments:=match s with
 | .FunctionDef _ a _ _ _ _ _ _ _ _=>a
 | _=>{ posonlyargs:=[],args:=[],vararg:=none,kwonlyargs:=[],kw_defaults:=[],kwarg:=none,defaults:=[] }
def Jm (s:aL):List aL:=match s with
 | .FunctionDef _ _ b _ _ _ _ _ _ _=>b
 | _=>[]
def Q7 (s:aL):Scope:=match s with
 | .FunctionDef _ _ _ _ _ _ sc _ _ _=>sc
 | _=>{ kind:=.function,names:=[],isGenerator:=false,isCoroutine:=false }
abbrev E0:XK:=fun _ _ _=>False
structure Fun (K:PySem.W.Frag) (x qual:Str) (st:aL) (f:aB) (fd:aQ):Prop where
 ex:∃ (oc:aA) (od:Option aB) (kV doc pm:aA) (an:Option aB) (cdv ct:aA) (osl:Array (Option aA)),
  fd=PySem.W.fnOf x qual (Zq st) (Jm st) (Q7 st) .none kV doc pm an cdv ct/\K.lookup f=some ⟨oc,od,.func fd,osl⟩/\PySem.W.codeIn K cdv qual=true
 kp:PySem.W.keepIn K (.ref f)=true
variable {P:aK} {K:PySem.W.Frag} {mg:Str->Option aA} {base:Heap}
section
variable {w:aJ}
theorem Fun.binds {qual:Str} {ps:List Str} (F:Fun K x qual st f fd)
  (h:∀ (kV q I:aA) (J:Option aB) (z ct:aA) (us:List aA),us.length=ps.length->bindArgs (PySem.W.fnOf x qual (Zq st) (Jm st) (Q7 st) .none kV q I J z ct) ⟨us,[]⟩=pure (ps.zip us)):Binds K fd ps []:=by
 obtain ⟨oc,Z,kV,q,I,J,z,ct,U,rfl,Y,O⟩:=F.ex;exact .all (h kV q I J z ct)
theorem Qhd {qual:Str} {oc:aA} {U O:Option aB} {I:Array (Option aA)} {kV z J q ct:aA} (l:K.lookup f=some ⟨oc,U,.func (PySem.W.fnOf x qual (Zq st) (Jm st) (Q7 st) .none kV z J O q ct),I⟩)
  (c:PySem.W.codeIn K q qual=true) (k:PySem.W.keepIn K (.ref f)=true):Fun K x qual st f (PySem.W.fnOf x qual (Zq st) (Jm st) (Q7 st) .none kV z J O q ct):=⟨⟨oc,U,kV,z,J,O,q,ct,I,rfl,l,c⟩,k⟩
end
variable {X:Cx}
theorem pv (i:Nat) {pos:Pos} (z:X.N[i]?=some x:=by rfl) (I:Vis X.env.scope x:=by first | exact Or.inl rfl | exact Or.inr (Or.inl rfl) | exact Or.inr (Or.inr rfl)) (hd:(x == ("__debug__" : Str))=false:=by decide)
  (q:(x == ("__classdict__" : Str))=false:=by decide):PE X (.Name x pos) (Qsz i):=Qfn z I hd q
def Same (H H':Hp):Prop:=∀ b o,H b=some o->H' b=some o
theorem Same.refl (H:Hp):Same H H:=fun _ _ h=>h
theorem Q9m {scope:Scope} {env:Env} (h:∀ x∈scope.names,x.2=.free->∃ c,env.cells.lookup x.1=some c) :
  ∃ cl,closureFor scope env=pure cl/\(∀ x c,cl.lookup x=some c->env.cells.lookup x=some c)/\(∀ x∈scope.names,x.2=.free->∃ c,cl.lookup x.1=some c):=by
 have a2:∀ (l:List (Str × au)) (acc:List (Str × aB)),(∀ x∈l,x.2=.free->∃ c,env.cells.lookup x.1=some c)->(∀ x c,acc.lookup x=some c->env.cells.lookup x=some c) ->
   ∃ cl,(forIn l acc fun (x:Str × au) (r:List (Str × aB))=>(match x with
    | (name,kind)=>if (kind == NameKind.free)=true then (do let c <- cellOf env name; pure (ForInStep.yield ((name,c) :: r))) else (do pure PUnit.unit; pure (ForInStep.yield r)):Sem (ForInStep (List (Str × aB)))))=pure cl /\
    (∀ x c,cl.lookup x=some c->env.cells.lookup x=some c)/\(∀ x∈l,x.2=.free->∃ c,cl.lookup x.1=some c)/\(∀ x c,acc.lookup x=some c->∃ I,cl.lookup x=some I):=by
  intro l
  induction l with
  | nil=>intro acc _ ha; exact ⟨acc,rfl,ha,fun x hx=>(by simp at hx),fun x c e=>⟨c,e⟩⟩
  | cons x r ih=>
   intro acc hl ha;obtain ⟨n,k⟩:=x
   by_cases hk:k=.free
   ·subst hk;obtain ⟨c,hc⟩:=hl (n,.free) E7 rfl;have a1:∀ x I,((n,c) :: acc).lookup x=some I->env.cells.lookup x=some I:=fun x I e=>by
     rw [List.lookup_cons] at e
     by_cases hx:x=n
     ·subst hx; simp at e; rw [<- e]; exact hc
     ·have:(x == n)=false:=by simpa using hx
      rw [this] at e; exact ha x I e
    obtain ⟨cl,U,O,Z,Y⟩:=ih ((n,c) :: acc) (fun y q=>hl y (O4 _ q)) a1
    refine ⟨cl,?_,O,fun y q hf=>?_,fun y I e=>?_⟩
    ·rw [List.forIn_cons];have J:cellOf env n=pure c:=by unfold cellOf; rw [hc]
     simp only [beq_self_eq_true,if_true,J];exact U
    ·rcases D7.mp q with e | q
     ·subst e;exact Y n c (by simp)
     ·exact Z y q hf
    ·by_cases q:y=n
     ·subst q; exact Y y c (by simp)
     ·have:(y == n)=false:=by simpa using q
      exact Y y I (by rw [List.lookup_cons,this]; exact e)
   ·obtain ⟨cl,U,O,Z,Y⟩:=ih acc (fun y q=>hl y (O4 _ q)) ha
    refine ⟨cl,?_,O,fun y q hf=>?_,Y⟩
    ·rw [List.forIn_cons];have:(k == NameKind.free)=false:=by simpa using hk
     simp only [this,F2,if_false];exact U
    ·rcases D7.mp q with e | q
     ·subst e; exact absurd hf hk
     ·exact Z y q hf
 obtain ⟨cl,U,O,Z,_⟩:=a2 scope.names [] h (fun x c e=>by simp at e);refine ⟨cl,?_,O,Z⟩;unfold closureFor;exact (congrArg (fun z=>z >>= pure) U).trans rfl
theorem zc (f:Str->au->au) (x:Str):∀ l:List (Str × au),(l.map fun y=>(y.1,f y.1 y.2)).lookup x=(l.lookup x).map (f x)
 | []=>rfl
 | (n,k) :: r=>by
  have z:=zc f x r;rw [D0,List.lookup_cons,List.lookup_cons]
  by_cases q:x=n
  ·subst q; simp
  ·have I:(x == n)=false:=by simpa using q
   rw [I]; exact z
theorem Xu {scope:Scope} {env:Env} :(relabel scope env).names.lookup x =
  (scope.names.lookup x).map fun k=>if (k == .free && env.scope.kind == .function && env.kindOf x == some .cell) then .cell else k:=by
 rw [<- zc (fun n k=>if (k == .free && env.scope.kind == .function && env.kindOf n == some .cell) then .cell else k)]
 unfold relabel;refine congrArg (List.lookup x) (N0 fun y _=>?_);obtain ⟨n,k⟩:=y;show (if (k == NameKind.free && env.scope.kind == .function && env.kindOf n == some .cell)=true then (n,NameKind.cell) else (n,k))=_
 split <;> rfl
def zn (cap:List (Option Nat)) (σ:St):St:=cap.map fun c=>c.bind fun j=>(σ[j]?).join
def HasItems (t:Bool) (h:Heap) (a:aB) (items:Array aA):Prop:=if t=true then h.IsTuple a items else h.IsList a items
def IterAt (t:Bool) (h:Heap) (it a:aB) (i:Nat):Prop:=if t=true then h.IsTupleIter it a i else h.IsListIter it a i
theorem HasItems.at {t:Bool} {q:Array aA} (x:HasItems t h a q) (k:∀ o,h.get? a=some o->h'.get? a=some o):HasItems t h' a q:=by
 cases t
 ·exact Heap.IsList.at x k
 ·obtain ⟨o,e,r⟩:=x;exact ⟨o,k o e,r⟩
theorem HasItems.there {t:Bool} {q:Array aA} (x:HasItems t h a q):∃ o,h.get? a=some o:=by
 cases t
 ·obtain ⟨o,e,_⟩:=x; exact ⟨o,e⟩
 ·obtain ⟨o,e,_⟩:=x; exact ⟨o,e⟩
theorem IterAt.at {t:Bool} {i:Nat} (x:IterAt t h it a i) (k:∀ o,h.get? it=some o->h'.get? it=some o):IterAt t h' it a i:=by
 cases t
 ·exact Heap.IsListIter.at x k
 ·obtain ⟨o,e,r⟩:=x;exact ⟨o,k o e,r⟩
theorem IterAt.there {t:Bool} {i:Nat} (x:IterAt t h it a i):∃ o,h.get? it=some o/\∀ v,o.data≠.cell v:=by
 cases t
 ·obtain ⟨o,e,_,d⟩:=x; exact ⟨o,e,fun v z=>by rw [d] at z; cases z⟩
 ·obtain ⟨o,e,_,d⟩:=x; exact ⟨o,e,fun v z=>by rw [d] at z; cases z⟩
variable {prog:aK} {A:aM} {E:aA->aC->Prop} {s:aC}
section
variable {w:aJ}
theorem jv {i:Nat} {items} {x:aA} {Q:aA->aC->Prop} (q:s.heap.IsTupleIter it l i)
  (Z:s.heap.IsTuple l items) (Y:items[i]?=some x)
  (U:∀ h',h'.IsTupleIter it l (i + 1)->Heap.SameBut it s.heap h'->Q x { s with heap:=h' }) :
  aF (aI prog w) A (Builtin.SmallTypes.nextOf (.ref it)) Q E s:=by
 obtain ⟨o,z,O,hd⟩:=id q;obtain ⟨ol,I,_,nl,J⟩:=Z;unfold Builtin.SmallTypes.nextOf;refine aD (wpAny_callSpecial?_slot (name:=Str.ofString "__next__") q.typeIs F.slot_tuple_iterator_next
  (ag F.slot_tuple_iterator_next q.typeIs F.entry_tuple_iterator_next ?_ (F.args_tuple_iterator_next_1 _)))
 show aF _ _ (field (.ref it) 0 >>= _) _ _ s;refine aD (ay z hd (x:=.ref l) rfl ?_);show aF _ _ (if (Value.ref l == Value.none)=true then _ else _) _ _ s;rw [bU (show ¬ ((Value.ref l == Value.none)=true) from D4)];show aF _ _ (field (.ref it) 1 >>= _) _ _ s;refine aD (ay z hd (x:=.int i 0) rfl ?_);show aF _ _ (seqItems? (.ref l) >>= _) _ _ s;refine aD (bA I J ?_);simp only [Int.toNat_natCast,Y];refine aD (wpAny_setField z hd (by simp) (wpAny_pure ⟨x,rfl,wpAny_pure (U _ ?_ (Heap.SameBut.update ..))⟩));exact ⟨_,L5 _ z (Obj.isFreed_of_fields (Obj.data_mapFields hd _)),(Obj.cls_mapFields ..).trans O,by
  rw [Obj.data_mapFields hd]; simp [aV]⟩
theorem yp {it l:aB} {i:Nat} {items} {Q:aA->aC->Prop} (O:A.handled=none)
  (q:s.heap.IsTupleIter it l i) (Z:s.heap.IsTuple l items) (Y:items[i]?=none)
  (U:∀ h' e,Heap.ExtBut it s.heap h'->(∃ o,h'.get? e=some o/\o.cls=.type "StopIteration")->E (.ref e) { s with heap:=h' }) :
  aF (aI prog w) A (Builtin.SmallTypes.nextOf (.ref it)) Q E s:=by
 obtain ⟨o,z,hc,hd⟩:=id q;obtain ⟨ol,I,_,nl,J⟩:=Z;unfold Builtin.SmallTypes.nextOf;refine aD (wpAny_callSpecial?_slot (name:=Str.ofString "__next__") q.typeIs F.slot_tuple_iterator_next
  (ag F.slot_tuple_iterator_next q.typeIs F.entry_tuple_iterator_next ?_ (F.args_tuple_iterator_next_1 _)))
 show aF _ _ (field (.ref it) 0 >>= _) _ _ s;refine aD (ay z hd (x:=.ref l) rfl ?_);show aF _ _ (if (Value.ref l == Value.none)=true then _ else _) _ _ s;rw [bU (show ¬ ((Value.ref l == Value.none)=true) from D4)];show aF _ _ (field (.ref it) 1 >>= _) _ _ s;refine aD (ay z hd (x:=.int i 0) rfl ?_);show aF _ _ (seqItems? (.ref l) >>= _) _ _ s;refine aD (bA I J ?_);simp only [Int.toNat_natCast,Y];refine aD (bQ (aD (wpAny_setField z hd (by simp) ?_)));show aF _ _ (newExc (.type "StopIteration") [] >>= _) _ _ _;refine aD ?_;simp only [newExc,newTuple];refine aD (av ?_ (by size_fits));refine aD (m:=firstArgMember _ _) (wpAny_of_eq (a:=Value.none) (by first | rfl | (simp only [firstArgMember]; rfl)) ?_);refine av ?_ (by size_fits);simp only [bS]
 refine aD (wpAny_handled ?_)
 first | rw [show A.in1.handled=none from O] | rw [O]
 refine aD (wpAny_pure (wpAny_throw ?_));exact U _ _ (((Heap.SameBut.update ..).extBut.push _).push _) ⟨_,D8 _ rfl,rfl⟩
theorem Q6u {t:Bool} {i:Nat} {q:Array aA} {x:aA} {Q:aA->aC->Prop} (z:IterAt t s.heap it l i)
  (O:HasItems t s.heap l q) (J:q[i]?=some x)
  (I:∀ h',IterAt t h' it l (i + 1)->Heap.SameBut it s.heap h'->Q x { s with heap:=h' }) :
  aF (aI prog w) A (Builtin.SmallTypes.nextOf (.ref it)) Q E s:=by
 cases t
 ·exact wpAny_nextOf_list_item z O J I
 ·exact jv z O J I
theorem Q1q {t:Bool} {it l:aB} {i:Nat} {q:Array aA} {Q:aA->aC->Prop} (J:A.handled=none)
  (z:IterAt t s.heap it l i) (U:HasItems t s.heap l q) (O:q[i]?=none)
  (I:∀ h' e,Heap.ExtBut it s.heap h'->(∃ o,h'.get? e=some o/\o.cls=.type "StopIteration")->E (.ref e) { s with heap:=h' }) :
  aF (aI prog w) A (Builtin.SmallTypes.nextOf (.ref it)) Q E s:=by
 cases t
 ·exact wpAny_nextOf_list_end J z U O I
 ·exact yp J z U O I
def Kw (t:Bool) (l:aB):Obj:=if t=true then { cls:=.type "tuple_iterator",data:=.fields #[.ref l,.int 0 0] } else { cls:=.type "list_iterator",data:=.fields #[.ref l,.int 0 0] }
theorem Q19 {t:Bool} {q:Array aA} {Q:aA->aC->Prop} (z:HasItems t s.heap l q)
  (I:Q (.ref s.heap.objs.size) { s with heap:=s.heap.push (Kw t l) }):aF (aI prog w) A (pyIter (.ref l)) Q E s:=by
 cases t
 ·exact wpAny_pyIter_list z I
 ·exact bM z I
theorem Q9b {t:Bool} (e:h.get? it=some (Kw t l)):IterAt t h it l 0:=by
 cases t
 ·exact ⟨_,e,rfl,rfl⟩
 ·exact ⟨_,e,rfl,rfl⟩
theorem Q58 (t:Bool) (l:aB):(Kw t l).isFreed=false:=by cases t <;> rfl
end
def SqK (K:PySem.W.Frag) (t:Bool) (H:Hp) (a:aB) (xs:List V):Prop:=if t=true then SqT K H a xs else SqL K H a xs
variable {pins:List (aB × Obj)} {σ:St} {H:Hp}
theorem Inv.seqK {t:Bool} (I:Inv X pins σ H s) (h:SqK X.K t H a xs):∃ its:List aA,Vals xs its/\HasItems t s.heap a its.toArray/\xs.length<=sizeLine:=by
 cases t
 ·obtain ⟨its,r,p,z⟩:=I.list h;exact ⟨its,r,p.isList,z⟩
 ·obtain ⟨its,r,p,z⟩:=I.tuple h;exact ⟨its,r,p,z⟩
theorem Inv.seqK_inj {t:Bool} {ys:List V} (I:Inv X pins σ H s) (h:SqK X.K t H a xs) (h':SqK X.K t H a ys):xs=ys:=by
 cases t
 ·exact I.list_inj h h'
 ·exact I.tuple_inj h h'
theorem Inv.turnedL {t':Nat} {its:List aB} (I:Inv X pins σ H s) (k:∀ b o,b∉its->s.heap.get? b=some o->h'.get? b=some o) (U:∀ b∈its,Q2s X pins H b):Inv X pins σ H { s with heap:=h',toks:=t' }:=by
 have O:∀ b u,H b=some u->b∉its:=fun b u e z=>by rw [(U b z).1] at e; cases e
 refine I.step (g':=s.gens) (d':=s.drawn) (ch:=its) (fun b Y=>?_) (fun b o _ _ J e _=>k b o J e) (fun b o _ _ J e _=>⟨o.slots,k b o J e⟩) (fun _ _ _ _ n=>n)
  (fun b o J e=>⟨o,k b o J e⟩) (fun _ _ e=>e) (fun _ _ _ e=>e) (fun b ps e=>⟨#[],by rw [e]; simp⟩) (fun m hm=>?_) (fun b u e=>?_) I.bare
 ·obtain ⟨f0,f1,f2,f3,f4,f5⟩:=U b Y;exact ⟨f3,f1,f4,f5⟩
 ·obtain ⟨o,es,ep,Z,r⟩:=hm;exact ⟨o,es,ep,k _ o (fun z=>(U _ z).2.1 rfl) Z,r⟩
 ·refine (I.hok b u e).stay (fun c v J q=>k c v ?_ q) (fun _ q=>q) fun _ _ q=>q
  rcases J with z | z
  ·rw [z]; exact O b u e
  ·exact O c _ z
theorem Qdt {prog:aK} {w:aJ} (O:A.handled=none) (t:Bool) (I z:aB) (J:z≠I) (q:Array aA) :
  Walks prog w A I [I,z] [I] q.size (fun i v=>q[i]?=some v) (fun i h=>IterAt t h I z i/\HasItems t h z q):=by
 cases t
 ·exact Walks.list O I z J q
 ·exact Walks.tuple O I z J q
theorem Qb4 {α:Type} (l:List α) (d:α) {n:Nat} (h:n < l.length):l.getD n d=l[n]:=by simp [List.getD,h]
theorem Inv.movedNew {s':aC} (I:Inv X pins σ H s) {o:Obj} (m:Moved [s.heap.objs.size] (fun a b=>b=a) { s with heap:=s.heap.push o } s'):Inv X pins σ H s':=by
 obtain ⟨m1,U,q,Y,m5⟩:=m;obtain ⟨h',g',d',t',o'⟩:=s';have O:g'=s.gens:=U;have J:d'=s.drawn:=q;have Z:o'=s.os:=Y;subst O J Z;refine I.kept (t':=t') fun b u e=>m1 b u (fun z=>?_) (O3 _ e)
 have:b=s.heap.objs.size:=by simpa using z
 exact absurd (D5 e) (by rw [this]; exact L8 _)
theorem Q7d {its:List aA} (r:Vals (ns.map V.int) its):∀ (i:Nat) (v:aA),its.toArray[i]?=some v->∃ t,v=Value.int (ns.getD i 0) t:=fun i v e=>by
 have q:its[i]?=some v:=by simpa using e
 have hi:i < its.length:=(O0.mp q).1;have J:=r.length;rw [O1] at J;have I:(ns.map V.int)[i]?=some (V.int (ns.getD i 0)):=by
  have:i < ns.length:=by omega
  simp [List.getD,this]
 obtain ⟨u,z,t,ru⟩:=r.get I;rw [q] at z;cases z;exact ⟨t,ru⟩
theorem Qdn {bs:List Bool} {its:List aA} (r:Vals (bs.map V.bl) its):∀ (i:Nat) (v:aA),its.toArray[i]?=some v->v=Value.bool (bs.getD i false):=fun i v e=>by
 have q:its[i]?=some v:=by simpa using e
 have hi:i < its.length:=(O0.mp q).1;have J:=r.length;rw [O1] at J;have I:(bs.map V.bl)[i]?=some (V.bl (bs.getD i false)):=by
  have:i < bs.length:=by omega
  simp [List.getD,this]
 obtain ⟨u,z,ru⟩:=r.get I;rw [q] at z;cases z;exact ru
theorem zd {t:Bool} {q:Array aA} (I:HasItems t s.heap l q):l≠s.heap.objs.size /\
  (IterAt t (s.heap.push (Kw t l)) s.heap.objs.size l 0/\HasItems t (s.heap.push (Kw t l)) l q)/\∀ b∈[s.heap.objs.size,l],b < (s.heap.push (Kw t l)).objs.size:=by
 obtain ⟨o,e⟩:=I.there;have z:=D5 e;refine ⟨E8 z,⟨Q9b (D8 _ (Q58 _ _)),I.at fun o e=>O3 _ e⟩,fun b J=>?_⟩
 rw [G9];simp at J;rcases J with rfl | rfl
 ·exact Nat.lt_succ_self _
 ·exact Nat.lt_succ_of_lt z
theorem Qcb (bs:List Bool):(List.range bs.length).all (fun i=>bs.getD i false)=bs.all id:=by
 induction bs with
 | nil=>rfl
 | cons b r q=>
  rw [O9,List.range_succ_eq_map,List.all_cons,List.all_map,List.all_cons,<- q];rfl
theorem Qi1 (t:Bool) (Y:X.calm=true):W6 X (.builtin "all") (fun xs H Q=>∃ (a:aB) (bs:List Bool),xs=[.ref a]/\SqK X.K t H a (bs.map V.bl)/\Q (.bl (bs.all id)) H):=by
 intro pins s σ H xs us Q I r h;obtain ⟨a,bs,rfl,hq,q⟩:=h;obtain ⟨u,rfl,r1⟩:=Uk r;cases r1;obtain ⟨its,J,p,_⟩:=I.seqK hq;obtain ⟨U,w2,w3⟩:=zd p;have z:=J.length;rw [O1] at z;refine call_all_walkS (Q19 p ⟨_,_,_,_,_,_,_,fun j=>bs.getD j false,rfl,(Qdt (A:=X.A.in1) (I.ok.hd Y) t _ a U its.toArray).toS,w2,fun i v s' Q' E' O Z=>?_,fun s' m=>?_⟩)
 ·rw [Qdn J i v O];exact bB Z
 ·refine ⟨.bl (bs.all id),H,I.movedNew m,?_,q⟩;show Value.bool _=_;rw [O8,<- z,Qcb]
theorem Qdg (t:Bool) (hc:X.calm=true):W6 X (.builtin "min") (fun xs H Q=>∃ (a:aB) (ns:List Int),xs=[.ref a]/\SqK X.K t H a (ns.map V.int)/\ns≠[]/\∀ m,m∈ns->(∀ k,k∈ns->m<=k)->Q (.int m) H):=by
 intro pins s σ H xs us Q I r h;obtain ⟨a,ns,rfl,hq,J,q⟩:=h;obtain ⟨u,rfl,r1⟩:=Uk r;cases r1;obtain ⟨its,O,p,_⟩:=I.seqK hq;obtain ⟨Z,w2,w3⟩:=zd p;have hl:=O.length;rw [O1] at hl;have U:0 < ns.length:=List.length_pos_iff.mpr J;refine call_min_walkS (Q19 p ⟨_,_,_,_,_,_,_,_,rfl,(Qdt (A:=X.A.in1) (I.ok.hd hc) t _ a Z its.toArray).toS,w2,w3,by rw [O8]; omega,CmpOf.ints_lt (fun j=>ns.getD j 0) (fun i v z=>Q7d O i v z),fun v s' z m=>?_⟩);obtain ⟨t',rfl⟩:=Q7d O _ _ z;obtain ⟨h1,h2⟩:=argBest_lt (fun j=>ns.getD j 0) (its.toArray.size - 1);have Y:argBest (fun i j=>decide (ns.getD i 0 < ns.getD j 0)) (its.toArray.size - 1) < ns.length:=by
  have e':its.toArray.size=ns.length:=by rw [O8]; omega
  rw [e'] at h1 ⊢;exact Nat.lt_of_le_of_lt h1 (by omega)
 refine ⟨.int (ns.getD (argBest (fun i j=>decide (ns.getD i 0 < ns.getD j 0)) (its.toArray.size - 1)) 0),H,I.movedNew m,⟨t',rfl⟩,q _ ?_ fun k hk=>?_⟩
 ·rw [Qb4 _ _ Y];exact M9 Y
 ·obtain ⟨j,hj,rfl⟩:=List.mem_iff_getElem.mp hk;have:=h2 j (by rw [O8]; omega);rw [Qb4 _ _ hj] at this;exact this
theorem Qrv {prog:aK} {w:aJ} (Y:A.handled=none) (t:Bool) (it l:aB) (J:l≠it) (q:Array aA) :
  Draws prog w A it [it,l] q.size (fun i v=>q[i]?=some v) (fun i h=>IterAt t h it l i/\HasItems t h l q) where
 live:=fun _ _ st=>let ⟨o,e,_⟩:=st.1.there; ⟨o,e⟩
 frame:=fun _ _ _ st O=>⟨st.1.at fun o e=>O it (by simp) o e,st.2.at fun o e=>O l (by simp) o e⟩
 item:=fun i s Q E hi st Z=>by
  refine Q6u st.1 st.2 (x:=q[i]) (by simp [hi]) fun h' I z=>?_
  exact Z _ h' s.toks (by simp [hi]) ⟨I,st.2.at fun o e=>z.extBut _ _ J e⟩ z
 done:=fun s Q E st U=>Q1q Y st.1 st.2 (by simp) U
theorem Q70 (l:aB) (q:Array aA) (n:Nat) (I:Option aB) (Z:Array (Option aA)) :
  Meets (Builtin.«enumerate.__new__» ⟨[.type "enumerate",.ref l],[]⟩) (fun _ R s=>s.heap.get? l=some { cls:=.type "tuple",dict:=I,data:=.seq q n,slots:=Z } /\
   R (.ok (.ret (.ref (s.heap.push { cls:=.type "tuple_iterator",data:=.fields #[.ref l,.int 0 0] }).objs.size)))
    { s with heap:=(s.heap.push { cls:=.type "tuple_iterator",data:=.fields #[.ref l,.int 0 0] }).push { cls:=.type "enumerate",data:=.fields #[.none,.bool false,.ref s.heap.objs.size,aV 0,.none,.none] } }):=
 .of_wp fun prog w A R s h=>by
  obtain ⟨Y,g,d,U,os⟩:=s; obtain ⟨z,h⟩:=h;have O:=sub_enumerate;have J:Heap.IsTuple (Shared.heap ⟨Y,g,d,U,os⟩) l q:=⟨_,z,rfl,n,rfl⟩
  wp_walk using AutoSeq1.wpAny_loadPart' z
  refine wpAny_stack_any fun st=>wpAny_pure ?_
  split
  ·rename_i c _ _ _ _ _;cases (c == Value.type "enumerate")
   ·wp_walk using AutoSeq1.wpAny_loadPart' z,bM J
    exact ⟨_,rfl,h⟩
   ·wp_walk using AutoSeq1.wpAny_loadPart' z,bM J
    exact ⟨_,rfl,h⟩
  ·wp_walk using AutoSeq1.wpAny_loadPart' z,bM J
   exact ⟨_,rfl,h⟩
section
variable {w:aJ}
theorem Q9q {q:Array aA} {Q:aA->aC->Prop} (J:s.heap.IsTuple l q)
  (h:∀ h',IsEnum h' (s.heap.objs.size + 1) s.heap.objs.size 0 .none->h'.IsTupleIter s.heap.objs.size l 0->h'.objs.size=s.heap.objs.size + 2 ->
   (∀ b o,s.heap.get? b=some o->h'.get? b=some o)->Q (.ref (s.heap.objs.size + 1)) { s with heap:=h' }) :
  aF (aI prog w) A (call (.type "enumerate") [.ref l]) Q E s:=by
 obtain ⟨⟨c,z,O,U⟩,hl,hc,n,hd⟩:=J;replace hc:c=.type "tuple" := hc;replace hd:O=.seq q n:=hd;subst hc hd;refine callType_new F.called_enumerate (by decide) (F.typeCall_enumerate_1 _) (F.newCall_enumerate_1 _) (fun obj=>F.args_object_init_2 obj _) F.entry_enumerate_new
  (Q70 l q n z U) ⟨hl,?_⟩
 have hz:(s.heap.push { cls:=.type "tuple_iterator",data:=.fields #[.ref l,.int 0 0] }).objs.size=s.heap.objs.size + 1:=G9 ..;show _/\_;rw [hz];have I:IsEnum ((s.heap.push { cls:=.type "tuple_iterator",data:=.fields #[.ref l,.int 0 0] }).push
   { cls:=.type "enumerate",data:=.fields #[.none,.bool false,.ref s.heap.objs.size,aV 0,.none,.none] }) (s.heap.objs.size + 1) s.heap.objs.size 0 .none:=by
  have:=D8 (s.heap.push { cls:=.type "tuple_iterator",data:=.fields #[.ref l,.int 0 0] })
   (o:={ cls:=.type "enumerate",data:=.fields #[.none,.bool false,.ref s.heap.objs.size,aV 0,.none,.none] }) rfl
  rw [hz] at this; exact this
 refine ⟨⟨_,I,rfl⟩,h _ I ⟨_,O3 _ (D8 _ rfl),rfl,rfl⟩ (by rw [G9,hz]) fun b o x=>O3 _ (O3 _ x)⟩
theorem Q9r {t:Bool} {q:Array aA} {Q:aA->aC->Prop} (z:HasItems t s.heap l q)
  (h:∀ h',IsEnum h' (s.heap.objs.size + 1) s.heap.objs.size 0 .none->IterAt t h' s.heap.objs.size l 0->h'.objs.size=s.heap.objs.size + 2 ->
   (∀ b o,s.heap.get? b=some o->h'.get? b=some o)->Q (.ref (s.heap.objs.size + 1)) { s with heap:=h' }) :
  aF (aI prog w) A (call (.type "enumerate") [.ref l]) Q E s:=by
 cases t
 ·exact call_enumerate_list z h
 ·exact Q9q z h
end
def Ite (K:PySem.W.Frag) (t:Bool) (a:aB):It:=
 ⟨fun i H=>∃ xs x,SqK K t H a xs/\xs[i]?=some x,
  fun i H v H'=>∃ p x,H p=none/\v=.ref p/\H'=upd H p (.tup [.int i,x])/\∀ xs,SqK K t H a xs->xs[i]?=some x,
  fun i H=>∃ xs,SqK K t H a xs/\xs.length<=i⟩
theorem Inv.tracks {s1:aC} {p:aB} {its:List aA} (I:Inv X pins σ H s) (z:Inv X pins σ H s1) (Y:s.heap.objs.size<=p) (J:H p=none) (rv:Vals xs its) (hz:xs.length<=sizeLine)
  (ht:IsTup s1.heap p its.toArray):Inv X pins σ (upd H p (.tup xs)) s1:=by
 refine ⟨z.ok,z.os,z.bare,?_,z.loc,z.cell,?_,?_,?_,?_,z.len⟩
 ·have u0:=z.base;have old:∀ c o,X.s₀.heap.get? c=some o->c≠p:=fun c o e=>E8 (D3 (D5 e) (E6 I.sz Y))
  exact ⟨u0.keep,u0.slot,fun c o e n hx=>by rw [Qa (old c o e)]; exact u0.free c o e n hx,u0.there,
   fun c Z e=>by have:=u0.tups c Z e; rw [Qa (Qb this J)]; exact this,
   fun c o Z e=>by have:=u0.frzs c o Z e; rw [Qa (Qb this J)]; exact this,
   fun c ps e=>by obtain ⟨more,q⟩:=u0.tbls c ps e; exact ⟨more,by rw [Qa (Qb q J)]; exact q⟩⟩
 ·rw [Qa (E8 (D3 I.lt Y))]; exact I.free
 ·intro x' c e;obtain ⟨v',q⟩:=I.cell x' c e;rw [Qa (E8 (D3 q.lt Y))]; exact I.freeC x' c e
 ·intro p' U;obtain ⟨e,n,ne,nf,d⟩:=z.pin p' U;have e0:=(I.pin p' U).1;exact ⟨e,by rw [Qa (E8 (D3 (D5 e0) Y))]; exact n,ne,nf,d⟩
 ·intro c o q
  by_cases O:c=p
  ·subst O;rw [Qv] at q; cases q;exact ⟨hz,its,rv,ht⟩
  ·rw [Qa O] at q;exact (z.hok c o q).stay (fun _ _ _ r=>r) (fun c' r=>by rw [Qa (Qb r J)]; exact r) fun c' Z r=>by rw [Qa (Qb r J)]; exact r
def Qrt (t:Bool) (e it a:aB) (i:Nat) (h:Heap):Prop:=(∃ old,IsEnum h e it i old)/\IterAt t h it a i
theorem Qbx {P:aK} {w:aJ} {K:PySem.W.Frag} {a7:List aH} {k:Nat} {pos:Pos} {t:Bool} {e:aB} (a4:e≠it) (b0:a≠e) (b3:a≠it) :
  Turn P w K (.Tuple a7 k pos) (Ite K t a) [e,it] e (Qrt t e it a) where
 mem:=by simp
 obj:=fun i h st c hc=>by
  obtain ⟨⟨old,O⟩,h1⟩:=st;simp at hc;rcases hc with rfl | rfl
  ·exact ⟨_,O,fun v q=>by cases q⟩
  ·exact h1.there
 keep:=fun i h h' st kk=>by
  obtain ⟨⟨old,O⟩,h1⟩:=st;exact ⟨⟨old,kk e (by simp) _ O⟩,h1.at fun o q=>kk it (by simp) o q⟩
 item:=by
  intro X hP hw hK hc i pins s σ H E I hf st hg;subst hP hw hK;obtain ⟨xs,x,Y,hx⟩:=hg;obtain ⟨⟨old,O⟩,h1⟩:=st;obtain ⟨its,rv,p,_⟩:=I.seqK Y;obtain ⟨ux,a8,b1⟩:=rv.get hx;have a9:i < its.toArray.size:=by rw [O8]; exact (O0.mp a8).1
  refine wpAny_pyNext_enum_itemD (Qrv (A:=X.A.in1) (I.ok.hd hc) t it a b3 its.toArray) O ⟨h1,p⟩ a9 a4 (by simp; exact ⟨a4,fun z=>b0 z.symm⟩) fun x' h' tk a2 ho b2 hT hsz hk=>⟨_,rfl,?_⟩
  have:x'=ux:=by
   have e1:its[i]?=some x':=by simpa using a2
   rw [a8] at e1; exact (Option.some.inj e1).symm
  subst this;refine wpAny_letOwnedTupleGo_enum (s:={ s with heap:=h',toks:=tk + 1 }) ho fun a6 a3 U=>?_
  have elt:e < s.heap.objs.size:=D5 O;have b6:it < s.heap.objs.size:=by obtain ⟨o,q,_⟩:=h1.there; exact D5 q
  have a5:H s.heap.objs.size=none:=I.fresh;have I1:Inv X pins σ H { s with heap:=a6,toks:=tk + 1 }:=I.turnedL (its:=[e,it]) (fun c o J q=>(U.2 c (fun z=>J (by simp [z]))).trans (hk c o (fun z=>J (by simp [z])) (fun z=>J (by simp [z])) q)) fun c J=>hf c J
  have a1:a6.get? s.heap.objs.size=some { cls:=.type "tuple",data:=.seq #[.int i tk,x'] }:=(U.2 _ (Nat.ne_of_gt elt)).trans hT;have I2:=I.tracks (xs:=[.int i,x]) (its:=[.int i tk,x']) I1 (O6 _) a5 (.cons ⟨tk,rfl⟩ (.cons b1 .nil)) (by simp only [O9,List.length_nil]; rw [sizeLine_eq]; decide) ⟨_,a1,rfl,0,rfl⟩;refine ⟨.ref s.heap.objs.size,_,I2,rfl,⟨s.heap.objs.size,x,a5,rfl,rfl,fun b7 q1=>?_⟩,?_,fun c J=>?_⟩
  ·rw [I.seqK_inj q1 Y]; exact hx
  ·exact ⟨⟨x',by simpa using a3⟩,b2.1.at fun o q=>U.extBut _ _ (Ne.symm a4) q⟩
  ·have:=(hf c J).1;have b4:c < s.heap.objs.size:=by simp at J; rcases J with rfl | rfl <;> assumption
   rw [Qa (E8 b4)]; exact this
 done:=by
  intro X hP hw hK hc i pins s σ H E I hf st hg;subst hP hw hK;obtain ⟨xs,Y,b5⟩:=hg;obtain ⟨⟨old,O⟩,h1⟩:=st;obtain ⟨its,rv,p,_⟩:=I.seqK Y;have hl:=rv.length;have hT:s.TypeIs (.ref e) "enumerate" := ⟨_,O,rfl⟩;unfold ak;refine aD (wpAny_attempt (wpAny_callSpecial?_slot (name:=Str.ofString "__next__") hT F.slot_enumerate_next
   (ag F.slot_enumerate_next hT F.entry_enumerate_next ?_ (F.args_enumerate_next_1 _))))
  show aF _ _ (field (.ref e) 2 >>= _) _ _ _;refine aD (ay O rfl (x:=.ref it) rfl ?_);refine aD (Q1q (I.ok.hd hc) h1 p (by simp; omega) fun h' x a3 a2=>?_)
  obtain ⟨o,ho,J⟩:=a2;refine aD (bH (T := "StopIteration") (b:=true) ⟨o,ho,J⟩ isSubtype_stop ?_);exact wpAny_pure ⟨rfl,I.turnedL (t':=s.toks) (its:=[it]) (fun c o Z q=>a3 c o (fun z=>Z (by simp [z])) q) fun c Z=>hf c (by simp at Z; simp [Z])⟩
 self:=fun _ _ _ _ _ st h=>by
  obtain ⟨⟨old,O⟩,_⟩:=st;exact wpAny_pyIter_enum O h
def Quz (K:PySem.W.Frag) (t:Bool) (ta:TA):TI:=fun σ H R=>ta σ H fun vs H1=>∃ a xs,vs=[.ref a]/\SqK K t H1 a xs/\R (Ite K t a) H1
theorem Q2j:aX "enumerate" = some (.type "enumerate"):=by decide +kernel
theorem Qk3 (t:Bool) {a:aH} {ta:TA} {p pos:Pos} {O:List aH} {k:Nat} {tp:Pos} (hg:Gl X "enumerate") (hm:X.mg "enumerate" = none) (ha:PA X [a] ta) (hs:aN [a] X.env=[(false,aO a X.env)]:=by rfl) :
  PI X (.Tuple O k tp) (.Call (.Name "enumerate" p) [a] [] pos) (Quz X.K t ta):=by
 intro pins s σ H R I h;refine Call_ (j4 I hg hm Q2j (PyProof.Rows.callWith_type1 (thn (ha pos pins s σ H _ I h) fun us s1 ⟨vs,H1,U,r1,Y⟩=>?_) hs rfl))
 obtain ⟨a',xs,e,Y,q⟩:=Y;subst e;obtain ⟨u,rfl,r⟩:=Uk r1;cases r;obtain ⟨its,rv,Z,_⟩:=U.seqK Y;refine Q9r Z fun h' z1 z2 z3 z4=>?_
 refine wpAny_pyIter_enum (s:={ s1 with heap:=h' }) z1 ?_;have z:a' < s1.heap.objs.size:=by obtain ⟨o,e⟩:=Z.there; exact D5 e
 refine ⟨_,[s1.heap.objs.size + 1,s1.heap.objs.size],_,_,H1,rfl,U.kept (t':=s1.toks) z4,Qbx (t:=t) (Nat.ne_of_gt (Nat.lt_succ_self _)) (E8 (Nat.lt_succ_of_lt z)) (E8 z),⟨⟨_,z1⟩,z2⟩,fun c hc=>?_,q⟩
 have J:s1.heap.objs.size<=c:=by simp at hc; unfold aB at *; omega
 exact U.fpOk J (U.hok.fresh J)
theorem Qes (h:H a=none):Same H (upd H a o):=fun b u e=>by rw [Qa (Qb e h)]; exact e
variable {te:TE} {H1:Hp} {Q:VK}
section
variable {cap:List (Option Nat)}
abbrev g2 (K:PySem.W.Frag):TG:=Qv3 K 2 (Qhb (Q7f 0) (Qhb (Q7f 1) Qv4))
end
def Qvi:V->Option aA
 | .ty n=>some (.type n)
 | .ref a=>some (.ref a)
 | _=>none
theorem Qhz {c:V} {q u:aA} (e:Qvi c=some q) (r:RelV c u):u=q:=by
 cases c with
 | ty n=>cases e; exact r
 | ref a=>cases e; exact r
 | _=>cases e
theorem Q7x:W6 X (.builtin "isinstance") (fun xs H Q=>∃ x c z t b,xs=[x,c]/\Qvi c=some z/\TyOf X.K H x t/\PySem.W.kitOne X.K t z=some b/\Q (.bl b) H):=by
 intro pins s σ H xs us Q I r h;obtain ⟨x,c,z,t,b,rfl,O,ty,e,q⟩:=h;obtain ⟨u,Z,rfl,U,J⟩:=Qn1 r;rw [Qhz O J];exact Qd2 I U ty e fun Y=>⟨.bl b,H,I.tok Y,rfl,q⟩
theorem Q0h:aX "isinstance" = some (.builtin "isinstance"):=by decide +kernel
theorem Qic:aX "all" = some (.builtin "all"):=by decide +kernel
theorem Qia:aX "min" = some (.builtin "min"):=by decide +kernel
theorem ja:aX "tuple" = some (.type "tuple"):=by decide +kernel
theorem qc:aX "list" = some (.type "list"):=by decide +kernel
theorem Qib:aX "int" = some (.type "int"):=by decide +kernel
theorem Qdm:aX "bool" = some (.type "bool"):=by decide +kernel
theorem Qi8:aX "str" = some (.type "str"):=by decide +kernel
theorem Paired.get2 {α β:Type} {F:α->β->Prop}:∀ {xs:List α} {ys:List β} {i:Nat} {y:β},aR F xs ys->ys[i]?=some y->∃ x,xs[i]?=some x/\F x y
 | _,_,_,_,.nil,e=>by simp at e
 | _,_,0,_,.cons r _,e=>by simp at e; subst e; exact ⟨_,rfl,r⟩
 | _,_,i + 1,y,.cons _ t,e=>by
  obtain ⟨x,h1,h2⟩:=Paired.get2 (i:=i) (y:=y) t (by simpa using e);exact ⟨x,by simpa using h1,h2⟩
theorem ObjOk.there {w:aJ} (x:ObjOk P w H h a o):∃ u,h.get? a=some u:=by
 cases o with
 | lst xs=>obtain ⟨_,_,_,_,e⟩:=x; exact ⟨_,e⟩
 | tup xs=>obtain ⟨_,_,_,o,e,_⟩:=x; exact ⟨o,e⟩
 | dK q=>obtain ⟨_,_,_,_,o,_,_,e,_⟩:=x; exact ⟨o,e⟩
 | dT q=>obtain ⟨_,_,_,_,o,_,_,e,_⟩:=x; exact ⟨o,e⟩
 | set S n=>obtain ⟨o,_,_,_,e,_⟩:=x; exact ⟨o,e⟩
 | ins C dx fs=>obtain ⟨_,_,_,e,_⟩:=x; exact ⟨_,e⟩
 | own y=>exact x
 | xd fs=>obtain ⟨_,⟨o,_,_,e,_⟩,_⟩:=x; exact ⟨o,e⟩
 | rng lo hi=>obtain ⟨_,_,_,e⟩:=x; exact ⟨_,e⟩
 | frz ob u=>obtain ⟨e,_⟩:=x; exact ⟨_,e⟩
 | tbl ps=>exact ⟨_,x⟩
 | met f y=>exact ⟨_,x⟩
 | ext z=>exact x.2.1
theorem HOk.none_of {w:aJ} (x:HOk P w H h) (e:h.get? a=none):H a=none:=by
 cases q:H a with
 | none=>rfl
 | some o=>
  obtain ⟨u,z⟩:=(x a o q).there;rw [e] at z;cases z
structure Fly (P:aK) (w:aJ) (outer:List Env) (H H':Hp) (s s':aC) (a:aB) (cls a0:aA) (B:Heap):Prop where
 os:s'.os=s.os
 bare:AllBare s'.gens
 fl:Heap.FlyingW B outer a cls a0 s'.heap
 hokB:HOk P w H' B
 keep:∀ b o,s.heap.get? b=some o->H b=none->b∉frs outer->B.get? b=some o
 there:∀ b o,s.heap.get? b=some o->b∉frs outer->∃ o',B.get? b=some o'
 slot:∀ b o,s.heap.get? b=some o->b∈frs outer->∃ sl,s'.heap.get? b=some { o with slots:=sl }
 free:∀ b o,s.heap.get? b=some o->H b=none->H' b=none
 tups:∀ b xs,H b=some (.tup xs)->H' b=some (.tup xs)
 frzs:∀ b o u,H b=some (.frz o u)->H' b=some (.frz o u)
 tbls:∀ b ps,H b=some (.tbl ps)->∃ more,H' b=some (.tbl (ps ++ more))
@[inline,reducible]def Q2k:List aA:=[.type "ValueError",.type "Exception",.type "BaseException",.type "object"]
theorem Qkb {C:aB} {I:List aA} {z:String} (X:K.In h) (m:mg x=some (.ref C)) (q:PySem.W.excIn K C I z=true):OwnCls x C I z mg h:=by
 refine ⟨m,?_⟩;unfold PySem.W.excIn at q
 split at q
 ·rename_i dd cd O U
  split at q
  ·rename_i C' bm k0 k1 k2 k3 n k5 hm hs;simp only [E9,beq_iff_eq,Bool.not_eq_true'] at q;obtain ⟨⟨⟨⟨⟨rfl,rfl⟩,hdel⟩,ht⟩,hok⟩,hni⟩:=q;obtain ⟨nm,bs,Y,ns,qn,hd,sn,sub,ab,col,Z⟩:=cd;dsimp only at hm hdel hok hni;subst hm hdel;have J:O=#[k0,k1,k2,k3,some (.builtin n),k5]:=by
    obtain ⟨l⟩:=O;simp only at hs;rw [hs]
   subst J;exact ⟨bm,ns,nm,qn,bs,hd,sn,sub,ab,col,dd,k0,k1,k2,k3,k5,_,X _ _ U,.of_isNs (PySem.W.isNs_of_in X hok),PySem.W.nsMap_none_of_in X hok hni,PySem.W.tail_of_in X ht⟩
  ·cases q
 ·cases q
def Qnw (C:aB) (E:XK) (t:TA):TS:=fun _ σ H=>t σ H fun vs H1=>vs.length<=sizeLine/\E (.ref C) none H1
theorem Q0x (l:aB) (q:Array aA) (n:Nat) (dd:Option aB) (I:Array (Option aA)) (t:Tok) :
  Meets (Builtin.«tuple.__mul__» ⟨[.ref l,.int 1 t],[]⟩) (fun _ R s=>s.heap.get? l=some { cls:=.type "tuple",dict:=dd,data:=.seq q n,slots:=I }/\R (.ok (.ret (.ref l))) s):=
 .of_wp fun prog w A R s h=>by
  obtain ⟨O,g,d,J,os⟩:=s; obtain ⟨z,h⟩:=h
  wp_walk using wpAny_loadPart' z
  exact ⟨_,rfl,h⟩
theorem Q0y (l:aB) (q:Array aA) (n:Nat) (dd:Option aB) (Z:Array (Option aA)) (x:Int) (t:Tok) (h1:¬ (decide (x < -(2 ^ 63)) || decide (x>=2 ^ 63))=true) (h2:¬ (q.isEmpty || x == 1)=true) (h3:¬ (decide (x<=0) || q.isEmpty)=true) (O:¬ (q.size:Int) * x > (2 ^ 63 - 1) / 8) (U:¬ Builtin.Tuple.tupleTooMany ((q.size:Int) * x)=true)
  (Y:((List.replicate x.toNat q).foldl (fun z J=>z ++ J) #[]).size<=sizeLine) :
  Meets (Builtin.«tuple.__mul__» ⟨[.ref l,.int x t],[]⟩) (fun _ R s=>s.heap.get? l=some { cls:=.type "tuple",dict:=dd,data:=.seq q n,slots:=Z } /\
   R (.ok (.ret (Value.ref s.heap.objs.size))) { s with heap:=s.heap.push { cls:=Value.type "tuple",data:=Data.seq ((List.replicate x.toNat q).foldl (fun z J=>z ++ J) #[]) } }):=
 .of_wp fun prog w A R s h=>by
  obtain ⟨hp,g,d,tk,os⟩:=s; obtain ⟨I,h⟩:=h
  wp_walk using wpAny_loadPart' I
  refine wpAny_ite_false (bV h1) ?_
  wp_walk using wpAny_loadPart' I
  refine wpAny_ite_false (bV O) ?_
  wp_walk using wpAny_loadPart' I
  all_goals first | exact ⟨_,rfl,h⟩ | (refine wpAny_ite_false (bV U) ?_; wp_walk) | skip
  all_goals first | exact ⟨_,rfl,h⟩ | (refine wpAny_ite_false (bV (Nat.not_lt.mpr Y)) ?_; wp_walk; exact ⟨_,rfl,h⟩)
theorem Q27 (a:Int) (t:Tok) (l:aB) (q:Array aA) (n:Nat) (dd:Option aB) (I:Array (Option aA)) :
  Meets (Builtin.«int.__rmul__» ⟨[.int a t,.ref l],[]⟩) (fun _ R s=>s.heap.get? l=some { cls:=.type "tuple",dict:=dd,data:=.seq q n,slots:=I }/\R (.ok (.ret Value.notImplemented)) s):=
 .of_wp fun prog w A R s h=>by obtain ⟨O,g,d,J,os⟩:=s; obtain ⟨z,h⟩:=h; wp_walk using wpAny_loadPart' z; exact ⟨_,rfl,h⟩
theorem yn:fillsNumberSlot (.type "tuple") "mul" = pure false:=
 PySem.fillsNumberSlot_seq (id := "tuple.__mul__") (r:=some (.builtin "tuple.__rmul__")) F.slot_tuple_mul.lookup (by decide +kernel) F.slot_tuple_rmul.lookup (by decide +kernel)
theorem Q4g:seqRepeat? (.type "tuple")=pure (some (.builtin "tuple.__mul__")):=by
 unfold seqRepeat?;rw [PySem.seqSlot_of (T := "tuple") (name := "__mul__") (id := "tuple.__mul__") F.slot_tuple_mul.lookup (by decide +kernel),PySem.seqSlot_of (T := "tuple") (name := "__rmul__") (id := "tuple.__rmul__") F.slot_tuple_rmul.lookup (by decide +kernel)];rfl
def Qti (K:PySem.W.Frag):R2:=fun x y H Q=>∃ a k xs,x=.ref a/\y=.int k/\SqT K H a xs/\xs≠[]/\1<=k/\xs.length * k.toNat<=4096 /\
 (k=1->Q (.ref a) H)/\(k≠1->∀ p,H p=none->Q (.ref p) (upd H p (.tup (List.replicate k.toNat xs).flatten)))
theorem Qkh:OpR X (aZ .Mult) (Qti X.K):=by
 intro pins s σ H x y v u Q I rx ry h;obtain ⟨a,k,xs,rfl,rfl,ha,Y,hk,hz,q1,q2⟩:=h;cases rx;obtain ⟨t,rfl⟩:=ry;obtain ⟨its,r,p1,hs⟩:=I.tuple ha;obtain ⟨⟨cls,dd,data,sl⟩,ho,hc,n,hd⟩:=id p1;simp only at hc hd;subst hc hd;have Z:its.length=xs.length:=r.length.symm;have J:0 < its.length:=by rw [Z]; exact List.length_pos_iff.mpr Y
 have a2:k.toNat<=4096:=by
  have:1 * k.toNat<=xs.length * k.toNat:=Nat.mul_le_mul_right _ (by omega);omega
 refine wpAny_binaryOp_repeat_ref (T := "tuple") (U := "int") (by decide) ⟨_,ho,rfl⟩ (fun s'=>typeIs_int s' k t) yn F.fills_int_mul F.slot_int_rmul Q4g F.slot_int_index.lookup
  (bE F.slot_int_rmul (typeIs_int s k t) F.entry_int_rmul (F.args_int_rmul_2 _ _) (Q27 k t a its.toArray n dd sl)
   ⟨ho,rfl,⟨_,ho,rfl⟩,?_⟩)
 by_cases h1:k=1
 ·subst h1;exact bE F.slot_tuple_mul ⟨_,ho,rfl⟩ F.entry_tuple_mul (F.args_tuple_mul_2 _ _) (Q0x a its.toArray n dd sl t) ⟨ho,⟨.ref a,H,I,rfl,q1 rfl⟩⟩
 ·have f0:List.foldl (fun x1 x2=>x1 ++ x2) #[] (List.replicate k.toNat its.toArray)=(List.replicate k.toNat its).flatten.toArray:=by
   have:=xk its k.toNat [];rw [List.nil_append] at this;exact this
  have O:(its.toArray.size:Int) * k=((its.length * k.toNat:Nat):Int):=by
   rw [O8,Int.natCast_mul,Int.toNat_of_nonneg (by omega)]
  have a1:(List.replicate k.toNat its).flatten.length<=4096:=by rw [Q54,Z,Nat.mul_comm]; exact hz
  have hb:its.length * k.toNat<=4096:=by rw [Z]; exact hz
  refine bE F.slot_tuple_mul ⟨_,ho,rfl⟩ F.entry_tuple_mul (F.args_tuple_mul_2 _ _) (Q0y a its.toArray n dd sl k t ?_ ?_ ?_ ?_ ?_ ?_) ⟨ho,?_⟩
  ·rw [bV (by omega),bV (by omega)]; exact D4
  ·intro z;rcases Bool.or_eq_true_iff.mp z with z | z
   ·rw [List.isEmpty_toArray,List.isEmpty_iff] at z; rw [z] at J; simp at J
   ·exact h1 (eq_of_beq z)
  ·intro z;rcases Bool.or_eq_true_iff.mp z with z | z
   ·have:=of_decide_eq_true z; omega
   ·rw [List.isEmpty_toArray,List.isEmpty_iff] at z; rw [z] at J; simp at J
  ·rw [O]; omega
  ·rw [O];have:(4096:Int)<=sizeLine:=by decide
   show ¬ decide (((its.length * k.toNat:Nat):Int) > (sizeLine:Int))=true;rw [bV (by omega)]; exact D4
  ·rw [f0,O8]; exact E6 a1 (by decide)
  ·rw [f0];refine ⟨.ref s.heap.objs.size,_,I.laid (t':=s.toks) (o:=.tup (List.replicate k.toNat xs).flatten) (fun b ob q=>O3 _ q) (O6 _) ?_,rfl,q2 h1 _ (I.hok.fresh (O6 _))⟩;exact ⟨by rw [Q54,Nat.mul_comm]; exact E6 hz (by decide),_,r.rep k.toNat,IsTup.new _ _⟩
open PySem.SeqAt
theorem Q6p:OpR X (aS .IsNot) (fun x y H Q=>∃ b c,x=.bl b/\y=.bl c/\Q (.bl (b != c)) H):=by
 intro pins s σ H x y v u Q I z J h;obtain ⟨b,c,rfl,rfl,q⟩:=h;cases z;cases J;exact PyProof.Rows.isnot_bool ⟨.bl _,H,I,rfl,q⟩
theorem Yu:∀ (names:List (Str × au)) (h:Heap) (acc:List (Str × aB)) (x:Str) (c:aB),(ao h.objs.size names acc).lookup x=some c ->
  acc.lookup x=some c\/((x,NameKind.cell)∈names/\h.objs.size<=c/\(pushCells h names).IsCell c none)
 | [],_,_,_,_,e=>.inl e
 | (name,kind) :: r,h,acc,x,c,e=>by
  unfold ao at e;unfold pushCells
  by_cases I:(kind == NameKind.cell)=true
  ·rw [bT I] at e ⊢;have O:kind=.cell:=by simpa using I
   have Z:=Yu r (h.push { cls:=.type "cell",data:=.cell none }) ((name,h.objs.size) :: acc) x c (by rw [G9]; exact e);rw [G9] at Z;rcases Z with z | ⟨J,Y,U⟩
   ·rw [List.lookup_cons] at z;cases q:x == name with
    | true=>
     rw [q] at z; cases z;exact .inr ⟨by rw [beq_iff_eq.mp q,O]; exact E7,O6 _,⟨_,pushCells_keeps _ _ _ _ (D8 _ rfl),rfl⟩⟩
    | false=>rw [q] at z; exact .inl z
   ·exact .inr ⟨O4 _ J,by omega,U⟩
  ·rw [bU I] at e ⊢;rcases Yu r h acc x c e with z | ⟨J,Y,U⟩
   ·exact .inl z
   ·exact .inr ⟨O4 _ J,Y,U⟩
theorem Wv {x:Str}:∀ (names:List (Str × au)) (n:Nat) (acc:List (Str × aB)),(x,NameKind.cell)∉names->(ao n names acc).lookup x=acc.lookup x
 | [],_,_,_=>rfl
 | (name,kind) :: r,n,acc,h=>by
  unfold ao;have I:(x,NameKind.cell)∉r:=fun z=>h (O4 _ z)
  by_cases q:(kind == NameKind.cell)=true
  ·rw [bT q,Wv r _ _ I,List.lookup_cons];cases J:x == name with
   | true=>exact absurd (by rw [beq_iff_eq.mp J,show kind=.cell by simpa using q]; exact E7) h
   | false=>rfl
  ·rw [bU q,Wv r _ _ I]
theorem Ui {x:Str} {c:aB}:∀ (names:List (Str × au)) (n:Nat) (acc:List (Str × aB)),(x,NameKind.cell)∈names->(ao n names acc).lookup x=some c->n<=c
 | [],_,_,h,_=>by cases h
 | (name,kind) :: r,n,acc,h,e=>by
  unfold ao at e
  by_cases z:(x,NameKind.cell)∈r
  ·by_cases I:(kind == NameKind.cell)=true
   ·rw [bT I] at e;exact Nat.le_of_succ_le (Ui r _ _ z e)
   ·rw [bU I] at e;exact Ui r _ _ z e
  ·rcases D7.mp h with q | q
   ·cases q;rw [bT (by decide),Wv r _ _ z,List.lookup_cons] at e;simp at e;exact Nat.le_of_eq e
   ·exact absurd q z
theorem Uj:∀ (names:List (Str × au)) (n:Nat) (acc:List (Str × aB)),(∀ x c,acc.lookup x=some c->c < n)->(∀ x y c,acc.lookup x=some c->acc.lookup y=some c->x=y) ->
  ∀ x y c,(ao n names acc).lookup x=some c->(ao n names acc).lookup y=some c->x=y
 | [],_,_,_,h=>h
 | (name,kind) :: r,n,acc,h1,h2=>by
  unfold ao
  by_cases J:(kind == NameKind.cell)=true
  ·rw [bT J];refine Uj r (n + 1) _ (fun x c e=>?_) (fun x y c e z=>?_)
   ·rw [List.lookup_cons] at e;cases I:x == name with
    | true=>rw [I] at e; cases e; exact Nat.lt_succ_self _
    | false=>rw [I] at e; exact Nat.lt_succ_of_lt (h1 x c e)
   ·rw [List.lookup_cons] at e z;cases I:x == name with
    | true=>
     rw [I] at e; cases e;cases q:y == name with
     | true=>rw [beq_iff_eq.mp I,beq_iff_eq.mp q]
     | false=>rw [q] at z; exact absurd (h1 y _ z) (L8 _)
    | false=>
     rw [I] at e;cases q:y == name with
     | true=>rw [q] at z; cases z; exact absurd (h1 x _ e) (L8 _)
     | false=>rw [q] at z; exact h2 x y c e z
  ·rw [bU J];exact Uj r n acc h1 h2
theorem Q2t {M:Model} {A:aM} {E:aA->aC->Prop} {s:aC} {scope:Scope} {z:aB} {cl:List (Str × aB)} {qual:Str} {I:Option aB} {code:aA} {env:Env} {q:aB} {Q:Env->aC->Prop}
  (U:Q (newEnv scope s.heap.objs.size z (ao (s.heap.objs.size + 1) scope.names cl) qual I code (some env) q) { s with heap:=pushCells (s.heap.push { cls:=.type "dict",data:=.dict #[] }) scope.names }) :
  aF M A (newFunctionEnv scope z cl [] qual I code (some env) q) Q E s:=by
 simp only [newFunctionEnv,Option.isSome_some,if_true];refine aD (wpAny_alloc ?_);refine aD (wpAny_layCells _ (fun name kind O=>by cases J:kind == NameKind.cell <;> simp [J]) _ _ _ _ ?_);rw [show ({ s with heap:=s.heap.push { cls:=.type "dict",data:=.dict #[] } }:aC).heap.objs.size=s.heap.objs.size + 1 from G9 ..];refine aD ?_;rw [List.forIn_nil];exact wpAny_pure (wpAny_pure U)
def compOkC (N N':List Str) (sc scE:Scope) (cap:List (Option Nat)):Bool:=
 sc.kind == .function && sc.names.all (fun x=>x.2 != .cell || sc.names.lookup x.1 == some .cell) && sc.names.all (fun x=>x.2 != .local || sc.names.lookup x.1 == some .local) &&
 sc.names.all (fun x=>x.2 != .free || scE.names.lookup x.1 == some .cell || scE.names.lookup x.1 == some .free) && cap.length == N'.length &&
 (List.range cap.length).all (fun i=>match cap[i]? with
  | some (some j)=>(match N'[i]?,N[j]? with | some a,some b=>a == b && sc.names.lookup a == some .free | _,_=>false)
  | _=>true)
structure CompOkC (N N':List Str) (sc scE:Scope) (cap:List (Option Nat)):Prop where
 kind:sc.kind=.function
 cel:∀ x∈sc.names,x.2=.cell->sc.names.lookup x.1=some .cell
 loc:∀ x∈sc.names,x.2=.local->sc.names.lookup x.1=some .local
 fre:∀ x∈sc.names,x.2=.free->scE.names.lookup x.1=some .cell\/scE.names.lookup x.1=some .free
 len:cap.length=N'.length
 at_:∀ (i j:Nat),cap[i]?=some (some j)->∃ x,N'[i]?=some x/\N[j]?=some x/\sc.names.lookup x=some .free
theorem compOkC.of {N N':List Str} {sc scE:Scope} {cap:List (Option Nat)} (h:compOkC N N' sc scE cap=true):CompOkC N N' sc scE cap:=by
 unfold compOkC at h;simp only [E9,F0,beq_iff_eq,Bool.or_eq_true,bne_iff_ne] at h;obtain ⟨⟨⟨⟨⟨h1,h2⟩,h3⟩,h4⟩,h5⟩,h6⟩:=h;refine ⟨h1,fun x q e=>?_,fun x q e=>?_,fun x q e=>?_,h5,fun i j e=>?_⟩
 ·rcases h2 x q with z | z
  ·exact absurd e z
  ·exact z
 ·rcases h3 x q with z | z
  ·exact absurd e z
  ·exact z
 ·rcases h4 x q with (z | z) | z
  ·exact absurd e z
  ·exact .inl z
  ·exact .inr z
 ·have hi:i < cap.length:=(O0.mp e).1;have:=h6 i (List.mem_range.mpr hi);rw [e] at this;simp only at this;cases I:N'[i]? with
  | none=>rw [I] at this; cases this
  | some a=>
   cases J:N[j]? with
   | none=>rw [I,J] at this; cases this
   | some b=>
    rw [I,J] at this;simp only [E9,beq_iff_eq] at this;obtain ⟨rfl,z⟩:=this;exact ⟨a,rfl,rfl,z⟩
def Z5 (X:Cx) (N':List Str) (sc:Scope) (cl:List (Str × aB)) (C:aB) (s0:aC) (H0:Hp) (ex:List aB):Cx:=
 { X with N:=N',s₀:=s0,H₀:=H0,env:=compEnvC sc cl C X.env,outer:=X.stack,ex:=ex,fn:=fun x=>sc.names.lookup x == some .cell,pn:=[],xe:=fun _ _=>False }
theorem Qif {pins:List (aB × Obj)} {σ:St} {H:Hp} {s:aC} {N N':List Str} {sc scE:Scope} {cap:List (Option Nat)} {cl:List (Str × aB)} {fp:List aB}
  (I:Inv X pins σ H s) (hN:X.N=N) (hE:X.env.scope=scE) (ck:CompOkC N N' sc scE cap) (c1:∀ x c,cl.lookup x=some c->X.env.cells.lookup x=some c) (c2:∀ x∈sc.names,x.2=.free->∃ c,cl.lookup x.1=some c)
  (hf:∀ b∈fp,Q2s X pins H b) (a5:∀ b∈fp,b < s.heap.objs.size) :
  Inv (Z5 X N' sc (ao (s.heap.objs.size + 1) sc.names cl) s.heap.objs.size s H fp) [] (zn cap σ) H { s with heap:=pushCells (s.heap.push { cls:=.type "dict",data:=.dict #[] }) sc.names }:=by
 obtain ⟨O,Y⟩:∃ O,pushCells (s.heap.push { cls:=.type "dict",data:=.dict #[] }) sc.names=O:=⟨_,rfl⟩;obtain ⟨J,U⟩:∃ J,ao (s.heap.objs.size + 1) sc.names cl=J:=⟨_,rfl⟩;rw [Y,U];have keep:∀ b o,s.heap.get? b=some o->O.get? b=some o:=fun b o e=>by rw [<- Y]; exact pushCells_keeps _ _ b o (O3 _ e)
 have b0:O.Ns s.heap.objs.size (fun _=>none):=by rw [<- Y]; exact (Heap.Ns.new s.heap (.type "dict")).keeps (pushCells_keeps _ _)
 have look:∀ x c,J.lookup x=some c->cl.lookup x=some c\/(s.heap.objs.size + 1<=c/\O.IsCell c none):=fun x c e=>by
  rw [<- U] at e;have:=Yu (sc.names) (s.heap.push { cls:=.type "dict",data:=.dict #[] }) cl x c (by rw [G9]; exact e);rw [G9,Y] at this;rcases this with z | ⟨_,z,z'⟩
  ·exact .inl z
  ·exact .inr ⟨z,z'⟩
 have a2:∀ x c,cl.lookup x=some c->c < s.heap.objs.size:=fun x c e=>by
  obtain ⟨v,o,ho,_⟩:=I.cell x c (c1 x c e);exact D5 ho
 have inj:∀ x y c,J.lookup x=some c->J.lookup y=some c->x=y:=by
  rw [<- U];exact Uj _ _ _ (fun x c e=>Nat.lt_succ_of_lt (a2 x c e)) fun x y c a b=>I.ok.inj x y c (c1 x c a) (c1 y c b)
 have a9:∀ x,sc.names.lookup x=some .cell->∃ c,J.lookup x=some c:=fun x e=>by
  rw [<- U];exact Option.isSome_iff_exists.mp (PySem.W.cellsFrom_some _ _ _ (.inl e))
 have a8:∀ x,sc.names.lookup x=some .free->J.lookup x=cl.lookup x:=fun x e=>by
  rw [<- U];refine Wv _ _ _ fun z=>?_
  have:=ck.cel _ z rfl;rw [e] at this; cases this
 have kindOf:∀ x k,(compEnvC sc J s.heap.objs.size X.env).kindOf x=some k->k=.cell\/k=.free->sc.names.lookup x=some .free\/sc.names.lookup x=some .cell:=fun x k e hk=>by
  have e':(relabel sc X.env).names.lookup x=some k:=e;rw [Xu] at e';cases q:sc.names.lookup x with
  | none=>rw [q] at e'; cases e'
  | some k'=>
   rw [q] at e';have a6:(if (k' == NameKind.free && X.env.scope.kind == .function && X.env.kindOf x == some .cell)=true then NameKind.cell else k')=k:=Option.some.inj e'
   by_cases Z:(k' == NameKind.free && X.env.scope.kind == .function && X.env.kindOf x == some .cell)=true
   ·simp only [E9,beq_iff_eq] at Z;rw [Z.1.1]; exact .inl rfl
   ·rw [bU Z] at a6;subst a6;rcases hk with z | z
    ·rw [z]; exact .inr rfl
    ·rw [z]; exact .inl rfl
 have cellAt:∀ x c,X.env.cells.lookup x=some c->∀ v,s.heap.IsCell c v->O.IsCell c v:=fun x c e v ⟨o,ho,hd⟩=>⟨o,keep c o ho,hd⟩
 have a3:∀ c,s.heap.objs.size<=c->H c=none:=fun c Z=>I.hok.fresh Z
 refine ⟨⟨I.ok.mod,ck.kind,I.ok.glob,I.ok.blt,O6 _,inj,fun x hx=>?_,fun x c h1 h2=>?_,I.ok.hd,I.ok.frames,.inl rfl,fun b hb=>?_,I.bs,
  E6 I.ok.bsz I.sz,fun b o e hb=>?_,fun b hb hz=>?_,I.stack,I.stkFree⟩,rfl,I.bare,Un.kept keep,⟨_,b0,fun i x v e1 e2 e3=>?_⟩,fun x c e=>?_,a3 _ (O6 _),fun x c e=>?_,fun p hp=>(by cases hp),I.hok.kept keep,?_⟩
 ·have hx:(compEnvC sc J s.heap.objs.size X.env).kindOf x=some .cell\/(compEnvC sc J s.heap.objs.size X.env).kindOf x=some .free:=hx;have q:sc.names.lookup x=some .free\/sc.names.lookup x=some .cell:=by
   rcases hx with z | z
   ·exact kindOf x _ z (.inl rfl)
   ·exact kindOf x _ z (.inr rfl)
  rcases q with q | q
  ·obtain ⟨c,Z⟩:=c2 _ (PySem.mem_of_lookup q) rfl;exact ⟨c,(a8 x q).trans Z⟩
  ·exact a9 x q
 ·have h1:sc.names.lookup x=some .cell:=by simpa [Z5] using h1
  have h2:J.lookup x=some c:=h2;rw [<- U] at h2;exact E6 (Nat.le_succ _) (Ui _ _ _ (PySem.mem_of_lookup h1) h2)
 ·refine ⟨E8 (a5 b hb),fun x c e=>?_⟩;rcases look x c e with z | ⟨z,_⟩
  ·exact (hf b hb).2.2.2.2.1 x c (c1 x c z)
  ·exact fun q=>absurd (D3 (a5 b hb) (E6 (Nat.le_succ _) (q ▸ z))) (L8 _)
 ·rcases (hf b hb).2.2.2.1 with z | z
  ·exact I.ok.noex b o e z
  ·exact absurd (D3 (D5 e) (E6 I.ok.bsz z)) (L8 _)
 ·rcases D7.mp (I.stkSub b hz) with e | z
  ·exact (hf b hb).2.1 e
  ·exact (hf b hb).2.2.1 z
 ·have e1:N'[i]?=some x:=e1;have e2:(zn cap σ)[i]?=some (some v):=e2;unfold zn at e2;rw [E2] at e2;cases q:cap[i]? with
  | none=>rw [q] at e2; cases e2
  | some oj=>
   rw [q] at e2;cases oj with
   | none=>cases e2
   | some j=>
    obtain ⟨y,z1,z2,z3⟩:=ck.at_ i j q;rw [e1] at z1; cases z1;have ev:σ[j]?=some (some v):=by
     have a1:(σ[j]?).join=some v:=Option.some.inj e2;cases r:σ[j]? with
     | none=>rw [r] at a1; cases a1
     | some o=>rw [r] at a1; exact congrArg some a1
    obtain ⟨m',b1,hl⟩:=I.loc;have sK:X.env.scope.names.lookup x=some .cell\/X.env.scope.names.lookup x=some .free:=by rw [hE]; exact ck.fre _ (PySem.mem_of_lookup z3) rfl
    obtain ⟨u,ru,l⟩:=hl j x v (by rw [hN]; exact z2) ev (sK.elim (fun z=>.inr (.inl z)) fun z=>.inr (.inr z))
    refine ⟨u,ru,?_⟩;obtain ⟨c,Z⟩:=c2 _ (PySem.mem_of_lookup z3) rfl;rcases l with ⟨k,_⟩ | ⟨k,c',a7,a4⟩
    ·have k:X.env.scope.names.lookup x=some .local:=k;rcases sK with z | z <;> (rw [k] at z; cases z)
    ·have:c=c':=by
      have q1:=c1 x c Z;rw [a7] at q1;exact (Option.some.inj q1).symm
     subst this;refine .inr ⟨?_,c,(a8 x z3).trans Z,cellAt x c a7 _ a4⟩;show (relabel sc X.env).names.lookup x=some .cell\/(relabel sc X.env).names.lookup x=some .free;rw [Xu,z3];show some (if _ then NameKind.cell else NameKind.free)=_\/some (if _ then NameKind.cell else NameKind.free)=_
     split
     ·exact .inl rfl
     ·exact .inr rfl
 ·rcases look x c e with z | ⟨_,z⟩
  ·obtain ⟨v,q⟩:=I.cell x c (c1 x c z);exact ⟨v,cellAt x c (c1 x c z) v q⟩
  ·exact ⟨_,z⟩
 ·rcases look x c e with z | ⟨z,_⟩
  ·exact I.freeC x c (c1 x c z)
  ·exact a3 c (by omega)
 ·unfold zn;show _=N'.length;rw [O1];exact ck.len
end L2
namespace PySem
open Sem (wp)
def Q32 (o:Obj):Option aA:=match o.data with | .fields vs=>vs[2]? | _=>none
theorem Qhi {o:Obj} {vs:Array aA} {x:aA} (q:o.data=.fields vs):Q32 (Obj.mapFields (·.setIfInBounds 1 x) o)=Q32 o:=by
 have d:=Obj.data_mapFields q (·.setIfInBounds 1 x);unfold Q32;rw [d,q];exact Array.getElem?_setIfInBounds_ne (by decide)
variable {M:Model} {A:aM} {E:aA->aC->Prop} {s:aC} {en:Env} {ou:List Env} {L e:aB} {ob:Obj} {vs:Array aA} {a0:aA} {Q:Unit->aC->Prop}
section
variable {bs:Heap}
theorem Q2c {J:aA} {nx:Bool} (fr:A.frames=some (en :: ou)) (ff:s.heap.FunFrames bs (en :: ou)) (ef:en.frame=some L) (oe:s.heap.get? e=some ob) (kb:bs.StaysIn s.heap) (ne:bs.get? e=none)
  (U:ob.data=.fields vs) (z1:1 < vs.size) (z0:vs[0]?=some a0)
  (h:∀ h',Heap.LeftW bs (en :: ou) e ob.cls a0 s.heap h'->(∃ o',h'.get? e=some o'/\o'.dict=ob.dict/\Q32 o'=Q32 ob)->Q () { s with heap:=h' }) :
  aF M A (do
   let a <- frameOf en
   let pl <- entryPlaceOf L nx
   let b <- EntryCells.newEntry J a .none (aV L) .none pl
   setField (.ref e) 1 b) (fun _ s'=>aF M A (setFlight (.ref e) none) Q E s') E s:=by
 have nf:e∉(en :: ou).filterMap (·.frame):=fun m=>by
  obtain ⟨_,o,q,n⟩:=ff.mem m;rw [oe] at q;cases q;exact n vs U
 refine aD (wpAny_frameOf_fun fr ff ef fun g gs=>?_);refine aD (wpAny_entryPlaceOf fun pl hp=>?_);unfold EntryCells.newEntry newFields;refine aD (av ?_ (hp.sizeOk5 _ _ _ _ _));have ge:g.get? e=some ob:=(gs.2.1 e nf).trans oe;have gb:bs.StaysIn g:=fun b o q=>(gs.2.1 b fun m=>by
  rw [(ff.mem m).1] at q;cases q).trans (kb b o q)
 obtain ⟨tb,Y⟩:∃ tb:List aA,[J,.ref L,.none,aV L,.none] ++ (if pl.isEmpty then List.replicate 6 Value.none else pl)=tb:=⟨_,rfl⟩;have l5:3 < tb.length/\tb[3]?=some (aV L):=by
  rw [<- Y];exact ⟨by simp,by simp⟩
 rw [Y];have a1:=O3 (h:=g) { cls:=.type "traceback",dict:=none,data:=.fields tb.toArray } ge;refine wpAny_setField a1 U z1 ?_;have te:g.objs.size≠e:=Nat.ne_of_gt (D5 ge);have d3:=Obj.data_mapFields U (·.setIfInBounds 1 (Value.ref g.objs.size));have I:=L5 (Obj.mapFields (·.setIfInBounds 1 (Value.ref g.objs.size))) a1 (Obj.isFreed_of_fields d3);have O:=(G6 (g.push { cls:=.type "traceback",dict:=none,data:=.fields tb.toArray })
  (Obj.mapFields (·.setIfInBounds 1 (Value.ref g.objs.size))) te.symm).trans
  (D8 g rfl)
 unfold setFlight;refine aD (ay I d3 (x:=.ref g.objs.size) (by simp [z1]) ?_);rw [bT (show (Value.ref g.objs.size != Value.none)=true by simp)];refine wpAny_setField O rfl (by simpa using l5.1) (h _ ?_ ?_)
 all_goals
  obtain ⟨g3,Z⟩:∃ g3,((g.push { cls:=.type "traceback",dict:=none,data:=.fields tb.toArray }).update e (Obj.mapFields (·.setIfInBounds 1 (Value.ref g.objs.size))))=g3:=⟨_,rfl⟩;rw [Z] at I O ⊢
 ·have kp:∀ b o,b≠e->g.get? b=some o->(g3.update g.objs.size (Obj.mapFields (·.setIfInBounds 3 ((none:Option aB).elim Value.none fun f=>aV f)))).get? b=some o:=fun b o n q=>by
   rw [G6 _ _ (Nat.ne_of_gt (D5 q)),<- Z,G6 _ _ n.symm];exact O3 _ q
  have nr:∀ b o,s.heap.get? b=some o->(∀ ws,o.data≠.fields ws)->b≠e:=fun b o q n z=>by
   rw [z,oe] at q;cases q;exact n vs U
  refine ⟨fun b o q=>kp b o (fun z=>by rw [z,ne] at q; cases q) (gb b o q),ff.of_keeps fun b o q n=>?_,?_,fun b o q n=>?_⟩
  ·obtain ⟨sl,z⟩:=gs.2.2 b o q;exact ⟨_,kp b _ (nr b o q n) z,rfl⟩
  ·refine ⟨_,_,g.objs.size,_,_,?_,⟨Obj.cls_mapFields _ _,?_⟩,d3,by simp [z1],gb.fresh,te,L5 _ O (Obj.isFreed_of_fields (Obj.data_mapFields rfl _)),Obj.data_mapFields rfl _,?_⟩
   ·rw [G6 _ _ te];exact I
   ·rw [Array.getElem?_setIfInBounds_ne (by decide)];exact z0
   ·have:=l5.1;simp [this]
  ·obtain ⟨sl,z⟩:=gs.2.2 b o q;exact ⟨sl,kp b _ (nr b o q n) z⟩
 ·refine ⟨_,(G6 _ _ te).trans I,?_,Qhi U⟩;cases ob with
  | mk c d dt sl=>cases dt <;> first | rfl | cases U
theorem Q78 (fr:A.frames=some (en :: ou)) (Y:s.heap.FunFrames bs (en :: ou)) (z:en.frame=some L) (q:s.heap.get? e=some ob) (U:bs.StaysIn s.heap) (ne:bs.get? e=none)
  (J:ob.data=.fields vs) (I:vs[1]?=some .none) (O:vs[0]?=some a0)
  (h:∀ h',Heap.LeftW bs (en :: ou) e ob.cls a0 s.heap h'->(∃ o',h'.get? e=some o'/\o'.dict=ob.dict/\Q32 o'=Q32 ob)->Q () { s with heap:=h' }):aF M A (leaving en (.ref e)) Q E s:=by
 unfold leaving noteFrame;simp only [z];refine aD (aD (ay q J I ?_));rw [bU (by decide)];exact Q2c fr Y z q U ne J (Array.getElem?_eq_some_iff.mp I).1 O h
theorem Q77 {cls:aA} {dv:Option aB} (fr:A.frames=some (en :: ou)) (Z:en.frame=some L) (fl:Heap.FlyingW bs (en :: ou) e cls a0 s.heap) (dd:∃ o',s.heap.get? e=some o'/\o'.dict=dv/\Q32 o'=some .none)
  (h:∀ h',Heap.FlyingW bs ou e cls a0 h'->(∃ o',h'.get? e=some o'/\o'.dict=dv/\Q32 o'=some .none)->s.heap.UpToSlots h'->Q () { s with heap:=h' }):aF M A (leaving en (.ref e)) Q E s:=by
 obtain ⟨kb,ne,ff,oe,ws,T,oT,ts,O,⟨hc,z0⟩,od,z1,nT,Te,hT,dT,z3⟩:=fl;obtain ⟨o',I,U,Y⟩:=dd;rw [O] at I;cases I;unfold leaving noteFrame;simp only [Z];refine aD (aD (ay O od z1 ?_));rw [bT (show (Value.ref T != Value.none)=true by simp)];refine aD (ay hT dT z3 ?_);rw [bU (show ¬ ((Value.none == aV L)=true) by simp [aV])];refine aD (wpAny_setField hT dT (Array.getElem?_eq_some_iff.mp z3).1 ?_);have J:∀ b,b≠T->(s.heap.update T (Obj.mapFields (·.setIfInBounds 3 Value.none))).get? b=s.heap.get? b:=fun b n=>G6 _ _ n.symm
 have nr:∀ b o,s.heap.get? b=some o->(∀ ws,o.data≠.fields ws)->b≠T:=fun b o q n z=>by
  rw [z,hT] at q;cases q;exact n ts dT
 refine Q2c fr (ff.of_keeps fun b o q n=>⟨o,(J b (nr b o q n)).trans q,rfl⟩) Z ((J e Te.symm).trans O) (fun b o q=>(J b fun z=>by rw [z,nT] at q; cases q).trans (kb b o q)) ne od (Array.getElem?_eq_some_iff.mp z1).1 z0 fun h' lf d'=>?_
 obtain ⟨k1,⟨_,_,k2⟩,k3,k4⟩:=lf;rw [hc] at k3;exact h h' ⟨k1,ne,k2,k3⟩ (d'.imp fun o q=>⟨q.1,q.2.1.trans U,q.2.2.trans Y⟩) fun b o q n=>k4 b o ((J b (nr b o q n)).trans q) n
end
end PySem
namespace L2
open PySem PySem.Spec PyProof.Rows
variable {σ:St} {H1 H':Hp} {s1:aC} {b a:aB} {x:Str} {k:HK} {tt:TT} {wi:TI} {g:TG} {te:TE} {o:Option V} {y:V} {u:aA} {xs:List (HK × aB × aA)} {Q:aA->aC->Prop} {h':Heap}
def CXD (P:aK) (w:aJ):CXT:=fun outer H s E e s'=>∃ a cls a0 dv H' B,e=Value.ref a/\Fly P w outer H H' s s' a cls a0 B/\(∃ o',s'.heap.get? a=some o'/\o'.dict=dv/\Q32 o'=some .none)/\E cls dv H'
theorem Kt {P:aK} {w:aJ} {X:Cx}:Q2q (CXD P w) X E0:=fun _ _ _ _ _ _ _ h=>by
 obtain ⟨_,_,_,_,_,_,_,_,_,z⟩:=h;exact z.elim
variable {P:aK} {K:PySem.W.Frag} {mg:Str->Option aA} {base:Heap} {N:List Str} {qual:Str} {scope:Scope} {f:aB} {cd:aA} {A:aM} {outer:List Env} {s:aC} {H:Hp} {E:XK}
section
variable {w:aJ}
abbrev cxD (P:aK) (w:aJ) (K:PySem.W.Frag) (mg:Str->Option aA) (base:Heap) (N:List Str) (qual:Str) (scope:Scope) (f:aB) (cd:aA) (A:aM) (outer:List Env) (s:aC) (H:Hp) (E:XK):Cx:=Qdc (CXD P w) P w K mg base N qual scope f cd A outer s H E
theorem Q48 {pins:List (aB × Obj)} (I:Inv (cxD P w K mg base N qual scope f cd A outer s H E) pins σ H1 s1) {o:Obj} (e:s.heap.get? b=some o) (n:b∉frs outer):b∉frs (cxD P w K mg base N qual scope f cd A outer s H E).stack:=fun q=>by
 rcases D7.mp (I.stkSub b q) with z | z
 ·have h1:b < s.heap.objs.size:=D5 e;have h2:s.heap.objs.size<=(cxD P w K mg base N qual scope f cd A outer s H E).env.locals:=I.ok.above;rw [<- z] at h2;exact absurd (D3 h1 h2) (L8 _)
 ·exact n z
theorem Qhe (h:b∈frs outer):b∈frs (cxD P w K mg base N qual scope f cd A outer s H E).stack:=by
 show b∈frs (_ :: outer);unfold frs at h ⊢;rw [List.filterMap_cons]
 split
 ·exact h
 ·exact O4 _ h
theorem Qps {pins:List (aB × Obj)} {O:Heap} {e C t:aB} {dv:Option aB} (I:Inv (cxD P w K mg base N qual scope f cd A outer s H E) pins σ H1 s1)
  (hk:∀ b o,b≠e->s1.heap.get? b=some o->O.get? b=some o) (a2:∀ o,s1.heap.get? e=some o->∃ vs,o.data=.fields vs) (new:s.heap.get? e=none) (hH:H1 e=none)
  (oe:O.get? e=some { cls:=.ref C,dict:=dv,data:=.fields #[.ref t,.none,.none,.none,.bool false,.none] }) (hE:E (.ref C) dv H1) :
  (cxD P w K mg base N qual scope f cd A outer s H E).xe (.ref e) { s1 with heap:=O }:=by
 have a5:∀ en∈(cxD P w K mg base N qual scope f cd A outer s H E).stack,∀ b,en.frame=some b->b∈e :: frs (cxD P w K mg base N qual scope f cd A outer s H E).stack:=fun en he b J=>O4 _ (List.mem_filterMap.mpr ⟨en,he,J⟩)
 have ff:=PySem.W.funFrames_hide I.stack a5;have a6:∀ b o,s1.heap.get? b=some o->(∀ vs,o.data≠.fields vs)->b≠e:=fun b o q n z=>by
  subst z;obtain ⟨vs,d⟩:=a2 o q;exact n vs d
 have hid:(PySem.W.hideAll s1.heap (e :: frs (cxD P w K mg base N qual scope f cd A outer s H E).stack)).get? e=none:=PySem.W.hideAll_none _ E7;have kb:(PySem.W.hideAll s1.heap (e :: frs (cxD P w K mg base N qual scope f cd A outer s H E).stack)).StaysIn O:=fun b o q=>hk b o (fun z=>by rw [z,hid] at q; cases q) (PySem.W.of_hideAll _ q)
 show aF (aI P w) _ (leaving _ (.ref e)) _ _ _;refine Q78 (bs:=PySem.W.hideAll s1.heap (e :: frs (cxD P w K mg base N qual scope f cd A outer s H E).stack)) (a0:=.ref t) (s:={ s1 with heap:=O }) I.ok.frames (ff.of_keeps fun b o q n=>⟨o,hk b o (a6 b o q n) q,rfl⟩) rfl oe kb hid rfl rfl rfl fun h2 lf dd=>?_
 obtain ⟨k1,⟨_,_,k2⟩,k3,k4⟩:=lf;have noex:∀ b:aB,b∉(cxD P w K mg base N qual scope f cd A outer s H E).ex:=fun b z=>absurd (show b∈([]:List aB) from z) (by simp)
 have Z:∀ b o,s.heap.get? b=some o->b≠e:=fun b o q z=>by rw [z,new] at q; cases q
 have Y:∀ b o,s.heap.get? b=some o->b∉frs outer->b∉e :: frs (cxD P w K mg base N qual scope f cd A outer s H E).stack:=fun b o q n m=>by
  rcases D7.mp m with z | z
  ·exact Z b o q z
  ·exact Q48 I q n z
 refine ⟨e,.ref C,.ref t,dv,H1,_,rfl,⟨I.os,I.bare,⟨k1,hid,k2,k3⟩,fun b u q=>?_,fun b o q n J=>?_,fun b o q J=>?_,fun b o q J=>?_,fun b o q n=>I.base.free b o q n (noex b),I.base.tups,I.base.frzs,I.base.tbls⟩,dd,hE⟩
 ·have ne:∀ c v,H1 c=some v->c∉e :: frs (cxD P w K mg base N qual scope f cd A outer s H E).stack:=fun c v z m=>by
   rcases D7.mp m with m | m
   ·rw [m,hH] at z; cases z
   ·rw [I.stkFree c m] at z; cases z
  refine (I.hok b u q).stay (fun c v hc r=>PySem.W.hideAll_get _ r ?_) (fun _ r=>r) fun _ _ r=>r
  rcases hc with rfl | hc
  ·exact ne c u q
  ·exact ne c _ hc
 ·exact PySem.W.hideAll_get _ (I.base.keep b o q n J (noex b)) (Y b o q J)
 ·obtain ⟨o',z⟩:=I.base.there b o q (noex b);exact ⟨o',PySem.W.hideAll_get _ z (Y b o q J)⟩
 ·obtain ⟨sl,z⟩:=I.base.slot b o q (I.ok.frf b J) J (noex b);obtain ⟨_,o',a4,a3⟩:=I.ok.funs.mem J;have U:s.heap.get? b=some o':=a4;rw [q] at U;cases U;obtain ⟨a1,z'⟩:=k4 b _ (hk b _ (Z b o q) z) a3;exact ⟨a1,z'⟩
theorem Xv:Q2q (CXD P w) (cxD P w K mg base N qual scope f cd A outer s H E) E:=by
 intro pins σ H1 s1 e s' I h;obtain ⟨a,cls,a0,dv,H',B,rfl,F,dd,hE⟩:=h;show aF (aI P w) _ (leaving _ (.ref a)) _ _ _;have noex:∀ b:aB,b∉(cxD P w K mg base N qual scope f cd A outer s H E).ex:=fun b z=>absurd (show b∈([]:List aB) from z) (by simp)
 refine Q77 I.ok.frames rfl F.fl dd fun h2 x1 d2 x2=>?_
 refine ⟨a,cls,a0,dv,H',B,rfl,⟨F.os.trans I.os,F.bare,x1,F.hokB,fun b o q n J=>?_,fun b o q J=>?_,fun b o q J=>?_,fun b o q n=>?_,fun b xs q=>F.tups b xs (I.base.tups b xs q),fun b o u q=>F.frzs b o u (I.base.frzs b o u q),fun b ps q=>?_⟩,d2,hE⟩
 ·exact F.keep b o (I.base.keep b o q n J (noex b)) (I.base.free b o q n (noex b)) (Q48 I q J)
 ·obtain ⟨o',z⟩:=I.base.there b o q (noex b);exact F.there b o' z (Q48 I q J)
 ·obtain ⟨sl,z⟩:=I.base.slot b o q (I.ok.frf b J) J (noex b);obtain ⟨_,o',Y,Z⟩:=I.ok.funs.mem J;have O:s.heap.get? b=some o':=Y;rw [q] at O;cases O;obtain ⟨a1,z'⟩:=F.slot b _ z (Qhe J);obtain ⟨U,z2⟩:=x2 b _ z' Z;exact ⟨U,z2⟩
 ·obtain ⟨o',z⟩:=I.base.there b o q (noex b);exact F.free b o' z (I.base.free b o q n (noex b))
 ·obtain ⟨m1,e1⟩:=I.base.tbls b ps q;obtain ⟨m2,e2⟩:=F.tbls b _ e1;exact ⟨m1 ++ m2,by rw [e2,Array.append_assoc]⟩
end
variable {X:Cx}
def Qa2 (X:Cx) (E:XK):Prop:=∀ (pins:List (aB × Obj)) (σ:St) (H0 H1:Hp) (s0 s1:aC) (hx:Heap) (e C t:aB) (dv:Option aB),Inv X pins σ H0 s0->s0.heap.get? e=none->Inv X pins σ H1 s1->(∀ b o,b≠e->s1.heap.get? b=some o->hx.get? b=some o) ->
 (∀ o,s1.heap.get? e=some o->∃ vs,o.data=.fields vs)->H1 e=none->hx.get? e=some { cls:=.ref C,dict:=dv,data:=.fields #[.ref t,.none,.none,.none,.bool false,.none] }->E (.ref C) dv H1->X.xe (.ref e) { s1 with heap:=hx }
theorem Qcd {C:aB} {e:aH} {t:TA} {np cpos pos:Pos} (J:X.calm=true) (RO:Qa2 X E) (hg:Gl X x) (hm:X.mg x=some (.ref C)) (q:PySem.W.excIn X.K C Q2k "ValueError.__new__" = true) (ha:PA X [e] t)
  (Z:(x == ("__debug__" : Str))=false:=by decide) (he:aN [e] X.env=[(false,aO e X.env)]:=by rfl):PS X (.Raise (some (.Call (.Name x np) [e] [] cpos)) none pos) (Qnw C E t):=by
 intro pins s σ H D I h;obtain ⟨tl,N,nm,qn,bs,hdct,sn,sub,ab,col,dd,k0,k1,k2,k3,k5,mN,hC,hN,a1,T⟩:=(Qkb I.mod.kin hm q).obj;refine wpAny_Raise_call_subU (C:=C) (nm:=nm) (q:=qn) (N:=N) (bs:=bs) (bm:=tl) (hdct:=hdct) (sn:=sn) (sub:=sub) (ab:=ab) (col:=col) (dd:=dd) (k0:=k0) (k1:=k1) (k2:=k2) (k3:=k3) (k5:=k5)
  PySem.F.excBase_ValueError (by decide +kernel) PySem.F.excBase_ValueError (mN:=mN) (T.hasType (by decide +kernel)) (I.ok.hd J) (by rw [he]; rfl) a1 (Q56 I hg hm ⟨rfl,?_⟩ Z)
 have Y:=ha cpos pins s σ H _ I h;rw [he] at Y ⊢;refine Calls.evalArgs_plain (aq Y (fun us s1 ⟨vs,H1,O,r,z,hE⟩=>?_) fun _ _ y=>y)
 refine ⟨rfl,by rw [<- r.length]; exact z,O.bk _ _ hC,hN.keeps O.bk,T.keeps O.bk,fun h' e' U=>?_⟩;obtain ⟨t,oe,_,_⟩:=U.there;exact RO pins σ H1 H1 s1 s1 h' e' C t none O U.new O (fun b o _ k=>U.keeps b o k) (fun o k=>by rw [U.new] at k; cases k) (O.hok.none_of U.new) oe hE
theorem Qf6 {P:aK} {w:aJ} {K:PySem.W.Frag} {mg:Str->Option aA} {base:Heap} {N:List Str} {qual:Str} {scope:Scope} {f:aB} {cd:aA} {A:aM} {outer:List Env} {s:aC} {H:Hp} {E:XK} :
  Qa2 (cxD P w K mg base N qual scope f cd A outer s H E) E:=fun pins σ H0 H1 s0 s1 hx e C t dv I0 Y I Z J hH O U=>by
 refine Qps I Z J ?_ hH O U;cases q:s.heap.get? e with
 | none=>rfl
 | some o=>
  obtain ⟨o',z⟩:=I0.base.there e o q (fun z=>absurd (show e∈([]:List aB) from z) (by simp))
  rw [Y] at z; cases z
theorem Fun.okD {P:aK} {w:aJ} {mg:Str->Option aA} {base:Heap} {st:aL} {fd:aQ} {ps:List Str} {k:Nat} {sp:Sp} (F:Fun K x qual st f fd) (S:FnScope N ps (Q7 st)) (len:∀ vs H Q E,sp vs H Q E->vs.length=ps.length)
  (z:∀ (q:aA) (A:aM) (outer:List Env) (s:aC) (H:Hp) (vs:List V) (Q:VK) (E:XK),Room k (A.deeper (envOfC qual (Q7 st) s.heap.objs.size f q))->sp vs H Q E ->
   ∃ t,PSs (cxD P w K mg base N qual (Q7 st) f q A outer s H E) (Jm st) t/\t { nx:=fun _ H'=>Q .non H',rt:=Q } (start N vs) H):FnOk P w K mg base (CXD P w) (k + 1) f fd ps sp:=by
 obtain ⟨oc,od,kV,Y,pm,an,q,ct,U,rfl,Z,I⟩:=F.ex;exact Qvd Z I S len fun A outer s H vs Q E O J=>z q A outer s H vs Q E O J
def Qf7 (K:PySem.W.Frag):R2:=fun x y H Q=>∃ a b ys,x=.ref a/\y=.ref b/\SqT K H a []/\SqT K H b ys/\Q (.ref b) H
theorem Qg0:OpR X (aZ .Add) (Qf7 X.K):=by
 intro pins s σ H x y v u Q I rx Z h;obtain ⟨a,b,ys,rfl,rfl,ha,Y,q⟩:=h;cases rx;cases Z;obtain ⟨its,r1,p1,_⟩:=I.tuple ha;obtain ⟨z,r2,p2,_⟩:=I.tuple Y;have e1:its=[]:=r1.nil_iff.mpr rfl;subst e1;obtain ⟨⟨cls,dd,data,sl⟩,ho,hc,n,hd⟩:=id p1;obtain ⟨⟨U,J,data2,O⟩,ho2,hc2,n2,hd2⟩:=id p2;simp only at hc hd hc2 hd2;subst hc hd hc2 hd2;exact concat_meets ⟨_,ho,rfl⟩ ⟨_,ho2,rfl⟩ noFill_tuple_add seq_tuple_add PySem.F.slot_tuple_add PySem.F.entry_tuple_add (PySem.F.args_tuple_add_2 _ _)
  (tuple_addW0 a b ([]:List aA).toArray z.toArray n n2 dd J sl O (by simp)) ⟨ho,ho2,⟨.ref b,H,I,rfl,q⟩⟩
abbrev Qtn (K:PySem.W.Frag):R2:=fun x y H Q=>Qn7 K x y H Q\/Qf7 K x y H Q
theorem Qkj:OpR X (aZ .Add) (Qtn X.K):=op_catT.or Qg0
def PTs (X:Cx) (ifs:List aH) (t:TT):Prop:=
 ∀ (pins:List (aB × Obj)) (s:aC) (σ:St) (H:Hp) (Q:Bool->Hp->Prop),Inv X pins σ H s->t σ H Q ->
  aF (aI X.prog X.w) X.A (forIn ifs true fun c r=>if r=true then do let ok <- isTrue c X.env (aO c X.env); pure (ForInStep.yield ok) else pure (ForInStep.yield r)) (TP X pins σ Q) X.xe s
def Qt0:TT:=fun _ H Q=>Q true H
theorem Qjr :PTs X [] Qt0:=fun _ _ _ H _ I h=>wpAny_tests_nil ⟨H,I,h⟩
theorem Qjq {c:aH} {t:TT} (h:PT X c t):PTs X [c] t:=fun pins s σ H Q I q=>wpAny_tests_one (h pins s σ H Q I q)
def Q3v (J:It) (cap:List (Option Nat)) (g:TG) (tt:TT) (te:TE) (σ:St) (H1:Hp) (Q:VK):Prop:=∀ acc,H1 acc=none ->
 ∃ W:Nat->Nat->List V->St->Hp->Prop,(∃ m,W 0 m [] (zn cap σ) (upd H1 acc (.lst [])))/\∀ i m ys σ' H',W i m ys σ' H'->H' acc=some (.lst ys) /\
  ((J.stop i H'/\Q (.ref acc) H')\/(J.go i H'/\ys.length < sizeLine/\∀ x H2,J.yld i H' x H2->g x σ' H2 fun σ3 H3=>tt σ3 H3 fun b H4=>
    if b=true then te σ3 H4 fun y H5=>H5 acc=some (.lst ys)/\∃ m',m' < m/\W (i + 1) m' (ys ++ [y]) σ3 (upd H5 acc (.lst (ys ++ [y])))
    else ∃ m',m' < m/\W (i + 1) m' ys σ3 H4))
def Q47 (cap:List (Option Nat)) (wi:TI) (g:TG) (tt:TT) (te:TE):TE:=fun σ H Q=>wi σ H fun J H1=>Q3v J cap g tt te σ H1 Q
variable {prog:aK} {R:Result->aC->Prop}
section
variable {w:aJ}
theorem Q33 {elt q iter:aH} {ifs:List aH} {scope:Scope} {pos:Pos} {it acc:aA} {env:Env} (I:Nat->aC->Prop)
  (a7:∀ n s,I n s->aF (aI prog w) A (ak it) (fun r U=>match r with
   | none=>R (.ok .next) U
   | some v=>aF (aI prog w) A (letOwnedTupleGo q it v) (fun _ J=>aF (aI prog w) A (assign q env v) (fun _ a2=>
     aF (aI prog w) A (forIn ifs true fun c r=>if r=true then do let ok <- isTrue c env (aO c env); pure (ForInStep.yield ok) else pure (ForInStep.yield r)) (fun ok O=>
      if ok=true then aF (aI prog w) A (aO elt env) (fun x Y=>
       aF (aI prog w) A (call (.builtin "list.append") [acc,x]) (fun _ a1=>∃ m,m < n/\I m a1) (fun _ _=>False) Y) (fun _ _=>False) O
      else ∃ m,m < n/\I m O) (fun _ _=>False) a2)
     (fun _ _=>False) J) (fun _ _=>False) U) (fun _ _=>False) s)
  (n:Nat) (h:I n s):codeAny (aI prog w) A (.compLoop (.ListComp elt [⟨q,iter,ifs,0⟩] scope pos) 0 it acc env) R s:=by
 refine codeAny_loop rfl I (fun n s hI=>?_) n h;show aF _ A ((compTurn (.ListComp elt [⟨q,iter,ifs,0⟩] scope pos) 0 it acc env).onRaise (fun x=>do noteFrame x env; theTreesLotGoes x)) _ _ s;refine wpAny_noted ?_;rw [compTurn_list];refine aD (wpAny_standAt (aD (aq (a7 n s hI) (fun r U Z=>?_) fun _ _ h'=>h'.elim)))
 cases r with
 | none=>exact wpAny_pure Z
 | some v=>
  refine aD (aq Z (fun _ J a3=>?_) fun _ _ h'=>h'.elim)
  refine aD (aq a3 (fun _ a2 a6=>aD (aq a6 (fun ok O z=>?_) fun _ _ h'=>h'.elim)) fun _ _ h'=>h'.elim)
  cases ok with
  | true=>
   rw [bT rfl] at z;exact aD (aD (aq z (fun x Y a5=>aD (aq a5 (fun _ a1 a4=>wpAny_pure (wpAny_pure ⟨rfl,a4⟩)) fun _ _ h'=>h'.elim)) fun _ _ h'=>h'.elim))
  | false=>
   rw [bU D4] at z;exact aD (wpAny_pure (wpAny_pure ⟨rfl,z⟩))
end
theorem Q2f {elt tg iter:aH} {ifs:List aH} {tt:TT} {pos:Pos} {N N':List Str} {sc scE:Scope} {cap:List (Option Nat)} {g:TG} {te:TE} {use:Option (aA->Sem Unit)} {QQ:aA->aC->Prop} (c4:X.calm=true) (hi:PI X tg iter wi)
  (hg:∀ cl C s0 H0 ex,PG (Z5 X N' sc cl C s0 H0 ex) tg g) (he:∀ cl C s0 H0 ex,PE (Z5 X N' sc cl C s0 H0 ex) elt te) (e1:∀ cl C s0 H0 ex,PTs (Z5 X N' sc cl C s0 H0 ex) ifs tt)
  (hN:X.N=N) (hE:X.env.scope=scE) (hc:compOkC N N' sc scE cap=true) (hs:∀ x,bC iter X.env x=pure x)
  {pins:List (aB × Obj)} {s:aC} {σ:St} {H:Hp} {Q:VK} (I:Inv X pins σ H s) (h:Q47 cap wi g tt te σ H Q)
  (fin:∀ acc C H' s' m,Inv X pins σ H' s'->s'.heap.Ns C m->Q2s X pins H' C->Q (.ref acc) H'->compPost (aI X.prog X.w) X.A X.xe use QQ (.ref acc) C (.ok .next) s') {pos':Pos} :
  aF (aI X.prog X.w) X.A (comprehension (.ListComp elt [⟨tg,iter,ifs,0⟩] sc pos) sc X.env pos' (newList []) false (aO iter X.env) use) QQ X.xe s:=by
 have ck:=compOkC.of hc;obtain ⟨cl,d8,c1,c2⟩:=Q9m (scope:=sc) (env:=X.env) fun x hx hf=>I.ok.has x.1 (by
  have:=ck.fre x hx hf;rw [<- hE] at this;exact this)
 refine wpAny_comprehension_free (use:=use) rfl hs d8 ck.kind ck.loc (thn (hi pins s σ H _ I h) fun v s1 h1=>thn h1 fun f1 Z h2=>?_)
 obtain ⟨it,fp,tn,J,H2,e,I2,T,d3,f2,hw⟩:=h2;subst e;have b5:∀ b∈fp,b < Z.heap.objs.size:=fun b Y=>by
  obtain ⟨o,e,_⟩:=T.obj _ _ d3 b Y;exact D5 e
 obtain ⟨W,⟨m0,w0⟩,turn⟩:=hw Z.heap.objs.size I2.fresh;refine av (Q2t ?_);dsimp only;have I3:Inv X pins σ (upd H2 Z.heap.objs.size (.lst [])) { Z with heap:=Z.heap.push { cls:=.type "list",data:=.seq ([]:List aA).toArray } }:=
  I2.lnew (its:=[]) (ys:=[]) (t':=Z.toks) .nil (G8 _)
 generalize d1:({ Z with heap:=Z.heap.push { cls:=.type "list",data:=.seq ([]:List aA).toArray } }:aC)=s3 at I3;have d6:s3.heap=Z.heap.push { cls:=.type "list",data:=.seq ([]:List aA).toArray }:=by rw [<- d1]
 have hsz:s3.heap.objs.size=Z.heap.objs.size + 1:=by rw [d6,G9]
 have f3:∀ b∈fp,Q2s X pins (upd H2 Z.heap.objs.size (.lst [])) b:=fun b Y=>by
  obtain ⟨g0,g1⟩:=f2 b Y;exact ⟨by rw [Qa (E8 (b5 b Y))]; exact g0,g1⟩
 have k3:∀ b o,Z.heap.get? b=some o->s3.heap.get? b=some o:=fun b o e=>by rw [d6]; exact O3 _ e
 obtain ⟨a4,b3⟩:∃ a4,ao (s3.heap.objs.size + 1) sc.names cl=a4:=⟨_,rfl⟩;obtain ⟨a1,a2⟩:∃ a1,pushCells (s3.heap.push { cls:=.type "dict",data:=.dict #[] }) sc.names=a1:=⟨_,rfl⟩;have k1:∀ b o,s3.heap.get? b=some o->a1.get? b=some o:=fun b o e=>by rw [<- a2]; exact pushCells_keeps _ _ b o (O3 _ e)
 have d9:∀ x c,a4.lookup x=some c->cl.lookup x=some c\/s3.heap.objs.size + 1<=c:=fun x c e=>by
  rw [<- b3] at e;have:=Yu (sc.names) (s3.heap.push { cls:=.type "dict",data:=.dict #[] }) cl x c (by rw [G9]; exact e);rcases this with z | ⟨_,z,_⟩
  ·exact .inl z
  ·rw [G9] at z; exact .inr z
 have I4:Inv (Z5 X N' sc a4 s3.heap.objs.size s3 (upd H2 Z.heap.objs.size (.lst [])) fp) [] (zn cap σ) (upd H2 Z.heap.objs.size (.lst [])) { s3 with heap:=a1 }:=by
  rw [<- b3,<- a2];exact Qif I3 hN hE ck c1 c2 f3 (fun b Y=>D3 (b5 b Y) (by rw [hsz]; exact Nat.le_succ _))
 have d7:tn 0 a1:=T.keep _ _ _ d3 fun b Y o e=>k1 b o (k3 b o e)
 generalize O:Z5 X N' sc a4 s3.heap.objs.size s3 (upd H2 Z.heap.objs.size (.lst [])) fp=X' at I4;have c5:X'.xe=fun _ _=>False:=by rw [<- O]; rfl
 have U:X'.prog=X.prog:=by rw [<- O]; rfl
 have a3:X'.w=X.w:=by rw [<- O]; rfl
 have c9:X'.K=X.K:=by rw [<- O]; rfl
 have a6:X'.A=X.A:=by rw [<- O]; rfl
 have d2:X'.calm=true:=by rw [<- O]; exact c4
 have b4:X'.env=compEnvC sc a4 s3.heap.objs.size X.env:=by rw [<- O]; rfl
 have b1:X'.env.locals=s3.heap.objs.size:=by rw [b4]; rfl
 have e7:PG X' tg g:=by rw [<- O]; exact hg _ _ _ _ _
 have e4:PE X' elt te:=by rw [<- O]; exact he _ _ _ _ _
 have c8:PTs X' ifs tt:=by rw [<- O]; exact e1 _ _ _ _ _
 have b2:∀ {H':Hp},(∀ b∈fp,H' b=none)->∀ b∈fp,Q2s X' [] H' b:=fun {H'} hn b Y=>by
  obtain ⟨_,g1,g2,g3,g4,g5⟩:=f3 b Y;refine ⟨hn b Y,by rw [b1,hsz]; exact E8 (Nat.lt_succ_of_lt (b5 b Y)),?_,?_,?_,fun p hp=>?_⟩
  ·rw [<- O];intro z;rcases D7.mp (I3.stkSub b z) with e | z
   ·exact g1 e
   ·exact g2 z
  ·left
   rw [<- O];exact Y
  ·intro x c e;rw [b4] at e;rcases d9 x c e with z | z
   ·exact g4 x c (c1 x c z)
   ·exact fun q=>absurd (D3 (b5 b Y) (E6 (E6 (Nat.le_succ _) (hsz ▸ Nat.le_succ _)) (q ▸ z))) (L8 _)
  ·rw [<- O] at hp;cases hp
 have d5:∀ {a7:St} {H':Hp} {s':aC},Inv X' [] a7 H' s'->Q (.ref Z.heap.objs.size) H'->compPost (aI X.prog X.w) X.A X.xe use QQ (.ref Z.heap.objs.size) s3.heap.objs.size (.ok .next) s':=fun {a7 H' s'} J q=>by
  obtain ⟨mm,d4,_⟩:=J.loc;rw [b1] at d4;have c3:H' s3.heap.objs.size=none:=by have:=J.free; rw [b1] at this; exact this
  have hok:=J.hok;rw [U,a3] at hok;have u1:Un (frs X.stack) fp (upd H2 Z.heap.objs.size (.lst [])) H' s3.heap s'.heap:=by
   have:=J.base;rw [<- O] at this;exact this
  have e8:s'.os=s3.os:=by have:=J.os; rw [<- O] at this; exact this
  refine fin _ _ H' s' mm (I3.call' (s':=s') e8 u1 hok J.bare fun b Y=>?_) d4 (I3.fpOk (O6 _) c3) q
  obtain ⟨_,g1,g2,g3,g4,g5⟩:=f3 b Y;exact ⟨g3,g1,g4,g5⟩
 have a5:codeAny (aI X.prog X.w) X.A (.compLoop (.ListComp elt [⟨tg,iter,ifs,0⟩] sc pos) 0 (.ref it) (.ref Z.heap.objs.size) X'.env)
   (compPost (aI X.prog X.w) X.A X.xe use QQ (.ref Z.heap.objs.size) s3.heap.objs.size) { s3 with heap:=a1 }:=by
  refine Q33 (fun n s'=>∃ i ys a7 H',Inv X' [] a7 H' s'/\tn i s'.heap/\(∀ b∈fp,H' b=none)/\W i n ys a7 H') ?_ m0 ⟨0,[],_,_,I4,d7,fun b Y=>(f3 b Y).1,w0⟩
  rintro n s5 ⟨i,ys,b8,H5,I5,c7,d0,w5⟩;obtain ⟨f0,q⟩:=turn i n ys b8 H5 w5;rcases q with ⟨stop,q⟩ | ⟨go,e9,step⟩
  ·refine thn (a6 ▸ T.done X' U a3 c9 d2 i [] s5 b8 H5 _ I5 (b2 d0) c7 stop) fun r s6 ⟨hr,I6⟩=>?_
   subst hr;exact d5 I6 q
  ·refine thn (a6 ▸ T.item X' U a3 c9 d2 i [] s5 b8 H5 _ I5 (b2 d0) c7 go) fun r s6 ⟨u,hr,h6⟩=>?_
   subst hr;refine thn h6 fun _ s7 ⟨x,H7,I7,r7,y7,b0,e3⟩=>?_
   have e2:=I7.pinned (b2 e3) (T.obj _ _ b0);have g7:=e7 _ s7 b8 H7 x u _ e2 r7 (step x H7 y7);rw [U,a3,a6,c5] at g7;refine thn g7 fun _ s8 ⟨a8,H8,I8,q8⟩=>?_
   have t8:=c8 _ s8 a8 H8 _ I8 q8;rw [U,a3,a6,c5] at t8;refine thn t8 fun e6 e0 ⟨e5,b7,b6⟩=>?_
   cases e6 with
   | false=>
    rw [bU D4] at b6 ⊢;obtain ⟨m',c0,w9⟩:=b6;refine ⟨m',c0,i + 1,_,a8,_,b7.unpinned,T.keep _ _ _ b0 fun b Y o eo=>(b7.pin (b,o) (E4 _ (E4 _ (Wd Y eo)))).1,fun b Y=>?_,w9⟩;obtain ⟨o,eo,d⟩:=T.obj _ _ b0 b Y;exact (b7.pin (b,o) (E4 _ (E4 _ (Wd Y eo)))).2.1
   | true=>
   rw [bT rfl] at b6 ⊢;have g8:=e4 _ e0 a8 e5 _ b7 b6;rw [U,a3,a6,c5] at g8;refine thn g8 fun y s9 ⟨yv,H9,I9,r9,a9,m',c0,w9⟩=>?_
   obtain ⟨z,its,nn,rr,hl,e⟩:=I9.lstM a9;refine bE F.slot_list_append ⟨_,e,rfl⟩ F.entry_list_append (F.args_list_append_2 _ _) (PySem.list_append _ its.toArray nn y (by rw [O8]; omega)) ⟨e,?_⟩;have c6:Inv X' ([] ++ Q1c fp s7.heap) a8 (upd H9 Z.heap.objs.size (.lst (ys ++ [yv]))) { s9 with heap:=s9.heap.update Z.heap.objs.size (Obj.mapSeq fun a=>a.push y) }:=
    I9.lset (t':=s9.toks) (its':=its ++ [y]) a9 e (by simp) (rr.append (.cons r9 .nil)) (by rw [O5,N1]; omega)
   refine ⟨m',c0,i + 1,_,a8,_,c6.unpinned,T.keep _ _ _ b0 fun b Y o eo=>(c6.pin (b,o) (E4 _ (E4 _ (Wd Y eo)))).1,fun b Y=>?_,w9⟩;obtain ⟨o,eo,d⟩:=T.obj _ _ b0 b Y;exact (c6.pin (b,o) (E4 _ (E4 _ (Wd Y eo)))).2.1
 rw [b4] at a5;have b9:=codeAny_compStart_list (rest:=[]) (ifs:=ifs) a5 (T.self X.A 0 _ _ _ d7 a5);subst d1;rw [<- b3,<- a2] at b9;exact b9
theorem Qfs {elt tg iter:aH} {ifs:List aH} {tt:TT} {pos:Pos} {N N':List Str} {sc scE:Scope} {cap:List (Option Nat)} {g:TG} {te:TE} (z:X.calm=true) (hi:PI X tg iter wi)
  (hg:∀ cl C s0 H0 ex,PG (Z5 X N' sc cl C s0 H0 ex) tg g) (U:∀ cl C s0 H0 ex,PE (Z5 X N' sc cl C s0 H0 ex) elt te) (O:∀ cl C s0 H0 ex,PTs (Z5 X N' sc cl C s0 H0 ex) ifs tt)
  (hN:X.N=N:=by rfl) (hE:X.env.scope=scE:=by rfl) (hc:compOkC N N' sc scE cap=true:=by decide +kernel) (hs:∀ x,bC iter X.env x=pure x:=by intro _; rfl) :
  PE X (.ListComp elt [⟨tg,iter,ifs,0⟩] sc pos) (Q47 cap wi g tt te):=by
 intro pins s σ H Q I h;rw [eval_ListComp];refine Q2f (use:=none) z hi hg U O hN hE hc hs I h fun acc C H' s' m I' hm hf q=>⟨m,hm,fun h' J=>?_⟩
 obtain ⟨f0,Z,f2,f3,Y,f5⟩:=hf;exact ⟨.ref acc,H',I'.turned (t':=s'.toks) (fun b o hb e=>(J.2 b hb).trans e) f0 Z f3 Y f5,rfl,q⟩
theorem Qfe {ifs:List aH} {tt:TT} {i:Nat} {px J:Pos} {elt tg iter:aH} {pos:Pos} {N N':List Str} {sc scE:Scope} {cap:List (Option Nat)} {g:TG} {te:TE} (a4:X.N.Nodup) (a2:X.N[i]?=some x) (hx:Loc X.env.scope x) (O:X.calm=true) (hi:PI X tg iter wi)
  (hg:∀ cl C s0 H0 ex,PG (Z5 X N' sc cl C s0 H0 ex) tg g) (he:∀ cl C s0 H0 ex,PE (Z5 X N' sc cl C s0 H0 ex) elt te) (Z:∀ cl C s0 H0 ex,PTs (Z5 X N' sc cl C s0 H0 ex) ifs tt)
  (a3:swapsWith (.ListComp elt [⟨tg,iter,ifs,0⟩] sc pos) (some (.Name x px)) J.line X.env=pure true:=by rfl)
  (hN:X.N=N:=by rfl) (hE:X.env.scope=scE:=by rfl) (hc:compOkC N N' sc scE cap=true:=by decide +kernel) (hs:∀ x,bC iter X.env x=pure x:=by intro _; rfl)
  (hf:X.fn x=true\/X.env.scope.names.lookup x=some .local:=by first | exact .inl rfl | exact .inr rfl | assumption) :
  PS X (.Assign [.Name x px] (.ListComp elt [⟨tg,iter,ifs,0⟩] sc pos) J) (Qnz (Q47 cap wi g tt te) (Q7f i)):=by
 intro pins s σ H D I h;rw [exec_Assign_Name_used _ _ _ _ a3];refine aD (wpAny_standAt (aD ?_));show aF _ _ (do let _ <- comprehension (.ListComp elt [⟨tg,iter,ifs,0⟩] sc pos) sc X.env _ (newList []) false (aO iter X.env) (some (assign (.Name x px) X.env))) _ _ s;refine aD (aq (Q2f (use:=some (assign (.Name x px) X.env)) (QQ:=fun _ s'=>SP X pins D .next s') O hi hg he Z hN hE hc hs I h ?_) (fun _ s' hq=>wpAny_pure (wpAny_pure hq)) fun _ _ e=>e)
 intro acc C H' s' m I' hm a1 q;obtain ⟨f0,f1,f2,f3,f4,f5⟩:=a1;show aF _ _ (assign (.Name x px) X.env (.ref acc)) _ _ _;refine wpAny_assign_Name (Q39 I' a4 a2 hx (v:=.ref acc) rfl (fun s2 I2 ⟨a,sb,U⟩=>⟨m,?_,fun h' Y=>?_⟩) hf)
 ·refine hm.sameBut sb fun z=>?_
  rcases U with U | U
  ·exact f1 (z.trans U)
  ·exact f4 x a U z.symm
 ·exact ⟨_,H',I2.turned (t':=s2.toks) (fun b o hb e=>(Y.2 b hb).trans e) f0 f1 f3 f4 f5,q⟩
section
section
variable {κ:Type} [DecidableEq κ]
def qf (kvs:List (κ × V)) (k:κ):Option V:=(kvs.find? fun kv=>decide (kv.1=k)).map (·.2)
def X2 (kvs:List (κ × V)) (k:κ) (v:V):List (κ × V):=
 if (kvs.any fun kv=>decide (kv.1=k))=true then kvs.map (fun kv=>if kv.1=k then (kv.1,v) else kv) else kvs ++ [(k,v)]
theorem Q0v {p:κ × V} {r:List (κ × V)} {k:κ} (e:p.1=k):qf (p :: r) k=some p.2:=by simp [qf,List.find?_cons,e]
theorem Q0w {p:κ × V} {r:List (κ × V)} {k:κ} (e:¬ p.1=k):qf (p :: r) k=qf r k:=by simp [qf,List.find?_cons,e]
theorem Q5v (k:κ):∀ q:List (κ × V),(q.any fun kv=>decide (kv.1=k))=(qf q k).isSome
 | []=>rfl
 | p :: r=>by
  rw [List.any_cons]
  by_cases e:p.1=k
  ·simp only [Q0v e,bW e,Bool.true_or,Option.isSome_some]
  ·rw [Q0w e,bV e,Bool.false_or]; exact Q5v k r
theorem Kc (q:List (κ × V)) (k:κ) (v:V):(X2 q k v).length<=q.length + 1:=by
 unfold X2
 split
 ·rw [O1]; omega
 ·rw [O5,O9,List.length_nil]; omega
theorem RelO.isSome_eq {u:Option aA} (r:RelO o u):o.isSome=u.isSome:=by
 cases o with
 | none=>cases u with
  | none=>rfl
  | some _=>exact (show False from r).elim
 | some _=>cases u with
  | none=>exact (show False from r).elim
  | some _=>rfl
theorem KV.val {I:List (κ × V)} {vs:List (κ × aA)} (r:KV I vs) (k:κ):RelO (qf I k) (bK vs k):=by
 unfold KV at r
 induction r with
 | nil=>exact True.intro
 | @cons p q ps O h t U=>
  obtain ⟨h1,h2⟩:=h
  by_cases e:p.1=k
  ·have J:q.1=k:=h1.symm.trans e;have b:bK (q :: O) k=some q.2:=by simp [bK,List.find?_cons,J]
   rw [Q0v e,b]; exact h2
  ·have J:¬ q.1=k:=fun z=>e (h1.trans z)
   have b:bK (q :: O) k=bK O k:=by simp [bK,List.find?_cons,J]
   rw [Q0w e,b]; exact U
theorem KV.any {q:List (κ × V)} {vs:List (κ × aA)} (r:KV q vs) (k:κ):(q.any fun kv=>decide (kv.1=k))=vs.any fun kv=>decide (kv.1=k):=by
 unfold KV at r
 induction r with
 | nil=>rfl
 | cons h t z=>rw [List.any_cons,List.any_cons,z,h.1]
theorem KV.repl {I:List (κ × V)} {vs:List (κ × aA)} (r:KV I vs) (k:κ) (J:RelV y u) :
  KV (I.map fun kv=>if kv.1=k then (kv.1,y) else kv) (vs.map fun kv=>if kv.1=k then (kv.1,u) else kv):=by
 unfold KV at r ⊢
 induction r with
 | nil=>exact .nil
 | @cons p q ps U h t O=>
  rw [D0,D0];refine .cons ?_ O;obtain ⟨h1,h2⟩:=h
  by_cases e:p.1=k
  ·rw [bT e,bT (h1.symm.trans e)]; exact ⟨h1,J⟩
  ·rw [bU e,bU (fun z=>e (h1.trans z))]; exact ⟨h1,h2⟩
theorem KV.put {q:List (κ × V)} {vs:List (κ × aA)} (r:KV q vs) (k:κ) (z:RelV y u):KV (X2 q k y) (stored vs k u):=by
 unfold X2 stored;rw [r.any k]
 by_cases e:(vs.any fun kv=>decide (kv.1=k))=true
 ·rw [bT e,bT e]; exact r.repl k z
 ·rw [bU e,bU e]; exact Paired.snoc r ⟨rfl,z⟩
theorem KV.length {q:List (κ × V)} {vs:List (κ × aA)} (r:KV q vs):q.length=vs.length:=Paired.length r
end
theorem Q7a {w:aJ} {k:Key} (r:RelV (kV k) u):(Z9 P w).is k u=true:=by
 cases k with
 | inl i=>obtain ⟨t,e⟩:=(show ∃ t,u=Value.int i t from r); subst e; exact Q6x P w i t
 | inr x=>obtain ⟨t,e⟩:=(show ∃ t,u=Value.str x t from r); subst e; exact Q6w P w x t
abbrev KT (H:Hp):List (HK × V)->List (HK × aB × aA)->Prop:=aR fun p q=>p.1=q.1/\KR H p.1 q.2.1/\RelV p.2 q.2.2
theorem KT.val {I:List (HK × V)} (r:KT H I xs) (k:HK):RelO (qf I k) ((atKey xs k).map (·.2)):=by
 induction r with
 | nil=>exact True.intro
 | @cons p q ps O h t U=>
  obtain ⟨h1,_,h2⟩:=h
  by_cases e:p.1=k
  ·have J:q.1=k:=h1.symm.trans e;have b:atKey (q :: O) k=some q.2:=by simp [atKey,List.find?_cons,J]
   rw [Q0v e,b]; exact h2
  ·have J:¬ q.1=k:=fun z=>e (h1.trans z)
   have b:atKey (q :: O) k=atKey O k:=by simp [atKey,List.find?_cons,J]
   rw [Q0w e,b]; exact U
theorem KT.repl {I:List (HK × V)} (r:KT H I xs) (k:HK) (J:RelV y u) :
  KT H (I.map fun kv=>if kv.1=k then (kv.1,y) else kv) (xs.map (putAt k u)):=by
 induction r with
 | nil=>exact .nil
 | @cons p q ps Y h t O=>
  rw [D0,D0];refine .cons ?_ O;obtain ⟨h1,h2,U⟩:=h;unfold putAt
  by_cases e:p.1=k
  ·rw [bT e,bT (h1.symm.trans e)]; exact ⟨h1,h2,J⟩
  ·rw [bU e,bU (fun z=>e (h1.trans z))]; exact ⟨h1,h2,U⟩
theorem KT.put {z:List (HK × V)} (r:KT H z xs) (k:HK) (J:KR H k b) (I:RelV y u) :
  KT H (X2 z k y) (storedH xs k b u):=by
 have e:(z.any fun kv=>decide (kv.1=k))=(atKey xs k).isSome:=by
  rw [Q5v,(r.val k).isSome_eq,Option.isSome_map]
 unfold X2 storedH;rw [e]
 by_cases q:(atKey xs k).isSome=true
 ·rw [bT q,bT q]; exact r.repl k I
 ·rw [bU q,bU q]; exact Paired.snoc r ⟨rfl,J,I⟩
theorem KT.keeps {q:List (HK × V)} (r:KT H q xs) (I:∀ b ys,H b=some (.tup ys)->H' b=some (.tup ys)):KT H' q xs:=
 Paired.mapP r fun _ _ z=>⟨z.1,z.2.1.keep I,z.2.2⟩
section
variable {P:aK} {w:aJ} {H:Hp} {h:Heap} {a:aB}
theorem Qn6 {u:HO} (ok:HOk P w H h) (e:Rd H a u):ObjOk P w H h a u:=e.ok ok
theorem Q7n {q:List (Key × V)} (ok:HOk P w H h) (e:Rd H a (.dK q)):q.length<=sizeLine/\(a == af)=false/\∃ vs,KV q vs/\h.DictOf (Z9 P w) a vs:=
 show ObjOk P w H h a (.dK q) from Qn6 ok e
theorem Qvh {q:List (Key × V)} (ok:HOk P w H h) (e:H a=some (.dK q)):q.length<=sizeLine/\(a == af)=false/\∃ vs,KV q vs/\h.DictOf (Z9 P w) a vs:=Q7n ok (.inl e)
mutual
theorem Qgr (ok:HOk P w H h):∀ {k:HK} {v:V} {u:aA},KAt H k v->RelV v u->KIs h k u
 | .int _,_,_,r,ru=>by cases r; exact ru
 | .str _,_,_,r,ru=>by cases r; exact ru
 | .tup l,_,u,⟨a,vs,e,q,r⟩,ru=>by
  subst e;cases (show u=Value.ref a from ru);obtain ⟨_,its,z,p⟩:=(show ObjOk P w H h a (.tup vs) from ok a _ q);exact ⟨a,its.toArray,rfl,p,by simpa using katL_is ok r z⟩
theorem katL_is (ok:HOk P w H h):∀ {l:List HK} {vs:List V} {us:List aA},KAtL H l vs->Vals vs us->KIsL h l us
 | [],_,_,r,ru=>by cases r; cases ru; rfl
 | _ :: _,_,_,⟨v,r,e,h1,t⟩,ru=>by
  subst e;cases ru with
  | cons a b=>exact ⟨_,_,rfl,Qgr ok h1 a,katL_is ok t b⟩
end
theorem Vc (ok:HOk P w H h) (e:KR H k a):(nk P w).is h k a:=⟨Qgr ok e.1 rfl,e.2⟩
theorem ju (q:A.units + 9 < aP):(nk P w).room A.in1:=by show A.units + 1 + 5 < aP; omega
theorem Q2d {I:List (HK × V)} (ok:HOk P w H h) (e:Rd H a (.dT I)):I.length<=sizeLine/\(a == af)=false /\
  ∃ xs,KT H I xs/\h.DictOfH (nk P w) a xs:=by
 obtain ⟨z,y,xs,r,o,es,ep,h1,h2,h3,U,Y⟩:=(show ObjOk P w H h a (.dT I) from Qn6 ok e);refine ⟨z,y,xs,r,o,es,ep,h1,h2,h3,U,fun x J=>?_,Y⟩;have all:∀ {l:List (HK × V)} {m:List (HK × aB × aA)},KT H l m->∀ x∈m,(nk P w).is h x.1 x.2.1:=by
  intro l m q
  induction q with
  | nil=>intro x J; exact nomatch J
  | @cons p q ps qs O t Z=>
   intro x J;rcases D7.mp J with e | J
   ·subst e;exact Vc ok (by rw [<- O.1]; exact O.2.1)
   ·exact Z x J
 exact all r x J
theorem Qnn {q:List (HK × V)} (ok:HOk P w H h) (e:H a=some (.dT q)):q.length<=sizeLine/\(a == af)=false /\
  ∃ xs,KT H q xs/\h.DictOfH (nk P w) a xs:=Q2d ok (.inl e)
end
def DGet (H:Hp) (a:aB) (y:V) (r:Option V):Prop:=
 (∃ kvs k,Rd H a (.dK kvs)/\y=kV k/\r=qf kvs k)\/∃ kvs k b,Rd H a (.dT kvs)/\y=.ref b/\KR H k b/\r=qf kvs k
def DPut (H:Hp) (a:aB) (y v:V) (H':Hp):Prop:=
 (∃ kvs k,H a=some (.dK kvs)/\y=kV k/\kvs.length < sizeLine/\H'=upd H a (.dK (X2 kvs k v))) \/
 ∃ kvs k b,H a=some (.dT kvs)/\y=.ref b/\KR H k b/\kvs.length < sizeLine/\H'=upd H a (.dT (X2 kvs k v))
theorem DGet.t {q:List (HK × V)} (e:H a=some (.dT q)) (z:KR H k b):DGet H a (.ref b) (qf q k):=.inr ⟨q,k,b,.inl e,rfl,z,rfl⟩
theorem DPut.t {q:List (HK × V)} {v:V} (e:H a=some (.dT q)) (z:KR H k b) (I:q.length < sizeLine) :
  DPut H a (.ref b) v (upd H a (.dT (X2 q k v))):=.inr ⟨q,k,b,e,rfl,z,I,rfl⟩
section
variable {X:Cx} {pins:List (aB × Obj)} {σ:St} {H:Hp} {s:aC} {a:aB} {y v:V} {u r:aA} {o:Option V} {A:aM} {E:aA->aC->Prop}
theorem Inv.big (I:Inv X pins σ H s):af < s.heap.objs.size:=by
 have h:aU < s.heap.objs.size:=(I.mod.glob.keeps I.bk).lt;exact Nat.lt_trans (by decide) h
theorem Qdb (hu:A.units + 9 < aP) (I:Inv X pins σ H s) (g:DGet H a y (some v)) (ry:RelV y u) (h:∀ O s',Inv X pins σ H s'->RelV v O->Q O s') :
  aF (aI X.prog X.w) A (getItem (.ref a) u) Q E s:=by
 rcases g with ⟨U,k,e,ey,l⟩ | ⟨U,k,b,e,ey,eb,l⟩
 ·subst ey;obtain ⟨z,hd,vs,q,dd⟩:=Q7n I.hok e;obtain ⟨O,Y,J⟩:=RelO.some_of (v:=v) (o:=bK vs k) (by rw [l]; exact q.val k);exact wpAny_getItem_of (Q7a ry) dd.mapOf Y (h O _ (I.tok _) J)
 ·subst ey;cases (show u=Value.ref b from ry);obtain ⟨z,hd,xs,q,dd⟩:=Q2d I.hok e;obtain ⟨O,Y,J⟩:=RelO.some_of (v:=v) (o:=(atKey xs k).map (·.2)) (by rw [l]; exact q.val k);obtain ⟨p,hp,Z⟩:=Option.map_eq_some_iff.mp Y;refine wpAny_getItem_heap (ju hu) (Vc I.hok eb) dd hp ?_;rw [Z];exact h O _ (I.tok _) J
theorem Qxq (hu:A.units + 9 < aP) (I:Inv X pins σ H s) (g:DGet H a y o) (Y:RelV y u) (h:∀ s',Inv X pins σ H s'->Q (.bool o.isSome) s') :
  aF (aI X.prog X.w) A (aS .In u (.ref a)) Q E s:=by
 rcases g with ⟨O,k,e,U,l⟩ | ⟨O,k,b,e,U,Z,l⟩
 ·subst U;obtain ⟨z,hd,vs,J,dd⟩:=Q7n I.hok e;refine wpAny_in_of (Q7a Y) hd dd.mapOf ?_;rw [<- (J.val k).isSome_eq,<- l];exact h _ (I.tok _)
 ·subst U;cases (show u=Value.ref b from Y);obtain ⟨z,hd,xs,J,dd⟩:=Q2d I.hok e;refine wpAny_in_heap (ju hu) (Vc I.hok Z) hd dd ?_;have q:=(J.val k).isSome_eq;rw [Option.isSome_map] at q;rw [<- q,<- l];exact h _ (I.tok _)
theorem Qmj (hu:A.units + 9 < aP) (I:Inv X pins σ H s) (g:DGet H a y o) (Y:RelV y u) (h:∀ s',Inv X pins σ H s'->Q (.bool (!o.isSome)) s') :
  aF (aI X.prog X.w) A (aS .NotIn u (.ref a)) Q E s:=by
 rcases g with ⟨O,k,e,U,l⟩ | ⟨O,k,b,e,U,Z,l⟩
 ·subst U;obtain ⟨z,hd,vs,J,dd⟩:=Q7n I.hok e;refine wpAny_notIn_of (Q7a Y) hd dd.mapOf ?_;rw [<- (J.val k).isSome_eq,<- l];exact h _ (I.tok _)
 ·subst U;cases (show u=Value.ref b from Y);obtain ⟨z,hd,xs,J,dd⟩:=Q2d I.hok e;refine wpAny_notIn_heap (ju hu) (Vc I.hok Z) hd dd ?_;have q:=(J.val k).isSome_eq;rw [Option.isSome_map] at q;rw [<- q,<- l];exact h _ (I.tok _)
theorem Q5j {t':Nat} {ob:HO} (I:Inv X pins σ H s) (O:Mut (H a)) (hs:Heap.SameBut a s.heap h') (J:∃ q,h'.get? a=some q) (new:ObjOk X.prog X.w (upd H a ob) h' a ob) :
  Inv X pins σ (upd H a ob) { s with heap:=h',toks:=t' }:=
 I.write (x:=a) (e:=a) O (.inl rfl) (fun b q U z=>(hs.2 b U).trans z) J new
theorem Qrw {w:aJ} {H':Hp} {q:List (Key × V)} {vs:List (Key × aA)} (z:q.length<=sizeLine) (hd:(a == af)=false) (I:KV q vs) (dd:h'.DictOf (Z9 P w) a vs) :
  ObjOk P w H' h' a (.dK q):=⟨z,hd,vs,I,dd⟩
theorem Qda {Q:Unit->aC->Prop} (hu:A.units + 9 < aP) (I:Inv X pins σ H s) (g:DPut H a y v H') (ry:RelV y u) (rv:RelV v r) (h:∀ s',Inv X pins σ H' s'->Q () s') :
  aF (aI X.prog X.w) A (setItem (.ref a) u r) Q E s:=by
 rcases g with ⟨J,k,e,ey,l,Z⟩ | ⟨J,k,b,e,ey,eb,l,Z⟩
 ·subst ey Z;obtain ⟨z,hd,vs,O,dd⟩:=Qvh I.hok e;have hz:vs.length<=sizeLine:=by rw [<- O.length]; exact z
  have hl:(X2 J k v).length<=sizeLine:=by have:=Kc J k v; omega
  refine wpAny_setItem_pairs (hsz:=hz) (Q7a ry) dd fun h' U hs=>h _ ?_
  have he:∃ q,h'.get? a=some q:=let ⟨q,_,_,Y,_⟩:=U; ⟨q,Y⟩;exact Q5j I (by rw [e]; exact True.intro) hs he (Qrw hl hd (O.put k rv) U)
 ·subst ey Z;cases (show u=Value.ref b from ry);obtain ⟨z,hd,xs,O,dd⟩:=Qnn I.hok e;have hz:xs.length<=sizeLine:=by rw [<- Paired.length O]; exact z
  have hl:(X2 J k v).length<=sizeLine:=by have:=Kc J k v; omega
  refine wpAny_setItem_heap (hsz:=hz) (ju hu) (Vc I.hok eb) dd fun h' U hs=>h _ ?_
  obtain ⟨q,es,ep,Y,h2,h3,h4,_,h5⟩:=U;refine Q5j I (by rw [e]; exact True.intro) hs ⟨q,Y⟩ ⟨hl,hd,_,(O.put k eb rv).keeps fun c ys ec=>?_,q,es,ep,Y,h2,h3,h4,h5⟩;rw [Qa (Qng ec e (fun z=>nomatch z))];exact ec
end
def Qsc (i:aH):Prop:=∀ ov iv,subscripted i false ov iv=operate [ov,iv] (getItem ov iv)
theorem Qit {prog:aK} {w:aJ} {A:aM} {E:aA->aC->Prop} {s:aC} {env:Env} {value q:aH} {pos:Pos} {T id:String} {Q:aA->aC->Prop}
  (hl:typeLookup (.type T) "__getitem__" = pure (some (.builtin id))) (hs:Qsc q)
  (h:aF (aI prog w) A (aO value env) (fun o O=>aF (aI prog w) A (aO q env) (fun i z=>z.TypeIs o T/\aF (aI prog w) A (getItem o i) Q E z) E O) E s) :
  aF (aI prog w) A (aO (.Subscript value q pos) env) Q E s:=by
 refine Subscript_ (aq h (fun o O U=>aq U (fun i z I=>?_) fun _ _ x=>x) fun _ _ x=>x)
 obtain ⟨Z,I⟩:=I;unfold subscriptTail;refine aD ?_;rw [getitemInPython_of_ne Z.not_modules];refine aD (wpAny_specialOf Z hl ?_);have fin:aF (aI prog w) A (subscripted q false o i) (fun r J=>aF (aI prog w) A (letTemporaryGo value o r >>= fun _=>pure r) Q E J) E z:=by
  rw [hs o i];exact wpAny_operating (aq I (fun r J Y=>aD (wpAny_letTemporaryGo (wpAny_pure Y))) fun _ _ x=>x)
 first
  | exact wpAny_pure (aD fin)
  | exact aD (wpAny_pure (aD fin))
  | exact aD fin
theorem Q7p {pins:List (aB × Obj)} (I:Inv X pins σ H s) (g:DGet H a y o):s.TypeIs (.ref a) "dict" := by
 rcases g with ⟨q,k,e,_,_⟩ | ⟨q,k,b,e,_,_,_⟩
 ·obtain ⟨_,_,vs,_,dd⟩:=Q7n I.hok e;exact dd.typeIs
 ·obtain ⟨_,_,xs,_,dd⟩:=Q2d I.hok e;exact dd.typeIs
def Qt5 (td ty:TE):TE:=fun σ H Q=>td σ H fun x H1=>ty σ H1 fun y H2=>∃ a v,x=.ref a/\DGet H2 a y (some v)/\Q v H2
def Qtf (td ty tv:TE):TS:=fun D σ H=>tv σ H fun v H1=>td σ H1 fun x H2=>ty σ H2 fun y H3=>∃ a H4,x=.ref a/\DPut H3 a y v H4/\D.nx σ H4
section
variable {X:Cx} {o i e value:aH} {pos pos' tpos:Pos} {td ty tv:TE}
theorem Qk8 (hu:X.A.units + 9 < aP) (Y:PE X o td) (hi:PE X i ty) (hs:Qsc i):PE X (.Subscript o i pos) (Qt5 td ty):=by
 intro pins s σ H Q I h;refine Qit PySem.F.slot_dict_getitem.lookup hs (thn (Y pins s σ H _ I h) fun u s1 ⟨x,H1,Z,rx,O⟩=>thn (hi pins s1 σ H1 _ Z O) fun iv s2 ⟨y,H2,z,U,a,v,ex,g,q2⟩=>?_)
 subst ex;obtain rfl:u=Value.ref a:=rx;exact ⟨Q7p z g,Qdb hu z g U fun w' s3 J q=>⟨v,H2,J,q,q2⟩⟩
theorem Qjv (Z:X.A.units + 9 < aP) (z:PE X o td) (hi:PE X i ty) (Y:PE X value tv) (hs:swapsWith value (some (.Subscript o i pos')) pos.line X.env=pure false) :
  PS X (.Assign [.Subscript o i pos'] value pos) (Qtf td ty tv):=by
 intro pins s σ H D I h;refine wpAny_Assign_Subscript (thn (Y pins s σ H _ I h) fun r s1 ⟨v,H1,I1,U,q⟩=>thn (z pins s1 σ H1 _ I1 q) fun u s2 ⟨x,H2,I2,J,O⟩=>thn (hi pins s2 σ H2 _ I2 O) fun iv s3 ⟨y,H3,I3,ry,a,H4,ex,g,q3⟩=>?_) hs
 subst ex;obtain rfl:u=Value.ref a:=J;exact Qda Z I3 g ry U fun s4 I4=>⟨σ,H4,I4,q3⟩
end
theorem Q7m {w:aJ} (h:Heap) (q:af < h.objs.size):ObjOk P w H (h.push { cls:=.type "dict",data:=.dict #[] }) h.objs.size (.dT []):=
 ⟨G8 _,beq_eq_false_iff_ne.mpr (Ne.symm (E8 q)),[],.nil,_,#[],0,D8 _ rfl,⟨rfl,rfl,rfl⟩,rfl,rfl,List.nodup_nil⟩
def Qny:TE:=fun _ H Q=>∀ p,H p=none->Q (.ref p) (upd H p (.dT []))
section
variable {X:Cx} {pos:Pos}
theorem Qfr:PE X (.Dict [] [] pos) Qny:=fun pins s σ H Q I h=>
 wpAny_Dict_empty ⟨.ref s.heap.objs.size,_,I.laid (a:=s.heap.objs.size) (o:=.dT []) (t':=s.toks) (fun _ _ q=>O3 _ q) (O6 _) (Q7m s.heap I.big),rfl,h _ (I.hok.fresh (O6 _))⟩
end
def Q8c:List (TE × TE)->St->Hp->(List (V × V)->Hp->Prop)->Prop
 | [],_,H,Q=>Q [] H
 | (tk,tv) :: r,σ,H,Q=>tk σ H fun x H1=>tv σ H1 fun y H2=>Q8c r σ H2 fun ps H3=>Q ((x,y) :: ps) H3
abbrev VV:List (V × V)->List (aA × aA)->Prop:=aR fun p q=>RelV p.1 q.1/\RelV p.2 q.2
def PPs (X:Cx) (pos:Pos) (keys:List (Option aH)) (values:List aH) (trs:List (TE × TE)):Prop:=
 ∀ (pins:List (aB × Obj)) (s:aC) (σ:St) (H:Hp) (Q:List (V × V)->Hp->Prop),Inv X pins σ H s->Q8c trs σ H Q ->
  aF (aI X.prog X.w) X.A (evalPairs (pairTrees keys values X.env pos)) (fun vs s'=>∃ ps H',Inv X pins σ H' s'/\VV ps vs/\Q ps H') X.xe s
theorem Qjx {pos:Pos}:PPs X pos [] [] []:=fun pins s σ H Q I h=>pairTrees_nil_walk ⟨[],H,I,.nil,h⟩
theorem Qfi {pos:Pos} {k v:aH} {ks:List (Option aH)} {vs:List aH} {J tv:TE} {q:List (TE × TE)} (hk:PE X k J) (U:PE X v tv) (hr:PPs X pos ks vs q) :
  PPs X pos (some k :: ks) (v :: vs) ((J,tv) :: q):=fun pins s σ H Q I h=>
 pairTrees_cons_walk (thn (hk pins s σ H _ I h) fun u s1 ⟨x,H1,I1,rx,Y⟩=>thn (U pins s1 σ H1 _ I1 Y) fun w2 O ⟨y,H2,I2,ry,q2⟩=>
  thn (hr pins O σ H2 _ I2 q2) fun ws s3 ⟨ps,H3,Z,z,q3⟩=>⟨(x,y) :: ps,H3,Z,.cons ⟨rx,ry⟩ z,q3⟩)
structure M1 (X:Cx) (o:aH) (m:Str) (apos:Pos) (e:aH) (cpos:Pos):Prop where
 base:bO o m X.env (aO o X.env)=aO o X.env
 few:((aY cpos (aN [e] X.env)).all (fun x=>!x.1) && (backToKw cpos (keywordEach [] X.env)).all (fun x=>x.1.isSome)
  && decide (([e]:List aH).length + ([]:List Keyword).length + (if ([]:List Keyword).isEmpty then 0 else 1) < 30))=true
 line:(apos.endLine == cpos.line)=true
 trees:aY cpos (aN [e] X.env)=[(false,aO e X.env)]
structure M2 (X:Cx) (o:aH) (m:Str) (apos:Pos) (e f:aH) (cpos:Pos):Prop where
 base:bO o m X.env (aO o X.env)=aO o X.env
 few:((aY cpos (aN [e,f] X.env)).all (fun x=>!x.1) && (backToKw cpos (keywordEach [] X.env)).all (fun x=>x.1.isSome)
  && decide (([e,f]:List aH).length + ([]:List Keyword).length + (if ([]:List Keyword).isEmpty then 0 else 1) < 30))=true
 line:(apos.endLine == cpos.line)=true
 trees:aY cpos (aN [e,f] X.env)=[(false,aO e X.env),(false,aO f X.env)]
end
theorem Q6t:typeLookup (.type "list") "keys" = pure none:=am_miss_of_fast (by decide +kernel)
theorem Q31 {prog:aK} {w:aJ} {A:aM} {E:aA->aC->Prop} {s:aC} {a:aB} {xs:Array aA} {k:Nat} {Y:Array (Option aA)} {Q:Option aA->aC->Prop}
  (O:s.heap.get? a=some { cls:=.type "list",dict:=none,data:=.seq xs k,slots:=Y }) (hA:A.handled=none)
  (h:∀ h' U,(∀ b o,s.heap.get? b=some o->h'.get? b=some o)->Q none { s with heap:=h',toks:=U }) :
  aF (aI prog w) A (getAttr? (.ref a) "keys") Q E s:=by
 obtain ⟨Z,g,d,U,os⟩:=s;have J:∀ z,(⟨Z,g,d,z,os⟩:aC).TypeIs (.ref a) "list" := fun _=>⟨_,O,rfl⟩
 have f1:=sub_AttributeError;have f3:=F.slot_list_getattribute.lookup;have f4:=F.slot_list_getattribute.bind (.ref a);have f5:=am_list_getattr_none;have q:(["__module__", "__name__", "__qualname__", "__doc__", "__annotations__"]:List Str).contains "keys" = false:=by decide +kernel
 unfold getAttr? getAttrBy? getAttrBy
 repeat (any_goals (first | assumption | exact J _ | ((with_reducible show aF _ _ (call (Value.builtin "list.__getattribute__") _ _) _ _ _); refine bE F.slot_list_getattribute (J _) am_entry_list_getattribute (F.args_list_getattribute_2 _ _) (meets_getattribute_miss_list a xs k Y "keys" _ Q6t q) ⟨O,hA,fun h' z e I=>?_⟩) | wp_step))
 obtain ⟨t',u',he⟩:=I.there;show aF _ _ (getattributeRaised _ _ _ _ _ _ _) _ _ _;unfold getattributeRaised
 repeat (any_goals (first | assumption | wp_step))
 exact h _ _ I.of.keeps
theorem Xg:entryFor table "dict.update.loop" = some Builtin.«dict.update.loop»:=entryFor_of_tree (by kernel_rfl)
theorem Y1:plainId "dict.update.loop" = true:=by decide +kernel
def Qsa {prog:aK} {w:aJ} {K:Type} [DecidableEq K] (knd:KeyKind prog w K) (h:Heap) (v:aA) (p:K × aA):Prop:=
 ∃ a key,v=.ref a/\knd.is p.1 key=true/\IsTup h a #[key,p.2]
theorem jm {P:aK} {w:aJ} {H:Hp} {h:Heap} (ok:HOk P w H h):∀ {q:List (Key × V)} {vs:List V} {its:List aA},aR (fun (v:V) (kv:Key × V)=>∃ a,v=.ref a/\H a=some (.tup [kV kv.1,kv.2])) vs q->Vals vs its ->
  ∃ rs:List (Key × aA),KV q rs/\its.length=rs.length/\∀ (i:Nat) (u:aA) (r:Key × aA),its[i]?=some u->rs[i]?=some r->Qsa (Z9 P w) h u r
 | [],_,_,.nil,.nil=>⟨[],.nil,rfl,fun i u r e=>by simp at e⟩
 | kv :: q,v :: vs,u :: us,.cons ⟨a,Y,ha⟩ t,.cons ru tu=>by
  obtain ⟨rs,h1,h2,h3⟩:=jm ok t tu;subst Y;cases ru;obtain ⟨_,Z,z,tp⟩:=ok a _ ha;cases z with
  | cons r1 z=>
   cases z with
   | cons U z=>
    cases z;rename_i O val;refine ⟨(kv.1,val) :: rs,.cons ⟨rfl,U⟩ h1,by simp [h2],fun i u r J I=>?_⟩
    cases i with
    | zero=>
     simp only [List.getElem?_cons_zero,Option.some.injEq] at J I;subst J; subst I;exact ⟨a,O,rfl,Q7a r1,tp⟩
    | succ i=>
     simp only [List.getElem?_cons_succ] at J I;exact h3 i u r J I
end L2
namespace L2
open PySem PySem.Spec PyProof.Rows PySem.W
variable {p:Array Nat} {n:Nat}
def evT {α:Type} (c:Nat->Nat->Bool):KasT α->α
 | .ret a=>a
 | .ask i j k=>evT c (k (c i j))
theorem Uu {α β:Type} (c:Nat->Nat->Bool) (f:α->KasT β):∀ t:KasT α,evT c (t.bind f)=evT c (f (evT c t))
 | .ret _=>rfl
 | .ask i j k=>Uu c f (k (c i j))
section
variable (r:Nat->Nat)
def rk (p:Array Nat) (i:Nat):Nat:=r (p.getD i 0)
def cR:Nat->Nat->Bool:=fun i j=>decide (r i < r j)
variable {r}
theorem Q6b {q:Array Nat} {i j:Nat} (h:p[i]?=q[j]?):rk r p i=rk r q j:=by
 unfold rk;rw [Array.getD_eq_getD_getElem?,Array.getD_eq_getD_getElem?,h]
theorem Q8n {i j:Nat} (z:j<=p.size) (k:Nat):rk r (kas_rev p i j) k=if i<=k/\k < j then rk r p (i + j - 1 - k) else rk r p k:=by
 have h:=getElem?_mirror_all (xs:=p) (i:=i) z k
 by_cases q:i<=k/\k < j
 ·rw [bT q] at h ⊢; exact Q6b h
 ·rw [bU q] at h ⊢; exact Q6b h
theorem Qew {src d:Nat} (hs:src < p.size) (hd:d<=src) (k:Nat):rk r (bubble p src d) k=if k=src - d then rk r p src else if src - d < k/\k<=src then rk r p (k - 1) else rk r p k:=by
 have h:=getElem?_bubble hs d hd k
 by_cases q:k=src - d
 ·rw [bT q] at h ⊢; exact Q6b h
 ·rw [bU q] at h ⊢
  by_cases z:src - d < k/\k<=src
  ·rw [bT z] at h ⊢; exact Q6b h
  ·rw [bU z] at h ⊢; exact Q6b h
theorem jh (i j:Nat):(kas_rev p i j).size=p.size:=mirror_size _ _ _ _
theorem Yk (i j:Nat):(kas_rev p i j).Perm p:=mirror_perm _ _ _ _
theorem Q9x (p:Array Nat):∀ f n,1<=n->n<=evT (cR r) (kas_asc p f n)/\evT (cR r) (kas_asc p f n)<=n + f/\(∀ i,n<=i->i < evT (cR r) (kas_asc p f n)->rk r p (i - 1)<=rk r p i)/\(evT (cR r) (kas_asc p f n) < n + f->rk r p (evT (cR r) (kas_asc p f n)) < rk r p (evT (cR r) (kas_asc p f n) - 1))
 | 0,n,_=>⟨O6 _,O6 _,fun i h1 h2=>absurd h2 (by show ¬ i < n; omega),fun h=>absurd h (by show ¬ n < n + 0; omega)⟩
 | f + 1,n,O=>by
  have e:evT (cR r) (kas_asc p (f + 1) n)=if rk r p n < rk r p (n - 1) then n else evT (cR r) (kas_asc p f (n + 1)):=by
   show evT (cR r) (if decide (rk r p n < rk r p (n - 1))=true then KasT.ret n else kas_asc p f (n + 1))=_
   by_cases q:rk r p n < rk r p (n - 1)
   ·rw [bT (by simpa using q),bT q]; rfl
   ·rw [bU (by simpa using q),bU q]
  rw [e]
  by_cases q:rk r p n < rk r p (n - 1)
  ·rw [bT q];exact ⟨O6 _,by omega,fun i h1 h2=>by omega,fun _=>q⟩
  ·rw [bU q];obtain ⟨h1,h2,J,I⟩:=Q9x p f (n + 1) (by omega);refine ⟨by omega,by omega,fun i U g2=>?_,fun g=>I (by omega)⟩
   by_cases z:i=n
   ·subst z; omega
   ·exact J i (by omega) g2
theorem Q18 {i j:Nat} (z:j<=p.size) (h:∀ k,i<=k->k < j->rk r p k=rk r p (j - 1)) (k:Nat):rk r (kas_rev p i j) k=rk r p k:=by
 rw [Q8n z]
 by_cases q:i<=k/\k < j
 ·rw [bT q,h (i + j - 1 - k) (by omega) (by omega),h k q.1 q.2]
 ·rw [bU q]
structure Dsc (r:Nat->Nat) (p:Array Nat) (n q:Nat):Prop where
 n1:1<=n
 sz:n<=p.size
 qn:q + 1<=n
 de:∀ i,1<=i->i < n->rk r p i<=rk r p (i - 1)
 eq:∀ i,n - (q + 1)<=i->i < n->rk r p i=rk r p (n - 1)
theorem Q0t:∀ f (p:Array Nat) n q,Dsc r p n q->n + f<=p.size->Dsc r (evT (cR r) (kas_desc f p n q)).1 (evT (cR r) (kas_desc f p n q)).2.1 (evT (cR r) (kas_desc f p n q)).2.2/\(evT (cR r) (kas_desc f p n q)).1.Perm p/\n<=(evT (cR r) (kas_desc f p n q)).2.1/\(evT (cR r) (kas_desc f p n q)).2.1<=n + f
 | 0,p,n,q,h,_=>⟨h,Array.Perm.refl _,O6 _,O6 _⟩
 | f + 1,p,n,q,h,hs=>by
  have e:evT (cR r) (kas_desc (f + 1) p n q)=if rk r p n < rk r p (n - 1) then (if q > 0 then evT (cR r) (kas_desc f (kas_rev p (n - (q + 1)) n) (n + 1) 0) else evT (cR r) (kas_desc f p (n + 1) 0)) else if rk r p (n - 1) < rk r p n then (p,n,q) else evT (cR r) (kas_desc f p (n + 1) (q + 1)):=by
   show evT (cR r) (if decide (rk r p n < rk r p (n - 1))=true then (if q > 0 then kas_desc f (kas_rev p (n - (q + 1)) n) (n + 1) 0 else kas_desc f p (n + 1) 0) else KasT.ask (p.getD (n - 1) 0) (p.getD n 0) fun d=>if d=true then .ret (p,n,q) else kas_desc f p (n + 1) (q + 1))=_
   by_cases z:rk r p n < rk r p (n - 1)
   ·rw [bT (by simpa using z),bT z]
    split <;> rfl
   ·rw [bU (by simpa using z),bU z];show evT (cR r) (if decide (rk r p (n - 1) < rk r p n)=true then KasT.ret (p,n,q) else kas_desc f p (n + 1) (q + 1))=_
    by_cases J:rk r p (n - 1) < rk r p n
    ·rw [bT (by simpa using J),bT J]; rfl
    ·rw [bU (by simpa using J),bU J]
  rw [e]
  by_cases z:rk r p n < rk r p (n - 1)
  ·rw [bT z]
   by_cases Y:q > 0
   ·rw [bT Y];have U:=Q18 (r:=r) (p:=p) (i:=n - (q + 1)) (j:=n) h.sz h.eq;obtain ⟨h1,h2,Z,O⟩:=Q0t f (kas_rev p (n - (q + 1)) n) (n + 1) 0 ⟨by omega,by rw [jh]; omega,by omega,fun i I g2=>by
     rw [U,U]
     by_cases y:i=n
     ·subst y; omega
     ·exact h.de i I (by omega),fun i I g2=>by
     have:i=n:=by omega
     subst this; rfl⟩ (by rw [jh]; omega)
    exact ⟨h1,h2.trans (Yk _ _),by omega,by omega⟩
   ·rw [bU Y];obtain ⟨h1,h2,Z,O⟩:=Q0t f p (n + 1) 0 ⟨by omega,by omega,by omega,fun i I g2=>by
     by_cases y:i=n
     ·subst y; omega
     ·exact h.de i I (by omega),fun i I g2=>by
     have:i=n:=by omega
     subst this; rfl⟩ (by omega)
    exact ⟨h1,h2,by omega,by omega⟩
  ·rw [bU z]
   by_cases J:rk r p (n - 1) < rk r p n
   ·rw [bT J];exact ⟨h,Array.Perm.refl _,O6 _,by show n<=n + (f + 1); omega⟩
   ·rw [bU J];have hn:=h.n1;have a1:=h.qn;obtain ⟨h1,h2,Z,O⟩:=Q0t f p (n + 1) (q + 1) ⟨by omega,by omega,by omega,fun i I g2=>by
     by_cases y:i=n
     ·subst y; omega
     ·exact h.de i I (by omega),fun i I g2=>by
     show rk r p i=rk r p n
     by_cases y:i=n
     ·rw [y]
     ·rw [h.eq i (by omega) (by omega)]; omega⟩ (by omega)
    exact ⟨h1,h2,by omega,by omega⟩
def Srt (r:Nat->Nat) (p:Array Nat) (m:Nat):Prop:=∀ i,1<=i->i < m->rk r p (i - 1)<=rk r p i
theorem Qa3 {nrem:Nat} (q:1<=n) (J:n<=nrem) (hs:nrem<=p.size) (hd:∀ i,1<=i->i < n->rk r p i<=rk r p (i - 1)) :
  1<=(evT (cR r) (kas_tail3 n nrem p)).1/\(evT (cR r) (kas_tail3 n nrem p)).1<=nrem/\Srt r (evT (cR r) (kas_tail3 n nrem p)).2 (evT (cR r) (kas_tail3 n nrem p)).1/\(evT (cR r) (kas_tail3 n nrem p)).2.Perm p:=by
 obtain ⟨h1,h2,I,_⟩:=Q9x (r:=r) (kas_rev p 0 n) (nrem - n) n q;unfold kas_tail3;rw [Uu];show 1<=evT (cR r) (kas_asc (kas_rev p 0 n) (nrem - n) n)/\_/\Srt r (kas_rev p 0 n) _/\(kas_rev p 0 n).Perm p;refine ⟨by omega,by show evT (cR r) (kas_asc (kas_rev p 0 n) (nrem - n) n)<=nrem; omega,fun i O g2=>?_,Yk _ _⟩
 by_cases z:i < n
 ·rw [Q8n (by omega),Q8n (by omega),bT (by omega),bT (by omega)];have:=hd (0 + n - 1 - (i - 1)) (by omega) (by omega);rw [show 0 + n - 1 - (i - 1) - 1=0 + n - 1 - i by omega] at this;exact this
 ·exact I i (by omega) g2
theorem Q02 {nrem:Nat} (hn:1<=n) (a1:n < nrem) (hs:nrem<=p.size) (I:∀ i,i < n->rk r p i=rk r p (n - 1)) (Z:rk r p n < rk r p (n - 1)) :
  1<=(evT (cR r) (kas_descPart n nrem p)).1/\(evT (cR r) (kas_descPart n nrem p)).1<=nrem/\Srt r (evT (cR r) (kas_descPart n nrem p)).2 (evT (cR r) (kas_descPart n nrem p)).1/\(evT (cR r) (kas_descPart n nrem p)).2.Perm p:=by
 obtain ⟨D,P,h3,Y⟩:=Q0t (r:=r) (nrem - (n + 1)) p (n + 1) 0 ⟨by omega,by omega,by omega,fun i O g2=>by
  by_cases y:i=n
  ·subst y; omega
  ·rw [I i (by omega),I (i - 1) (by omega)]; exact O6 _,fun i O g2=>by
  have:i=n:=by omega
  subst this; rfl⟩ (by omega)
 unfold kas_descPart;rw [Uu];generalize evT (cR r) (kas_desc (nrem - (n + 1)) p (n + 1) 0)=x at *;obtain ⟨J,m,q⟩:=x;have sz:J.size=p.size:=P.size_eq;simp only at D P h3 Y;dsimp only
 by_cases z:q > 0
 ·rw [bT z];have U:=Q18 (r:=r) (p:=J) (i:=m - (q + 1)) (j:=m) D.sz D.eq;obtain ⟨a,b,c,d⟩:=Qa3 (r:=r) (p:=kas_rev J (m - (q + 1)) m) (n:=m) (nrem:=nrem) D.n1 (by omega) (by rw [jh]; omega) (fun i O g2=>by rw [U,U]; exact D.de i O g2);exact ⟨a,b,c,(d.trans (Yk _ _)).trans P⟩
 ·rw [bU z];obtain ⟨a,b,c,d⟩:=Qa3 (r:=r) (p:=J) (n:=m) (nrem:=nrem) D.n1 (by omega) (by omega) D.de;exact ⟨a,b,c,d.trans P⟩
theorem Srt.le {m:Nat} (h:Srt r p m):∀ {i j:Nat},i<=j->j < m->rk r p i<=rk r p j:=by
 intro i j J
 induction j with
 | zero => intro _; have : i = 0 := by omega
           subst this; exact O6 _
 | succ j I=>
  intro q
  by_cases z:i=j + 1
  ·subst z; exact O6 _
  ·have h1:=I (by omega) (by omega);have h2:=h (j + 1) (by omega) q;rw [Nat.add_sub_cancel] at h2;exact E6 h1 h2
theorem Qhy (hn:1<=n) (hs:n<=p.size) :
  1<=(evT (cR r) (kas_count n p)).1/\(evT (cR r) (kas_count n p)).1<=n/\Srt r (evT (cR r) (kas_count n p)).2 (evT (cR r) (kas_count n p)).1/\(evT (cR r) (kas_count n p)).2.Perm p:=by
 obtain ⟨h1,h2,h3,U⟩:=Q9x (r:=r) p (n - 1) 1 (O6 _);unfold kas_count;rw [Uu];generalize evT (cR r) (kas_asc p (n - 1) 1)=m at *;have S:Srt r p m:=fun i Y g2=>h3 i Y g2
 by_cases z:m=n
 ·subst z;rw [bT (by simp)];exact ⟨h1,O6 _,S,Array.Perm.refl _⟩
 ·rw [bU (by simpa using z)];have q:=U (by omega)
  by_cases J:m > 1
  ·rw [bT J];show 1<=(evT (cR r) (if decide (rk r p 0 < rk r p (m - 1))=true then KasT.ret (m,p) else kas_descPart m n (kas_rev p 0 m))).1/\(evT (cR r) (if decide (rk r p 0 < rk r p (m - 1))=true then KasT.ret (m,p) else kas_descPart m n (kas_rev p 0 m))).1<=n/\Srt r (evT (cR r) (if decide (rk r p 0 < rk r p (m - 1))=true then KasT.ret (m,p) else kas_descPart m n (kas_rev p 0 m))).2 (evT (cR r) (if decide (rk r p 0 < rk r p (m - 1))=true then KasT.ret (m,p) else kas_descPart m n (kas_rev p 0 m))).1/\(evT (cR r) (if decide (rk r p 0 < rk r p (m - 1))=true then KasT.ret (m,p) else kas_descPart m n (kas_rev p 0 m))).2.Perm p
   by_cases O:rk r p 0 < rk r p (m - 1)
   ·rw [bT (by simpa using O)];exact ⟨h1,by show m<=n; omega,S,Array.Perm.refl _⟩
   ·rw [bU (by simpa using O)];have eq:∀ i,i < m->rk r p i=rk r p (m - 1):=fun i hi=>by
     have a:=S.le (i:=0) (j:=i) (by omega) hi;have b:=S.le (i:=i) (j:=m - 1) (by omega) (by omega);omega
    have I:=Q18 (r:=r) (p:=p) (i:=0) (j:=m) (by omega) (fun k _ Z=>eq k Z);obtain ⟨a,b,c,d⟩:=Q02 (r:=r) (p:=kas_rev p 0 m) (n:=m) (nrem:=n) h1 (by omega) (by rw [jh]; exact hs) (fun i hi=>by rw [I,I]; exact eq i hi) (by rw [I,I]; exact q);exact ⟨a,b,c,d.trans (Yk _ _)⟩
  ·rw [bU J];have:m=1:=by omega
   subst this;exact Q02 (r:=r) (O6 _) (by omega) hs (fun i hi=>by rw [show i=0 by omega]) q
theorem Q1b {p:Array Nat} {k:Nat} (S:Srt r p k):∀ f l q,l<=q->q<=k->q - l<=f->(∀ i,i < l->rk r p i<=rk r p k)->(∀ i,q<=i->i < k->rk r p k < rk r p i) ->
  evT (cR r) (kas_place p k f l q)<=k/\(∀ i,i < evT (cR r) (kas_place p k f l q)->rk r p i<=rk r p k)/\(∀ i,evT (cR r) (kas_place p k f l q)<=i->i < k->rk r p k < rk r p i)
 | 0,l,q,h1,h2,Y,I,J=>by
  have:l=q:=by omega
  subst this;exact ⟨h2,I,J⟩
 | f + 1,l,q,h1,h2,Y,I,J=>by
  by_cases z:l>=q
  ·have:l=q:=by omega
   subst this;have e:evT (cR r) (kas_place p k (f + 1) l l)=l:=by rw [kas_place,bT (O6 _)]; rfl
   rw [e];exact ⟨h2,I,J⟩
  ·have e:evT (cR r) (kas_place p k (f + 1) l q)=if rk r p k < rk r p ((l + q) / 2) then evT (cR r) (kas_place p k f l ((l + q) / 2)) else evT (cR r) (kas_place p k f ((l + q) / 2 + 1) q):=by
    rw [kas_place,bU z];show evT (cR r) (if decide (rk r p k < rk r p ((l + q) / 2))=true then kas_place p k f l ((l + q) / 2) else kas_place p k f ((l + q) / 2 + 1) q)=_
    by_cases y:rk r p k < rk r p ((l + q) / 2)
    ·rw [bT (by simpa using y),bT y]
    ·rw [bU (by simpa using y),bU y]
   rw [e];have m1:l<=(l + q) / 2:=by omega
   have Z:(l + q) / 2 < q:=by omega
   generalize (l + q) / 2=O at *
   by_cases y:rk r p k < rk r p O
   ·rw [bT y];exact Q1b S f l O m1 (by omega) (by omega) I fun i U g2=>D3 y (S.le U g2)
   ·rw [bU y];exact Q1b S f (O + 1) q (by omega) h2 (by omega) (fun i g=>E6 (S.le (show i<=O by omega) (by omega)) (by omega)) J
theorem Qig:∀ f (p:Array Nat) k,1<=k->k + f<=p.size->Srt r p k->Srt r (evT (cR r) (kas_bin f p k)) (k + f)/\(evT (cR r) (kas_bin f p k)).Perm p
 | 0,p,k,_,_,S=>⟨S,Array.Perm.refl _⟩
 | f + 1,p,k,I,hs,S=>by
  obtain ⟨h1,h2,z⟩:=Q1b S k 0 k (G8 _) (O6 _) (by omega) (fun i g=>by omega) (fun i q g2=>by omega);have e:evT (cR r) (kas_bin (f + 1) p k)=evT (cR r) (kas_bin f (bubble p k (k - evT (cR r) (kas_place p k k 0 k))) (k + 1)):=by rw [kas_bin,Uu]
  rw [e];generalize evT (cR r) (kas_place p k k 0 k)=l at *;have S2:Srt r (bubble p k (k - l)) (k + 1):=fun i q g2=>by
   rw [Qew (by omega) (by omega),Qew (by omega) (by omega),show k - (k - l)=l by omega]
   by_cases a:i=l
   ·subst a;rw [bU (by omega),bU (by omega),bT rfl];exact h2 (i - 1) (by omega)
   ·by_cases b:i - 1=l
    ·rw [bT b,bU a,bT (by omega),b];exact Nat.le_of_lt (z l (O6 _) (by omega))
    ·rw [bU b,bU a]
     by_cases c:l < i
     ·rw [bT (by omega),bT (by omega)];exact S (i - 1) (by omega) (by omega)
     ·rw [bU (by omega),bU (by omega)];exact S i q (by omega)
  obtain ⟨a,b⟩:=Qig f (bubble p k (k - l)) (k + 1) (by omega) (by rw [bubble_size]; omega) S2;exact ⟨by rw [show k + (f + 1)=k + 1 + f by omega]; exact a,b.trans (bubble_perm _ _ _)⟩
theorem Qj1 (J:1<=n):Srt r (evT (cR r) (kas_sort n)) n/\(evT (cR r) (kas_sort n)).Perm (List.toArray (List.range n)):=by
 obtain ⟨h1,h2,I,q⟩:=Qhy (r:=r) (p:=List.toArray (List.range n)) (n:=n) J (by simp);unfold kas_sort;rw [Uu];generalize evT (cR r) (kas_count n (List.toArray (List.range n)))=x at *;obtain ⟨m,p⟩:=x;have sz:p.size=n:=by have:=q.size_eq; simpa using this
 simp only at h1 h2 I q;dsimp only
 by_cases z:m < n
 ·rw [bT z,show max m 1=m by omega];obtain ⟨a,b⟩:=Qig (r:=r) (n - m) p m h1 (by omega) I;rw [show m + (n - m)=n by omega] at a;exact ⟨a,b.trans q⟩
 ·rw [bU z];have:m=n:=by omega
  subst this;exact ⟨I,q⟩
end
def Asks {α:Type} (n:Nat):KasT α->(α->Prop)->Prop
 | .ret a,P=>P a
 | .ask i j k,P=>i < n/\j < n/\∀ b,Asks n (k b) P
theorem Asks.bind {α β:Type} {P:α->Prop} {Q:β->Prop} {f:α->KasT β} (q:∀ a,P a->Asks n (f a) Q):∀ {t:KasT α},Asks n t P->Asks n (t.bind f) Q
 | .ret a,h=>q a h
 | .ask i j k,h=>⟨h.1,h.2.1,fun b=>Asks.bind q (h.2.2 b)⟩
def AL (n:Nat) (p:Array Nat):Prop:=0 < n/\∀ x∈p.toList,x < n
theorem AL.get (h:AL n p) (i:Nat):p.getD i 0 < n:=by
 rw [Array.getD_eq_getD_getElem?]
 by_cases z:i < p.size
 ·rw [Array.getElem?_eq_getElem z];exact h.2 _ (by simp)
 ·rw [Array.getElem?_eq_none (by omega)]; exact h.1
theorem AL.perm {q:Array Nat} (h:AL n p) (e:q.Perm p):AL n q:=⟨h.1,fun x z=>h.2 x ((Array.perm_iff_toList_perm.mp e).mem_iff.mp z)⟩
theorem Yy {α:Type} {P:α->Prop} {c:Prop} [Decidable c] {t u:KasT α} (h1:Asks n t P) (h2:Asks n u P):Asks n (if c then t else u) P:=by
 split
 ·exact h1
 ·exact h2
theorem Q2m {n:Nat} {p:Array Nat} (h:AL n p):∀ f m,Asks n (kas_asc p f m) (fun _=>True)
 | 0,m=>trivial
 | f + 1,m=>⟨h.get _,h.get _,fun b=>Yy trivial (Q2m h f (m + 1))⟩
theorem qd {n:Nat}:∀ f (p:Array Nat) m q,AL n p->Asks n (kas_desc f p m q) (fun x=>AL n x.1)
 | 0,p,m,q,h=>h
 | f + 1,p,m,q,h=>⟨h.get _,h.get _,fun b=>Yy (Yy (qd f _ _ _ (h.perm (Yk _ _))) (qd f _ _ _ h)) ⟨h.get _,h.get _,fun d=>Yy h (qd f _ _ _ h)⟩⟩
theorem Q42 (h:AL n p) (m k:Nat):Asks n (kas_tail3 m k p) (fun x=>AL n x.2):=by
 unfold kas_tail3;refine Asks.bind (P:=fun _=>True) (fun a _=>?_) (Q2m (h.perm (Yk _ _)) _ _);exact h.perm (Yk _ _)
theorem qr (h:AL n p) (m k:Nat):Asks n (kas_descPart m k p) (fun x=>AL n x.2):=
 Asks.bind (fun x q=>Yy (Q42 (AL.perm q (Yk _ _)) _ _) (Q42 q _ _)) (qd _ _ _ _ h)
theorem Q9w (h:AL n p) (k:Nat):Asks n (kas_count k p) (fun x=>AL n x.2):=by
 unfold kas_count;refine Asks.bind (P:=fun _=>True) (fun m _=>?_) (Q2m h _ _);refine Yy (show AL n p from h) (Yy ?_ (qr h _ _));exact ⟨h.get _,h.get _,fun c=>Yy (show AL n p from h) (qr (h.perm (Yk _ _)) _ _)⟩
theorem jc {n:Nat} {p:Array Nat} (h:AL n p) (k:Nat):∀ f l q,Asks n (kas_place p k f l q) (fun _=>True)
 | 0,_,_=>trivial
 | f + 1,l,q=>by
  rw [kas_place];exact Yy trivial ⟨h.get _,h.get _,fun c=>Yy (jc h k f _ _) (jc h k f _ _)⟩
theorem Q82 {n:Nat}:∀ f (p:Array Nat) k,AL n p->Asks n (kas_bin f p k) (fun _=>True)
 | 0,_,_,_=>trivial
 | f + 1,p,k,h=>by
  rw [kas_bin];exact Asks.bind (fun l _=>Q82 f _ _ (h.perm (bubble_perm _ _ _))) (jc h k _ _ _)
theorem Qdp (z:1<=n):Asks n (kas_sort n) (fun _=>True):=by
 have h:AL n (List.toArray (List.range n)):=⟨z,fun x q=>by simpa using q⟩;unfold kas_sort;refine Asks.bind (P:=fun x=>AL n x.2) (fun x q=>?_) (Q9w h n);exact Yy (Q82 _ _ _ q) (show True from trivial)
theorem Q79 {α:Type} {z:Nat->Nat->(Bool->aC->Prop)->aC->Prop} {c:Nat->Nat->Bool} {n:Nat} {s:aC} (h:∀ i j (C:Bool->aC->Prop),i < n->j < n->C (c i j) s->z i j C s) :
  ∀ (t:KasT α) (P:α->Prop) (Q:α->aC->Prop),Asks n t P->Q (evT c t) s->t.kasWp z Q s
 | .ret a,_,_,_,q=>q
 | .ask i j k,P,Q,a,q=>h i j _ a.1 a.2.1 (Q79 h (k (c i j)) P Q (a.2.2 _) q)
variable {prog:aK} {A:aM} {E:aA->aC->Prop} {s:aC}
section
variable {w:aJ}
theorem qm {α:Type} {p q:α->Bool}:∀ {l:List α},(∀ x∈l,p x=true->q x=true)->(∃ x∈l,p x=false/\q x=true)->(l.filter p).length < (l.filter q).length
 | [],_,h=>by obtain ⟨_,h,_⟩:=h; cases h
 | x :: l,h,O=>by
  have U:(l.filter p).length<=(l.filter q).length:=by
   clear O
   induction l with
   | nil=>exact O6 _
   | cons y l I=>
    have I:=I fun z hz=>h z (by rcases D7.mp hz with rfl | hz <;> simp [*])
    have J:=h y (by simp);rw [List.filter_cons,List.filter_cons]
    by_cases a:p y=true
    ·rw [bT a,bT (J a)]; simp; exact I
    ·rw [bU a]
     split
     ·simp; omega
     ·exact I
  rw [List.filter_cons,List.filter_cons];obtain ⟨y,J,h1,h2⟩:=O;rcases D7.mp J with rfl | J
  ·rw [h1,h2]; simp; omega
  ·have I:=qm (fun z hz=>h z (O4 _ hz)) ⟨y,J,h1,h2⟩
   by_cases a:p x=true
   ·rw [bT a,bT (h x (by simp) a)]; simp; exact I
   ·rw [bU a]
    split
    ·simp; omega
    ·exact I
end
end L2
namespace L2
open PySem PySem.Spec PyProof.Rows
variable {a:aB} {es:Array DictEntry} {ep:Nat} {h:Heap} {Q:Option aA->aC->Prop}
def RawD (h:Heap) (a:aB) (es:Array DictEntry) (ep:Nat):Prop:=∃ o,h.get? a=some o/\o.ExactDict/\o.data=.dict es ep
variable {prog:aK} {A:aM} {E:aA->aC->Prop} {s:aC}
section
variable {w:aJ}
theorem RawD.typeIs (h:RawD s.heap a es ep):s.TypeIs (.ref a) "dict" := let ⟨o,e,x,_⟩:=h; ⟨o,e,x.1⟩
theorem RawD.obj (x:RawD h a es ep):h.get? a=some { cls:=.type "dict",dict:=none,data:=.dict es ep,slots:=#[] }:=by
 obtain ⟨⟨c,q,z,I⟩,ho,⟨h1,h2,h3⟩,h4⟩:=x;simp only at h1 h2 h3 h4;subst h1 h2 h3 h4;exact ho
theorem Qf2 {d:aB} {Q:aA->aC->Prop} (hd:(d == af)=false) (hm:RawD s.heap d es ep)
  (z:Q (.ref s.heap.objs.size) { s with heap:=s.heap.push { cls:=.type "dict_keyiterator",data:=.fields #[.ref d,.int 0 0,.int es.size 0,.int ep 0] } }) :
  aF (aI prog w) A (pyIter (.ref d)) Q E s:=by
 have q:=hm.typeIs;have I:=hm.obj;obtain ⟨U,g,J,O,os⟩:=s;refine wpAny_pyIter_slot q PySem.F.slot_dict_iter (ag PySem.F.slot_dict_iter q PySem.F.entry_dict_iter ?_ (PySem.F.args_dict_iter_1 _));unfold Builtin.«dict.__iter__» Builtin.Dict.dictSlotNone
 repeat (any_goals (first | assumption | wp_step))
 refine ⟨_,rfl, "dict_keyiterator",_,⟨_,D8 _ rfl,rfl⟩,PySem.F.slot_dict_keyiterator_next.lookup,z⟩
theorem Q25:Builtin.Dict_items.ownsTuple ((Manifest.find? "dict_keyiterator").elim "dict_keyiterator" fun x=>x.tpName)=false:=by decide +kernel
theorem Qf3 {it d:aB} {i:Nat} {e:DictEntry} {Q:Option aA->aC->Prop} (q:s.heap.IsKeyIter it d i es.size ep) (hm:RawD s.heap d es ep) (O:es[i]?=some e)
  (J:∀ h',h'.IsKeyIter it d (i + 1) es.size ep->Heap.SameBut it s.heap h'->Q (some e.key) { s with heap:=h' }) :
  aF (aI prog w) A (ak (.ref it)) Q E s:=by
 have z:=q.typeIs;have Y:=hm.obj;obtain ⟨⟨c,I,U,sl⟩,hoi,hci,hdi⟩:=q;simp only at hci hdi;subst hci hdi;obtain ⟨hp,g,Z,tk,os⟩:=s;unfold ak;refine aD (wpAny_attempt (wpAny_callSpecial?_slot (name:=Str.ofString "__next__") z PySem.F.slot_dict_keyiterator_next (ag PySem.F.slot_dict_keyiterator_next z PySem.F.entry_dict_keyiterator_next ?_ (PySem.F.args_dict_keyiterator_next_1 _))))
 repeat (any_goals (first | assumption | wp_step))
 simp only [Q25,F2,if_false];simp only [show ¬ ((i:Int) < 0) by omega,if_false,Int.toNat_natCast,O]
 repeat (any_goals (first | assumption | wp_step))
 simp only [Q25,F2,if_false];rw [bU (show ¬ ((_:Bool)=true) by decide +kernel)];refine ⟨_,rfl,wpAny_pure (J _ ⟨_,L5 _ hoi rfl,rfl,?_⟩ (Heap.SameBut.update ..))⟩;simp [Obj.mapFields,aV]
theorem Qjn {it d:aB} {i:Nat} {Q:Option aA->aC->Prop} (O:A.handled=none) (q:s.heap.IsKeyIter it d i es.size ep) (hm:RawD s.heap d es ep) (Y:es[i]?=none)
  (U:∀ h',Heap.ExtBut it s.heap h'->Q none { s with heap:=h' }) :
  aF (aI prog w) A (ak (.ref it)) Q E s:=by
 have z:=q.typeIs;have ho:=hm.obj;obtain ⟨⟨c,J,Z,sl⟩,hoi,hci,hdi⟩:=q;simp only at hci hdi;subst hci hdi;obtain ⟨hp,g,dr,tk,os⟩:=s;unfold ak;refine aD (wpAny_attempt (wpAny_callSpecial?_slot (name:=Str.ofString "__next__") z PySem.F.slot_dict_keyiterator_next (ag PySem.F.slot_dict_keyiterator_next z PySem.F.entry_dict_keyiterator_next ?_ (PySem.F.args_dict_keyiterator_next_1 _))))
 repeat (any_goals (first | assumption | wp_step))
 simp only [Q25,F2,if_false];simp only [show ¬ ((i:Int) < 0) by omega,if_false,Int.toNat_natCast,Y];have I:=isSubtype_stop
 repeat (any_goals (first | assumption | wp_step))
 unfold bS;refine aD (wpAny_handled ?_);rw [show A.in1.handled=none from O];refine aD (wpAny_pure (wpAny_throw ?_));refine aD (bH (T := "StopIteration") (b:=true) ⟨_,D8 _ rfl,rfl⟩ isSubtype_stop ?_);exact wpAny_pure (U _ (((Heap.SameBut.update ..).extBut.push _).push _))
theorem RawD.at {h':Heap} (x:RawD h a es ep) (k:∀ o,h.get? a=some o->h'.get? a=some o):RawD h' a es ep:=let ⟨o,e,r⟩:=x; ⟨o,k o e,r⟩
theorem RawD.lt (x:RawD h a es ep):a < h.objs.size:=let ⟨_,e,_⟩:=x; D5 e
theorem Qbt (hh:A.handled=none) (I d:aB) (U:d≠I) (es:Array DictEntry) (ep:Nat) :
  Walks prog w A I [I,d] [I] es.size (fun i v=>∃ e,es[i]?=some e/\v=e.key) (fun i h=>h.IsKeyIter I d i es.size ep/\RawD h d es ep) where
 sub:=fun b q=>by simp at q; simp [q]
 frame:=fun _ _ _ st Z=>⟨st.1.at fun o e=>Z I (by simp) o e,st.2.at fun o e=>Z d (by simp) o e⟩
 item:=fun i s Q E hi st J=>by
  refine Qf3 st.1 st.2 (Array.getElem?_eq_getElem hi) fun h' O z=>?_
  exact J _ h' s.toks ⟨_,Array.getElem?_eq_getElem hi,rfl⟩ ⟨O,st.2.at fun o e=>(z.2 d U).trans e⟩ fun b o q e=>z.extBut b o (fun h=>q (by simp [h])) e
 done:=fun s Q E st J=>Qjn hh st.1 st.2 (by simp) fun h' Y=>J h' s.toks fun b o q e=>Y b o (fun h=>q (by simp [h])) e
 self:=fun _ _ _ _ st J=>wpAny_pyIter_keyiter st.1 J
theorem Qj0 {d:aB} (lo:(d == af)=false):PySem.W.KdlSrc prog w "dict" d d es.size (fun i v=>∃ e,es[i]?=some e/\v=e.key) (fun h=>RawD h d es ep) where
 type:=fun _ hm=>hm.typeIs
 there:=fun _ hm=>⟨hm.lt,hm.lt⟩
 keep:=fun _ _ hm I=>hm.at fun o e=>I d (.inl rfl) o e
 notList:=by decide
 notTuple:=by decide
 hint:=fun _ _ _ _ hm q=>PySem.W.kdl_hint_dict hm.typeIs q
 iter:=fun _ _ z hm=>⟨_,_,(fun _ _ q=>Qf2 lo hm q),Qbt z _ d (E8 hm.lt) es ep,⟨⟨_,D8 _ rfl,rfl,rfl⟩,hm.at fun o e=>O3 _ e⟩⟩
end
end L2
namespace L2
open PySem PySem.Spec PyProof.Rows PySem.W
variable {prog:aK} {A:aM} {E:aA->aC->Prop} {s:aC}
section
variable {w:aJ}
theorem Q5p {d:aB} {es:Array DictEntry} {ep:Nat} {Q:aA->aC->Prop} (lo:(d == af)=false) (hm:RawD s.heap d es ep) (q:es.size < 1000000) (h:∀ t z,Q (.int es.size t) { s with toks:=z }):aF (aI prog w) A (call (.builtin "len") [.ref d]) Q E s:=by
 have I:=hm.typeIs;have U:=hm.obj;have O:((es.size:Int) < 2 ^ 63):=by omega
 obtain ⟨hp,g,dr,z,os⟩:=s;refine Calls.call_function_entry kind_len plain_len entry_len (args_len1 _) ?_;unfold Builtin.«len»;have Z:=PySem.F.slot_dict_len.lookup;have f2:=PySem.F.slot_dict_len.bind (.ref d)
 repeat (any_goals (first | assumption | ((with_reducible show aF _ _ (call (Value.builtin "dict.__len__") _ _) _ _ _); refine ag PySem.F.slot_dict_len I PySem.F.entry_dict_len ?_ (PySem.F.args_dict_len_1 _)) | wp_step))
 refine ⟨_,rfl,?_⟩;have J:((es.size:Int) + ((0:Nat):Int))=(es.size:Int):=by omega
 rw [J];have n1:¬ ((es.size:Int)>=2 ^ 63):=by omega
 have Y:¬ ((es.size:Int) < 0):=by omega
 repeat (any_goals (first | assumption | wp_step))
 rw [bU n1]
 repeat (any_goals (first | assumption | wp_step))
 exact ⟨_,rfl,h _ _⟩
end
theorem Qhq {P:aK} {w:aJ} {H:Hp} {h:Heap} {a:aB} {I:List (HK × V)} (ok:HOk P w H h) (e:H a=some (.dT I)):I.length<=sizeLine/\(a == af)=false/\∃ es ep U,RawD h a es ep/\es.toList.map (·.key)=U.map Value.ref/\aR (fun (p:HK × V) (b:aB)=>KR H p.1 b) I U:=by
 obtain ⟨z,hs,xs,J,o,es,ep,Z,hx,hd,O,Y⟩:=ok a _ e;refine ⟨z,hs,es,ep,xs.map (fun q=>q.2.1),⟨o,Z,hx,hd⟩,?_,?_⟩
 ·rw [O,L9,L9];exact N0 fun q _=>rfl
 ·clear O Y z e
  induction J with
  | nil=>exact .nil
  | cons hr _ ih=>exact .cons hr.2.1 ih
variable {X:Cx}
theorem Q9p:W6 X (.builtin "len") (fun xs H Q=>∃ a,∃ J:List (HK × V),xs=[.ref a]/\H a=some (.dT J)/\J.length < 1000000/\Q (.int J.length) H):=by
 intro pins s σ H xs us Q I r h;obtain ⟨a,J,rfl,Z,hl,q⟩:=h;obtain ⟨u,rfl,rx⟩:=Uk r;cases rx;obtain ⟨z,hs,es,ep,as,Y,hk,O⟩:=Qhq I.hok Z;have l1:J.length=as.length:=Paired.length O;have U:es.size=J.length:=by
  have:=congrArg List.length hk;simp at this;omega
 refine Q5p hs Y (by omega) fun t tk=>?_
 exact ⟨.int J.length,H,I.tok _,⟨t,by rw [U]⟩,q⟩
end L2
namespace L2
open PySem PySem.Spec PyProof.Rows
variable {X:Cx} {xs:Array Nat} {j n ep M N:Nat} {L:Bool} {α K:Type} {h:Int} {a it r:aB} {es:Array (Int × aA)} {f:aA} {Q:Option aA->aC->Prop} {ys:Option (aB × List Nat)} {hs:List Int}
def Qnx (tk tv:TE):TE:=fun σ H Q=>∀ p,H p=none->Q8c [(tk,tv)] σ (upd H p (.dT [])) fun ps H2=>∃ (ks:HK) (b:aB) (y:V),ps=[(.ref b,y)]/\KR H2 ks b/\H2 p=some (.dT [])/\Q (.ref p) (upd H2 p (.dT [(ks,y)]))
theorem Qcj {pos:Pos} {k v:aH} {Y tv:TE} (hu:X.A.units + 5 < aP) (hk:PE X k Y) (hv:PE X v tv):PE X (.Dict [some k] [v] pos) (Qnx Y tv):=by
 intro pins s σ H Q I q;have hn:=I.hok.fresh (O6 s.heap.objs.size);have I1:=I.laid (a:=s.heap.objs.size) (o:=.dT []) (h':=s.heap.push { cls:=.type "dict",data:=.dict #[] }) (t':=s.toks) (fun _ _ q=>O3 _ q) (O6 _) (Q7m s.heap I.big);rw [arm_eval_Dict,zip_pairTrees [some k] [v] X.env pos rfl rfl,dictDisplay_pairs _ (by simp [pairTrees]) (by simp [pairTrees])];refine aD (wpAny_standAt (aD ?_));unfold subDict;refine aD (wpAny_alloc (aD (ae ?_)));rw [bT (by simp [pairTrees])];refine aD (thn ((Qfi hk hv Qjx) pins _ σ _ _ I1 (q _ hn)) fun ws s2 ⟨ps,H2,U,J,ks,b,y,ep,eb,e,q2⟩=>?_)
 subst ep;obtain ⟨⟨u,r⟩,rfl,r1,r2⟩:∃ p:aA × aA,ws=[p]/\RelV (.ref b) p.1/\RelV y p.2:=by
  cases J with
  | @cons a c as bs h t=>
   cases t;exact ⟨_,rfl,h.1,h.2⟩
 cases (show u=Value.ref b from r1);obtain ⟨z,hd,xs,J,dd⟩:=Qnn U.hok e;cases J;refine ae ?_;refine aD ?_;rw [List.forIn_cons];refine aD (aD (wpAny_dictSet_heap (hsz:=by simp) (knd:=nk X.prog X.w) hu (Vc U.hok eb) dd fun h' O hs=>wpAny_pure ?_))
 dsimp only;rw [List.forIn_nil];refine wpAny_pure (wpAny_pure (wpAny_pure (wpAny_pure ⟨.ref s.heap.objs.size,_,?_,rfl,q2⟩)));obtain ⟨o,es,ep,hq,h2,h3,h4,_,h5⟩:=O;refine Q5j U (by rw [e]; exact True.intro) hs ⟨o,hq⟩ ⟨by simp [sizeLine_eq],hd,[(ks,b,r)],.cons ⟨rfl,?_,r2⟩ .nil,o,es,ep,hq,h2,h3,by simpa [storedH,atKey] using h4,by simp⟩;exact eb.keep fun c ys Z=>by rw [Qa (Qng Z e (fun z=>nomatch z))]; exact Z
def Rise (xs:Array Nat):Prop:=xs.toList.Pairwise (· < ·)
theorem Rise.lt (r:Rise xs) {i a b:Nat} (hi:xs[i]?=some a) (O:xs[j]?=some b) (h:i < j):a < b:=by
 have q:=List.pairwise_iff_getElem.mp r;obtain ⟨z,J⟩:=Array.getElem?_eq_some_iff.mp hi;obtain ⟨I,U⟩:=Array.getElem?_eq_some_iff.mp O;have:=q i j (by simpa using z) (by simpa using I) h;simp only [Array.getElem_toList] at this;rw [<- J,<- U]; exact this
theorem Qii (r:Rise xs):∀ I lo hi,hi - lo<=I->lo<=hi->hi<=xs.size->(∀ i v,xs[i]?=some v->i < lo->v < j)->(∀ i v,xs[i]?=some v->hi<=i->j<=v) ->
  SetTable.below.go xs j I lo hi<=xs.size/\∀ i v,xs[i]?=some v->(i < SetTable.below.go xs j I lo hi <-> v < j):=by
 intro I
 induction I with
 | zero=>
  intro lo hi h1 h2 Z a b;have e:lo=hi:=by omega
  rw [SetTable.below.go];refine ⟨by omega,fun i v J=>⟨a i v J,fun h=>?_⟩⟩
  by_cases z:i < lo
  ·exact z
  ·have:=b i v J (by omega); omega
 | succ I Y=>
  intro lo hi h1 h2 Z a b;rw [SetTable.below.go]
  by_cases z:lo < hi
  ·rw [bT z];dsimp only;have hm:(lo + hi) / 2 < xs.size:=by omega
   have O:xs[(lo + hi) / 2]?=some xs[(lo + hi) / 2]:=Array.getElem?_eq_getElem hm;have ed:xs.getD ((lo + hi) / 2) j=xs[(lo + hi) / 2]:=by simp [Array.getD,hm]
   rw [ed]
   by_cases y:xs[(lo + hi) / 2] < j
   ·rw [bT y];refine Y _ _ (by omega) (by omega) Z (fun i v J U=>?_) b
    by_cases q:i=(lo + hi) / 2
    ·subst q; rw [O] at J; cases J; exact y
    ·have:=r.lt J O (by omega); omega
   ·rw [bU y];refine Y _ _ (by omega) (by omega) (by omega) a fun i v J U=>?_
    by_cases q:i=(lo + hi) / 2
    ·subst q; rw [O] at J; cases J; omega
    ·have:=r.lt O J (by omega); omega
  ·rw [bU z];refine ⟨by omega,fun i v J=>⟨a i v J,fun h=>?_⟩⟩
   by_cases q:i < lo
   ·exact q
   ·have:=b i v J (by omega); omega
theorem Ki (r:Rise xs):SetTable.below xs j<=xs.size/\∀ i v,xs[i]?=some v->(i < SetTable.below xs j <-> v < j):=
 Qii r _ _ _ (by omega) (G8 _) (O6 _) (fun i v _ h=>absurd h (Nat.not_lt_zero _)) fun i v q h=>by
  have:=(Array.getElem?_eq_some_iff.mp q).1; omega
def Good (L:Bool) (t:aW):Prop:=Rise t.place/\t.dummies=#[]/\t.led=L
theorem Q6c (r:Rise xs) (h:j∉xs.toList):Rise (SetTable.insertAt xs (SetTable.below xs j) j):=by
 obtain ⟨_,b⟩:=Ki (j:=j) r;unfold Rise;rw [SetTable.toList_insertAt];have lo:∀ v∈xs.toList.take (SetTable.below xs j),v < j:=fun v I=>by
  obtain ⟨i,hi,e⟩:=L3 I;rw [L7] at hi;refine (b i v ?_).mp (by omega);rw [<- Array.getElem?_toList,<- e,List.getElem_take,O2]
 have hi:∀ v∈xs.toList.drop (SetTable.below xs j),j < v:=fun v I=>by
  obtain ⟨i,hi,e⟩:=L3 I;rw [List.length_drop] at hi;have J:xs[SetTable.below xs j + i]?=some v:=by
   rw [<- Array.getElem?_toList,<- e,List.getElem_drop,O2]
  have q:¬ v < j:=fun z=>by have:=(b _ v J).mpr z; omega
  have ne:v≠j:=fun z=>h (by rw [<- z]; exact List.mem_of_mem_drop I)
  omega
 refine List.pairwise_append.mpr ⟨List.Pairwise.sublist (List.take_sublist _ _) r,List.pairwise_cons.mpr ⟨hi,List.Pairwise.sublist (List.drop_sublist _ _) r⟩,fun x U y O=>?_⟩
 rcases D7.mp O with rfl | O
 ·exact lo x U
 ·exact Nat.lt_trans (lo x U) (hi y O)
theorem Good.put {t:aW} (g:Good L t) (h:j∉t.place.toList):Good L (t.put j).1:=by
 unfold SetTable.put;refine ⟨Q6c g.1 h,?_,g.2.2⟩;show (if SetTable.has t.dummies j=true then _ else t.dummies)=#[];have:SetTable.has t.dummies j=false:=by unfold SetTable.has; rw [g.2.1]; simp
 rw [this,bU (by simp)];exact g.2.1
theorem Good.relaid {t t':aW} (g:Good L t) {hs:Array Int} {o:Array Nat} (e:t.relaid hs n=some (t',o)):Good L t':=by
 unfold SetTable.relaid SetTable.laid at e;cases z:SetTable.layClean (SetTable.sizeAbove n - 1) hs with
 | none=>rw [z] at e; cases e
 | some J=>
  rw [z] at e;cases e;refine ⟨?_,rfl,g.2.2⟩;show List.Pairwise (· < ·) (List.map _ _);rw [List.pairwise_map];have O:∀ l:List Nat,l.Pairwise (· < ·)->(l.filterMap fun j=>(J.getD j none).map (j,·)).Pairwise fun a b=>a.1 < b.1:=by
   intro l
   induction l with
   | nil=>intro _; exact .nil
   | cons x l U=>
    intro h;obtain ⟨h1,h2⟩:=List.pairwise_cons.mp h;rw [List.filterMap_cons];cases J.getD x none with
    | none=>exact U h2
    | some k=>
     refine List.pairwise_cons.mpr ⟨fun b Z=>?_,U h2⟩;obtain ⟨y,Y,I⟩:=List.mem_filterMap.mp Z;cases q:J.getD y none with
     | none=>rw [q] at I; cases I
     | some k'=>rw [q] at I; cases I; exact h1 y Y
  exact O _ List.pairwise_lt_range
theorem j7 {α:Type}:∀ {l:List α} {i:Nat} (h:i < l.length),([l[i]] ++ l.eraseIdx i).Perm l
 | [],_,h=>absurd h (Nat.not_lt_zero _)
 | a :: l,0,_=>List.Perm.refl _
 | a :: l,i + 1,h=>by
  have:=j7 (l:=l) (i:=i) (by simpa using h);rw [List.eraseIdx_cons_succ,List.getElem_cons_succ];exact (List.Perm.swap a _ _).trans (this.cons a)
theorem Qk1 (next:Nat->Nat):∀ q k (left:List α) z,left.length=q->(pickOrder.go next q k left z).toList.Perm (z.toList ++ left):=by
 intro q
 induction q with
 | zero=>intro k left z h; rw [List.length_eq_zero_iff.mp h,pickOrder.go,L0]
 | succ q J=>
  intro k left z h;rw [pickOrder.go];have I:next k % left.length < left.length:=Nat.mod_lt _ (by omega);rw [O2 I];refine (J (k + 1) _ _ (by rw [List.length_eraseIdx_of_lt I]; omega)).trans ?_;rw [Array.toList_push,List.append_assoc];refine List.Perm.append_left _ ?_;exact j7 I
theorem Qch (next:Nat->Nat) (xs:Array α):(pickOrder next xs).toList.Perm xs.toList:=by
 have:=Qk1 next xs.size 0 xs.toList #[] (by simp);simpa [pickOrder] using this
theorem Q6m {β:Type} {F:α->β->Prop} {l J:List α} (p:J.Perm l):∀ {ks:List β},aR F l ks->∃ q,aR F J q/\q.Perm ks:=by
 induction p with
 | nil=>intro ks h; exact ⟨ks,h,List.Perm.refl _⟩
 | cons x _ U=>
  intro ks h;cases h with
  | cons r t=>
   obtain ⟨q,h1,h2⟩:=U t;exact ⟨_,.cons r h1,h2.cons _⟩
 | swap x y l=>
  intro ks h;cases h with
  | cons r t=>
   cases t with
   | cons O t'=>exact ⟨_,.cons O (.cons r t'),List.Perm.swap _ _ _⟩
 | trans _ _ I z=>
  intro ks h;obtain ⟨k1,h1,Y⟩:=z h;obtain ⟨k2,h2,p2⟩:=I h1;exact ⟨k2,h2,p2.trans Y⟩
theorem Xw {α β:Type} {F:α->β->Prop} {a:α}:∀ {l:List α} {ks:List β},aR F l ks->a∈l->∃ b∈ks,F a b
 | _,_,.nil,h=>by cases h
 | _,_,.cons (b:=b) r t,h=>by
  rcases D7.mp h with rfl | h
  ·exact ⟨b,by simp,r⟩
  ·obtain ⟨x,z,q⟩:=Xw t h;exact ⟨x,O4 _ z,q⟩
section
variable {prog:aK} {w:aJ} {K:Type} [DecidableEq K]
variable {knd:KeyKind prog w K} {L:Bool} {A:aM} {E:aA->aC->Prop} {s:aC} {a:aB}
def Zd (ks:List K) (k:K):List K:=if k∈ks then ks else ks ++ [k]
end
theorem Q0g:entryFor table "set.__iter__" = some Builtin.«frozenset.__iter__»:=entryFor_alias (id' := "frozenset.__iter__") (by kernel_rfl) rfl (by decide +kernel) (by kernel_rfl)
theorem slot_setit_next:Slot "set_iterator" "__next__" "set_iterator.__next__" :=
 .of (owner := "set_iterator") (n := "__next__") (by rw [typeLookup_type,builtinLookup_eq_fast]; kernel_rfl) (by decide +kernel) (by decide +kernel) (by decide +kernel) (by first | exact .inl (by decide +kernel) | exact .inr (by decide +kernel)) (by rw [bL]; kernel_rfl)
theorem Uv:entryFor table "set_iterator.__next__" = some Builtin.«set_iterator.__next__»:=entryFor_of_tree (by kernel_rfl)
theorem xw:Manifest.owners.lookup (String.ofList ['r','o','t','a','r','e','t','i','_','t','e','s'].reverse)=some Manifest.sig_set_iterator:=by kernel_rfl
theorem Xh (a:aA):argsOk "set_iterator.__next__" ⟨[a],[]⟩:=by
 unfold argsOk; rw [signature?_of (id := "set_iterator.__next__") (n:=['_','_','t','x','e','n','_','_']) (o:=['r','o','t','a','r','e','t','i','_','t','e','s']) (by kernel_rfl) xw]; kernel_rfl
def SetIt (h:Heap) (it:aB) (f:aA) (i:Nat) (d:aB) (n ep:Nat):Prop:=
 h.get? it=some { cls:=.type "set_iterator",dict:=none,data:=.fields #[f,aV i,.ref d,aV n,aV ep],slots:=#[] }
def RawS (h:Heap) (a:aB) (es:Array (Int × aA)) (ep:Nat) (t:aW):Prop:=∃ o,h.get? a=some o/\o.ExactSet/\o.data=.set es ep t
theorem RawS.at {h h':Heap} {t:aW} (x:RawS h a es ep t) (k:∀ o,h.get? a=some o->h'.get? a=some o):RawS h' a es ep t:=let ⟨o,e,r⟩:=x; ⟨o,k o e,r⟩
theorem RawS.lt {h:Heap} {t:aW} (x:RawS h a es ep t):a < h.objs.size:=let ⟨_,e,_⟩:=x; D5 e
theorem SetIt.at {h h':Heap} {d:aB} {i:Nat} (x:SetIt h it f i d n ep) (k:∀ o,h.get? it=some o->h'.get? it=some o):SetIt h' it f i d n ep:=k _ x
variable {prog:aK} {A:aM} {E:aA->aC->Prop} {s:aC}
section
variable {w:aJ}
theorem RawS.typeIs {t:aW} (x:RawS s.heap a es ep t):s.TypeIs (.ref a) "set" := let ⟨o,e,r,_⟩:=x; ⟨o,e,r.1⟩
theorem SetIt.typeIs {d:aB} {i:Nat} (x:SetIt s.heap it f i d n ep):s.TypeIs (.ref it) "set_iterator" := ⟨_,x,rfl⟩
theorem Vs {t:aW} {Q:(Array (Int × aA) × Nat × aW)->aC->Prop} (x:RawS s.heap a es ep t) (z:t.fits es.size=true) (h:Q (es,ep,t) s):aF (aI prog w) A (setState a) Q E s:=by
 obtain ⟨o,q,_,hd⟩:=x;exact wpAny_setState_of q hd z h
theorem Q9n {Q:Nat->aC->Prop} (q:n≠0) (h:∀ i d',i < n->Q i { s with drawn:=d' }):aF (aI prog w) A (choose .order n) Q E s:=fun Γ p _=>⟨q,h _ _ (Nat.mod_lt _ (by omega))⟩
theorem Qhu :∀ (n:Nat) (xs:List α) (s:aC) {Q:List α->aC->Prop},xs.length=n->(∀ ys d',ys.Perm xs->Q ys { s with drawn:=d' })->aF (aI prog w) A (drawOrder n xs) Q E s:=by
 intro n
 induction n with
 | zero=>
  intro xs s Q q h;rw [List.length_eq_zero_iff.mp q] at h ⊢;rw [drawOrder];exact wpAny_pure (h [] s.drawn (List.Perm.refl _))
 | succ n J=>
  intro xs s Q q h;cases xs with
  | nil=>cases q
  | cons x xs=>
   rw [drawOrder]
   ·refine aD (Q9n (by simp) fun i d' hi=>?_)
    rw [O2 hi];refine aD (J _ _ (by rw [List.length_eraseIdx_of_lt hi]; omega) fun ys z I=>?_)
    exact wpAny_pure (h _ z ((I.cons _).trans (j7 hi)))
   ·simp
end
section
variable {w:aJ}
theorem Qji {t:aW} {Q:Nat->aC->Prop} (x:RawS s.heap a es ep t) (q:t.fits es.size=true) (h:Q es.size s):aF (aI prog w) A (Builtin.Frozenset.sizeOf a) Q E s:=by
 unfold Builtin.Frozenset.sizeOf setEntries;exact aD (aD (Vs x q (wpAny_pure (wpAny_pure h))))
theorem Q6a {t:aW} {Q:Nat->aC->Prop} (x:RawS s.heap a es ep t) (q:t.fits es.size=true) (h:Q ep s):aF (aI prog w) A (setEpoch a) Q E s:=by
 unfold setEpoch;exact aD (Vs x q (wpAny_pure h))
theorem Q17 {t:aW} {Q:Array (Int × aA)->aC->Prop} (x:RawS s.heap a es ep t) (q:t.fits es.size=true) (h:Q es s):aF (aI prog w) A (setEntries a) Q E s:=by
 unfold setEntries;exact aD (Vs x q (wpAny_pure h))
theorem yg {Q:Bool->aC->Prop} (h:Q (w.params.followText "set-order") s):aF (aI prog w) A setsByText Q E s:=by
 unfold setsByText;exact aD (wpAny_askSetting (wpAny_pure h))
def drw (w:aJ) (n:Nat) (t:aW):Bool:=!w.params.followText "set-order" && (!t.plain && decide (n > 1))
theorem Qev {t:aW} {Q:Bool->aC->Prop} (x:RawS s.heap a es ep t) (q:t.fits es.size=true) (h:Q (drw w es.size t) s):aF (aI prog w) A (setDrawn a) Q E s:=by
 unfold setDrawn;exact aD (Vs x q (aD (yg (wpAny_pure h))))
theorem Qei {t:aW} {Q:aA->aC->Prop} (x:RawS s.heap a es ep t) (q:t.fits es.size=true) (hz:es.size<=sizeLine)
  (h1:drw w es.size t=false->Q (.ref s.heap.objs.size) { s with heap:=s.heap.push { cls:=.type "set_iterator",data:=.fields #[aV 0,aV 0,.ref a,aV es.size,aV ep] } })
  (h2:drw w es.size t=true->∀ (ys:List Nat) (d':Drawn),ys.Perm (List.range es.size) ->
   Q (.ref (s.heap.objs.size + 1)) { s with heap:=(s.heap.push { cls:=.type "tuple",data:=.seq (ys.map fun (i:Nat)=>aV i).toArray }).push { cls:=.type "set_iterator",data:=.fields #[.ref s.heap.objs.size,aV 0,.ref a,aV es.size,aV ep] },drawn:=d' }) :
  aF (aI prog w) A (pyIter (.ref a)) Q E s:=by
 refine wpAny_pyIter_slot x.typeIs PySem.F.slot_set_iter (ag PySem.F.slot_set_iter x.typeIs Q0g ?_ (PySem.F.args_set_iter_1 _));unfold Builtin.«frozenset.__iter__» Builtin.Frozenset.slot0 Builtin.Frozenset.addrOf slotArgs;show aF _ _ (pure a >>= _) _ _ _;refine aD (wpAny_pure ?_);refine aD (Qji x q ?_);refine aD (Qev x q ?_);cases z:drw w es.size t with
 | false=>
  rw [bU D4];refine aD (wpAny_pure ?_);refine aD (Q6a x q ?_);refine aD (av ?_);exact wpAny_pure ⟨_,rfl, "set_iterator",_,⟨_,D8 _ rfl,rfl⟩,slot_setit_next.lookup,h1 z⟩
 | true=>
  rw [bT rfl];refine aD ?_;refine Qhu _ _ _ F7 fun ys d' I=>?_
  refine aD (wpAny_newTuple ?_ (by rw [O1,I.length_eq,F7]; exact hz));have J:RawS (s.heap.push { cls:=.type "tuple",data:=.seq (ys.map fun (i:Nat)=>aV i).toArray }) a es ep t:=x.at fun o e=>O3 _ e
  refine aD (Q6a (s:={ s with heap:=s.heap.push { cls:=.type "tuple",data:=.seq (ys.map fun (i:Nat)=>aV i).toArray },drawn:=d' }) J q ?_)
  refine aD (av ?_);refine wpAny_pure ⟨_,rfl, "set_iterator",_,⟨_,D8 _ rfl,rfl⟩,slot_setit_next.lookup,?_⟩;have:=h2 z ys d' I
  rwa [show s.heap.objs.size + 1=(s.heap.push { cls:=.type "tuple",data:=.seq (ys.map fun (i:Nat)=>aV i).toArray }).objs.size from (G9 _ _).symm] at this
end
def byT (w:aJ):Bool:=!w.params.followText "set-order"
def Z8 (w:aJ):Obj:={ cls:=.type "set",dict:=none,data:=.set #[] 0 (.fresh 0 0 (byT w)) }
def Ym {K:Type} [DecidableEq K] (ks:List K):List K:=ks.foldl Zd []
theorem Qcx [DecidableEq K] (ks:List K) (k:K):Ym (ks ++ [k])=Zd (Ym ks) k:=by unfold Ym; rw [List.foldl_append]; rfl
theorem Ke {K:Type} [DecidableEq K]:∀ (ks acc:List K),(ks.foldl Zd acc).length<=acc.length + ks.length
 | [],acc=>by simp
 | k :: ks,acc=>by
  have h1:=Ke ks (Zd acc k);have h2:(Zd acc k).length<=acc.length + 1:=by unfold Zd; split <;> simp
  rw [F8,O9];omega
theorem Q1s [DecidableEq K] (ks:List K):(Ym ks).length<=ks.length:=by unfold Ym; have:=Ke ks []; simpa using this
section
variable {prog:aK} {w:aJ} {K:Type} [DecidableEq K] {knd:KeyKind prog w K} {A:aM} {R:Result->aC->Prop}
theorem Qj8 {E:aA->aC->Prop} (a:aA) {Z:aA->aC->Prop} (h:Z (.ref s.heap.objs.size) { s with heap:=s.heap.push (Z8 w) }) :
  codeAny (aI prog w) A (.call (.builtin "set.__new__") ⟨[.type "set",a],[]⟩) (wants Z E) s:=by
 refine codeAny_of_tree ?_;show aF _ A.in1 (do checkBuiltinCall "set.__new__" ⟨[.type "set",a],[]⟩; again (.builtin "set.__new__" ⟨[.type "set",a],[]⟩)) _ _ s;refine aD (wpAny_of_eq (F.newCall_set_1 a) (wpAny_pure ⟨bF F.plain_set_new _,bG F.entry_set_new ?_⟩));rw [Around.under_plainId F.plain_set_new _];unfold Builtin.«set.__new__» Builtin.Frozenset.newClass;have hs:=sub_set_self;unfold Z8 byT at h;obtain ⟨z,g,d,q,os⟩:=s;dsimp only
 wp_walk
 refine wpAny_askSetting (wpAny_pure ?_);dsimp only;simp only [newObj];refine aD (wpAny_alloc (wpAny_pure ?_));exact wpAny_pure h
theorem Q10:isSubtype (.type "tuple") (.type "set")=pure false:=by rw [bL]; kernel_rfl
theorem Q09:isSubtype (.type "tuple") (.type "frozenset")=pure false:=by rw [bL]; kernel_rfl
end
def V3 (w:aJ) (t:aW) (i:Nat):Nat:=if w.params.followText "set-order" = true then 0 else if i=0 then 0 else t.place.getD (i - 1) 0 + 1
def Q4m (w:aJ) (a:aB) (ep:Nat) (es:Array (Int × aA)):Array (Int × aA):=if w.params.followText "set-order" = true then pickOrder (w.params.setOrder a ep) es else es
theorem Q3g (w:aJ) (a:aB) (ep:Nat) (es:Array (Int × aA)):(Q4m w a ep es).toList.Perm es.toList:=by
 unfold Q4m
 split
 ·exact Qch _ _
 ·exact List.Perm.refl _
theorem Qcm (w:aJ) (a:aB) (ep:Nat) (es:Array (Int × aA)):(Q4m w a ep es).size=es.size:=by
 have:=(Q3g w a ep es).length_eq;simpa using this
theorem Q9u (r:Rise xs) {i:Nat} (h:i < xs.size):SetTable.below xs (xs.getD i 0 + 1)=i + 1:=by
 obtain ⟨J,b⟩:=Ki (j:=xs.getD i 0 + 1) r;have q:xs[i]?=some (xs.getD i 0):=by rw [Array.getElem?_eq_getElem h]; simp [Array.getD,h]
 have h1:i < SetTable.below xs (xs.getD i 0 + 1):=(b i _ q).mpr (by omega)
 by_cases z:SetTable.below xs (xs.getD i 0 + 1)=i + 1
 ·exact z
 ·have h2:i + 1 < xs.size:=by omega
  have I:xs[i + 1]?=some xs[i + 1]:=Array.getElem?_eq_getElem h2;have:=(b (i + 1) _ I).mp (by omega);have:=r.lt q I (by omega);omega
theorem Q9t (r:Rise xs):SetTable.below xs 0=0:=by
 obtain ⟨q,b⟩:=Ki (j:=0) r
 by_cases z:SetTable.below xs 0=0
 ·exact z
 ·have h2:0 < xs.size:=by omega
  have:=(b 0 _ (Array.getElem?_eq_getElem h2)).mp (by omega);omega
section
variable {w:aJ}
theorem Qg6 {i:Nat} {t:aW} {Q:Option (aA × Nat)->aC->Prop} (x:RawS s.heap a es ep t) (I:t.fits es.size=true) (g:Good (byT w) t) (hd:drw w es.size t=false) (hi:i<=es.size)
  (h:Q (((Q4m w a ep es)[i]?).map fun e=>(e.2,V3 w t (i + 1))) s):aF (aI prog w) A (setNext a (V3 w t i) i ep) Q E s:=by
 have hp:t.place.size=es.size:=by
  simp only [SetTable.fits,E9,beq_iff_eq,decide_eq_true_eq] at I;exact I.1
 unfold setNext;refine aD (Vs x I ?_);dsimp only;refine aD (yg ?_);cases z:w.params.followText "set-order" with
 | true=>
  rw [bT rfl,bU (by simp)];refine aD ?_;unfold setWalk;refine aD (Vs x I ?_);dsimp only;refine aD (yg ?_);rw [z,bT rfl];refine aD (wpAny_askSetting (wpAny_pure (wpAny_pure ?_)));unfold Q4m V3 at h;rw [bT z,bT z] at h;unfold V3;rw [bT z];exact h
 | false=>
  rw [bU D4];have O:(!t.plain && decide (es.size > 1))=false:=by
   unfold drw at hd;rw [z] at hd;simpa using hd
  have Z:t.led=true:=by rw [g.2.2]; unfold byT; rw [z]; rfl
  unfold Q4m V3 at h;rw [z,bU D4,bU D4,bU (by omega),Nat.add_sub_cancel] at h;have U:SetTable.below t.place (V3 w t i)=i:=by
   unfold V3;rw [z,bU D4]
   by_cases q:i=0
   ·rw [bT q,q]; exact Q9t g.1
   ·rw [bU q,Q9u g.1 (by omega)]; omega
  show aF _ _ (if (!t.plain && decide (es.size > 1))=true then _ else _) _ _ _;rw [O,bU D4];show aF _ _ ((if (!t.led && !es.isEmpty)=true then _ else _) >>= _) _ _ _;rw [Z];simp only [Bool.not_true,Bool.false_and,F2,if_false];refine aD (wpAny_pure ?_);rw [U];refine wpAny_pure ?_
  by_cases q:i < es.size
  ·have J:es[i]?=some es[i]:=Array.getElem?_eq_getElem q;have Y:t.place[i]?=some (t.place.getD i 0):=by rw [Array.getElem?_eq_getElem (by omega)]; simp [Array.getD,hp,q]
   rw [J] at h ⊢;rw [Y];exact h
  ·have J:es[i]?=none:=Array.getElem?_eq_none (by omega);rw [J] at h ⊢;exact h
end
section
variable {w:aJ}
theorem Xe:Slot "set_iterator" "__iter__" "set_iterator.__iter__" :=
 .of (owner := "set_iterator") (n := "__iter__") (by rw [typeLookup_type,builtinLookup_eq_fast]; kernel_rfl) (by decide +kernel) (by decide +kernel) (by decide +kernel) (by first | exact .inl (by decide +kernel) | exact .inr (by decide +kernel)) (by rw [bL]; kernel_rfl)
theorem xm:entryFor table "set_iterator.__iter__" = some Builtin.«dict_keyiterator.__iter__»:=entryFor_alias (id' := "dict_keyiterator.__iter__") (by kernel_rfl) rfl (by decide +kernel) (by kernel_rfl)
theorem Q0i (a:aA):argsOk "set_iterator.__iter__" ⟨[a],[]⟩:=by
 unfold argsOk; rw [signature?_of (id := "set_iterator.__iter__") (n:=['_','_','r','e','t','i','_','_']) (o:=['r','o','t','a','r','e','t','i','_','t','e','s']) (by kernel_rfl) xw]; kernel_rfl
theorem Q4h {d:aB} {i:Nat} {Q:aA->aC->Prop} (q:SetIt s.heap it f i d n ep) (h:Q (.ref it) s):aF (aI prog w) A (pyIter (.ref it)) Q E s:=by
 refine wpAny_pyIter_slot q.typeIs Xe (ag Xe q.typeIs xm ?_ (Q0i _));show aF _ _ (ret (.ref it)) _ _ s;exact wpAny_pure ⟨_,rfl, "set_iterator",_,q.typeIs,slot_setit_next.lookup,h⟩
def je (w:aJ) (t:aW) (h:Heap) (ys:Option (aB × List Nat)) (i:Nat) (f:aA):Prop:=match ys with
 | none=>f=aV (V3 w t i)
 | some (tp,ys)=>f=.ref tp/\h.get? tp=some { cls:=.type "tuple",data:=.seq (ys.map fun (i:Nat)=>aV i).toArray }
def Q2w (w:aJ) (a:aB) (ep:Nat) (es:Array (Int × aA)) (ys:Option (aB × List Nat)):List (Int × aA):=match ys with
 | none=>(Q4m w a ep es).toList
 | some (_,ys)=>ys.filterMap fun i=>es[i]?
theorem yi (h:∀ tp l,ys=some (tp,l)->l.Perm (List.range es.size)):(Q2w w a ep es ys).Perm es.toList:=by
 unfold Q2w;cases ys with
 | none=>exact Q3g _ _ _ _
 | some q=>
  obtain ⟨tp,l⟩:=q;refine ((h tp l rfl).filterMap _).trans ?_;rw [filterMap_getElem?_range]
theorem Qkf {tp:aB} {l:List Nat} (h:l.Perm (List.range es.size)) (i:Nat):(Q2w w a ep es (some (tp,l)))[i]?=(l[i]?).bind fun j=>es[j]?:=by
 have I:∀ j∈l,j < es.size:=fun j q=>by have:=h.mem_iff.mp q; simpa using this
 show (l.filterMap fun i=>es[i]?)[i]?=_;clear h
 induction l generalizing i with
 | nil=>rfl
 | cons x l J=>
  have z:=I x (by simp);rw [List.filterMap_cons_some (b:=es[x]) (Array.getElem?_eq_getElem z)];cases i with
  | zero=>simp [Array.getElem?_eq_getElem z]
  | succ i=>simpa using J i (fun j q=>I j (O4 _ q))
theorem Qej {i:Nat} {t:aW} {ys:Option (aB × List Nat)} {v:aA} {e:Int} {Q:Option aA->aC->Prop} (a1:a≠it) (O:SetIt s.heap it f i a es.size ep) (x:RawS s.heap a es ep t) (hf:t.fits es.size=true) (g:Good (byT w) t)
  (hy:je w t s.heap ys i f) (hn:ys=none->drw w es.size t=false) (hp:∀ tp l,ys=some (tp,l)->l.Perm (List.range es.size)/\tp≠it) (I:(Q2w w a ep es ys)[i]?=some (e,v))
  (hQ:∀ f' h',SetIt h' it f' (i + 1) a es.size ep->je w t h' ys (i + 1) f'->Heap.SameBut it s.heap h'->Q (some v) { s with heap:=h' }):aF (aI prog w) A (ak (.ref it)) Q E s:=by
 have hT:=O.typeIs;unfold ak;refine aD (wpAny_attempt (wpAny_callSpecial?_slot (name:=Str.ofString "__next__") hT slot_setit_next (ag slot_setit_next hT Uv ?_ (Xh _))));unfold Builtin.«set_iterator.__next__» slotArgs;show aF _ _ (fieldsOf (.ref it) >>= _) _ _ _;refine aD (wpAny_fieldsOf O rfl ?_);show aF _ _ (setEntries a >>= _) _ _ _;refine aD (Q17 x hf ?_);rw [bU (by simp)];cases ys with
 | none=>
  cases hy;show aF _ _ (setNext a (V3 w t i:Int).toNat (i:Int).toNat (ep:Int).toNat >>= _) _ _ _;rw [Int.toNat_natCast,Int.toNat_natCast,Int.toNat_natCast];have hi:i < es.size:=by
   obtain ⟨q,_⟩:=O0.mp I;have:=(yi (w:=w) (a:=a) (ep:=ep) (es:=es) (ys:=none) (fun _ _ z=>nomatch z)).length_eq;rw [this] at q; simpa using q
  refine aD (Qg6 x hf g (hn rfl) (by omega) ?_);have e0:(Q4m w a ep es)[i]?=some (e,v):=by rw [<- Array.getElem?_toList]; exact I
  rw [e0];show aF _ _ (setField (.ref it) 0 (aV (V3 w t (i + 1))) >>= _) _ _ _;refine aD (bP O (by simp) fun h1 o1 J=>?_)
  refine aD (bP (s:={ s with heap:=h1 }) o1 (by simp) fun h2 o2 Y=>?_)
  exact wpAny_pure ⟨_,rfl,wpAny_pure (hQ _ h2 o2 rfl (J.trans Y))⟩
 | some q=>
  obtain ⟨tp,l⟩:=q;obtain ⟨rfl,ht⟩:=hy;obtain ⟨hl,U⟩:=hp tp l rfl;rw [Qkf hl] at I;cases Z:l[i]? with
  | none=>rw [Z] at I; cases I
  | some j=>
   rw [Z] at I;have I:es[j]?=some (e,v):=I;show aF _ _ (seqItems? (.ref tp) >>= _) _ _ _;refine aD (bA ht rfl ?_);show aF _ _ (match ((l.map fun (i:Nat)=>aV i).toArray)[(i:Int).toNat]? with | some (.int place _)=>_ | some _=>_ | none=>_) _ _ _
   rw [Int.toNat_natCast,List.getElem?_toArray,E2,Z];show aF _ _ (setNextDrawn a (j:Int).toNat (ep:Int).toNat >>= _) _ _ _;rw [Int.toNat_natCast,Int.toNat_natCast];refine aD ?_;unfold setNextDrawn;refine aD (Vs x hf ?_);dsimp only;rw [bU (by simp),I];refine wpAny_pure ?_;refine aD (bP O (by simp) fun h1 o1 J=>?_)
   exact wpAny_pure ⟨_,rfl,wpAny_pure (hQ _ h1 o1 ⟨rfl,(J.2 tp U).trans ht⟩ J)⟩
theorem Q3a (z:A.handled=none) {q:Heap} (k:Heap.ExtBut it s.heap q) (I:∀ h',Heap.ExtBut it s.heap h'->Q none { s with heap:=h' }) :
  aF (aI prog w) A.in1 (newExc (.type "StopIteration") [] >>= fun e=>bS e) (fun (fin:Fin) s'=>∃ v,fin=.done (.ret v)/\aF (aI prog w) A (pure (some v)) Q E s') (fun e s'=>aF (aI prog w) A (do if <- isInstance e (.type "StopIteration") then pure none else throw e) Q E s') { s with heap:=q }:=by
 refine aD ?_;simp only [newExc,newTuple];refine aD (av ?_ (by size_fits));refine aD (m:=firstArgMember _ _) (wpAny_of_eq (a:=Value.none) (by first | rfl | (simp only [firstArgMember]; rfl)) ?_);refine av ?_ (by size_fits);simp only [bS];refine aD (wpAny_handled ?_);rw [show A.in1.handled=none from z];refine aD (wpAny_pure (wpAny_throw ?_));refine aD (bH (T := "StopIteration") (b:=true) ⟨_,D8 _ rfl,rfl⟩ isSubtype_stop ?_);exact wpAny_pure (I _ ((k.push _).push _))
theorem Qj9 {t:aW} {ys:Option (aB × List Nat)} {Q:Option aA->aC->Prop} (U:A.handled=none) (z:SetIt s.heap it f es.size a es.size ep) (x:RawS s.heap a es ep t) (hf:t.fits es.size=true) (g:Good (byT w) t)
  (Z:je w t s.heap ys es.size f) (hn:ys=none->drw w es.size t=false) (hp:∀ tp l,ys=some (tp,l)->l.Perm (List.range es.size)/\tp≠it)
  (Y:∀ h',Heap.ExtBut it s.heap h'->Q none { s with heap:=h' }):aF (aI prog w) A (ak (.ref it)) Q E s:=by
 have O:=z.typeIs;unfold ak;refine aD (wpAny_attempt (wpAny_callSpecial?_slot (name:=Str.ofString "__next__") O slot_setit_next (ag slot_setit_next O Uv ?_ (Xh _))));unfold Builtin.«set_iterator.__next__» slotArgs;show aF _ _ (fieldsOf (.ref it) >>= _) _ _ _;refine aD (wpAny_fieldsOf z rfl ?_);show aF _ _ (setEntries a >>= _) _ _ _;refine aD (Q17 x hf ?_);rw [bU (by simp)];cases ys with
 | none=>
  cases Z;show aF _ _ (setNext a (V3 w t es.size:Int).toNat (es.size:Int).toNat (ep:Int).toNat >>= _) _ _ _;rw [Int.toNat_natCast,Int.toNat_natCast,Int.toNat_natCast];refine aD (Qg6 x hf g (hn rfl) (O6 _) ?_);have e0:(Q4m w a ep es)[es.size]?=none:=Array.getElem?_eq_none (by rw [Qcm]; exact O6 _);rw [e0];show aF _ _ (setField (.ref it) 2 .none >>= _) _ _ _;refine aD (bP z (by simp) fun h1 o1 I=>?_)
  exact Q3a (s:=s) U I.extBut Y
 | some q=>
  obtain ⟨tp,l⟩:=q;obtain ⟨rfl,ht⟩:=Z;obtain ⟨hl,a1⟩:=hp tp l rfl;have hz:l[es.size]?=none:=N2 (by rw [hl.length_eq,F7]; exact O6 _);show aF _ _ (seqItems? (.ref tp) >>= _) _ _ _;refine aD (bA ht rfl ?_);show aF _ _ (match ((l.map fun (i:Nat)=>aV i).toArray)[(es.size:Int).toNat]? with | some (.int place _)=>_ | some _=>_ | none=>_) _ _ _
  rw [Int.toNat_natCast,List.getElem?_toArray,E2,hz];show aF _ _ (setField (.ref it) 0 (aV 0) >>= _) _ _ _;refine aD (bP z (by simp) fun h1 o1 I=>?_)
  refine aD (bP (s:={ s with heap:=h1 }) o1 (by simp) fun h2 o2 J=>?_)
  exact Q3a (s:=s) U (I.trans J).extBut Y
def Q5c (it a:aB) (ys:Option (aB × List Nat)):List aB:=match ys with
 | none=>[it,a]
 | some (tp,_)=>[it,a,tp]
theorem Qbs {ep:Nat} {t:aW} (hh:A.handled=none) (O:a≠it) (hf:t.fits es.size=true) (g:Good (byT w) t) (hn:ys=none->drw w es.size t=false) (Z:∀ tp l,ys=some (tp,l)->l.Perm (List.range es.size)/\tp≠it) :
  Walks prog w A it (Q5c it a ys) [it] es.size (fun i v=>∃ e,(Q2w w a ep es ys)[i]?=some e/\v=e.2) (fun i h=>RawS h a es ep t/\∃ f,SetIt h it f i a es.size ep/\je w t h ys i f) where
 sub:=fun b U=>by
  have:b=it:=by simpa using U
  subst this;unfold Q5c;cases ys <;> simp
 frame:=fun i h h' st Y=>by
  obtain ⟨x,f,h1,h2⟩:=st;have m1:it∈Q5c it a ys:=by unfold Q5c; cases ys <;> simp
  have m2:a∈Q5c it a ys:=by unfold Q5c; cases ys <;> simp
  refine ⟨x.at fun o e=>Y a m2 o e,f,h1.at fun o e=>Y it m1 o e,?_⟩;cases ys with
  | none=>exact h2
  | some q=>exact ⟨h2.1,Y q.1 (by unfold Q5c; simp) _ h2.2⟩
 item:=fun i s Q E hi st J=>by
  obtain ⟨x,f,h1,h2⟩:=st;have hl:(Q2w w a ep es ys).length=es.size:=by
   have:=(yi (w:=w) (a:=a) (ep:=ep) (es:=es) (ys:=ys) fun tp l z=>(Z tp l z).1).length_eq
   simpa using this
  have I:i < (Q2w w a ep es ys).length:=by omega
  refine Qej O h1 x hf g h2 hn Z (e:=(Q2w w a ep es ys)[i].1) (v:=(Q2w w a ep es ys)[i].2) (O2 I) fun f' h' i1 i2 sb=>?_
  exact J _ h' s.toks ⟨_,O2 I,rfl⟩ ⟨x.at fun o e=>(sb.2 a O).trans e,f',i1,i2⟩ fun b o U e=>sb.extBut b o (fun z=>U (by simp [z])) e
 done:=fun s Q E st J=>by
  obtain ⟨x,f,h1,h2⟩:=st;exact Qj9 hh h1 x hf g h2 hn Z fun h' k=>J h' s.toks fun b o U e=>k b o (fun z=>U (by simp [z])) e
 self:=fun i s Q E st J=>by
  obtain ⟨x,f,h1,h2⟩:=st;exact Q4h h1 J
theorem Qh4 {Q:Bool->aC->Prop} (q:s.TypeIs (.ref r) "set") (h:Q false s):aF (aI prog w) A (Builtin.List.listLengthHint (.ref r)) Q E s:=by
 unfold Builtin.List.listLengthHint;refine aD (wpAny_specialOf q PySem.F.slot_set_len.lookup ?_);generalize hid:("set.__len__" : String)=I
 wp_delta
 rw [show splitId I=some ("set", "__len__") from by subst hid; decide +kernel];subst hid;refine aD (bH (T := "set") (b:=true) q (by rw [bL]; kernel_rfl) ?_);refine az (fun z=>absurd z (by decide)) (fun _=>?_)
 refine az (fun _=>?_) (fun z=>absurd (by decide +kernel) z)
 exact aD (bD q (wpAny_pure h))
end
section
variable {w:aJ}
theorem Qmi {R:Result->aC->Prop} {t:aW} (hh:A.handled=none) (x:RawS s.heap r es ep t) (hf:t.fits es.size=true) (g:Good (byT w) t) (S:aB) (a4:S≠r) (res:aA) (a6:Nat) (hS:s.heap.get? S=some { cls:=.type "list",data:=.seq #[] a6 })
  (hR:∀ h' d' tk (acc:Array aA) c',acc.toList.Perm (es.toList.map (·.2))->(∀ b o,b≠S->s.heap.get? b=some o->h'.get? b=some o)->h'.get? S=some { cls:=.type "list",dict:=none,data:=.seq acc c',slots:=#[] }->R (.ok (.ret res)) { s with heap:=h',drawn:=d',toks:=tk }) (hn:es.size<=sizeLine) :
  aF (aI prog w) A.in1 (Builtin.List.listExtendWith (.ref S) (.ref r) res)
   (fun fin s'=>match fin with | .done f=>R (.ok f) s' | .again c'=>c'.quiet=true/\codeAny (aI prog w) A c' R s') (fun e s'=>R (.error e) s') s:=by
 have a1:=D5 hS;have a9:∀ (ys:Option (aB × List Nat)) (I:aB) (h:Heap) (d':Drawn) (Y tk:Nat),s.heap.objs.size<=I->(ys=none->drw w es.size t=false)->(∀ tp l,ys=some (tp,l)->l.Perm (List.range es.size)/\tp≠I/\s.heap.objs.size<=tp) ->
   RawS h r es ep t->(∃ f,SetIt h I f 0 r es.size ep/\je w t h ys 0 f)->(∀ b o,b≠S->s.heap.get? b=some o->h.get? b=some o) ->
   h.get? S=some { cls:=.type "list",data:=.seq #[] Y }->codeAny (aI prog w) A (.builtin "list.extend.loop" ⟨[.ref S,.ref I,res],[]⟩) R { s with heap:=h,drawn:=d',toks:=tk }:=by
  intro ys I h d' Y tk hI a2 J hx a3 hk a7;have a8:S≠I:=E8 (D3 a1 hI);have b0:r≠I:=E8 (D3 x.lt hI);have W:=Qbs (prog:=prog) (A:=A.in1) (it:=I) (a:=r) (es:=es) (ep:=ep) (t:=t) (ys:=ys) (by simpa using hh) b0 hf g a2 fun tp l z=>⟨(J tp l z).1,(J tp l z).2.1⟩
  have b2:S∉Q5c I r ys:=by
   unfold Q5c;cases ys with
   | none=>simp only [D7,List.not_mem_nil,or_false,not_or]; exact ⟨a8,a4⟩
   | some q=>simp only [D7,List.not_mem_nil,or_false,not_or]; exact ⟨a8,a4,E8 (D3 a1 (J q.1 q.2 rfl).2.2)⟩
  refine codeAny_extend_loopS W.toS hn S b2 res es.size 0 _ #[] Y rfl (G8 _) ⟨hx,a3⟩ a7 (ItemsOf.nil _) fun s' acc c' hm b1 U=>?_
  rw [Moved.eq_with hm];have pm:=yi (w:=w) (a:=r) (ep:=ep) (es:=es) (ys:=ys) fun tp l z=>(J tp l z).1
  have hl:=pm.length_eq;simp only [Array.length_toList] at hl;have e:acc.toList=(Q2w w r ep es ys).map (·.2):=by
   apply List.ext_getElem?;intro i
   by_cases z:i < es.size
   ·have hi:i < acc.size:=by rw [U.1]; exact z
    obtain ⟨e,h1,h2⟩:=U.2 i acc[i] (Array.getElem?_eq_getElem hi);rw [Array.getElem?_toList,Array.getElem?_eq_getElem hi,h2,E2,h1]; rfl
   ·rw [Array.getElem?_toList,Array.getElem?_eq_none (by rw [U.1]; omega),E2,N2 (by omega)]; rfl
  refine hR s'.heap d' s'.toks acc c' (by rw [e]; exact pm.map _) (fun b o hb q=>hm.heap b o (fun O=>?_) (hk b o hb q)) b1
  rcases D7.mp O with z | O
  ·exact hb z
  ·have:=D5 q;rw [List.mem_singleton.mp O] at this;exact absurd (D3 this hI) (L8 _)
 have a5:∀ (bf:Bool->Bool) (ys:Option (aB × List Nat)) (I:aB) (h:Heap) (d':Drawn),s.heap.objs.size<=I->(ys=none->drw w es.size t=false)->(∀ tp l,ys=some (tp,l)->l.Perm (List.range es.size)/\tp≠I/\s.heap.objs.size<=tp) ->
   RawS h r es ep t->(∃ f,SetIt h I f 0 r es.size ep/\je w t h ys 0 f)->(∀ b o,s.heap.get? b=some o->h.get? b=some o) ->
   aF (aI prog w) A.in1 (do
     let room <- ar [.ref I] (Builtin.List.listLengthHint (.ref r))
     if bf room then
      rule "list.extend.makes-room"
      Builtin.List.listTouch (.ref S)
     again (.builtin "list.extend.loop" ⟨[.ref S,.ref I,res],[]⟩))
    (fun fin s'=>match fin with | .done f=>R (.ok f) s' | .again c'=>c'.quiet=true/\codeAny (aI prog w) A c' R s') (fun e s'=>R (.error e) s') { s with heap:=h,drawn:=d' }:=by
  intro bf ys I h d' hI a2 J hx a3 hk;refine aD (ae (Qh4 (s:={ s with heap:=h,drawn:=d' }) hx.typeIs ?_));refine az (fun _=>?_) (fun _=>wpAny_pure ⟨bF PySem.F.plain_extend_loop _,a9 ys I h d' a6 s.toks hI a2 J hx a3 (fun b o _ q=>hk b o q) (hk _ _ hS)⟩);refine aD (bQ (aD ?_));show aF _ _ (updateSeq S (·.push .none) >>= fun _=>updateSeq S (·.pop)) _ _ _
  have s1:=hk _ _ hS;refine aD (wpAny_updateSeq (s:={ s with heap:=h,drawn:=d' }) s1 rfl ?_);have s2:=L5 (Obj.mapSeq (·.push Value.none)) s1 rfl;refine wpAny_updateSeq (hz:=by seq_fits) s2 rfl ?_;have s3:=L5 (Obj.mapSeq (·.pop)) s2 rfl;have Z:∀ b o,b≠S->h.get? b=some o->((h.update S (Obj.mapSeq (·.push Value.none))).update S (Obj.mapSeq (·.pop))).get? b=some o:=fun b o hb q=>(G6 _ _ (Ne.symm hb)).trans ((G6 _ _ (Ne.symm hb)).trans q)
  have nI:I≠S:=Nat.ne_of_gt (D3 a1 hI);refine wpAny_pure ⟨bF PySem.F.plain_extend_loop _,a9 ys I _ d' _ s.toks hI a2 J (hx.at fun o q=>Z r o (Ne.symm a4) q) ?_ (fun b o hb q=>Z b o hb (hk b o q)) s3⟩;obtain ⟨f,i1,i2⟩:=a3;refine ⟨f,i1.at fun o q=>Z I o nI q,?_⟩;cases ys with
  | none=>exact i2
  | some q=>exact ⟨i2.1,Z q.1 _ (Nat.ne_of_gt (D3 a1 (J q.1 q.2 rfl).2.2)) i2.2⟩
 unfold Builtin.List.listExtendWith;refine aD (bD (T := "set") x.typeIs ?_);have h1:Builtin.List.listSameRef (.ref S) (.ref r)=false:=by simp [Builtin.List.listSameRef,a4]
 have e1:(Value.type "set" == Value.type "list")=false:=by decide
 have e2:(Value.type "set" == Value.type "tuple")=false:=by decide
 simp only [h1,e1,e2,Bool.or_false,F2,if_false];refine aD (Qei x hf hn (fun z=>?_) fun z ys d' hp=>?_)
 ·exact a5 _ none s.heap.objs.size (s.heap.push { cls:=.type "set_iterator",data:=.fields #[aV 0,aV 0,.ref r,aV es.size,aV ep] }) s.drawn (O6 _) (fun _=>z) (fun _ _ q=>nomatch q) (x.at fun o q=>O3 _ q) ⟨_,D8 _ rfl,by unfold je V3; simp⟩ (fun b o q=>O3 _ q)
 ·have hz:s.heap.objs.size + 1=(s.heap.push { cls:=.type "tuple",data:=.seq (ys.map fun (i:Nat)=>aV i).toArray }).objs.size:=(G9 _ _).symm
  exact a5 _ (some (s.heap.objs.size,ys)) (s.heap.objs.size + 1) ((s.heap.push { cls:=.type "tuple",data:=.seq (ys.map fun (i:Nat)=>aV i).toArray }).push { cls:=.type "set_iterator",data:=.fields #[.ref s.heap.objs.size,aV 0,.ref r,aV es.size,aV ep] }) d' (Nat.le_succ _) (fun q=>nomatch q)
   (fun tp l q=>by cases q; exact ⟨hp,E8 (Nat.lt_succ_self _),O6 _⟩) (x.at fun o q=>O3 _ (O3 _ q)) ⟨.ref s.heap.objs.size,by rw [hz]; exact D8 _ rfl,rfl,O3 _ (D8 _ rfl)⟩ (fun b o q=>O3 _ (O3 _ q))
theorem Q7v {d:aB} {t:aW} {Q:List aA->aC->Prop} (Y:A.handled=none) (x:RawS s.heap d es ep t) (hf:t.fits es.size=true) (g:Good (byT w) t) (Z:es.size<=sizeLine)
  (h:∀ vs h' d' O,vs.Perm (es.toList.map (·.2))->(∀ b o,s.heap.get? b=some o->h'.get? b=some o)->s.heap.objs.size<=h'.objs.size->Q vs { s with heap:=h',drawn:=d',toks:=O }):aF (aI prog w) A (collect (.ref d)) Q E s:=by
 unfold collect;refine aD (wpAny_runValue (bG PySem.F.entry_proto_collect ?_));rw [Around.under_plainId PySem.F.plain_proto_collect _];show aF _ A.in1 (newList [] >>= fun l=>again (.builtin "list.__iadd__" ⟨[l,.ref d],[]⟩)) _ _ s
 refine aD (av ?_);refine wpAny_pure ⟨bF PySem.F.plain_list_iadd _,bG PySem.F.entry_list_iadd ?_⟩;rw [Around.under_plainId PySem.F.plain_list_iadd _];have U:(s.heap.push { cls:=.type "list",data:=.seq ([]:List aA).toArray }).get? s.heap.objs.size=some { cls:=.type "list",data:=.seq ([]:List aA).toArray }:=D8 _ rfl;have I:∀ b o,s.heap.get? b=some o->(s.heap.push { cls:=.type "list",data:=.seq ([]:List aA).toArray }).get? b=some o:=fun b o e=>O3 _ e
 have J:s.heap.objs.size≠d:=Nat.ne_of_gt x.lt;show aF _ A.in1 (Builtin.List.listExtendWith (.ref s.heap.objs.size) (.ref d) (.ref s.heap.objs.size)) _ _ _;refine Qmi (prog:=prog) (w:=w) (A:=A) (R:=fun r s'=>match r with | .ok (.ret v)=>aF (aI prog w) A (match v with | .ref a=>do { let o <- load a; match o.data with | .seq xs _=>pure xs.toList | _=>unsupported "internal:collect" } | _=>unsupported "internal:collect") Q E s' | .ok _=>False | .error e=>E e s') (s:={ s with heap:=s.heap.push { cls:=.type "list",data:=.seq ([]:List aA).toArray } }) Y (x.at fun o e=>I d o e) hf g s.heap.objs.size J _ _ U (fun h' d' O acc c pm hk z=>?_) Z
 show aF _ A (load s.heap.objs.size >>= _) _ _ _;refine aD (wpAny_load z ?_);exact wpAny_pure (h _ h' d' O pm (fun b o q=>hk b o (E8 (D5 q)) (I b o q)) (Nat.le_of_lt (D5 z)))
end
theorem Inv.redraw {pins:List (aB × Obj)} {σ:List (Option V)} {H:Hp} (I:Inv X pins σ H s) (d':Drawn):Inv X pins σ H { s with drawn:=d' }:=⟨I.ok,I.os,I.bare,I.base,I.loc,I.cell,I.free,I.freeC,I.pin,I.hok,I.len⟩
variable {X:Cx} {tg:aH}
theorem Qcn:OpR X (aS .LtE) (fun x y H Q=>∃ i j,x=.str i/\y=.str j/\Q (.bl (!decide (j.cps.toList < i.cps.toList))) H):=by
 intro pins s σ H x y v u Q I z J h;obtain ⟨i,j,rfl,rfl,q⟩:=h;obtain ⟨t,rfl⟩:=z;obtain ⟨t',rfl⟩:=J;exact PySem.P.le_str (Q5f I q rfl)
def Qsd (x:Str):It:=⟨fun i _=>i < x.cps.size,fun i H v H'=>H'=H/\∃ c,x.cps[i]?=some c/\v=.str ⟨#[c]⟩,fun i _=>x.cps.size<=i⟩
theorem Q35 {w:aJ} (h:A.handled=none) (I:aB) (x:Str) (t:Tok):Walks prog w A I [I] [I] x.cps.size (SignAt x) fun i h=>h.IsStrIter I (strIterType x) x t i:=by
 unfold strIterType
 split
 ·exact Walks.strAscii h I x t
 ·exact Walks.strWide h I x t
theorem Q3p (x:Str):strIterType x = "str_ascii_iterator" \/ strIterType x = "str_iterator" := by
 unfold strIterType
 split
 ·exact .inl rfl
 ·exact .inr rfl
theorem Qdw {P:aK} {w:aJ} {K:PySem.W.Frag} (x:Str) (t:Tok) (it:aB):Turn P w K tg (Qsd x) [it] it (fun i h=>h.IsStrIter it (strIterType x) x t i/\i<=x.cps.size) where
 mem:=by simp
 obj:=fun i h st b J=>by
  have e:b=it:=by simpa using J
  subst e;obtain ⟨o,e,c,d⟩:=st.1;exact ⟨o,e,fun v z=>by rw [d] at z; cases z⟩
 keep:=fun i h h' st k=>by
  obtain ⟨⟨o,e,c,d⟩,hi⟩:=st;exact ⟨⟨o,k it (by simp) o e,c,d⟩,hi⟩
 item:=by
  intro X hP hw hK hc i pins s σ H E I U st O;subst hP hw hK;obtain ⟨f0,f1,f2,f3,Y,Z⟩:=U it (by simp);have W:=Q35 (prog:=X.prog) (w:=X.w) (I.ok.hd hc) it x t;refine W.item i s _ _ O st.1 fun v h' tk hv st' kk=>?_
  obtain ⟨c,u,a1,rfl⟩:=hv;have I1:Inv X pins σ H { s with heap:=h',toks:=tk }:=I.turned (fun b o J e=>kk b o (by simpa using J) e) f0 f1 f3 Y Z
  obtain ⟨o,e1,e2,e3⟩:=st';refine ⟨_,rfl,Qb3 (s:={ s with heap:=h',toks:=tk }) (n:=strIterType x) e1 e2 e3 ?_ ⟨.str ⟨#[c]⟩,H,I1,⟨u,rfl⟩,⟨rfl,c,a1,rfl⟩,⟨⟨o,e1,e2,e3⟩,O⟩,fun b J=>(U b J).1⟩⟩
  rcases Q3p x with q | q <;> rw [q] <;> decide
 done:=by
  intro X hP hw hK hc i pins s σ H E I U st O;subst hP hw hK;obtain ⟨f0,f1,f2,f3,Y,Z⟩:=U it (by simp);have W:=Q35 (prog:=X.prog) (w:=X.w) (I.ok.hd hc) it x t;have e:i=x.cps.size:=Nat.le_antisymm st.2 O;subst e;exact W.done s _ _ st.1 fun h' tk kk=>⟨rfl,I.turned (fun b o J e=>kk b o (by simpa using J) e) f0 f1 f3 Y Z⟩
 self:=fun A i s Q E st h=>by
  obtain ⟨st,_⟩:=st;revert st;rcases Q3p x with q | q <;> rw [q] <;> intro st
  ·exact wpAny_pyIter_striter_ascii st h
  ·exact wpAny_pyIter_striter_wide st h
def Qxk (tl:TE):TI:=fun σ H R=>tl σ H fun v H1=>∃ x,v=.str x/\R (Qsd x) H1
theorem Qq1 {l:aH} {tl:TE} (Y:PE X l tl):PI X tg l (Qxk tl):=by
 intro pins s σ H R I h;refine thn (Y pins s σ H _ I h) fun v s1 ⟨z,H1,J,U,O⟩=>?_
 obtain ⟨x,e,q⟩:=O;subst e;obtain ⟨t,rfl⟩:=U;refine wpAny_pyIter_strU ?_;refine ⟨s1.heap.objs.size,[s1.heap.objs.size],_,_,H1,rfl,J.kept (t':=s1.toks) fun b o e=>O3 _ e,Qdw x t _,⟨⟨_,D8 _ rfl,rfl,rfl⟩,G8 _⟩,fun b Z=>?_,q⟩
 have e:b=s1.heap.objs.size:=by simpa using Z
 subst e;exact J.fpOk (O6 _) (J.hok.fresh (O6 _))
theorem Qa5:∀ {ss:List Str} {us:List aA},Vals (ss.map V.str) us->∃ l:List (Str × Tok),us=strValues l/\l.map (·.1)=ss
 | [],_,.nil=>⟨[],rfl,rfl⟩
 | s :: ss,_,.cons r t=>by
  obtain ⟨l,q,I⟩:=Qa5 t;obtain ⟨z,rfl⟩:=r;exact ⟨(s,z) :: l,by rw [q]; rfl,by rw [D0,I]⟩
theorem Qkp:MtR X "str.join" (fun x vs H Q=>∃ z p ss,x=.str z/\vs=[.ref p]/\SqL X.K H p (ss.map V.str)/\JoinOk z ss=true/\Q (.str (Txt.join z ss)) H):=by
 intro pins s σ H x vs v us Q I Z rv h;obtain ⟨z,p,ss,rfl,rfl,Y,hz,q⟩:=h;obtain ⟨t,rfl⟩:=Z;obtain ⟨u,rfl,ru⟩:=rv.one;cases ru;obtain ⟨its,J,pl,_⟩:=I.list Y;obtain ⟨l,U,O⟩:=Qa5 J;subst U;exact SC.join pl.isList O hz fun t' k=>⟨.str _,H,I.tok _,⟨_,rfl⟩,q⟩
def jd (M:Nat) (p:SetTable.Probe):SetTable.Probe:=
 if p.more > 0 then { j:=p.j + 1,more:=p.more - 1,i:=p.i,perturb:=p.perturb,dummy:=p.dummy }
 else { j:=(SetTable.leap M p.i p.perturb).1,more:=SetTable.runEnd M (SetTable.leap M p.i p.perturb).1 - (SetTable.leap M p.i p.perturb).1,i:=(SetTable.leap M p.i p.perturb).1,perturb:=(SetTable.leap M p.i p.perturb).2,dummy:=p.dummy }
theorem Q2p (t:aW) (p:SetTable.Probe):t.advance p=jd t.mask p:=by
 unfold SetTable.advance jd
 split <;> rfl
def Qh8 (M:Nat) (q:Nat × Nat):SetTable.Probe:={ j:=q.1,more:=SetTable.runEnd M q.1 - q.1,i:=q.1,perturb:=q.2,dummy:=none }
def lpP (M:Nat) (h:Int):Nat->Nat × Nat
 | 0=>(SetTable.bits h % (M + 1),SetTable.bits h)
 | m + 1=>SetTable.leap M (lpP M h m).1 (lpP M h m).2
def pth (M:Nat) (h:Int):Nat->SetTable.Probe
 | 0=>Qh8 M (lpP M h 0)
 | n + 1=>jd M (pth M h n)
def Qx (M:Nat) (h:Int) (n:Nat):Nat:=(pth M h n).j
theorem Q3f (M:Nat) (h:Int):∀ n,(pth M h n).dummy=none
 | 0=>rfl
 | n + 1=>by
  have:=Q3f M h n;show (jd M (pth M h n)).dummy=none;unfold jd
  split <;> exact this
theorem Qax (M i p:Nat):(SetTable.leap M i p).1<=M:=by
 show (i * 5 + 1 + p / 32) % (M + 1)<=M;exact Nat.le_of_lt_succ (Nat.mod_lt _ (Nat.succ_pos _))
theorem Q51 (M:Nat) (h:Int):∀ m,(lpP M h m).1<=M
 | 0=>Nat.le_of_lt_succ (Nat.mod_lt _ (Nat.succ_pos _))
 | m + 1=>Qax _ _ _
theorem Kq {i:Nat} (h:i<=M):SetTable.runEnd M i<=M/\i<=SetTable.runEnd M i/\SetTable.runEnd M i<=i + 9:=by
 unfold SetTable.runEnd
 split <;> omega
theorem Qfa (M:Nat) (h:Int):∀ n,(pth M h n).j + (pth M h n).more<=M
 | 0=>by
  have:=Kq (Q51 M h 0);show (lpP M h 0).1 + (SetTable.runEnd M (lpP M h 0).1 - (lpP M h 0).1)<=M;omega
 | n + 1=>by
  have q:=Qfa M h n;show (jd M (pth M h n)).j + (jd M (pth M h n)).more<=M;unfold jd
  split
  ·dsimp only; omega
  ·dsimp only;have:=Kq (Qax M (pth M h n).i (pth M h n).perturb);omega
theorem Qjy (M:Nat) (h:Int) (n:Nat):Qx M h n<=M:=by
 have:=Qfa M h n;unfold Qx; omega
theorem Q4j {M:Nat} {h:Int} {n:Nat} {q:Nat × Nat} (e:pth M h n=Qh8 M q):∀ k,k<=SetTable.runEnd M q.1 - q.1->pth M h (n + k)={ j:=q.1 + k,more:=SetTable.runEnd M q.1 - q.1 - k,i:=q.1,perturb:=q.2,dummy:=none }
 | 0,_=>e
 | k + 1,z=>by
  show jd M (pth M h (n + k))=_;rw [Q4j e k (by omega)];unfold jd;dsimp only;rw [bT (by omega)];congr 1
theorem Qag (M:Nat) (h:Int):∀ m,∃ n,n<=10 * m/\pth M h n=Qh8 M (lpP M h m)
 | 0=>⟨0,by omega,rfl⟩
 | m + 1=>by
  obtain ⟨n,q,e⟩:=Qag M h m;have b:=Kq (Q51 M h m);refine ⟨n + (SetTable.runEnd M (lpP M h m).1 - (lpP M h m).1) + 1,by omega,?_⟩;show jd M (pth M h (n + _))=_;rw [Q4j e _ (O6 _)];unfold jd;dsimp only;rw [bU (by omega)];rfl
def itF (M:Nat):Nat->Nat->Nat
 | 0,i=>i
 | n + 1,i=>itF M n ((i * 5 + 1) % (M + 1))
theorem ze (M:Nat):∀ a b i,itF M (a + b) i=itF M b (itF M a i)
 | 0,b,i=>by rw [Nat.zero_add]; rfl
 | a + 1,b,i=>by rw [Nat.succ_add]; exact ze M a b _
def orb (M:Nat):Nat->Nat->List Nat
 | 0,_=>[]
 | k + 1,i=>i :: orb M k ((i * 5 + 1) % (M + 1))
theorem Q4n {M:Nat}:∀ {k i j:Nat},j∈orb M k i->∃ n,n < k/\itF M n i=j
 | k + 1,i,j,h=>by
  rcases D7.mp h with rfl | h
  ·exact ⟨0,by omega,rfl⟩
  ·obtain ⟨n,q,e⟩:=Q4n h;exact ⟨n + 1,by omega,e⟩
def HM (M:Nat):Prop:=M=7\/M=31\/M=127
theorem Qkg (q:HM M):(∀ j,j < M + 1->j∈orb M (M + 1) 0)/\itF M (M + 1) 0=0:=by
 rcases q with rfl | rfl | rfl
 ·exact ⟨by decide +kernel,by decide +kernel⟩
 ·exact ⟨by decide +kernel,by decide +kernel⟩
 ·exact ⟨by decide +kernel,by decide +kernel⟩
theorem Qrk (O:HM M) {i:Nat} (hi:i<=M) (Y:j<=M):∃ n,n < M + 1/\itF M n i=j:=by
 obtain ⟨o,z⟩:=Qkg O;obtain ⟨a,U,I⟩:=Q4n (o i (by omega));obtain ⟨b,Z,J⟩:=Q4n (o j (by omega))
 by_cases q:a<=b
 ·refine ⟨b - a,by omega,?_⟩;rw [<- I,<- ze,show a + (b - a)=b by omega,J]
 ·refine ⟨M + 1 - a + b,by omega,?_⟩;rw [<- I,<- ze,show a + (M + 1 - a + b)=(M + 1) + b by omega,ze,z,J]
theorem Qgk (M:Nat) (h:Int):∀ m,(lpP M h m).2=SetTable.bits h / 32 ^ m
 | 0=>by show SetTable.bits h=_; rw [Nat.pow_zero,Nat.div_one]
 | m + 1=>by
  show (lpP M h m).2 / 32=_;rw [Qgk M h m,Nat.div_div_eq_div_mul,<- Nat.pow_succ]
theorem Qmt (h:Int):SetTable.bits h < 2 ^ 64:=by
 unfold SetTable.bits;have h1:(0:Int) < 2 ^ 64:=by decide
 have:=Int.emod_lt_of_pos h h1;have:=Int.emod_nonneg h (show (2:Int) ^ 64≠0 by decide);omega
theorem Qur (M:Nat) (h:Int):∀ n,(lpP M h (12 + n)).1=itF M n (lpP M h 12).1:=by
 have step:∀ m,12<=m->(lpP M h (m + 1)).1=((lpP M h m).1 * 5 + 1) % (M + 1):=fun m hm=>by
  show ((lpP M h m).1 * 5 + 1 + (lpP M h m).2 / 32) % (M + 1)=_;have:(lpP M h m).2 / 32=0:=by
   rw [Qgk,Nat.div_div_eq_div_mul,<- Nat.pow_succ];refine Nat.div_eq_of_lt (D3 (Qmt h) ?_);exact E6 (show 2 ^ 64<=32 ^ 13 by decide) (Nat.pow_le_pow_right (by decide) (by omega))
  rw [this,Nat.add_zero]
 have q:∀ n i,itF M (n + 1) i=(itF M n i * 5 + 1) % (M + 1):=fun n i=>ze M n 1 i
 intro n
 induction n with
 | zero=>rfl
 | succ n z=>rw [q,<- z]; exact step (12 + n) (by omega)
theorem Q76 (z:HM M) (h:Int) (q:j<=M):∃ m,m < M + 13/\(lpP M h m).1=j:=by
 obtain ⟨n,I,e⟩:=Qrk z (Q51 M h 12) q;exact ⟨12 + n,by omega,by rw [Qur,e]⟩
theorem Qcg (z:HM M) (h:Int) (q:j<=M):∃ n,n<=10 * (M + 12)/\Qx M h n=j:=by
 obtain ⟨m,hm,e⟩:=Q76 z h q;obtain ⟨n,I,en⟩:=Qag M h m;exact ⟨n,by omega,by unfold Qx; rw [en]; exact e⟩
theorem Q9h (hM:HM M) (h:Int) (I:Nat->Prop) (Z:j<=M) (Y:¬ I j):∃ N,N<=10 * (M + 12)/\¬ I (Qx M h N)/\∀ m,m < N->I (Qx M h m):=by
 obtain ⟨n,U,e⟩:=Qcg hM h Z;have J:∀ n,¬ I (Qx M h n)->∃ N,N<=n/\¬ I (Qx M h N)/\∀ m,m < N->I (Qx M h m):=by
  intro n
  induction n using Nat.strongRecOn with
  | ind n ih=>
   intro U
   by_cases q:∃ m,m < n/\¬ I (Qx M h m)
   ·obtain ⟨m,hm,hx⟩:=q;obtain ⟨N,h1,h2,O⟩:=ih m hm hx;exact ⟨N,by omega,h2,O⟩
   ·refine ⟨n,O6 _,U,fun m hm=>?_⟩;exact Classical.byContradiction fun z=>q ⟨m,hm,z⟩
 obtain ⟨N,h1,h2,O⟩:=J n (by rw [e]; exact Y);exact ⟨N,by omega,h2,O⟩
theorem Um {t:aW} {i:Nat} (r:Rise t.place) (hi:t.place[i]?=some j):t.slot j=.live i:=by
 obtain ⟨J,b⟩:=Ki (j:=j) r;have n1:¬ i < SetTable.below t.place j:=fun z=>by have:=(b i j hi).mp z; omega
 have I:=(Array.getElem?_eq_some_iff.mp hi).1;have e:SetTable.below t.place j=i:=by
  by_cases z:SetTable.below t.place j < i
  ·have q:SetTable.below t.place j < t.place.size:=by omega
   have l:=r.lt (Array.getElem?_eq_getElem q) hi z;have:=(b _ _ (Array.getElem?_eq_getElem q)).mpr l;omega
  ·omega
 unfold SetTable.slot;dsimp only;rw [e,hi];simp
theorem Qc2 {t:aW} (hd:t.dummies=#[]) (h:j∉t.place.toList):t.slot j=.empty:=by
 unfold SetTable.slot SetTable.has;dsimp only;rw [hd];have:¬ (t.place[SetTable.below t.place j]? == some j)=true:=fun z=>by
  have z:=eq_of_beq z;rw [<- Array.getElem?_toList] at z;exact h (E3 z)
 rw [bU this];simp
theorem Qfh {t:aW} (g:Good L t) (hashAt:Nat->Int) (h:Int) (hN:Qx t.mask h N∉t.place.toList) (hl:∀ m,m < N->Qx t.mask h m∈t.place.toList):∀ I n,n<=N->N - n < I ->
  (SetTable.probe.go t hashAt h I (pth t.mask h n)=some (.empty (Qx t.mask h N) none)/\∀ m,n<=m->m < N->∀ i,t.place[i]?=some (Qx t.mask h m)->hashAt i≠h) \/
  (∃ m i,n<=m/\m < N/\t.place[i]?=some (Qx t.mask h m)/\hashAt i=h/\SetTable.probe.go t hashAt h I (pth t.mask h n)=some (.candidate (Qx t.mask h m) i (pth t.mask h (m + 1)))/\∀ U,n<=U->U < m->∀ i,t.place[i]?=some (Qx t.mask h U)->hashAt i≠h):=by
 intro I
 induction I with
 | zero=>intro n _ h2; omega
 | succ I ih=>
  intro n h1 h2;rw [SetTable.probe.go]
  by_cases e:n=N
  ·subst e
   left
   have:=Qc2 g.2.1 hN;unfold Qx at this ⊢;rw [this,Q3f];exact ⟨rfl,fun m h3 Y=>by omega⟩
  ·have hm:=hl n (by omega);obtain ⟨i,hi,ei⟩:=L3 hm;have hv:t.place[i]?=some (Qx t.mask h n):=by rw [<- Array.getElem?_toList,O2 hi,ei]
   have hs:=Um g.1 hv;have uq:∀ O,t.place[O]?=some (Qx t.mask h n)->O=i:=fun O J=>by
    have:=Um g.1 J;rw [hs] at this; cases this; rfl
   unfold Qx at hs;rw [hs];dsimp only
   by_cases q:hashAt i=h
   ·right
    refine ⟨n,i,O6 _,by omega,hv,q,?_,fun U h3 Y=>by omega⟩;rw [bT (by simp [q]),Q2p];rfl
   ·rw [bU (by simp [q]),Q2p];have ad:jd t.mask (pth t.mask h n)=pth t.mask h (n + 1):=rfl;rw [ad];rcases ih (n + 1) (by omega) (by omega) with ⟨a1,a2⟩ | ⟨m,O,a1,a2,a3,a4,a5,a6⟩
    ·left
     refine ⟨a1,fun m h3 Y O J=>?_⟩
     by_cases z:m=n
     ·subst z; rw [uq O J]; exact q
     ·exact a2 m (by omega) Y O J
    ·right
     refine ⟨m,O,by omega,a2,a3,a4,a5,fun U h3 Y i2 Z=>?_⟩
     by_cases z:U=n
     ·subst z; rw [uq i2 Z]; exact q
     ·exact a6 U (by omega) Y i2 Z
def Rch (M:Nat) (occ:Nat->Prop) (h:Int) (j:Nat):Prop:=∃ n,Qx M h n=j/\∀ m,m < n->occ (Qx M h m)
theorem Rch.mono {z q:Nat->Prop} (r:Rch M z h j) (k:∀ x,z x->q x):Rch M q h j:=let ⟨n,e,f⟩:=r; ⟨n,e,fun m hm=>k _ (f m hm)⟩
def SzM (M n:Nat):Prop:=M=7/\n<=4\/M=31/\n<=18\/M=127/\n<=76
def SzP (M n:Nat):Prop:=M=7/\n<=5\/M=31/\n<=19\/M=127/\n<=76
theorem SzM.hm (s:SzM M n):HM M:=by unfold SzM at s; unfold HM; omega
structure HG0 (L:Bool) (t:aW) (hs:List Int):Prop where
 good:Good L t
 len:t.place.size=hs.length
 le:∀ j,j∈t.place.toList->j<=t.mask
 rch:∀ (i j:Nat) (h:Int),t.place[i]?=some j->hs[i]?=some h->Rch t.mask (·∈t.place.toList) h j
structure HG (L:Bool) (t:aW) (hs:List Int):Prop extends HG0 L t hs where
 sz:SzM t.mask hs.length
theorem HG.fits {t:aW} (g:HG L t hs):t.fits hs.length=true:=by
 unfold SetTable.fits SetTable.fill;rw [g.good.2.1,g.len];have:=g.sz;unfold SzM at this;simp;omega
theorem Qad:∀ (n:Nat) (l:List Nat),l.length < n->∃ j,j < n/\j∉l
 | 0,l,h=>by omega
 | n + 1,l,h=>by
  by_cases q:n∈l
  ·have I:0 < l.length:=List.length_pos_of_mem q;obtain ⟨j,h1,h2⟩:=Qad n (l.erase n) (by rw [List.length_erase_of_mem q]; omega);exact ⟨j,by omega,fun z=>h2 ((List.mem_erase_of_ne (by omega)).mpr z)⟩
  ·exact ⟨n,by omega,q⟩
theorem HG.free {t:aW} (g:HG L t hs) (h:Int):∃ N,N<=10 * (t.mask + 12)/\Qx t.mask h N∉t.place.toList/\∀ m,m < N->Qx t.mask h m∈t.place.toList:=by
 have sz:=g.sz;unfold SzM at sz;obtain ⟨j,h1,h2⟩:=Qad (t.mask + 1) t.place.toList (by rw [Array.length_toList,g.len]; omega);exact Q9h g.sz.hm h (·∈t.place.toList) (Nat.le_of_lt_succ h1) h2
theorem Qhf (L:Bool):HG L (.fresh 0 0 L) [] where
 good:=⟨List.Pairwise.nil,rfl,rfl⟩
 len:=rfl
 le:=fun j h=>by cases h
 rch:=fun i j h e=>by simp [SetTable.fresh] at e
 sz:=.inl ⟨rfl,by simp⟩
theorem HG.put {t:aW} (g:HG L t hs) (Y:Qx t.mask h N∉t.place.toList) (hl:∀ m,m < N->Qx t.mask h m∈t.place.toList) :
  HG0 L (t.put (Qx t.mask h N)).1 (hs.take (SetTable.below t.place (Qx t.mask h N)) ++ h :: hs.drop (SetTable.below t.place (Qx t.mask h N))):=by
 generalize Z:Qx t.mask h N=j at Y;have b:=(Ki (j:=j) g.good.1).1;have gl:=g.len;generalize hp:SetTable.below t.place j=p at b;have ep:(t.put j).1.place.toList=t.place.toList.take p ++ j :: t.place.toList.drop p:=by
  show (SetTable.insertAt t.place (SetTable.below t.place j) j).toList=_;rw [SetTable.toList_insertAt,hp]
 have em:(t.put j).1.mask=t.mask:=rfl;have sub:∀ x,x∈t.place.toList->x∈(t.put j).1.place.toList:=fun x U=>by
  rw [ep];rw [<- List.take_append_drop p t.place.toList] at U;rcases E1.mp U with q | q
  ·exact E1.mpr (.inl q)
  ·exact E1.mpr (.inr (O4 _ q))
 have tl:(t.place.toList.take p).length=p:=by rw [L7,Array.length_toList]; omega
 have O:(hs.take p).length=p:=by rw [L7]; omega
 refine ⟨g.good.put Y,?_,fun x U=>?_,fun i x h' I J=>?_⟩
 ·have:(t.put j).1.place.toList.length=hs.length + 1:=by
   rw [ep,O5,O9,tl,List.length_drop,Array.length_toList]; omega
  rw [<- Array.length_toList,this,O5,O9,O,List.length_drop]; omega
 ·rw [em];rw [ep] at U;rcases E1.mp U with q | q
  ·exact g.le x (List.mem_of_mem_take q)
  ·rcases D7.mp q with q | q
   ·rw [q,<- Z]; exact Qjy _ _ _
   ·exact g.le x (List.mem_of_mem_drop q)
 ·rw [<- Array.getElem?_toList,ep] at I;rw [em]
  by_cases q:i < p
  ·rw [O7 (by omega),List.getElem?_take,bT q,Array.getElem?_toList] at I;rw [O7 (by omega),List.getElem?_take,bT q] at J;exact (g.rch i x h' I J).mono sub
  ·rw [D9 (by omega),tl] at I;rw [D9 (by omega),O] at J
   by_cases z:i=p
   ·subst z;rw [Nat.sub_self] at I J;have I:j=x:=by simpa using I
    have J:h=h':=by simpa using J
    subst I; subst J;exact ⟨N,Z,fun m hm=>sub _ (hl m hm)⟩
   ·obtain ⟨k,rfl⟩:∃ k,i=p + 1 + k:=⟨i - p - 1,by omega⟩;rw [show p + 1 + k - p=k + 1 by omega,List.getElem?_cons_succ,List.getElem?_drop,Array.getElem?_toList] at I;rw [show p + 1 + k - p=k + 1 by omega,List.getElem?_cons_succ,List.getElem?_drop] at J;exact (g.rch (p + k) x h' I J).mono sub
theorem Qme {owner:Array (Option Nat)} (h:Int):∀ O m n,pth M h n=Qh8 M (lpP M h m)->(∀ J,J < n->∃ k,owner[Qx M h J]?=some (some k))->owner.size=M + 1 ->
  (∃ J,m<=J/\J < m + O/\owner[(lpP M h J).1]?=some none) ->
  ∃ n',SetTable.layClean.free M owner O (lpP M h m).1 (lpP M h m).2=some (Qx M h n')/\owner[Qx M h n']?=some none/\∀ J,J < n'->∃ k,owner[Qx M h J]?=some (some k):=by
 intro O
 induction O with
 | zero=>rintro m n _ _ _ ⟨J,h1,h2,_⟩; omega
 | succ O ih=>
  intro m n en Z hsz a1;rw [SetTable.layClean.free];have a3:=Q51 M h m;have hr:=Kq a3;have U:∀ k,k<=SetTable.runEnd M (lpP M h m).1 - (lpP M h m).1->Qx M h (n + k)=(lpP M h m).1 + k:=fun k hk=>by unfold Qx; rw [Q4j en k hk]
  cases z:List.find? (fun k=>(owner.getD ((lpP M h m).1 + k) (some 0)).isNone) (List.range (SetTable.runEnd M (lpP M h m).1 + 1 - (lpP M h m).1)) with
  | some k=>
   dsimp only;have z1:=List.find?_some z;obtain ⟨z0,as,bs,e1,z2⟩:=List.find?_eq_some_iff_append.mp z;have hk:k < SetTable.runEnd M (lpP M h m).1 + 1 - (lpP M h m).1:=List.mem_range.mp (List.mem_of_find?_eq_some z);have ok:∀ I,I < k->∃ q,owner[(lpP M h m).1 + I]?=some (some q):=fun I a4=>by
    have hm:I∈as:=by
     have:(List.range (SetTable.runEnd M (lpP M h m).1 + 1 - (lpP M h m).1))[I]?=some I:=by rw [List.getElem?_range (by omega)]
     have a5:as.length=k:=by
      have q1:(as ++ k :: bs)[as.length]?=some k:=by rw [D9 (O6 _),Nat.sub_self]; rfl
      rw [<- e1,List.getElem?_range (by
       have:=congrArg List.length e1;rw [F7,O5,O9] at this;omega)] at q1
      cases q1; rfl
     rw [e1,O7 (by omega)] at this;exact E3 this
    have:=z2 I hm;have Y:(lpP M h m).1 + I < owner.size:=by omega
    simp [Array.getD,Y] at this;rw [Array.getElem?_eq_getElem Y];cases q:owner[(lpP M h m).1 + I] with
    | none=>rw [q] at this; simp at this
    | some v=>exact ⟨v,rfl⟩
   have Y:(lpP M h m).1 + k < owner.size:=by omega
   refine ⟨n + k,by rw [U k (by omega)],?_,fun J a2=>?_⟩
   ·rw [U k (by omega),Array.getElem?_eq_getElem Y];simp [Array.getD,Y] at z1;rw [z1]
   ·by_cases q:J < n
    ·exact Z J q
    ·obtain ⟨I,rfl⟩:∃ I,J=n + I:=⟨J - n,by omega⟩;rw [U I (by omega)];exact ok I (by omega)
  | none=>
   dsimp only;have z1:=List.find?_eq_none.mp z;have ok:∀ I,I<=SetTable.runEnd M (lpP M h m).1 - (lpP M h m).1->∃ q,owner[(lpP M h m).1 + I]?=some (some q):=fun I a4=>by
    have:=z1 I (List.mem_range.mpr (by omega));have Y:(lpP M h m).1 + I < owner.size:=by omega
    simp [Array.getD,Y] at this;rw [Array.getElem?_eq_getElem Y];cases q:owner[(lpP M h m).1 + I] with
    | none=>rw [q] at this; simp at this
    | some v=>exact ⟨v,rfl⟩
   have nx:pth M h (n + (SetTable.runEnd M (lpP M h m).1 - (lpP M h m).1) + 1)=Qh8 M (lpP M h (m + 1)):=by
    show jd M (pth M h (n + _))=_;rw [Q4j en _ (O6 _)];unfold jd;dsimp only;rw [bU (by omega)];rfl
   refine ih (m + 1) _ nx (fun J a2=>?_) hsz ?_
   ·by_cases q:J < n
    ·exact Z J q
    ·obtain ⟨I,rfl⟩:∃ I,J=n + I:=⟨J - n,by omega⟩;rw [U I (by omega)];exact ok I (by omega)
   ·obtain ⟨J,h1,h2,h3⟩:=a1;have ne:J≠m:=fun e=>by
     subst e;obtain ⟨q,hq⟩:=ok 0 (by omega);rw [Nat.add_zero,h3] at hq;cases hq
    exact ⟨J,by omega,by omega,h3⟩
structure OwnT (M:Nat) (hs:List Int) (owner:Array (Option Nat)) (k:Nat):Prop where
 sz:owner.size=M + 1
 cnt:owner.toList.countP Option.isNone + k=M + 1
 inj:∀ (i j:Nat) (x:Nat),owner[i]?=some (some x)->owner[j]?=some (some x)->i=j
 lt:∀ (i:Nat) (x:Nat),owner[i]?=some (some x)->x < k
 all:∀ x:Nat,x < k->∃ i:Nat,owner[i]?=some (some x)
 rch:∀ (i:Nat) (x:Nat) (h:Int),owner[i]?=some (some x)->hs[x]?=some h->Rch M (fun (j:Nat)=>∃ y,owner[j]?=some (some y)) h i
theorem Qfu (hM:HM M) {owner:Array (Option Nat)} {k:Nat} (o:OwnT M hs owner k) (hk:hs[k]?=some h) (a4:k < M + 1) :
  ∃ j,SetTable.layClean.free M owner (SetTable.turns M) (SetTable.bits h % (M + 1)) (SetTable.bits h)=some j/\OwnT M hs (owner.setIfInBounds j (some k)) (k + 1):=by
 have pos:0 < owner.toList.countP Option.isNone:=by have:=o.cnt; omega
 obtain ⟨v,hv,e⟩:=List.countP_pos_iff.mp pos;obtain ⟨j0,a1,U⟩:=L3 hv;have J:owner[j0]?=some none:=by
  rw [<- Array.getElem?_toList,O2 a1,U];cases v with
  | none=>rfl
  | some _=>cases e
 have a3:j0<=M:=by have:=(Array.getElem?_eq_some_iff.mp J).1; rw [o.sz] at this; omega
 obtain ⟨m',Z,a2⟩:=Q76 hM h a3;obtain ⟨Y,e1,O,e3⟩:=Qme (M:=M) (owner:=owner) h (SetTable.turns M) 0 0 rfl (fun m' Z=>by omega) o.sz ⟨m',G8 _,by unfold SetTable.turns; omega,by rw [a2]; exact J⟩;refine ⟨Qx M h Y,e1,?_⟩;generalize hj:Qx M h Y=j at O;have hb:=(Array.getElem?_eq_some_iff.mp O).1;have g:∀ i:Nat,(owner.setIfInBounds j (some k))[i]?=if j=i then some (some k) else owner[i]?:=fun i=>by
  rw [Array.getElem?_setIfInBounds]
  by_cases q:j=i
  ·rw [bT q,bT q,bT hb]
  ·rw [bU q,bU q]
 have up:∀ x:Nat,(∃ y,owner[x]?=some (some y))->∃ y,(owner.setIfInBounds j (some k))[x]?=some (some y):=fun x ⟨y,hy⟩=>by
  rw [g]
  by_cases q:j=x
  ·exact ⟨k,by rw [bT q]⟩
  ·exact ⟨y,by rw [bU q]; exact hy⟩
 refine ⟨by rw [Array.size_setIfInBounds]; exact o.sz,?_,fun a b x h1 h2=>?_,fun i x h1=>?_,fun x hx=>?_,fun i x h' h1 h2=>?_⟩
 ·rw [Array.toList_setIfInBounds];have I:j < owner.toList.length:=by simpa using hb
  have c:=List.countP_set (p:=Option.isNone) (l:=owner.toList) (i:=j) (a:=some k) I;have ej:owner.toList[j]=none:=by
   have:=O;rw [<- Array.getElem?_toList,O2 I] at this;exact Option.some.inj this
  rw [c];simp only [ej];show List.countP Option.isNone owner.toList - 1 + 0 + (k + 1)=M + 1;have:=o.cnt;omega
 ·rw [g] at h1 h2
  by_cases q:j=a <;> by_cases z:j=b
  ·omega
  ·rw [bT q] at h1;rw [bU z] at h2;cases h1;have:=o.lt _ _ h2;omega
  ·rw [bU q] at h1;rw [bT z] at h2;cases h2;have:=o.lt _ _ h1;omega
  ·rw [bU q] at h1;rw [bU z] at h2;exact o.inj a b x h1 h2
 ·rw [g] at h1
  by_cases q:j=i
  ·rw [bT q] at h1; cases h1; omega
  ·rw [bU q] at h1;have:=o.lt _ _ h1;omega
 ·by_cases q:x=k
  ·subst q; exact ⟨j,by rw [g,bT rfl]⟩
  ·obtain ⟨i,hi⟩:=o.all x (by omega);refine ⟨i,?_⟩;rw [g,bU]
   ·exact hi
   ·intro z; subst z; rw [O] at hi; cases hi
 ·rw [g] at h1
  by_cases q:j=i
  ·rw [bT q] at h1; cases h1;rw [hk] at h2; cases h2;refine ⟨Y,by rw [hj,q],fun m hm=>up _ (e3 m hm)⟩
  ·rw [bU q] at h1;exact (o.rch i x h' h1 h2).mono up
theorem Qkc (hM:HM M) (hs:List Int) (O:hs.length<=M):∃ owner,SetTable.layClean M hs.toArray=some owner/\OwnT M hs owner hs.length:=by
 have z:∀ (rest done:List Int) (owner:Array (Option Nat)),done ++ rest=hs->OwnT M hs owner done.length ->
   ∃ q,List.foldl (fun (acc:Option (Array (Option Nat) × Nat)) h=>do
    let __x <- acc
    match __x with
     | (owner,k)=>do
      let j <- SetTable.layClean.free M owner (SetTable.turns M) (SetTable.bits h % (M + 1)) (SetTable.bits h)
      pure (owner.setIfInBounds j (some k),k + 1)) (some (owner,done.length)) rest=some (q,hs.length)/\OwnT M hs q hs.length:=by
  intro rest
  induction rest with
  | nil=>intro done owner e o; rw [L0] at e; subst e; exact ⟨owner,rfl,o⟩
  | cons h rest ih=>
   intro done owner e o;have J:hs[done.length]?=some h:=by rw [<- e,D9 (O6 _),Nat.sub_self]; rfl
   have hl:done.length < hs.length:=(O0.mp J).1;obtain ⟨j,U,o1⟩:=Qfu hM o J (by omega);obtain ⟨q,I,Y⟩:=ih (done ++ [h]) (owner.setIfInBounds j (some done.length)) (by rw [<- e]; simp) (by rw [O5]; exact o1);refine ⟨q,?_,Y⟩;rw [F8];rw [O5] at I;rw [<- I];congr 1;show Option.bind (some (owner,done.length)) _=_;show Option.bind (SetTable.layClean.free M owner (SetTable.turns M) (SetTable.bits h % (M + 1)) (SetTable.bits h)) _=_;rw [U];rfl
 obtain ⟨q,e,o⟩:=z hs [] (Array.replicate (M + 1) none) rfl ⟨by simp,by simp [List.countP_replicate],fun i j x h1=>by simp [Array.getElem?_replicate] at h1,fun i x h1=>by simp [Array.getElem?_replicate] at h1,fun x Z=>by simp at Z,fun i x h h1=>by simp [Array.getElem?_replicate] at h1⟩;refine ⟨q,?_,o⟩;unfold SetTable.layClean;rw [<- Array.foldl_toList];show Option.map _ (List.foldl _ (some (_,([]:List Int).length)) hs)=_;rw [e];rfl
theorem Q92 {l m:List Nat} (h1:l.Nodup) (h2:m.Nodup) (h:∀ a,a∈l <-> a∈m):l.Perm m:=(List.perm_ext_iff_of_nodup h1 h2).mpr h
theorem Qca {t:aW} {wanted:Nat} (g:Good L t) (hM:HM M) (hz:SetTable.sizeAbove wanted - 1=M) (a1:hs.length<=M) :
  ∃ t' ,∃ I:List Nat,t.relaid hs.toArray wanted=some (t',I.toArray)/\I.Perm (List.range hs.length)/\t'.mask=M/\HG0 L t' (I.map (fun x=>hs.getD x 0)):=by
 obtain ⟨owner,e,o⟩:=Qkc hM hs a1;have Z:∀ (l:List Nat) (j x:Nat),(j,x)∈(l.filterMap fun j=>(owner.getD j none).map (j,·)) <-> j∈l/\owner[j]?=some (some x):=by
  intro l j x;rw [List.mem_filterMap];have gd:owner.getD j none=(owner[j]?).getD none:=by simp [Array.getD_eq_getD_getElem?]
  constructor
  ·rintro ⟨y,hy,ey⟩;cases q:owner.getD y none with
   | none=>rw [q] at ey; cases ey
   | some v=>
    rw [q] at ey;cases ey;rw [gd] at q;refine ⟨hy,?_⟩;cases z:owner[j]? with
    | none=>rw [z] at q; cases q
    | some u=>rw [z] at q; exact congrArg some q
  ·rintro ⟨h1,h2⟩;exact ⟨j,h1,by rw [gd,h2]; rfl⟩
 have hx:t.relaid hs.toArray wanted=some ({ mask:=M,place:=(((List.range (M + 1)).filterMap fun j=>(owner.getD j none).map (j,·)).map (·.1)).toArray,dummies:=#[],finger:=t.finger,led:=t.led,moves:=t.movedTo M,plain:=t.plain },(((List.range (M + 1)).filterMap fun j=>(owner.getD j none).map (j,·)).map (·.2)).toArray):=by
  unfold SetTable.relaid SetTable.laid;rw [hz,e];rfl
 refine ⟨_,_,hx,?_,rfl,g.relaid hx,?_,?_,?_⟩
 all_goals generalize hl:((List.range (M + 1)).filterMap fun j=>(owner.getD j none).map (j,·))=O
 all_goals
  have J:∀ j x,(j,x)∈O <-> owner[j]?=some (some x):=fun j x=>by
   rw [<- hl,Z];refine ⟨fun q=>q.2,fun q=>⟨?_,q⟩⟩
   have:=(Array.getElem?_eq_some_iff.mp q).1;rw [o.sz] at this;exact List.mem_range.mpr this
  have pw:O.Pairwise fun a b=>a.1 < b.1:=by
   have:=(g.relaid hx).1;unfold Rise at this;dsimp only at this;rw [hl] at this;exact List.pairwise_map.mp this
  have U:(O.map (·.2)).Perm (List.range hs.length):=by
   refine Q92 ?_ List.nodup_range fun a=>?_
   ·refine List.pairwise_map.mpr (List.Pairwise.imp_of_mem (fun {a b} ha hb hab=>?_) pw);intro z;have h1:=(J a.1 a.2).mp ha;have h2:=(J b.1 b.2).mp hb;rw [z] at h1;have:=o.inj _ _ _ h1 h2;omega
   ·rw [D6,List.mem_range];constructor
    ·rintro ⟨⟨j,x⟩,hm,rfl⟩;exact o.lt _ _ ((J j x).mp hm)
    ·intro ha;obtain ⟨j,Y⟩:=o.all a ha;exact ⟨(j,a),(J j a).mpr Y,rfl⟩
 ·exact U
 ·simp only [O1,O8]
 ·intro j Y;have Y:j∈O.map (·.1):=by simpa using Y
  obtain ⟨⟨a,x⟩,hm,rfl⟩:=D6.mp Y;have:=(Array.getElem?_eq_some_iff.mp ((J a x).mp hm)).1;rw [o.sz] at this;exact Nat.le_of_lt_succ this
 ·intro i j h h1 h2;have h1:(O.map (·.1))[i]?=some j:=by simpa using h1
  rw [E2] at h1;rw [E2,E2] at h2;cases q:O[i]? with
  | none=>rw [q] at h1; cases h1
  | some a=>
   rw [q] at h1 h2;cases h1;cases h2;have hm:=(J a.1 a.2).mp (E3 q);have hk:=o.lt _ _ hm;have he:hs[a.2]?=some (hs.getD a.2 0):=by rw [F4,O2 hk]; rfl
   refine (o.rch _ _ _ hm he).mono ?_;rintro y ⟨z,hz⟩;show y∈(O.map (·.1)).toArray.toList;exact D6.mpr ⟨(y,z),(J y z).mpr hz,rfl⟩
theorem Qf5 (l:List α):(List.range l.length).filterMap (fun x=>l[x]?)=l:=by
 induction l with
 | nil=>rfl
 | cons a l q=>
  rw [O9,List.range_succ_eq_map,List.filterMap_cons];simp only [List.getElem?_cons_zero,List.filterMap_map];congr 1
theorem Q8p {es:List (Int × aA)} {q:List Nat} (p:q.Perm (List.range es.length)) :
  (q.filterMap (fun x=>es[x]?)).Perm es/\(q.filterMap (fun x=>es[x]?)).map (·.1)=q.map (fun x=>(es.map (·.1)).getD x 0):=by
 constructor
 ·have:=p.filterMap (fun x=>es[x]?)
  rwa [Qf5] at this
 ·have hm:∀ x∈q,x < es.length:=fun x z=>List.mem_range.mp (p.mem_iff.mp z)
  clear p
  induction q with
  | nil=>rfl
  | cons x l I=>
   have z:=hm x (by simp);rw [List.filterMap_cons,O2 z];simp only [D0];rw [I fun y J=>hm y (O4 _ J)]
   congr 1;rw [F4,E2,O2 z];rfl
theorem Qmd (h:SzP M n):(decide (n * 5>=M * 3)=true->∃ q,SetTable.sizeAbove (SetTable.grown n) - 1=q/\¬ SetTable.sizeAbove (SetTable.grown n) > sizeLine/\HM q/\SzM q n/\n<=q)/\(decide (n * 5>=M * 3)=false->SzM M n):=by
 unfold SzP at h;constructor
 ·intro z;have z:n * 5>=M * 3:=by simpa using z
  have:(M=7/\n=5)\/(M=31/\n=19):=by omega
  rcases this with ⟨rfl,rfl⟩ | ⟨rfl,rfl⟩
  ·exact ⟨31,by decide +kernel,by decide +kernel,.inr (.inl rfl),.inr (.inl ⟨rfl,by decide⟩),by decide⟩
  ·exact ⟨127,by decide +kernel,by decide +kernel,.inr (.inr rfl),.inr (.inr ⟨rfl,by decide⟩),by decide⟩
 ·intro z;have z:¬ n * 5>=M * 3:=by simpa using z
  unfold SzM;omega
end L2
namespace L2
open PySem PySem.Spec PyProof.Rows SeqAt
variable {b a:aB} {k:HK} {Q:Bool->aC->Prop} {L:Bool} {o:Obj} {es:Array (Int × aA)} {ep:Nat} {ks:List HK} {h:Heap}
variable {prog:aK} {A:aM} {E:aA->aC->Prop} {s:aC}
section
variable {w:aJ}
theorem Q9e:∀ (m:Nat) (d:Nat) {A:aM} {s:aC} {k:HK} {v:aA} {Q:Bool->aC->Prop},Dp d k->KIs s.heap k v->(∀ b,Q b s)->aF (aI prog w) A (hashByValue m v) Q E s:=by
 intro m
 induction m with
 | zero=>
  intro d A s k v Q J r q;cases k with
  | int i=>obtain ⟨t,rfl⟩:=r; unfold hashByValue; exact wpAny_pure (q _)
  | str i=>obtain ⟨t,rfl⟩:=r; unfold hashByValue; exact wpAny_pure (q _)
  | tup l=>obtain ⟨a,z,rfl,_⟩:=r; unfold hashByValue; exact wpAny_pure (q _)
 | succ m ih=>
  intro d A s k v Q J r q;cases k with
  | int i=>obtain ⟨t,rfl⟩:=r; unfold hashByValue; exact wpAny_pure (q _)
  | str i=>obtain ⟨t,rfl⟩:=r; unfold hashByValue; exact wpAny_pure (q _)
  | tup ks=>
   obtain ⟨a,z,rfl,⟨o,O,Z,n,hd⟩,hi⟩:=r;have Y:s.TypeIs (.ref a) "tuple" := ⟨o,O,Z⟩;cases d with
   | zero=>exact J.elim
   | succ d=>
    unfold hashByValue;refine aD (wpAny_specialOf Y F.slot_tuple_hash.lookup ?_);dsimp only;refine aD (bA O hd (aD ?_));show aF _ _ (forIn z _ _) _ _ s;rw [<- Array.forIn_toList];refine wpAny_forIn_list _ (fun rest r s'=>s'=s/\∃ l,KIsL s.heap l rest/\∀ k∈l,k∈ks) _ ?_ ?_ _ _ ⟨rfl,ks,hi,fun _ h=>h⟩
    ·rintro v rest r s' ⟨rfl,l,U,I⟩;cases l with
     | nil=>cases U
     | cons k l=>
      obtain ⟨v',r',e,h1,h2⟩:=U;cases e;refine aD (ih d (J k (I k (by simp))) h1 fun b=>?_)
      cases b with
      | false=>
       simp only [Bool.not_false,if_true];refine wpAny_pure ?_
       first | exact wpAny_pure (q _) | exact q _
      | true=>
       simp only [Bool.not_true,F2,if_false];exact wpAny_pure ⟨rfl,l,h2,fun x hx=>I x (O4 _ hx)⟩
    ·rintro ⟨r1,r2⟩ s' ⟨rfl,_⟩;cases r1 with
     | none=>exact wpAny_pure (q _)
     | some b=>exact wpAny_pure (q _)
theorem xz:∀ (d:Nat) {A:aM} {s:aC} {k:HK} {v:aA} {Q:Bool->aC->Prop} (m:Nat),d < m->Dp d k->KIs s.heap k v->Q false s->aF (aI prog w) A (ofAClassStatement m v) Q E s:=by
 intro d
 induction d with
 | zero=>
  intro A s k v Q m hm I r q;cases k with
  | tup l=>exact I.elim
  | int i=>obtain ⟨t,rfl⟩:=r; unfold ofAClassStatement; exact wpAny_pure q
  | str i=>obtain ⟨t,rfl⟩:=r; unfold ofAClassStatement; exact wpAny_pure q
 | succ d ih=>
  intro A s k v Q m hm I r q;cases k with
  | int i=>obtain ⟨t,rfl⟩:=r; unfold ofAClassStatement; exact wpAny_pure q
  | str i=>obtain ⟨t,rfl⟩:=r; unfold ofAClassStatement; exact wpAny_pure q
  | tup ks=>
   obtain ⟨a,J,rfl,⟨o,U,hc,n,hd⟩,hi⟩:=r;have Z:s.TypeIs (.ref a) "tuple" := ⟨o,U,hc⟩;obtain ⟨m,rfl⟩:∃ m',m=m' + 1:=⟨m - 1,by omega⟩;unfold ofAClassStatement;refine aD (bD Z ?_);dsimp only;rw [bT (by decide)];refine aD (wpAny_pure ?_);simp only [Bool.not_true,F2,if_false];refine aD (bA U hd ?_);dsimp only;refine aD ?_;rw [<- Array.forIn_toList];refine wpAny_forIn_list _ (fun rest r s'=>r.1=none/\s'=s/\∃ l,KIsL s.heap l rest/\∀ k∈l,k∈ks) _ ?_ ?_ _ _ ⟨rfl,rfl,ks,hi,fun _ h=>h⟩
   ·rintro v rest r s' ⟨O,rfl,l,Y,z⟩;cases l with
    | nil=>cases Y
    | cons k l=>
     obtain ⟨v',r',e,h1,h2⟩:=Y;cases e;refine aD (ih m (by omega) (I k (z k (by simp))) h1 ?_);simp only [F2,if_false];exact wpAny_pure ⟨rfl,rfl,l,h2,fun x hx=>z x (O4 _ hx)⟩
   ·rintro ⟨r1,r2⟩ s' ⟨O,rfl,_⟩;simp only at O;subst O;exact wpAny_pure q
theorem Qjb (I:(nk prog w).is s.heap k b) (l:List aA) (Y:∀ v∈l,∃ c J,v=.ref c/\(nk prog w).is s.heap J c) (q:Q false s):aF (aI prog w) A (searchCouldBeSeen (.ref b) l) Q E s:=by
 unfold searchCouldBeSeen;refine aD ?_;refine wpAny_forIn_list _ (fun rest r s'=>r.1=none/\s'=s/\∀ v∈rest,∃ c J,v=.ref c/\(nk prog w).is s.heap J c) _ ?_ ?_ _ _ ⟨rfl,rfl,Y⟩
 ·rintro v rest r s' ⟨O,rfl,z⟩;obtain ⟨c,J,rfl,U⟩:=z v (by simp);dsimp only;refine az (fun _=>wpAny_pure ⟨rfl,rfl,fun x I=>z x (O4 _ I)⟩) fun _=>?_
  refine aD ((nk prog w).quiet I ?_);simp only [Bool.not_true,F2,if_false];refine aD ((nk prog w).quiet U ?_);simp only [Bool.not_true,F2,if_false];refine aD (xz 5 8 (by decide) I.2 I.1 ?_);simp only [F2,if_false];refine aD (xz 5 8 (by decide) U.2 U.1 ?_);simp only [F2,if_false];exact wpAny_pure ⟨rfl,rfl,fun x I=>z x (O4 _ I)⟩
 ·rintro ⟨r1,Z⟩ s' ⟨O,rfl,_⟩;simp only at O;subst O;exact wpAny_pure q
def ElH (prog:aK) (w:aJ) (B:aB->Prop) (h:Heap) (e:Int × aA) (k:HK):Prop:=∃ b,e.2=.ref b/\(nk prog w).is h k b/\e.1=hkH prog w k/\B b
theorem Qce {t:aW} (g:Good L t) {hashAt:Nat->Int} {h:Int} {N:Nat} (J:Qx t.mask h N∉t.place.toList) (O:∀ m,m < N->Qx t.mask h m∈t.place.toList) {q n:Nat} (h1:n<=N) (h2:N - n < q) {I:Option SetTable.Met} (e:SetTable.probe.go t hashAt h q (pth t.mask h n)=I) :
  (I=some (.empty (Qx t.mask h N) none)/\∀ m,n<=m->m < N->∀ i,t.place[i]?=some (Qx t.mask h m)->hashAt i≠h) \/
  (∃ m i,n<=m/\m < N/\t.place[i]?=some (Qx t.mask h m)/\hashAt i=h/\I=some (.candidate (Qx t.mask h m) i (pth t.mask h (m + 1)))/\∀ z,n<=z->z < m->∀ i,t.place[i]?=some (Qx t.mask h z)->hashAt i≠h):=by
 subst e; exact Qfh g hashAt h J O q n h1 h2
theorem X3 {α β:Type} {F:α->β->Prop}:∀ {l:List α} {ks:List β} {i:Nat} {a:α},aR F l ks->l[i]?=some a->∃ b,ks[i]?=some b/\F a b
 | _,_,i,a,.nil,e=>by simp at e
 | _,_,0,a,.cons r t,e=>by simp at e; subst e; exact ⟨_,rfl,r⟩
 | _,_,i + 1,a,.cons r t,e=>by simpa using X3 t (by simpa using e)
theorem Vz {α β:Type} {F:α->β->Prop}:∀ {l:List α} {ks:List β} {i:Nat} {b:β},aR F l ks->ks[i]?=some b->∃ a,l[i]?=some a/\F a b
 | _,_,i,b,.nil,e=>by simp at e
 | _,_,0,b,.cons r t,e=>by simp at e; subst e; exact ⟨_,rfl,r⟩
 | _,_,i + 1,b,.cons r t,e=>by simpa using Vz t (by simpa using e)
theorem Qc5 {B:aB->Prop} {t:aW} {ks:List HK} (hu:A.units + 5 < aP) (hx:(nk prog w).is s.heap k b) (ho:s.heap.get? a=some o) (hd:o.data=.set es ep t) (hg:HG L t (es.toList.map (·.1)))
  (hp:aR (ElH prog w B s.heap) es.toList ks) (nd:ks.Nodup) {N:Nat} (hN:Qx t.mask (hkH prog w k) N∉t.place.toList) (hl:∀ m,m < N->Qx t.mask (hkH prog w k) m∈t.place.toList) (b6:N<=10 * (t.mask + 12)) {Q:SetFound->aC->Prop}
  (h1:k∉ks->Q (.free (Qx t.mask (hkH prog w k) N) false) s) (h2:k∈ks->Q (.there none) s) :
  ∀ (O n:Nat) (st:Option SetTable.Probe),st.getD (t.probeStart (hkH prog w k))=pth t.mask (hkH prog w k) n->n<=N->N - n < O->(∀ i:Nat,ks[i]?=some k->∃ m,n<=m/\m < N/\t.place[i]?=some (Qx t.mask (hkH prog w k) m))->aF (aI prog w) A (setSearchFrom a (.ref b) (hkH prog w k) true O st) Q E s:=by
 have Y:t.fits es.size=true:=by have:=hg.fits; rwa [O1,Array.length_toList] at this
 have b1:t.gaveWay=false:=by
  have:=hg.sz;unfold SzM at this;unfold SetTable.gaveWay;rcases this with ⟨e,_⟩ | ⟨e,_⟩ | ⟨e,_⟩ <;> rw [e] <;> rfl
 intro O
 induction O with
 | zero=>intro n st _ _ h; omega
 | succ O ih=>
  intro n st b2 hn hf hk;rw [setSearchFrom.eq_2];refine aD (wpAny_setState_of ho hd Y ?_);dsimp only;rw [bU (by rw [b1]; exact D4),b2];generalize a6:SetTable.probe t _ _ _=pr;unfold SetTable.probe at a6;rcases Qce hg.good hN hl hn (by unfold SetTable.turns; omega) a6 with ⟨e1,e2⟩ | ⟨m,i,c1,c2,c3,c4,e1,c6⟩
  ·subst e1;dsimp only;refine wpAny_pure (h1 fun hm=>?_);obtain ⟨i,hi,ei⟩:=L3 hm;have a8:ks[i]?=some k:=by rw [O2 hi,ei]
   obtain ⟨m,m1,m2,m3⟩:=hk i a8;obtain ⟨e,Z,c,_,_,hh,_⟩:=Vz hp a8;refine e2 m m1 m2 i m3 ?_;show ((es[i]?).map (·.1)).getD 0=_;rw [<- Array.getElem?_toList,Z];exact hh
  ·subst e1;dsimp only;have c4:((es[i]?).map (·.1)).getD 0=hkH prog w k:=c4;have a7:i < es.size:=by
    have:=(Array.getElem?_eq_some_iff.mp c3).1;rw [hg.len,O1,Array.length_toList] at this;exact this
   have b4:es.toList[i]?=some es[i]:=by rw [Array.getElem?_toList,Array.getElem?_eq_getElem a7]
   obtain ⟨k',a9,c,ec,hc,hh,_⟩:=X3 hp b4;have a5:es[i]?=some (es[i].1,.ref c):=by rw [Array.getElem?_eq_getElem a7,<- ec]
   have go:aF (aI prog w) A
     (match es[i]? with
      | some (a4,y)=>do
       let equal <- ar [y] (eqBool y (.ref b))
       let __x <- setState a
       match __x with
        | (b0,a4,t')=>
         if (true && equal)=true then pure (SetFound.there none)
         else
          match t'.sameMemory t.moves t.mask with
          | some same=>
           have J:=fun I=>
            match I with
            | none=>do
             rule "set.search.anew"
             setSearchFrom a (.ref b) (hkH prog w k) true O none
            | some i'=>
             if equal=true then pure (SetFound.there (some i'))
             else setSearchFrom a (.ref b) (hkH prog w k) true O (some (pth t.mask (hkH prog w k) (m + 1)));
           match if same=true then t'.slot (Qx t.mask (hkH prog w k) m) else SetTable.Slot.empty with
           | SetTable.Slot.live i'=>
            match b0[i']? with
            | some (a4,y')=>do
             let __do_lift <- isSame y' y
             let I <- pure (if __do_lift=true then some i' else none)
             J I
            | none=>do
             let I <- pure none
             J I
           | x=>do
            let I <- pure none
            J I
          | x=>unsupported "set.changed-during-lookup:is-the-new-block-at-the-old-address"
      | x=>unsupported "internal:set-entry") Q E s:=by
    rw [a5];dsimp only;refine aD (ae ((nk prog w).eqBool hu hc hx ?_));refine aD (wpAny_setState_of ho hd Y ?_);dsimp only
    by_cases q:k'=k
    ·rw [bW q,bT (by decide)];exact wpAny_pure (h2 (by rw [<- q]; exact E3 a9))
    ·rw [bV q,bU (by decide)];have sm:t.sameMemory t.moves t.mask=some true:=by unfold SetTable.sameMemory; rw [bT (by simp)]
     rw [sm];dsimp only;rw [bT rfl,Um hg.good.1 c3];dsimp only;rw [a5];dsimp only;refine aD (wpAny_isSame_ref_self ?_);refine aD (wpAny_pure ?_);rw [bT rfl];dsimp only;rw [bU D4];refine ih (m + 1) _ rfl (by omega) (by omega) fun i2 U=>?_
     obtain ⟨m2,a1,a2,a3⟩:=hk i2 U;obtain ⟨e,Z,c',_,_,b3,_⟩:=Vz hp U;have ne:m2≠m:=fun z=>by
      subst z;have:=Um hg.good.1 c3;rw [Um hg.good.1 a3] at this;cases this;rw [a9] at U;cases U;exact q rfl
     have nl:¬ m2 < m:=fun z=>by
      refine c6 m2 a1 z i2 a3 ?_;show ((es[i2]?).map (·.1)).getD 0=_;rw [<- Array.getElem?_toList,Z];exact b3
     exact ⟨m2,by omega,a2,a3⟩
   cases b5:t.led with
   | true=>simp only [Bool.not_true,F2,if_false]; exact go
   | false=>
    simp only [Bool.not_false,if_true];refine aD (Qjb hx _ (fun v hv=>?_) ?_)
    ·obtain ⟨e,Z,rfl⟩:=D6.mp hv;have Z:e∈es:=by
      have:e∈(Array.filter (fun x=>x.1 == hkH prog w k) es):=by simpa using Z
      exact (Array.mem_filter.mp this).1
     obtain ⟨k2,_,c2,q1,q2,_⟩:=Xw hp (Array.mem_toList_iff.mpr Z);exact ⟨c2,k2,q1,q2⟩
    ·simp only [F2,if_false];exact go
end
variable {B:aB->Prop}
section
variable {w:aJ}
def GH (prog:aK) (w:aJ) (B:aB->Prop) (L:Bool) (h:Heap) (a:aB) (ks:List HK):Prop:=
 ∃ o es ep t,h.get? a=some o/\o.ExactSet/\o.data=.set es ep t/\(∃ ks',ks'.Perm ks/\aR (ElH prog w B h) es.toList ks')/\ks.Nodup/\HG L t (es.toList.map (·.1))
theorem ElH.keep {h':Heap} (J:∀ a its,IsTup h a its->IsTup h' a its) {e:Int × aA} (x:ElH prog w B h e k):ElH prog w B h' e k:=let ⟨b,z,q,O,I⟩:=x; ⟨b,z,⟨KIs.keep J 5 q.2 q.1,q.2⟩,O,I⟩
theorem qx {α β:Type} {F G:α->β->Prop} (f:∀ a b,F a b->G a b):∀ {l:List α} {ks:List β},aR F l ks->aR G l ks
 | _,_,.nil=>.nil
 | _,_,.cons r t=>.cons (f _ _ r) (qx f t)
theorem GH.at {h':Heap} (g:GH prog w B L h a ks) (k:∀ o,h.get? a=some o->h'.get? a=some o) (z:∀ a its,IsTup h a its->IsTup h' a its):GH prog w B L h' a ks:=by
 obtain ⟨o,es,ep,t,h1,h2,I,⟨q,p,r⟩,h5,h6⟩:=g;exact ⟨o,es,ep,t,k o h1,h2,I,⟨q,p,qx (fun _ _=>ElH.keep z) r⟩,h5,h6⟩
theorem Q63 {t:aW} (z:h.get? a=some o) (hd:o.data=.set es ep t) (its:Array aA):¬ IsTup h a its:=fun ⟨o',h1,_,n,q⟩=>by
 rw [z] at h1; cases h1; rw [hd] at q; cases q
theorem Q5w {h':Heap} {t:aW} (z:h.get? a=some o) (hd:o.data=.set es ep t) (q:Heap.SameBut a h h') (b:aB) (its:Array aA) (x:IsTup h b its):IsTup h' b its:=by
 by_cases e:b=a
 ·subst e; exact absurd x (Q63 z hd its)
 ·obtain ⟨o',h1,h2⟩:=x;exact ⟨o',(q.2 b e).trans h1,h2⟩
theorem qk {α β:Type} {F:α->β->Prop} {a:α} {b:β} (r:F a b):∀ {l:List α} {ks:List β} (p:Nat),aR F l ks->aR F (l.take p ++ a :: l.drop p) (ks.take p ++ b :: ks.drop p)
 | _,_,0,h=>by simpa using Paired.cons r h
 | _,_,p + 1,.nil=>by simpa using Paired.cons r .nil
 | _,_,p + 1,.cons q t=>by simpa using Paired.cons q (qk r p t)
theorem Q7e {q:Array (Int × aA)} {t t':aW} {z:List HK} (I:h.get? a=some o) (U:o.ExactSet) (hd:o.data=.set es ep t) (O:aR (ElH prog w B h) q.toList z) :
  ∃ o',(h.update a (Obj.putSet q t')).get? a=some o'/\o'.ExactSet/\o'.data=.set q (ep + 1) t'/\Heap.SameBut a h (h.update a (Obj.putSet q t'))/\aR (ElH prog w B (h.update a (Obj.putSet q t'))) q.toList z:=by
 have e:=L5 (Obj.putSet q t') I (by rw [putSet_of q t' hd]; rfl);rw [putSet_of q t' hd] at e;have J:=Heap.SameBut.update h a (Obj.putSet q t');exact ⟨_,e,U,rfl,J,qx (fun _ _=>ElH.keep (Q5w I hd J)) O⟩
theorem HG0.unplain {t:aW} {hs:List Int} (g:HG0 L t hs):HG0 L { t with plain:=false } hs:=⟨g.good,g.len,g.le,g.rch⟩
theorem Q5b {L:Bool} {q:Array (Int × aA)} {t J:aW} {U:List HK} (ho:s.heap.get? a=some o) (hx:o.ExactSet) (hd:o.data=.set es ep t) (hr:aR (ElH prog w B s.heap) q.toList U) (hn:U.Nodup)
  (hg:HG0 L J (q.toList.map (·.1))) (hz:SzP J.mask q.size) {n:Nat} (en:n=q.size) {Q:Bool->aC->Prop} (h:∀ h',Heap.SameBut a s.heap h'->GH prog w B L h' a U->Q true { s with heap:=h' }) :
  aF (aI prog w) A (do
    storeSet a q J
    if (!false && J.tooFull)=true then do
        setRelay a (SetTable.grown n)
        pure true
     else pure true) Q E s:=by
 have hb:q.size<=sizeLine:=by rw [sizeLine_eq]; unfold SzP at hz; omega
 refine aD (wpAny_storeSet_of ho hd ?_ hb);obtain ⟨o1,e1,x1,d1,a2,r1⟩:=Q7e (t':=J) ho hx hd hr;have O:J.fill=q.size:=by
  unfold SetTable.fill;rw [hg.good.2.1,hg.len,O1,Array.length_toList];rfl
 have a4:J.tooFull=decide (q.size * 5>=J.mask * 3):=by unfold SetTable.tooFull; rw [O]
 obtain ⟨f1,f2⟩:=Qmd hz;have a1:J.fits q.size=true:=by
  unfold SetTable.fits;rw [O,hg.len,O1,Array.length_toList];unfold SzP at hz;simp;omega
 rw [a4];cases z:decide (q.size * 5>=J.mask * 3) with
 | false=>
  rw [bU (by simp)];refine wpAny_pure (h _ a2 ⟨o1,q,_,J,e1,x1,d1,⟨U,List.Perm.refl _,r1⟩,hn,⟨hg,?_⟩⟩);rw [O1,Array.length_toList];exact f2 z
 | true=>
  rw [bT (by simp)];obtain ⟨M',y1,y2,y3,y4,y5⟩:=f1 z;obtain ⟨t2,I,p1,p2,p3,p4⟩:=Qca (t:=J) (hs:=q.toList.map (·.1)) (wanted:=SetTable.grown n) hg.good y3 (by rw [en]; exact y1) (by rw [O1,Array.length_toList]; exact y5);rw [O1] at p2;obtain ⟨q1,q2⟩:=Q8p p2;refine aD ?_;unfold setRelay;refine aD (wpAny_setState_of e1 d1 a1 ?_);dsimp only;rw [bU (by rw [en]; exact y2)];have eh:(Array.map (fun x=>x.1) q)=(q.toList.map (·.1)).toArray:=by
   apply Array.ext';rw [Array.toList_map]
  rw [eh,p1];refine aD ?_;generalize Y:Array.filterMap (fun x=>q[x]?) I.toArray=Z;have e2:Z.toList=I.filterMap (fun x=>q.toList[x]?):=by
   rw [<- Y,Array.toList_filterMap];simp only [Array.getElem?_toList]
  rw [<- e2] at q1 q2;have hsz:Z.size=q.size:=by rw [<- Array.length_toList,q1.length_eq,Array.length_toList]
  show aF _ _ (if (Array.size (Array.filterMap (fun x=>q[x]?) I.toArray) != q.size)=true then _ else _) _ _ _;rw [Y,bU (by rw [hsz]; simp)];refine wpAny_pure ?_;dsimp only;refine wpAny_storeSet_of e1 d1 ?_ (by rw [hsz]; exact hb);obtain ⟨a5,r2,p5⟩:=Q6m q1 r1;obtain ⟨o2,e3,x3,d3,a3,r3⟩:=Q7e (t':=t2) e1 x1 d1 r2;refine wpAny_pure (h _ (a2.trans a3) ⟨o2,Z,_,t2,e3,x3,d3,⟨a5,p5,r3⟩,hn,⟨?_,?_⟩⟩)
  ·rw [q2]; exact p4
  ·rw [O1,Array.length_toList,hsz,p3]; exact y4
theorem Qrn {Q:Bool->aC->Prop} (hu:A.units + 5 < aP) (hx:(nk prog w).is s.heap k b) (hB:B b) (g:GH prog w B L s.heap a ks) (b1:ks.length + 1<=76)
  (h:∀ b h',Heap.SameBut a s.heap h'->GH prog w B L h' a (Zd ks k)->Q b { s with heap:=h' }):aF (aI prog w) A (setAddHashed a (.ref b) (hkH prog w k)) Q E s:=by
 obtain ⟨o,es,ep,t,Y,J,hd,⟨q,p0,r0⟩,hn,hg⟩:=g;have a7:q.Nodup:=(p0.nodup_iff).mpr hn;have b0:es.size=q.length:=by rw [<- Array.length_toList,Paired.length r0]
 have b2:q.length=ks.length:=p0.length_eq;have U:t.fits es.size=true:=by have:=hg.fits; rwa [O1,Array.length_toList] at this
 obtain ⟨N,n1,n2,n3⟩:=hg.free (hkH prog w k);unfold setAddHashed;refine ae ?_;rw [setAddHashedIn.eq_def];dsimp only;refine aD (wpAny_setState_of Y hd U ?_);dsimp only;rw [bU (by unfold byScan; simp [Value.scannable])];refine aD ?_;unfold setSearch;refine Qc5 hu hx Y hd hg r0 a7 n2 n3 n1 (fun km=>?_) (fun km=>?_) 100000 0 none rfl (G8 _) ?_ fun i hi=>?_
 ·dsimp only;refine aD (wpAny_setState_of Y hd U ?_);dsimp only;have a5:k∉ks:=fun z=>km (p0.mem_iff.mpr z)
  have ea:Zd ks k=ks ++ [k]:=by unfold Zd; rw [bU a5]
  have hr:=qk (F:=ElH prog w B s.heap) (a:=(hkH prog w k,Value.ref b)) (b:=k) ⟨b,rfl,hx,rfl,hB⟩ (SetTable.below t.place (Qx t.mask (hkH prog w k) N)) r0;rw [<- SetTable.toList_insertAt] at hr;have a4:(q.take (SetTable.below t.place (Qx t.mask (hkH prog w k) N)) ++ k :: q.drop (SetTable.below t.place (Qx t.mask (hkH prog w k) N))).Perm (Zd ks k):=by
   rw [ea];refine List.perm_middle.trans ?_;rw [List.take_append_drop];exact (p0.cons k).trans (List.perm_append_comm (l₁:=[k]))
  have a2:(Zd ks k).Nodup:=by
   rw [ea];exact L4.mpr ⟨hn,by simp,fun x a1 y hy e=>by
    have:y=k:=by simpa using hy
    rw [e,this] at a1; exact a5 a1⟩
  have Z:=a4.nodup_iff.mpr a2;have I:=hg.put n2 n3;have a9:(SetTable.insertAt es (SetTable.below t.place (Qx t.mask (hkH prog w k) N)) (hkH prog w k,Value.ref b)).toList.map (·.1)=(es.toList.map (·.1)).take (SetTable.below t.place (Qx t.mask (hkH prog w k) N)) ++ hkH prog w k :: (es.toList.map (·.1)).drop (SetTable.below t.place (Qx t.mask (hkH prog w k) N)):=by
   rw [SetTable.toList_insertAt,E5,D0,List.map_take,List.map_drop]
  rw [<- a9] at I;have O:(SetTable.insertAt es (SetTable.below t.place (Qx t.mask (hkH prog w k) N)) (hkH prog w k,Value.ref b)).size=es.size + 1:=by
   rw [<- Array.length_toList,SetTable.toList_insertAt,O5,O9,<- Nat.add_assoc,<- O5,List.take_append_drop,Array.length_toList]
  have hsz:SzP (t.put (Qx t.mask (hkH prog w k) N)).1.mask (SetTable.insertAt es (SetTable.below t.place (Qx t.mask (hkH prog w k) N)) (hkH prog w k,Value.ref b)).size:=by
   rw [O];show SzP t.mask (es.size + 1);have:=hg.sz;rw [O1,Array.length_toList] at this;unfold SzM at this;unfold SzP;omega
  have fin:∀ h',Heap.SameBut a s.heap h'->GH prog w B L h' a (q.take (SetTable.below t.place (Qx t.mask (hkH prog w k) N)) ++ k :: q.drop (SetTable.below t.place (Qx t.mask (hkH prog w k) N)))->Q true { s with heap:=h' }:=fun h' sb gh=>by
   refine h true h' sb ?_;obtain ⟨o,es,ep,t,y1,y2,y3,⟨y4,y5,y6⟩,y7,y8⟩:=gh;exact ⟨o,es,ep,t,y1,y2,y3,⟨y4,y5.trans a4,y6⟩,a2,y8⟩
  by_cases zp:t.plain=true
  ·rw [bT (show (t.put (Qx t.mask (hkH prog w k) N)).1.plain=true from zp)];refine aD (Q9e 8 5 hx.2 hx.1 fun bv=>?_);cases bv with
   | true=>
    simp only [if_true];exact Q5b (n:=es.size + 1) Y J hd hr Z I hsz O.symm fin
   | false=>
    simp only [F2,if_false];exact Q5b (n:=es.size + 1) Y J hd hr Z I.unplain hsz O.symm fin
  ·rw [bU (show ¬ (t.put (Qx t.mask (hkH prog w k) N)).1.plain=true from zp)];refine aD (wpAny_pure ?_);simp only [if_true];exact Q5b (n:=es.size + 1) Y J hd hr Z I hsz O.symm fin
 ·dsimp only;have e:s={ s with heap:=s.heap }:=by cases s; rfl
  rw [e];refine wpAny_pure (h _ s.heap (Heap.SameBut.refl a s.heap) ?_);unfold Zd;rw [bT (p0.mem_iff.mp km)];exact ⟨o,es,ep,t,Y,J,hd,⟨q,p0,r0⟩,hn,hg⟩
 ·have:=hg.sz; unfold SzM at this; omega
 ·obtain ⟨e,he,c,e1,e2,e3,_⟩:=Vz r0 hi;have a6:i < t.place.size:=by
   have:=(O0.mp he).1;rw [hg.len,O1]; exact this
  have a3:t.place[i]?=some t.place[i]:=Array.getElem?_eq_getElem a6;have hh:(es.toList.map (·.1))[i]?=some (hkH prog w k):=by rw [E2,he,<- e3]; rfl
  obtain ⟨m,m1,m2⟩:=hg.rch i _ _ a3 hh;refine ⟨m,G8 _,?_,by rw [m1]; exact a3⟩;have a8:t.place[i]∈t.place.toList:=by rw [Array.mem_toList_iff]; exact Array.getElem_mem a6
  by_cases c1:N < m
  ·exact absurd (m2 N c1) n2
  ·by_cases c2:N=m
   ·subst c2; rw [m1] at n2; exact absurd a8 n2
   ·omega
end
variable {R:Result->aC->Prop}
section
variable {w:aJ}
theorem Q57 {I z:aB} {i:Nat} (x:h.IsTupleIter I z i) {its:Array aA} (y:IsTup h I its):False:=by
 obtain ⟨o,h1,h2,O⟩:=x;obtain ⟨o',q,g2,n,J⟩:=y;rw [h1] at q; cases q;rw [h2] at g2; exact absurd g2 (by decide)
theorem Qc3 {I D:aB} {fp:List aB} {n:Nat} {P:Nat->aA->Prop} {St:Nat->Heap->Prop} {h0:Heap} (hu:A.in1.units + 5 < aP) (W:Walks prog w A.in1 I fp [I] n P St) (hD:D∉fp) (hI:∀ i h,St i h->∀ its,¬ IsTup h I its) (hn:n=ks.length)
  (hv:∀ i v,P i v->∃ k b,ks[i]?=some k/\v=.ref b/\(nk prog w).is h0 k b/\B b) (Z:ks.length<=76) :
  ∀ (k i:Nat) (s:aC),n - i=k->i<=n->St i s.heap->(∀ a its,IsTup h0 a its->IsTup s.heap a its)->GH prog w B (byT w) s.heap D (Ym (ks.take i)) ->
   (∀ h' Y,GH prog w B (byT w) h' D (Ym ks)->(∀ b o,b∉[D,I]->s.heap.get? b=some o->h'.get? b=some o)->R (.ok (.ret .none)) { s with heap:=h',toks:=Y }) ->
   codeAny (aI prog w) A (.builtin "set.update.loop" ⟨[.ref D,.ref I],[]⟩) R s:=by
 have a2:D≠I:=fun z=>hD (W.sub D (by simp [z]))
 intro k
 induction k with
 | zero=>
  intro i s hk hi J O g hR;have e:i=n:=by omega
  subst e;refine bG PyProof.Rows.F.entry_set_update_loop ?_;rw [Around.under_plainId PyProof.Rows.F.plain_set_update_loop _];show aF _ A.in1 (ak (.ref I) >>= _) _ _ s;refine aD (W.done s _ _ J fun h' Y hm=>?_);show aF _ A.in1 (ret Value.none) _ _ _;rw [hn,List.take_length] at g;refine wpAny_pure (hR h' Y (g.at (fun o q=>hm D o (by simpa using a2) q) fun a its x=>?_) fun b o a6 q=>hm b o (fun z=>a6 (O4 _ z)) q)
  have:a≠I:=fun z=>by subst z; exact hI _ _ J its x
  obtain ⟨o',x1,x2⟩:=x;exact ⟨o',hm a o' (by simpa using this) x1,x2⟩
 | succ k ih=>
  intro i s hk hi J O g hR;have a1:i < n:=by omega
  refine bG PyProof.Rows.F.entry_set_update_loop ?_;rw [Around.under_plainId PyProof.Rows.F.plain_set_update_loop _];show aF _ A.in1 (ak (.ref I) >>= _) _ _ s;refine aD (W.item i s _ _ a1 J fun v h1 Y hP a4 hm=>?_);have U:∀ a its,IsTup s.heap a its->IsTup h1 a its:=fun a its x=>by
   have:a≠I:=fun z=>by subst z; exact hI _ _ J its x
   obtain ⟨o',x1,x2⟩:=x;exact ⟨o',hm a o' (by simpa using this) x1,x2⟩
  obtain ⟨x,b,hx,rfl,h2,a7⟩:=hv i v hP;have h2:(nk prog w).is h1 x b:=⟨KIs.keep (fun a its y=>U a its (O a its y)) 5 h2.2 h2.1,h2.2⟩;have g1:GH prog w B (byT w) h1 D (Ym (ks.take i)):=g.at (fun o q=>hm D o (by simpa using a2) q) U
  show aF _ A.in1 (ar [.ref b] (setAdd D (.ref b)) >>= _) _ _ _;refine aD (ae ?_);unfold setAdd;refine ae (aD ((nk prog w).pyHash (s:={ s with heap:=h1,toks:=Y }) (k:=x) hu h2 ?_));have a3:(Ym (ks.take i)).length + 1<=76:=by
   have:=Q1s (ks.take i);have:(ks.take i).length<=i:=by rw [L7]; omega
   omega
  refine Qrn (s:={ s with heap:=h1,toks:=Y + (nk prog w).draws x }) hu h2 a7 g1 a3 fun bb h' sb g2=>?_
  have e1:ks.take (i + 1)=ks.take i ++ [x]:=by rw [List.take_succ,hx]; rfl
  rw [<- Qcx,<- e1] at g2;obtain ⟨oD,b0,a9,tD,dD,_,a5,_⟩:=g1;refine wpAny_pure ⟨bF PyProof.Rows.F.plain_set_update_loop _,ih (i + 1) _ (by omega) a1 (W.frame _ h1 h' a4 fun b Z o q=>?_) (fun a its y=>Q5w dD a5 sb a its (U a its (O a its y))) g2 fun h' a8 g' k'=>hR h' a8 g' fun b o Z q=>k' b o Z ?_⟩
  ·exact (sb.2 b fun z=>hD (by rw [<- z]; exact Z)).trans q
  ·refine (sb.2 b fun z=>Z (by simp [z])).trans (hm b o (fun z=>Z (O4 _ z)) q)
set_option maxHeartbeats 3200000 in
theorem qj {E:aA->aC->Prop} {l:aB} {z:Array aA} {Q:aA->aC->Prop} (hu:A.units + 9 < aP) (hh:A.handled=none) (hl:s.heap.IsTuple l z) (hn:z.size=ks.length)
  (hv:∀ (i:Nat) (v:aA),z[i]?=some v->∃ k b,ks[i]?=some k/\v=.ref b/\(nk prog w).is s.heap k b/\B b) (hb:ks.length<=76)
  (h:∀ h' I,GH prog w B (byT w) h' s.heap.objs.size (Ym ks)->(∀ b o,s.heap.get? b=some o->h'.get? b=some o)->Q (.ref s.heap.objs.size) { s with heap:=h',toks:=I }) :
  aF (aI prog w) A (call (.type "set") [.ref l]) Q E s:=by
 obtain ⟨cc,tl,b4⟩:=F.called_set.mro;have m1:=F.called_set.made;have m2:=F.called_set.sub;refine wpAny_call (codeAny_of_tree ?_);show aF _ _ (callAny (.type "set") _) _ _ _;refine wpAny_pure ⟨Code.quiet_builtin _ (by decide +kernel),bG F.entry_type_call ?_⟩;rw [Around.under_plain (weight_type_call_type "set" [.ref l] []) rfl];have m3:=F.called_set.notType;have m4:=F.called_set.canCreate;have m5:=F.typeCall_set_1 (.ref l)
 repeat (any_goals (first | assumption | wp_step))
 refine bR (Qj8 (.ref l) (E:=E) (Z:=fun ob s1=>ob=.ref s.heap.objs.size/\s1={ s with heap:=s.heap.push (Z8 w) }) ⟨rfl,rfl⟩) fun rr s1 q=>?_
 cases rr with
 | error e=>exact q
 | ok fl=>
  cases fl with
  | ret ob=>
   obtain ⟨rfl,rfl⟩:=q;have o1:(s.heap.push (Z8 w)).get? s.heap.objs.size=some (Z8 w):=D8 _ rfl;have hT:Shared.TypeIs { s with heap:=s.heap.push (Z8 w) } (.ref s.heap.objs.size) "set" := ⟨_,o1,rfl⟩;have n1:=F.called_set.init.lookup;have n2:=F.called_set.init.bind (.ref s.heap.objs.size)
   repeat (any_goals (first | assumption | wp_step))
   refine bR (codeAny_call_builtin (R:=wants (fun r s2=>r=.none/\∃ h' I,s2={ s with heap:=h',toks:=I }/\GH prog w B (byT w) h' s.heap.objs.size (Ym ks)/\∀ b o,s.heap.get? b=some o->h'.get? b=some o) E) F.called_set.init.plain F.entry_set_init (check_set_init_1 hT ?_)) fun r2 s2 q2=>?_
   ·obtain ⟨ol,a6,a4,nl,a5⟩:=hl;obtain ⟨b3,Y,a7,J⟩:=ol;simp only at a4 a5;subst a4; subst a5;have O:(s.heap.push (Z8 w)).get? l=some { cls:=.type "tuple",dict:=Y,data:=.seq z nl,slots:=J }:=O3 _ a6;have a1:=Q10;have a2:=Q09;have a3:(Value.type "tuple" == Value.type "dict")=false:=by decide
    have U:(s.heap.push (Z8 w)).IsTuple l z:=⟨_,O,rfl,nl,rfl⟩;unfold Z8 at o1 hT O U ⊢;unfold Builtin.«set.__init__» noKeywords Builtin.Frozenset.updateFrom;generalize a8:pyIter=PI
    wp_walk
    subst a8;refine bM U ?_;refine aD (wpAny_runValue ?_);have b0:l < s.heap.objs.size:=D5 a6;have b1:l≠(s.heap.push (Z8 w)).objs.size:=by rw [G9]; exact E8 (Nat.lt_succ_of_lt b0)
    have b2:s.heap.objs.size≠(s.heap.push (Z8 w)).objs.size:=by rw [G9]; exact E8 (Nat.lt_succ_self _)
    have W:=Walks.tuple (prog:=prog) (w:=w) (A:=A.in1.in1.in1) (by simpa using hh) (s.heap.push (Z8 w)).objs.size l b1 z;have I:∀ a its,IsTup s.heap a its->IsTup ((s.heap.push (Z8 w)).push { cls:=.type "tuple_iterator",data:=.fields #[.ref l,aV 0] }) a its:=fun a its ⟨o',x1,x2⟩=>⟨o',O3 _ (O3 _ x1),x2⟩
    unfold Z8 at I;refine Qc3 (by show A.units + 1 + 1 + 1 + 5 < aP; omega) W (by simp only [D7,List.not_mem_nil,or_false,not_or]; exact ⟨b2,Nat.ne_of_gt b0⟩) (fun i h ⟨x,_⟩ its y=>Q57 x y) hn (fun i v hP=>hv i v hP) hb z.size 0 _ (by omega) (G8 _) ⟨⟨_,D8 _ rfl,rfl,rfl⟩,U.push _⟩ I ?g0 fun h' I g' k'=>?gR
    case g0=>
     exact ⟨_,#[],0,_,O3 _ o1,⟨rfl,rfl,rfl⟩,rfl,⟨[],by simp [Ym],.nil⟩,by simp [Ym],Qhf _⟩
    case gR=>
     show aF _ _ _ _ _ _;refine wpAny_pure ?_;show aF _ _ (ret Value.none) _ _ _;refine wpAny_pure ⟨rfl,h',I,rfl,g',fun b o e=>?_⟩;have c0:=D5 e;refine k' b o ?_ (O3 _ (O3 _ e));simp only [D7,List.not_mem_nil,or_false,not_or];exact ⟨E8 c0,E8 (by rw [G9]; exact Nat.lt_succ_of_lt c0)⟩
   ·cases r2 with
    | error e=>exact q2
    | ok a9=>
     cases a9 with
     | ret r=>
      obtain ⟨rfl,h',I,rfl,g',k'⟩:=q2
      repeat (any_goals (first | assumption | wp_step))
      exact h h' I g' k'
     | _=>exact q2.elim
  | _=>exact q.elim
end
end L2
namespace L2
open PySem PySem.Spec PyProof.Rows PySem.W
variable {h:Heap}
variable {prog:aK} {A:aM} {E:aA->aC->Prop} {s:aC}
section
variable {w:aJ}
def dQ:Int × Str:=(0,Str.empty)
inductive PrsAre (h:Heap):List aA->List (Int × Str)->Prop
 | nil:PrsAre h [] []
 | cons {a:aB} {o:Obj} {x:Int} {y:Str} {t u:Tok} {n:Nat} {vs:List aA} {nss:List (Int × Str)} (ho:h.get? a=some o) (hc:o.cls=.type "tuple") (hd:o.data=.seq #[.int x t,.str y u] n) (r:PrsAre h vs nss):PrsAre h (.ref a :: vs) ((x,y) :: nss)
theorem PrsAre.keep {h':Heap} (k:∀ b o,h.get? b=some o->h'.get? b=some o):∀ {vs:List aA} {nss:List (Int × Str)},PrsAre h vs nss->PrsAre h' vs nss
 | _,_,.nil=>.nil
 | _,_,.cons z q hd r=>.cons (k _ _ z) q hd (r.keep k)
theorem PrsAre.keepT {h':Heap} (k:∀ b o,o.cls=.type "tuple" -> h.get? b=some o->h'.get? b=some o):∀ {vs:List aA} {nss:List (Int × Str)},PrsAre h vs nss->PrsAre h' vs nss
 | _,_,.nil=>.nil
 | _,_,.cons z q hd r=>.cons (k _ _ q z) q hd (r.keepT k)
theorem PrsAre.length :∀ {vs:List aA} {nss:List (Int × Str)},PrsAre h vs nss->vs.length=nss.length
 | _,_,.nil=>rfl
 | _,_,.cons _ _ _ r=>by rw [O9,O9,r.length]
theorem PrsAre.at {h:Heap}:∀ {vs:List aA} {nss:List (Int × Str)},PrsAre h vs nss->∀ i,i < vs.length->∃ a o t u n,vs.getD i Value.none=.ref a/\h.get? a=some o/\o.data=.seq #[.int (nss.getD i dQ).1 t,.str (nss.getD i dQ).2 u] n
 | _,_,.nil,i,hi=>by simp at hi
 | _,_,.cons q z hd r,0,_=>⟨_,_,_,_,_,rfl,q,hd⟩
 | _,_,.cons q z hd r,i + 1,I=>by
  obtain ⟨a,o,t,u,n,h1,h2,J⟩:=r.at i (by simpa using I);exact ⟨a,o,t,u,n,by simpa using h1,h2,by simpa using J⟩
theorem PrsAre.firsts {M:Model} :∀ {vs:List aA} {nss:List (Int × Str)},PrsAre h vs nss->∃ fs,KatTups h vs fs/\fs.length=vs.length/\∀ v∈fs,Looks M h (typeOf v) (.type "int")
 | _,_,.nil=>⟨[],.nil,rfl,fun v q=>by cases q⟩
 | _,_,.cons (x:=J) (t:=t) z I hd r=>by
  obtain ⟨fs,h1,h2,O⟩:=r.firsts (M:=M);refine ⟨.int J t :: fs,.cons z I hd rfl h1,by simp [h2],fun v q=>?_⟩;rcases D7.mp q with rfl | q
  ·exact Looks.of_pure rfl
  ·exact O v q
def Xc (a b:Str):Bool:=decide (a.cps.toList < b.cps.toList)
def Vb (a b:Int × Str):Bool:=if a.1=b.1 then (if a.2=b.2 then false else Xc a.2 b.2) else decide (a.1 < b.1)
theorem Qgm (b:Bool) {Q:Bool->aC->Prop} {p q:Int × Str} {t t' u I:Tok} (h:Q (Vb p q) s):KatLex prog w A b false Q ([.int p.1 t,.str p.2 u].zip [.int q.1 t',.str q.2 I]) 0 s:=by
 rw [List.zip_cons_cons];refine kat_cons (wpAny_eqBool_int ?_);unfold Vb at h
 by_cases z:p.1=q.1
 ·rw [bT z] at h;rw [z,beq_self_eq_true];refine kat_yes ?_;rw [List.zip_cons_cons];refine kat_cons (wpAny_eqBool_str ?_)
  by_cases y:p.2=q.2
  ·rw [bT y] at h;rw [bW y];refine kat_yes ?_;exact h
  ·rw [bU y] at h;rw [bV y];refine kat_no ?_;cases J:b && (0 + 1 == 0) with
   | true=>cases b <;> simp at J
   | false=>exact kat_one _ _ (lt_str h)
 ·rw [bU z] at h;rw [beq_eq_false_iff_ne.mpr z];refine kat_no ?_;cases b && 0 == 0 with
  | true=>exact oneLt_int h
  | false=>exact kat_one _ _ (lt_int h)
theorem Qm2 (a:List Nat):¬ a < a:=List.lt_irrefl a
def Vt (nss:List (Int × Str)) (i:Nat):Nat:=(nss.filter fun ms=>Vb ms (nss.getD i dQ)).length
theorem Qiv {a b:Str} (h:a.cps.toList=b.cps.toList):a=b:=by cases a; cases b; rw [Str.mk.injEq]; exact Array.toList_inj.mp h
theorem Q20 (a:Int × Str):Vb a a=false:=by unfold Vb; rw [bT rfl,bT rfl]
theorem Q5x {a b c:Str} (h1:Xc a b=true) (h2:Xc b c=true):Xc a c=true:=by
 unfold Xc at *;exact bW (List.lt_trans (of_decide_eq_true h1) (of_decide_eq_true h2))
theorem Qe1 {a b:Str} (h:Xc a b=true):a≠b:=fun e=>by subst e; exact Qm2 _ (of_decide_eq_true h)
theorem Q43 {a b:List Nat} (h:¬ b < a):a<=b:=h
theorem Qby {a b:Str} (h:¬ a=b):Xc a b=true\/Xc b a=true:=by
 unfold Xc;have:¬ a.cps.toList=b.cps.toList:=fun e=>h (Qiv e)
 by_cases z:a.cps.toList < b.cps.toList
 ·exact .inl (bW z)
 ·by_cases q:b.cps.toList < a.cps.toList
  ·exact .inr (bW q)
  ·exact absurd (List.le_antisymm (Q43 q) (Q43 z)) this
theorem lexQ_is {a b:Int × Str}:Vb a b=true <-> a.1 < b.1\/a.1=b.1/\Xc a.2 b.2=true:=by
 unfold Vb
 by_cases z:a.1=b.1
 ·rw [bT z]
  by_cases y:a.2=b.2
  ·rw [bT y];constructor
   ·intro h; cases h
   ·rintro (h | ⟨_,h⟩)
    ·omega
    ·exact absurd y (Qe1 h)
  ·rw [bU y];exact ⟨fun h=>.inr ⟨z,h⟩,fun h=>h.elim (fun h=>by omega) (·.2)⟩
 ·rw [bU z];simp [z]
theorem j3 {a b c:Int × Str} (h1:Vb a b=true) (h2:Vb b c=true):Vb a c=true:=by
 rw [lexQ_is] at *;rcases h1 with h1 | ⟨h1,q⟩ <;> rcases h2 with h2 | ⟨h2,g2⟩
 ·left; omega
 ·left; omega
 ·left; omega
 ·exact .inr ⟨by omega,Q5x q g2⟩
theorem Q1z {a b:Int × Str} (h1:Vb a b=false) (h2:Vb b a=false):a=b:=by
 have n1:¬ (a.1 < b.1\/a.1=b.1/\Xc a.2 b.2=true):=fun z=>by rw [lexQ_is.mpr z] at h1; cases h1
 have I:¬ (b.1 < a.1\/b.1=a.1/\Xc b.2 a.2=true):=fun z=>by rw [lexQ_is.mpr z] at h2; cases h2
 have e:a.1=b.1:=by
  by_cases q:a.1 < b.1
  ·exact absurd (.inl q) n1
  ·by_cases J:b.1 < a.1
   ·exact absurd (.inl J) I
   ·omega
 by_cases y:a.2=b.2
 ·exact Prod.ext e y
 ·rcases Qby y with z | z
  ·exact absurd (.inr ⟨e,z⟩) n1
  ·exact absurd (.inr ⟨e.symm,z⟩) I
theorem Q6i {nss:List (Int × Str)} {i j:Nat} (hi:i < nss.length) (I:j < nss.length):cR (Vt nss) i j=Vb (nss.getD i dQ) (nss.getD j dQ):=by
 have mem:∀ k,k < nss.length->nss.getD k dQ∈nss:=fun k O=>by
  rw [F4,O2 O]; exact M9 O
 unfold cR;have q:∀ {i j:Nat},i < nss.length->j < nss.length->Vb (nss.getD i dQ) (nss.getD j dQ)=true->Vt nss i < Vt nss j:=fun {i j} hi I h=>
  qm (fun x _ U=>j3 U h) ⟨nss.getD i dQ,mem i hi,Q20 _,h⟩
 cases z:Vb (nss.getD i dQ) (nss.getD j dQ) with
 | true=>exact bW (q hi I z)
 | false=>
  refine bV ?_;cases J:Vb (nss.getD j dQ) (nss.getD i dQ) with
  | true=>have:=q I hi J; omega
  | false=>
   have e:=Q1z z J;unfold Vt;rw [e];exact L8 _
theorem Qeb {a:aB} {vs:List aA} {nss:List (Int × Str)} {n:Nat} {P:PySem.Fin->aC->Prop} (ho:s.heap.get? a=some (seqObj "list" vs.toArray n)) (hT:PrsAre s.heap vs nss) (b0:vs.length < 64)
  (h:∀ (p:List Nat) (h':Heap) (k:Nat),p.Perm (List.range vs.length)->(∀ i,1<=i->i < vs.length->Vb (nss.getD (p.getD i 0) dQ) (nss.getD (p.getD (i - 1) 0) dQ)=false)->h'.get? a=some (seqObj "list" (List.toArray (p.map fun i=>vs.getD i Value.none)) k)->(∀ b o,b≠a->s.heap.get? b=some o->h'.get? b=some o)->P (.done (.ret .none)) { s with heap:=h' }) :
  aF (aI prog w) A (Builtin.«list.sort» ⟨[.ref a],[]⟩) P E s:=by
 have ha:a < s.heap.objs.size:=D5 ho;obtain ⟨e1,a6⟩:∃ e1,(s.heap.update a (Obj.mapSeq fun _=>(#[]:Array aA))).get? a=some (seqObj "list" #[] e1):=⟨_,get?_update_seq ho fun _=>#[]⟩
 have I:∀ b o,b≠a->s.heap.get? b=some o->(((s.heap.update a (Obj.mapSeq fun _=>(#[]:Array aA))).push (seqObj "tuple" vs.toArray 0)).push (seqObj "list" #[] 0)).get? b=some o:=fun b o hb e=>
  O3 _ (O3 _ (by rw [Heap.get?_update_ne _ _ _ _ hb]; exact e))
 have Y:(((s.heap.update a (Obj.mapSeq fun _=>(#[]:Array aA))).push (seqObj "tuple" vs.toArray 0)).push (seqObj "list" #[] 0)).get? a=some (seqObj "list" #[] e1):=O3 _ (O3 _ a6)
 rw [list_sort_plain];refine aD (listItems_at ho rfl ?_);refine aD (listUpdate_at ho rfl ?_ (by rw [O8,sizeLine_eq]; omega) (G8 _));refine aD (seqEpoch_at a6 rfl ?_);refine aD (wpAny_newTuple ?_ (by show vs.length<=_; rw [sizeLine_eq]; omega));refine aD (wpAny_newList ?_ (G8 _));refine ae ?_;show aF (aI prog w) A _ P E { s with heap:=((s.heap.update a (Obj.mapSeq fun _=>(#[]:Array aA))).push (seqObj "tuple" vs.toArray 0)).push (seqObj "list" #[] 0) }
 dsimp only;generalize hH:((s.heap.update a (Obj.mapSeq fun _=>(#[]:Array aA))).push (seqObj "tuple" vs.toArray 0)).push (seqObj "list" #[] 0)=U at *
 have fin:∀ (st:SortSt) (p:List Nat),p.Perm (List.range vs.length)->(arrOf st).map (·.2)=List.toArray (p.map fun i=>vs.getD i Value.none)->failedOf st=none->(∀ i,1<=i->i < vs.length->Vb (nss.getD (p.getD i 0) dQ) (nss.getD (p.getD (i - 1) 0) dQ)=false) ->
   aF (aI prog w) A (do
    let O:=(arrOf st).map (·.2)
    let J:=(<- seqEpoch a) != e1
    Builtin.List.listUpdate (.ref a) fun _=>O
    if let some e:=failedOf st then rule "list.sort.comparison-raised"; throw e
    if J then rule "list.sort.modified"; raiseError "ValueError" "list modified during sort"
    ret .none) P E { s with heap:=U }:=fun st p hp b3 hf hs=>by
  dsimp only;have hl:(List.toArray (p.map fun i=>vs.getD i Value.none)).size=vs.length:=by rw [O8,O1,hp.length_eq,F7]
  obtain ⟨c2,b4⟩:∃ c2,(U.update a (Obj.mapSeq fun _=>List.toArray (p.map fun i=>vs.getD i Value.none))).get? a=some (seqObj "list" (List.toArray (p.map fun i=>vs.getD i Value.none)) c2):=⟨_,get?_update_seq Y fun _=>List.toArray (p.map fun i=>vs.getD i Value.none)⟩
  rw [b3,hf];refine aD (seqEpoch_at Y rfl ?_);refine aD (listUpdate_at Y rfl ?_ (G8 _) (E6 (Nat.le_of_eq hl) (by rw [sizeLine_eq]; omega)));simp only [bne_self_eq_false,F2,if_false];exact wpAny_pure (h p _ c2 hp hs b4 fun b o hb e=>by rw [Heap.get?_update_ne _ _ _ _ hb]; exact I b o hb e)
 by_cases h2:vs.toArray.size < 2
 ·rw [bT h2,bT h2];refine aD (wpAny_pure ?_);rw [StateT.run_pure];refine aD (wpAny_pure ?_);refine fin (SortSt.mk' general' (vs.toArray.zip vs.toArray) #[] 7 none) (List.range vs.length) (List.Perm.refl _) ?_ rfl (fun i g1 g2=>?_)
  ·show (vs.toArray.zip vs.toArray).map (·.2)=_;apply Array.toList_inj.mp;apply List.ext_getElem?;intro i
   by_cases z:i < vs.length
   ·simp [z]
   ·simp [z]
  ·rw [O8] at h2; omega
 ·rw [bU h2,bU h2];rw [O8] at h2;have a5:PrsAre U vs nss:=hT.keepT fun b o hc e=>I b o (fun z=>by
   rw [z,ho] at e;have e:=Option.some.inj e;rw [<- e] at hc;exact absurd (show Value.type "list" = .type "tuple" from hc) (by decide)) e
  obtain ⟨fs,k1,k2,k3⟩:=a5.firsts (M:=aI prog w);refine aD (kat_kind (s:={ s with heap:=U }) (T:=.type "int") k1 (by omega) k3 (by decide) ?_);have a7:∀ i j (C:Bool->aC->Prop),i < vs.length->j < vs.length->C (cR (Vt nss) i j) { s with heap:=U }->kas_ask prog w A (tuples' (Value.type "int" != Value.type "tuple")) vs i j C { s with heap:=U }:=fun i j C hi hj q=>by
   obtain ⟨ai,oi,ti,ui,ni,e1,e2,e3⟩:=a5.at i hi;obtain ⟨aj,oj,tj,uj,nj,f1,f2,f3⟩:=a5.at j hj;rw [Q6i (by rw [<- hT.length]; exact hi) (by rw [<- hT.length]; exact hj)] at q;unfold kas_ask;rw [e1,f1];exact kat_lt e2 e3 f2 f3 (Qgm _ q)
  have Z:=Qj1 (r:=Vt nss) (n:=vs.length) (by omega);refine aD (aq (kat_run (vs:=vs) (ks:=vs) (Q:=fun st' s'=>s'={ s with heap:=U }/\arrOf st'=(evT (cR (Vt nss)) (kas_sort vs.length)).map (kas_item (vs.toArray.zip vs.toArray))/\failedOf st'=none)
   (G:=fun p s'=>s'={ s with heap:=U }/\p=evT (cR (Vt nss)) (kas_sort vs.length)) rfl (by omega) b0 (fun p' st' s' a1 a2 a3 a4=>⟨a4.1,by rw [<- a4.2]; exact a2,a3⟩) (Q79 a7 _ (fun _=>True) _ (Qdp (by omega)) ⟨rfl,rfl⟩)) ?_ fun _ _ e=>e)
  rintro ⟨⟨⟩,st'⟩ s' ⟨rfl,b2,hf⟩;have b1:(evT (cR (Vt nss)) (kas_sort vs.length)).toList.Perm (List.range vs.length):=by
   have:=Array.perm_iff_toList_perm.mp Z.2;simpa using this
  refine fin st' _ b1 (kat_snds rfl b2) hf fun i g1 g2=>?_
  have hr:=Z.1 i g1 g2;have a8:∀ k,(evT (cR (Vt nss)) (kas_sort vs.length)).toList.getD k 0 < vs.length:=fun k=>by
   have a9:AL vs.length (evT (cR (Vt nss)) (kas_sort vs.length)):=AL.perm (p:=List.toArray (List.range vs.length)) ⟨by omega,fun x hx=>by simpa using hx⟩ Z.2;have:=a9.get k;rw [Array.getD_eq_getD_getElem?,<- Array.getElem?_toList] at this;rw [F4]; exact this
  have hg:∀ k,(evT (cR (Vt nss)) (kas_sort vs.length)).getD k 0=(evT (cR (Vt nss)) (kas_sort vs.length)).toList.getD k 0:=fun k=>by
   rw [Array.getD_eq_getD_getElem?,<- Array.getElem?_toList,F4]
  unfold rk at hr;rw [hg,hg] at hr;have:=Q6i (nss:=nss) (i:=(evT (cR (Vt nss)) (kas_sort vs.length)).toList.getD i 0) (j:=(evT (cR (Vt nss)) (kas_sort vs.length)).toList.getD (i - 1) 0) (by rw [<- hT.length]; exact a8 _) (by rw [<- hT.length]; exact a8 _);rw [<- this];exact bV (Nat.not_lt.mpr hr)
end
def Q9c (a:Int × Str):List (Int × Str)->List (Int × Str)
 | []=>[a]
 | b :: r=>if Vb b a=true then b :: Q9c a r else a :: b :: r
def Xd:List (Int × Str)->List (Int × Str)
 | []=>[]
 | a :: r=>Q9c a (Xd r)
def leQ (a b:Int × Str):Prop:=Vb b a=false
theorem Q55 (a b:Int × Str):leQ a b <-> a=b\/Vb a b=true:=by
 unfold leQ;constructor
 ·intro h;cases z:Vb a b with
  | true=>exact .inr rfl
  | false=>exact .inl (Q1z z h)
 ·rintro (rfl | h)
  ·exact Q20 a
  ·cases z:Vb b a with
   | false=>rfl
   | true=>have:=j3 h z; rw [Q20] at this; cases this
theorem Q3m {a b c:Int × Str} (h1:leQ a b) (h2:leQ b c):leQ a c:=by
 rw [Q55] at *;rcases h1 with rfl | h1
 ·exact h2
 ·rcases h2 with rfl | h2
  ·exact .inr h1
  ·exact .inr (j3 h1 h2)
theorem Qgn {a b:Int × Str} (h1:leQ a b) (h2:leQ b a):a=b:=Q1z h2 h1
theorem xi (a:Int × Str):∀ l,(Q9c a l).Perm (a :: l)
 | []=>List.Perm.refl _
 | b :: r=>by
  rw [Q9c]
  split
  ·exact ((xi a r).cons b).trans (List.Perm.swap a b r)
  ·exact List.Perm.refl _
theorem W7:∀ l,(Xd l).Perm l
 | []=>List.Perm.refl _
 | a :: r=>(xi a (Xd r)).trans ((W7 r).cons a)
theorem xy {a:Int × Str}:∀ {l:List (Int × Str)},l.Pairwise leQ->(Q9c a l).Pairwise leQ
 | [],_=>by rw [Q9c]; exact List.pairwise_singleton _ _
 | b :: r,h=>by
  obtain ⟨h1,h2⟩:=List.pairwise_cons.mp h;rw [Q9c]
  split
  ·rename_i q;refine List.pairwise_cons.mpr ⟨fun x z=>?_,xy h2⟩;rcases D7.mp ((xi a r).mem_iff.mp z) with rfl | z
   ·exact (Q55 b x).mpr (.inr q)
   ·exact h1 x z
  ·rename_i q;have I:leQ a b:=by unfold leQ; simpa using q
   refine List.pairwise_cons.mpr ⟨fun x z=>?_,h⟩;rcases D7.mp z with rfl | z
   ·exact I
   ·exact Q3m I (h1 x z)
theorem Yi:∀ l,(Xd l).Pairwise leQ
 | []=>List.Pairwise.nil
 | a :: r=>xy (Yi r)
theorem Uy:∀ {a b:List (Int × Str)},a.Perm b->a.Pairwise leQ->b.Pairwise leQ->a=b
 | [],b,h,_,_=>(List.nil_perm.mp h).symm
 | x :: a,[],h,_,_=>absurd (List.perm_nil.mp h) (by simp)
 | x :: a,y :: b,h,Y,q=>by
  obtain ⟨O,a2⟩:=List.pairwise_cons.mp Y;obtain ⟨U,I⟩:=List.pairwise_cons.mp q;have e:x=y:=by
   rcases D7.mp (h.mem_iff.mp (E7 (a:=x) (l:=a))) with e | J
   ·exact e
   ·rcases D7.mp (h.mem_iff.mpr (E7 (a:=y) (l:=b))) with e | z
    ·exact e.symm
    ·exact Qgn (O y z) (U x J)
  subst e;rw [Uy (List.Perm.cons_inv h) a2 I]
theorem Q1g {l:List (Int × Str)} (h:∀ i,1<=i->i < l.length->Vb (l.getD i dQ) (l.getD (i - 1) dQ)=false):l.Pairwise leQ:=by
 rw [List.pairwise_iff_getElem];have g:∀ k (z:k < l.length),l.getD k dQ=l[k]:=fun k z=>by rw [F4,O2 z]; rfl
 have q:∀ d i (hi:i + d < l.length),leQ (l.getD i dQ) (l.getD (i + d) dQ):=by
  intro d
  induction d with
  | zero=>intro i hi; exact (Q55 _ _).mpr (.inl rfl)
  | succ d O=>
   intro i hi;have h1:=O i (by omega);have h2:=h (i + d + 1) (by omega) (by omega);rw [Nat.add_sub_cancel] at h2;exact Q3m h1 h2
 intro i j hi J I;have:=q (j - i) i (by omega);rw [show i + (j - i)=j by omega,g i hi,g j J] at this;exact this
theorem Q8g {nss:List (Int × Str)} {p:List Nat} (J:p.Perm (List.range nss.length)) (h:∀ i,1<=i->i < nss.length->Vb (nss.getD (p.getD i 0) dQ) (nss.getD (p.getD (i - 1) 0) dQ)=false):p.map (fun i=>nss.getD i dQ)=Xd nss:=by
 have Z:p.length=nss.length:=by rw [J.length_eq,F7]
 have O:(List.range nss.length).map (fun i=>nss.getD i dQ)=nss:=by
  apply List.ext_getElem?;intro i
  by_cases z:i < nss.length
  ·simp [z]
  ·simp [z]
 have Y:(p.map fun i=>nss.getD i dQ).Perm nss:=by
  have:=J.map (fun i=>nss.getD i dQ)
  rwa [O] at this
 have q:∀ k,k < p.length->(p.map fun i=>nss.getD i dQ).getD k dQ=nss.getD (p.getD k 0) dQ:=fun k I=>by
  rw [F4,E2,O2 I,F4 (l:=p),O2 I];rfl
 refine Uy (Y.trans (W7 nss).symm) (Q1g fun i U g2=>?_) (Yi nss);rw [O1] at g2;rw [q i g2,q (i - 1) (by omega)];exact h i U (by omega)
end L2
namespace L2
open PySem PySem.Spec PyProof.Rows SeqAt
variable {prog:aK} {A:aM} {R:Result->aC->Prop}
section
variable {w:aJ}
def Ja (xs ps:List (HK × aB × aA)):List (HK × aB × aA):=ps.foldl (fun acc p=>storedH acc p.1 p.2.1 p.2.2) xs
theorem Q5y (xs:List (HK × aB × aA)) (k:HK) (a:aB) (v:aA):(storedH xs k a v).length<=xs.length + 1:=by
 unfold storedH
 split <;> simp
theorem Q11 (xs:List (HK × aB × aA)):∀ ps,(Ja xs ps).length<=xs.length + ps.length:=by
 intro ps;unfold Ja
 induction ps generalizing xs with
 | nil=>simp
 | cons p ps q=>
  rw [F8,O9];have h1:=q (storedH xs p.1 p.2.1 p.2.2);have h2:=Q5y xs p.1 p.2.1 p.2.2;omega
theorem Q0a (xs ps:List (HK × aB × aA)) (p:HK × aB × aA):Ja xs (ps ++ [p])=storedH (Ja xs ps) p.1 p.2.1 p.2.2:=by unfold Ja; rw [List.foldl_append]; rfl
def Qbn (prog:aK) (w:aJ) (h:Heap) (v:aA) (p:HK × aB × aA):Prop:=∃ a,v=.ref a/\IsTup h a #[.ref p.2.1,p.2.2]/\(nk prog w).is h p.1 p.2.1
theorem Q0s {h h':Heap} {D:aB} {xs:List (HK × aB × aA)} (d:h.DictOfH (nk prog w) D xs) (k:∀ o,h.get? D=some o->h'.get? D=some o) (J:∀ a its,IsTup h a its->IsTup h' a its):h'.DictOfH (nk prog w) D xs:=by
 obtain ⟨o,es,ep,h1,h2,U,I,q,O⟩:=d;exact ⟨o,es,ep,k o h1,h2,U,I,fun x z=>⟨KIs.keep J 5 (q x z).2 (q x z).1,(q x z).2⟩,O⟩
theorem Qbv {I l D:aB} {q:Array aA} {xs ps:List (HK × aB × aA)} {h0:Heap} (hu:A.in1.units + 5 < aP) (hh:A.handled=none) (b8:l≠I) (a5:D≠I) (b5:D≠l) (hI:∀ b o,h0.get? b=some o->b≠I) (b6:∀ its,¬ IsTup h0 D its)
  (hn:q.size=ps.length) (hp:∀ (i:Nat) (v:aA) (p:HK × aB × aA),q[i]?=some v->ps[i]?=some p->Qbn prog w h0 v p) (hsz:xs.length + ps.length<=sizeLine) :
  ∀ (k i:Nat) (s:aC),q.size - i=k->i<=q.size->(s.heap.IsListIter I l i/\s.heap.IsList l q)->(∀ b o,b≠D->h0.get? b=some o->s.heap.get? b=some o)->s.heap.DictOfH (nk prog w) D (Ja xs (ps.take i)) ->
   (∀ h' tk,h'.DictOfH (nk prog w) D (Ja xs ps)->(∀ b o,b≠D->h0.get? b=some o->h'.get? b=some o)->R (.ok (.ret .none)) { s with heap:=h',toks:=tk }) ->
   codeAny (aI prog w) A (.builtin "dict.update.loop" ⟨[.ref D,.ref I,aV i,.none],[]⟩) R s:=by
 have W:=Walks.list (prog:=prog) (w:=w) (A:=A.in1) (by simpa using hh) I l b8 q;have nI:∀ {i:Nat} {h:Heap},h.IsListIter I l i->∀ its,¬ IsTup h I its:=by
  rintro i h ⟨o,h1,h2,_⟩ its ⟨o',g1,g2,_⟩;rw [h1] at g1; cases g1;rw [h2] at g2; exact absurd g2 (by decide)
 intro k
 induction k with
 | zero=>
  intro i s hk hi U J hD hR;have c1:i=q.size:=by omega
  subst c1;refine bG Xg ?_;rw [Around.under_plainId Y1 _];show aF _ A.in1 (ak (.ref I) >>= _) _ _ s;refine aD (W.done s _ _ U fun h' tk hm=>?_);show aF _ A.in1 (Builtin.Dict.addKeywords D [] >>= fun _=>ret Value.none) _ _ _;refine aD (wpAny_pure (wpAny_pure (hR h' tk ?_ fun b o hb e=>hm b o (fun z=>hI b o e (by simpa using z)) (J b o hb e))))
  rw [hn,List.take_length] at hD;refine Q0s hD (fun o e=>hm D o (fun z=>a5 (by simpa using z)) e) fun a its x=>?_
  have:a≠I:=fun z=>by subst z; exact nI U.1 its x
  obtain ⟨o',x1,x2⟩:=x;exact ⟨o',hm a o' (by simpa using this) x1,x2⟩
 | succ k ih=>
  intro i s hk hi U J hD hR;have a6:i < q.size:=by omega
  refine bG Xg ?_;rw [Around.under_plainId Y1 _];show aF _ A.in1 (ak (.ref I) >>= _) _ _ s;refine aD (W.item i s _ _ a6 U fun v h' tk hP a2 hm=>?_);have a9:i < ps.length:=by omega
  obtain ⟨a,rfl,ht,Z⟩:=hp i v ps[i] hP (O2 a9);have O:∀ b o,b≠D->h0.get? b=some o->h'.get? b=some o:=fun b o hb e=>hm b o (fun z=>hI b o e (by simpa using z)) (J b o hb e)
  have b0:∀ a its,IsTup h0 a its->IsTup h' a its:=fun a its x=>by
   have:a≠D:=fun z=>by subst z; exact b6 its x
   obtain ⟨o',x1,x2⟩:=x;exact ⟨o',O a o' this x1,x2⟩
  have b9:h'.DictOfH (nk prog w) D (Ja xs (ps.take i)):=Q0s hD (fun o e=>hm D o (fun z=>a5 (by simpa using z)) e) fun a its x=>by
   have:a≠I:=fun z=>by subst z; exact nI U.1 its x
   obtain ⟨o',x1,x2⟩:=x;exact ⟨o',hm a o' (by simpa using this) x1,x2⟩
  have a4:(nk prog w).is h' ps[i].1 ps[i].2.1:=⟨KIs.keep b0 5 Z.2 Z.1,Z.2⟩;show aF _ A.in1 (ar [Value.ref a] _ >>= _) _ _ _;refine aD (ae ?_);obtain ⟨ot,a3,b4,nt,b3⟩:=b0 a _ ht;have b1:Shared.TypeIs { s with heap:=h',toks:=tk } (.ref a) "tuple" := ⟨ot,a3,b4⟩;refine aD (wpAny_tryCatch ?_);unfold Builtin.Dict.pairItems;refine aD (bD b1 ?_);rw [bT (by decide)];refine aD (bA a3 b3 ?_);refine wpAny_pure ?_;show aF _ A.in1 (ar [.ref ps[i].2.1,(ps[i]).2.2] (dictSet D (.ref ps[i].2.1) (ps[i]).2.2)) _ _ _;have b7:(Ja xs (ps.take i)).length<=sizeLine:=by
   have:=Q11 xs (ps.take i);have h2:(ps.take i).length<=ps.length:=by rw [L7]; omega
   omega
  refine ae (wpAny_dictSet_heap (knd:=nk prog w) (s:={ s with heap:=h',toks:=tk }) (k:=(ps[i]).1) hu a4 b9 (fun a1 a7 Y=>?_) b7);have c0:∀ b o,b≠D->h0.get? b=some o->a1.get? b=some o:=fun b o hb e=>(Y.2 b hb).trans (O b o hb e)
  have a8:a1.IsListIter I l (i + 1)/\a1.IsList l q:=⟨a2.1.at fun o e=>(Y.2 I (Ne.symm a5)).trans e,a2.2.at fun o e=>(Y.2 l (Ne.symm b5)).trans e⟩;have e1:ps.take (i + 1)=ps.take i ++ [ps[i]]:=by rw [List.take_succ,O2 a9]; rfl
  have b2:a1.DictOfH (nk prog w) D (Ja xs (ps.take (i + 1))):=by rw [e1,Q0a]; exact a7
  exact wpAny_pure ⟨bF Y1 _,ih (i + 1) _ (by omega) a6 a8 c0 b2 fun h3 t3 d3 k3=>hR h3 t3 d3 k3⟩
end
variable {X:Cx}
def putAll (kvs:List (HK × V)) (ps:List (HK × aB × V)):List (HK × V):=ps.foldl (fun acc p=>X2 acc p.1 p.2.2) kvs
theorem KT.putAll {H:Hp}:∀ {ps:List (HK × aB × V)} {us:List (HK × aB × aA)} {z:List (HK × V)} {xs:List (HK × aB × aA)},KT H z xs->aR (fun (p:HK × aB × V) (q:HK × aB × aA)=>p.1=q.1/\p.2.1=q.2.1/\KR H p.1 p.2.1/\RelV p.2.2 q.2.2) ps us->KT H (L2.putAll z ps) (Ja xs us)
 | _,_,_,_,r,.nil=>r
 | p :: ps,q :: us,_,_,r,.cons ⟨J,I,U,O⟩ t=>by
  show KT H (L2.putAll (X2 _ p.1 p.2.2) ps) (Ja (storedH _ q.1 q.2.1 q.2.2) us);rw [<- J,<- I];exact KT.putAll (r.put p.1 U O) t
theorem Q8r (q:List (HK × V)):∀ ps,(putAll q ps).length<=q.length + ps.length:=by
 intro ps;unfold putAll
 induction ps generalizing q with
 | nil=>simp
 | cons p ps z=>
  rw [F8,O9];have h1:=z (X2 q p.1 p.2.2);have h2:=Kc q p.1 p.2.2;omega
section
variable {prog:aK} {w:aJ} {K:Type} [DecidableEq K] {knd:HeapKind prog w K} {A:aM} {E:aA->aC->Prop} {s:aC}
theorem Q67 {id:String} {a b:aB} {vs us:List (K × aB × aA)} {Q:Bool->aC->Prop} (ha:(a == af)=false) (hb:(b == af)=false) (hr:knd.room A) (da:s.heap.DictOfH knd a vs) (db:s.heap.DictOfH knd b us) (hl:vs.length=us.length)
  (he:∀ x∈vs,(∃ (j:Nat) (p:aB × aA),us[j]?=some (x.1,p))/\∀ (j:Nat) (p:aB × aA),us[j]?=some (x.1,p)->EqAt A s x.2.2 p.2 true) (h:Q true s):aF (aI prog w) A (Builtin.Dict.samePairs id a b) Q E s:=by
 obtain ⟨oa,O,pa,h1,_,h3,h5,h4,h6⟩:=da;obtain ⟨ob,eb,pb,g1,_,g3,g5,g4,g6⟩:=db;have la:O.size=vs.length:=size_of_entries h5;have lb:eb.size=us.length:=size_of_entries g5;unfold Builtin.Dict.samePairs Builtin.Dict.showsAll;rw [bU (by rw [ha]; exact D4),bU (by rw [hb]; exact D4)];refine aD (wpAny_pure (aD (wpAny_pure ?_)));refine aD (wpAny_dictEntries h1 h3 ?_);refine aD (wpAny_dictEntries g1 g3 ?_);have hsz:O.size=eb.size:=by omega
 rw [bU (by simp [hsz])];refine aD (wpAny_dictEpoch h1 h3 ?_);refine aD ?_;rw [Std.Legacy.Range.forIn_eq_forIn_range'];simp only [Std.Legacy.Range.size,Nat.sub_zero,Nat.add_sub_cancel,Nat.div_one];refine wpAny_forIn_list _ (fun rest r s'=>∃ i,rest=List.range' i (O.size - i)/\i<=O.size/\r=(none,())/\s=s') _ ?_ ?_ _ _ ⟨0,by simp,G8 _,rfl,rfl⟩
 ·rintro x rest _ s' ⟨i,I,hi,rfl,rfl⟩;have a2:i < O.size:=by
   rcases Nat.lt_or_ge i O.size with q | q
   ·exact q
   ·rw [Nat.sub_eq_zero_of_le q] at I; simp at I
  obtain ⟨rfl,Z⟩:x=i/\rest=List.range' (i + 1) (O.size - (i + 1)):=by
   rw [show O.size - i=(O.size - (i + 1)) + 1 by omega,List.range'_succ] at I;injection I with q1 q2
   exact ⟨q1,q2⟩
  refine aD (wpAny_dictEntries h1 h3 ?_);obtain ⟨kv,k1⟩:∃ kv,vs[x]?=some kv:=⟨_,O2 (by omega)⟩;have U:kv∈vs:=E3 k1;have Y:=entry_at h5 x;rw [k1] at Y;rw [Y];obtain ⟨⟨j,p,hj⟩,heq⟩:=he kv U;dsimp only [Option.map_some];refine aD (ae (aD ?_));show aF _ _ (dictFind b (.ref kv.2.1) (knd.hash kv.1)) _ _ _;refine wpAny_dictFind_heap hr (h4 kv U) g1 g3 g5 g4 g6 (fun z=>absurd hj (z j p)) fun j' p' a1=>?_
  have J:=entry_at g5 j';rw [a1] at J;refine aD (wpAny_dictEntries g1 g3 ?_);rw [J];dsimp only [Option.map_some];refine ae (heq j' p' a1 prog w _ _ ?_);rw [bU (by simp)];refine aD (wpAny_dictEpoch h1 h3 ?_);rw [bU (by simp)];exact wpAny_pure ⟨x + 1,Z,a2,rfl,rfl⟩
 ·rintro _ s' ⟨i,I,hi,rfl,rfl⟩;exact wpAny_pure h
theorem Qhv {a b:aB} {vs us:List (K × aB × aA)} {Q:aA->aC->Prop} (U:(a == af)=false) (hb:(b == af)=false) (Y:A.units < aP) (O:knd.room A.in1) (I:s.heap.DictOfH knd a vs) (q:s.heap.DictOfH knd b us) (Z:vs.length=us.length)
  (J:∀ x∈vs,(∃ (j:Nat) (p:aB × aA),us[j]?=some (x.1,p))/\∀ (j:Nat) (p:aB × aA),us[j]?=some (x.1,p)->EqAt A.in1 s x.2.2 p.2 true) (h:Q (.bool false) s):aF (aI prog w) A (aS .NotEq (.ref a) (.ref b)) Q E s:=by
 have ta:s.TypeIs (.ref a) "dict" := I.typeIs;have tb:s.TypeIs (.ref b) "dict" := q.typeIs;refine wpAny_richCompare_same_room (op:=.NotEq) ta tb PySem.F.slot_dict_ne (ag PySem.F.slot_dict_ne ta PySem.F.entry_dict_ne ?_ (PySem.F.args_dict_ne_2 _ _)) Y;show aF _ _ (Builtin.Dict.dictSlotArgs "__ne__" ⟨[.ref a,.ref b],[]⟩ >>= _) _ _ _;refine aD ?_;unfold Builtin.Dict.dictSlotArgs;refine aD (wpAny_notOrdered_dict ta ?_);show aF _ _ (pure (Value.ref a,Value.ref b)) _ _ _;refine wpAny_pure ?_;refine aD (bH (T := "dict") (b:=true) tb (by rw [bL]; kernel_rfl) ?_);refine az (fun z=>absurd z (by decide)) (fun _=>?_)
 show aF _ _ (Builtin.Dict.samePairs _ a b >>= _) _ _ _;refine aD (Q67 U hb O I q Z J ?_);exact wpAny_pure ⟨_,rfl,(fun z=>nomatch z),h⟩
end
end L2
namespace L2
open PySem PySem.Spec PyProof.Rows PySem.W
variable {h:Heap} {vs:List aA} {ns:List (Int × Str)}
theorem PrsAre.perm {l l':List aA} (p:l'.Perm l):∀ {ns:List (Int × Str)},PrsAre h l ns->∃ q,PrsAre h l' q/\q.Perm ns:=by
 induction p with
 | nil=>intro ns h; exact ⟨ns,h,List.Perm.refl _⟩
 | cons x _ ih=>
  intro ns h;cases h with
  | cons I Y hd U=>
   obtain ⟨ks,h1,h2⟩:=ih U;exact ⟨_,.cons I Y hd h1,h2.cons _⟩
 | swap x y l=>
  intro ns h;cases h with
  | cons I Y hd U=>
   cases U with
   | cons O z a1 a2=>exact ⟨_,.cons O z a1 (.cons I Y hd a2),List.Perm.swap _ _ _⟩
 | trans _ _ Z J=>
  intro ns h;obtain ⟨k1,h1,p1⟩:=J h;obtain ⟨k2,h2,p2⟩:=Z h1;exact ⟨k2,h2,p2.trans p1⟩
theorem PrsAre.one :∀ {vs:List aA} {ns:List (Int × Str)},PrsAre h vs ns->∀ i,i < vs.length->PrsAre h [vs.getD i Value.none] [ns.getD i dQ]
 | _,_,.nil,i,hi=>by simp at hi
 | _,_,.cons z q hd r,0,_=>.cons z q hd .nil
 | _,_,.cons z q hd r,i + 1,I=>by simpa using r.one i (by simpa using I)
theorem PrsAre.app :∀ {vs z:List aA} {ns q:List (Int × Str)},PrsAre h vs ns->PrsAre h z q->PrsAre h (vs ++ z) (ns ++ q)
 | _,_,_,_,.nil,g=>g
 | _,_,_,_,.cons J I hd r,g=>.cons J I hd (r.app g)
theorem PrsAre.pick (r:PrsAre h vs ns):∀ (p:List Nat),(∀ i∈p,i < vs.length)->PrsAre h (p.map fun i=>vs.getD i Value.none) (p.map fun i=>ns.getD i dQ)
 | [],_=>.nil
 | i :: p,q=>(r.one i (q i (by simp))).app (r.pick p fun j z=>q j (O4 _ z))
theorem qi {a b:List (Int × Str)} (h:a.Perm b):Xd a=Xd b:=Uy ((W7 a).trans (h.trans (W7 b).symm)) (Yi a) (Yi b)
variable {prog:aK} {A:aM} {E:aA->aC->Prop} {s:aC}
section
variable {w:aJ}
theorem Ky :(List.range vs.length).map (fun i=>vs.getD i Value.none)=vs:=by
 apply List.ext_getElem?;intro i
 by_cases z:i < vs.length
 ·simp [z]
 ·simp [z]
theorem Q61 {d:aB} {es:Array (Int × aA)} {ep:Nat} {t:aW} {Q:aA->aC->Prop} (hh:A.handled=none) (x:RawS s.heap d es ep t) (hf:t.fits es.size=true) (g:Good (byT w) t) (hI:PrsAre s.heap (es.toList.map (·.2)) ns) (a7:es.size < 64)
  (h:∀ (O:List aA) (h':Heap) (d':Drawn) (tk D k:Nat),PrsAre h' O (Xd ns)->O.Perm (es.toList.map (·.2))->s.heap.objs.size<=D->h'.get? D=some (seqObj "list" O.toArray k)->(∀ b o,s.heap.get? b=some o->h'.get? b=some o)->Q (.ref D) { s with heap:=h',drawn:=d',toks:=tk }) :
  aF (aI prog w) A (call (.builtin "sorted") [.ref d]) Q E s:=by
 have hsz:es.size<=sizeLine:=by rw [sizeLine_eq]; omega
 refine Calls.call_function_entry kind_sorted plain_sorted entry_sorted (args_sorted1 _) ?_;unfold Builtin.«sorted»;refine aD (m:=checkCount "sorted" 1 1 _) (wpAny_pure ?_);refine aD (Q7v (by simpa using hh) x hf g hsz fun vs h1 d1 U pm I a5=>?_)
 have hl:vs.length=es.size:=by rw [pm.length_eq]; simp
 obtain ⟨n1,Z,p1⟩:=PrsAre.perm pm hI;refine aD (wpAny_newList ?_ (by rw [sizeLine_eq]; omega));have J:(h1.push (seqObj "list" vs.toArray 0)).get? h1.objs.size=some (seqObj "list" vs.toArray 0):=D8 _ rfl;have keep:∀ b o,s.heap.get? b=some o->(h1.push (seqObj "list" vs.toArray 0)).get? b=some o:=fun b o q=>O3 _ (I b o q)
 show aF _ _ _ _ _ { s with heap:=h1.push (seqObj "list" vs.toArray 0),drawn:=d1,toks:=U };have i2:=Z.keep keep;refine aD (ae (ag slot_list_sort ⟨_,J,rfl⟩ entry_list_sort ?body (args_list_sort _)))
 case body=>
  refine Qeb (s:={ s with heap:=h1.push (seqObj "list" vs.toArray 0),drawn:=d1,toks:=U }) J i2 (by omega) fun p h' k a1 a2 a3 a4=>?_
  have a6:∀ i∈p,i < vs.length:=fun i hi=>by have:=a1.mem_iff.mp hi; simpa using this
  have e:=Q8g (nss:=n1) (p:=p) (by rw [<- Z.length]; exact a1) (fun i g1 g2=>a2 i g1 (by rw [Z.length]; exact g2))
  have Y:=i2.pick p a6;rw [e,qi p1] at Y;refine ⟨_,rfl,wpAny_pure ⟨_,rfl,h (p.map fun i=>vs.getD i Value.none) h' d1 U _ k ?_ ?_ a5 a3 fun b o q=>a4 b o (E8 (D5 (I b o q))) (keep b o q)⟩⟩
  ·exact Y.keepT fun b o hc q=>a4 b o (fun z=>by
    rw [z,J] at q;have q:=Option.some.inj q;rw [<- q] at hc;exact absurd (show Value.type "list" = .type "tuple" from hc) (by decide)) q
  ·have:=a1.map (fun i=>vs.getD i Value.none);rw [Ky] at this;exact this.trans pm
end
def Qvr (w:aJ) (h:Heap) (a:aB) (bs:List aB):Prop:=∃ o es ep t,h.get? a=some o/\o.ExactSet/\o.data=.set es ep t/\es.toList.map (·.2)=bs.map Value.ref/\t.fits es.size=true/\Good (byT w) t
def Q3q (w:aJ) (a:aB) (bs:List aB):HO:=.ext fun h=>Qvr w h a bs
variable {X:Cx}
theorem Qnp {H:Hp} {h':Heap} {P:aK} {w:aJ} (z:∀ k b,KR H k b->(nk P w).is h' k b):∀ {es:List (Int × aA)} {ks:List HK},aR (ElH P w (fun b=>∃ k,KR H k b) h') es ks->∃ bs:List aB,es.map (·.2)=bs.map Value.ref/\aR (fun b k=>KR H k b) bs ks
 | [],_,.nil=>⟨[],rfl,.nil⟩
 | e :: es,k :: ks,.cons ⟨b,J,I,_,k2,q⟩ t=>by
  obtain ⟨bs,h1,h2⟩:=Qnp z t;have:k=k2:=(nk P w).inj I (z k2 b q);exact ⟨b :: bs,by rw [D0,D0,J,h1],.cons (by rw [this]; exact q) h2⟩
theorem Qdf (hu:X.A.units + 9 < aP) (hc:X.calm=true):W6 X (.type "set") (fun xs H Q=>∃ p vs,∃ ks:List HK,xs=[.ref p]/\SqT X.K H p vs/\aR (fun v k=>∃ b,v=.ref b/\KR H k b) vs ks/\ks.length<=76/\∀ l bs J,H l=none->J.Perm (Ym ks)->aR (fun b k=>KR H k b) bs J->Q (.ref l) (upd H l (Q3q X.w l bs))):=by
 intro pins s σ H xs us Q I r h;obtain ⟨p,vs,ks,rfl,hq,hk,hl,q⟩:=h;obtain ⟨u,rfl,Y⟩:=Uk r;cases Y;obtain ⟨its,Z,pl,hz⟩:=I.tuple hq;have U:its.length=ks.length:=by rw [<- Z.length,Paired.length hk]
 refine qj (B:=fun b=>∃ k,KR H k b) (ks:=ks) hu (I.ok.hd hc) pl (by rw [O8,U]) (fun i v e=>?_) hl fun h' tk gh k=>?_
 ·have e:its[i]?=some v:=by simpa using e
  have hi:i < vs.length:=by have:=(O0.mp e).1; rw [Z.length]; exact this
  obtain ⟨x,ex,Y⟩:=Z.get (O2 hi);rw [e] at ex; cases ex;obtain ⟨k,ek,b,eb,O⟩:=X3 hk (O2 hi);rw [eb] at Y;cases Y;exact ⟨k,b,ek,rfl,Vc I.hok O,k,O⟩
 ·obtain ⟨o,es,ep,t,h1,h2,h3,⟨J,p1,r1⟩,h5,h6⟩:=gh;obtain ⟨bs,b1,b2⟩:=Qnp (fun k2 b O=>⟨KIs.keep (fun a its ⟨o',x1,x2⟩=>⟨o',k a o' x1,x2⟩) 5 (Vc I.hok O).2 (Vc (P:=X.prog) (w:=X.w) I.hok O).1,(Vc (P:=X.prog) (w:=X.w) I.hok O).2⟩) r1
  have sz:Qvr X.w h' s.heap.objs.size bs:=⟨o,es,ep,t,h1,h2,h3,b1,by have:=h6.fits; rwa [O1,Array.length_toList] at this,h6.good⟩;refine ⟨.ref s.heap.objs.size,upd H s.heap.objs.size (Q3q X.w s.heap.objs.size bs),I.laid (t':=tk) k (O6 _) ⟨sz,⟨o,h1⟩,fun h1 h2 z kk=>?_⟩,rfl,q _ bs J (I.hok.fresh (O6 _)) p1 b2⟩
  obtain ⟨o,es,ep,t,g1,g2⟩:=z;exact ⟨o,es,ep,t,kk _ g1,g2⟩
theorem Qfg {P:aK} {w:aJ} {H:Hp} {h:Heap} (ok:HOk P w H h):∀ {bs:List aB} {ns:List (Int × Str)},aR (fun b (n:Int × Str)=>H b=some (.tup [.int n.1,.str n.2])) bs ns->PrsAre h (bs.map Value.ref) ns
 | [],_,.nil=>.nil
 | b :: bs,n :: ns,.cons Y t=>by
  obtain ⟨_,O,q,o,I,J,m,hd⟩:=ok b _ Y;cases q with
  | cons z q=>
   cases q with
   | cons U q=>
    cases q;obtain ⟨Z,rfl⟩:=z;obtain ⟨t2,rfl⟩:=U;exact .cons I J hd (Qfg ok t)
theorem Qfw {P:aK} {w:aJ} {H:Hp} {h h':Heap} (ok:HOk P w H h) (kp:∀ b o,h.get? b=some o->h'.get? b=some o) {bs:List aB} {ns:List (Int × Str)} (Y:aR (fun b (n:Int × Str)=>H b=some (.tup [.int n.1,.str n.2])) bs ns):∀ {z:List aA} {ms:List (Int × Str)},PrsAre h' z ms->(∀ v∈z,v∈bs.map Value.ref)->∃ ds:List V,Vals ds z/\aR (fun (v:V) (n:Int × Str)=>∃ b,v=.ref b/\H b=some (.tup [.int n.1,.str n.2])) ds ms
 | [],_,.nil,_=>⟨[],.nil,.nil⟩
 | _ :: z,_ :: ms,.cons (a:=a) (x:=x) (y:=y) U hc hd r,hm=>by
  obtain ⟨ds,d1,d2⟩:=Qfw ok kp Y r fun v hv=>hm v (O4 _ hv)
  obtain ⟨b,hb,e⟩:=D6.mp (hm (.ref a) (by simp));cases e;obtain ⟨n,hn,Z⟩:=Xw Y hb;obtain ⟨_,a1,I,o',O,a2,m,q⟩:=ok a _ Z;rw [kp a o' O] at U;cases U;rw [hd] at q;cases I with
  | cons x1 I=>
   cases I with
   | cons x2 I=>
    cases I;obtain ⟨t1,rfl⟩:=x1;obtain ⟨t2,rfl⟩:=x2;injection q with J _
    have q:=congrArg Array.toList J;simp only [List.cons.injEq,Value.int.injEq,Value.str.injEq] at q;obtain ⟨⟨q1,_⟩,⟨q2,_⟩,_⟩:=q;exact ⟨.ref a :: ds,.cons rfl d1,.cons ⟨a,rfl,by rw [Z,q1,q2]⟩ d2⟩
theorem Q5k (hc:X.calm=true):W6 X (.builtin "sorted") (fun xs H Q=>∃ p bs,∃ ns:List (Int × Str),xs=[.ref p]/\H p=some (Q3q X.w p bs)/\bs.length < 64/\aR (fun b (n:Int × Str)=>H b=some (.tup [.int n.1,.str n.2])) bs ns/\∀ d ds,H d=none->aR (fun (v:V) (n:Int × Str)=>∃ b,v=.ref b/\H b=some (.tup [.int n.1,.str n.2])) ds (Xd ns)->Q (.ref d) (upd H d (.lst ds))):=by
 intro pins s σ H xs us Q I r h;obtain ⟨p,bs,ns,rfl,hp,hl,J,q⟩:=h;obtain ⟨u,rfl,Z⟩:=Uk r;cases Z;obtain ⟨⟨o,es,ep,t,Y,hx,hd,O,hf,hg⟩,_,_⟩:=I.hok p _ hp;have hz:es.size=bs.length:=by
  have:=congrArg List.length O;simpa using this
 refine Q61 (I.ok.hd hc) ⟨o,Y,hx,hd⟩ hf hg (by rw [O]; exact Qfg I.hok J) (by omega) fun z h' d' tk D k a1 a2 a3 a4 a5=>?_
 rw [O] at a2;obtain ⟨ds,U,d2⟩:=Qfw I.hok a5 J a1 fun v hv=>a2.mem_iff.mp hv
 have a7:z.length=bs.length:=by rw [a2.length_eq,O1]
 have a6:ds.length=z.length:=U.length;exact ⟨.ref D,upd H D (.lst ds),Inv.redraw (I.laid (t':=tk) (o:=.lst ds) a5 a3 ⟨by rw [sizeLine_eq]; omega,z,k,U,a4⟩) d',rfl,q D ds (I.hok.fresh a3) d2⟩
end L2
namespace L2
open PySem PySem.Spec PyProof.Rows
variable {R:Result->aC->Prop}
theorem Qm3:typeLookup (.type "list_reverseiterator") "__len__" = pure none:=by rw [typeLookup_type,builtinLookup_eq_fast]; kernel_rfl
theorem Qgj:typeLookup (.type "list_reverseiterator") "__length_hint__" = pure (some (.builtin "list_reverseiterator.__length_hint__")):=by rw [typeLookup_type,builtinLookup_eq_fast]; kernel_rfl
variable {prog:aK} {A:aM} {E:aA->aC->Prop} {s:aC}
section
variable {w:aJ}
theorem Qh5 {I l:aB} {i:Int} {Q:Bool->aC->Prop} (z:s.heap.IsRevIter I l i) (h:Q false s):aF (aI prog w) A (Builtin.List.listLengthHint (.ref I)) Q E s:=by
 unfold Builtin.List.listLengthHint;refine aD (wpAny_specialOf z.typeIs Qm3 ?_);refine az (fun q=>absurd q (by decide)) (fun _=>?_)
 refine az (fun q=>absurd q (by decide)) (fun _=>?_)
 refine aD (wpAny_specialOf z.typeIs Qgj ?_);generalize hid:("list_reverseiterator.__length_hint__" : String)=J
 wp_delta
 rw [show splitId J=some ("list_reverseiterator", "__length_hint__") from by subst hid; decide +kernel];subst hid;refine aD (bH (T := "list_reverseiterator") (b:=true) z.typeIs (by rw [bL]; kernel_rfl) ?_);refine az (fun q=>absurd q (by decide)) (fun _=>?_)
 refine az (fun _=>?_) (fun q=>absurd (by decide +kernel) q)
 refine az (fun q=>absurd q (by decide +kernel)) (fun _=>?_)
 exact wpAny_pure h
theorem Q9i {R:Result->aC->Prop} {I l:aB} {q:Array aA} (hh:A.handled=none) (Y:s.heap.IsRevIter I l ((q.size:Int) - 1)) (hl:s.heap.IsList l q) (a9:q.size<=2 ^ 24) (S:aB) (res:aA) (O:Nat) (hS:s.heap.get? S=some { cls:=.type "list",data:=.seq #[] O }) (a2:S≠l)
  (hR:∀ h' tk z U,(∀ b o,b≠S->b≠I->s.heap.get? b=some o->h'.get? b=some o)->h'.get? S=some { cls:=.type "list",dict:=none,data:=.seq z U,slots:=#[] } ->
   ItemsOf (fun i v=>q[q.size - 1 - i]?=some v) z q.size->R (.ok (.ret res)) { s with heap:=h',toks:=tk }) :
  aF (aI prog w) A.in1 (Builtin.List.listExtendWith (.ref S) (.ref I) res)
   (fun fin s'=>match fin with | .done f=>R (.ok f) s' | .again U=>U.quiet=true/\codeAny (aI prog w) A U R s') (fun e s'=>R (.error e) s') s:=by
 have a1:S≠I:=fun e=>by
  obtain ⟨o,h1,h2,_⟩:=Y;rw [<- e,hS] at h1; cases h1;have h2:Value.type "list" = Value.type "list_reverseiterator" := h2;exact absurd h2 (by decide)
 have a4:l≠I:=fun e=>by
  obtain ⟨o,h1,h2,_⟩:=Y;obtain ⟨o',g1,g2,_⟩:=hl;rw [e,h1] at g1; cases g1;rw [h2] at g2; exact absurd g2 (by decide)
 have a7:S∉[I,l]:=fun hm=>by
  simp at hm;rcases hm with e | e
  ·exact a1 e
  ·exact a2 e
 have W:=(Walks.listRev (prog:=prog) (w:=w) (A:=A.in1) hh I l a4 q).toS;have a3:(0:Nat)<=q.size/\s.heap.IsRevIter I l ((q.size:Int) - 1 - ((0:Nat):Int))/\s.heap.IsList l q:=⟨G8 _,by simpa using Y,hl⟩;unfold Builtin.List.listExtendWith;refine aD (bD (T := "list_reverseiterator") Y.typeIs ?_);have h1:Builtin.List.listSameRef (.ref S) (.ref I)=false:=by simp [Builtin.List.listSameRef,a1]
 have h2:(Value.type "list_reverseiterator" == Value.type "list")=false:=by decide
 have h3:(Value.type "list_reverseiterator" == Value.type "tuple")=false:=by decide
 simp only [h1,h2,h3,Bool.or_false,F2,if_false];refine aD (wpAny_pyIter_revIter Y ?_);refine aD (ae (Qh5 Y ?_));refine az (fun a6=>absurd a6 (by decide)) (fun _=>wpAny_pure ⟨bF F.plain_extend_loop _,?_⟩)
 refine codeAny_extend_loopS W (by rw [sizeLine_eq]; omega) S a7 res q.size 0 _ #[] O rfl (G8 _) a3 hS (ItemsOf.nil _) fun s' z U hm a5 Z=>?_
 rw [Moved.eq_with hm];refine hR s'.heap s'.toks z U (fun b o hb a8 e=>hm.heap b o (fun J=>?_) e) a5 Z
 rcases D7.mp J with e' | J
 ·exact hb e'
 ·exact a8 (by simpa using J)
theorem Qgy {R:Result->aC->Prop} {I l:aB} {q:Array aA} (hh:A.handled=none) (hr:s.heap.IsRevIter I l ((q.size:Int) - 1)) (hl:s.heap.IsList l q) (Y:q.size<=2 ^ 24) (S:aB) (hS:s.heap.get? S=some { cls:=.type "list",data:=.seq #[] }) (Z:S≠l)
  (hR:∀ h' tk z U,(∀ b o,b≠S->b≠I->s.heap.get? b=some o->h'.get? b=some o)->h'.get? S=some { cls:=.type "list",dict:=none,data:=.seq z U,slots:=#[] } ->
   ItemsOf (fun i v=>q[q.size - 1 - i]?=some v) z q.size->R (.ok (.ret .none)) { s with heap:=h',toks:=tk }) :
  aF (aI prog w) A.in1 (Builtin.«list.__init__» ⟨[.ref S,.ref I],[]⟩)
   (fun fin s'=>match fin with | .done f=>R (.ok f) s' | .again U=>U.quiet=true/\codeAny (aI prog w) A U R s') (fun e s'=>R (.error e) s') s:=by
 have a4:S≠I:=fun e=>by
  obtain ⟨o,h1,h2,_⟩:=hr;rw [<- e,hS] at h1; cases h1;exact absurd h2 (by decide)
 show aF _ _ (do let old <- Builtin.List.listItems (.ref S); Builtin.List.listUpdate (.ref S) (fun _=>#[]); letGo old.toList.reverse; Builtin.List.listExtendWith (.ref S) (.ref I) .none) _ _ s;refine aD ?_;unfold Builtin.List.listItems;refine aD (bA hS rfl (wpAny_pure ?_));show aF _ _ (updateSeq S (fun _=>#[]) >>= fun _=>letGo (#[]:Array aA).toList.reverse >>= fun _=>Builtin.List.listExtendWith (.ref S) (.ref I) .none) _ _ s
 refine aD (wpAny_updateSeq hS rfl ?_);have O:=L5 (Obj.mapSeq (fun _=>(#[]:Array aA))) hS rfl
 have J:∀ b o,b≠S->s.heap.get? b=some o->(s.heap.update S (Obj.mapSeq (fun _=>(#[]:Array aA)))).get? b=some o:=
  fun b o hb e=>(G6 _ _ (Ne.symm hb)).trans e
 refine aD (wpAny_letGo ?_);refine Q9i hh (hr.at fun o e=>J I _ (Ne.symm a4) e) (hl.at fun o e=>J l _ (Ne.symm Z) e) Y S .none _ O Z fun h' tk z U hk a2 a1=>?_
 exact hR h' tk z U (fun b o hb a3 e=>hk b o hb a3 (J b o hb e)) a2 a1
theorem Q34 {Q:aA->aC->Prop} {I l:aB} {q:Array aA} (hh:A.handled=none) (hr:s.heap.IsRevIter I l ((q.size:Int) - 1)) (hl:s.heap.IsList l q) (O:q.size<=2 ^ 24)
  (hQ:∀ h' tk z c',(∀ b o,b≠I->s.heap.get? b=some o->h'.get? b=some o) ->
   h'.get? s.heap.objs.size=some { cls:=.type "list",dict:=none,data:=.seq z c',slots:=#[] }->ItemsOf (fun i v=>q[q.size - 1 - i]?=some v) z q.size->Q (.ref s.heap.objs.size) { s with heap:=h',toks:=tk }) :
  aF (aI prog w) A (call (.type "list") [.ref I]) Q E s:=by
 refine callType_codes (Q₁:=fun obj J=>obj=.ref s.heap.objs.size/\J={ s with heap:=s.heap.push { cls:=.type "list",data:=.seq #[] } }) F.called_list (F.typeCall_list_1 _) F.entry_list_init
  (code_list_new _ ⟨rfl,rfl⟩) fun obj J Y=>?_
 obtain ⟨rfl,rfl⟩:=Y;have hS:(s.heap.push { cls:=.type "list",data:=.seq #[] }).get? s.heap.objs.size=some { cls:=.type "list",data:=.seq #[] }:=D8 _ rfl;have Z:l < s.heap.objs.size:=let ⟨o,h1,_⟩:=hl; D5 h1;refine ⟨⟨_,hS,rfl⟩,F.args_list_init_2 _ _,Qgy (A:=A.in1) hh (hr.at fun o e=>O3 _ e) (hl.push _) O _ hS (Nat.ne_of_gt Z) fun h' tk z c' hk a1 U=>?_⟩
 exact ⟨rfl,hQ h' tk z c' (fun b o hb e=>hk b o (E8 (D5 e)) hb (O3 _ e)) a1 U⟩
end
theorem Qdu {xs:List V} {its:List aA} (r:Vals xs its) {acc:List aA} (I:acc.length=its.length) (h:∀ (j:Nat) (v:aA),acc[j]?=some v->its[its.length - 1 - j]?=some v):Vals xs.reverse acc:=by
 have:acc=its.reverse:=by
  apply List.ext_getElem?;intro j
  by_cases q:j < acc.length
  ·have e:=h j acc[j] (O2 q);rw [O2 q,List.getElem?_reverse (by omega),e]
  ·rw [N2 (by omega),N2 (by rw [List.length_reverse]; omega)]
 subst this;clear I h
 induction r with
 | nil=>exact .nil
 | cons a _ z=>rw [List.reverse_cons,List.reverse_cons]; exact z.append (.cons a .nil)
def Qww (ta:TA):TE:=fun σ H Q=>ta σ H fun vs H1=>∃ l ys,vs=[.ref l]/\H1 l=some (.lst ys)/\ys.length<=1000000/\∀ p,H1 p=none->Q (.ref p) (upd H1 p (.lst ys.reverse))
variable {X:Cx} {a:aH} {ta:TA} {p p' pos':Pos}
section
variable {pos:Pos}
theorem Q8u (hc:X.calm=true) (hg:Gl X "list") (hm:X.mg "list" = none) (a3:Gl X "reversed") (Z:X.mg "reversed" = none) (hb:aX "list" = some (.type "list")) (Y:aX "reversed" = some (.type "reversed")) (ha:PA X [a] ta) (hs:aN [a] X.env=[(false,aO a X.env)]:=by rfl)
  (O:aN [.Call (.Name "reversed" p') [a] [] pos'] X.env=[(false,aO (.Call (.Name "reversed" p') [a] [] pos') X.env)]:=by rfl) :
  PE X (.Call (.Name "list" p) [.Call (.Name "reversed" p') [a] [] pos'] [] pos) (Qww ta):=by
 intro pins s σ H Q I h;refine wpAny_Call_Name_kw (j4 I hg hm hb ?_ (by decide) (by decide));refine PyProof.Rows.callWith_type1 ?_ O rfl;rw [O];refine Calls.spliced_cons ?_;refine Call_ (j4 I a3 Z Y (PyProof.Rows.callWith_type1 (thn (ha pos' pins s σ H _ I h) fun us s1 ⟨vs,H1,U,r1,q1⟩=>?_) hs rfl))
 obtain ⟨l,ys,rfl,hq,hn,q⟩:=q1;cases r1 with
 | cons r rr=>
  cases rr;cases r;obtain ⟨a1,its,n,r',a6,a2⟩:=U.lstM hq;have hL:s1.heap.IsList l its.toArray:=⟨_,a2,rfl,n,rfl⟩;have a5:ys.length=its.length:=Vals.length r';refine call_reversed_list hL ?_;refine Calls.spliced_nil ?_;have I2:Inv X pins σ H1 { s1 with heap:=s1.heap.push (revObj l ((its.toArray.size:Int) - 1)) }:=U.kept (t':=s1.toks) fun b ob q=>O3 _ q
  have a4:(s1.heap.push (revObj l ((its.toArray.size:Int) - 1))).IsRevIter s1.heap.objs.size l ((its.toArray.size:Int) - 1):=⟨_,D8 _ rfl,rfl,rfl⟩;refine Q34 (U.ok.hd hc) a4 (hL.push _) (by rw [O8]; omega) fun h' tk J c' hk hS z=>?_
  have hv:Vals ys.reverse J.toList:=Qdu r' (by rw [Array.length_toList,z.1,O8]) fun j v hj=>by
   have:=z.2 j v (by simpa using hj);simpa using this
  have hsz:(s1.heap.push (revObj l ((its.toArray.size:Int) - 1))).objs.size=s1.heap.objs.size + 1:=G9 _ _;refine ⟨.ref _,_,U.laid (t':=tk) (o:=.lst ys.reverse) (fun b u e=>hk b u (E8 (D5 e)) (O3 _ e)) (by rw [hsz]; omega) ?_,rfl,q _ (U.hok.fresh (by rw [hsz]; omega))⟩;exact ⟨by rw [List.length_reverse]; exact a1,J.toList,c',hv,by simpa using hS⟩
end
end L2
namespace L2
open PySem PySem.Spec PyProof.Rows SeqAt
theorem Q9s {X:Cx} (hu:X.A.units + 9 < aP) (hc:X.calm=true):W6 X (.type "dict") (fun xs H Q=>∃ p,∃ us,∃ ps:List (HK × aB × V),xs=[.ref p]/\H p=some (.lst us)/\aR (fun v (z:HK × aB × V)=>∃ c,v=.ref c/\H c=some (.tup [.ref z.2.1,z.2.2])/\KR H z.1 z.2.1) us ps/\ps.length<=sizeLine /\
  ∀ d,H d=none->Q (.ref d) (upd H d (.dT (putAll [] ps)))):=by
 intro pins s σ H xs c2 Q I rx h;obtain ⟨p,us,ps,rfl,hq,b6,hl,q⟩:=h;obtain ⟨u,rfl,ru⟩:=Uk rx;cases ru;obtain ⟨b3,its,n,r',b2,a4⟩:=I.lstM hq;obtain ⟨U,a9,O⟩:∃ U:List (HK × aB × aA),aR (fun (p:HK × aB × V) (q:HK × aB × aA)=>p.1=q.1/\p.2.1=q.2.1/\KR H p.1 p.2.1/\RelV p.2.2 q.2.2) ps U/\(its.length=U.length/\∀ (i:Nat) (v:aA) (p:HK × aB × aA),its[i]?=some v->U[i]?=some p->Qbn X.prog X.w s.heap v p):=by
  have hok:=I.hok;clear q hl a4 hq b3 b2
  induction b6 generalizing its with
  | nil=>cases r'; exact ⟨[],.nil,rfl,fun i v p h=>by simp at h⟩
  | cons h1 _ ih=>
   cases r' with
   | cons y1 y2=>
    obtain ⟨U,a1,a2,a3⟩:=ih _ y2;obtain ⟨c,rfl,b4,hk⟩:=h1;cases y1;obtain ⟨_,c4,rj,ht⟩:=hok c _ b4;cases rj with
    | cons x1 rj=>
     cases rj with
     | cons x2 rj=>
      cases rj;cases x1;rename_i zz _ _ _ _ vv;refine ⟨(_,_,vv) :: U,.cons ⟨rfl,rfl,hk,x2⟩ a1,by simp [a2],fun i v p e1 e2=>?_⟩
      cases i with
      | zero=>
       simp at e1 e2;subst e1; subst e2;exact ⟨c,rfl,ht,Vc hok hk⟩
      | succ i=>exact a3 i v p (by simpa using e1) (by simpa using e2)
 have c5:ps.length=U.length:=Paired.length a9;have hh:=I.ok.hd hc;refine callType_codes (Q₁:=fun obj Y=>obj=.ref s.heap.objs.size/\Y={ s with heap:=s.heap.push { cls:=.type "dict",data:=.dict #[] } }) F.kt_called_dict (F.kt_typeCall_dict_1 _) F.entry_dict_init (kt_code_dict_new _ ⟨rfl,rfl⟩) ?_;rintro obj Y ⟨rfl,rfl⟩;have a8:(s.heap.push { cls:=.type "dict",data:=.dict #[] }).DictOfH (nk X.prog X.w) s.heap.objs.size []:=Heap.DictOfH.new s.heap;have a7:Shared.TypeIs { s with heap:=s.heap.push { cls:=.type "dict",data:=.dict #[] } } (.ref s.heap.objs.size) "dict" := ⟨_,D8 _ rfl,rfl⟩;refine ⟨a7,F.args_dict_init_2 _ _,?_⟩;have Z:=O3 { cls:=.type "dict",data:=.dict #[] } a4;unfold Builtin.«dict.__init__»;refine aD ?_;unfold Builtin.Dict.selfAndRest;refine aD (wpAny_notOrdered_dict a7 ?_);show aF _ _ (pure (s.heap.objs.size,[Value.ref p])) _ _ _;refine wpAny_pure ?_
 show aF _ _ (Builtin.Dict.updateFrom "dict.__init__" s.heap.objs.size (.ref p) [] .none) _ _ _;unfold Builtin.Dict.updateFrom;refine aD (bD (T := "list") ⟨_,Z,rfl⟩ ?_);rw [bT (by decide)];refine aD (Q31 Z (by simpa using hh) fun h2 c3 J=>?_)
 rw [bT (by rfl)];have a6:=J _ _ Z;have a5:h2.IsList p its.toArray:=⟨_,a6,rfl,n,rfl⟩;have k0:∀ b o,s.heap.get? b=some o->h2.get? b=some o:=fun b o e=>J b o (O3 _ e)
 have b1:h2.DictOfH (nk X.prog X.w) s.heap.objs.size []:=Q0s a8 (fun o e=>J _ _ e) fun a its x=>let ⟨o',x1,x2⟩:=x; ⟨o',J _ _ x1,x2⟩
 have b0:s.heap.objs.size < h2.objs.size:=by
  obtain ⟨o,es,ep,ho,r⟩:=b1;exact D5 ho
 refine aD (aD (m:=rule _) (bQ (wpAny_pure (aD (wpAny_pyIter_list a5 ?_)))));refine wpAny_pure ⟨bF Y1 _,?_⟩;have sb:∀ (h2:Heap) (o:Obj),∀ a its,IsTup h2 a its->IsTup (h2.push o) a its:=fun h2 o a its x=>let ⟨o',x1,x2⟩:=x; ⟨o',O3 _ x1,x2⟩
 refine Qbv (A:=X.A.in1) (I:=h2.objs.size) (l:=p) (D:=s.heap.objs.size) (xs:=[]) (ps:=U) (h0:=s.heap) (by show X.A.units + 1 + 1 + 5 < aP; omega) (by simpa using hh) (E8 (D5 a6)) (E8 b0) (Nat.ne_of_gt (D5 a4)) (fun b o e=>E8 (D5 (k0 b o e))) (fun its x=>by
   obtain ⟨o',x1,_⟩:=x;exact absurd (D5 x1) (L8 _))
  (by rw [O8]; exact O.1) (fun i v p e1 e2=>O.2 i v p (by simpa using e1) e2) (by simp only [List.length_nil]; omega) (its.toArray.size - 0) 0 _ rfl (G8 _) ⟨⟨_,D8 _ rfl,rfl,rfl⟩,a5.push _⟩ (fun b o _ e=>O3 _ (k0 b o e)) ?dk fun h' tk d k=>?_
 case dk=>exact Q0s b1 (fun o e=>O3 _ e) (sb _ _)
 obtain ⟨q1,es,ep,b7,c0,b8,b9,_,b5⟩:=d;have c1:∀ b o,s.heap.get? b=some o->h'.get? b=some o:=fun b o e=>k b o (E8 (D5 e)) e
 refine ⟨rfl,.ref s.heap.objs.size,_,I.laid (t':=tk) (o:=.dT (putAll [] ps)) c1 (O6 _) ⟨?_,beq_eq_false_iff_ne.mpr (Ne.symm (E8 I.big)),_,((show KT H [] [] from .nil).putAll a9).keeps fun c ys ec=>?_,q1,es,ep,b7,c0,b8,b9,b5⟩,rfl,q _ (I.hok.fresh (O6 _))⟩
 ·have:=Q8r [] ps; simp only [List.length_nil] at this; omega
 ·have:c≠s.heap.objs.size:=fun e=>by
   have:=I.hok.fresh (a:=s.heap.objs.size) (O6 _);rw [<- e,ec] at this; cases this
  rw [Qa this];exact ec
end L2
namespace Sm
open PySem PySem.Spec L2
variable {H H':Hp} {p a:aB} {o:HO} {hs:List aB} {v:V} {vs:List V} {κ:Type} {σ:St} {e:aH} {es:List aH} {f:aA->aA->Sem aA} {Q:Bool->Hp->Prop} {D:Ends}
section
inductive PV where
 | non | bl (b:Bool) | int (i:Int) | str (x:Str) | tup (xs:List PV) | lst (xs:List PV) | fro (xs:List PV) | ref (i:Nat) | dic
variable {ps:List PV}
inductive Cell where
 | lst (xs:List PV) | dic (kvs:List (Key × PV)) | dtp (kvs:List (HK × PV)) | frd (kvs:List (Key × PV))
 | obj (C:aB) (fs:List (Str × PV))
variable {cl:Cell}
abbrev Q0:=List Cell
variable {st:Q0}
structure Exc where
 cls:Str
 fs:Option (Str × PV):=none
inductive Res (α:Type) where
 | ok (a:α) (st:Q0) | exc (x:Exc) (st:Q0) | stuck
abbrev Gam:=List (Option PV)
variable {Γ:Gam} {m:Gam->Q0->Res Bool}
abbrev ME:=Gam->Q0->Res PV
structure Tk where
 tr:List aB
 hid:List aB
variable {ρ:Tk} {P:Bool->Q0->Hp->Tk->Prop}
instance:Membership aB Tk:=⟨fun t a=>a∈t.tr\/a∈t.hid⟩
def Tk.nil:Tk:=⟨[],[]⟩
theorem Tk.not_nil (a:aB):a∉Tk.nil:=fun z=>by rcases z with z | z <;> cases z
def Tk.add (t:Tk) (p:aB):Tk:=⟨t.tr ++ [p],t.hid⟩
def Tk.hide (t:Tk) (p:aB):Tk:=⟨t.tr,p :: t.hid⟩
mutual
def Rep (H:Hp) (ρ:Tk):PV->V->Prop
 | .non,v=>v=.non
 | .bl b,v=>v=.bl b
 | .int i,v=>v=.int i
 | .str x,v=>v=.str x
 | .tup ps,v=>∃ a vs,v=.ref a/\H a=some (.tup vs)/\a∉ρ/\RepL H ρ ps vs
 | .lst ps,v=>∃ a vs,v=.ref a/\H a=some (.lst vs)/\a∉ρ/\RepL H ρ ps vs
 | .fro ps,v=>∃ a vs,v=.ref a/\Rd H a (.lst vs)/\a∉ρ/\RepL H ρ ps vs
 | .ref i,v=>∃ a,ρ.tr[i]?=some a/\v=.ref a
 | .dic,v=>∃ a,v=.ref a/\H a=some (.dK [])/\a∉ρ
def RepL (H:Hp) (ρ:Tk):List PV->List V->Prop
 | [],vs=>vs=[]
 | p :: ps,vs=>∃ v r,vs=v :: r/\Rep H ρ p v/\RepL H ρ ps r
end
structure Ext (H:Hp) (ρ:Tk) (H':Hp) (ρ':Tk):Prop where
 pre:ρ.tr <+: ρ'.tr
 hidM:∀ a,a∈ρ.hid->a∈ρ'.hid
 hidN:∀ a,a∈ρ'.hid->a∈ρ.hid\/H a=none
 keep:∀ a o,H a=some o->a∉ρ.tr->H' a=some o
 new:∀ a,a∈ρ'.tr->a∈ρ.tr\/H a=none
 old:∀ a o,H a=some o->∃ o',H' a=some o'
 frz:∀ a o u,H a=some (.frz o u)->H' a=some (.frz o u)
theorem Ext.refl (H:Hp) (ρ:Tk):Ext H ρ H ρ:=⟨List.prefix_refl _,fun _ h=>h,fun _ h=>.inl h,fun _ _ h _=>h,fun _ h=>.inl h,fun _ o h=>⟨o,h⟩,fun _ _ _ h=>h⟩
theorem Ext.trans {H1 H2:Hp} {ρ1 I:Tk} (a:Ext H ρ H1 ρ1) (b:Ext H1 ρ1 H2 I):Ext H ρ H2 I where
 pre:=a.pre.trans b.pre
 hidM:=fun x h=>b.hidM x (a.hidM x h)
 hidN:=fun x h=>by
  rcases b.hidN x h with z | z
  ·exact a.hidN x z
  ·right
   cases q:H x with
   | none=>rfl
   | some o=>
    obtain ⟨o',e⟩:=a.old x o q;rw [e] at z; cases z
 keep:=fun x o h n=>b.keep x o (a.keep x o h n) fun z=>by
  rcases a.new x z with z | z
  ·exact n z
  ·rw [h] at z; cases z
 new:=fun x h=>by
  rcases b.new x h with z | z
  ·exact a.new x z
  ·right
   cases q:H x with
   | none=>rfl
   | some o=>
    obtain ⟨o',e⟩:=a.old x o q;rw [e] at z; cases z
 old:=fun x o h=>by
  obtain ⟨o',e⟩:=a.old x o h;exact b.old x o' e
 frz:=fun x o u h=>b.frz x o u (a.frz x o u h)
theorem Ext.add (h:H p=none):Ext H ρ (upd H p o) ρ where
 pre:=List.prefix_refl _
 hidM:=fun _ h=>h
 hidN:=fun _ h=>.inl h
 keep:=fun a u e _=>by rw [Qa (Qb e h)]; exact e
 new:=fun a e=>.inl e
 old:=fun a u e=>⟨u,by rw [Qa (Qb e h)]; exact e⟩
 frz:=fun a o u e=>by rw [Qa (Qb e h)]; exact e
theorem Ext.addT (h:H p=none):Ext H ρ (upd H p o) (ρ.add p) where
 pre:=List.prefix_append _ _
 hidM:=fun _ h=>h
 hidN:=fun _ h=>.inl h
 keep:=fun a u e _=>by rw [Qa (Qb e h)]; exact e
 new:=fun a e=>by
  rcases E1.mp e with z | z
  ·exact .inl z
  ·right
   have:a=p:=by simpa using z
   rw [this]; exact h
 old:=fun a u e=>⟨u,by rw [Qa (Qb e h)]; exact e⟩
 frz:=fun a o u e=>by rw [Qa (Qb e h)]; exact e
theorem Ext.same (h:Same H H'):Ext H ρ H' ρ:=⟨List.prefix_refl _,fun _ h=>h,fun _ h=>.inl h,fun a o e _=>h a o e,fun _ e=>.inl e,fun a o e=>⟨o,h a o e⟩,fun a o u e=>h a _ e⟩
section
variable {H H':Hp} {ρ ρ':Tk}
theorem Ut (x:Ext H ρ H' ρ') (h:H a=some o) (n:a∉ρ):a∉ρ':=fun z=>by
 rcases z with z | z
 ·rcases x.new a z with z | z
  ·exact n (.inl z)
  ·rw [h] at z; cases z
 ·rcases x.hidN a z with z | z
  ·exact n (.inr z)
  ·rw [h] at z; cases z
theorem Ext.kp (x:Ext H ρ H' ρ') (h:H a=some o) (n:a∉ρ):H' a=some o:=x.keep a o h fun z=>n (.inl z)
mutual
theorem Rep.ext (x:Ext H ρ H' ρ'):∀ {p:PV} {v:V},Rep H ρ p v->Rep H' ρ' p v
 | .non,_,h=>h
 | .bl _,_,h=>h
 | .int _,_,h=>h
 | .str _,_,h=>h
 | .tup ps,v,h=>by
  obtain ⟨a,vs,e,s,n,r⟩:=h;exact ⟨a,vs,e,x.kp s n,Ut x s n,RepL.ext x r⟩
 | .lst ps,v,h=>by
  obtain ⟨a,vs,e,s,n,r⟩:=h;exact ⟨a,vs,e,x.kp s n,Ut x s n,RepL.ext x r⟩
 | .fro ps,v,h=>by
  obtain ⟨a,vs,e,s,n,r⟩:=h;rcases s with s | ⟨o,s⟩
  ·exact ⟨a,vs,e,.inl (x.kp s n),Ut x s n,RepL.ext x r⟩
  ·exact ⟨a,vs,e,.inr ⟨o,x.kp s n⟩,Ut x s n,RepL.ext x r⟩
 | .ref i,v,h=>by
  obtain ⟨a,e,rfl⟩:=h;obtain ⟨t,q⟩:=x.pre;refine ⟨a,?_,rfl⟩;rw [<- q,O7 (O0.mp e).1];exact e
 | .dic,v,h=>by
  obtain ⟨a,e,s,n⟩:=h;exact ⟨a,e,x.kp s n,Ut x s n⟩
theorem RepL.ext (x:Ext H ρ H' ρ'):∀ {ps:List PV} {vs:List V},RepL H ρ ps vs->RepL H' ρ' ps vs
 | [],_,h=>h
 | p :: ps,vs,h=>by
  obtain ⟨v,r,e,h1,h2⟩:=h;exact ⟨v,r,e,Rep.ext x h1,RepL.ext x h2⟩
end
mutual
theorem Rep.hide {a:aB} {o:HO} (h:H a=none):∀ {p:PV} {v:V},Rep H ρ p v->Rep (upd H a o) (ρ.hide a) p v
 | .non,_,r=>r
 | .bl _,_,r=>r
 | .int _,_,r=>r
 | .str _,_,r=>r
 | .tup ps,v,⟨b,vs,e,s,n,r⟩=>⟨b,vs,e,by rw [Qa (Qb s h)]; exact s,fun z=>by
   rcases z with z | z
   ·exact n (.inl z)
   ·rcases D7.mp z with z | z
    ·exact Qb s h z
    ·exact n (.inr z),RepL.hide h r⟩
 | .lst ps,v,⟨b,vs,e,s,n,r⟩=>⟨b,vs,e,by rw [Qa (Qb s h)]; exact s,fun z=>by
   rcases z with z | z
   ·exact n (.inl z)
   ·rcases D7.mp z with z | z
    ·exact Qb s h z
    ·exact n (.inr z),RepL.hide h r⟩
 | .fro ps,v,⟨b,vs,e,s,n,r⟩=>by
   have ne:b≠a:=by
    rcases s with s | ⟨_,s⟩
    ·exact Qb s h
    ·exact Qb s h
   refine ⟨b,vs,e,?_,fun z=>?_,RepL.hide h r⟩
   ·rcases s with s | ⟨u,s⟩
    ·exact .inl (by rw [Qa ne]; exact s)
    ·exact .inr ⟨u,by rw [Qa ne]; exact s⟩
   ·rcases z with z | z
    ·exact n (.inl z)
    ·rcases D7.mp z with z | z
     ·exact ne z
     ·exact n (.inr z)
 | .ref i,v,r=>r
 | .dic,v,⟨b,e,s,n⟩=>⟨b,e,by rw [Qa (Qb s h)]; exact s,fun z=>by
   rcases z with z | z
   ·exact n (.inl z)
   ·rcases D7.mp z with z | z
    ·exact Qb s h z
    ·exact n (.inr z)⟩
theorem RepL.hide {a:aB} {o:HO} (h:H a=none):∀ {ps:List PV} {vs:List V},RepL H ρ ps vs->RepL (upd H a o) (ρ.hide a) ps vs
 | [],_,r=>r
 | p :: ps,_,⟨v,t,e,z,q⟩=>⟨v,t,e,Rep.hide h z,RepL.hide h q⟩
end
mutual
theorem Rep.rehide {a:aB} {o:HO} (h:a∈ρ.hid):∀ {p:PV} {v:V},Rep H ρ p v->Rep (upd H a o) ρ p v
 | .non,_,r=>r
 | .bl _,_,r=>r
 | .int _,_,r=>r
 | .str _,_,r=>r
 | .tup ps,v,⟨b,vs,e,s,n,r⟩=>⟨b,vs,e,by rw [Qa (show b≠a from fun z=>n (.inr (by rw [z]; exact h)))]; exact s,n,RepL.rehide h r⟩
 | .lst ps,v,⟨b,vs,e,s,n,r⟩=>⟨b,vs,e,by rw [Qa (show b≠a from fun z=>n (.inr (by rw [z]; exact h)))]; exact s,n,RepL.rehide h r⟩
 | .fro ps,v,⟨b,vs,e,s,n,r⟩=>by
   have ne:b≠a:=fun z=>n (.inr (by rw [z]; exact h))
   refine ⟨b,vs,e,?_,n,RepL.rehide h r⟩;rcases s with s | ⟨u,s⟩
   ·exact .inl (by rw [Qa ne]; exact s)
   ·exact .inr ⟨u,by rw [Qa ne]; exact s⟩
 | .ref i,v,r=>r
 | .dic,v,⟨b,e,s,n⟩=>⟨b,e,by rw [Qa (show b≠a from fun z=>n (.inr (by rw [z]; exact h)))]; exact s,n⟩
theorem RepL.rehide {a:aB} {o:HO} (h:a∈ρ.hid):∀ {ps:List PV} {vs:List V},RepL H ρ ps vs->RepL (upd H a o) ρ ps vs
 | [],_,r=>r
 | p :: ps,_,⟨v,t,e,z,q⟩=>⟨v,t,e,Rep.rehide h z,RepL.rehide h q⟩
end
mutual
theorem Rep.retr {a:aB} {o:HO} (h:a∈ρ.tr):∀ {p:PV} {v:V},Rep H ρ p v->Rep (upd H a o) ρ p v
 | .non,_,r=>r
 | .bl _,_,r=>r
 | .int _,_,r=>r
 | .str _,_,r=>r
 | .tup ps,v,⟨b,vs,e,s,n,r⟩=>⟨b,vs,e,by rw [Qa (show b≠a from fun z=>n (.inl (by rw [z]; exact h)))]; exact s,n,RepL.retr h r⟩
 | .lst ps,v,⟨b,vs,e,s,n,r⟩=>⟨b,vs,e,by rw [Qa (show b≠a from fun z=>n (.inl (by rw [z]; exact h)))]; exact s,n,RepL.retr h r⟩
 | .fro ps,v,⟨b,vs,e,s,n,r⟩=>by
   have ne:b≠a:=fun z=>n (.inl (by rw [z]; exact h))
   refine ⟨b,vs,e,?_,n,RepL.retr h r⟩;rcases s with s | ⟨u,s⟩
   ·exact .inl (by rw [Qa ne]; exact s)
   ·exact .inr ⟨u,by rw [Qa ne]; exact s⟩
 | .ref i,v,r=>r
 | .dic,v,⟨b,e,s,n⟩=>⟨b,e,by rw [Qa (show b≠a from fun z=>n (.inl (by rw [z]; exact h)))]; exact s,n⟩
theorem RepL.retr {a:aB} {o:HO} (h:a∈ρ.tr):∀ {ps:List PV} {vs:List V},RepL H ρ ps vs->RepL (upd H a o) ρ ps vs
 | [],_,r=>r
 | p :: ps,_,⟨v,t,e,z,q⟩=>⟨v,t,e,Rep.retr h z,RepL.retr h q⟩
end
mutual
theorem Rep.unhide {hs:List aB} (q:∀ a,a∈hs->a∈ρ.hid):∀ {p:PV} {v:V},Rep H ρ p v->Rep H ⟨ρ.tr,hs⟩ p v
 | .non,_,r=>r
 | .bl _,_,r=>r
 | .int _,_,r=>r
 | .str _,_,r=>r
 | .tup ps,v,⟨b,vs,e,s,n,r⟩=>⟨b,vs,e,s,fun z=>n (z.imp id (q _)),RepL.unhide q r⟩
 | .lst ps,v,⟨b,vs,e,s,n,r⟩=>⟨b,vs,e,s,fun z=>n (z.imp id (q _)),RepL.unhide q r⟩
 | .fro ps,v,⟨b,vs,e,s,n,r⟩=>⟨b,vs,e,s,fun z=>n (z.imp id (q _)),RepL.unhide q r⟩
 | .ref i,v,r=>r
 | .dic,v,⟨b,e,s,n⟩=>⟨b,e,s,fun z=>n (z.imp id (q _))⟩
theorem RepL.unhide {hs:List aB} (q:∀ a,a∈hs->a∈ρ.hid):∀ {ps:List PV} {vs:List V},RepL H ρ ps vs->RepL H ⟨ρ.tr,hs⟩ ps vs
 | [],_,r=>r
 | p :: ps,_,⟨v,t,e,I,z⟩=>⟨v,t,e,Rep.unhide q I,RepL.unhide q z⟩
end
theorem RepL.length:∀ {ps:List PV} {vs:List V},RepL H ρ ps vs->ps.length=vs.length
 | [],_,h=>by cases h; rfl
 | p :: ps,_,⟨v,r,rfl,_,h2⟩=>by rw [O9,O9,RepL.length h2]
theorem RepL.get:∀ {ps:List PV} {vs:List V} {i:Nat} {p:PV},RepL H ρ ps vs->ps[i]?=some p->∃ v,vs[i]?=some v/\Rep H ρ p v
 | [],_,_,_,_,e=>by simp at e
 | p :: ps,_,0,q,⟨v,r,rfl,h1,h2⟩,e=>by simp at e; subst e; exact ⟨v,rfl,h1⟩
 | p :: ps,_,i + 1,q,⟨v,r,rfl,h1,h2⟩,e=>by
  obtain ⟨u,z,I⟩:=RepL.get (i:=i) h2 (by simpa using e);exact ⟨u,by simpa using z,I⟩
theorem RepL.get':∀ {ps:List PV} {vs:List V} {i:Nat} {v:V},RepL H ρ ps vs->vs[i]?=some v->∃ p,ps[i]?=some p/\Rep H ρ p v
 | [],_,_,_,h,e=>by cases h; simp at e
 | p :: ps,_,0,q,⟨v,r,rfl,h1,h2⟩,e=>by simp at e; subst e; exact ⟨p,rfl,h1⟩
 | p :: ps,_,i + 1,q,⟨v,r,rfl,h1,h2⟩,e=>by
  obtain ⟨u,z,I⟩:=RepL.get' (i:=i) h2 (by simpa using e);exact ⟨u,by simpa using z,I⟩
theorem RepL.cons {p:PV} (h:Rep H ρ p v) (r:RepL H ρ ps vs):RepL H ρ (p :: ps) (v :: vs):=⟨v,vs,rfl,h,r⟩
theorem RepL.nil:RepL H ρ [] []:=rfl
theorem RepL.append:∀ {ps q:List PV} {vs us:List V},RepL H ρ ps vs->RepL H ρ q us->RepL H ρ (ps ++ q) (vs ++ us)
 | [],_,_,_,h,g=>by cases h; exact g
 | p :: ps,_,_,_,⟨v,r,rfl,h1,h2⟩,g=>⟨v,_,rfl,h1,RepL.append h2 g⟩
theorem RepL.take:∀ {ps:List PV} {vs:List V} (n:Nat),RepL H ρ ps vs->RepL H ρ (ps.take n) (vs.take n)
 | _,_,0,_=>rfl
 | [],_,n + 1,h=>by cases h; rfl
 | p :: ps,_,n + 1,⟨v,r,rfl,h1,h2⟩=>⟨v,_,rfl,h1,RepL.take n h2⟩
theorem RepL.drop:∀ {ps:List PV} {vs:List V} (n:Nat),RepL H ρ ps vs->RepL H ρ (ps.drop n) (vs.drop n)
 | _,_,0,h=>h
 | [],_,n + 1,h=>by cases h; rfl
 | p :: ps,_,n + 1,⟨v,r,rfl,h1,h2⟩=>RepL.drop n h2
theorem RepL.set {p:PV} (h:Rep H ρ p v):∀ {ps:List PV} {vs:List V} (i:Nat),RepL H ρ ps vs->RepL H ρ (ps.set i p) (vs.set i v)
 | [],_,_,g=>by cases g; rfl
 | q :: ps,_,0,⟨u,r,rfl,h1,h2⟩=>⟨v,r,rfl,h,h2⟩
 | q :: ps,_,i + 1,⟨u,r,rfl,h1,h2⟩=>⟨u,_,rfl,h1,RepL.set h i h2⟩
theorem RepL.rep (h:RepL H ρ ps vs):∀ n,RepL H ρ (List.replicate n ps).flatten (List.replicate n vs).flatten
 | 0=>rfl
 | n + 1=>by rw [List.replicate_succ,List.replicate_succ,List.flatten_cons,List.flatten_cons]; exact h.append (RepL.rep h n)
theorem RepL.toInts:∀ {ns:List Int} {vs:List V},RepL H ρ (ns.map .int) vs->vs=ns.map V.int
 | [],_,h=>h
 | n :: ns,_,⟨v,r,rfl,h1,h2⟩=>by
  have e:v=V.int n:=h1;rw [RepL.toInts h2,e]; rfl
theorem RepL.toBls:∀ {ns:List Bool} {vs:List V},RepL H ρ (ns.map .bl) vs->vs=ns.map V.bl
 | [],_,h=>h
 | n :: ns,_,⟨v,r,rfl,h1,h2⟩=>by
  have e:v=V.bl n:=h1;rw [RepL.toBls h2,e]; rfl
end
def RepD {κ:Type} (H:Hp) (ρ:Tk) (kvs:List (κ × PV)) (vs:List (κ × V)):Prop:=vs.map Prod.fst=kvs.map Prod.fst/\RepL H ρ (kvs.map Prod.snd) (vs.map Prod.snd)
theorem RepD.ext {ρ':Tk} {q:List (κ × PV)} {vs:List (κ × V)} (x:Ext H ρ H' ρ') (r:RepD H ρ q vs):RepD H' ρ' q vs:=⟨r.1,r.2.ext x⟩
theorem RepD.length {q:List (κ × PV)} {vs:List (κ × V)} (r:RepD H ρ q vs):q.length=vs.length:=by
 have:=congrArg List.length r.1;rw [O1,O1] at this;exact this.symm
def CellR (H:Hp) (ρ:Tk) (a:aB):Cell->Prop
 | .lst ps=>∃ vs,H a=some (.lst vs)/\RepL H ρ ps vs
 | .dic kvs=>∃ vs,H a=some (.dK vs)/\RepD H ρ kvs vs
 | .dtp kvs=>∃ vs,H a=some (.dT vs)/\RepD H ρ kvs vs
 | .frd kvs=>∃ vs,(∃ o,H a=some (.frz o (.dK vs)))/\RepD H ρ kvs vs
 | .obj C fs=>∃ vs,(∃ dx,H a=some (.ins C dx vs))/\RepD H ρ fs vs
theorem CellR.dom :∀ {c:Cell},CellR H ρ a c->∃ o,H a=some o
 | .lst _,⟨_,e,_⟩=>⟨_,e⟩
 | .dic _,⟨_,e,_⟩=>⟨_,e⟩
 | .dtp _,⟨_,e,_⟩=>⟨_,e⟩
 | .frd _,⟨_,⟨_,e⟩,_⟩=>⟨_,e⟩
 | .obj _ _,⟨_,⟨_,e⟩,_⟩=>⟨_,e⟩
theorem CellR.ext {ρ':Tk} (x:Ext H ρ H' ρ') (k:∀ o,H a=some o->H' a=some o):∀ {c:Cell},CellR H ρ a c->CellR H' ρ' a c
 | .lst _,⟨vs,e,r⟩=>⟨vs,k _ e,r.ext x⟩
 | .dic _,⟨vs,e,r⟩=>⟨vs,k _ e,r.ext x⟩
 | .dtp _,⟨vs,e,r⟩=>⟨vs,k _ e,r.ext x⟩
 | .frd _,⟨vs,⟨o,e⟩,r⟩=>⟨vs,⟨o,k _ e⟩,r.ext x⟩
 | .obj _ _,⟨vs,⟨o,e⟩,r⟩=>⟨vs,⟨o,k _ e⟩,r.ext x⟩
structure Rel (H:Hp) (ρ:Tk) (st:Q0):Prop where
 len:ρ.tr.length=st.length
 nd:ρ.tr.Nodup
 hd:∀ a∈ρ.hid,∃ o,H a=some o/\∀ xs,o≠.tup xs
 ap:∀ a∈ρ.hid,a∉ρ.tr
 cell:∀ (i:Nat) (a:aB) (c:Cell),ρ.tr[i]?=some a->st[i]?=some c->CellR H ρ a c
section
variable {H H':Hp} {ρ ρ':Tk} {st st':Q0}
theorem Rel.lst (R:Rel H ρ st) {i:Nat} (h:st[i]?=some (.lst ps)):∃ a vs,ρ.tr[i]?=some a/\H a=some (.lst vs)/\RepL H ρ ps vs:=by
 have hi:i < ρ.tr.length:=by rw [R.len]; exact (O0.mp h).1
 have e:ρ.tr[i]?=some ρ.tr[i]:=O2 hi;obtain ⟨vs,q,z⟩:=R.cell i _ _ e h;exact ⟨_,vs,e,q,z⟩
theorem Rel.dtp (R:Rel H ρ st) {i:Nat} {q:List (HK × PV)} (h:st[i]?=some (.dtp q)):∃ a vs,ρ.tr[i]?=some a/\H a=some (.dT vs)/\RepD H ρ q vs:=by
 have hi:i < ρ.tr.length:=by rw [R.len]; exact (O0.mp h).1
 have e:ρ.tr[i]?=some ρ.tr[i]:=O2 hi;obtain ⟨vs,z,I⟩:=R.cell i _ _ e h;exact ⟨_,vs,e,z,I⟩
theorem Rel.dom (R:Rel H ρ st) (h:a∈ρ.tr):∃ o,H a=some o:=by
 obtain ⟨i,hi,e⟩:=L3 h;have hs:i < st.length:=by rw [<- R.len]; exact hi
 have q:=R.cell i a st[i] (by rw [O2 hi,e]) (O2 hs);exact q.dom
theorem Rel.fresh (R:Rel H ρ st) (h:H p=none):p∉ρ:=fun z=>by
 rcases z with z | z
 ·obtain ⟨vs,q⟩:=R.dom z;rw [h] at q; cases q
 ·obtain ⟨o,q,_⟩:=R.hd p z;rw [h] at q; cases q
theorem Rel.later (R:Rel H ρ st) (x:Ext H ρ H' ρ) (k:∀ a o,a∈ρ.tr->H a=some o->H' a=some o):Rel H' ρ st where
 len:=R.len
 nd:=R.nd
 hd:=fun a q=>let ⟨o,e,n⟩:=R.hd a q; ⟨o,x.keep a o e (R.ap a q),n⟩
 ap:=R.ap
 cell:=fun i a c h1 h2=>by
  exact (R.cell i a c h1 h2).ext x fun o e=>k a o (E3 h1) e
end
theorem Rel.add (R:Rel H ρ st) (h:H p=none):Rel (upd H p o) ρ st:=
 R.later (Ext.add h) fun a u hm e=>by rw [Qa (Qb e h)]; exact e
theorem Rel.same (R:Rel H ρ st) (h:Same H H'):Rel H' ρ st:=R.later (Ext.same h) fun a u _ e=>h a u e
theorem Rel.addC (R:Rel H ρ st) (h:H p=none) (r:CellR (upd H p o) (ρ.add p) p cl):Rel (upd H p o) (ρ.add p) (st ++ [cl]) where
 len:=by show (ρ.tr ++ [p]).length=_; rw [O5,O5,R.len]; rfl
 nd:=L4.mpr ⟨R.nd,by simp,fun a q b J e=>by
  have:b=p:=by simpa using J
  subst this; subst e;exact R.fresh h (.inl q)⟩
 hd:=fun a q=>let ⟨o,e,n⟩:=R.hd a q; ⟨o,by rw [Qa (Qb e h)]; exact e,n⟩
 ap:=fun a q z=>by
  rcases E1.mp z with z | z
  ·exact R.ap a q z
  ·have:a=p:=by simpa using z
   subst this;exact R.fresh h (.inr q)
 cell:=fun i a c h1 h2=>by
  have h1:(ρ.tr ++ [p])[i]?=some a:=h1
  by_cases hi:i < st.length
  ·rw [O7 (by rw [R.len]; exact hi)] at h1;rw [O7 hi] at h2;exact (R.cell i a c h1 h2).ext (Ext.addT h) fun u e=>by rw [Qa (Qb e h)]; exact e
  ·rw [D9 (by rw [R.len]; omega)] at h1;rw [D9 (by omega)] at h2;have I:i - st.length=0:=by
    rcases Nat.eq_zero_or_pos (i - st.length) with z | z
    ·exact z
    ·rw [N2 (by simp; omega)] at h2; cases h2
   rw [R.len,I] at h1;rw [I] at h2;simp at h1 h2;subst h1; subst h2;exact r
theorem Q3h {α:Type} {l:List α} (h:l.Nodup) {i j:Nat} (hi:i < l.length) (q:j < l.length) (e:l[i]=l[j]):i=j:=by
 rcases Nat.lt_trichotomy i j with z | z | z
 ·exact absurd e ((List.pairwise_iff_getElem.mp h) i j hi q z)
 ·exact z
 ·exact absurd e.symm ((List.pairwise_iff_getElem.mp h) j i q hi z)
theorem Ext.put {o':HO} (h:a∈ρ.tr) (e:H a=some o) (I:∀ q u,o≠.frz q u:=by intro _ _ z; cases z):Ext H ρ (upd H a o') ρ where
 pre:=List.prefix_refl _
 hidM:=fun _ h=>h
 hidN:=fun _ h=>.inl h
 keep:=fun b u q n=>by rw [Qa (show b≠a from fun z=>n (by rw [z]; exact h))]; exact q
 new:=fun b q=>.inl q
 old:=fun b u q=>by
  by_cases z:b=a
  ·exact ⟨o',by rw [z]; exact Qv⟩
  ·exact ⟨u,by rw [Qa z]; exact q⟩
 frz:=fun b q u k=>by
  by_cases z:b=a
  ·rw [z,e] at k; cases k; exact absurd rfl (I _ _)
  ·rw [Qa z]; exact k
theorem Rel.putC (R:Rel H ρ st) {i:Nat} {o':HO} (hi:ρ.tr[i]?=some a) (e:H a=some o) (r:CellR (upd H a o') ρ a cl):Rel (upd H a o') ρ (st.set i cl) where
 len:=by rw [L6]; exact R.len
 nd:=R.nd
 hd:=fun b O=>let ⟨u,q,n⟩:=R.hd b O; ⟨u,by rw [Qa (show b≠a from fun z=>R.ap b O (by rw [z]; exact E3 hi))]; exact q,n⟩
 ap:=R.ap
 cell:=fun j b c h1 h2=>by
  by_cases Y:i=j
  ·subst Y;rw [hi] at h1; cases h1;rw [F3 (by rw [<- R.len]; exact (O0.mp hi).1)] at h2;cases h2;exact r
  ·rw [F1 Y] at h2;have q:=R.cell j b c h1 h2;have O:b≠a:=fun z=>by
    subst z;have l1:=(O0.mp hi);have Z:=(O0.mp h1);exact Y (Q3h R.nd l1.1 Z.1 (l1.2.trans Z.2.symm))
   have hm:=E3 hi;cases c with
   | lst ps=>
    obtain ⟨vs,J,I⟩:=q;exact ⟨vs,by rw [Qa O]; exact J,I.retr hm⟩
   | dic ps=>
    obtain ⟨vs,J,I⟩:=q;exact ⟨vs,by rw [Qa O]; exact J,I.1,I.2.retr hm⟩
   | dtp ps=>
    obtain ⟨vs,J,I⟩:=q;exact ⟨vs,by rw [Qa O]; exact J,I.1,I.2.retr hm⟩
   | frd ps=>
    obtain ⟨vs,⟨U,J⟩,I⟩:=q;exact ⟨vs,⟨U,by rw [Qa O]; exact J⟩,I.1,I.2.retr hm⟩
   | obj C ps=>
    obtain ⟨vs,⟨U,J⟩,I⟩:=q;exact ⟨vs,⟨U,by rw [Qa O]; exact J⟩,I.1,I.2.retr hm⟩
theorem Rel.put (R:Rel H ρ st) {i:Nat} (hi:ρ.tr[i]?=some a) (e:H a=some o) (r:RepL H ρ ps vs):Rel (upd H a (.lst vs)) ρ (st.set i (.lst ps)):=
 R.putC hi e ⟨vs,Qv,r.retr (E3 hi)⟩
theorem Rel.hide (R:Rel H ρ st) (h:H p=none) (Z:∀ xs,o≠.tup xs:=by intro _ z; cases z):Rel (upd H p o) (ρ.hide p) st:=by
 have x:Ext H ρ (upd H p o) ρ:=Ext.add h;have Y:=R.add (p:=p) (o:=o) h;refine ⟨Y.len,Y.nd,fun a O=>?_,fun a O z=>?_,fun i a c h1 h2=>?_⟩
 ·rcases D7.mp O with rfl | O
  ·exact ⟨o,Qv,Z⟩
  ·exact Y.hd a O
 ·rcases D7.mp O with rfl | O
  ·exact R.fresh h (.inl z)
  ·exact R.ap a O z
 ·have q:=R.cell i a c h1 h2;cases c with
  | lst ps=>
   obtain ⟨vs,I,J⟩:=q;exact ⟨vs,by rw [Qa (Qb I h)]; exact I,J.hide h⟩
  | dic ps=>
   obtain ⟨vs,I,J⟩:=q;exact ⟨vs,by rw [Qa (Qb I h)]; exact I,J.1,J.2.hide h⟩
  | dtp ps=>
   obtain ⟨vs,I,J⟩:=q;exact ⟨vs,by rw [Qa (Qb I h)]; exact I,J.1,J.2.hide h⟩
  | frd ps=>
   obtain ⟨vs,⟨U,I⟩,J⟩:=q;exact ⟨vs,⟨U,by rw [Qa (Qb I h)]; exact I⟩,J.1,J.2.hide h⟩
  | obj C ps=>
   obtain ⟨vs,⟨U,I⟩,J⟩:=q;exact ⟨vs,⟨U,by rw [Qa (Qb I h)]; exact I⟩,J.1,J.2.hide h⟩
theorem Rel.rehide (R:Rel H ρ st) (h:p∈ρ.hid) (U:∀ xs,o≠.tup xs:=by intro _ z; cases z):Rel (upd H p o) ρ st:=by
 refine ⟨R.len,R.nd,fun a Y=>?_,R.ap,fun i a c h1 h2=>?_⟩
 ·by_cases e:a=p
  ·exact ⟨o,by rw [e]; exact Qv,U⟩
  ·obtain ⟨u,q,n⟩:=R.hd a Y;exact ⟨u,by rw [Qa e]; exact q,n⟩
 ·have q:=R.cell i a c h1 h2;have ne:a≠p:=fun z=>R.ap p h (by rw [<- z]; exact E3 h1)
  cases c with
  | lst ps=>
   obtain ⟨vs,J,I⟩:=q;exact ⟨vs,by rw [Qa ne]; exact J,I.rehide h⟩
  | dic ps=>
   obtain ⟨vs,J,I⟩:=q;exact ⟨vs,by rw [Qa ne]; exact J,I.1,I.2.rehide h⟩
  | dtp ps=>
   obtain ⟨vs,J,I⟩:=q;exact ⟨vs,by rw [Qa ne]; exact J,I.1,I.2.rehide h⟩
  | frd ps=>
   obtain ⟨vs,⟨O,J⟩,I⟩:=q;exact ⟨vs,⟨O,by rw [Qa ne]; exact J⟩,I.1,I.2.rehide h⟩
  | obj C ps=>
   obtain ⟨vs,⟨O,J⟩,I⟩:=q;exact ⟨vs,⟨O,by rw [Qa ne]; exact J⟩,I.1,I.2.rehide h⟩
theorem Rel.unhide (J:∀ a,a∈hs->a∈ρ.hid) (R:Rel H ρ st):Rel H ⟨ρ.tr,hs⟩ st:=by
 refine ⟨R.len,R.nd,fun a O=>R.hd a (J a O),fun a O=>R.ap a (J a O),fun i a c h1 h2=>?_⟩;have q:=R.cell i a c h1 h2;cases c with
 | lst ps=>
  obtain ⟨vs,I,z⟩:=q;exact ⟨vs,I,RepL.unhide J z⟩
 | dic ps=>
  obtain ⟨vs,I,z⟩:=q;exact ⟨vs,I,z.1,RepL.unhide J z.2⟩
 | dtp ps=>
  obtain ⟨vs,I,z⟩:=q;exact ⟨vs,I,z.1,RepL.unhide J z.2⟩
 | frd ps=>
  obtain ⟨vs,I,z⟩:=q;exact ⟨vs,I,z.1,RepL.unhide J z.2⟩
 | obj C ps=>
  obtain ⟨vs,I,z⟩:=q;exact ⟨vs,I,z.1,RepL.unhide J z.2⟩
theorem Ext.hide (h:H p=none):Ext H ρ (upd H p o) (ρ.hide p) where
 pre:=List.prefix_refl _
 hidM:=fun _ h=>O4 _ h
 hidN:=fun a q=>by
  rcases D7.mp q with rfl | q
  ·exact .inr h
  ·exact .inl q
 keep:=fun a u e _=>by rw [Qa (Qb e h)]; exact e
 new:=fun a e=>.inl e
 old:=fun a u e=>⟨u,by rw [Qa (Qb e h)]; exact e⟩
 frz:=fun a o u e=>by rw [Qa (Qb e h)]; exact e
theorem Ext.put0 {H1:Hp} {ρ1:Tk} (x:Ext H ρ H1 ρ1) (h:H p=none):Ext H ρ (upd H1 p o) ρ1 where
 pre:=x.pre
 hidM:=x.hidM
 hidN:=x.hidN
 keep:=fun a u e n=>by rw [Qa (Qb e h)]; exact x.keep a u e n
 new:=x.new
 old:=fun a u e=>by rw [Qa (Qb e h)]; exact x.old a u e
 frz:=fun a o u e=>by rw [Qa (Qb e h)]; exact x.frz a o u e
theorem Ext.unhide {H1:Hp} {ρ1:Tk} (x:Ext H ρ H1 ρ1):Ext H ρ H1 ⟨ρ1.tr,ρ.hid⟩ where
 pre:=x.pre
 hidM:=fun _ h=>h
 hidN:=fun _ h=>.inl h
 keep:=x.keep
 new:=x.new
 old:=x.old
 frz:=x.frz
def EnvR (H:Hp) (ρ:Tk) (Γ:Gam) (σ:St):Prop:=Γ.length=σ.length/\∀ (i:Nat) (p:PV),Γ[i]?=some (some p)->∃ v,σ[i]?=some (some v)/\Rep H ρ p v
theorem EnvR.ext {ρ':Tk} (x:Ext H ρ H' ρ') (h:EnvR H ρ Γ σ):EnvR H' ρ' Γ σ:=
 ⟨h.1,fun i p e=>let ⟨v,a,b⟩:=h.2 i p e; ⟨v,a,b.ext x⟩⟩
theorem EnvR.hide (n:H a=none) (h:EnvR H ρ Γ σ):EnvR (upd H a o) (ρ.hide a) Γ σ:=⟨h.1,fun i p e=>let ⟨v,a,b⟩:=h.2 i p e; ⟨v,a,b.hide n⟩⟩
theorem EnvR.rehide (n:a∈ρ.hid) (h:EnvR H ρ Γ σ):EnvR (upd H a o) ρ Γ σ:=⟨h.1,fun i p e=>let ⟨v,a,b⟩:=h.2 i p e; ⟨v,a,b.rehide n⟩⟩
theorem EnvR.set {p:PV} (h:EnvR H ρ Γ σ) (r:Rep H ρ p v) (i:Nat):EnvR H ρ (Γ.set i (some p)) (σ.set i (some v)):=by
 refine ⟨by rw [L6,L6]; exact h.1,fun j q e=>?_⟩;rw [List.getElem?_set] at e;rw [List.getElem?_set]
 by_cases I:i=j
 ·subst I;simp only [if_true] at e ⊢
  by_cases z:i < Γ.length
  ·rw [bT z] at e; cases e;rw [bT (by rw [<- h.1]; exact z)];exact ⟨v,rfl,r⟩
  ·rw [bU z] at e; cases e
 ·rw [bU I] at e ⊢;exact h.2 j q e
end
def Res.bind {α β:Type} (r:Res α) (f:α->Q0->Res β):Res β:=match r with
 | .ok a st=>f a st
 | .exc x st=>.exc x st
 | .stuck=>.stuck
def okO {α:Type} (st:Q0):Option α->Res α
 | some a=>.ok a st
 | none=>.stuck
section
variable (X:Cx)
def WE (e:aH):TE:=fun σ H Q=>∀ (pins:List (aB × Obj)) (s:aC),Inv X pins σ H s->aF (aI X.prog X.w) X.A (aO e X.env) (EP X pins σ Q) X.xe s
def WT (e:aH):TT:=fun σ H Q=>∀ (pins:List (aB × Obj)) (s:aC),Inv X pins σ H s->aF (aI X.prog X.w) X.A (isTrue e X.env (aO e X.env)) (TP X pins σ Q) X.xe s
def WW (e:aH):TT:=fun σ H Q=>∀ (wh:Sem aA) (pins:List (aB × Obj)) (s:aC),Inv X pins σ H s->aF (aI X.prog X.w) X.A (isTrue e X.env wh) (TP X pins σ Q) X.xe s
def WA (es:List aH):TA:=fun σ H Q=>∀ (pos:Pos) (pins:List (aB × Obj)) (s:aC),Inv X pins σ H s->aF (aI X.prog X.w) X.A (spliced (aY pos (aN es X.env))) (AP X pins σ Q) X.xe s
def WS (st:aL):TS:=fun D σ H=>∀ (pins:List (aB × Obj)) (s:aC),Inv X pins σ H s->aF (aI X.prog X.w) X.A (exec st X.env) (SP X pins D) X.xe s
def WB (st:List aL):TS:=fun D σ H=>∀ (pins:List (aB × Obj)) (s:aC),Inv X pins σ H s->aF (aI X.prog X.w) X.A (execs st X.env) (SP X pins D) X.xe s
def WI (tg iter : aH) : TI := fun σ H R => ∀ (pins : List (aB × Obj)) (s : aC), Inv X pins σ H s ->
  aF (aI X.prog X.w) X.A (aO iter X.env) (fun v s1=>aF (aI X.prog X.w) X.A (pyIter v) (PIE X pins σ tg R) X.xe s1) X.xe s
def WO (f:aA->aA->Sem aA):R2:=fun x y H Q=>∀ (pins:List (aB × Obj)) (s:aC) (σ:St) (v u:aA),Inv X pins σ H s->RelV x v->RelV y u->aF (aI X.prog X.w) X.A (f v u) (EP X pins σ Q) X.xe s
def WC (f:aA):List V->Hp->VK->Prop:=fun xs H Q=>∀ (pins:List (aB × Obj)) (s:aC) (σ:St) (us:List aA),Inv X pins σ H s->Vals xs us->aF (aI X.prog X.w) X.A (call f us) (EP X pins σ Q) X.xe s
end
variable {X:Cx}
theorem J4 :PE X e (WE X e):=fun pins s _ _ _ I h=>h pins s I
theorem Qcc :PT X e (WT X e):=fun pins s _ _ _ I h=>h pins s I
theorem Qxa :PW X e (WW X e):=fun q pins s _ _ _ I h=>h q pins s I
theorem Q1h :PA X es (WA X es):=fun pos pins s _ _ _ I h=>h pos pins s I
theorem Qtq {st:aL}:PS X st (WS X st):=fun pins s _ _ _ I h=>h pins s I
theorem Q1a {st:List aL}:PSs X st (WB X st):=fun pins s _ _ _ I h=>h pins s I
theorem Qpz {tg iter:aH}:PI X tg iter (WI X tg iter):=fun pins s _ _ _ I h=>h pins s I
theorem Q8v :OpR X f (WO X f):=fun pins s σ _ _ _ v u _ I q z h=>h pins s σ v u I q z
theorem Qi0 {f:aA}:W6 X f (WC X f):=fun pins s σ _ _ us _ I r h=>h pins s σ us I r
theorem WE.of {t:TE} {Q:VK} (h:PE X e t) (q:t σ H Q):WE X e σ H Q:=fun pins s I=>h pins s σ H Q I q
theorem WT.of {t:TT} (h:PT X e t) (q:t σ H Q):WT X e σ H Q:=fun pins s I=>h pins s σ H Q I q
theorem WW.of {t:TT} (h:PW X e t) (q:t σ H Q):WW X e σ H Q:=fun z pins s I=>h z pins s σ H Q I q
theorem WA.of {t:TA} {Q:List V->Hp->Prop} (h:PA X es t) (q:t σ H Q):WA X es σ H Q:=fun pos pins s I=>h pos pins s σ H Q I q
theorem WS.of {st:aL} {t:TS} (h:PS X st t) (q:t D σ H):WS X st D σ H:=fun pins s I=>h pins s σ H D I q
theorem WB.of {st:List aL} {t:TS} (h:PSs X st t) (q:t D σ H):WB X st D σ H:=fun pins s I=>h pins s σ H D I q
theorem WI.of {tg iter:aH} {t:TI} {R:It->Hp->Prop} (h:PI X tg iter t) (q:t σ H R):WI X tg iter σ H R:=fun pins s I=>h pins s σ H R I q
theorem WO.of {r:R2} {x y:V} {Q:VK} (h:OpR X f r) (q:r x y H Q):WO X f x y H Q:=fun pins s σ v u I z J=>h pins s σ H x y v u Q I z J q
theorem WC.of {f:aA} {r:List V->Hp->VK->Prop} {xs:List V} {Q:VK} (h:W6 X f r) (q:r xs H Q):WC X f xs H Q:=fun pins s σ us I z=>h pins s σ H xs us Q I z q
def XFs (H:Hp) (ρ:Tk):Option (Str × PV)->Option aB->Prop
 | none,dv=>dv=none
 | some (n,p),dv=>∃ dx v,dv=some dx/\H dx=some (.xd [(n,v)])/\dx∉ρ/\Rep H ρ p v
def Acc {α:Type} (mg:Str->Option aA) (E:XK) (H:Hp) (ρ:Tk) (P:α->Q0->Hp->Tk->Prop):Res α->Prop
 | .ok a st=>∀ H' ρ',Ext H ρ H' ρ'->Rel H' ρ' st->P a st H' ρ'
 | .exc x st=>∀ C dv H' ρ',mg x.cls=some (.ref C)->Ext H ρ H' ρ'->Rel H' ρ' st->XFs H' ρ' x.fs dv->E (.ref C) dv H'
 | .stuck=>False
variable {α β:Type} {mg:Str->Option aA} {E:XK} {H H1:Hp} {ρ ρ1:Tk}
theorem Acc.mono {P I:α->Q0->Hp->Tk->Prop} {r:Res α} (h:Acc mg E H ρ P r) (x:Ext H ρ H1 ρ1) (k:∀ a st H' ρ',P a st H' ρ'->I a st H' ρ'):Acc mg E H1 ρ1 I r:=by
 cases r with
 | ok a st=>exact fun H' ρ' z q=>k _ _ _ _ (h H' ρ' (x.trans z) q)
 | exc e st=>exact fun C J H' ρ' m z q f=>h C J H' ρ' m (x.trans z) q f
 | stuck=>exact h
theorem Acc.later {P:α->Q0->Hp->Tk->Prop} {r:Res α} (h:Acc mg E H ρ P r) (x:Ext H ρ H1 ρ1):Acc mg E H1 ρ1 P r:=h.mono x fun _ _ _ _ p=>p
theorem Acc.bind {P:β->Q0->Hp->Tk->Prop} {r:Res α} {f:α->Q0->Res β} (h:Acc mg E H ρ P (r.bind f)):Acc mg E H ρ (fun a q H1 ρ1=>Acc mg E H1 ρ1 P (f a q)) r:=by
 cases r with
 | ok a st=>exact fun H' ρ' z I=>Acc.later (show Acc mg E H ρ P (f a st) from h) z
 | exc e st=>exact h
 | stuck=>exact h
abbrev QV (Q:VK):PV->Q0->Hp->Tk->Prop:=fun p _ H' ρ'=>∀ v,Rep H' ρ' p v->Q v H'
abbrev QL (Q:List V->Hp->Prop):List PV->Q0->Hp->Tk->Prop:=fun ps _ H' ρ'=>∀ vs,RepL H' ρ' ps vs->Q vs H'
abbrev QB (Q:Bool->Hp->Prop):Bool->Q0->Hp->Tk->Prop:=fun b _ H' _=>Q b H'
structure SimE (X:Cx) (E:XK) (e:aH) (m:ME):Prop where
 run:∀ (Γ:Gam) (σ:St) (H:Hp) (ρ:Tk) (st:Q0) (Q:VK),Rel H ρ st->EnvR H ρ Γ σ->Acc X.mg E H ρ (QV Q) (m Γ st)->WE X e σ H Q
structure SimT (X:Cx) (E:XK) (e:aH) (m:Gam->Q0->Res Bool):Prop where
 run:∀ (Γ:Gam) (σ:St) (H:Hp) (ρ:Tk) (st:Q0) (Q:Bool->Hp->Prop),Rel H ρ st->EnvR H ρ Γ σ->Acc X.mg E H ρ (QB Q) (m Γ st)->WT X e σ H Q
structure SimW (X:Cx) (E:XK) (e:aH) (m:Gam->Q0->Res Bool):Prop where
 run:∀ (Γ:Gam) (σ:St) (H:Hp) (ρ:Tk) (st:Q0) (Q:Bool->Hp->Prop),Rel H ρ st->EnvR H ρ Γ σ->Acc X.mg E H ρ (QB Q) (m Γ st)->WW X e σ H Q
structure SimA (X:Cx) (E:XK) (es:List aH) (m:Gam->Q0->Res (List PV)):Prop where
 run:∀ (Γ:Gam) (σ:St) (H:Hp) (ρ:Tk) (st:Q0) (Q:List V->Hp->Prop),Rel H ρ st->EnvR H ρ Γ σ->Acc X.mg E H ρ (QL Q) (m Γ st)->WA X es σ H Q
abbrev OP:=Q0->PV->PV->Res PV
structure OpS (X:Cx) (E:XK) (f:aA->aA->Sem aA) (o:OP):Prop where
 run:∀ (H:Hp) (ρ:Tk) (st:Q0) (p q:PV) (x y:V) (Q:VK),Rel H ρ st->Rep H ρ p x->Rep H ρ q y->Acc X.mg E H ρ (QV Q) (o st p q)->WO X f x y H Q
abbrev CF:=Q0->List PV->Res PV
structure CallS (X:Cx) (E:XK) (f:aA) (o:CF):Prop where
 run:∀ (H:Hp) (ρ:Tk) (st:Q0) (ps:List PV) (xs:List V) (Q:VK),Rel H ρ st->RepL H ρ ps xs->Acc X.mg E H ρ (QV Q) (o st ps)->WC X f xs H Q
variable {Γ:Gam} {σ:St} {st:Q0}
theorem SimE.use {m:ME} (s:SimE X E e m) {P:PV->Q0->Hp->Tk->Prop} {Q:VK} (R:Rel H ρ st) (G:EnvR H ρ Γ σ) (h:Acc X.mg E H ρ P (m Γ st))
  (k:∀ p q H1 ρ1 v,Ext H ρ H1 ρ1->Rel H1 ρ1 q->EnvR H1 ρ1 Γ σ->Rep H1 ρ1 p v->P p q H1 ρ1->Q v H1):WE X e σ H Q:=by
 refine s.run Γ σ H ρ st Q R G ?_;cases r:m Γ st with
 | ok p q=>rw [r] at h; exact fun H' ρ' z I v J=>k p q H' ρ' v z I (G.ext z) J (h H' ρ' z I)
 | exc e st=>rw [r] at h; exact h
 | stuck=>rw [r] at h; exact h
theorem SimE.use' {m:ME} (s:SimE X E e m) {P:PV->Q0->Hp->Tk->Prop} {Q:VK} (R:Rel H ρ st) (G:EnvR H ρ Γ σ) (h:Acc X.mg E H ρ P (m Γ st))
  (k:∀ p q H1 ρ1 v,m Γ st=.ok p q->Ext H ρ H1 ρ1->Rel H1 ρ1 q->EnvR H1 ρ1 Γ σ->Rep H1 ρ1 p v->P p q H1 ρ1->Q v H1):WE X e σ H Q:=by
 refine s.run Γ σ H ρ st Q R G ?_;cases r:m Γ st with
 | ok p q=>rw [r] at h; exact fun H' ρ' z I v J=>k p q H' ρ' v r z I (G.ext z) J (h H' ρ' z I)
 | exc e st=>rw [r] at h; exact h
 | stuck=>rw [r] at h; exact h
theorem SimA.use' {m:Gam->Q0->Res (List PV)} (s:SimA X E es m) {P:List PV->Q0->Hp->Tk->Prop} {Q:List V->Hp->Prop} (R:Rel H ρ st) (G:EnvR H ρ Γ σ) (h:Acc X.mg E H ρ P (m Γ st))
  (k:∀ ps q H1 ρ1 vs,m Γ st=.ok ps q->Ext H ρ H1 ρ1->Rel H1 ρ1 q->EnvR H1 ρ1 Γ σ->RepL H1 ρ1 ps vs->P ps q H1 ρ1->Q vs H1):WA X es σ H Q:=by
 refine s.run Γ σ H ρ st Q R G ?_;cases r:m Γ st with
 | ok p q=>rw [r] at h; exact fun H' ρ' z I v J=>k p q H' ρ' v r z I (G.ext z) J (h H' ρ' z I)
 | exc e st=>rw [r] at h; exact h
 | stuck=>rw [r] at h; exact h
theorem SimT.use {m:Gam->Q0->Res Bool} (s:SimT X E e m) {P:Bool->Q0->Hp->Tk->Prop} {Q:Bool->Hp->Prop} (R:Rel H ρ st) (G:EnvR H ρ Γ σ) (h:Acc X.mg E H ρ P (m Γ st))
  (k:∀ p q H1 ρ1,Ext H ρ H1 ρ1->Rel H1 ρ1 q->EnvR H1 ρ1 Γ σ->P p q H1 ρ1->Q p H1):WT X e σ H Q:=by
 refine s.run Γ σ H ρ st Q R G ?_;cases r:m Γ st with
 | ok p q=>rw [r] at h; exact fun H' ρ' z I=>k p q H' ρ' z I (G.ext z) (h H' ρ' z I)
 | exc e st=>rw [r] at h; exact h
 | stuck=>rw [r] at h; exact h
theorem SimT.use' {m:Gam->Q0->Res Bool} (s:SimT X E e m) {P:Bool->Q0->Hp->Tk->Prop} {Q:Bool->Hp->Prop} (R:Rel H ρ st) (G:EnvR H ρ Γ σ) (h:Acc X.mg E H ρ P (m Γ st))
  (k:∀ p q H1 ρ1,m Γ st=.ok p q->Ext H ρ H1 ρ1->Rel H1 ρ1 q->EnvR H1 ρ1 Γ σ->P p q H1 ρ1->Q p H1):WT X e σ H Q:=by
 refine s.run Γ σ H ρ st Q R G ?_;cases r:m Γ st with
 | ok p q=>rw [r] at h; exact fun H' ρ' z I=>k p q H' ρ' r z I (G.ext z) (h H' ρ' z I)
 | exc e st=>rw [r] at h; exact h
 | stuck=>rw [r] at h; exact h
theorem SimW.use {m:Gam->Q0->Res Bool} (s:SimW X E e m) {P:Bool->Q0->Hp->Tk->Prop} {Q:Bool->Hp->Prop} (R:Rel H ρ st) (G:EnvR H ρ Γ σ) (h:Acc X.mg E H ρ P (m Γ st))
  (k:∀ p q H1 ρ1,Ext H ρ H1 ρ1->Rel H1 ρ1 q->EnvR H1 ρ1 Γ σ->P p q H1 ρ1->Q p H1):WW X e σ H Q:=by
 refine s.run Γ σ H ρ st Q R G ?_;cases r:m Γ st with
 | ok p q=>rw [r] at h; exact fun H' ρ' z I=>k p q H' ρ' z I (G.ext z) (h H' ρ' z I)
 | exc e st=>rw [r] at h; exact h
 | stuck=>rw [r] at h; exact h
theorem SimA.use {m:Gam->Q0->Res (List PV)} (s:SimA X E es m) {P:List PV->Q0->Hp->Tk->Prop} {Q:List V->Hp->Prop} (R:Rel H ρ st) (G:EnvR H ρ Γ σ) (h:Acc X.mg E H ρ P (m Γ st))
  (k:∀ ps q H1 ρ1 vs,Ext H ρ H1 ρ1->Rel H1 ρ1 q->EnvR H1 ρ1 Γ σ->RepL H1 ρ1 ps vs->P ps q H1 ρ1->Q vs H1):WA X es σ H Q:=by
 refine s.run Γ σ H ρ st Q R G ?_;cases r:m Γ st with
 | ok p q=>rw [r] at h; exact fun H' ρ' z I v J=>k p q H' ρ' v z I (G.ext z) J (h H' ρ' z I)
 | exc e st=>rw [r] at h; exact h
 | stuck=>rw [r] at h; exact h
theorem OpS.use {o:OP} (s:OpS X E f o) {P:PV->Q0->Hp->Tk->Prop} {Q:VK} {p q:PV} {x y:V} (R:Rel H ρ st) (U:Rep H ρ p x) (O:Rep H ρ q y) (h:Acc X.mg E H ρ P (o st p q))
  (k:∀ p z H1 ρ1 v,Ext H ρ H1 ρ1->Rel H1 ρ1 z->Rep H1 ρ1 p v->P p z H1 ρ1->Q v H1):WO X f x y H Q:=by
 refine s.run H ρ st p q x y Q R U O ?_;cases r:o st p q with
 | ok p z=>rw [r] at h; exact fun H' ρ' I J v Y=>k p z H' ρ' v I J Y (h H' ρ' I J)
 | exc e st=>rw [r] at h; exact h
 | stuck=>rw [r] at h; exact h
end Sm
namespace Sm
open PySem PySem.Spec L2 SeqAt
variable {n:Nat} {ps:List PV}
mutual
def peq:PV->PV->Bool
 | .non,.non=>true
 | .bl a,.bl b=>a == b
 | .bl a,.int b=>(if a then 1 else 0) == b
 | .int a,.bl b=>a == (if b then 1 else 0)
 | .int a,.int b=>a == b
 | .str a,.str b=>a == b
 | .tup xs,.tup ys=>peqL xs ys
 | .lst xs,.lst ys=>peqL xs ys
 | .lst xs,.fro ys=>peqL xs ys
 | .fro xs,.lst ys=>peqL xs ys
 | .fro xs,.fro ys=>peqL xs ys
 | _,_=>false
def peqL:List PV->List PV->Bool
 | [],[]=>true
 | x :: xs,y :: ys=>peq x y && peqL xs ys
 | _,_=>false
end
def good:Nat->PV->Bool
 | _,.ref _=>false
 | _,.dic=>false
 | 0,.tup _=>false
 | 0,.lst _=>false
 | 0,.fro _=>false
 | n + 1,.tup xs=>xs.all (good n)
 | n + 1,.lst xs=>xs.all (good n)
 | n + 1,.fro xs=>xs.all (good n)
 | _,_=>true
theorem Q1d:∀ {xs ys:List PV},xs.length≠ys.length->peqL xs ys=false
 | [],[],h=>absurd rfl h
 | [],_ :: _,_=>by simp [peqL]
 | _ :: _,[],_=>by simp [peqL]
 | x :: xs,y :: ys,h=>by
  rw [peqL,Q1d (xs:=xs) (ys:=ys) fun e=>h (by simp [e]),Bool.and_false]
theorem Q1e:∀ {xs ys:List PV},xs.length=ys.length->peqL xs ys=(List.range xs.length).all fun j=>peq (xs.getD j .non) (ys.getD j .non)
 | [],[],_=>by simp [peqL]
 | [],_ :: _,h=>by simp at h
 | _ :: _,[],h=>by simp at h
 | x :: xs,y :: ys,h=>by
  rw [peqL,Q1e (xs:=xs) (ys:=ys) (by simpa using h),O9,List.range_succ_eq_map,List.all_cons,List.all_map];rfl
variable {X:Cx} {pins:List (aB × Obj)} {σ:St} {H:Hp} {s:aC} {ρ:Tk}
mutual
theorem Q6d:∀ {p q:PV} {x:V} {n:Nat},good n p=true->good n q=true->Rep H ρ p x->Rep H ρ q x->peq p q=true
 | .non,q,x,n,_,J,h1,h2=>by
  cases h1;cases q <;> first | rfl | (cases n <;> cases J; done) | (cases h2; done) | (obtain ⟨_,_,e,_⟩:=h2; cases e) | (obtain ⟨_,_,e⟩:=h2; cases e)
 | .bl b,q,x,n,_,J,h1,h2=>by
  cases h1;cases q <;> first | (cases n <;> cases J; done) | (cases h2; simp [peq]; done) | (obtain ⟨_,_,e,_⟩:=h2; done) | (obtain ⟨_,_,e,_⟩:=h2; cases e; done) | (obtain ⟨_,_,e⟩:=h2; cases e)
 | .int b,q,x,n,_,J,h1,h2=>by
  cases h1;cases q <;> first | (cases n <;> cases J; done) | (cases h2; simp [peq]; done) | (obtain ⟨_,_,e,_⟩:=h2; done) | (obtain ⟨_,_,e,_⟩:=h2; cases e; done) | (obtain ⟨_,_,e⟩:=h2; cases e)
 | .str b,q,x,n,_,J,h1,h2=>by
  cases h1;cases q <;> first | (cases n <;> cases J; done) | (cases h2; simp [peq]; done) | (obtain ⟨_,_,e,_⟩:=h2; done) | (obtain ⟨_,_,e,_⟩:=h2; cases e; done) | (obtain ⟨_,_,e⟩:=h2; cases e)
 | .tup ps,q,x,0,O,_,_,_=>by cases O
 | .tup ps,q,x,n + 1,O,J,⟨a,vs,e,I,_,r⟩,h2=>by
  subst e;cases q with
  | tup Y=>
   obtain ⟨b,us,e,z,_,U⟩:=h2;cases e;rw [I] at z; cases z;rw [peq];exact repL_same O J r U
  | lst Y=>obtain ⟨b,us,e,z,_⟩:=h2; cases e; rw [I] at z; cases z
  | fro Y=>obtain ⟨b,us,e,z,_⟩:=h2; cases e; rcases z with z | ⟨o,z⟩ <;> (rw [I] at z; cases z)
  | ref i=>cases J
  | dic=>cases J
  | _=>cases h2
 | .lst ps,q,x,0,O,_,_,_=>by cases O
 | .lst ps,q,x,n + 1,O,J,⟨a,vs,e,I,_,r⟩,h2=>by
  subst e;cases q with
  | lst Y=>
   obtain ⟨b,us,e,z,_,U⟩:=h2;cases e;rw [I] at z; cases z;rw [peq];exact repL_same O J r U
  | tup Y=>obtain ⟨b,us,e,z,_⟩:=h2; cases e; rw [I] at z; cases z
  | fro Y=>
   obtain ⟨b,us,e,z,_,U⟩:=h2;cases e;rcases z with z | ⟨o,z⟩
   ·rw [I] at z; cases z;rw [peq];exact repL_same O J r U
   ·rw [I] at z; cases z
  | ref i=>cases J
  | dic=>cases J
  | _=>cases h2
 | .fro ps,q,x,0,O,_,_,_=>by cases O
 | .fro ps,q,x,n + 1,O,J,⟨a,vs,e,I,_,r⟩,h2=>by
  subst e;cases q with
  | lst Y=>
   obtain ⟨b,us,e,z,_,U⟩:=h2;cases e;rcases I with I | ⟨o,I⟩
   ·rw [I] at z; cases z;rw [peq];exact repL_same O J r U
   ·rw [I] at z; cases z
  | tup Y=>obtain ⟨b,us,e,z,_⟩:=h2; cases e; rcases I with I | ⟨o,I⟩ <;> (rw [I] at z; cases z)
  | fro Y=>
   obtain ⟨b,us,e,z,_,U⟩:=h2;cases e;have:vs=us:=by
    rcases I with I | ⟨o,I⟩ <;> rcases z with z | ⟨o',z⟩ <;> (rw [I] at z; cases z) <;> rfl
   subst this;rw [peq];exact repL_same O J r U
  | ref i=>cases J
  | dic=>cases J
  | _=>cases h2
 | .ref i,_,_,n,O,_,_,_=>by cases n <;> cases O
 | .dic,_,_,n,O,_,_,_=>by cases n <;> cases O
theorem repL_same:∀ {ps z:List PV} {vs:List V} {n:Nat},ps.all (good n)=true->z.all (good n)=true->RepL H ρ ps vs->RepL H ρ z vs->peqL ps z=true
 | [],z,vs,n,_,_,h1,h2=>by
  cases h1;cases z with
  | nil=>rfl
  | cons q z=>obtain ⟨_,_,e,_⟩:=h2; cases e
 | p :: ps,z,vs,n,I,g2,⟨v,r,e,h1,O⟩,h2=>by
  subst e;cases z with
  | nil=>cases h2
  | cons q z=>
   obtain ⟨_,_,e,h2,J⟩:=h2;cases e;rw [List.all_cons,E9] at I g2;rw [peqL,Q6d I.1 g2.1 h1 h2,repL_same I.2 g2.2 O J]; rfl
end
inductive Kd (H:Hp) (ρ:Tk) (s:aC):PV->aA->Prop where
 | non:Kd H ρ s .non .none
 | bl (b):Kd H ρ s (.bl b) (.bool b)
 | int (i t):Kd H ρ s (.int i) (.int i t)
 | str (x t):Kd H ρ s (.str x) (.str x t)
 | tup (ps a) (vs:List V) (its:List aA):H a=some (.tup vs)->RepL H ρ ps vs->Vals vs its->s.heap.IsTuple a its.toArray->Kd H ρ s (.tup ps) (.ref a)
 | lst (p ps a) (vs:List V) (its:List aA):(p=.lst ps\/p=.fro ps)->RepL H ρ ps vs->Vals vs its->s.heap.IsList a its.toArray->Kd H ρ s p (.ref a)
theorem Qaz {p:PV} {x:V} {u:aA} (I:Inv X pins σ H s) (g:good n p=true) (r:Rep H ρ p x) (ru:RelV x u):Kd H ρ s p u:=by
 cases p with
 | non=>cases r; cases ru; exact .non
 | bl b=>cases r; cases ru; exact .bl b
 | int i=>cases r; obtain ⟨t,rfl⟩:=ru; exact .int i t
 | str i=>cases r; obtain ⟨t,rfl⟩:=ru; exact .str i t
 | tup ps=>
  obtain ⟨a,vs,rfl,q,_,J⟩:=r;cases ru;obtain ⟨its,z,O,_⟩:=I.tuple (SqT.of (K:=X.K) q);exact .tup ps a vs its q J z O
 | lst ps=>
  obtain ⟨a,vs,rfl,q,_,J⟩:=r;cases ru;obtain ⟨its,z,O,_⟩:=I.list (SqL.of (K:=X.K) q);exact .lst _ ps a vs its (.inl rfl) J z O.isList
 | fro ps=>
  obtain ⟨a,vs,rfl,q,_,J⟩:=r;cases ru;obtain ⟨its,z,O,_⟩:=I.list (show SqL X.K H a vs from .inl q);exact .lst _ ps a vs its (.inr rfl) J z O.isList
 | ref i=>cases n <;> cases g
 | dic=>cases n <;> cases g
theorem Ky {vs:List V} {its:List aA} (r:RepL H ρ ps vs) (v:Vals vs its) {j:Nat} (h:j < its.length):∃ x,Rep H ρ (ps.getD j .non) x/\RelV x its[j]:=by
 have Y:=r.length;have U:=v.length;have q:j < ps.length:=by omega
 obtain ⟨x,J,I⟩:=r.get (O2 q);obtain ⟨u,z,O⟩:=v.get J;rw [O2 h] at z; cases z;refine ⟨x,?_,O⟩;rw [List.getD,O2 q];exact I
theorem Kx (g:ps.all (good n)=true) (j:Nat) (q:j < ps.length):good n (ps.getD j .non)=true:=by
 rw [List.getD,O2 q];exact (F0.mp g) _ (M9 q)
theorem Q8t {q:List PV}:((List.range (min ps.length q.length)).all (fun j=>peq (ps.getD j .non) (q.getD j .non)) && ps.length == q.length)=peqL ps q:=by
 by_cases e:ps.length=q.length
 ·rw [Q1e e,<- e,Nat.min_self,beq_self_eq_true,Bool.and_true]
 ·rw [Q1d e,beq_eq_false_iff_ne.mpr e,Bool.and_false]
theorem Q7k:∀ (n:Nat) {A:aM} {p q:PV} {x y:V} {u v:aA},Inv X pins σ H s->good n p=true->good n q=true->A.units + n < aP->Rep H ρ p x->RelV x u->Rep H ρ q y->RelV y v ->
  EqAt A s u v (peq p q)/\RcAt A s u v (peq p q)/\RcNeAt A s u v (!peq p q):=by
 intro n
 induction n with
 | zero=>
  intro A p q x y u v I gp U hu rp ru rq rv;have k1:=Qaz I gp rp ru;have k2:=Qaz I U rq rv;have hu:A.units < aP:=by omega
  cases k1 with
  | tup=>cases gp
  | lst p ps a vs its h=>rcases h with rfl | rfl <;> cases gp
  | non=>cases k2 with
   | tup=>cases U
   | lst p ps a vs its h=>rcases h with rfl | rfl <;> cases U
   | non=>exact ⟨EqAt.same _,RcAt.none_none,RcNeAt.none_none⟩
   | bl b=>exact ⟨EqAt.none_bool _,RcAt.none_bool _,RcNeAt.none_bool _⟩
   | int i t=>exact ⟨EqAt.none_int _ _,RcAt.none_int _ _,RcNeAt.none_int _ _⟩
   | str i t=>exact ⟨EqAt.none_str _ _,RcAt.none_str _ _,RcNeAt.none_str _ _⟩
  | bl a=>cases k2 with
   | tup=>cases U
   | lst p ps a vs its h=>rcases h with rfl | rfl <;> cases U
   | non=>exact ⟨EqAt.bool_none _,RcAt.bool_none _,RcNeAt.bool_none _⟩
   | bl b=>exact ⟨EqAt.bool_bool _ _,RcAt.bool_bool _ _,RcNeAt.bool_bool _ _⟩
   | int i t=>exact ⟨EqAt.bool_int _ _ _,RcAt.bool_int _ _ _,RcNeAt.bool_int _ _ _⟩
   | str i t=>exact ⟨EqAt.bool_str _ _ _,RcAt.bool_str _ _ _,RcNeAt.bool_str _ _ _⟩
  | int a a4=>cases k2 with
   | tup=>cases U
   | lst p ps a vs its h=>rcases h with rfl | rfl <;> cases U
   | non=>exact ⟨EqAt.int_none _ _,RcAt.int_none _ _,RcNeAt.int_none _ _⟩
   | bl b=>exact ⟨EqAt.int_bool _ _ _,RcAt.int_bool _ _ _,RcNeAt.int_bool _ _ _⟩
   | int i t=>exact ⟨EqAt.int_int _ _ _ _,RcAt.int_int _ _ _ _,RcNeAt.int_int _ _ _ _⟩
   | str i t=>exact ⟨EqAt.int_str _ _ _ _,RcAt.int_str _ _ _ _,RcNeAt.int_str _ _ _ _⟩
  | str a a4=>cases k2 with
   | tup=>cases U
   | lst p ps a vs its h=>rcases h with rfl | rfl <;> cases U
   | non=>exact ⟨EqAt.str_none _ _,RcAt.str_none _ _,RcNeAt.str_none _ _⟩
   | bl b=>exact ⟨EqAt.str_bool _ _ _,RcAt.str_bool _ _ _,RcNeAt.str_bool _ _ _⟩
   | int i t=>exact ⟨EqAt.str_int _ _ _ _,RcAt.str_int _ _ _ _,RcNeAt.str_int _ _ _ _⟩
   | str i t=>exact ⟨EqAt.str_str _ _ _ _,RcAt.str_str _ _ _ _,RcNeAt.str_str _ _ _ _⟩
 | succ n ih=>
  intro A p q x y u v I gp U hu rp ru rq rv;have k1:=Qaz I gp rp ru;have k2:=Qaz I U rq rv;have z:A.units < aP:=by omega
  have a5:A.in1.units + n < aP:=by show A.units + 1 + n < aP; omega
  cases k1 with
  | non=>cases k2 with
   | non=>exact ⟨EqAt.same _,RcAt.none_none,RcNeAt.none_none⟩
   | bl b=>exact ⟨EqAt.none_bool _,RcAt.none_bool _,RcNeAt.none_bool _⟩
   | int i t=>exact ⟨EqAt.none_int _ _,RcAt.none_int _ _,RcNeAt.none_int _ _⟩
   | str i t=>exact ⟨EqAt.none_str _ _,RcAt.none_str _ _,RcNeAt.none_str _ _⟩
   | tup ps a vs its ha r Z J=>exact ⟨EqAt.none_tuple J z,RcAt.none_tuple J z,RcNeAt.none_tuple J z⟩
   | lst p ps a vs its h r Z J=>rcases h with rfl | rfl <;> exact ⟨EqAt.none_list J z,RcAt.none_list J z,RcNeAt.none_list J z⟩
  | bl a=>cases k2 with
   | non=>exact ⟨EqAt.bool_none _,RcAt.bool_none _,RcNeAt.bool_none _⟩
   | bl b=>exact ⟨EqAt.bool_bool _ _,RcAt.bool_bool _ _,RcNeAt.bool_bool _ _⟩
   | int i t=>exact ⟨EqAt.bool_int _ _ _,RcAt.bool_int _ _ _,RcNeAt.bool_int _ _ _⟩
   | str i t=>exact ⟨EqAt.bool_str _ _ _,RcAt.bool_str _ _ _,RcNeAt.bool_str _ _ _⟩
   | tup ps a vs its ha r Z J=>exact ⟨EqAt.bool_tuple _ J z,RcAt.bool_tuple _ J z,RcNeAt.bool_tuple _ J z⟩
   | lst p ps a vs its h r Z J=>rcases h with rfl | rfl <;> exact ⟨EqAt.bool_list _ J z,RcAt.bool_list _ J z,RcNeAt.bool_list _ J z⟩
  | int a a4=>cases k2 with
   | non=>exact ⟨EqAt.int_none _ _,RcAt.int_none _ _,RcNeAt.int_none _ _⟩
   | bl b=>exact ⟨EqAt.int_bool _ _ _,RcAt.int_bool _ _ _,RcNeAt.int_bool _ _ _⟩
   | int i t=>exact ⟨EqAt.int_int _ _ _ _,RcAt.int_int _ _ _ _,RcNeAt.int_int _ _ _ _⟩
   | str i t=>exact ⟨EqAt.int_str _ _ _ _,RcAt.int_str _ _ _ _,RcNeAt.int_str _ _ _ _⟩
   | tup ps a vs its ha r Z J=>exact ⟨EqAt.int_tuple _ _ J z,RcAt.int_tuple _ _ J z,RcNeAt.int_tuple _ _ J z⟩
   | lst p ps a vs its h r Z J=>rcases h with rfl | rfl <;> exact ⟨EqAt.int_list _ _ J z,RcAt.int_list _ _ J z,RcNeAt.int_list _ _ J z⟩
  | str a a4=>cases k2 with
   | non=>exact ⟨EqAt.str_none _ _,RcAt.str_none _ _,RcNeAt.str_none _ _⟩
   | bl b=>exact ⟨EqAt.str_bool _ _ _,RcAt.str_bool _ _ _,RcNeAt.str_bool _ _ _⟩
   | int i t=>exact ⟨EqAt.str_int _ _ _ _,RcAt.str_int _ _ _ _,RcNeAt.str_int _ _ _ _⟩
   | str i t=>exact ⟨EqAt.str_str _ _ _ _,RcAt.str_str _ _ _ _,RcNeAt.str_str _ _ _ _⟩
   | tup ps a vs its ha r Z J=>exact ⟨EqAt.str_tuple _ _ J z,RcAt.str_tuple _ _ J z,RcNeAt.str_tuple _ _ J z⟩
   | lst p ps a vs its h r Z J=>rcases h with rfl | rfl <;> exact ⟨EqAt.str_list _ _ J z,RcAt.str_list _ _ J z,RcNeAt.str_list _ _ J z⟩
  | tup ps a vs its ha r Z J=>cases k2 with
   | non=>exact ⟨EqAt.tuple_none J z,RcAt.tuple_none J z,RcNeAt.tuple_none J z⟩
   | bl b=>exact ⟨EqAt.tuple_bool _ J z,RcAt.tuple_bool _ J z,RcNeAt.tuple_bool _ J z⟩
   | int i t=>exact ⟨EqAt.tuple_int _ _ J z,RcAt.tuple_int _ _ J z,RcNeAt.tuple_int _ _ J z⟩
   | str i t=>exact ⟨EqAt.tuple_str _ _ J z,RcAt.tuple_str _ _ J z,RcNeAt.tuple_str _ _ J z⟩
   | tup Y b us O hb r2 v2 p2=>
    have l1:its.toArray.size=ps.length:=by rw [O8,<- Z.length,r.length]
    have l2:O.toArray.size=Y.length:=by rw [O8,<- v2.length,r2.length]
    have he:∀ j (h1:j < its.toArray.size) (h2:j < O.toArray.size),EqAt A.in1 s its.toArray[j] O.toArray[j] (peq (ps.getD j .non) (Y.getD j .non)):=fun j h1 h2=>by
     obtain ⟨x1,a1,b1⟩:=Ky r Z (j:=j) (by simpa using h1);obtain ⟨x2,a2,b2⟩:=Ky r2 v2 (j:=j) (by simpa using h2);exact (ih I (Kx gp j (by omega)) (Kx U j (by omega)) a5 a1 b1 a2 b2).1
    have rc:=RcAt.tuples J p2 z he;have rn:=RcNeAt.tuples J p2 z he;rw [l1,l2,Q8t] at rc rn;refine ⟨?_,rc,rn⟩
    by_cases e:a=b
    ·subst e;have:peqL ps Y=true:=by
      rw [ha] at hb; cases hb;exact repL_same gp U r r2
     show EqAt A s _ _ (peqL ps Y);rw [this];exact EqAt.same _
    ·exact EqAt.of_refs e rc
   | lst q Y b us O h r2 v2 p2=>rcases h with rfl | rfl <;> exact ⟨EqAt.tuple_list J p2 z,RcAt.tuple_list J p2 z,RcNeAt.tuple_list J p2 z⟩
  | lst p ps a vs its h r Z J=>cases k2 with
   | non=>rcases h with rfl | rfl <;> exact ⟨EqAt.list_none J z,RcAt.list_none J z,RcNeAt.list_none J z⟩
   | bl b=>rcases h with rfl | rfl <;> exact ⟨EqAt.list_bool _ J z,RcAt.list_bool _ J z,RcNeAt.list_bool _ J z⟩
   | int i t=>rcases h with rfl | rfl <;> exact ⟨EqAt.list_int _ _ J z,RcAt.list_int _ _ J z,RcNeAt.list_int _ _ J z⟩
   | str i t=>rcases h with rfl | rfl <;> exact ⟨EqAt.list_str _ _ J z,RcAt.list_str _ _ J z,RcNeAt.list_str _ _ J z⟩
   | tup Y b us O hb r2 v2 p2=>rcases h with rfl | rfl <;> exact ⟨EqAt.list_tuple J p2 z,RcAt.list_tuple J p2 z,RcNeAt.list_tuple J p2 z⟩
   | lst q Y b us O h2 r2 v2 p2=>
    have l1:its.toArray.size=ps.length:=by rw [O8,<- Z.length,r.length]
    have l2:O.toArray.size=Y.length:=by rw [O8,<- v2.length,r2.length]
    have a8:ps.all (good n)=true:=by rcases h with rfl | rfl <;> exact gp
    have a7:Y.all (good n)=true:=by rcases h2 with rfl | rfl <;> exact U
    have ep:peq p q=peqL ps Y:=by rcases h with rfl | rfl <;> rcases h2 with rfl | rfl <;> rfl
    have he:∀ j (h1:j < its.toArray.size) (h2:j < O.toArray.size),EqAt A.in1 s its.toArray[j] O.toArray[j] (peq (ps.getD j .non) (Y.getD j .non)):=fun j h1 h2=>by
     obtain ⟨x1,a1,b1⟩:=Ky r Z (j:=j) (by simpa using h1);obtain ⟨x2,a2,b2⟩:=Ky r2 v2 (j:=j) (by simpa using h2);exact (ih I (Kx a8 j (by omega)) (Kx a7 j (by omega)) a5 a1 b1 a2 b2).1
    rw [ep];have a3:RcAt A s (.ref a) (.ref b) (peqL ps Y)/\RcNeAt A s (.ref a) (.ref b) (!peqL ps Y):=by
     by_cases e:ps.length=Y.length
     ·have rc:=RcAt.lists J p2 (by rw [l1,l2,e]) z he;have rn:=RcNeAt.lists J p2 (by rw [l1,l2,e]) z he;rw [l1,<- Q1e e] at rc rn;exact ⟨rc,rn⟩
     ·have e':(its.toArray.size != O.toArray.size)=true:=by rw [l1,l2]; simpa using e
      rw [Q1d e];exact ⟨RcAt.lists_lengths J p2 e' z,RcNeAt.lists_lengths J p2 e' z⟩
    refine ⟨?_,a3.1,a3.2⟩
    by_cases e:a=b
    ·subst e;have a6:peq p q=true:=by
      have b0:=rp;have a9:=rq;have xa:x=.ref a:=by
       rcases h with rfl | rfl <;> (obtain ⟨b',_,rfl,_⟩:=rp; cases ru; rfl)
      have ya:y=.ref a:=by
       rcases h2 with rfl | rfl <;> (obtain ⟨b',_,rfl,_⟩:=rq; cases rv; rfl)
      subst xa; subst ya;exact Q6d gp U rp rq
     rw [<- ep,a6];exact EqAt.same _
    ·exact EqAt.of_refs e a3.1
end Sm
namespace Sm
open PySem PySem.Spec L2
variable {n j:Nat} {K:PySem.W.Frag} {vs:List V} {mg:Str->Option aA} {E:XK} {Q:VK} {ps:List PV} {x:Str} {o:OP} {Γ:Gam} {σ:St} {P:PV->Q0->Hp->Tk->Prop} {op:CmpOp} {e:aH}
def lim:Nat:=1000000
theorem Q52:lim<=sizeLine:=by decide
theorem Zv (h:n<=lim):n<=sizeLine:=E6 h Q52
def Ve (st:Q0):PV->Option (List PV)
 | .lst xs=>some xs
 | .ref i=>match st[i]? with
  | some (.lst xs)=>some xs
  | _=>none
 | _=>none
def Va (st:Q0):PV->Option (List PV)
 | .fro xs=>some xs
 | p=>Ve st p
def W4 (st:Q0):PV->Option (List PV)
 | .tup xs=>some xs
 | p=>Va st p
def der (st:Q0):PV->PV
 | .ref i=>match st[i]? with
  | some (.lst xs)=>.lst xs
  | _=>.ref i
 | p=>p
variable {H:Hp} {ρ:Tk} {st:Q0} {p:PV} {v:V} {xs:List PV}
theorem j1 (R:Rel H ρ st) (r:Rep H ρ p v) (e:Ve st p=some xs):∃ a vs,v=.ref a/\H a=some (.lst vs)/\RepL H ρ xs vs:=by
 cases p with
 | lst ys=>
  obtain ⟨a,vs,z,q,_,O⟩:=r;cases e;exact ⟨a,vs,z,q,O⟩
 | ref i=>
  obtain ⟨a,z,q⟩:=r;simp only [Ve] at e
  split at e
  ·rename_i ys hs;cases e;obtain ⟨b,vs,I,U,J⟩:=R.lst hs;rw [z] at I; cases I;exact ⟨a,vs,q,U,J⟩
  ·cases e
 | _=>cases e
theorem Zp (R:Rel H ρ st) (r:Rep H ρ p v) (e:Va st p=some xs):∃ a vs,v=.ref a/\Rd H a (.lst vs)/\RepL H ρ xs vs:=by
 cases p with
 | fro ys=>
  obtain ⟨a,vs,q,I,_,z⟩:=r;cases e;exact ⟨a,vs,q,I,z⟩
 | _=>
  obtain ⟨a,vs,q,I,z⟩:=j1 R r e;exact ⟨a,vs,q,.inl I,z⟩
theorem yc (R:Rel H ρ st) (r:Rep H ρ p v) (e:W4 st p=some xs):∃ (t:Bool) (a:aB) (vs:List V),v=.ref a/\SqK K t H a vs/\RepL H ρ xs vs:=by
 cases p with
 | tup ys=>
  obtain ⟨a,vs,q,I,_,z⟩:=r;cases e;exact ⟨true,a,vs,q,show SqT K H a vs from SqT.of I,z⟩
 | _=>
  obtain ⟨a,vs,q,I,z⟩:=Zp R r e;exact ⟨false,a,vs,q,show SqL K H a vs from .inl I,z⟩
theorem Qp5 {t:Bool} {a:aB} (h:SqK K t H a vs):SqL K H a vs\/SqT K H a vs:=by
 cases t with
 | true=>exact .inr h
 | false=>exact .inl h
mutual
theorem Qae:∀ {n:Nat} {q:PV} {u:V},good n q=true->Rep H ρ q u->Rep H Tk.nil q u
 | _,.non,_,_,r=>r
 | _,.bl _,_,_,r=>r
 | _,.int _,_,_,r=>r
 | _,.str _,_,_,r=>r
 | 0,.tup _,_,g,_=>by cases g
 | 0,.lst _,_,g,_=>by cases g
 | 0,.fro _,_,g,_=>by cases g
 | n + 1,.tup _,_,g,⟨a,vs,e,h,_,r⟩=>⟨a,vs,e,h,Tk.not_nil _,repL_nil g r⟩
 | n + 1,.lst _,_,g,⟨a,vs,e,h,_,r⟩=>⟨a,vs,e,h,Tk.not_nil _,repL_nil g r⟩
 | n + 1,.fro _,_,g,⟨a,vs,e,h,_,r⟩=>⟨a,vs,e,h,Tk.not_nil _,repL_nil g r⟩
 | 0,.ref _,_,g,_=>by cases g
 | _ + 1,.ref _,_,g,_=>by cases g
 | 0,.dic,_,g,_=>by cases g
 | _ + 1,.dic,_,g,_=>by cases g
theorem repL_nil:∀ {n:Nat} {z:List PV} {us:List V},z.all (good n)=true->RepL H ρ z us->RepL H Tk.nil z us
 | _,[],_,_,r=>r
 | n,q :: z,_,g,⟨v,r,e,h1,h2⟩=>by
  rw [List.all_cons,E9] at g;exact ⟨v,r,e,Qae g.1 h1,repL_nil g.2 h2⟩
end
theorem q9 (R:Rel H ρ st) (g:good n (der st p)=true) (r:Rep H ρ p v):Rep H Tk.nil (der st p) v:=by
 cases p with
 | ref i=>
  obtain ⟨a,I,z⟩:=r;simp only [der] at g ⊢
  split at g
  ·rename_i ys hs;obtain ⟨b,vs,q,O,J⟩:=R.lst hs;rw [I] at q; cases q;cases n with
   | zero=>cases g
   | succ n=>exact ⟨a,vs,z,O,Tk.not_nil _,repL_nil g J⟩
  ·cases n <;> cases g
 | _=>exact Qae g r
theorem jw (R:Rel H ρ st) (h:Acc mg E H ρ (QV Q) (.ok (.tup ps) st)) (r:RepL H ρ ps vs):∀ p,H p=none->Q (.ref p) (upd H p (.tup vs)):=
 fun p q=>h _ ρ (Ext.add q) (R.add q) _ ⟨p,vs,rfl,Qv,R.fresh q,r.ext (Ext.add q)⟩
theorem jx (R:Rel H ρ st) (h:Acc mg E H ρ (QV Q) (.ok (.lst ps) st)) (r:RepL H ρ ps vs):∀ p,H p=none->Q (.ref p) (upd H p (.lst vs)):=
 fun p q=>h _ ρ (Ext.add q) (R.add q) _ ⟨p,vs,rfl,Qv,R.fresh q,r.ext (Ext.add q)⟩
theorem now (R:Rel H ρ st) (h:Acc mg E H ρ (QV Q) (.ok p st)) (r:Rep H ρ p v):Q v H:=h H ρ (Ext.refl _ _) R v r
section
variable {X:Cx} {E:XK} {pos:Pos}
def Q2 (i:Nat):ME:=fun Γ st=>match Γ[i]? with
 | some (some p)=>.ok p st
 | _=>.stuck
def mC (p:PV):ME:=fun _ st=>.ok p st
theorem Jb (i:Nat) (z:X.N[i]?=some x:=by rfl) (J:Vis X.env.scope x:=by first | exact Or.inl rfl | exact Or.inr (Or.inl rfl) | exact Or.inr (Or.inr rfl)) (hd:(x == ("__debug__" : Str))=false:=by decide)
  (q:(x == ("__classdict__" : Str))=false:=by decide):SimE X E (.Name x pos) (Q2 i):=⟨fun Γ σ H ρ st Q R G h=>WE.of (Qfn z J hd q) (by
 unfold Q2 at h
 split at h
 ·rename_i p e;obtain ⟨v,I,r⟩:=G.2 i p e;exact ⟨v,I,now R h r⟩
 ·exact h.elim)⟩
theorem Jh {i:Int} :SimE X E (.Constant (.int i) j pos) (mC (.int i)):=⟨fun Γ σ H ρ st Q R G h=>WE.of Qqa (now R h rfl)⟩
theorem Qn4 {b:Bool} :SimE X E (.Constant (.bool b) j pos) (mC (.bl b)):=⟨fun Γ σ H ρ st Q R G h=>WE.of Qtw (now R h rfl)⟩
theorem Qpe :SimE X E (.Constant .none j pos) (mC .non):=⟨fun Γ σ H ρ st Q R G h=>WE.of Qq9 (now R h rfl)⟩
theorem Qpb :SimE X E (.Constant (.str x) j pos) (mC (.str x)):=⟨fun Γ σ H ρ st Q R G h=>WE.of Qq6 (now R h rfl)⟩
theorem Qjd {i:Int} {t:Tok} (q:Gl X x) (hm:X.mg x=some (.int i t)) (hd:(x == ("__debug__" : Str))=false:=by decide):SimE X E (.Name x pos) (mC (.int i)):=
 ⟨fun Γ σ H ρ st Q R G h=>WE.of (Q0m q hm (v:=.int i) ⟨t,rfl⟩ hd) (now R h rfl)⟩
variable {a b c:aH} {ma mb mc:ME}
def mOp (o:OP) (ma mb:ME):ME:=fun Γ st=>(ma Γ st).bind fun x st1=>(mb Γ st1).bind fun y st2=>o st2 x y
theorem Q5q {f:aA->aA->Sem aA} {Q:VK} (Z:OpS X E f o) (ha:SimE X E a ma) (hb:SimE X E b mb) (R:Rel H ρ st) (G:EnvR H ρ Γ σ) (h:Acc X.mg E H ρ P (mOp o ma mb Γ st))
  (k:∀ p I H1 ρ1 v,Ext H ρ H1 ρ1->Rel H1 ρ1 I->Rep H1 ρ1 p v->P p I H1 ρ1->Q v H1):tOp (WO X f) (WE X a) (WE X b) σ H Q:=by
 refine ha.use R G h.bind fun p I H1 ρ1 v x1 R1 G1 r1 h1=>?_
 refine hb.use R1 G1 h1.bind fun q a2 H2 a1 u U R2 G2 r2 h2=>?_
 exact Z.use R2 (r1.ext U) r2 h2 fun w J H3 O z x3 R3 Y p3=>k w J H3 O z (x1.trans (U.trans x3)) R3 Y p3
theorem Qtd {op:Operator} (J:OpS X E (aZ op) o) (z:SimE X E a ma) (I:SimE X E b mb):SimE X E (.BinOp a op b pos) (mOp o ma mb):=
 ⟨fun Γ σ H ρ st Q R G h=>WE.of (Qna Q8v J4 J4) (Q5q J z I R G h fun _ _ _ _ v _ _ r q=>q v r)⟩
theorem Qpj (J:OpS X E (aS op) o) (z:SimE X E a ma) (I:SimE X E b mb) (hm:bN op b=false:=by first | exact Q91 _ | rfl):SimE X E (.Compare a [op] [b] pos) (mOp o ma mb):=
 ⟨fun Γ σ H ρ st Q R G h=>WE.of (Q4k Q8v J4 J4 hm) (Q5q J z I R G h fun _ _ _ _ v _ _ r q=>q v r)⟩
def asB (p:PV) (st:Q0):Res Bool:=match p with
 | .bl k=>.ok k st
 | _=>.stuck
def toB (m:ME):Gam->Q0->Res Bool:=fun Γ st=>(m Γ st).bind asB
theorem Qbm {P:Bool->Q0->Hp->Tk->Prop} (R:Rel H ρ st) (r:Rep H ρ p v) (h:Acc mg E H ρ P (asB p st)):∃ k,v=.bl k/\P k st H ρ:=by
 cases p with
 | bl k=>exact ⟨k,r,h H ρ (Ext.refl _ _) R⟩
 | _=>exact h.elim
theorem Qp3 (J:OpS X E (aS op) o) (U:SimE X E a ma) (Y:SimE X E b mb) (hm:bN op b=false:=by first | exact Q91 _ | rfl):SimT X E (.Compare a [op] [b] pos) (toB (mOp o ma mb)):=
 ⟨fun Γ σ H ρ st Q R G h=>WT.of (Qah Q8v J4 J4 hm) (Q5q J U Y R G h.bind fun _ O _ _ v _ I r q=>by
  obtain ⟨k,e,z⟩:=Qbm I r q;exact ⟨k,e,z⟩)⟩
theorem Qp1 {m:ME} (h:SimE X E e m) (J:∀ q,isTrue e X.env q=(do let v <- q; standAt e.pos; ar [v] (truthy v)):=by intro _; rfl):SimT X E e (toB m):=
 ⟨fun Γ σ H ρ st Q R G U=>WT.of (Qpu J4 J) (h.use R G U.bind fun p O H1 ρ1 v Z I G1 Y h1=>by
  obtain ⟨k,e,z⟩:=Qbm I Y h1;exact ⟨k,e,z⟩)⟩
def X9 (o o':OP) (ma mb mc:ME):ME:=fun Γ st=>(ma Γ st).bind fun x st1=>(mb Γ st1).bind fun y st2=>(o st2 x y).bind fun k st3=>match k with
 | .bl true=>(mc Γ st3).bind fun z st4=>o' st4 y z
 | .bl false=>.ok (.bl false) st3
 | _=>.stuck
theorem Q3w {J:CmpOp} {o':OP} {Q:VK} (ho:OpS X E (aS op) o) (a2:OpS X E (aS J) o') (ha:SimE X E a ma) (hb:SimE X E b mb) (hc:SimE X E c mc) (R:Rel H ρ st) (G:EnvR H ρ Γ σ) (h:Acc X.mg E H ρ P (X9 o o' ma mb mc Γ st))
  (k:∀ p I H1 ρ1 v,Ext H ρ H1 ρ1->Rel H1 ρ1 I->Rep H1 ρ1 p v->P p I H1 ρ1->Q v H1):Q8d (WO X (aS op)) (WO X (aS J)) (WE X a) (WE X b) (WE X c) σ H Q:=by
 refine ha.use R G h.bind fun p I H1 ρ1 v x1 R1 G1 r1 h1=>?_
 refine hb.use R1 G1 h1.bind fun q a6 H2 a3 u Y R2 G2 r2 h2=>?_
 refine ho.use R2 (r1.ext Y) r2 h2.bind fun w a5 H3 O z U R3 r3 h3=>?_
 cases w with
 | bl b=>
  refine ⟨b,r3,?_⟩;cases b with
  | true=>
   rw [bT rfl];refine hc.use R3 (G2.ext U) h3.bind fun y a7 H4 a4 yv x4 R4 G4 r4 h4=>?_
   exact a2.use R4 (r2.ext (U.trans x4)) r4 h4 fun w Z H5 a1 z x5 R5 r5 p5=>k w Z H5 a1 z (x1.trans (Y.trans (U.trans (x4.trans x5)))) R5 r5 p5
  | false=>
   rw [bU D4];exact k (.bl false) _ H3 O _ (x1.trans (Y.trans U)) R3 rfl (h3 H3 O (Ext.refl _ _) R3)
 | _=>exact h3.elim
theorem Qeq {z:CmpOp} {o':OP} (O:OpS X E (aS op) o) (I:OpS X E (aS z) o') (Y:SimE X E a ma) (J:SimE X E b mb) (U:SimE X E c mc) (hm:lastMarks [op,z] [b,c]=false:=by with_unfolding_all rfl):SimE X E (.Compare a [op,z] [b,c] pos) (X9 o o' ma mb mc):=
 ⟨fun Γ σ H ρ st Q R G h=>WE.of (Qft Q8v Q8v J4 J4 J4 hm) (Q3w O I Y J U R G h fun _ _ _ _ v _ _ r q=>q v r)⟩
theorem Qe4 {I:CmpOp} {o':OP} (Y:OpS X E (aS op) o) (J:OpS X E (aS I) o') (ha:SimE X E a ma) (U:SimE X E b mb) (hc:SimE X E c mc) (hm:lastMarks [op,I] [b,c]=false:=by with_unfolding_all rfl):SimT X E (.Compare a [op,I] [b,c] pos) (toB (X9 o o' ma mb mc)):=
 ⟨fun Γ σ H ρ st Q R G h=>WT.of (Qfb Q8v Q8v J4 J4 J4 hm) (Q3w Y J ha U hc R G h.bind fun _ Z _ _ v _ O r q=>by
  obtain ⟨k,e,z⟩:=Qbm O r q;exact ⟨k,e,z⟩)⟩
variable {rest:List aH}
def yx (ma mb:ME):ME:=fun Γ st=>(ma Γ st).bind fun x st1=>match x with
 | .bl true=>mb Γ st1
 | .bl false=>.ok (.bl false) st1
 | _=>.stuck
def mOr (ma mb:ME):ME:=fun Γ st=>(ma Γ st).bind fun x st1=>match x with
 | .bl true=>.ok (.bl true) st1
 | .bl false=>mb Γ st1
 | _=>.stuck
def Qr2 (ma:ME):ME:=fun Γ st=>(ma Γ st).bind fun x st1=>match x with
 | .bl k=>.ok (.bl (!k)) st1
 | _=>.stuck
theorem Qpc {op:BoolOp} (z:SimE X E a ma):SimE X E (.BoolOp op [a] pos) ma:=⟨fun Γ σ H ρ st Q R G h=>WE.of (Qq7 J4) (z.use R G h fun _ _ _ _ v _ _ _ r q=>q v r)⟩
theorem Qpk (O:SimE X E a ma) (Y:SimE X E (.BoolOp .And (b :: rest) pos) mb):SimE X E (.BoolOp .And (a :: b :: rest) pos) (yx ma mb):=
 ⟨fun Γ σ H ρ st Q R G h=>WE.of (Qqb J4 J4) (O.use R G h.bind fun p I H1 ρ1 v Z z J U h1=>by
  cases p with
  | bl k=>
   refine ⟨k,U,?_⟩;cases k with
   | true=>rw [bT rfl]; exact Y.use z J h1 fun _ _ _ _ v _ _ _ r q=>q v r
   | false=>rw [bU D4]; exact now z h1 rfl
  | _=>exact h1.elim)⟩
theorem Qtc (O:SimE X E a ma) (Y:SimE X E (.BoolOp .Or (b :: rest) pos) mb):SimE X E (.BoolOp .Or (a :: b :: rest) pos) (mOr ma mb):=
 ⟨fun Γ σ H ρ st Q R G h=>WE.of (Qtv J4 J4) (O.use R G h.bind fun p I H1 ρ1 v Z z J U h1=>by
  cases p with
  | bl k=>
   refine ⟨k,U,?_⟩;cases k with
   | true=>rw [bT rfl]; exact now z h1 rfl
   | false=>rw [bU D4]; exact Y.use z J h1 fun _ _ _ _ v _ _ _ r q=>q v r
  | _=>exact h1.elim)⟩
theorem Qpd (J:SimE X E a ma):SimE X E (.UnaryOp .Not a pos) (Qr2 ma):=
 ⟨fun Γ σ H ρ st Q R G h=>WE.of (Qq8 J4) (J.use R G h.bind fun p z H1 ρ1 v O q U I h1=>by
  cases p with
  | bl k=>exact ⟨k,I,now q h1 rfl⟩
  | _=>exact h1.elim)⟩
def Qr4 (ma:ME):ME:=fun Γ st=>(ma Γ st).bind fun x st1=>match x with
 | .int k=>.ok (.int (-k)) st1
 | _=>.stuck
theorem Qpf (J:SimE X E a ma):SimE X E (.UnaryOp .USub a pos) (Qr4 ma):=
 ⟨fun Γ σ H ρ st Q R G h=>WE.of (Qtu Qns J4) (J.use R G h.bind fun p z H1 ρ1 v O q U I h1=>by
  cases p with
  | int k=>exact ⟨k,I,now q h1 rfl⟩
  | _=>exact h1.elim)⟩
abbrev MT:=Gam->Q0->Res Bool
variable {ta tb:MT}
def Q08 (ta tb:MT):MT:=fun Γ st=>(ta Γ st).bind fun k st1=>if k=true then .ok true st1 else tb Γ st1
def Vk (ta:MT):MT:=fun Γ st=>(ta Γ st).bind fun k st1=>.ok (!k) st1
theorem SimW.t (h:SimW X E e ta):SimT X E e ta:=⟨fun Γ σ H ρ st Q R G q pins s I=>h.run Γ σ H ρ st Q R G q _ pins s I⟩
theorem Qp0 (z:SimT X E a ta):SimW X E (.BoolOp .Or [a] pos) ta:=⟨fun Γ σ H ρ st Q R G h=>WW.of (Qpt Qcc) (z.use R G h fun _ _ _ _ _ _ _ q=>q)⟩
theorem Qt9 (O:SimT X E a ta) (U:SimW X E (.BoolOp .Or (b :: rest) pos) tb):SimW X E (.BoolOp .Or (a :: b :: rest) pos) (Q08 ta tb):=
 ⟨fun Γ σ H ρ st Q R G h=>WW.of (Qtp Qcc Qxa) (O.use R G h.bind fun k I H1 ρ1 Y z J h1=>by
  cases k with
  | true=>rw [bT rfl] at h1 ⊢; exact h1 H1 ρ1 (Ext.refl _ _) z
  | false=>rw [bU D4] at h1 ⊢; exact U.use z J h1 fun _ _ _ _ _ _ _ q=>q)⟩
theorem Qp2 (I:SimT X E a ta):SimT X E (.UnaryOp .Not a pos) (Vk ta):=
 ⟨fun Γ σ H ρ st Q R G h=>WT.of (Qpv Qcc) (I.use R G h.bind fun k z H1 ρ1 J q O h1=>h1 H1 ρ1 (Ext.refl _ _) q)⟩
variable {e:aH} {es:List aH} {m:ME} {mr:Gam->Q0->Res (List PV)}
def Q4:Gam->Q0->Res (List PV):=fun _ st=>.ok [] st
def Q1 (m:ME) (mr:Gam->Q0->Res (List PV)):Gam->Q0->Res (List PV):=fun Γ st=>(m Γ st).bind fun p st1=>(mr Γ st1).bind fun ps st2=>.ok (p :: ps) st2
theorem J7:SimA X E [] Q4:=⟨fun Γ σ H ρ st Q R G h=>WA.of X4 (h H ρ (Ext.refl _ _) R [] rfl)⟩
theorem Qf (ha:SimE X E e m) (O:SimA X E es mr) (hs:aN (e :: es) X.env=(false,aO e X.env) :: aN es X.env:=by rfl):SimA X E (e :: es) (Q1 m mr):=
 ⟨fun Γ σ H ρ st Q R G h=>WA.of (Wp J4 Q1h hs) (ha.use R G h.bind fun p U H1 ρ1 v x1 z Y Z h1=>O.use z Y h1.bind fun ps J H2 q vs x2 R2 G2 I h2=>
  h2 H2 q (Ext.refl _ _) R2 (v :: vs) ⟨v,vs,rfl,Z.ext x2,I⟩)⟩
def Jx (mr:Gam->Q0->Res (List PV)):ME:=fun Γ st=>(mr Γ st).bind fun ps st1=>if ps.length<=lim then .ok (.tup ps) st1 else .stuck
def yt (mr:Gam->Q0->Res (List PV)):ME:=fun Γ st=>(mr Γ st).bind fun ps st1=>if ps.length<=lim then .ok (.lst ps) st1 else .stuck
theorem qv {k:Nat} (h:SimA X E es mr):SimE X E (.Tuple es k pos) (Jx mr):=
 ⟨fun Γ σ H ρ st Q R G O=>WE.of (Qq5 Q1h) (h.use R G O.bind fun ps J H1 ρ1 vs U I Y z h1=>by
  by_cases q:ps.length<=lim
  ·rw [bT q] at h1;exact ⟨by rw [<- z.length]; exact Zv q,jw I h1 z⟩
  ·rw [bU q] at h1; exact h1.elim)⟩
theorem Qem (h:SimA X E es mr):SimE X E (.List es pos) (yt mr):=
 ⟨fun Γ σ H ρ st Q R G O=>WE.of (Qfq Q1h) (h.use R G O.bind fun ps J H1 ρ1 vs U I Y z h1=>by
  by_cases q:ps.length<=lim
  ·rw [bT q] at h1;exact ⟨by rw [<- z.length]; exact Zv q,jx I h1 z⟩
  ·rw [bU q] at h1; exact h1.elim)⟩
end
end Sm
namespace HT
open PySem PySem.Spec PyProof.Rows
variable {prog:aK} {A:aM} {E:aA->aC->Prop} {s:aC}
section
variable {w:aJ}
theorem getItem_tuple_whole {t O:aB} {q:Array aA} {vl Z:aA} {lo hi:Option Int} {Q:aA->aC->Prop} (z:IsTup s.heap t q) (hs:s.heap.IsSliceOf O vl Z .none) (pl:IsPart vl lo) (pu:IsPart Z hi)
  (hw:sIx q.size 0 lo=0/\sIx q.size q.size hi=q.size)
  (h:Q (.ref t) s):aF (aI prog w) A (getItem (.ref t) (.ref O)) Q E s:=by
 obtain ⟨os,U,J,a1⟩:=id hs;have Y:s.TypeIs (.ref O) "slice" := ⟨os,U,J⟩;unfold getItem
 try with_reducible refine ae ?_
 first | refine aD (wpAny_pure ?_) | skip
 refine aD (wpAny_sequenceKey z.typeIs (by decide) ?_);refine aD (wpAny_callSpecial?_slot (name:=Str.ofString "__getitem__") z.typeIs PyProof.Rows.slot_tuple_getitem
  (ag PyProof.Rows.slot_tuple_getitem z.typeIs entry_tuple_getitem ?_ (args_tuple_getitem _ _)))
 show aF _ _ (Builtin.Tuple.tupleItemsOf (.ref t) >>= _) _ _ s;refine aD (tupleItemsOf_ z ?_);refine aD (bD Y ?_);rw [bT (by decide)];refine aD (Up hs pl pu ?_);have I:(((sIx q.size 0 lo:Nat):Int) == 0 && (1:Int) == 1 && (sIx q.size q.size hi - sIx q.size 0 lo) == q.size)=true:=by
  rw [hw.1,hw.2]; simp
 show aF _ _ (if (((sIx q.size 0 lo:Nat):Int) == 0 && (1:Int) == 1 && (sIx q.size q.size hi - sIx q.size 0 lo) == q.size)=true then _ else _) _ _ s;rw [bT I];refine aD (aD (bD z.typeIs (wpAny_pure ?_)));rw [bT (by rfl)];exact aD (bQ (wpAny_pure ⟨_,rfl,wpAny_pure h⟩))
end
end HT
namespace L2
open PySem PySem.Spec PyProof.Rows
def Qx4 (K:PySem.W.Frag):V->Option Int->Option Int->Hp->VK->Prop:=fun x lo hi H Q=>∃ a xs,x=.ref a/\SqT K H a xs /\
 (HT.sIx xs.length 0 lo=0/\HT.sIx xs.length xs.length hi=xs.length)/\Q (.ref a) H
theorem sl_whole {X:Cx}:SlR X (Qx4 X.K):=by
 intro pins s σ H x v vl vu lo hi sl Q I Y hs pl O h;obtain ⟨a,xs,rfl,Z,U,q⟩:=h;cases Y;obtain ⟨its,r,J,hz⟩:=I.tuple Z;have z:its.toArray.size=xs.length:=by rw [O8]; exact r.length.symm
 refine ⟨"tuple",_,PyProof.Rows.slot_tuple_getitem.lookup,J.typeIs,?_⟩;exact HT.getItem_tuple_whole J hs pl O (by rw [z]; exact U) ⟨.ref a,H,I,rfl,q⟩
end L2
namespace Sm
open PySem PySem.Spec L2
variable {H H1:Hp} {ρ:Tk} {p:PV} {x:Str} {σ:St} {A:aM} {st:Q0} {xs ps:List PV} {vs:List V} {o:CF} {Q:VK} {T:String} {K:PySem.W.Frag} {v:V} {tp:Pos} {e c:aH} {es:List aH} {n k:Nat} {mg:Str->Option aA} {b:aB} {hs:List aB} {α β:Type} {Γ:Gam} {P:List PV->Q0->Hp->Tk->Prop} {s:aL} {fd:aQ}
variable {X:Cx} {E:XK}
section
variable {pos:Pos}
def oI (g:Int->Int->PV):OP:=fun st p q=>match p,q with
 | .int a,.int b=>.ok (g a b) st
 | _,_=>.stuck
def Ji:OP:=fun st p q=>match p,q with
 | .int a,.int b=>.ok (.int (a + b)) st
 | .str a,.str b=>if a.length + b.length<=lim then .ok (.str (a ++ b)) st else .stuck
 | .tup xs,.tup ys=>if xs.length + ys.length<=lim then .ok (.tup (xs ++ ys)) st else .stuck
 | p,q=>match Ve st p,Ve st q with
  | some xs,some ys=>if xs.length + ys.length<=lim then .ok (.lst (xs ++ ys)) st else .stuck
  | _,_=>.stuck
theorem Qqk:OpS X E (aZ .Add) Ji:=⟨fun H ρ st p q x y Q R Z rq h=>by
 unfold Ji at h
 split at h
 ·cases Z; cases rq;exact WO.of Qqt ⟨_,_,rfl,rfl,now R h rfl⟩
 ·cases Z; cases rq
  split at h
  ·rename_i U;exact WO.of Q8w ⟨_,_,rfl,rfl,Zv U,now R h rfl⟩
  ·exact h.elim
 ·split at h
  ·rename_i xs ys U;obtain ⟨a,vs,rfl,O,na,I⟩:=Z;obtain ⟨b,us,rfl,Y,nb,J⟩:=rq;refine WO.of Qkj ?_
   by_cases e:xs=[]
   ·subst e;cases I;exact .inr ⟨a,b,us,rfl,rfl,SqT.of O,SqT.of Y,now R h ⟨b,us,rfl,Y,nb,J⟩⟩
   ·refine .inl ⟨a,b,vs,us,rfl,rfl,SqT.of O,SqT.of Y,fun z=>e ?_,by rw [<- I.length,<- J.length]; exact Zv U,fun z=>?_,fun z=>jw R h (I.append J)⟩
    ·subst z;cases xs with
     | nil=>rfl
     | cons _ _=>have:=I.length; simp at this
    ·subst z;have:ys=[]:=by
      cases ys with
      | nil=>rfl
      | cons _ _=>have:=J.length; simp at this
     subst this;rw [L0] at h;exact now R h ⟨a,vs,rfl,O,na,I⟩
  ·exact h.elim
 ·split at h
  ·rename_i xs ys e1 e2
   split at h
   ·rename_i U;obtain ⟨a,vs,rfl,O,I⟩:=j1 R Z e1;obtain ⟨b,us,rfl,Y,J⟩:=j1 R rq e2;exact WO.of Qg1 ⟨a,b,vs,us,rfl,rfl,O,Y,by rw [<- I.length,<- J.length]; exact Zv U,jx R h (I.append J)⟩
   ·exact h.elim
  ·exact h.elim⟩
theorem Qqc:OpS X E (aZ .Sub) (oI fun a b=>.int (a - b)):=⟨fun H ρ st p q x y Q R I z h=>by
 unfold oI at h
 split at h
 ·cases I; cases z;exact WO.of Qqm ⟨_,_,rfl,rfl,now R h rfl⟩
 ·exact h.elim⟩
def Xx:OP:=fun st p q=>match p,q with
 | .int a,.int b=>if (-(2 ^ 64) < a/\a < 2 ^ 64)\/(-(2 ^ 64) < b/\b < 2 ^ 64) then .ok (.int (a * b)) st else .stuck
 | .tup xs,.int b=>if xs≠[]/\1<=b/\xs.length * b.toNat<=4096 then .ok (.tup (List.replicate b.toNat xs).flatten) st else .stuck
 | p,.int b=>match Ve st p with
  | some xs=>if -(2 ^ 63)<=b/\b < 2 ^ 63/\xs.length * b.toNat<=lim then .ok (.lst (List.replicate b.toNat xs).flatten) st else .stuck
  | none=>.stuck
 | _,_=>.stuck
theorem Qqf:OpS X E (aZ .Mult) Xx:=⟨fun H ρ st p q x y Q R Y Z h=>by
 unfold Xx at h
 split at h
 ·cases Y; cases Z
  split at h
  ·rename_i I;exact WO.of Qqq ⟨_,_,rfl,rfl,I,now R h rfl⟩
  ·exact h.elim
 ·cases Z
  split at h
  ·rename_i xs b I;obtain ⟨a,vs,rfl,O,na,J⟩:=Y;refine WO.of Qkh ⟨a,b,vs,rfl,rfl,SqT.of O,fun z=>I.1 ?_,I.2.1,by rw [<- J.length]; exact I.2.2,fun z=>?_,fun z=>jw R h (J.rep _)⟩
   ·subst z;cases xs with
    | nil=>rfl
    | cons _ _=>have:=J.length; simp at this
   ·subst z;have U:(List.replicate (Int.toNat 1) xs).flatten=xs:=by simp
    rw [U] at h;exact now R h ⟨a,vs,rfl,O,na,J⟩
  ·exact h.elim
 ·cases Z
  split at h
  ·rename_i xs U
   split at h
   ·rename_i I;obtain ⟨a,vs,rfl,O,J⟩:=j1 R Y U;exact WO.of Qqn ⟨a,_,vs,rfl,rfl,O,I.1,I.2.1,by rw [<- J.length]; exact Zv I.2.2,jx R h (J.rep _)⟩
   ·exact h.elim
  ·exact h.elim
 ·exact h.elim⟩
def js:OP:=fun st p q=>match p,q with
 | .int a,.int b=>if 0 < b then .ok (.int (a % b)) st else .stuck
 | _,_=>.stuck
theorem Qqg:OpS X E (aZ .Mod) js:=⟨fun H ρ st p q x y Q R J I h=>by
 unfold js at h
 split at h
 ·cases J; cases I
  split at h
  ·rename_i z;exact WO.of Qqr ⟨_,_,rfl,rfl,z,now R h rfl⟩
  ·exact h.elim
 ·exact h.elim⟩
def Q1p:OP:=fun st p q=>match p,q with
 | .int a,.int b=>if 0<=b/\b<=1000000/\a.natAbs < 2 ^ 64 then .ok (.int (a ^ b.toNat)) st else .stuck
 | _,_=>.stuck
theorem Qqd:OpS X E (aZ .Pow) Q1p:=⟨fun H ρ st p q x y Q R J I h=>by
 unfold Q1p at h
 split at h
 ·cases J; cases I
  split at h
  ·rename_i z;exact WO.of Qqp ⟨_,_,rfl,rfl,z,now R h rfl⟩
  ·exact h.elim
 ·exact h.elim⟩
theorem Q8z {op:CmpOp} {g:Int->Int->Bool} (J:OpR X (aS op) (rI0 fun i j=>.bl (g i j))):OpS X E (aS op) (oI fun a b=>.bl (g a b)):=⟨fun H ρ st p q x y Q R z I h=>by
 unfold oI at h
 split at h
 ·cases z; cases I;exact WO.of J ⟨_,_,rfl,rfl,now R h rfl⟩
 ·exact h.elim⟩
theorem Qtz:OpS X E (aS .LtE) (oI fun a b=>.bl (decide (a<=b))):=Q8z Qne
theorem Qu1:OpS X E (aS .Gt) (oI fun a b=>.bl (decide (b < a))):=Q8z Qu7
theorem Qu2:OpS X E (aS .GtE) (oI fun a b=>.bl (decide (b<=a))):=Q8z Qu8
def Ue:List PV->Option (List Int)
 | []=>some []
 | .int i :: ps=>(Ue ps).map (i :: ·)
 | _ :: _=>none
def Q06:List PV->Option (List Bool)
 | []=>some []
 | .bl i :: ps=>(Q06 ps).map (i :: ·)
 | _ :: _=>none
theorem Q7c (ns:List Int):Ue (ns.map .int)=some ns:=by
 induction ns with
 | nil=>rfl
 | cons n ns q=>rw [D0,Ue,q]; rfl
theorem Qmr (ns:List Bool):Q06 (ns.map .bl)=some ns:=by
 induction ns with
 | nil=>rfl
 | cons n ns q=>rw [D0,Q06,q]; rfl
theorem Q0r:∀ {ps:List PV} {ns:List Int},Ue ps=some ns->ps=ns.map .int
 | [],ns,h=>by cases h; rfl
 | .int i :: ps,ns,h=>by
  rw [Ue] at h;cases e:Ue ps with
  | none=>rw [e] at h; cases h
  | some ms=>rw [e] at h; cases h; rw [Q0r e]; rfl
 | .non :: _,_,h | .bl _ :: _,_,h | .str _ :: _,_,h | .tup _ :: _,_,h | .lst _ :: _,_,h | .fro _ :: _,_,h | .ref _ :: _,_,h | .dic :: _,_,h=>by cases h
theorem Qie:∀ {ps:List PV} {ns:List Bool},Q06 ps=some ns->ps=ns.map .bl
 | [],ns,h=>by cases h; rfl
 | .bl i :: ps,ns,h=>by
  rw [Q06] at h;cases e:Q06 ps with
  | none=>rw [e] at h; cases h
  | some ms=>rw [e] at h; cases h; rw [Qie e]; rfl
 | .non :: _,_,h | .int _ :: _,_,h | .str _ :: _,_,h | .tup _ :: _,_,h | .lst _ :: _,_,h | .fro _ :: _,_,h | .ref _ :: _,_,h | .dic :: _,_,h=>by cases h
def oLt:OP:=fun st p q=>match p,q with
 | .int a,.int b=>.ok (.bl (decide (a < b))) st
 | .tup xs,.tup ys=>match Ue xs,Ue ys with
  | some ns,some ms=>.ok (.bl (HT.lexLt ns ms)) st
  | _,_=>.stuck
 | _,_=>.stuck
theorem Qty (hu:X.A.units + 64 < aP):OpS X E (aS .Lt) oLt:=⟨fun H ρ st p q x y Q R I U h=>by
 unfold oLt at h
 split at h
 ·cases I; cases U;exact WO.of Qu6 ⟨_,_,rfl,rfl,now R h rfl⟩
 ·split at h
  ·rename_i ns ms e1 Z;obtain ⟨a,vs,rfl,J,na,O⟩:=I;obtain ⟨b,us,rfl,Y,nb,z⟩:=U;rw [Q0r e1] at O;rw [Q0r Z] at z;rw [O.toInts] at J;rw [z.toInts] at Y;exact WO.of (Qqs (by omega)) ⟨a,b,ns,ms,rfl,rfl,SqT.of J,SqT.of Y,now R h rfl⟩
  ·exact h.elim
 ·exact h.elim⟩
def dep:Nat:=12
def oEq:OP:=fun st p q=>if good dep (der st p)=true/\good dep (der st q)=true then .ok (.bl (peq (der st p) (der st q))) st else .stuck
def oNe:OP:=fun st p q=>if good dep (der st p)=true/\good dep (der st q)=true then .ok (.bl (!peq (der st p) (der st q))) st else .stuck
theorem Qu3 (U:X.A.units + 64 < aP):OpS X E (aS .Eq) oEq:=⟨fun H ρ st p q x y Q R J z h=>by
 unfold oEq at h
 split at h
 ·rename_i g;intro pins s σ v u I O ru;exact (Q7k dep I g.1 g.2 (by unfold dep; omega) (q9 R g.1 J) O (q9 R g.2 z) ru).2.1 _ _ _ _ ⟨.bl _,H,I,rfl,now R h rfl⟩
 ·exact h.elim⟩
theorem Qnd (U:X.A.units + 64 < aP):OpS X E (aS .NotEq) oNe:=⟨fun H ρ st p q x y Q R J z h=>by
 unfold oNe at h
 split at h
 ·rename_i g;intro pins s σ v u I O ru;exact (Q7k dep I g.1 g.2 (by unfold dep; omega) (q9 R g.1 J) O (q9 R g.2 z) ru).2.2 _ _ _ _ ⟨.bl _,H,I,rfl,now R h rfl⟩
 ·exact h.elim⟩
def Q7b:PV->Bool
 | .non=>true
 | _=>false
theorem Qd3 {x:V} (r:Rep H ρ p x):decide (x=.non)=Q7b p:=by
 cases p with
 | non=>cases r; rfl
 | bl _=>cases r; rfl
 | int _=>cases r; rfl
 | str _=>cases r; rfl
 | tup _=>obtain ⟨_,_,rfl,_⟩:=r; rfl
 | lst _=>obtain ⟨_,_,rfl,_⟩:=r; rfl
 | fro _=>obtain ⟨_,_,rfl,_⟩:=r; rfl
 | ref _=>obtain ⟨_,_,rfl⟩:=r; rfl
 | dic=>obtain ⟨_,rfl,_⟩:=r; rfl
def oIs:OP:=fun st p q=>match q with
 | .non=>.ok (.bl (Q7b p)) st
 | .bl c=>match p with
  | .bl b=>.ok (.bl (b == c)) st
  | _=>.stuck
 | _=>.stuck
def Xy:OP:=fun st p q=>match q with
 | .non=>.ok (.bl (!Q7b p)) st
 | .bl c=>match p with
  | .bl b=>.ok (.bl (b != c)) st
  | _=>.stuck
 | _=>.stuck
theorem Qfy:OpS X E (aS .IsNot) Xy:=⟨fun H ρ st p q x y Q R I z h=>by
 unfold Xy at h
 split at h
 ·cases z;refine WO.of Qki ⟨rfl,?_⟩;rw [Qd3 I];exact now R h rfl
 ·split at h
  ·cases I; cases z;exact WO.of Q6p ⟨_,_,rfl,rfl,now R h rfl⟩
  ·exact h.elim
 ·exact h.elim⟩
def oIn (neg:Bool):OP:=fun st p q=>match W4 st q with
 | some xs=>if good dep (der st p)=true/\xs.all (good dep)=true then .ok (.bl ((xs.any fun y=>peq y (der st p)) != neg)) st else .stuck
 | none=>.stuck
open Classical in
theorem zf {pins:List (aB × Obj)} {s:aC} {p:PV} {xs:List PV} {x:V} {v:aA} {vs:List V} {its:List aA} (I:Inv X pins σ H s) (hu:A.units + dep < aP) (R:Rel H ρ st)
  (gp:good dep (der st p)=true) (gx:xs.all (good dep)=true) (rp:Rep H ρ p x) (rv:RelV x v) (ra:RepL H ρ xs vs) (vi:Vals vs its):∃ e:aA->Bool,(∀ u,u∈its.toArray->SeqAt.EqAt A s u v (e u))/\its.toArray.any e=xs.any fun y=>peq y (der st p):=by
 have a2:∀ u∈its,∃ q∈xs,∃ y,Rep H Tk.nil q y/\RelV y u:=fun u hu=>by
  obtain ⟨j,hj,rfl⟩:=L3 hu;have l1:=vi.length;have l2:=ra.length;obtain ⟨y,e1,e2⟩:=(repL_nil gx ra).get (O2 (show j < xs.length by omega));obtain ⟨w,U,e4⟩:=vi.get e1;rw [O2 hj] at U; cases U;exact ⟨_,M9 _,y,e2,e4⟩
 refine ⟨fun u=>decide (∃ q∈xs,∃ y,Rep H Tk.nil q y/\RelV y u/\peq q (der st p)=true),fun u hm=>?_,?_⟩
 ·have a1:u∈its:=by simpa using hm
  by_cases z:∃ q∈xs,∃ y,Rep H Tk.nil q y/\RelV y u/\peq q (der st p)=true
  ·show SeqAt.EqAt A s u v (decide _);rw [bW z];obtain ⟨q,J,y,Z,Y,e⟩:=z;have:=(Q7k dep I ((F0.mp gx) q J) gp hu Z Y (q9 R gp rp) rv).1;rw [e] at this;exact this
  ·show SeqAt.EqAt A s u v (decide _);rw [bV z];obtain ⟨q,J,y,Z,Y⟩:=a2 u a1;have:=(Q7k dep I ((F0.mp gx) q J) gp hu Z Y (q9 R gp rp) rv).1;cases e:peq q (der st p) with
   | true=>exact absurd ⟨q,J,y,Z,Y,e⟩ z
   | false=>rw [e] at this; exact this
 ·rw [Bool.eq_iff_iff,Array.any_eq_true,List.any_eq_true];constructor
  ·rintro ⟨j,hj,e⟩;obtain ⟨q,J,y,Z,Y,e⟩:=of_decide_eq_true e;exact ⟨q,J,e⟩
  ·rintro ⟨q,J,e⟩;obtain ⟨j,hj,rfl⟩:=L3 J;have l1:=vi.length;have l2:=ra.length;have O:j < its.length:=by omega
   obtain ⟨y,e1,e2⟩:=(repL_nil gx ra).get (O2 hj);obtain ⟨w,U,e4⟩:=vi.get e1;refine ⟨j,by simpa using O,bW ⟨_,J,y,e2,?_,e⟩⟩;rw [O2 O] at U; cases U;simpa using e4
theorem Qu0 (hu:X.A.units + 64 < aP):OpS X E (aS .In) (oIn false):=⟨fun H ρ st p q x y Q R U rq h=>by
 unfold oIn at h
 split at h
 ·rename_i xs es
  split at h
  ·rename_i g;obtain ⟨t,a,vs,rfl,Z,Y⟩:=yc (K:=X.K) R rq es;intro pins s σ v u I rv ru;cases ru;rw [Bool.bne_false] at h;cases t with
   | true=>
    obtain ⟨its,r,O,hz⟩:=I.tuple Z;obtain ⟨e,z,J⟩:=zf (A:=X.A.in1) I (by show X.A.units + 1 + dep < aP; unfold dep; omega) R g.1 g.2 U rv Y r;refine SeqAt.in_tupleAt e O z ⟨.bl _,H,I,rfl,?_⟩;rw [J];exact now R h rfl
   | false=>
    obtain ⟨its,r,O,hz⟩:=I.list Z;obtain ⟨e,z,J⟩:=zf (A:=X.A.in1) I (by show X.A.units + 1 + dep < aP; unfold dep; omega) R g.1 g.2 U rv Y r;refine SeqAt.in_listAt e O.isList z ⟨.bl _,H,I,rfl,?_⟩;rw [J];exact now R h rfl
  ·exact h.elim
 ·exact h.elim⟩
theorem Qfx (hu:X.A.units + 64 < aP):OpS X E (aS .NotIn) (oIn true):=⟨fun H ρ st p q x y Q R U rq h=>by
 unfold oIn at h
 split at h
 ·rename_i xs es
  split at h
  ·rename_i g;obtain ⟨t,a,vs,rfl,Z,Y⟩:=yc (K:=X.K) R rq es;intro pins s σ v u I rv ru;cases ru;rw [Bool.bne_true] at h;cases t with
   | true=>
    obtain ⟨its,r,O,hz⟩:=I.tuple Z;obtain ⟨e,z,J⟩:=zf (A:=X.A.in1) I (by show X.A.units + 1 + dep < aP; unfold dep; omega) R g.1 g.2 U rv Y r;refine SeqAt.notIn_tupleAt e O z ⟨.bl _,H,I,rfl,?_⟩;rw [J];exact now R h rfl
   | false=>
    obtain ⟨its,r,O,hz⟩:=I.list Z;obtain ⟨e,z,J⟩:=zf (A:=X.A.in1) I (by show X.A.units + 1 + dep < aP; unfold dep; omega) R g.1 g.2 U rv Y r;refine SeqAt.notIn_listAt e O.isList z ⟨.bl _,H,I,rfl,?_⟩;rw [J];exact now R h rfl
  ·exact h.elim
 ·exact h.elim⟩
end
variable {H:Hp} {ρ:Tk}
theorem RepL.atI {ps:List PV} {vs:List V} {i:Int} {p:PV} (r:RepL H ρ ps vs) (e:atI ps i=some p):∃ v,L2.atI vs i=some v/\Rep H ρ p v:=by
 unfold L2.atI at e ⊢;rw [<- r.length];cases q:ixN ps.length i with
 | none=>rw [q] at e; cases e
 | some j=>
  rw [q] at e;exact r.get e
def cut {α:Type} (xs:List α) (lo hi:Option Int):List α:=(xs.drop (HT.sIx xs.length 0 lo)).take (HT.sIx xs.length xs.length hi - HT.sIx xs.length 0 lo)
theorem RepL.cut (r:RepL H ρ ps vs) (lo hi:Option Int):RepL H ρ (Sm.cut ps lo hi) (Q7s vs lo hi):=by
 unfold Sm.cut Q7s;rw [<- r.length];exact (r.drop _).take _
section
variable {X:Cx} {E:XK} {pos:Pos} {a b:aH} {ma mb:ME}
def oIx:OP:=fun st p q=>match W4 st p,q with
 | some xs,.int i=>okO st (atI xs i)
 | _,_=>.stuck
theorem Qen (ha:SimE X E a ma) (hb:SimE X E b mb) (hs:Q5s b:=by exact fun _ _=>rfl):SimE X E (.Subscript a b pos) (mOp oIx ma mb):=
 ⟨fun Γ σ H ρ st Q R G h=>WE.of (Qnb Qgv J4 J4 hs) (ha.use R G h.bind fun p a1 H1 ρ1 v x1 R1 G1 r1 h1=>hb.use R1 G1 h1.bind fun q a2 H2 Y u Z R2 G2 r2 h2=>by
  unfold oIx at h2
  split at h2
  ·rename_i xs i e;cases r2;cases I:atI xs i with
   | none=>rw [I] at h2; exact h2.elim
   | some w=>
    rw [I] at h2;obtain ⟨t,b,vs,rfl,U,ra⟩:=yc (K:=X.K) R2 (r1.ext Z) e;obtain ⟨z,J,O⟩:=ra.atI I;cases t with
    | true=>exact .inr (.inl ⟨b,vs,i,z,rfl,rfl,U,J,now R2 h2 O⟩)
    | false=>exact .inl ⟨b,vs,i,z,rfl,rfl,U,J,now R2 h2 O⟩
  ·exact h2.elim)⟩
structure SimO (X:Cx) (E:XK) (o:Option aH) (m:Gam->Q0->Res (Option Int)):Prop where
 run:∀ (Γ:Gam) (σ:St) (H:Hp) (ρ:Tk) (st:Q0) (P:Option Int->Q0->Hp->Tk->Prop) (Q:Option Int->Hp->Prop),Rel H ρ st->EnvR H ρ Γ σ->Acc X.mg E H ρ P (m Γ st) ->
  (∀ i st1 H1 ρ1,Ext H ρ H1 ρ1->Rel H1 ρ1 st1->EnvR H1 ρ1 Γ σ->P i st1 H1 ρ1->Q i H1)->∃ t,PO X o t/\t σ H Q
def Jk:Gam->Q0->Res (Option Int):=fun _ st=>.ok none st
def Zt (m:ME):Gam->Q0->Res (Option Int):=fun Γ st=>(m Γ st).bind fun p st1=>match p with
 | .int i=>.ok (some i) st1
 | _=>.stuck
theorem Qj3:SimO X E none Jk:=⟨fun Γ σ H ρ st P Q R G h k=>⟨_,Qk0,k none st H ρ (Ext.refl _ _) R G (h H ρ (Ext.refl _ _) R)⟩⟩
theorem Qj2 (U:SimE X E a ma):SimO X E (some a) (Zt ma):=⟨fun Γ σ H ρ st P Q R G h k=>⟨_,Qjz J4,U.use R G h.bind fun p q H1 ρ1 v I z J O h1=>by
 cases p with
 | int i=>exact ⟨i,O,k (some i) q H1 ρ1 I z J (h1 H1 ρ1 (Ext.refl _ _) z)⟩
 | _=>exact h1.elim⟩⟩
def oSl (st:Q0) (p:PV) (lo hi:Option Int):Res PV:=match p with
 | .tup xs=>.ok (.tup (cut xs lo hi)) st
 | p=>match Va st p with
  | some xs=>.ok (.lst (cut xs lo hi)) st
  | none=>.stuck
def mSl (ma:ME) (ml mh:Gam->Q0->Res (Option Int)):ME:=fun Γ st=>(ma Γ st).bind fun p st1=>(ml Γ st1).bind fun lo st2=>(mh Γ st2).bind fun hi st3=>oSl st3 p lo hi
def TO.w (X:Cx) (o:Option aH):TO:=fun σ H Q=>∃ t,PO X o t/\t σ H Q
theorem Qts {o:Option aH}:PO X o (TO.w X o):=fun pins s σ H Q I ⟨t,h,q⟩=>h pins s σ H Q I q
theorem Qek {lo hi:Option aH} {ml mh:Gam->Q0->Res (Option Int)} {p2:Pos} (z:SimE X E a ma) (hl:SimO X E lo ml) (hh:SimO X E hi mh):SimE X E (.Subscript a (.Slice lo hi none p2) pos) (mSl ma ml mh):=
 ⟨fun Γ σ H ρ st Q R G h=>WE.of (Qfp (sl_tup.or (sl_whole.or Qj5)) J4 Qts Qts) (z.use R G h.bind fun p Y H1 ρ1 v x1 R1 G1 r1 h1=>by
  refine hl.run Γ σ H1 ρ1 Y _ _ R1 G1 h1.bind fun l Z H2 U x2 R2 G2 h2=>?_
  refine hh.run Γ σ H2 U Z _ _ R2 G2 h2.bind fun u a1 H3 a2 x3 O G3 q=>?_
  have r3:=r1.ext (x2.trans x3);unfold oSl at q
  split at q
  ·rename_i xs;obtain ⟨a,vs,rfl,z,na,I⟩:=r3
   by_cases J:HT.sIx vs.length 0 l=0/\HT.sIx vs.length vs.length u=vs.length
   ·refine .inr (.inl ⟨a,vs,rfl,SqT.of z,J,?_⟩);have e:cut xs l u=xs:=by
     unfold cut;rw [I.length,J.1,J.2,List.drop_zero,Nat.sub_zero,<- I.length,List.take_length]
    rw [e] at q;exact now O q ⟨a,vs,rfl,z,na,I⟩
   ·exact .inl ⟨a,vs,rfl,SqT.of z,J,jw O q (I.cut l u)⟩
  ·split at q
   ·rename_i xs e;obtain ⟨a,vs,rfl,z,I⟩:=Zp O r3 e;exact .inr (.inr ⟨a,vs,rfl,.inl z,jx O q (I.cut l u)⟩)
   ·exact q.elim)⟩
variable {es:List aH} {e:aH} {mr:Gam->Q0->Res (List PV)}
def Qu (o:CF) (mr:Gam->Q0->Res (List PV)):ME:=fun Γ st=>(mr Γ st).bind fun ps st1=>o st1 ps
theorem CallS.use {f:aA} (s:CallS X E f o) {P:PV->Q0->Hp->Tk->Prop} {Q:VK} {xs:List V} (R:Rel H ρ st) (J:RepL H ρ ps xs) (h:Acc X.mg E H ρ P (o st ps))
  (k:∀ p q H1 ρ1 v,Ext H ρ H1 ρ1->Rel H1 ρ1 q->Rep H1 ρ1 p v->P p q H1 ρ1->Q v H1):WC X f xs H Q:=by
 refine s.run H ρ st ps xs Q R J ?_;cases r:o st ps with
 | ok p q=>rw [r] at h; exact fun H' ρ' z I v O=>k p q H' ρ' v z I O (h H' ρ' z I)
 | exc e st=>rw [r] at h; exact h
 | stuck=>rw [r] at h; exact h
theorem Qer {id:String} {p:Pos} (Z:CallS X E (.builtin id) o) (hg:Gl X x) (hm:X.mg x=none) (U:aX x=some (.builtin id)) (ha:SimA X E (e :: es) mr) (O:x≠"__name__" := by decide) (z:(x == ("__debug__" : Str))=false:=by decide)
  (Y:aN (e :: es) X.env=(false,aO e X.env) :: aN es X.env:=by rfl) (I:(aY pos (aN es X.env)).any (·.1)=false:=by rfl):SimE X E (.Call (.Name x p) (e :: es) [] pos) (Qu o mr):=
 ⟨fun Γ σ H ρ st Q R G h=>WE.of (jk Qi0 hg hm U Q1h O z Y I) (ha.use R G h.bind fun ps a1 H1 ρ1 vs x1 J G1 r1 h1=>Z.use J r1 h1 fun _ _ _ _ v _ _ r q=>q v r)⟩
theorem Uq {p:Pos} (Z:CallS X E (.type T) o) (hg:Gl X x) (hm:X.mg x=none) (U:aX x=some (.type T)) (ha:SimA X E (e :: es) mr) (O:x≠"__name__" := by decide) (z:(x == ("__debug__" : Str))=false:=by decide)
  (Y:aN (e :: es) X.env=(false,aO e X.env) :: aN es X.env:=by rfl) (I:(aY pos (aN es X.env)).any (·.1)=false:=by rfl):SimE X E (.Call (.Name x p) (e :: es) [] pos) (Qu o mr):=
 ⟨fun Γ σ H ρ st Q R G h=>WE.of (Ks Qi0 hg hm U Q1h O z Y I) (ha.use R G h.bind fun ps a1 H1 ρ1 vs x1 J G1 r1 h1=>Z.use J r1 h1 fun _ _ _ _ v _ _ r q=>q v r)⟩
theorem Jz {xs:List V} (r:RepL H ρ [p] xs):∃ v,xs=[v]/\Rep H ρ p v:=by
 obtain ⟨v,t,rfl,h1,h2⟩:=r;cases h2;exact ⟨v,rfl,h1⟩
theorem Qey {q:PV} {xs:List V} (r:RepL H ρ [p,q] xs):∃ v u,xs=[v,u]/\Rep H ρ p v/\Rep H ρ q u:=by
 obtain ⟨v,t,rfl,h1,h2⟩:=r;obtain ⟨u,rfl,z⟩:=Jz h2;exact ⟨v,u,rfl,h1,z⟩
def Zj:CF:=fun st ps=>match ps with
 | [p]=>match W4 st p with
  | some xs=>.ok (.int xs.length) st
  | none=>match p with
   | .str x=>if x.length<=lim then .ok (.int x.length) st else .stuck
   | _=>.stuck
 | _=>.stuck
theorem Qry:CallS X E (.builtin "len") Zj:=⟨fun H ρ st ps xs Q R I h=>by
 unfold Zj at h
 split at h
 ·rename_i p;obtain ⟨v,rfl,r⟩:=Jz I
  split at h
  ·rename_i ys e;obtain ⟨t,a,vs,rfl,J,q⟩:=yc (K:=X.K) R r e;rw [q.length] at h;exact WC.of Q5n ⟨a,vs,rfl,Qp5 J,now R h rfl⟩
  ·split at h
   ·cases r
    split at h
    ·rename_i z;exact WC.of Q5m ⟨_,rfl,Zv z,now R h rfl⟩
    ·exact h.elim
   ·exact h.elim
 ·exact h.elim⟩
def Q05 (g:List Int->Option PV):CF:=fun st ps=>match ps with
 | [p]=>match (W4 st p).bind Ue with
  | some ns=>okO st (g ns)
  | none=>.stuck
 | _=>.stuck
def zt (g:List Bool->PV):CF:=fun st ps=>match ps with
 | [p]=>match (W4 st p).bind Q06 with
  | some ns=>.ok (g ns) st
  | none=>.stuck
 | _=>.stuck
theorem Qgx {ns:List Int} (R:Rel H ρ st) (r:Rep H ρ p v) (e:(W4 st p).bind Ue=some ns):∃ (t:Bool) (a:aB),v=.ref a/\SqK K t H a (ns.map V.int):=by
 cases q:W4 st p with
 | none=>rw [q] at e; cases e
 | some xs=>
  rw [q] at e;obtain ⟨t,a,vs,rfl,I,z⟩:=yc (K:=K) R r q;rw [Q0r e] at z;rw [z.toInts] at I;exact ⟨t,a,rfl,I⟩
theorem Qms {ns:List Bool} (R:Rel H ρ st) (r:Rep H ρ p v) (e:(W4 st p).bind Q06=some ns):∃ (t:Bool) (a:aB),v=.ref a/\SqK K t H a (ns.map V.bl):=by
 cases q:W4 st p with
 | none=>rw [q] at e; cases e
 | some xs=>
  rw [q] at e;obtain ⟨t,a,vs,rfl,I,z⟩:=yc (K:=K) R r q;rw [Qie e] at z;rw [z.toBls] at I;exact ⟨t,a,rfl,I⟩
theorem Qrz (q:X.calm=true):CallS X E (.builtin "all") (zt fun ns=>.bl (ns.all id)):=⟨fun H ρ st ps xs Q R z h=>by
 unfold zt at h
 split at h
 ·obtain ⟨v,rfl,r⟩:=Jz z
  split at h
  ·rename_i ns e;obtain ⟨t,a,rfl,I⟩:=Qms (K:=X.K) R r e;exact WC.of (Qi1 t q) ⟨a,ns,rfl,I,now R h rfl⟩
  ·exact h.elim
 ·exact h.elim⟩
def Qxh:List Int->Option Int
 | []=>none
 | n :: ns=>some (ns.foldl (fun a b=>if b > a then b else a) n)
def Qxg:List Int->Option Int
 | []=>none
 | n :: ns=>some (ns.foldl (fun a b=>if b < a then b else a) n)
theorem Q3s:∀ (ns:List Int) (n:Int),(ns.foldl (fun a b=>if b < a then b else a) n=n\/ns.foldl (fun a b=>if b < a then b else a) n∈ns)/\ns.foldl (fun a b=>if b < a then b else a) n<=n/\∀ k∈ns,ns.foldl (fun a b=>if b < a then b else a) n<=k
 | [],n=>⟨.inl rfl,Int.le_refl _,fun k h=>by cases h⟩
 | m :: ns,n=>by
  obtain ⟨h1,h2,z⟩:=Q3s ns (if m < n then m else n);rw [F8];refine ⟨?_,?_,fun k q=>?_⟩
  ·rcases h1 with e | e
   ·by_cases hm:m < n
    ·rw [bT hm] at e ⊢; exact .inr (by rw [e]; exact E7)
    ·rw [bU hm] at e ⊢; exact .inl e
   ·exact .inr (O4 _ e)
  ·by_cases hm:m < n
   ·rw [bT hm] at h2 ⊢; omega
   ·rw [bU hm] at h2 ⊢; exact h2
  ·rcases D7.mp q with rfl | q
   ·by_cases hm:k < n
    ·rw [bT hm] at h2 ⊢; exact h2
    ·rw [bU hm] at h2 ⊢; omega
   ·exact z k q
def Qxr:CF:=fun st ps=>match ps with
 | [.int a,.int b]=>.ok (.int (if b > a then b else a)) st
 | ps=>Q05 (fun ns=>(Qxh ns).map .int) st ps
def Qi3:CF:=fun st ps=>match ps with
 | [.int a,.int b]=>.ok (.int (if b < a then b else a)) st
 | ps=>Q05 (fun ns=>(Qxg ns).map .int) st ps
theorem Qrx (q:X.calm=true):CallS X E (.builtin "min") Qi3:=⟨fun H ρ st ps xs Q R z h=>by
 unfold Qi3 at h
 split at h
 ·obtain ⟨v,u,rfl,Y,J⟩:=Qey z;cases Y; cases J;exact WC.of (Qdh q) ⟨_,_,rfl,now R h rfl⟩
 ·unfold Q05 at h
  split at h
  ·obtain ⟨v,rfl,r⟩:=Jz z
   split at h
   ·rename_i ns e;cases ns with
    | nil=>exact h.elim
    | cons n ns=>
     obtain ⟨t,a,rfl,O⟩:=Qgx (K:=X.K) R r e;refine WC.of (Qdg t q) ⟨a,_,rfl,O,by simp,fun m hm I=>?_⟩;have U:m=ns.foldl (fun a b=>if b < a then b else a) n:=by
      obtain ⟨h1,h2,Z⟩:=Q3s ns n;have g1:m<=ns.foldl (fun a b=>if b < a then b else a) n:=by
       rcases h1 with e | e
       ·rw [e]; exact I _ E7
       ·exact I _ (O4 _ e)
      have g2:ns.foldl (fun a b=>if b < a then b else a) n<=m:=by
       rcases D7.mp hm with rfl | hm
       ·exact h2
       ·exact Z m hm
      omega
     subst U;exact now R h rfl
   ·exact h.elim
  ·exact h.elim⟩
def Y8:CF:=fun st ps=>match ps with
 | [p]=>match W4 st p with
  | some xs=>.ok (.tup xs) st
  | none=>.stuck
 | _=>.stuck
theorem Q2e:CallS X E (.type "tuple") Y8:=⟨fun H ρ st ps xs Q R J h=>by
 unfold Y8 at h
 split at h
 ·rename_i p;obtain ⟨v,rfl,r⟩:=Jz J
  split at h
  ·rename_i ys e;cases p with
   | tup zs=>
    cases e;obtain ⟨a,vs,rfl,q,I,z⟩:=r;exact WC.of qq ⟨a,vs,rfl,.inr ⟨SqT.of q,now R h ⟨a,vs,rfl,q,I,z⟩⟩⟩
   | _=>
    obtain ⟨a,vs,rfl,q,z⟩:=Zp R r e;exact WC.of qq ⟨a,vs,rfl,.inl ⟨.inl q,jw R h z⟩⟩
  ·exact h.elim
 ·exact h.elim⟩
def tyN:PV->String
 | .non => "NoneType"
 | .bl _ => "bool"
 | .int _ => "int"
 | .str _ => "str"
 | .tup _ => "tuple"
 | .lst _ => "list"
 | .fro _ => "list"
 | .ref _ => "list"
 | .dic => "dict"
def dpv (st:Q0):PV->PV
 | .ref i=>match st[i]? with
  | some (.dic _)=>.dic
  | some (.dtp _)=>.dic
  | _=>.ref i
 | p=>p
def isI (T:String) (p:PV):Bool:=tyN p == T || (T == "int" && tyN p == "bool")
def j6 (st:Q0):PV->Bool
 | .ref i=>match st[i]? with
  | some (.frd _)=>true
  | some (.obj _ _)=>true
  | _=>false
 | _=>false
theorem Qsy (I:j6 st p=false) (R:Rel H ρ st) (r:Rep H ρ p v):TyOf K H v (.type (tyN (dpv st p))):=by
 cases p with
 | non=>cases r; exact .non
 | bl b=>cases r; exact .bl b
 | int i=>cases r; exact .int i
 | str x=>cases r; exact .str x
 | tup ps=>obtain ⟨a,vs,rfl,h,_⟩:=r; exact .tup h
 | lst ps=>obtain ⟨a,vs,rfl,h,_⟩:=r; exact .lst h
 | fro ps=>
  obtain ⟨a,vs,rfl,h,_⟩:=r;rcases h with h | ⟨o,h⟩
  ·exact .lst h
  ·exact .frz h
 | ref i=>
  obtain ⟨a,e,rfl⟩:=r;have J:i < st.length:=by rw [<- R.len]; exact (O0.mp e).1
  have hs:=O2 J;have q:=R.cell i a st[i] e hs;cases z:st[i] with
  | lst xs=>rw [z] at q hs; simp only [dpv,hs]; obtain ⟨vs,h,_⟩:=q; exact .lst h
  | dic xs=>rw [z] at q hs; simp only [dpv,hs]; obtain ⟨vs,h,_⟩:=q; exact .dK h
  | dtp xs=>rw [z] at q hs; simp only [dpv,hs]; obtain ⟨vs,h,_⟩:=q; exact .dT h
  | frd xs=>rw [z] at hs; simp only [j6,hs] at I; cases I
  | obj C xs=>rw [z] at hs; simp only [j6,hs] at I; cases I
 | dic=>obtain ⟨a,rfl,h,_⟩:=r; exact .dK h
def Q24:List String:=["int", "bool", "str", "tuple", "list", "dict"]
theorem Qrd (K:PySem.W.Frag) (q:T∈Q24) (p:PV):PySem.W.kitOne K (.type (tyN p)) (.type T)=some (isI T p):=by
 have q:T = "int" \/ T = "bool" \/ T = "str" \/ T = "tuple" \/ T = "list" \/ T = "dict" := by simpa [Q24] using q
 rcases q with rfl | rfl | rfl | rfl | rfl | rfl <;> cases p <;> first | rfl | kernel_rfl
def Q94 (T:String) (m:ME):ME:=fun Γ st=>(m Γ st).bind fun p st1=>if j6 st1 p=true then .stuck else .ok (.bl (isI T (dpv st1 p))) st1
theorem Qph {z:Str} {p tp:Pos} (hT:T∈Q24) (ha:SimE X E a ma) (hg:Gl X "isinstance") (hm:X.mg "isinstance" = none) (Z:Gl X z) (J:X.mg z=none) (O:aX z=some (.type T))
  (hn:z≠"__name__" := by decide) (hd:(z == ("__debug__" : Str))=false:=by decide)
  (he:aN [a,.Name z tp] X.env=(false,aO a X.env) :: aN [.Name z tp] X.env:=by rfl) (a1:aN [.Name z tp] X.env=(false,aO (.Name z tp) X.env) :: aN [] X.env:=by rfl) (U:(aY pos (aN [.Name z tp] X.env)).any (·.1)=false:=by rfl) :
  SimE X E (.Call (.Name "isinstance" p) [a,.Name z tp] [] pos) (Q94 T ma):=
 ⟨fun Γ σ H ρ st Q R G h=>WE.of (jk Q7x hg hm Q0h (Wp J4 (Wp (Qka Z J O (v:=.ty T) rfl hn hd) X4 a1) he) (by decide) (by decide) he U)
  (ha.use R G h.bind fun q I H1 ρ1 v x1 R1 G1 r1 h1=>by
   by_cases Y:j6 I q=true
   ·rw [bT Y] at h1; exact h1.elim
   ·rw [bU Y] at h1;exact ⟨v,.ty T,.type T,_,_,rfl,rfl,Qsy (by simpa using Y) R1 r1,Qrd X.K hT (dpv I q),now R1 h1 rfl⟩)⟩
end
abbrev GA:=PV->Gam->Option Gam
abbrev GAs:=List PV->Gam->Option Gam
variable {gs:GAs}
structure SimG (X:Cx) (tg:aH) (ga:GA):Prop where
 run:∀ (Γ Γ':Gam) (σ:St) (H:Hp) (ρ:Tk) (p:PV) (v:V) (Q:St->Hp->Prop),EnvR H ρ Γ σ->Rep H ρ p v->ga p Γ=some Γ'->(∀ σ',EnvR H ρ Γ' σ'->Q σ' H)->∃ t,PG X tg t/\t v σ H Q
structure SimGs (X:Cx) (tgs:List aH) (n:Nat) (ga:GAs):Prop where
 run:∀ (Γ Γ':Gam) (σ:St) (H:Hp) (ρ:Tk) (ps:List PV) (vs:List V) (Q:St->Hp->Prop),EnvR H ρ Γ σ->RepL H ρ ps vs->ga ps Γ=some Γ'->(∀ σ',EnvR H ρ Γ' σ'->Q σ' H)->∃ t,PGs X tgs t/\t vs σ H Q
 len:∀ ps Γ Γ',ga ps Γ=some Γ'->ps.length=n
def Qe (i:Nat):GA:=fun p Γ=>some (Γ.set i (some p))
def Q29:GAs:=fun ps Γ=>match ps with
 | []=>some Γ
 | _=>none
def Yq (g:GA) (gs:GAs):GAs:=fun ps Γ=>match ps with
 | p :: r=>(g p Γ).bind (gs r)
 | []=>none
def Q28 (gs:GAs):GA:=fun p Γ=>match p with
 | .tup ps=>gs ps Γ
 | _=>none
section
variable {pos:Pos}
theorem Yj {i:Nat} (z:X.N.Nodup) (hi:X.N[i]?=some x:=by rfl) (q:Loc X.env.scope x:=by first | exact Or.inl rfl | exact Or.inr rfl) (I:X.fn x=true\/X.env.scope.names.lookup x=some .local:=by first | exact .inl rfl | exact .inr rfl):SimG X (.Name x pos) (Qe i):=
 ⟨fun Γ J σ H ρ p v Q G r e k=>⟨_,Qk6 z hi q I,by cases e; exact k _ (G.set r i)⟩⟩
theorem Qa8:SimGs X [] 0 Q29:=⟨fun Γ q σ H ρ ps vs Q G r e k=>⟨_,Qk4,by
 cases ps with
 | nil=>cases e; cases r; exact ⟨rfl,k σ G⟩
 | cons _ _=>cases e⟩,fun ps Γ q e=>by
 cases ps with
 | nil=>rfl
 | cons _ _=>cases e⟩
def WGx (X:Cx) (tg:aH):TG:=fun v σ H Q=>∃ t,PG X tg t/\t v σ H Q
theorem Qk5 {tg:aH}:PG X tg (WGx X tg):=fun pins s σ H v u Q I r ⟨t,h,q⟩=>h pins s σ H v u Q I r q
def Qxu (X:Cx) (tgs:List aH):TGs:=fun v σ H Q=>∃ t,PGs X tgs t/\t v σ H Q
theorem Qn9 {z:List aH}:PGs X z (Qxu X z):=fun pins s σ H v u Q I r ⟨t,h,q⟩=>h pins s σ H v u Q I r q
theorem Xm {g:GA} (h1:SimG X e g) (h2:SimGs X es n gs) (hs:(aw (e :: es) X.env).map (·.2)=assign e X.env :: (aw es X.env).map (·.2):=by rfl):SimGs X (e :: es) (n + 1) (Yq g gs):=
 ⟨fun Γ q σ H ρ ps vs Q G r eq k=>⟨_,Qfk Qk5 Qn9 hs,by
  cases ps with
  | nil=>cases eq
  | cons p ps=>
   obtain ⟨v,t,rfl,Y,O⟩:=r;have eq:(g p Γ).bind (gs ps)=some q:=eq;cases I:g p Γ with
   | none=>rw [I] at eq; cases eq
   | some z=>
    rw [I] at eq;exact ⟨v,t,rfl,h1.run Γ z σ H ρ p v _ G Y I fun J U=>h2.run z q J H ρ ps t _ U O eq k⟩⟩,fun ps Γ q e=>by
  cases ps with
  | nil=>cases e
  | cons p ps=>
   have e:(g p Γ).bind (gs ps)=some q:=e;cases I:g p Γ with
   | none=>rw [I] at e; cases e
   | some z=>rw [I] at e; rw [O9,h2.len ps z q e]⟩
theorem Qef (U:X.calm=true) (h:SimGs X es n gs) (O:(aw es X.env).length=n:=by rfl) (I:(aw es X.env).findIdx? (·.1)=none:=by rfl):SimG X (.Tuple es k pos) (Q28 gs):=
 ⟨fun Γ z σ H ρ p v Q G r e q=>⟨_,Qq2 U Qn9 O I,by
  cases p with
  | tup ps=>
   obtain ⟨a,vs,rfl,Y,Z,J⟩:=r;exact ⟨a,vs,rfl,SqT.of Y,by rw [<- J.length]; exact h.len ps Γ z e,h.run Γ z σ H ρ ps vs Q G J e q⟩
  | _=>cases e⟩⟩
end
abbrev Wt:=List (Nat × Cell)
def wOk (w:Wt) (st:Q0):Prop:=∀ x∈w,st[x.1]?=some x.2
theorem Qp (st:Q0):wOk [] st:=fun x h=>by cases h
structure Src (J:It) (items:List PV) (w:Wt) (H:Hp) (ρ:Tk):Prop where
 stop:∀ H2 ρ2 st2,Ext H ρ H2 ρ2->Rel H2 ρ2 st2->wOk w st2->J.stop items.length H2
 go:∀ H2 ρ2 st2,Ext H ρ H2 ρ2->Rel H2 ρ2 st2->wOk w st2->∀ i,i < items.length->J.go i H2
 yld:∀ H2 ρ2 st2,Ext H ρ H2 ρ2->Rel H2 ρ2 st2->wOk w st2->∀ i p,items[i]?=some p->∀ x H3,J.yld i H2 x H3->Same H2 H3/\Rep H3 ρ2 p x
abbrev MI:=Gam->Q0->Res (List PV × Wt)
structure SimI (X:Cx) (E:XK) (tg iter:aH) (mi:MI):Prop where
 run:∀ (Γ:Gam) (σ:St) (H:Hp) (ρ:Tk) (st:Q0) (P:List PV × Wt->Q0->Hp->Tk->Prop) (R':It->Hp->Prop),Rel H ρ st->EnvR H ρ Γ σ->Acc X.mg E H ρ P (mi Γ st) ->
  (∀ iw st1 H1 ρ1 J,mi Γ st=.ok iw st1->Ext H ρ H1 ρ1->Rel H1 ρ1 st1->EnvR H1 ρ1 Γ σ->wOk iw.2 st1->iw.1.length<=sizeLine->Src J iw.1 iw.2 H1 ρ1->P iw st1 H1 ρ1->R' J H1)->WI X tg iter σ H R'
def W3 (st:Q0):PV->Option (List PV × Wt)
 | .tup xs=>some (xs,[])
 | .lst xs=>some (xs,[])
 | .fro xs=>some (xs,[])
 | .ref i=>match st[i]? with
  | some (.lst xs)=>some (xs,[(i,.lst xs)])
  | _=>none
 | _=>none
theorem Q8f {K:PySem.W.Frag} {w:Wt} (R:Rel H ρ st) (r:Rep H ρ p v) (e:W3 st p=some (xs,w)) :
  wOk w st/\∃ (t:Bool) (a:aB),v=.ref a/\(t=true->∃ ys,p=.tup ys)/\(t=false->∀ ys,p≠.tup ys)/\∀ H2 q I,Ext H ρ H2 q->Rel H2 q I->wOk w I->∃ vs,SqK K t H2 a vs/\RepL H2 q xs vs:=by
 cases p with
 | tup ys=>
  obtain ⟨a,vs,rfl,J,O,U⟩:=r;cases e;exact ⟨Qp _,true,a,rfl,fun _=>⟨_,rfl⟩,(fun z=>by cases z),fun H2 q I x R2 _=>⟨vs,show SqT K H2 a vs from SqT.of (x.kp J O),U.ext x⟩⟩
 | lst ys=>
  obtain ⟨a,vs,rfl,J,O,U⟩:=r;cases e;exact ⟨Qp _,false,a,rfl,(fun z=>by cases z),(fun _ _ z=>by cases z),fun H2 q I x R2 _=>⟨vs,show SqL K H2 a vs from SqL.of (x.kp J O),U.ext x⟩⟩
 | fro ys=>
  obtain ⟨a,vs,rfl,J,O,U⟩:=r;cases e;refine ⟨Qp _,false,a,rfl,(fun z=>by cases z),(fun _ _ z=>by cases z),fun H2 q I x R2 _=>⟨vs,show SqL K H2 a vs from ?_,U.ext x⟩⟩
  rcases J with J | ⟨o,J⟩
  ·exact .inl (.inl (x.kp J O))
  ·exact .inl (.inr ⟨o,x.kp J O⟩)
 | ref i=>
  obtain ⟨a,Z,rfl⟩:=r;simp only [W3] at e
  split at e
  ·rename_i ys hs;cases e;refine ⟨fun x hx=>?_,false,a,rfl,(fun z=>by cases z),(fun _ _ z=>by cases z),fun H2 q I x R2 ok=>?_⟩
   ·have:x=(i,.lst xs):=by simpa using hx
    subst this; exact hs
   ·have Y:=ok (i,.lst xs) (by simp);obtain ⟨b,vs,f1,f2,f3⟩:=R2.lst Y;obtain ⟨t,et⟩:=x.pre;rw [<- et,O7 (O0.mp Z).1,Z] at f1;cases f1;exact ⟨vs,show SqL K H2 a vs from SqL.of f2,f3⟩
  ·cases e
 | _=>cases e
section
variable {X:Cx} {E:XK} {pos:Pos} {tg:aH} {e:aH} {m:ME}
def Wf (m:ME):MI:=fun Γ st=>(m Γ st).bind fun p st1=>match W3 st1 p with
 | some (xs,w)=>if xs.length<=lim then .ok (xs,w) st1 else .stuck
 | none=>.stuck
theorem RepL.i {H:Hp} {ρ:Tk} {ps:List PV} {vs:List V} {i:Nat} {p:PV} {x:V} (r:RepL H ρ ps vs) (h:ps[i]?=some p) (h':vs[i]?=some x):Rep H ρ p x:=by
 obtain ⟨v,e,q⟩:=r.get h;rw [h'] at e; cases e;exact q
theorem Qa7 {t:Bool} {a:aB} {w:Wt} (h:∀ H2 q z,Ext H ρ H2 q->Rel H2 q z->wOk w z->∃ vs,SqK K t H2 a vs/\RepL H2 q xs vs):Src (if t=true then Itt K a else Itl K a) xs w H ρ:=by
 cases t with
 | true=>
  rw [bT rfl];refine ⟨fun H2 q z x R ok=>?_,fun H2 q z x R ok i hi=>?_,fun H2 q z x R ok i p U y Y O=>?_⟩
  ·obtain ⟨vs,s,r⟩:=h H2 q z x R ok;exact ⟨vs,s,by rw [r.length]; exact O6 _⟩
  ·obtain ⟨vs,s,r⟩:=h H2 q z x R ok;have I:i < vs.length:=by rw [<- r.length]; exact hi
   exact ⟨vs,vs[i],s,O2 I⟩
  ·obtain ⟨vs,s,r⟩:=h H2 q z x R ok;obtain ⟨rfl,J⟩:=O;exact ⟨Same.refl _,r.i U (J vs s)⟩
 | false=>
  rw [bU D4];refine ⟨fun H2 q z x R ok=>?_,fun H2 q z x R ok i hi=>?_,fun H2 q z x R ok i p U y Y O=>?_⟩
  ·obtain ⟨vs,s,r⟩:=h H2 q z x R ok;exact ⟨vs,s,by rw [r.length]; exact O6 _⟩
  ·obtain ⟨vs,s,r⟩:=h H2 q z x R ok;have I:i < vs.length:=by rw [<- r.length]; exact hi
   exact ⟨vs,vs[i],s,O2 I⟩
  ·obtain ⟨vs,s,r⟩:=h H2 q z x R ok;obtain ⟨rfl,J⟩:=O;exact ⟨Same.refl _,r.i U (J vs s)⟩
theorem Qar {P:List PV × Wt->Q0->Hp->Tk->Prop} (R:Rel H ρ st) (h:Acc mg E H ρ P (match W3 st p with | some (xs,w)=>if xs.length<=lim then .ok (xs,w) st else .stuck | none=>.stuck)) :
  ∃ xs w,W3 st p=some (xs,w)/\xs.length<=lim/\P (xs,w) st H ρ:=by
 split at h
 ·rename_i xs w e
  split at h
  ·rename_i q;exact ⟨xs,w,e,q,h H ρ (Ext.refl _ _) R⟩
  ·exact h.elim
 ·exact h.elim
theorem Qp9 (ha:SimE X E e m):SimI X E tg e (Wf m):=⟨fun Γ σ H ρ st P R' R G h k=>by
 have hb:Acc X.mg E H ρ _ (m Γ st):=Acc.bind h
 by_cases ht:∃ ys q,m Γ st=.ok (.tup ys) q
 ·obtain ⟨ys,a1,e0⟩:=ht;refine WI.of (Qq0 J4) (ha.use' R G hb fun p q H1 ρ1 v eq O z Y U h1=>?_);obtain ⟨xs,w,e,I,Z⟩:=Qar z h1;obtain ⟨ok,t,a,rfl,t1,t2,J⟩:=Q8f (K:=X.K) z U e;have ep:p=.tup ys:=by rw [eq] at e0; injection e0
  cases t with
  | false=>exact absurd ep (t2 rfl ys)
  | true=>
   obtain ⟨vs,s,_⟩:=J H1 ρ1 q (Ext.refl _ _) z ok;exact ⟨a,rfl,⟨vs,s⟩,k (xs,w) q H1 ρ1 _ (by simp only [Wf,eq,Res.bind,e,bT I]) O z Y ok (Zv I) (Qa7 J) Z⟩
 ·refine WI.of (Qk2 J4) (ha.use' R G hb fun p q H1 ρ1 v eq O z Y U h1=>?_);obtain ⟨xs,w,e,I,Z⟩:=Qar z h1;obtain ⟨ok,t,a,rfl,t1,t2,J⟩:=Q8f (K:=X.K) z U e;cases t with
  | true=>
   obtain ⟨ys,rfl⟩:=t1 rfl;exact absurd ⟨ys,q,eq⟩ ht
  | false=>
   obtain ⟨vs,s,_⟩:=J H1 ρ1 q (Ext.refl _ _) z ok;exact ⟨a,rfl,⟨vs,s⟩,k (xs,w) q H1 ρ1 _ (by simp only [Wf,eq,Res.bind,e,bT I]) O z Y ok (Zv I) (Qa7 J) Z⟩⟩
def Wc (lo:Int) (n:Nat):List PV:=(List.range n).map fun (k:Nat)=>PV.int (lo + (k:Int))
theorem Qc1 {lo:Int} :Src (Itr lo n) (Wc lo n) [] H ρ:=by
 have O:(Wc lo n).length=n:=by unfold Wc; rw [O1,F7]
 refine ⟨fun H2 z q x R ok=>?_,fun H2 z q x R ok i hi=>?_,fun H2 z q x R ok i p I y U J=>?_⟩
 ·show n<=(Wc lo n).length;omega
 ·show i < n;omega
 ·obtain ⟨rfl,rfl⟩:=J;have hi:i < n:=by rw [<- O]; exact (O0.mp I).1
  unfold Wc at I;rw [E2,List.getElem?_range hi] at I;cases I;exact ⟨Same.refl _,rfl⟩
def Za (mr:Gam->Q0->Res (List PV)):MI:=fun Γ st=>(mr Γ st).bind fun ps st1=>match ps with
 | [.int j]=>if -(lim:Int)<=j/\j<=lim then .ok (Wc 0 j.toNat,[]) st1 else .stuck
 | _=>.stuck
variable {a b:aH} {mr:Gam->Q0->Res (List PV)} {p:Pos}
theorem Q8q (lo:Int) (n:Nat):(Wc lo n).length=n:=by unfold Wc; rw [O1,F7]
theorem W8 (hg:Gl X "range") (hm:X.mg "range" = none) (O:SimA X E [a] mr) (hs:aN [a] X.env=[(false,aO a X.env)]:=by rfl):SimI X E tg (.Call (.Name "range" p) [a] [] pos) (Za mr):=⟨fun Γ σ H ρ st P R' R G h k=>by
 refine WI.of (Qci hg hm Q1h hs) (O.use' R G h.bind fun ps q H1 ρ1 vs eq I z J Y h1=>?_)
 split at h1
 ·rename_i j
  split at h1
  ·rename_i U;obtain ⟨v,rfl,Z⟩:=Jz Y;cases Z;have hl:(lim:Int)=1000000:=rfl;refine ⟨j,rfl,by omega,by omega,k (Wc 0 j.toNat,[]) q H1 ρ1 _ (by simp only [Za,eq,Res.bind,bT U]) I z J (Qp _) ?_ Qc1 (h1 H1 ρ1 (Ext.refl _ _) z)⟩;show (Wc 0 j.toNat).length<=sizeLine;rw [Q8q];exact Zv (by omega)
  ·exact h1.elim
 ·exact h1.elim⟩
def Vf:Nat->List PV->List PV
 | _,[]=>[]
 | n,x :: xs=>.tup [.int n,x] :: Vf (n + 1) xs
theorem Kz:∀ (n:Nat) (xs:List PV),(Vf n xs).length=xs.length
 | _,[]=>rfl
 | n,x :: xs=>by rw [Vf,O9,Kz (n + 1) xs,O9]
theorem Q3t:∀ {n:Nat} {xs:List PV} {i:Nat} {p:PV},(Vf n xs)[i]?=some p->∃ x,p=.tup [.int (n + i:Nat),x]/\xs[i]?=some x
 | n,[],i,p,h=>by simp [Vf] at h
 | n,x :: xs,0,p,h=>by
  simp [Vf] at h;exact ⟨x,h.symm,rfl⟩
 | n,x :: xs,i + 1,p,h=>by
  rw [Vf,List.getElem?_cons_succ] at h;obtain ⟨y,q,z⟩:=Q3t h;exact ⟨y,by rw [q,show n + 1 + i=n + (i + 1) by omega],by simpa using z⟩
def Q73 (mr:Gam->Q0->Res (List PV)):MI:=fun Γ st=>(mr Γ st).bind fun ps st1=>match ps with
 | [p]=>match W3 st1 p with
  | some (xs,w)=>if xs.length<=lim then .ok (Vf 0 xs,w) st1 else .stuck
  | none=>.stuck
 | _=>.stuck
theorem Qea {t:Bool} {a:aB} {w:Wt} (h:∀ H2 z I,Ext H ρ H2 z->Rel H2 z I->wOk w I->∃ vs,SqK K t H2 a vs/\RepL H2 z xs vs):Src (Ite K t a) (Vf 0 xs) w H ρ:=by
 refine ⟨fun H2 z I x R ok=>?_,fun H2 z I x R ok i hi=>?_,fun H2 z I x R ok i p hp y H3 Z=>?_⟩
 ·obtain ⟨vs,s,r⟩:=h H2 z I x R ok;exact ⟨vs,s,by rw [Kz,r.length]; exact O6 _⟩
 ·obtain ⟨vs,s,r⟩:=h H2 z I x R ok;rw [Kz,r.length] at hi;exact ⟨vs,vs[i],s,O2 hi⟩
 ·obtain ⟨vs,s,r⟩:=h H2 z I x R ok;obtain ⟨q,u,J,rfl,rfl,U⟩:=Z;have Y:=U vs s;obtain ⟨xp,rfl,p1⟩:=Q3t hp;have O:Same H2 (upd H2 q (.tup [.int i,u])):=Qes J;exact ⟨O,q,[.int i,u],rfl,Qv,R.fresh J,RepL.cons (by rw [Nat.zero_add]; rfl) (RepL.cons ((r.i p1 Y).ext (Ext.same O)) RepL.nil)⟩
theorem Qj6 {J:List aH} {kt:Nat} {tp:Pos} (hg:Gl X "enumerate") (hm:X.mg "enumerate" = none) (ha:SimA X E [a] mr) (hs:aN [a] X.env=[(false,aO a X.env)]:=by rfl) :
  SimI X E (.Tuple J kt tp) (.Call (.Name "enumerate" p) [a] [] pos) (Q73 mr):=⟨fun Γ σ H ρ st P R' R G h k=>by
 have hb:Acc X.mg E H ρ _ (mr Γ st):=Acc.bind h;have I:∀ O:Bool,(∀ p q,mr Γ st=.ok [p] q->(O=true <-> ∃ ys,p=.tup ys))->WI X (.Tuple J kt tp) (.Call (.Name "enumerate" p) [a] [] pos) σ H R':=fun O ht=>by
  refine WI.of (Qk3 O hg hm Q1h hs) (ha.use' R G hb fun ps q H1 ρ1 vs eq x1 R1 G1 r1 h1=>?_)
  split at h1
  ·rename_i p'
   split at h1
   ·rename_i xs w e1
    split at h1
    ·rename_i hl;obtain ⟨v,rfl,rv⟩:=Jz r1;obtain ⟨U,b1,a1,rfl,z1,a2,Y⟩:=Q8f (K:=X.K) R1 rv e1;have Z:=ht _ _ eq;have a4:b1=O:=by
      cases b1 with
      | true=>exact (Z.mpr (z1 rfl)).symm
      | false=>
       cases O with
       | false=>rfl
       | true=>obtain ⟨ys,e⟩:=Z.mp rfl; exact absurd e (a2 rfl ys)
     subst a4;obtain ⟨a3,s1,_⟩:=Y H1 ρ1 q (Ext.refl _ _) R1 U;refine ⟨a1,a3,rfl,s1,k (Vf 0 xs,w) q H1 ρ1 _ (by simp only [Q73,eq,Res.bind,e1,bT hl]) x1 R1 G1 U ?_ (Qea Y) (h1 H1 ρ1 (Ext.refl _ _) R1)⟩;show (Vf 0 xs).length<=sizeLine;rw [Kz];exact Zv hl
    ·exact h1.elim
   ·exact h1.elim
  ·exact h1.elim
 have tt:∀ p:PV,∃ t:Bool,t=true <-> ∃ ys,p=.tup ys:=fun p=>by
  cases p with
  | tup ys=>exact ⟨true,fun _=>⟨ys,rfl⟩,fun _=>rfl⟩
  | _=>exact ⟨false,⟨fun z=>(by cases z),fun ⟨_,z⟩=>(by cases z)⟩⟩
 by_cases hz:∃ p q,mr Γ st=.ok [p] q
 ·obtain ⟨p0,a5,e0⟩:=hz;obtain ⟨O,Z⟩:=tt p0;refine I O fun p q e=>?_
  rw [e0] at e; cases e;exact Z
 ·exact I true fun p q e=>absurd ⟨p,q,e⟩ hz⟩
end
section
abbrev ML:=Gam->Q0->Res (List PV)
structure SimN (X:Cx) (E:XK) (e:aH) (m:ML):Prop where
 run:∀ (Γ:Gam) (σ:St) (H:Hp) (ρ:Tk) (st:Q0) (P:List PV->Q0->Hp->Tk->Prop) (Q:VK),Rel H ρ st->EnvR H ρ Γ σ->Acc X.mg E H ρ P (m Γ st) ->
  (∀ ps st1 H1 ρ1 a vs,m Γ st=.ok ps st1->Ext H ρ H1 ρ1->Rel H1 ρ1 st1->a∈ρ1.hid->H a=none->H1 a=some (.lst vs)->RepL H1 ρ1 ps vs->Q (.ref a) H1)->WE X e σ H Q
def W2 (m:ML):ME:=fun Γ st=>(m Γ st).bind fun ps st1=>.ok (.lst ps) st1
def qh (m:ML):ME:=fun Γ st=>(m Γ st).bind fun ps st1=>.ok (.ref st1.length) (st1 ++ [.lst ps])
section
variable {H0 H:Hp} {ρ0 ρ:Tk} {st:Q0} {a:aB} {ps:List PV} {vs:List V}
theorem Qaj (J:Rel H0 ρ0 st) (x:Ext H0 ρ0 H ρ) {q:Q0} (R:Rel H ρ q) (hm:a∈ρ.hid) (I:H0 a=none) (O:H a=some (.lst vs)) (r:RepL H ρ ps vs) :
  Ext H0 ρ0 H ⟨ρ.tr,ρ0.hid⟩/\Rel H ⟨ρ.tr,ρ0.hid⟩ q/\Rep H ⟨ρ.tr,ρ0.hid⟩ (.lst ps) (.ref a):=
 ⟨x.unhide,R.unhide x.hidM,a,vs,rfl,O,(fun z=>by
  rcases z with z | z
  ·exact R.ap a hm z
  ·obtain ⟨o,e,_⟩:=J.hd a z;rw [I] at e; cases e),r.unhide x.hidM⟩
mutual
theorem Rep.trk {b:aB} {hs:List aB} (I:b∈ρ.hid) (q:∀ c,c∈hs->c∈ρ.hid):∀ {p:PV} {v:V},Rep H ρ p v->Rep H ⟨ρ.tr ++ [b],hs⟩ p v
 | .non,_,r=>r
 | .bl _,_,r=>r
 | .int _,_,r=>r
 | .str _,_,r=>r
 | .tup ps,v,⟨c,vs,e,s,n,r⟩=>⟨c,vs,e,s,fun z=>by
   rcases z with z | z
   ·rcases E1.mp z with z | z
    ·exact n (.inl z)
    ·have:c=b:=by simpa using z
     subst this; exact n (.inr I)
   ·exact n (.inr (q _ z)),RepL.trk I q r⟩
 | .lst ps,v,⟨c,vs,e,s,n,r⟩=>⟨c,vs,e,s,fun z=>by
   rcases z with z | z
   ·rcases E1.mp z with z | z
    ·exact n (.inl z)
    ·have:c=b:=by simpa using z
     subst this; exact n (.inr I)
   ·exact n (.inr (q _ z)),RepL.trk I q r⟩
 | .fro ps,v,⟨c,vs,e,s,n,r⟩=>⟨c,vs,e,s,fun z=>by
   rcases z with z | z
   ·rcases E1.mp z with z | z
    ·exact n (.inl z)
    ·have:c=b:=by simpa using z
     subst this; exact n (.inr I)
   ·exact n (.inr (q _ z)),RepL.trk I q r⟩
 | .ref i,v,⟨c,e,J⟩=>⟨c,by show (ρ.tr ++ [b])[i]?=some c; rw [O7 (O0.mp e).1]; exact e,J⟩
 | .dic,v,⟨c,e,s,n⟩=>⟨c,e,s,fun z=>by
   rcases z with z | z
   ·rcases E1.mp z with z | z
    ·exact n (.inl z)
    ·have:c=b:=by simpa using z
     subst this; exact n (.inr I)
   ·exact n (.inr (q _ z))⟩
theorem RepL.trk {b:aB} {hs:List aB} (z:b∈ρ.hid) (q:∀ c,c∈hs->c∈ρ.hid):∀ {ps:List PV} {vs:List V},RepL H ρ ps vs->RepL H ⟨ρ.tr ++ [b],hs⟩ ps vs
 | [],_,r=>r
 | p :: ps,_,⟨v,t,e,J,I⟩=>⟨v,t,e,Rep.trk z q J,RepL.trk z q I⟩
end
theorem Qkd (R0:Rel H0 ρ0 st) (x:Ext H0 ρ0 H ρ) {I:Q0} (R:Rel H ρ I) (hm:a∈ρ.hid) (hn:H0 a=none) (ha:H a=some (.lst vs)) (r:RepL H ρ ps vs) :
  Ext H0 ρ0 H ⟨ρ.tr ++ [a],ρ0.hid⟩/\Rel H ⟨ρ.tr ++ [a],ρ0.hid⟩ (I ++ [.lst ps])/\Rep H ⟨ρ.tr ++ [a],ρ0.hid⟩ (.ref I.length) (.ref a):=by
 have Z:a∉ρ0.hid:=fun z=>by
  obtain ⟨o,e,_⟩:=R0.hd a z;rw [hn] at e; cases e
 refine ⟨⟨x.pre.trans (List.prefix_append _ _),fun _ h=>h,fun _ h=>.inl h,x.keep,fun b U=>?_,x.old,x.frz⟩,⟨?_,?_,fun b U=>R.hd b (x.hidM b U),fun b U z=>?_,fun i b c h1 h2=>?_⟩,a,?_,rfl⟩
 ·rcases E1.mp U with z | z
  ·exact x.new b z
  ·have:b=a:=by simpa using z
   subst this; exact .inr hn
 ·show (ρ.tr ++ [a]).length=_;rw [O5,O5,R.len]; rfl
 ·show (ρ.tr ++ [a]).Nodup;refine L4.mpr ⟨R.nd,by simp,fun b U c hc e=>?_⟩;have:c=a:=by simpa using hc
  subst this; subst e;exact R.ap b hm U
 ·rcases E1.mp z with z | z
  ·exact R.ap b (x.hidM b U) z
  ·have:b=a:=by simpa using z
   subst this; exact Z U
 ·have h1:(ρ.tr ++ [a])[i]?=some b:=h1
  by_cases hi:i < I.length
  ·rw [O7 (by rw [R.len]; exact hi)] at h1;rw [O7 hi] at h2;have q:=R.cell i b c h1 h2;cases c with
   | lst Y=>
    obtain ⟨us,O,J⟩:=q;exact ⟨us,O,J.trk hm x.hidM⟩
   | dic Y=>
    obtain ⟨us,O,J⟩:=q;exact ⟨us,O,J.1,J.2.trk hm x.hidM⟩
   | dtp Y=>
    obtain ⟨us,O,J⟩:=q;exact ⟨us,O,J.1,J.2.trk hm x.hidM⟩
   | frd Y=>
    obtain ⟨us,O,J⟩:=q;exact ⟨us,O,J.1,J.2.trk hm x.hidM⟩
   | obj C Y=>
    obtain ⟨us,O,J⟩:=q;exact ⟨us,O,J.1,J.2.trk hm x.hidM⟩
  ·rw [D9 (by rw [R.len]; omega)] at h1;rw [D9 (by omega)] at h2;have e0:i - I.length=0:=by
    rcases Nat.eq_zero_or_pos (i - I.length) with z | z
    ·exact z
    ·rw [N2 (by simp; omega)] at h2; cases h2
   rw [R.len,e0] at h1;rw [e0] at h2;simp at h1 h2;subst h1; subst h2;exact ⟨vs,ha,r.trk hm x.hidM⟩
 ·show (ρ.tr ++ [a])[I.length]?=some a;rw [<- R.len,D9 (O6 _),Nat.sub_self]; rfl
end
section
variable {X:Cx} {E:XK} {pos:Pos} {e:aH} {m:ML}
theorem Q4c (h:SimN X E e m):SimE X E e (W2 m):=⟨fun Γ σ H ρ st Q R G q=>h.run Γ σ H ρ st _ Q R G q.bind fun ps O H1 ρ1 a vs eq x z hm I Y r=>by
 obtain ⟨U,R2,J⟩:=Qaj R x z hm I Y r;unfold W2 at q;rw [eq] at q;exact q _ _ U R2 _ J⟩
theorem Qpa (h:SimN X E e m):SimE X E e (qh m):=⟨fun Γ σ H ρ st Q R G q=>h.run Γ σ H ρ st _ Q R G q.bind fun ps O H1 ρ1 a vs eq x z hm I Y r=>by
 obtain ⟨U,R2,J⟩:=Qkd R x z hm I Y r;unfold qh at q;rw [eq] at q;exact q _ _ U R2 _ J⟩
variable {es:List aH} {mr:Gam->Q0->Res (List PV)} {a b:aH} {ma mb:ME}
theorem Q4v {ρ1:Tk} {q:Q0} {Q:VK} (x:Ext H ρ H1 ρ1) (J:Rel H1 ρ1 q) (r:RepL H1 ρ1 ps vs)
  (k:∀ H1 ρ1 a vs,Ext H ρ H1 ρ1->Rel H1 ρ1 q->a∈ρ1.hid->H a=none->H1 a=some (.lst vs)->RepL H1 ρ1 ps vs->Q (.ref a) H1):∀ p,H1 p=none->Q (.ref p) (upd H1 p (.lst vs)):=fun p z=>by
 refine k _ (ρ1.hide p) p vs (x.trans (Ext.hide z)) (J.hide z) E7 ?_ Qv (r.hide z);cases e:H p with
 | none=>rfl
 | some o=>
  obtain ⟨o',I⟩:=x.old p o e;rw [z] at I; cases I
def K6 (mr:Gam->Q0->Res (List PV)):ML:=fun Γ st=>(mr Γ st).bind fun ps st1=>if ps.length<=lim then .ok ps st1 else .stuck
theorem Qp6 (h:SimA X E es mr):SimN X E (.List es pos) (K6 mr):=
 ⟨fun Γ σ H ρ st P Q R G Y k=>WE.of (Qfq Q1h) (h.use' R G Y.bind fun ps q H1 ρ1 vs eq U O Z J h1=>by
  by_cases I:ps.length<=lim
  ·refine ⟨by rw [<- J.length]; exact Zv I,Q4v U O J fun H2 z a us=>k ps q H2 z a us ?_⟩;unfold K6;rw [eq];exact bT I
  ·rw [bU I] at h1; exact h1.elim)⟩
def Q6r (st:Q0) (p q:PV):Res (List PV):=match Ve st p,Ve st q with
 | some xs,some ys=>if xs.length + ys.length<=lim then .ok (xs ++ ys) st else .stuck
 | _,_=>.stuck
def Q3j (ma mb:ME):ML:=fun Γ st=>(ma Γ st).bind fun x st1=>(mb Γ st1).bind fun y st2=>Q6r st2 x y
theorem Qp7 (ha:SimE X E a ma) (hb:SimE X E b mb):SimN X E (.BinOp a .Add b pos) (Q3j ma mb):=
 ⟨fun Γ σ H ρ st P Q R G hq k=>WE.of (Qna Qg1 J4 J4) (ha.use' R G hq.bind fun p I H1 ρ1 v e1 x1 R1 G1 r1 h1=>hb.use' R1 G1 h1.bind fun q z H2 a1 u e2 U R2 G2 r2 h2=>by
  unfold Q6r at h2
  split at h2
  ·rename_i xs ys O f2
   split at h2
   ·rename_i Z;obtain ⟨c,vs,rfl,hc,Y⟩:=j1 R2 (r1.ext U) O;obtain ⟨d,us,rfl,hd,rd⟩:=j1 R2 r2 f2;refine ⟨c,d,vs,us,rfl,rfl,hc,hd,by rw [<- Y.length,<- rd.length]; exact Zv Z,Q4v (x1.trans U) R2 (Y.append rd) fun H3 J a ws=>k (xs ++ ys) z H3 J a ws ?_⟩;unfold Q3j Q6r;rw [e1];show (mb Γ I).bind _=_;rw [e2];show (match Ve z p,Ve z q with | some xs,some ys=>if xs.length + ys.length<=lim then Res.ok (xs ++ ys) z else .stuck | _,_=>.stuck)=_
    rw [O,f2];exact bT Z
   ·exact h2.elim
  ·exact h2.elim)⟩
end
end
def Yf (cap:List (Option Nat)) (Γ:Gam):Gam:=cap.map fun c=>c.bind fun j=>(Γ[j]?).join
theorem EnvR.cap {H:Hp} {ρ:Tk} {Γ:Gam} {σ:St} (h:EnvR H ρ Γ σ) (cap:List (Option Nat)):EnvR H ρ (Yf cap Γ) (zn cap σ):=by
 refine ⟨by unfold Yf zn; rw [O1,O1],fun i p e=>?_⟩;unfold Yf at e;unfold zn;rw [E2] at e ⊢;cases q:cap[i]? with
 | none=>rw [q] at e; cases e
 | some c=>
  rw [q] at e;cases c with
  | none=>cases e
  | some j=>
   have z:(Γ[j]?).join=some p:=Option.some.inj e;cases r:Γ[j]? with
   | none=>rw [r] at z; cases z
   | some o=>
    rw [r] at z;have:o=some p:=z;subst this;obtain ⟨v,I,J⟩:=h.2 j p r;exact ⟨v,by show some ((σ[j]?).join)=some (some v); rw [I]; rfl,J⟩
def Q07 (cap:List (Option Nat)) (ga:GA):Prop:=∀ Γ p Γ1,ga p (Yf cap Γ)=some Γ1->Γ1.length=(Yf cap Γ).length/\∀ (i:Nat) (q:PV),(Yf cap Γ)[i]?=some (some q)->Γ1[i]?=some (some q)
theorem Q3x {cap:List (Option Nat)} {i:Nat} (h:cap[i]?=some none) (Γ:Gam):(Yf cap Γ)[i]?=some none:=by
 unfold Yf;rw [E2,h]; rfl
theorem Vi {cap:List (Option Nat)} {i:Nat} (h:cap[i]?=some none:=by rfl):Q07 cap (Qe i):=fun Γ p J e=>by
 cases e;refine ⟨L6 ..,fun j q I=>?_⟩;rw [F1 fun z=>?_]
 ·exact I
 ·subst z; rw [Q3x h] at I; cases I
def Qbp (cap:List (Option Nat)) (ga:GAs):Prop:=∀ Γ ps Γ0 Γ1,(∀ (i:Nat) (q:PV),(Yf cap Γ)[i]?=some (some q)->Γ0[i]?=some (some q))->ga ps Γ0=some Γ1->Γ1.length=Γ0.length/\∀ (i:Nat) (q:PV),(Yf cap Γ)[i]?=some (some q)->Γ1[i]?=some (some q)
theorem Qhh {cap:List (Option Nat)}:Qbp cap Q29:=fun Γ ps Γ0 q h e=>by
 cases ps with
 | nil=>cases e; exact ⟨rfl,h⟩
 | cons _ _=>cases e
theorem Qd8 {cap:List (Option Nat)} {i:Nat} (hs:Qbp cap gs) (h:cap[i]?=some none:=by rfl):Qbp cap (Yq (Qe i) gs):=fun Γ ps Γ0 I h0 e=>by
 cases ps with
 | nil=>cases e
 | cons p ps=>
  obtain ⟨a,b⟩:=hs Γ ps (Γ0.set i (some p)) I (fun k r q=>by
   rw [F1 fun z=>?_]
   ·exact h0 k r q
   ·subst z; rw [Q3x h] at q; cases q) e
  exact ⟨by rw [a,L6],b⟩
theorem Qhg {cap:List (Option Nat)} (hs:Qbp cap gs):Q07 cap (Q28 gs):=fun Γ p q e=>by
 cases p with
 | tup ps=>exact hs Γ ps _ q (fun _ _ h=>h) e
 | _=>cases e
open Classical in
def Jy (ga:GA) (mt:MT) (me:ME) (w:Wt) (Γ0:Gam):List PV->Q0->Res (List PV)
 | [],st=>if wOk w st then .ok [] st else .stuck
 | x :: xs,st=>if wOk w st then (match ga x Γ0 with
  | none=>.stuck
  | some Γ1=>(mt Γ1 st).bind fun b st1=>if b=true then (me Γ1 st1).bind fun y st2=>(Jy ga mt me w Γ0 xs st2).bind fun ys st3=>.ok (y :: ys) st3 else Jy ga mt me w Γ0 xs st1) else .stuck
def noX {α:Type}:Res α->Res α
 | .exc _ _=>.stuck
 | r=>r
def J3 (cap:List (Option Nat)) (ga:GA) (mi:MI) (mt:MT) (me:ME):ML:=fun Γ st=>(mi Γ st).bind fun iw st1=>noX (Jy ga mt me iw.2 (Yf cap Γ) iw.1 st1)
structure SimTs (X:Cx) (ifs:List aH) (m:MT):Prop where
 run:∀ (Γ:Gam) (σ:St) (H:Hp) (ρ:Tk) (st:Q0) (P:Bool->Q0->Hp->Tk->Prop) (Q:Bool->Hp->Prop),Rel H ρ st->EnvR H ρ Γ σ->Acc X.mg E0 H ρ P (m Γ st) ->
  (∀ b st1 H1 ρ1,m Γ st=.ok b st1->Ext H ρ H1 ρ1->Rel H1 ρ1 st1->EnvR H1 ρ1 Γ σ->Q b H1)->∃ t,PTs X ifs t/\t σ H Q
def Zs:MT:=fun _ st=>.ok true st
theorem Kk :SimTs X [] Zs:=⟨fun Γ σ H ρ st P Q R G h k=>⟨_,Qjr,k true st H ρ rfl (Ext.refl _ _) R G⟩⟩
theorem Qiu {m:MT} (J:SimT X E0 c m):SimTs X [c] m:=⟨fun Γ σ H ρ st P Q R G h k=>⟨_,Qjq Qcc,J.use' R G h fun b q H1 ρ1 e I z O p=>k b q H1 ρ1 e I z O⟩⟩
theorem Qmz {E':XK} {P:α->Q0->Hp->Tk->Prop} {r:Res α} (h:Acc mg E H ρ P (noX r)):Acc mg E' H ρ P r:=by
 cases r with
 | ok a st=>exact h
 | exc x st=>exact h.elim
 | stuck=>exact h
theorem Res.assoc {q:Type} (r:Res α) (f:α->Q0->Res β) (g:β->Q0->Res q):(r.bind f).bind g=r.bind fun a st=>(f a st).bind g:=by cases r <;> rfl
theorem Acc.assoc {q:Type} {P:q->Q0->Hp->Tk->Prop} {r:Res α} {f:α->Q0->Res β} {g:β->Q0->Res q} (h:Acc mg E H ρ P ((r.bind f).bind g)):Acc mg E H ρ P (r.bind fun a st=>(f a st).bind g):=by
 rw [<- Res.assoc]; exact h
theorem EnvR.le {z:Gam} (h:EnvR H ρ z σ) (I:Γ.length=σ.length) (k:∀ (i:Nat) (q:PV),Γ[i]?=some (some q)->z[i]?=some (some q)):EnvR H ρ Γ σ:=⟨I,fun i p e=>h.2 i p (k i p e)⟩
variable {tg iter elt:aH} {ifs:List aH} {N N':List Str} {sc scE:Scope} {ga:GA} {mi:MI} {mt:MT} {me:ME}
section
variable {pos:Pos} {cap:List (Option Nat)}
def aE (X:Cx) (N':List Str) (sc:Scope) (e:aH):TE:=fun σ H Q=>∀ cl C s0 H0 ex,WE (Z5 X N' sc cl C s0 H0 ex) e σ H Q
def aG (X:Cx) (N':List Str) (sc:Scope) (tg:aH):TG:=fun v σ H Q=>∀ cl C s0 H0 ex,WGx (Z5 X N' sc cl C s0 H0 ex) tg v σ H Q
def aT (X:Cx) (N':List Str) (sc:Scope) (ifs:List aH):TT:=fun σ H Q=>∀ cl C s0 H0 ex,∃ t,PTs (Z5 X N' sc cl C s0 H0 ex) ifs t/\t σ H Q
theorem Qdd {Γ:Gam} {σ:St} {H1:Hp} {ρ1:Tk} {Y:Q0} {J:It} {q:List PV} {w:Wt} {Q:VK} {P:List PV->Q0->Hp->Tk->Prop} (hg:∀ cl C s0 H0 ex,SimG (Z5 X N' sc cl C s0 H0 ex) tg ga) (he:∀ cl C s0 H0 ex,SimE (Z5 X N' sc cl C s0 H0 ex) E0 elt me) (ht:∀ cl C s0 H0 ex,SimTs (Z5 X N' sc cl C s0 H0 ex) ifs mt)
  (hf:Q07 cap ga) (R1:Rel H1 ρ1 Y) (G1:EnvR H1 ρ1 Γ σ) (src:Src J q w H1 ρ1) (c5:q.length<=sizeLine) (h:Acc X.mg E0 H1 ρ1 P (Jy ga mt me w (Yf cap Γ) q Y))
  (k:∀ ys b8 H2 a5 acc vs,Jy ga mt me w (Yf cap Γ) q Y=.ok ys b8->Ext H1 ρ1 H2 a5->Rel H2 a5 b8->acc∈a5.hid->H1 acc=none->H2 acc=some (.lst vs)->RepL H2 a5 ys vs->Q (.ref acc) H2):Q3v J cap (aG X N' sc tg) (aT X N' sc ifs) (aE X N' sc elt) σ H1 Q:=by
 intro acc I;let W:Nat->Nat->List V->St->Hp->Prop:=fun i m vs b0 H'=>m=q.length - i/\i<=q.length/\vs.length<=i/\∃ ρ' st' ys,Ext H1 ρ1 H' ρ'/\acc∈ρ'.hid/\Rel H' ρ' st'/\EnvR H' ρ' (Yf cap Γ) b0/\H' acc=some (.lst vs)/\RepL H' ρ' ys vs /\
  Jy ga mt me w (Yf cap Γ) q Y=(Jy ga mt me w (Yf cap Γ) (q.drop i) st').bind fun zs a4=>.ok (ys ++ zs) a4
 refine ⟨W,⟨_,rfl,G8 _,O6 _,ρ1.hide acc,Y,[],Ext.hide I,E7,R1.hide I,(G1.cap cap).hide I,Qv,rfl,?_⟩,?_⟩
 ·rw [List.drop_zero];cases r:Jy ga mt me w (Yf cap Γ) q Y with
  | ok zs a4=>rfl
  | exc x a4=>rfl
  | stuck=>rfl
 rintro i m vs b0 H' ⟨hm,hi,c6,ρ',st',ys,x,a1,R',G',ha,ry,U⟩;have O:Acc X.mg E0 H1 ρ1 P ((Jy ga mt me w (Yf cap Γ) (q.drop i) st').bind fun zs a4=>.ok (ys ++ zs) a4):=by rw [<- U]; exact h
 refine ⟨ha,?_⟩
 by_cases Z:i < q.length
 ·right
  have hd:q.drop i=q[i] :: q.drop (i + 1):=List.drop_eq_getElem_cons Z;rw [hd,Jy] at O U
  by_cases hw:wOk w st'
  ·rw [bT hw] at O U;refine ⟨src.go H' _ st' x R' hw i Z,by omega,fun y H2 hy=>?_⟩;obtain ⟨sm,c2⟩:=src.yld H' _ st' x R' hw i _ (O2 Z) y H2 hy;cases eg:ga q[i] (Yf cap Γ) with
   | none=>rw [eg] at O; exact O.elim
   | some a3=>
    rw [eg] at O U;have x2:Ext H' ρ' H2 ρ':=Ext.same sm;have R2:=R'.same sm;intro cl C s0 H0 ex;refine (hg cl C s0 H0 ex).run (Yf cap Γ) a3 b0 H2 ρ' _ y _ (G'.ext x2) c2 eg fun a8 G3=>?_
    intro cl C s0 H0 ex;have c3:=Acc.later O (x.trans x2);refine (ht cl C s0 H0 ex).run a3 a8 H2 ρ' st' _ _ R2 G3 (Acc.bind (Acc.assoc c3)) fun b c0 H4 a6 e4 x4 R4 G4=>?_
    simp only [e4,Res.bind] at O U;have G0:∀ {b2:Hp} {a2:Tk},EnvR b2 a2 a3 a8->EnvR b2 a2 (Yf cap Γ) a8:=fun {b2 a2} g=>g.le (by
     rw [<- G3.1];exact (hf Γ _ a3 eg).1.symm) (hf Γ _ a3 eg).2
    have b4:Ext H1 ρ1 H4 a6:=x.trans (x2.trans x4);have a9:acc∈a6.hid:=x4.hidM acc a1;have na:acc∉ρ'.tr:=R'.ap acc a1;have b5:H4 acc=some (.lst vs):=x4.keep acc _ (sm acc _ ha) na;have b7:RepL H4 a6 ys vs:=ry.ext (x2.trans x4);cases b with
    | false=>
     rw [bU D4] at O U ⊢;exact ⟨_,show q.length - (i + 1) < m by omega,rfl,Z,by omega,a6,c0,ys,b4,a9,R4,G0 G4,b5,b7,U⟩
    | true=>
     rw [bT rfl] at O U ⊢;intro cl C s0 H0 ex;have b9:=Acc.later O b4;refine (he cl C s0 H0 ex).use' R4 G4 (Acc.bind (Acc.assoc b9)) fun z b6 H5 b3 zv e5 x5 R5 G5 r5 h5=>?_
     simp only [e5,Res.bind] at O U;have a7:acc∈b3.hid:=x5.hidM acc a9;have c1:H5 acc=some (.lst vs):=x5.keep acc _ b5 (R4.ap acc a9);have c4:Ext H1 ρ1 H5 b3:=b4.trans x5;refine ⟨c1,_,show q.length - (i + 1) < m by omega,rfl,Z,by rw [O5]; simp; omega,b3,b6,ys ++ [z],c4.put0 I,a7,R5.rehide a7,(G0 G5).rehide a7,Qv,((b7.ext x5).append (RepL.cons r5 RepL.nil)).rehide a7,?_⟩;refine U.trans ?_;cases rr:Jy ga mt me w (Yf cap Γ) (q.drop (i + 1)) b6 with
     | ok zs b1=>
      show Res.ok (ys ++ z :: zs) b1=Res.ok ((ys ++ [z]) ++ zs) b1;rw [List.append_assoc]; rfl
     | exc x6 b1=>rfl
     | stuck=>rfl
  ·rw [bU hw] at O; exact O.elim
 ·left
  have ei:i=q.length:=by omega
  subst ei;rw [List.drop_length,Jy] at O U
  by_cases hw:wOk w st'
  ·rw [bT hw] at O U;refine ⟨src.stop H' _ st' x R' hw,?_⟩;have U:Jy ga mt me w (Yf cap Γ) q Y=.ok (ys ++ []) st':=U;rw [L0] at U;exact k ys st' H' ρ' acc vs U x R' a1 I ha ry
  ·rw [bU hw] at O; exact O.elim
theorem Q7u {Γ:Gam} {σ:St} {H:Hp} {ρ:Tk} {st:Q0} {Q:VK} {P:List PV->Q0->Hp->Tk->Prop} (hi:SimI X E tg iter mi) (hg:∀ cl C s0 H0 ex,SimG (Z5 X N' sc cl C s0 H0 ex) tg ga) (Y:∀ cl C s0 H0 ex,SimE (Z5 X N' sc cl C s0 H0 ex) E0 elt me) (ht:∀ cl C s0 H0 ex,SimTs (Z5 X N' sc cl C s0 H0 ex) ifs mt)
  (hf:Q07 cap ga) (R:Rel H ρ st) (G:EnvR H ρ Γ σ) (h:Acc X.mg E H ρ P (J3 cap ga mi mt me Γ st)) (k:∀ ps z H2 q a vs,J3 cap ga mi mt me Γ st=.ok ps z->Ext H ρ H2 q->Rel H2 q z->a∈q.hid->H a=none->H2 a=some (.lst vs)->RepL H2 q ps vs->Q (.ref a) H2):Q47 cap (WI X tg iter) (aG X N' sc tg) (aT X N' sc ifs) (aE X N' sc elt) σ H Q:=by
 refine hi.run Γ σ H ρ st _ _ R G h.bind fun iw a1 H1 ρ1 J eq U R1 G1 ok hl src h1=>?_
 refine Qdd hg Y ht hf R1 G1 src hl (Qmz (E':=E0) h1) fun ys z H2 q acc vs I Z R2 hm hn ha ry=>?_
 refine k ys z H2 q acc vs ?_ (U.trans Z) R2 hm ?_ ha ry
 ·unfold J3;rw [eq];show noX _=_;rw [I]; rfl
 cases e:H acc with
 | none=>rfl
 | some o=>
  obtain ⟨o',O⟩:=U.old acc o e;rw [hn] at O; cases O
theorem Qtt :∀ cl C s0 H0 ex,PG (Z5 X N' sc cl C s0 H0 ex) tg (aG X N' sc tg):=fun cl C s0 H0 ex pins s σ H v u Q I r h=>Qk5 pins s σ H v u Q I r (h cl C s0 H0 ex)
theorem Qtx :∀ cl C s0 H0 ex,PE (Z5 X N' sc cl C s0 H0 ex) e (aE X N' sc e):=fun cl C s0 H0 ex pins s σ H Q I h=>h cl C s0 H0 ex pins s I
theorem Qn8 :∀ cl C s0 H0 ex,PTs (Z5 X N' sc cl C s0 H0 ex) ifs (aT X N' sc ifs):=fun cl C s0 H0 ex pins s σ H Q I h=>by
 obtain ⟨t,a,b⟩:=h cl C s0 H0 ex;exact a pins s σ H Q I b
theorem Q0j (cap:List (Option Nat)) (N':List Str) (q:X.calm=true) (hi:SimI X E tg iter mi) (Z:∀ cl C s0 H0 ex,SimG (Z5 X N' sc cl C s0 H0 ex) tg ga) (J:∀ cl C s0 H0 ex,SimE (Z5 X N' sc cl C s0 H0 ex) E0 elt me) (z:∀ cl C s0 H0 ex,SimTs (Z5 X N' sc cl C s0 H0 ex) ifs mt)
  (Y:Q07 cap ga) (U:X.N=N:=by rfl) (I:X.env.scope=scE:=by rfl) (O:compOkC N N' sc scE cap=true:=by kernel_rfl) (hs:∀ x,bC iter X.env x=pure x:=by intro _; rfl) :
  SimN X E (.ListComp elt [⟨tg,iter,ifs,0⟩] sc pos) (J3 cap ga mi mt me):=
 ⟨fun Γ σ H ρ st P Q R G h k=>WE.of (Qfs q Qpz Qtt Qtx Qn8 U I O hs) (Q7u hi Z J z Y R G h k)⟩
end
inductive SR where
 | nx (Γ:Gam) (st:Q0) | rt (v:PV) (st:Q0) | bk (Γ:Gam) (st:Q0) | ct (Γ:Gam) (st:Q0) | exc (x:Exc) (st:Q0) | stuck
abbrev MS:=Gam->Q0->SR
variable {m1:MS}
def Res.sbind {α:Type} (r:Res α) (f:α->Q0->SR):SR:=match r with
 | .ok a st=>f a st
 | .exc x st=>.exc x st
 | .stuck=>.stuck
def AccS (mg:Str->Option aA) (E:XK) (D:Ends) (H:Hp) (ρ:Tk):SR->Prop
 | .nx Γ st=>∀ σ' H' ρ',Ext H ρ H' ρ'->Rel H' ρ' st->EnvR H' ρ' Γ σ'->D.nx σ' H'
 | .bk Γ st=>∀ σ' H' ρ',Ext H ρ H' ρ'->Rel H' ρ' st->EnvR H' ρ' Γ σ'->D.bk σ' H'
 | .ct Γ st=>∀ σ' H' ρ',Ext H ρ H' ρ'->Rel H' ρ' st->EnvR H' ρ' Γ σ'->D.ct σ' H'
 | .rt p st=>∀ v H' ρ',Ext H ρ H' ρ'->Rel H' ρ' st->Rep H' ρ' p v->D.rt v H'
 | .exc x st=>∀ C dv H' ρ',mg x.cls=some (.ref C)->Ext H ρ H' ρ'->Rel H' ρ' st->XFs H' ρ' x.fs dv->E (.ref C) dv H'
 | .stuck=>False
variable {α:Type} {mg:Str->Option aA} {D:Ends} {H1:Hp} {ρ1:Tk}
theorem AccS.later {r:SR} (h:AccS mg E D H ρ r) (x:Ext H ρ H1 ρ1):AccS mg E D H1 ρ1 r:=by
 cases r with
 | nx Γ st=>exact fun q H' ρ' z=>h q H' ρ' (x.trans z)
 | bk Γ st=>exact fun q H' ρ' z=>h q H' ρ' (x.trans z)
 | ct Γ st=>exact fun q H' ρ' z=>h q H' ρ' (x.trans z)
 | rt p st=>exact fun v H' ρ' z=>h v H' ρ' (x.trans z)
 | exc y st=>exact fun C I H' ρ' m z=>h C I H' ρ' m (x.trans z)
 | stuck=>exact h
theorem AccS.bind {r:Res α} {f:α->Q0->SR} (h:AccS mg E D H ρ (r.sbind f)):Acc mg E H ρ (fun a q H1 ρ1=>AccS mg E D H1 ρ1 (f a q)) r:=by
 cases r with
 | ok a st=>exact fun H' ρ' z I=>AccS.later (show AccS mg E D H ρ (f a st) from h) z
 | exc e st=>exact h
 | stuck=>exact h
theorem Res.sassoc (r:Res α) (f:α->Q0->Res β) (g:β->Q0->SR):(r.bind f).sbind g=r.sbind fun a st=>(f a st).sbind g:=by cases r <;> rfl
theorem AccS.assoc {r:Res α} {f:α->Q0->Res β} {g:β->Q0->SR} (h:AccS mg E D H ρ ((r.bind f).sbind g)):AccS mg E D H ρ (r.sbind fun a st=>(f a st).sbind g):=by
 rw [<- Res.sassoc]; exact h
structure SimS (X:Cx) (E:XK) (s:aL) (m:MS):Prop where
 run:∀ (Γ:Gam) (σ:St) (H:Hp) (ρ:Tk) (st:Q0) (D:Ends),Rel H ρ st->EnvR H ρ Γ σ->AccS X.mg E D H ρ (m Γ st)->WS X s D σ H
structure SimB (X:Cx) (E:XK) (ss:List aL) (m:MS):Prop where
 run:∀ (Γ:Gam) (σ:St) (H:Hp) (ρ:Tk) (st:Q0) (D:Ends),Rel H ρ st->EnvR H ρ Γ σ->AccS X.mg E D H ρ (m Γ st)->WB X ss D σ H
variable {e:aH} {m:ME}
section
variable {pos:Pos}
def J2:MS:=fun Γ st=>.nx Γ st
def Qc (m1 m2:MS):MS:=fun Γ st=>match m1 Γ st with
 | .nx Γ1 st1=>m2 Γ1 st1
 | r=>r
theorem Qpm:SimB X E [] J2:=⟨fun Γ σ H ρ st D R G h=>WB.of Qjt (h σ H ρ (Ext.refl _ _) R G)⟩
theorem Vy {rest:List aL} {J:MS} (h1:SimS X E s m1) (h2:SimB X E rest J):SimB X E (s :: rest) (Qc m1 J):=
 ⟨fun Γ σ H ρ st D R G h=>WB.of (Qfc Qtq Q1a) (h1.run Γ σ H ρ st _ R G (by
  unfold Qc at h;cases r:m1 Γ st with
  | nx z q=>rw [r] at h; exact fun I H' ρ' U Y O=>h2.run z I H' ρ' q D Y O (AccS.later h U)
  | bk z q=>rw [r] at h; exact h
  | ct z q=>rw [r] at h; exact h
  | rt p q=>rw [r] at h; exact h
  | exc x q=>rw [r] at h; exact h
  | stuck=>rw [r] at h; exact h))⟩
theorem Q8j (h1:SimS X E s m1):SimB X E [s] m1:=⟨fun Γ σ H ρ st D R G h=>WB.of (Qjs Qtq) (h1.run Γ σ H ρ st D R G h)⟩
def Xf (m:ME):MS:=fun Γ st=>(m Γ st).sbind fun _ st1=>.nx Γ st1
theorem Qiy (z:SimE X E e m) (hs:swapsWith e none pos.line X.env=pure false:=by rfl):SimS X E (.Expr e pos) (Xf m):=
 ⟨fun Γ σ H ρ st D R G h=>WS.of (Qju J4 hs) (z.use R G h.bind fun p I H1 ρ1 v O q J U h1=>h1 σ H1 ρ1 (Ext.refl _ _) q J)⟩
def J1 (m:ME):MS:=fun Γ st=>(m Γ st).sbind fun p st1=>.rt p st1
theorem Qe6 (z:SimE X E e m):SimS X E (.Return (some e) pos) (J1 m):=
 ⟨fun Γ σ H ρ st D R G h=>WS.of (Qpx J4) (z.use R G h.bind fun p I H1 ρ1 v O q U J h1=>h1 v H1 ρ1 (Ext.refl _ _) q J)⟩
def Qt (i:Nat) (m:ME):MS:=fun Γ st=>(m Γ st).sbind fun p st1=>.nx (Γ.set i (some p)) st1
theorem yb (i:Nat) {pos':Pos} (O:X.N.Nodup) (z:SimE X E e m) (hi:X.N[i]?=some x:=by rfl) (U:Loc X.env.scope x:=by first | exact Or.inl rfl | exact Or.inr rfl) (hs:swapsWith e (some (.Name x pos')) pos.line X.env=pure false:=by rfl) (Z:X.fn x=true\/X.env.scope.names.lookup x=some .local:=by first | exact .inl rfl | exact .inr rfl) :
  SimS X E (.Assign [.Name x pos'] e pos) (Qt i m):=
 ⟨fun Γ σ H ρ st D R G h=>WS.of (Qpw O hi U J4 hs Z) (z.use R G h.bind fun p I H1 ρ1 v x1 q J Y h1=>h1 _ H1 ρ1 (Ext.refl _ _) q (J.set Y i))⟩
section
variable {tg iter elt:aH} {ifs:List aH} {N N':List Str} {sc scE:Scope} {ga:GA} {mi:MI} {mt:MT} {me:ME}
theorem Q12 (cap:List (Option Nat)) (N':List Str) (i:Nat) {x:Str} {px cpos:Pos} (O:X.N.Nodup) (q:X.calm=true) (hi:SimI X E tg iter mi) (hg:∀ cl C s0 H0 ex,SimG (Z5 X N' sc cl C s0 H0 ex) tg ga) (Y:∀ cl C s0 H0 ex,SimE (Z5 X N' sc cl C s0 H0 ex) E0 elt me) (ht:∀ cl C s0 H0 ex,SimTs (Z5 X N' sc cl C s0 H0 ex) ifs mt)
  (hf:Q07 cap ga) (I:X.N[i]?=some x:=by rfl) (Z:Loc X.env.scope x:=by first | exact Or.inl rfl | exact Or.inr rfl) (J:swapsWith (.ListComp elt [⟨tg,iter,ifs,0⟩] sc cpos) (some (.Name x px)) pos.line X.env=pure true:=by rfl)
  (hN:X.N=N:=by rfl) (hE:X.env.scope=scE:=by rfl) (hc:compOkC N N' sc scE cap=true:=by kernel_rfl) (hs:∀ x,bC iter X.env x=pure x:=by intro _; rfl) (z:X.fn x=true\/X.env.scope.names.lookup x=some .local:=by first | exact .inl rfl | exact .inr rfl) :
  SimS X E (.Assign [.Name x px] (.ListComp elt [⟨tg,iter,ifs,0⟩] sc cpos) pos) (Qt i (W2 (J3 cap ga mi mt me))):=
 ⟨fun Γ σ H ρ st D R G h=>WS.of (Qfe O I Z q Qpz Qtt Qtx Qn8 J hN hE hc hs z) (Q7u hi hg Y ht hf R G (AccS.bind (by unfold Qt W2 at h; exact AccS.assoc h)) fun ps a1 H1 ρ1 a vs eq x R1 hm hn ha r=>by
  obtain ⟨U,R2,r2⟩:=Qaj R x R1 hm hn ha r;simp only [Qt,W2,eq,Res.bind,Res.sbind] at h;exact h _ _ _ U R2 ((G.ext U).set r2 i))⟩
end
def Qgh (ga:GA) (m:ME):MS:=fun Γ st=>(m Γ st).sbind fun p st1=>match ga p Γ with
 | some Γ1=>.nx Γ1 st1
 | none=>.stuck
theorem Qe9 (O:SimE X E e m) (hg:SimG X tg ga) (hs:swapsWithSole [tg] e pos.line X.env=pure false:=by rfl) (Z:swappedStores [tg] e X.env=pure none:=by rfl) (h1:(aw [tg] X.env).map (·.2)=[assign tg X.env]:=by rfl):SimS X E (.Assign [tg] e pos) (Qgh ga m):=
 ⟨fun Γ σ H ρ st D R G h=>WS.of (Qff J4 Qk5 hs Z h1) (O.use R G h.bind fun p U H1 ρ1 v x1 J Y r1 h1=>by
  cases q:ga p Γ with
  | none=>rw [q] at h1; exact h1.elim
  | some z=>
   rw [q] at h1;exact hg.run Γ z σ H1 ρ1 p v _ Y r1 q fun I G'=>h1 I H1 ρ1 (Ext.refl _ _) J G')⟩
def jf (st:Q0) (o i p:PV):Option Q0:=match o,i with
 | .ref k,.int j=>match st[k]? with
  | some (.lst xs)=>(ixN xs.length j).map fun n=>st.set k (.lst (xs.set n p))
  | _=>none
 | _,_=>none
def qz (mo mi m:ME):MS:=fun Γ st=>(m Γ st).sbind fun p st1=>(mo Γ st1).sbind fun o st2=>(mi Γ st2).sbind fun i st3=>match jf st3 o i p with
 | some st4=>.nx Γ st4
 | none=>.stuck
theorem Qj7 {st':Q0} {o i:PV} {x y z:V} (R:Rel H ρ st) (Y:Rep H ρ o x) (ri:Rep H ρ i y) (Z:Rep H ρ p z) (e:jf st o i p=some st') :
  ∃ a vs k j,x=.ref a/\y=.int k/\H a=some (.lst vs)/\ixN vs.length k=some j/\Ext H ρ (upd H a (.lst (vs.set j z))) ρ/\Rel (upd H a (.lst (vs.set j z))) ρ st':=by
 unfold jf at e
 split at e
 ·rename_i k j
  split at e
  ·rename_i xs hs;cases I:ixN xs.length j with
   | none=>rw [I] at e; cases e
   | some n=>
    rw [I] at e;have e:st.set k (.lst (xs.set n p))=st':=Option.some.inj e;subst e;obtain ⟨a,q,rfl⟩:=Y;cases ri;obtain ⟨b,vs,U,J,O⟩:=R.lst hs;rw [q] at U; cases U;exact ⟨a,vs,j,n,rfl,rfl,J,by rw [<- O.length]; exact I,Ext.put (E3 q) J,R.put q J (O.set Z n)⟩
  ·cases e
 ·cases e
theorem Qp4 {o i:aH} {mo mi:ME} {tpos:Pos} (he:SimE X E e m) (ho:SimE X E o mo) (hi:SimE X E i mi)
  (ha:∀ v,assign (.Subscript o i tpos) X.env v=(do
   let q <- ar [v] (aO o X.env)
   let I <- ar [v,q] (aO i X.env)
   standAt tpos
   ar [v,q,I] (setItem q I v)
   release [v,q,I] []):=by intro _; rfl)
  (hs:swapsWithSole [.Subscript o i tpos] e pos.line X.env=pure false:=by rfl) (hw:swappedStores [.Subscript o i tpos] e X.env=pure none:=by rfl) (h1:(aw [.Subscript o i tpos] X.env).map (·.2)=[assign (.Subscript o i tpos) X.env]:=by rfl) :
  SimS X E (.Assign [.Subscript o i tpos] e pos) (qz mo mi m):=
 ⟨fun Γ σ H ρ st D R G h=>WS.of (Qff J4 (Qq3 J4 J4 Qeh ha) hs hw h1) (he.use R G h.bind fun p a2 H1 ρ1 z x1 R1 G1 r1 h1=>ho.use R1 G1 h1.bind fun q a3 H2 a1 x x2 R2 G2 r2 h2=>hi.use R2 G2 h2.bind fun I O H3 U y Y R3 G3 r3 J=>by
  cases es:jf O q I p with
  | none=>rw [es] at J; exact J.elim
  | some a4=>
   rw [es] at J;obtain ⟨a,vs,k,j,rfl,rfl,f1,f2,Z,R4⟩:=Qj7 R3 (r2.ext Y) r3 (r1.ext (x2.trans Y)) es;exact ⟨a,vs,k,j,rfl,rfl,f1,f2,J σ _ U Z R4 (G3.ext Z)⟩)⟩
def Jn (mt:MT) (ma mb:MS):MS:=fun Γ st=>(mt Γ st).sbind fun b st1=>if b=true then ma Γ st1 else mb Γ st1
theorem Qtb {a b:List aL} {ma mb:MS} (O:SimT X E c mt) (U:SimB X E a ma) (J:SimB X E b mb):SimS X E (.If c a b pos) (Jn mt ma mb):=
 ⟨fun Γ σ H ρ st D R G h=>WS.of (Qtr Qcc Q1a Q1a) (O.use R G h.bind fun k q H1 ρ1 Y z I h1=>by
  cases k with
  | true=>rw [bT rfl] at h1 ⊢; exact U.run Γ σ H1 ρ1 q D z I h1
  | false=>rw [bU D4] at h1 ⊢; exact J.run Γ σ H1 ρ1 q D z I h1)⟩
open Classical in
def Zc (ga:GA) (body:MS) (w:Wt):List PV->Gam->Q0->SR
 | [],Γ,st=>if wOk w st then .nx Γ st else .stuck
 | x :: xs,Γ,st=>if wOk w st then (match ga x Γ with
  | none=>.stuck
  | some Γ1=>match body Γ1 st with
   | .nx Γ2 st2=>Zc ga body w xs Γ2 st2
   | .ct Γ2 st2=>Zc ga body w xs Γ2 st2
   | .bk Γ2 st2=>.nx Γ2 st2
   | .rt v st2=>.rt v st2
   | .exc x st2=>.exc x st2
   | .stuck=>.stuck) else .stuck
def Ka (ga:GA) (mi:MI) (body:MS):MS:=fun Γ st=>(mi Γ st).sbind fun iw st1=>Zc ga body iw.2 iw.1 Γ st1
theorem Qe8 {bd:List aL} {body:MS} (hp:PassesOwn (aI X.prog X.w) X.A X.env X.xe) (hc:X.calm=true) (hi:SimI X E tg iter mi) (hg:SimG X tg ga) (hb:SimB X E bd body)
  (hs:∀ x,bC iter X.env x=pure x:=by intro _; rfl):SimS X E (.For tg iter bd [] pos) (Ka ga mi body):=
 ⟨fun Γ σ H ρ st D R G h=>WS.of (Qpy hp hc Qpz Qk5 Q1a hs) (hi.run Γ σ H ρ st _ _ R G h.bind fun O a8 H1 ρ1 J eq x1 R1 G1 ok hl src h1=>by
  let W:Nat->Nat->St->Hp->Prop:=fun i m U H'=>m=O.1.length - i/\i<=O.1.length/\∃ a2 ρ' st',Ext H1 ρ1 H' ρ'/\Rel H' ρ' st'/\EnvR H' ρ' a2 U/\AccS X.mg E D H' ρ' (Zc ga body O.2 (O.1.drop i) a2 st')
  refine ⟨W,⟨_,rfl,G8 _,Γ,ρ1,a8,Ext.refl _ _,R1,G1,by rw [List.drop_zero]; exact h1⟩,?_⟩;rintro i m U H' ⟨hm,a9,a2,ρ',st',x,R',G',Z⟩
  by_cases a3:i < O.1.length
  ·right
   have hd:O.1.drop i=O.1[i] :: O.1.drop (i + 1):=List.drop_eq_getElem_cons a3;rw [hd,Zc] at Z
   by_cases hw:wOk O.2 st'
   ·rw [bT hw] at Z;refine ⟨src.go H' ρ' st' x R' hw i a3,fun a6 H2=>W (i + 1) (O.1.length - (i + 1)) a6 H2,fun a6 H2 z=>⟨_,by omega,z⟩,fun y H2 hy=>?_⟩
    obtain ⟨sm,ry⟩:=src.yld H' ρ' st' x R' hw i _ (O2 a3) y H2 hy;have x2:Ext H' ρ' H2 ρ':=Ext.same sm;cases eg:ga O.1[i] a2 with
    | none=>rw [eg] at Z; exact Z.elim
    | some a5=>
     rw [eg] at Z;refine hg.run a2 a5 U H2 ρ' _ y _ (G'.ext x2) ry eg fun a7 G3=>?_
     have q:=AccS.later Z x2;simp only at q;refine hb.run a5 a7 H2 ρ' st' _ (R'.same sm) G3 ?_;have again:∀ {Y:Gam} {I:Q0},AccS X.mg E D H2 ρ' (Zc ga body O.2 (O.1.drop (i + 1)) Y I)->∀ U a4 a1,Ext H2 ρ' a4 a1->Rel a4 a1 I->EnvR a4 a1 Y U->W (i + 1) (O.1.length - (i + 1)) U a4:=fun {Y I} a σ4 H4 ρ4 x4 R4 G4=>
      ⟨rfl,a3,Y,ρ4,I,x.trans (x2.trans x4),R4,G4,AccS.later a x4⟩
     cases rb:body a5 st' with
     | nx Y I=>rw [rb] at q; exact again q
     | ct Y I=>rw [rb] at q; exact again q
     | bk Y I=>rw [rb] at q; exact q
     | rt v I=>rw [rb] at q; exact q
     | exc y I=>rw [rb] at q; exact q
     | stuck=>rw [rb] at q; exact q.elim
   ·rw [bU hw] at Z; exact Z.elim
  ·left
   have ei:i=O.1.length:=by omega
   subst ei;rw [List.drop_length,Zc] at Z
   by_cases hw:wOk O.2 st'
   ·rw [bT hw] at Z;exact ⟨src.stop H' ρ' st' x R' hw,Z U H' ρ' (Ext.refl _ _) R' G'⟩
   ·rw [bU hw] at Z; exact Z.elim)⟩
def J6 (mt:MT) (body:MS):Nat->Gam->Q0->SR
 | 0,_,_=>.stuck
 | n + 1, Γ, st => (mt Γ st).sbind fun b st1 => if b = true then (match body Γ st1 with
   | .nx Γ2 st2=>J6 mt body n Γ2 st2
   | .ct Γ2 st2=>J6 mt body n Γ2 st2
   | .bk Γ2 st2=>.nx Γ2 st2
   | .rt v st2=>.rt v st2
   | .exc x st2=>.exc x st2
   | .stuck=>.stuck) else .nx Γ st1
theorem Qe5 (n:Nat) {bd:List aL} {body:MS} (hp:PassesOwn (aI X.prog X.w) X.A X.env X.xe) (hc:SimT X E c mt) (hb:SimB X E bd body):SimS X E (.While c bd [] pos) (J6 mt body n):=
 ⟨fun Γ σ H ρ st D R G h=>WS.of (Qfd hp Qcc Q1a) (by
  let W:Nat->St->Hp->Prop:=fun m I H'=>∃ U ρ' st',Rel H' ρ' st'/\EnvR H' ρ' U I/\AccS X.mg E D H' ρ' (J6 mt body m U st')
  refine ⟨W,⟨n,Γ,ρ,st,R,G,h⟩,?_⟩;rintro m I H' ⟨U,ρ',st',R',G',hA⟩;cases m with
  | zero=>exact hA.elim
  | succ m=>
   rw [J6] at hA;refine hc.use R' G' hA.bind fun b a2 H1 ρ1 x1 R1 G1 h1=>?_
   cases b with
   | false=>rw [bU D4] at h1 ⊢; exact h1 I H1 ρ1 (Ext.refl _ _) R1 G1
   | true=>
    rw [bT rfl] at h1 ⊢;refine ⟨fun a1 H2=>W m a1 H2,fun a1 H2 z=>⟨m,Nat.lt_succ_self _,z⟩,hb.run U I H1 ρ1 a2 _ R1 G1 ?_⟩
    have again:∀ {J:Gam} {q:Q0},AccS X.mg E D H1 ρ1 (J6 mt body m J q)->∀ I Y O,Ext H1 ρ1 Y O->Rel Y O q->EnvR Y O J I->W m I Y:=fun {J q} a σ4 H4 ρ4 x4 R4 G4=>⟨J,ρ4,q,R4,G4,AccS.later a x4⟩
    cases Z:body U a2 with
    | nx J q=>rw [Z] at h1; exact again h1
    | ct J q=>rw [Z] at h1; exact again h1
    | bk J q=>rw [Z] at h1; exact h1
    | rt v q=>rw [Z] at h1; exact h1
    | exc y q=>rw [Z] at h1; exact h1
    | stuck=>rw [Z] at h1; exact h1.elim)⟩
def Q1v (x:Str) (m:ME):MS:=fun Γ st=>(m Γ st).sbind fun _ st1=>.exc ⟨x,none⟩ st1
theorem Qe7 {C:aB} {U cpos:Pos} (z:X.calm=true) (RO:Qa2 X E) (hg:Gl X x) (hm:X.mg x=some (.ref C)) (q:PySem.W.excIn X.K C Q2k "ValueError.__new__" = true) (Y:SimE X E e m)
  (J:(x == ("__debug__" : Str))=false:=by decide) (I:aN [e] X.env=[(false,aO e X.env)]:=by rfl):SimS X E (.Raise (some (.Call (.Name x U) [e] [] cpos)) none pos) (Q1v x m):=
 ⟨fun Γ σ H ρ st D R G h=>WS.of (Qcd z RO hg hm q (Wp J4 X4 (by rw [I]; rfl)) J I) (Y.use R G h.bind fun p Z H1 ρ1 v x1 O G1 r1 h1=>⟨E6 (show 1<=lim by decide) Q52,h1 C none H1 ρ1 hm (Ext.refl _ _) O rfl⟩)⟩
end
def WM (X:Cx) (id:String):V->List V->Hp->VK->Prop:=fun x xs H Q=>∀ (pins:List (aB × Obj)) (s:aC) (σ:St) (v:aA) (us:List aA),Inv X pins σ H s->RelV x v->Vals xs us->aF (aI X.prog X.w) X.A (call (.builtin id) (v :: us)) (EP X pins σ Q) X.xe s
theorem Qxf {id:String}:MtR X id (WM X id):=fun pins s σ _ _ _ v us _ I r rs h=>h pins s σ v us I r rs
theorem WM.of {id:String} {r:V->List V->Hp->VK->Prop} {x:V} {xs:List V} (h:MtR X id r) (q:r x xs H Q):WM X id x xs H Q:=fun pins s σ v us I z J=>h pins s σ H x xs v us Q I z J q
abbrev MF:=Q0->PV->List PV->Res PV
structure MtS (X:Cx) (E:XK) (id:String) (o:MF):Prop where
 run:∀ (H:Hp) (ρ:Tk) (st:Q0) (p:PV) (ps:List PV) (x:V) (xs:List V) (Q:VK),Rel H ρ st->Rep H ρ p x->RepL H ρ ps xs->Acc X.mg E H ρ (QV Q) (o st p ps)->WM X id x xs H Q
variable {o:aH} {es:List aH} {mo:ME} {mr:Gam->Q0->Res (List PV)} {name:Str} {apos cpos:Pos} {T:String} {f:MF}
section
variable {id:String}
def mBM (f:MF) (mo:ME) (mr:Gam->Q0->Res (List PV)):ME:=fun Γ st=>(mo Γ st).bind fun p st1=>match Va st1 p with
 | some _=>(mr Γ st1).bind fun ps st2=>f st2 p ps
 | none=>.stuck
theorem Qte (pa:PlainAttrs "list") (slot:Slot "list" name id) (U:typeOf (.builtin id)=pure (.type "method_descriptor")) (hm:MtS X E id f) (ho:SimE X E o mo) (ha:SimA X E (e :: es) mr)
  (I:bO o name X.env (aO o X.env)=aO o X.env:=by rfl)
  (J:((aY cpos (aN (e :: es) X.env)).all (fun x=>!x.1) && (backToKw cpos (keywordEach [] X.env)).all (fun x=>x.1.isSome)
   && decide ((e :: es).length + ([]:List Keyword).length + (if ([]:List Keyword).isEmpty then 0 else 1) < 30))=true:=by rfl)
  (z:(apos.endLine == cpos.line)=true:=by rfl) (hs:aN (e :: es) X.env=(false,aO e X.env) :: aN es X.env:=by rfl) (q:(aY cpos (aN es X.env)).any (·.1)=false:=by rfl) :
  SimE X E (.Call (.Attribute o name apos) (e :: es) [] cpos) (mBM f mo mr):=
 ⟨fun Γ σ H ρ st Q R G h=>WE.of (Qnc pa slot U Qxf J4 Q1h I J z hs q) (ho.use R G h.bind fun p a1 H1 ρ1 v x1 R1 G1 Z h1=>by
  split at h1
  ·rename_i ys el;obtain ⟨a,vs,rfl,hr,_⟩:=Zp R1 Z el;exact ⟨.inl ⟨rfl,vs,.inl hr⟩,ha.use R1 G1 h1.bind fun ps Y H2 O us x2 R2 G2 r2 h2=>hm.run H2 O Y p ps _ us Q R2 (Z.ext x2) r2 h2⟩
  ·exact h1.elim)⟩
def chg (st:Q0) (p:PV) (g:List PV->Option (PV × List PV)):Res PV:=match p with
 | .ref i=>match st[i]? with
  | some (.lst xs)=>match g xs with
   | some (r,ys)=>.ok r (st.set i (.lst ys))
   | none=>.stuck
  | _=>.stuck
 | _=>.stuck
theorem Qmm {x:V} {g:List PV->Option (PV × List PV)} (R:Rel H ρ st) (O:Rep H ρ p x) (h:Acc mg E H ρ (QV Q) (chg st p g)) :
  ∃ a xs vs r ys,x=.ref a/\H a=some (.lst vs)/\RepL H ρ xs vs/\g xs=some (r,ys)/\∀ us v,RepL H ρ ys us->Rep H ρ r v->Q v (upd H a (.lst us)):=by
 unfold chg at h
 split at h
 ·rename_i i
  split at h
  ·rename_i xs hs
   split at h
   ·rename_i r ys Y;obtain ⟨a,q,rfl⟩:=O;obtain ⟨b,vs,I,z,J⟩:=R.lst hs;rw [q] at I; cases I;refine ⟨a,xs,vs,r,ys,rfl,z,J,Y,fun us v ru U=>?_⟩;have x:=Ext.put (o':=.lst us) (E3 q) z;exact h _ ρ x (R.put q z ru) v (U.ext x)
   ·exact h.elim
  ·exact h.elim
 ·exact h.elim
def Jc:MF:=fun st p ps=>match ps with
 | [y]=>chg st p fun xs=>if xs.length < lim then some (.non,xs ++ [y]) else none
 | _=>.stuck
theorem Qcw:MtS X E "list.append" Jc:=⟨fun H ρ st p ps x xs Q R I rs h=>by
 unfold Jc at h
 split at h
 ·obtain ⟨v,rfl,r⟩:=Jz rs;obtain ⟨a,ys,vs,U,zs,rfl,J,z,q,k⟩:=Qmm R I h
  split at q
  ·rename_i O;cases q;exact WM.of Qcv ⟨a,vs,v,rfl,rfl,J,by rw [<- z.length]; exact D3 O Q52,k _ _ (z.append (RepL.cons r RepL.nil)) rfl⟩
  ·cases q
 ·exact h.elim⟩
theorem Qc8 (J:SimE X E o mo) (O:SimA X E [e] mr) (q:bO o "append" X.env (aO o X.env)=aO o X.env:=by rfl)
  (I:((aY cpos (aN [e] X.env)).all (fun x=>!x.1) && (backToKw cpos (keywordEach [] X.env)).all (fun x=>x.1.isSome) && decide ([e].length + ([]:List Keyword).length + (if ([]:List Keyword).isEmpty then 0 else 1) < 30))=true:=by rfl)
  (z:(apos.endLine == cpos.line)=true:=by rfl) (hs:aN [e] X.env=(false,aO e X.env) :: aN [] X.env:=by rfl):SimE X E (.Call (.Attribute o "append" apos) [e] [] cpos) (mBM Jc mo mr):=
 Qte PySem.F.plainAttrs_list PySem.F.slot_list_append PySem.F.type_list_append Qcw J O q I z hs
end
section
mutual
def fz (n:Nat) (st:Q0):Nat->PV->Option PV
 | 0,_=>none
 | _ + 1,.non=>some .non
 | _ + 1,.bl b=>some (.bl b)
 | _ + 1,.int i=>some (.int i)
 | _ + 1,.str x=>some (.str x)
 | k + 1,.tup xs=>(fzL n st k xs).map .tup
 | k + 1,.lst xs=>(fzL n st k xs).map .lst
 | k + 1,.fro xs=>(fzL n st k xs).map .fro
 | _ + 1,.dic=>some .dic
 | k + 1,.ref i=>if i < n then some (.ref i) else match st[i]? with
  | some (.lst xs)=>(fzL n st k xs).map .lst
  | _=>none
def fzL (n:Nat) (st:Q0):Nat->List PV->Option (List PV)
 | _,[]=>some []
 | k,x :: xs=>(fz n st k x).bind fun y=>(fzL n st k xs).map (y :: ·)
end
theorem Qb5 :∀ {m k:Nat} {p:PV},good m p=true->m < k->fz n st k p=some p:=by
 intro m
 induction m with
 | zero=>
  intro k p g I;obtain ⟨k,rfl⟩:∃ j,k=j + 1:=⟨k - 1,by omega⟩;cases p with
  | tup _=>cases g
  | lst _=>cases g
  | fro _=>cases g
  | ref _=>cases g
  | dic=>cases g
  | _=>rw [fz]
 | succ m J=>
  intro k p g I;obtain ⟨k,rfl⟩:∃ j,k=j + 1:=⟨k - 1,by omega⟩;have q:∀ xs:List PV,xs.all (good m)=true->fzL n st k xs=some xs:=by
   intro xs
   induction xs with
   | nil=>intro _; rw [fzL]
   | cons x xs z=>
    intro g;rw [List.all_cons,E9] at g;rw [fzL,J g.1 (by omega),z g.2]; rfl
  cases p with
  | tup xs=>rw [fz,q xs g]; rfl
  | lst xs=>rw [fz,q xs g]; rfl
  | fro xs=>rw [fz,q xs g]; rfl
  | ref _=>cases g
  | dic=>cases g
  | _=>rw [fz]
section
variable {H:Hp} {ρ:Tk} {st:Q0} {tr0 rest hs:List aB}
theorem Qhc (R:Rel H ρ st) (ht:ρ.tr=tr0 ++ rest) (hh:∀ a,a∈hs->a∈ρ.hid):∀ (k:Nat) {p p':PV} {v:V},Rep H ρ p v->fz tr0.length st k p=some p'->Rep H ⟨tr0,hs⟩ p' v:=by
 have O:∀ a,a∉ρ->a∉(⟨tr0,hs⟩:Tk):=fun a n z=>by
  rcases z with z | z
  ·exact n (.inl (by rw [ht]; exact F6 _ z))
  ·exact n (.inr (hh a z))
 intro k
 induction k with
 | zero=>intro p p' v r e; rw [fz] at e; cases e
 | succ k ih=>
  have hL:∀ {ps I:List PV} {vs:List V},RepL H ρ ps vs->fzL tr0.length st k ps=some I->RepL H ⟨tr0,hs⟩ I vs:=by
   intro ps
   induction ps with
   | nil=>intro I vs r e; rw [fzL] at e; cases e; exact r
   | cons x xs a2=>
    intro I vs r e;obtain ⟨v,t,rfl,r1,r2⟩:=r;rw [fzL] at e;cases J:fz tr0.length st k x with
    | none=>rw [J] at e; cases e
    | some y=>
     rw [J] at e;have e:(fzL tr0.length st k xs).map (y :: ·)=some I:=e;cases q:fzL tr0.length st k xs with
     | none=>rw [q] at e; cases e
     | some ys=>
      rw [q] at e;cases e;exact ⟨v,t,rfl,ih r1 J,a2 r2 q⟩
  intro p p' v r e;cases p with
  | non=>rw [fz] at e; cases e; exact r
  | bl b=>rw [fz] at e; cases e; exact r
  | int i=>rw [fz] at e; cases e; exact r
  | str x=>rw [fz] at e; cases e; exact r
  | tup xs=>
   rw [fz] at e;obtain ⟨a,vs,J,Y,U,ra⟩:=r;cases q:fzL tr0.length st k xs with
   | none=>rw [q] at e; cases e
   | some ys=>rw [q] at e; cases e; exact ⟨a,vs,J,Y,O a U,hL ra q⟩
  | lst xs=>
   rw [fz] at e;obtain ⟨a,vs,J,Y,U,ra⟩:=r;cases q:fzL tr0.length st k xs with
   | none=>rw [q] at e; cases e
   | some ys=>rw [q] at e; cases e; exact ⟨a,vs,J,Y,O a U,hL ra q⟩
  | fro xs=>
   rw [fz] at e;obtain ⟨a,vs,J,Y,U,ra⟩:=r;cases q:fzL tr0.length st k xs with
   | none=>rw [q] at e; cases e
   | some ys=>rw [q] at e; cases e; exact ⟨a,vs,J,Y,O a U,hL ra q⟩
  | dic=>
   rw [fz] at e;cases e;obtain ⟨a,J,Y,U⟩:=r;exact ⟨a,J,Y,O a U⟩
  | ref i=>
   rw [fz] at e;obtain ⟨a,Z,rfl⟩:=r
   by_cases hi:i < tr0.length
   ·rw [bT hi] at e;cases e;rw [ht,O7 hi] at Z;exact ⟨a,Z,rfl⟩
   ·rw [bU hi] at e
    split at e
    ·rename_i xs a1;obtain ⟨b,vs,f1,f2,f3⟩:=R.lst a1;rw [Z] at f1; cases f1;cases q:fzL tr0.length st k xs with
     | none=>rw [q] at e; cases e
     | some ys=>
      rw [q] at e; cases e;refine ⟨a,vs,rfl,f2,fun z=>?_,hL f3 q⟩;rcases z with z | z
      ·have z:a∈tr0:=z;obtain ⟨j,hj,ej⟩:=L3 z;have g1:ρ.tr[j]?=some a:=by rw [ht,O7 hj,O2 hj,ej]
       have l1:=O0.mp g1;have l2:=O0.mp Z;have:=Q3h R.nd l1.1 l2.1 (l1.2.trans l2.2.symm);omega
      ·exact R.ap a (hh a z) (E3 Z)
    ·cases e
mutual
def bel (n:Nat):PV->Prop
 | .tup xs=>belL n xs
 | .lst xs=>belL n xs
 | .fro xs=>belL n xs
 | .ref i=>i < n
 | _=>True
def belL (n:Nat):List PV->Prop
 | []=>True
 | x :: xs=>bel n x/\belL n xs
end
mutual
theorem Rep.bel:∀ {p:PV} {v:V},Rep H ρ p v->bel ρ.tr.length p
 | .non,_,_=>by simp [Sm.bel]
 | .bl _,_,_=>by simp [Sm.bel]
 | .int _,_,_=>by simp [Sm.bel]
 | .str _,_,_=>by simp [Sm.bel]
 | .tup ps,_,⟨_,_,_,_,_,r⟩=>by rw [Sm.bel]; exact RepL.bel r
 | .lst ps,_,⟨_,_,_,_,_,r⟩=>by rw [Sm.bel]; exact RepL.bel r
 | .fro ps,_,⟨_,_,_,_,_,r⟩=>by rw [Sm.bel]; exact RepL.bel r
 | .ref i,_,⟨_,e,_⟩=>by rw [Sm.bel]; exact (O0.mp e).1
 | .dic,_,_=>by simp [Sm.bel]
theorem RepL.bel:∀ {ps:List PV} {vs:List V},RepL H ρ ps vs->belL ρ.tr.length ps
 | [],_,_=>by simp [belL]
 | p :: ps,_,⟨_,_,_,z,q⟩=>by rw [belL]; exact ⟨Rep.bel z,RepL.bel q⟩
end
mutual
theorem Rep.less (q:ρ.tr=tr0 ++ rest) (I:∀ a,a∈hs->a∈ρ.hid):∀ {p:PV} {v:V},Sm.bel tr0.length p->Rep H ρ p v->Rep H ⟨tr0,hs⟩ p v
 | .non,_,_,r=>r
 | .bl _,_,_,r=>r
 | .int _,_,_,r=>r
 | .str _,_,_,r=>r
 | .tup ps,_,b,⟨a,vs,e,O,J,r⟩=>⟨a,vs,e,O,fun z=>J (z.imp (fun z=>by rw [q]; exact F6 _ z) (I a)),RepL.less q I (by rw [Sm.bel] at b; exact b) r⟩
 | .lst ps,_,b,⟨a,vs,e,O,J,r⟩=>⟨a,vs,e,O,fun z=>J (z.imp (fun z=>by rw [q]; exact F6 _ z) (I a)),RepL.less q I (by rw [Sm.bel] at b; exact b) r⟩
 | .fro ps,_,b,⟨a,vs,e,O,J,r⟩=>⟨a,vs,e,O,fun z=>J (z.imp (fun z=>by rw [q]; exact F6 _ z) (I a)),RepL.less q I (by rw [Sm.bel] at b; exact b) r⟩
 | .ref i,_,b,⟨a,e,U⟩=>⟨a,by rw [Sm.bel] at b; rw [q,O7 b] at e; exact e,U⟩
 | .dic,_,_,⟨a,e,O,J⟩=>⟨a,e,O,fun z=>J (z.imp (fun z=>by rw [q]; exact F6 _ z) (I a))⟩
theorem RepL.less (z:ρ.tr=tr0 ++ rest) (q:∀ a,a∈hs->a∈ρ.hid):∀ {ps:List PV} {vs:List V},belL tr0.length ps->RepL H ρ ps vs->RepL H ⟨tr0,hs⟩ ps vs
 | [],_,_,r=>r
 | p :: ps,_,b,⟨v,t,e,J,I⟩=>by
  rw [belL] at b;exact ⟨v,t,e,Rep.less z q b.1 J,RepL.less z q b.2 I⟩
end
end
theorem Q6h {H':Hp} {ρ':Tk} {st':Q0} (R:Rel H ρ st) (x:Ext H ρ H' ρ') (Z:Rel H' ρ' st') (hp:st <+: st'):Ext H ρ H' ρ/\Rel H' ρ st:=by
 obtain ⟨rest,O⟩:=x.pre;obtain ⟨more,hm⟩:=hp;refine ⟨⟨List.prefix_refl _,fun _ h=>h,fun _ h=>.inl h,x.keep,fun _ h=>.inl h,x.old,x.frz⟩,R.len,R.nd,fun a Y=>let ⟨o,e,n⟩:=R.hd a Y; ⟨o,x.keep a o e (R.ap a Y),n⟩,R.ap,fun i a c h1 h2=>?_⟩
 have hi:i < st.length:=(O0.mp h2).1;have q:=Z.cell i a c (by rw [<- O,O7 (O0.mp h1).1]; exact h1) (by rw [<- hm,O7 hi]; exact h2);have U:=R.cell i a c h1 h2;cases c with
 | lst ps=>
  obtain ⟨vs,I,z⟩:=q;obtain ⟨us,_,J⟩:=U;exact ⟨vs,I,RepL.less (ρ:=ρ') (tr0:=ρ.tr) (hs:=ρ.hid) O.symm x.hidM J.bel z⟩
 | dic ps=>
  obtain ⟨vs,I,z⟩:=q;obtain ⟨us,_,J⟩:=U;exact ⟨vs,I,z.1,RepL.less (ρ:=ρ') (tr0:=ρ.tr) (hs:=ρ.hid) O.symm x.hidM J.2.bel z.2⟩
 | dtp ps=>
  obtain ⟨vs,I,z⟩:=q;obtain ⟨us,_,J⟩:=U;exact ⟨vs,I,z.1,RepL.less (ρ:=ρ') (tr0:=ρ.tr) (hs:=ρ.hid) O.symm x.hidM J.2.bel z.2⟩
 | frd ps=>
  obtain ⟨vs,I,z⟩:=q;obtain ⟨us,_,J⟩:=U;exact ⟨vs,I,z.1,RepL.less (ρ:=ρ') (tr0:=ρ.tr) (hs:=ρ.hid) O.symm x.hidM J.2.bel z.2⟩
 | obj C ps=>
  obtain ⟨vs,I,z⟩:=q;obtain ⟨us,_,J⟩:=U;exact ⟨vs,I,z.1,RepL.less (ρ:=ρ') (tr0:=ρ.tr) (hs:=ρ.hid) O.symm x.hidM J.2.bel z.2⟩
abbrev FN:=List PV->Q0->Res PV
variable {FF:FN}
open Classical in
def fin (st:Q0) (v:PV) (st':Q0):Res PV:=if st <+: st' then okO st (fz st.length st' 16 v) else .ok v st'
open Classical in
def Qmg (st:Q0) (x:Exc) (st':Q0):Res PV:=if st <+: st' then (match x.fs with
 | none=>.exc x st
 | some (n,p)=>match fz st.length st' 16 p with
  | some q=>.exc ⟨x.cls,some (n,q)⟩ st
  | none=>.stuck) else .exc x st'
def Jd (body:MS) (nl:Nat):FN:=fun ps st=>match body (ps.map some ++ List.replicate (nl - ps.length) none) st with
 | .rt v st'=>fin st v st'
 | .nx _ st'=>fin st .non st'
 | .exc x st'=>Qmg st x st'
 | _=>.stuck
theorem Qb8 {st':Q0} (R:Rel H ρ st) (h:Acc mg E H ρ (QV Q) (fin st p st')):∀ v H' ρ',Ext H ρ H' ρ'->Rel H' ρ' st'->Rep H' ρ' p v->Q v H':=fun v H' ρ' x I r=>by
 unfold fin at h
 by_cases z:st <+: st'
 ·rw [bT z] at h;cases e:fz st.length st' 16 p with
  | none=>rw [e] at h; exact h.elim
  | some q=>
   rw [e] at h;obtain ⟨O,R2⟩:=Q6h R x I z;obtain ⟨rest,J⟩:=x.pre;rw [<- R.len] at e;exact h H' ρ O R2 v (Qhc (tr0:=ρ.tr) (hs:=ρ.hid) I J.symm x.hidM 16 r e)
 ·rw [bU z] at h;exact h H' ρ' x I v r
def spF (mg:Str->Option aA) (n:Nat) (F:FN):Sp:=fun vs H Q E=>vs.length=n/\∃ ρ st ps,Rel H ρ st/\RepL H ρ ps vs/\Acc mg E H ρ (QV Q) (F ps st)
theorem Q3b (r:RepL H ρ ps vs):EnvR H ρ (ps.map some ++ List.replicate (N.length - ps.length) none) (L2.start N vs):=by
 have J:=r.length;unfold L2.start;refine ⟨by simp [J],fun i p e=>?_⟩
 by_cases hi:i < ps.length
 ·rw [O7 (by simpa using hi),E2] at e;rw [O7 (by simp; omega),E2];cases q:ps[i]? with
  | none=>rw [q] at e; cases e
  | some p'=>
   rw [q] at e;cases e;obtain ⟨v,z,I⟩:=r.get q;exact ⟨v,by rw [z]; rfl,I⟩
 ·rw [D9 (by simpa using hi),List.getElem?_replicate] at e
  split at e <;> cases e
section
variable {P:aK} {w:aJ} {K:PySem.W.Frag} {mg:Str->Option aA} {base:Heap}
theorem Qrp {qual:Str} {st:aL} {f:aB} {ps:List Str} {k:Nat} {m:MS} (F:Fun K x qual st f fd) (S:FnScope N ps (Q7 st))
  (hb:∀ (U:aA) (A:aM) (outer:List PySem.Env) (s:aC) (H:Hp) (E:XK),Room k (A.deeper (PyProof.Rows.envOfC qual (Q7 st) s.heap.objs.size f U))->SimB (cxD P w K mg base N qual (Q7 st) f U A outer s H E) E (Jm st) m) :
  FnOk P w K mg base (CXD P w) (k + 1) f fd ps (spF mg ps.length (Jd m N.length)):=by
 refine Fun.okD F S (fun vs H Q E h=>h.1) fun U A outer s H vs Q E hr a2=>⟨_,Q1a,?_⟩
 obtain ⟨hl,ρ,O,a1,R,rl,I⟩:=a2;refine (hb U A outer s H E hr).run _ (L2.start N vs) H ρ O _ R (Q3b rl) ?_;unfold Jd at I;cases Z:m (a1.map some ++ List.replicate (N.length - a1.length) none) O with
 | rt v J=>rw [Z] at I; exact Qb8 R I
 | nx Γ J=>rw [Z] at I; exact fun a3 H' ρ' Y R' G'=>Qb8 R I .non H' ρ' Y R' rfl
 | bk Γ J=>rw [Z] at I; exact I.elim
 | ct Γ J=>rw [Z] at I; exact I.elim
 | stuck=>rw [Z] at I; exact I.elim
 | exc y J=>
  rw [Z] at I;have I:Acc mg E H ρ (QV Q) (Qmg O y J):=I;intro C dv H' ρ' hm Y R' hf;unfold Qmg at I
  by_cases hp:O <+: J
  ·rw [bT hp] at I;obtain ⟨x2,R2⟩:=Q6h R Y R' hp;obtain ⟨cls,fs⟩:=y;cases fs with
   | none=>exact I C dv H' ρ hm x2 R2 hf
   | some np=>
    obtain ⟨nm,p⟩:=np;simp only at I;cases e:fz O.length J 16 p with
    | none=>rw [e] at I; exact I.elim
    | some q=>
     rw [e] at I;obtain ⟨rest,ht⟩:=Y.pre;rw [<- R.len] at e;obtain ⟨dx,v,e1,e2,e3,e4⟩:=hf;refine I C dv H' ρ hm x2 R2 ⟨dx,v,e1,e2,fun z=>e3 (z.imp (fun z=>by rw [<- ht]; exact F6 _ z) (Y.hidM dx)),Qhc (tr0:=ρ.tr) (hs:=ρ.hid) R' ht.symm Y.hidM 16 e4 e⟩
  ·rw [bU hp] at I;exact I C dv H' ρ' hm Y R' hf
end
theorem Qmc {P:aK} {w:aJ} {mg:Str->Option aA} {base:Heap} {qual:Str} {st:aL} {f:aB} {ps:List Str} {k nl:Nat} {m:MS} (F:Fun K x qual st f fd) (S:FnScope N ps (Q7 st)) (I:ps.length=n) (z:N.length=nl) (J:FF=Jd m nl)
  (O:∀ (q:aA) (A:aM) (outer:List PySem.Env) (s:aC) (H:Hp) (E:XK),Room k (A.deeper (PyProof.Rows.envOfC qual (Q7 st) s.heap.objs.size f q))->SimB (cxD P w K mg base N qual (Q7 st) f q A outer s H E) E (Jm st) m) :
  FnOk P w K mg base (CXD P w) (k + 1) f fd ps (spF mg n FF):=by
 subst I; subst z; subst J;exact Qrp F S O
structure DefS (P:aK) (w:aJ) (K:PySem.W.Frag) (mg:Str->Option aA) (base:Heap) (k:Nat) (x:Str) (n:Nat) (F:FN):Prop where
 ex:∃ (f:aB) (fd:aQ) (ps:List Str),FnOk P w K mg base (CXD P w) k f fd ps (spF mg n F)/\mg x=some (.ref f)/\PySem.W.keepIn K (.ref f)=true/\Binds K fd ps []/\ps.length=n
def Q8 (n:Nat) (F:FN) (mr:Gam->Q0->Res (List PV)):ME:=fun Γ st=>(mr Γ st).bind fun ps st1=>if ps.length=n then F ps st1 else .stuck
section
variable {X:Cx} {E:XK} {k n:Nat} {x:Str} {F:FN} {p pos:Pos} {e:aH} {es:List aH} {mr:Gam->Q0->Res (List PV)}
theorem Wn (D:DefS X.prog X.w X.K X.mg X.base k x n F) (hr:Room k X.A) (hx:Q2q (CXD X.prog X.w) X E) (hg:Gl X x) (ha:SimA X E (e :: es) mr) (q:(x == ("__debug__" : Str))=false:=by decide)
  (Z:aN (e :: es) X.env=(false,aO e X.env) :: aN es X.env:=by rfl) (z:(aY pos (aN es X.env)).any (·.1)=false:=by rfl):SimE X E (.Call (.Name x p) (e :: es) [] pos) (Q8 n F mr):=by
 obtain ⟨f,fd,ps,hF,hm,hk,hb,hl⟩:=D.ex;exact ⟨fun Γ σ H ρ st Q R G h=>WE.of (Qk9 hF hr hg hm hk hb .nil hx Q1h q Z z) (ha.use R G h.bind fun O I H1 ρ1 vs x1 Y G1 U h1=>by
  by_cases J:O.length=n
  ·rw [bT J] at h1;show spF X.mg n F (vs ++ []) H1 Q E;rw [L0];exact ⟨by rw [<- U.length]; exact J,ρ1,I,O,Y,U,h1⟩
  ·rw [bU J] at h1; exact h1.elim)⟩
end
end
@[simp] theorem Qm (a:α) (st:Q0) (f:α->Q0->Res β):(Res.ok a st).bind f=f a st:=rfl
@[simp] theorem Qs3 (f:α->Q0->Res β):(Res.stuck:Res α).bind f=.stuck:=rfl
@[simp] theorem Qvp (x:Exc) (st:Q0) (f:α->Q0->Res β):(Res.exc x st:Res α).bind f=.exc x st:=rfl
@[simp] theorem Q66 (a:α) (st:Q0) (f:α->Q0->SR):(Res.ok a st).sbind f=f a st:=rfl
@[simp] theorem Qn5 (f:α->Q0->SR):(Res.stuck:Res α).sbind f=.stuck:=rfl
@[simp] theorem Qsi (x:Exc) (st:Q0) (f:α->Q0->SR):(Res.exc x st:Res α).sbind f=.exc x st:=rfl
@[simp] theorem Qw9 (i:Nat) (Γ:Gam) (st:Q0):Q2 i Γ st=(match Γ[i]? with | some (some p)=>.ok p st | _=>.stuck):=rfl
@[simp] theorem Qxy (p:PV) (Γ:Gam) (st:Q0):mC p Γ st=.ok p st:=rfl
@[simp] theorem Qr1 (o:OP) (a b:ME) (Γ:Gam) (st:Q0):mOp o a b Γ st=(a Γ st).bind fun x q=>(b Γ q).bind fun y z=>o z x y:=rfl
@[simp] theorem Qxs (b:Bool) (st:Q0):asB (.bl b) st=.ok b st:=rfl
@[simp] theorem Qnu (m:ME) (Γ:Gam) (st:Q0):toB m Γ st=(m Γ st).bind asB:=rfl
def Qja {α:Type} (x:PV) (A B:Res α):Res α:=match x with
 | .bl true=>A
 | .bl false=>B
 | _=>.stuck
@[simp] theorem Qvw (b:Bool) (A B:Res α):Qja (.bl b) A B=if b=true then A else B:=by cases b <;> rfl
@[simp] theorem Qsq (o o':OP) (a b c:ME) (Γ:Gam) (st:Q0):X9 o o' a b c Γ st=(a Γ st).bind fun x J=>(b Γ J).bind fun y I=>(o I x y).bind fun k q=>Qja k ((c Γ q).bind fun z O=>o' O y z) (.ok (.bl false) q):=by
 unfold X9;refine congrArg _ (funext fun x=>funext fun J=>congrArg _ (funext fun y=>funext fun I=>congrArg _ (funext fun k=>funext fun q=>?_)))
 cases k with
 | bl b=>cases b <;> rfl
 | _=>rfl
@[simp] theorem Qm1 (a b:ME) (Γ:Gam) (st:Q0):yx a b Γ st=(a Γ st).bind fun x q=>Qja x (b Γ q) (.ok (.bl false) q):=by
 unfold yx;refine congrArg _ (funext fun x=>funext fun q=>?_);cases x with
 | bl b=>cases b <;> rfl
 | _=>rfl
@[simp] theorem Qr0 (a b:ME) (Γ:Gam) (st:Q0):mOr a b Γ st=(a Γ st).bind fun x q=>Qja x (.ok (.bl true) q) (b Γ q):=by
 unfold mOr;refine congrArg _ (funext fun x=>funext fun q=>?_);cases x with
 | bl b=>cases b <;> rfl
 | _=>rfl
@[simp] theorem Qwa (a:ME) (Γ:Gam) (st:Q0):Qr2 a Γ st=(a Γ st).bind fun x q=>(match x with | .bl k=>.ok (.bl (!k)) q | _=>.stuck):=rfl
@[simp] theorem Qwc (a:ME) (Γ:Gam) (st:Q0):Qr4 a Γ st=(a Γ st).bind fun x q=>(match x with | .int k=>.ok (.int (-k)) q | _=>.stuck):=rfl
@[simp] theorem Qa4 (a b:MT) (Γ:Gam) (st:Q0):Q08 a b Γ st=(a Γ st).bind fun k q=>if k=true then .ok true q else b Γ q:=rfl
@[simp] theorem Qe0 (a:MT) (Γ:Gam) (st:Q0):Vk a Γ st=(a Γ st).bind fun k q=>.ok (!k) q:=rfl
@[simp] theorem Qwb (Γ:Gam) (st:Q0):Q4 Γ st=.ok [] st:=rfl
@[simp] theorem Qgf (m:ME) (mr:ML) (Γ:Gam) (st:Q0):Q1 m mr Γ st=(m Γ st).bind fun p q=>(mr Γ q).bind fun ps z=>.ok (p :: ps) z:=rfl
@[simp] theorem Qku (mr:ML) (Γ:Gam) (st:Q0):Jx mr Γ st=(mr Γ st).bind fun ps q=>if ps.length<=lim then .ok (.tup ps) q else .stuck:=rfl
@[simp] theorem Qwd (mr:ML) (Γ:Gam) (st:Q0):yt mr Γ st=(mr Γ st).bind fun ps q=>if ps.length<=lim then .ok (.lst ps) q else .stuck:=rfl
@[simp] theorem Qun (mr:ML) (Γ:Gam) (st:Q0):K6 mr Γ st=(mr Γ st).bind fun ps q=>if ps.length<=lim then .ok ps q else .stuck:=rfl
@[simp] theorem Qgd (m:ME) (l h:Gam->Q0->Res (Option Int)) (Γ:Gam) (st:Q0):mSl m l h Γ st=(m Γ st).bind fun p q=>(l Γ q).bind fun lo z=>(h Γ z).bind fun hi I=>oSl I p lo hi:=rfl
@[simp] theorem Qr3 (Γ:Gam) (st:Q0):Jk Γ st=.ok none st:=rfl
@[simp] theorem Quk (m:ME) (Γ:Gam) (st:Q0):Zt m Γ st=(m Γ st).bind fun p q=>(match p with | .int i=>.ok (some i) q | _=>.stuck):=rfl
@[simp] theorem Qgg (o:CF) (mr:ML) (Γ:Gam) (st:Q0):Qu o mr Γ st=(mr Γ st).bind fun ps q=>o q ps:=rfl
@[simp] theorem Qwe (T:String) (m:ME) (Γ:Gam) (st:Q0):Q94 T m Γ st=(m Γ st).bind fun p q=>if j6 q p=true then .stuck else .ok (.bl (isI T (dpv q p))) q:=rfl
@[simp] theorem Qv8 (st:Q0):j6 st .non=false:=rfl
@[simp] theorem Qwg (st:Q0) (b:Bool):j6 st (.bl b)=false:=rfl
@[simp] theorem Qva (st:Q0) (b:Int):j6 st (.int b)=false:=rfl
@[simp] theorem Qv6 (st:Q0) (b:Str):j6 st (.str b)=false:=rfl
@[simp] theorem Qv5 (st:Q0) (b:List PV):j6 st (.tup b)=false:=rfl
@[simp] theorem Qv9 (st:Q0) (b:List PV):j6 st (.lst b)=false:=rfl
@[simp] theorem Qvb (st:Q0) (b:List PV):j6 st (.fro b)=false:=rfl
@[simp] theorem Qvc (st:Q0):j6 st .dic=false:=rfl
@[simp] theorem Qv7 (st:Q0) (i:Nat):j6 st (.ref i)=(match st[i]? with | some (.frd _)=>true | some (.obj _ _)=>true | _=>false):=rfl
@[simp] theorem Qwm (st:Q0):dpv st .non=.non:=rfl
@[simp] theorem Qxp (st:Q0) (b:Bool):dpv st (.bl b)=(.bl b):=rfl
@[simp] theorem Qwp (st:Q0) (b:Int):dpv st (.int b)=(.int b):=rfl
@[simp] theorem Qwk (st:Q0) (b:Str):dpv st (.str b)=(.str b):=rfl
@[simp] theorem Qwj (st:Q0) (b:List PV):dpv st (.tup b)=(.tup b):=rfl
@[simp] theorem Qwn (st:Q0) (b:List PV):dpv st (.lst b)=(.lst b):=rfl
@[simp] theorem Qwq (st:Q0) (b:List PV):dpv st (.fro b)=(.fro b):=rfl
@[simp] theorem Qxn (st:Q0):dpv st .dic=.dic:=rfl
@[simp] theorem Qxz (st:Q0) (i:Nat):dpv st (.ref i)=(match st[i]? with | some (.dic _)=>.dic | some (.dtp _)=>.dic | _=>.ref i):=rfl
@[simp] theorem Qkt (m:ML) (Γ:Gam) (st:Q0):W2 m Γ st=(m Γ st).bind fun ps q=>.ok (.lst ps) q:=rfl
@[simp] theorem Qkv (m:ML) (Γ:Gam) (st:Q0):qh m Γ st=(m Γ st).bind fun ps q=>.ok (.ref q.length) (q ++ [.lst ps]):=rfl
@[simp] theorem Qcz (cap:List (Option Nat)) (ga:GA) (mi:MI) (mt:MT) (me:ME) (Γ:Gam) (st:Q0):J3 cap ga mi mt me Γ st=(mi Γ st).bind fun z q=>noX (Jy ga mt me z.2 (Yf cap Γ) z.1 q):=rfl
@[simp] theorem Quj (Γ:Gam) (st:Q0):Zs Γ st=.ok true st:=rfl
@[simp] theorem Qd0 (n:Nat) (F:FN) (mr:ML) (Γ:Gam) (st:Q0):Q8 n F mr Γ st=(mr Γ st).bind fun ps q=>if ps.length=n then F ps q else .stuck:=rfl
@[simp] theorem Qum (Γ:Gam) (st:Q0):J2 Γ st=.nx Γ st:=rfl
@[simp] theorem z7 (a b:MS) (Γ:Gam) (st:Q0):Qc a b Γ st=(match a Γ st with | .nx z q=>b z q | r=>r):=rfl
@[simp] theorem Q72 (m:ME) (Γ:Gam) (st:Q0):Xf m Γ st=(m Γ st).sbind fun _ q=>.nx Γ q:=rfl
@[simp] theorem Qky (m:ME) (Γ:Gam) (st:Q0):J1 m Γ st=(m Γ st).sbind fun p q=>.rt p q:=rfl
@[simp] theorem Qkw (i:Nat) (m:ME) (Γ:Gam) (st:Q0):Qt i m Γ st=(m Γ st).sbind fun p q=>.nx (Γ.set i (some p)) q:=rfl
@[simp] theorem Q4z (c:MT) (a b:MS) (Γ:Gam) (st:Q0):Jn c a b Γ st=(c Γ st).sbind fun k q=>if k=true then a Γ q else b Γ q:=rfl
@[simp] theorem Qkz (ga:GA) (mi:MI) (b:MS) (Γ:Gam) (st:Q0):Ka ga mi b Γ st=(mi Γ st).sbind fun z q=>Zc ga b z.2 z.1 Γ q:=rfl
@[simp] theorem Qkx (m:ME) (Γ:Gam) (st:Q0):Wf m Γ st=(m Γ st).bind fun p q=>(match W3 q p with | some (xs,w)=>if xs.length<=lim then .ok (xs,w) q else .stuck | none=>.stuck):=rfl
@[simp] theorem Q1u (mr:ML) (Γ:Gam) (st:Q0):Za mr Γ st=(mr Γ st).bind fun ps q=>(match ps with | [.int j]=>if -(lim:Int)<=j/\j<=lim then .ok (Wc 0 j.toNat,[]) q else .stuck | _=>.stuck):=rfl
@[simp] theorem Qup (mr:ML) (Γ:Gam) (st:Q0):Q73 mr Γ st=(mr Γ st).bind fun ps q=>(match ps with | [p]=>(match W3 q p with | some (xs,w)=>if xs.length<=lim then .ok (Vf 0 xs,w) q else .stuck | none=>.stuck) | _=>.stuck):=rfl
@[simp] theorem Qr7 (f:MF) (mo:ME) (mr:ML) (Γ:Gam) (st:Q0):mBM f mo mr Γ st=(mo Γ st).bind fun p q=>(match Va q p with | some _=>(mr Γ q).bind fun ps z=>f z p ps | none=>.stuck):=rfl
@[simp] theorem Qm0 (ga:GA) (m:ME) (Γ:Gam) (st:Q0):Qgh ga m Γ st=(m Γ st).sbind fun p q=>(match ga p Γ with | some z=>.nx z q | none=>.stuck):=rfl
@[simp] theorem Qsn (mo mi m:ME) (Γ:Gam) (st:Q0):qz mo mi m Γ st=(m Γ st).sbind fun p q=>(mo Γ q).sbind fun o z=>(mi Γ z).sbind fun i J=>(match jf J o i p with | some I=>.nx Γ I | none=>.stuck):=rfl
@[simp] theorem Qsp (x:Str) (m:ME) (Γ:Gam) (st:Q0):Q1v x m Γ st=(m Γ st).sbind fun _ q=>.exc ⟨x,none⟩ q:=rfl
@[simp] theorem Qss (i:Nat) (p:PV) (Γ:Gam):Qe i p Γ=some (Γ.set i (some p)):=rfl
@[simp] theorem Qv2 (Γ:Gam):Q29 [] Γ=some Γ:=rfl
@[simp] theorem Qst (g:GA) (gs:GAs) (p:PV) (r:List PV) (Γ:Gam):Yq g gs (p :: r) Γ=(g p Γ).bind (gs r):=rfl
@[simp] theorem Qv1 (gs:GAs) (ps:List PV) (Γ:Gam):Q28 gs (.tup ps) Γ=gs ps Γ:=rfl
@[simp] theorem Qxe (a:α) (st:Q0):noX (Res.ok a st)=.ok a st:=rfl
@[simp] theorem Qsm :noX (Res.stuck:Res α)=.stuck:=rfl
@[simp] theorem Qg4 (st:Q0) (a:α):okO st (some a)=.ok a st:=rfl
@[simp] theorem Qua (st:Q0):okO st (none:Option α)=.stuck:=rfl
@[simp] theorem Qxx (g:Int->Int->PV) (st:Q0) (a b:Int):oI g st (.int a) (.int b)=.ok (g a b) st:=rfl
@[simp] theorem Qug (st:Q0) (a b:Int):Ji st (.int a) (.int b)=.ok (.int (a + b)) st:=rfl
@[simp] theorem Quf (st:Q0) (a b:List PV):Ji st (.tup a) (.tup b)=if a.length + b.length<=lim then .ok (.tup (a ++ b)) st else .stuck:=rfl
@[simp] theorem Qud (st:Q0) (a b:Int):Xx st (.int a) (.int b)=if (-(2 ^ 64) < a/\a < 2 ^ 64)\/(-(2 ^ 64) < b/\b < 2 ^ 64) then .ok (.int (a * b)) st else .stuck:=rfl
@[simp] theorem Quc (st:Q0) (xs:List PV) (b:Int):Xx st (.tup xs) (.int b)=if xs≠[]/\1<=b/\xs.length * b.toNat<=4096 then .ok (.tup (List.replicate b.toNat xs).flatten) st else .stuck:=rfl
@[simp] theorem Que (st:Q0) (a b:Int):js st (.int a) (.int b)=if 0 < b then .ok (.int (a % b)) st else .stuck:=rfl
@[simp] theorem Qub (st:Q0) (a b:Int):Q1p st (.int a) (.int b)=if 0<=b/\b<=1000000/\a.natAbs < 2 ^ 64 then .ok (.int (a ^ b.toNat)) st else .stuck:=rfl
@[simp] theorem Qw2 (st:Q0) (a b:Int):oLt st (.int a) (.int b)=.ok (.bl (decide (a < b))) st:=rfl
@[simp] theorem Qw8 (st:Q0) (a b:Int):oEq st (.int a) (.int b)=.ok (.bl (a == b)) st:=rfl
@[simp] theorem Qw1 (st:Q0) (a b:Int):oNe st (.int a) (.int b)=.ok (.bl (!(a == b))) st:=rfl
@[simp] theorem Qxd (st:Q0) (a b:Bool):oEq st (.bl a) (.bl b)=.ok (.bl (a == b)) st:=rfl
@[simp] theorem Qxb (st:Q0) (a b:Bool):oNe st (.bl a) (.bl b)=.ok (.bl (!(a == b))) st:=rfl
@[simp] theorem Qw7 (st:Q0) (a b:Str):oEq st (.str a) (.str b)=.ok (.bl (a == b)) st:=rfl
@[simp] theorem Qw0 (st:Q0) (a b:Str):oNe st (.str a) (.str b)=.ok (.bl (!(a == b))) st:=rfl
@[simp] theorem Qw6 (st:Q0) (p:PV):oIs st p .non=.ok (.bl (Q7b p)) st:=rfl
@[simp] theorem Qxc (st:Q0) (a b:Bool):oIs st (.bl a) (.bl b)=.ok (.bl (a == b)) st:=rfl
@[simp] theorem Qqv (st:Q0) (p:PV):Xy st p .non=.ok (.bl (!Q7b p)) st:=rfl
@[simp] theorem Qsj (st:Q0) (a b:Bool):Xy st (.bl a) (.bl b)=.ok (.bl (a != b)) st:=rfl
@[simp] theorem Qsr (st:Q0) (xs:List PV):Ve st (.lst xs)=some xs:=rfl
@[simp] theorem Qr9 (st:Q0) (xs:List PV):Va st (.lst xs)=some xs:=rfl
@[simp] theorem Qra (st:Q0) (xs:List PV):Va st (.fro xs)=some xs:=rfl
@[simp] theorem Q3c (st:Q0) (xs:List PV):W4 st (.lst xs)=some xs:=rfl
@[simp] theorem Qsh (st:Q0) (xs:List PV):W4 st (.fro xs)=some xs:=rfl
@[simp] theorem Qc4 (st:Q0) (xs:List PV):W4 st (.tup xs)=some xs:=rfl
@[simp] theorem Qsf (st:Q0) (xs:List PV):W3 st (.lst xs)=some (xs,[]):=rfl
@[simp] theorem Qsg (st:Q0) (xs:List PV):W3 st (.fro xs)=some (xs,[]):=rfl
@[simp] theorem Qse (st:Q0) (xs:List PV):W3 st (.tup xs)=some (xs,[]):=rfl
@[simp] theorem Qw3 (st:Q0) (xs:List PV) (i:Int):oIx st (.tup xs) (.int i)=okO st (atI xs i):=rfl
@[simp] theorem Qw4 (st:Q0) (xs:List PV) (i:Int):oIx st (.lst xs) (.int i)=okO st (atI xs i):=rfl
@[simp] theorem Qw5 (st:Q0) (xs:List PV) (i:Int):oIx st (.fro xs) (.int i)=okO st (atI xs i):=rfl
@[simp] theorem Qvx (st:Q0) (xs:List PV) (l h:Option Int):oSl st (.tup xs) l h=.ok (.tup (cut xs l h)) st:=rfl
@[simp] theorem Qvy (st:Q0) (xs:List PV) (l h:Option Int):oSl st (.lst xs) l h=.ok (.lst (cut xs l h)) st:=rfl
@[simp] theorem Qvz (st:Q0) (xs:List PV) (l h:Option Int):oSl st (.fro xs) l h=.ok (.lst (cut xs l h)) st:=rfl
@[simp] theorem Qi4 (st:Q0) (xs:List PV):Zj st [.tup xs]=.ok (.int xs.length) st:=rfl
@[simp] theorem Qi5 (st:Q0) (xs:List PV):Zj st [.lst xs]=.ok (.int xs.length) st:=rfl
@[simp] theorem Qvm (st:Q0) (xs:List PV):Zj st [.fro xs]=.ok (.int xs.length) st:=rfl
@[simp] theorem Qs0 (st:Q0) (xs:List PV):Y8 st [.tup xs]=.ok (.tup xs) st:=rfl
@[simp] theorem Qs1 (st:Q0) (xs:List PV):Y8 st [.lst xs]=.ok (.tup xs) st:=rfl
@[simp] theorem Qi6 (g:List Bool->PV) (st:Q0) (bs:List Bool):zt g st [.lst (bs.map .bl)]=.ok (g bs) st:=by
 simp only [zt,Q3c,Option.bind_some,Qmr]
@[simp] theorem Qdj (g:List Int->Option PV) (st:Q0) (ns:List Int):Q05 g st [.lst (ns.map .int)]=okO st (g ns):=by
 simp only [Q05,Q3c,Option.bind_some,Q7c]
@[simp] theorem Qsu (g:List Int->Option PV) (st:Q0) (ns:List Int):Q05 g st [.tup (ns.map .int)]=okO st (g ns):=by
 simp only [Q05,Qc4,Option.bind_some,Q7c]
@[simp] theorem Qvk (st:Q0) (a b:Int):Qxr st [.int a,.int b]=.ok (.int (if b > a then b else a)) st:=rfl
@[simp] theorem Qi2 (st:Q0) (a b:Int):Qi3 st [.int a,.int b]=.ok (.int (if b < a then b else a)) st:=rfl
@[simp] theorem Qsx (st:Q0):wOk [] st=True:=by simp [wOk]
@[simp] theorem Q5f (st:Q0) (b:Bool):fin st (.bl b) st=.ok (.bl b) st:=by simp [fin,fz]
@[simp] theorem Qwi (st:Q0) (b:Int):fin st (.int b) st=.ok (.int b) st:=by simp [fin,fz]
@[simp] theorem Qmf (st:Q0):fin st .non st=.ok .non st:=by simp [fin,fz]
@[simp] theorem Qwh (st:Q0) (b:Str):fin st (.str b) st=.ok (.str b) st:=by simp [fin,fz]
theorem Q7i {v:PV} (g:good 12 v=true):fin st v st=.ok v st:=by
 simp only [fin,List.prefix_rfl,if_true,Qb5 g (by decide:12 < 16),Qg4]
theorem xc:lim=1000000:=rfl
theorem zm (g f:α->PV) {w:Wt} {Γ0:Gam} (J:wOk w st) {ys:List α} (h:∀ y∈ys,∃ q,ga (g y) Γ0=some q/\me q st=.ok (f y) st):Jy ga Zs me w Γ0 (ys.map g) st=.ok (ys.map f) st:=by
 induction ys with
 | nil=>simp [Jy,J]
 | cons y ys I=>
  obtain ⟨q,h1,h2⟩:=h y E7;have I:=I fun z hz=>h z (O4 _ hz)
  rw [D0,Jy,bT J,h1];simp [h2,I]
theorem qa (g f:α->PV) (t:α->Bool) {w:Wt} {Γ0:Gam} (O:wOk w st) {ys:List α} (h:∀ y∈ys,∃ q,ga (g y) Γ0=some q/\mt q st=.ok (t y) st/\(t y=true->me q st=.ok (f y) st)):Jy ga mt me w Γ0 (ys.map g) st=.ok ((ys.filter t).map f) st:=by
 induction ys with
 | nil=>simp [Jy,O]
 | cons y ys I=>
  obtain ⟨q,h1,h2,U⟩:=h y E7;have I:=I fun z hz=>h z (O4 _ hz)
  rw [D0,Jy,bT O,h1];simp only [h2,Qm,I];cases J:t y with
  | true=>simp [U J,J,I]
  | false=>simp [J]
@[simp] theorem Qvn (g:List Bool->PV) (st:Q0) (ys:List α) (b:α->Bool):zt g st [.lst (ys.map fun y=>.bl (b y))]=.ok (g (ys.map b)) st:=by
 rw [show (ys.map fun y=>PV.bl (b y))=(ys.map b).map .bl by rw [L9]; rfl,Qi6]
@[simp] theorem Qsv (g:List Int->Option PV) (st:Q0) (ys:List α) (b:α->Int):Q05 g st [.lst (ys.map fun y=>.int (b y))]=okO st (g (ys.map b)):=by
 rw [show (ys.map fun y=>PV.int (b y))=(ys.map b).map .int by rw [L9]; rfl,Qdj]
theorem Q2a (g:α->PV) {xs:List α} (I:Nat->Gam->Q0->Prop) {ga:GA} {body:MS} {w:Wt} (Y:∀ i Γ st,I i Γ st->wOk w st)
  (h:∀ (i:Nat) x Γ st,xs[i]?=some x->I i Γ st->∃ U,ga (g x) Γ=some U/\∃ J O,body U st=.nx J O/\I (i + 1) J O) {Γ:Gam} {st:Q0} (h0:I 0 Γ st):∃ q st',Zc ga body w (xs.map g) Γ st=.nx q st'/\I xs.length q st':=by
 induction xs generalizing I Γ st with
 | nil=>exact ⟨Γ,st,by simp [Zc,Y 0 Γ st h0],h0⟩
 | cons x xs ih=>
  obtain ⟨U,h1,J,O,e2,i2⟩:=h 0 x Γ st rfl h0;obtain ⟨q,st',e3,Z⟩:=ih (fun i=>I (i + 1)) (fun i Γ st z=>Y (i + 1) Γ st z) (fun i y Γ st hy z=>h (i + 1) y Γ st (by simpa using hy) z) i2
  refine ⟨q,st',?_,Z⟩;rw [D0,Zc,bT (Y 0 Γ st h0),h1];simp only [e2];exact e3
theorem Qbi (f:α->PV) (xs:List α) (i:Int):atI (xs.map f) i=(atI xs i).map f:=by
 unfold atI;rw [O1];cases ixN xs.length i with
 | none=>rfl
 | some j=>simp [E2]
theorem atI_get {xs:List α} {i:Nat} {x:α} (h:xs[i]?=some x):atI xs (i:Int)=some x:=by
 have q:=(O0.mp h).1;unfold atI ixN;rw [bT (by omega),bT (by omega)];simpa using h
@[simp] theorem Qwt (st l:List α) (c:α):(st ++ c :: l)[st.length]?=some c:=by
 rw [D9 (O6 _),Nat.sub_self]; rfl
@[simp] theorem Qvu (st l:List α) (c d:α):(st ++ c :: d :: l)[st.length + 1]?=some d:=by
 rw [D9 (by omega)];rw [show st.length + 1 - st.length=1 by omega]; rfl
@[simp] theorem Qws (st l:List α) (c d:α):(st ++ c :: l).set st.length d=st ++ d :: l:=by
 rw [List.set_append_right _ _ (O6 _),Nat.sub_self]; rfl
@[simp] theorem Qvt (st l:List α) (c q d:α):(st ++ c :: q :: l).set (st.length + 1) d=st ++ c :: d :: l:=by
 rw [List.set_append_right _ _ (by omega),show st.length + 1 - st.length=1 by omega]; rfl
@[simp] theorem Qwr (st:Q0) (i:Nat) (g:List PV->Option (PV × List PV)):chg st (.ref i) g=(match st[i]? with | some (.lst xs)=>(match g xs with | some (r,ys)=>.ok r (st.set i (.lst ys)) | none=>.stuck) | _=>.stuck):=rfl
@[simp] theorem Qwf (st:Q0) (i:Nat):Ve st (.ref i)=(match st[i]? with | some (.lst xs)=>some xs | _=>none):=rfl
@[simp] theorem Qus (st:Q0) (i:Nat):Va st (.ref i)=(match st[i]? with | some (.lst xs)=>some xs | _=>none):=rfl
@[simp] theorem Q4b (st:Q0) (i:Nat):W4 st (.ref i)=(match st[i]? with | some (.lst xs)=>some xs | _=>none):=rfl
@[simp] theorem Qvv (st:Q0) (i:Nat):W3 st (.ref i)=(match st[i]? with | some (.lst xs)=>some (xs,[(i,.lst xs)]) | _=>none):=rfl
@[simp] theorem Qnh (st:Q0) (p y:PV):Jc st p [y]=chg st p fun xs=>if xs.length < lim then some (.non,xs ++ [y]) else none:=rfl
@[simp] theorem Qvj (st:Q0) (i:Nat):Y8 st [.ref i]=(match st[i]? with | some (.lst xs)=>.ok (.tup xs) st | _=>.stuck):=by
 unfold Y8; simp only [Q4b];cases st[i]? with
 | none=>rfl
 | some c=>cases c <;> rfl
@[simp] theorem Qs2 (st:Q0) (i:Nat):Zj st [.ref i]=(match st[i]? with | some (.lst xs)=>.ok (.int xs.length) st | _=>.stuck):=by
 unfold Zj; simp only [Q4b];cases st[i]? with
 | none=>rfl
 | some c=>cases c <;> rfl
@[simp] theorem xx (st:Q0) (i:Nat) (j:Int):oIx st (.ref i) (.int j)=(match st[i]? with | some (.lst xs)=>okO st (atI xs j) | _=>.stuck):=by
 unfold oIx; simp only [Q4b];cases st[i]? with
 | none=>rfl
 | some c=>cases c <;> rfl
@[simp] theorem Qa9 (st:Q0) (k:Nat) (j:Int) (p:PV):jf st (.ref k) (.int j) p=(match st[k]? with | some (.lst xs)=>(ixN xs.length j).map fun n=>st.set k (.lst (xs.set n p)) | _=>none):=rfl
theorem Q3u (xs:List α) (k:Nat):cut xs none (some (k:Int))=xs.take k:=by
 unfold cut;rw [HT.sIx_none,HT.sIx_nat,List.drop_zero,Nat.sub_zero];rcases Nat.le_total k xs.length with h | h
 ·rw [Nat.min_eq_left h]
 ·rw [Nat.min_eq_right h,List.take_length,List.take_of_length_le h]
theorem Q7r (xs:List α) (k:Nat):cut xs (some (k:Int)) none=xs.drop k:=by
 unfold cut;rw [HT.sIx_none,HT.sIx_nat];rcases Nat.le_total k xs.length with h | h
 ·rw [Nat.min_eq_left h,List.take_of_length_le (by rw [List.length_drop]; omega)]
 ·rw [Nat.min_eq_right h,List.drop_length,List.drop_of_length_le h]; simp
theorem Q3r {l:List α} {j:Nat} (h:j < l.length) (d:α):l[j]?=some (l.getD j d):=by
 rw [List.getD,O2 h]; rfl
def ListAt (st:Q0) (V:PV) (xs:List PV):Prop:=V=.lst xs\/V=.fro xs\/∃ i,V=.ref i/\st[i]?=some (.lst xs)
theorem ListAt.ix {V:PV} (h:ListAt st V xs) (j:Int):oIx st V (.int j)=okO st (atI xs j):=by
 rcases h with rfl | rfl | ⟨i,rfl,e⟩
 ·rfl
 ·rfl
 ·rw [xx,e]
theorem qb (g:α->PV) {xs:List α} (I:Nat->List PV->Q0->Prop) {ga:GA} {me:ME} {w:Wt} {Γ0:Gam} (Y:∀ i q st,I i q st->wOk w st)
  (h:∀ (i:Nat) x q st,xs[i]?=some x->I i q st->∃ J,ga (g x) Γ0=some J/\∃ v z,me J st=.ok v z/\I (i + 1) (q ++ [v]) z) {st:Q0} (h0:I 0 [] st):∃ q st',Jy ga Zs me w Γ0 (xs.map g) st=.ok q st'/\I xs.length q st':=by
 have U:∀ (ys:List α) (k:Nat) (pre:List PV) (st:Q0),(∀ i,ys[i]?=xs[k + i]?)->k + ys.length=xs.length->I k pre st->∃ q st',Jy ga Zs me w Γ0 (ys.map g) st=.ok q st'/\I xs.length (pre ++ q) st':=by
  intro ys
  induction ys with
  | nil=>
   intro k pre st e O i;refine ⟨[],st,by simp [Jy,Y k pre st i],?_⟩;rw [L0,<- O]; exact i
  | cons y ys ih=>
   intro k pre st e O i;have e0:xs[k]?=some y:=by have:=e 0; simpa using this.symm
   obtain ⟨J,h1,v,z,h2,i2⟩:=h k y pre st e0 i;obtain ⟨q,st',h3,Z⟩:=ih (k + 1) (pre ++ [v]) z (fun i=>by
    have:=e (i + 1);rw [List.getElem?_cons_succ] at this;rw [this]; congr 1; omega) (by rw [<- O,O9]; omega) i2
   refine ⟨v :: q,st',?_,by simpa using Z⟩;rw [D0,Jy,bT (Y k pre st i),h1];simp [Zs,h2,h3]
 obtain ⟨q,st',h1,h2⟩:=U xs 0 [] st (fun i=>by simp) (by simp) h0;exact ⟨q,st',h1,by simpa using h2⟩
@[simp] theorem Quq (ma mb:ME) (Γ:Gam) (st:Q0):Q3j ma mb Γ st=(ma Γ st).bind fun x q=>(mb Γ q).bind fun y z=>Q6r z x y:=rfl
variable {a b:aH} {ma mb:ME}
section
variable {pos:Pos}
theorem Qi9:aX "set" = some (.type "set"):=by decide +kernel
end
def Yd (body:MS) (nl:Nat):FN:=fun ps st=>match body (ps.map some ++ List.replicate (nl - ps.length) none) st with
 | .rt v st'=>.ok v st'
 | .nx _ st'=>.ok .non st'
 | .exc x st'=>.exc x st'
 | _=>.stuck
variable {P:aK} {K:PySem.W.Frag} {base:Heap}
section
variable {w:aJ}
theorem Qmb {qual:Str} {st:aL} {f:aB} {ps:List Str} {k:Nat} {m:MS} (F:Fun K x qual st f fd) (S:FnScope N ps (Q7 st))
  (hb:∀ (I:aA) (A:aM) (outer:List PySem.Env) (s:aC) (H:Hp) (E:XK),Room k (A.deeper (PyProof.Rows.envOfC qual (Q7 st) s.heap.objs.size f I))->SimB (cxD P w K mg base N qual (Q7 st) f I A outer s H E) E (Jm st) m) :
  FnOk P w K mg base (CXD P w) (k + 1) f fd ps (spF mg ps.length (Yd m N.length)):=by
 refine Fun.okD F S (fun vs H Q E h=>h.1) fun I A outer s H vs Q E hr Y=>⟨_,Q1a,?_⟩
 obtain ⟨hl,ρ,O,U,R,rl,q⟩:=Y;refine (hb I A outer s H E hr).run _ (L2.start N vs) H ρ O _ R (Q3b rl) ?_;unfold Yd at q;cases J:m (U.map some ++ List.replicate (N.length - U.length) none) O with
 | rt v z=>rw [J] at q; exact fun v H' ρ' x Z r=>q H' ρ' x Z v r
 | nx Γ z=>rw [J] at q; exact fun a1 H' ρ' x' Z G'=>q H' ρ' x' Z .non rfl
 | bk Γ z=>rw [J] at q; exact q.elim
 | ct Γ z=>rw [J] at q; exact q.elim
 | stuck=>rw [J] at q; exact q.elim
 | exc y z=>rw [J] at q; exact q
end
theorem Q7g {P:aK} {w:aJ} {mg:Str->Option aA} {base:Heap} {qual:Str} {st:aL} {f:aB} {ps:List Str} {k nl:Nat} {m:MS} {FF:FN} (F:Fun K x qual st f fd) (S:FnScope N ps (Q7 st)) (I:ps.length=n) (z:N.length=nl) (J:FF=Yd m nl)
  (O:∀ (q:aA) (A:aM) (outer:List PySem.Env) (s:aC) (H:Hp) (E:XK),Room k (A.deeper (PyProof.Rows.envOfC qual (Q7 st) s.heap.objs.size f q))->SimB (cxD P w K mg base N qual (Q7 st) f q A outer s H E) E (Jm st) m) :
  FnOk P w K mg base (CXD P w) (k + 1) f fd ps (spF mg n FF):=by
 subst I; subst z; subst J;exact Qmb F S O
theorem Qac (r:Room k A):A.units + 9 < aP:=by have:=r.un; omega
theorem Qdk:aX "dict" = some (.type "dict"):=by decide +kernel
end Sm
namespace Sm
open PySem PySem.Spec PyProof.Rows L2
variable {X:Cx} {E:XK}
theorem Qfz:OpR X (aZ .FloorDiv) (rI (fun _ j=>0 < j/\j < 1267650600228229401496703205376) fun i j=>.int (i / j)):=opI fun i j _ _ _ _ _ z q=>by
 have h1:(0:Int) < j:=z.1;have h2:j < 1267650600228229401496703205376:=z.2;refine floordiv_int (by omega) (by rw [Int.fdiv_eq_ediv_of_nonneg i (by omega)]; exact q) (.inl (PyProof.noPylong_of_log2 ?_));have:j.natAbs.log2 < 100:=(Nat.log2_lt (by omega)).mpr (by
  rw [show (2:Nat) ^ 100=1267650600228229401496703205376 by decide];omega)
 omega
def Qak:OP:=fun st p q=>match p,q with
 | .int a,.int b=>if 0 < b/\b < 1267650600228229401496703205376 then .ok (.int (a / b)) st else .stuck
 | _,_=>.stuck
theorem Qke:OpS X E (aZ .FloorDiv) Qak:=⟨fun H ρ st p q x y Q R J I h=>by
 unfold Qak at h
 split at h
 ·cases J; cases I
  split at h
  ·rename_i z;exact WO.of Qfz ⟨_,_,rfl,rfl,z,now R h rfl⟩
  ·exact h.elim
 ·exact h.elim⟩
@[simp] theorem Qsk (st:Q0) (a b:Int):Qak st (.int a) (.int b)=if 0 < b/\b < 1267650600228229401496703205376 then .ok (.int (a / b)) st else .stuck:=rfl
end Sm
namespace Sm
open PySem PySem.Spec L2
variable {H:Hp} {ρ:Tk} {p:PV} {v:V} {st:Q0}
theorem Q80:aX "sorted" = some (.builtin "sorted"):=by decide +kernel
def Z3 (f:PV->Option HK):List PV->Option (List HK)
 | []=>some []
 | p :: ps=>match f p,Z3 f ps with
  | some k,some l=>some (k :: l)
  | _,_=>none
def Wg:Nat->PV->Option HK
 | _,.int i=>some (.int i)
 | _,.str x=>some (.str x)
 | d + 1,.tup ps=>(Z3 (Wg d) ps).map .tup
 | _,_=>none
theorem Qh1 :∀ (d:Nat) {p:PV} {k:HK} {v:V},Wg d p=some k->Rep H ρ p v->KAt H k v/\Dp d k:=by
 intro d
 induction d with
 | zero=>
  intro p k v e r;cases p with
  | int i=>cases e; exact ⟨r,trivial⟩
  | str i=>cases e; exact ⟨r,trivial⟩
  | _=>cases e
 | succ d ih=>
  intro p k v e r;cases p with
  | int i=>cases e; exact ⟨r,trivial⟩
  | str i=>cases e; exact ⟨r,trivial⟩
  | tup ps=>
   obtain ⟨a,vs,rfl,ha,_,rl⟩:=r;have J:∀ {ps:List PV} {l:List HK} {vs:List V},Z3 (Wg d) ps=some l->RepL H ρ ps vs->KAtL H l vs/\∀ k∈l,Dp d k:=by
    intro ps
    induction ps with
    | nil=>intro l vs e r; cases e; exact ⟨r,fun k hk=>nomatch hk⟩
    | cons p ps q=>
     intro l vs e ⟨v,t,e1,r1,U⟩;unfold Z3 at e
     split at e
     ·rename_i k l' Y Z;cases e;obtain ⟨h1,h2⟩:=ih Y r1;obtain ⟨h3,O⟩:=q Z U;exact ⟨⟨v,t,e1,h1,h3⟩,fun x I=>by rcases D7.mp I with rfl | I; exact h2; exact O x I⟩
     ·cases e
   unfold Wg at e;cases z:Z3 (Wg d) ps with
   | none=>rw [z] at e; cases e
   | some l=>
    rw [z] at e;cases e;obtain ⟨h1,h2⟩:=J z rl;exact ⟨⟨a,vs,rfl,ha,h1⟩,h2⟩
  | _=>cases e
def Ud:PV->Option HK
 | .tup ps=>Wg 5 (.tup ps)
 | _=>none
theorem Wx {k:HK} (e:Ud p=some k) (r:Rep H ρ p v):∃ b,v=.ref b/\KR H k b:=by
 cases p with
 | tup ps=>
  have h:=Qh1 5 e r;obtain ⟨b,vs,rfl,_⟩:=r;exact ⟨b,rfl,h⟩
 | _=>cases e
def putT (kvs:List (HK × PV)) (k:HK) (v:PV):List (HK × PV):=
 if (kvs.any fun kv=>decide (kv.1=k))=true then kvs.map (fun kv=>if kv.1=k then (kv.1,v) else kv) else kvs ++ [(k,v)]
theorem Q6e {I:List (HK × PV)} {vs:List (HK × V)} (r:RepD H ρ I vs) (k:HK) (rp:Rep H ρ p v):RepD H ρ (putT I k p) (X2 vs k v):=by
 have ha:(I.any fun kv=>decide (kv.1=k))=vs.any fun kv=>decide (kv.1=k):=by
  have J:(I.any fun kv=>decide (kv.1=k))=(I.map Prod.fst).any fun x=>decide (x=k):=by rw [List.any_map]; rfl
  have U:(vs.any fun kv=>decide (kv.1=k))=(vs.map Prod.fst).any fun x=>decide (x=k):=by rw [List.any_map]; rfl
  rw [J,U,r.1]
 unfold putT X2;rw [<- ha]
 by_cases q:(I.any fun kv=>decide (kv.1=k))=true
 ·rw [bT q,bT q];have Y:∀ (I:List (HK × PV)) (vs:List (HK × V)),RepD H ρ I vs->RepD H ρ (I.map fun kv=>if kv.1=k then (kv.1,p) else kv) (vs.map fun kv=>if kv.1=k then (kv.1,v) else kv):=by
   intro I
   induction I with
   | nil=>
    intro vs r;cases vs with
    | nil=>exact r
    | cons _ _=>have:=r.length; cases this
   | cons a I ih=>
    intro vs r;cases vs with
    | nil=>have:=r.length; cases this
    | cons b vs=>
     obtain ⟨r1,x,t,e,r2,r3⟩:=r;obtain ⟨J,U⟩:=List.cons.inj (show b.1 :: vs.map Prod.fst=a.1 :: I.map Prod.fst from r1);obtain ⟨e3,e4⟩:=List.cons.inj (show b.2 :: vs.map Prod.snd=x :: t from e);subst e3; subst e4;obtain ⟨Z,i2⟩:=ih vs ⟨U,r3⟩;rw [D0,D0]
     by_cases z:a.1=k
     ·have O:b.1=k:=J.trans z;rw [bT z,bT O];exact ⟨by rw [D0,D0,Z]; show b.1 :: _=a.1 :: _; rw [J],RepL.cons rp i2⟩
     ·have O:¬ b.1=k:=fun h=>z (J.symm.trans h)
      rw [bU z,bU O];exact ⟨by rw [D0,D0,Z]; show b.1 :: _=a.1 :: _; rw [J],RepL.cons r2 i2⟩
  exact Y I vs r
 ·rw [bU q,bU q];refine ⟨?_,?_⟩
  ·rw [E5,E5,r.1]; rfl
  ·rw [E5,E5];exact r.2.append (RepL.cons rp RepL.nil)
variable {X:Cx} {E:XK} {dpos tpos:Pos} {e o k:aH} {m mi mo:ME}
section
variable {pos:Pos} {i:aH} {mk:ME}
def Qge:ME:=fun Γ st=>.ok (.ref st.length) (st ++ [.dtp []])
theorem Q65:SimE X E (.Dict [] [] dpos) Qge:=⟨fun Γ σ H ρ st Q R G h=>WE.of Qfr fun d hd=>by
 have x:Ext H ρ (upd H d (.dT [])) (ρ.add d):=Ext.addT hd;refine h _ _ x (R.addC hd ⟨_,Qv,rfl,rfl⟩) _ ⟨d,?_,rfl⟩;show (ρ.tr ++ [d])[st.length]?=some d;rw [<- R.len,D9 (O6 _),Nat.sub_self]; rfl⟩
def W5 (st:Q0):PV->Option (List (HK × PV))
 | .ref i=>match st[i]? with
  | some (.dtp kvs)=>some kvs
  | _=>none
 | _=>none
theorem Yt {q:List (HK × PV)} (R:Rel H ρ st) (r:Rep H ρ p v) (e:W5 st p=some q):∃ i a vs,p=.ref i/\v=.ref a/\ρ.tr[i]?=some a/\st[i]?=some (.dtp q)/\H a=some (.dT vs)/\RepD H ρ q vs:=by
 cases p with
 | ref i=>
  obtain ⟨a,J,rfl⟩:=r;unfold W5 at e;cases z:st[i]? with
  | none=>simp only [z] at e; cases e
  | some c=>
   simp only [z] at e;cases c with
   | dtp I=>
    cases e;obtain ⟨b,vs,O,Y,U⟩:=R.dtp z;rw [J] at O;cases O;exact ⟨i,a,vs,rfl,rfl,J,z,Y,U⟩
   | lst xs=>cases e
   | dic xs=>cases e
   | frd xs=>cases e
   | obj C xs=>cases e
 | _=>cases e
def zk (st:Q0) (p q v:PV):Option Q0:=match p with
 | .ref n=>match W5 st (.ref n),Ud q with
  | some kvs,some k=>if kvs.length < lim then some (st.set n (.dtp (putT kvs k v))) else none
  | _,_=>none
 | _=>none
def yw (mo mi m:ME):MS:=fun Γ st=>(m Γ st).sbind fun v st1=>(mo Γ st1).sbind fun p st2=>(mi Γ st2).sbind fun q st3=>match zk st3 p q v with
 | some st4=>.nx Γ st4
 | none=>.stuck
theorem Q60 (hu:X.A.units + 9 < aP) (he:SimE X E e m) (ho:SimE X E o mo) (hi:SimE X E i mi) (hs:swapsWith e (some (.Subscript o i tpos)) pos.line X.env=pure false:=by rfl):SimS X E (.Assign [.Subscript o i tpos] e pos) (yw mo mi m):=
 ⟨fun Γ σ H ρ st D R G h=>WS.of (Qjv hu J4 J4 J4 hs) (he.use R G h.bind fun v a3 H1 ρ1 z x1 R1 G1 r1 h1=>ho.use R1 G1 h1.bind fun p a5 H2 a2 x x2 R2 G2 r2 h2=>hi.use R2 G2 h2.bind fun q J Z I y x3 R3 G3 r3 O=>by
  cases es:zk J p q v with
  | none=>rw [es] at O; exact O.elim
  | some a6=>
   rw [es] at O;unfold zk at es
   split at es
   ·rename_i n
    split at es
    ·rename_i Y k e1 e2
     split at es
     ·rename_i hl;cases es;obtain ⟨n',a,vs,en,rfl,ea,a4,hb,rd⟩:=Yt R3 (r2.ext x3) e1;cases en;obtain ⟨b,rfl,a1⟩:=Wx e2 r3;have U:Ext Z I (upd Z a (.dT (X2 vs k z))) I:=Ext.put (E3 ea) hb;have rz:=(r1.ext (x2.trans x3)).ext U;have R4:Rel (upd Z a (.dT (X2 vs k z))) I (J.set n (.dtp (putT Y k v))):=R3.putC ea hb ⟨_,Qv,Q6e (rd.ext U) k rz⟩;refine ⟨a,_,rfl,DPut.t hb a1 (by rw [<- rd.length]; exact D3 hl Q52),O σ _ I U R4 (G3.ext U)⟩
     ·cases es
    ·cases es
   ·cases es)⟩
def Q7y:CF:=fun st ps=>match ps with
 | [p]=>match W5 st p with
  | some kvs=>if kvs.length < 1000000 then .ok (.int (kvs.length:Nat)) st else .stuck
  | none=>.stuck
 | _=>.stuck
theorem Qmk:CallS X E (.builtin "len") Q7y:=⟨fun H ρ st ps xs Q R I h=>by
 unfold Q7y at h
 split at h
 ·rename_i p;obtain ⟨v,rfl,r⟩:=Jz I
  split at h
  ·rename_i z e
   split at h
   ·rename_i q;obtain ⟨n,a,vs,rfl,rfl,_,_,O,J⟩:=Yt R r e;rw [J.length] at h q;exact WC.of Q9p ⟨a,vs,rfl,O,q,now R h rfl⟩
   ·exact h.elim
  ·exact h.elim
 ·exact h.elim⟩
def U4 (kvs:List (HK × PV)) (k:HK):Option PV:=(kvs.find? fun kv=>decide (kv.1=k)).map (·.2)
theorem ji {H:Hp} {ρ:Tk} (k:HK):∀ {q:List (HK × PV)} {vs:List (HK × V)},RepD H ρ q vs->(U4 q k=none/\qf vs k=none)\/∃ p v,U4 q k=some p/\qf vs k=some v/\Rep H ρ p v
 | [],[],_=>.inl ⟨rfl,rfl⟩
 | [],b :: vs,r=>by have:=r.length; cases this
 | a :: q,[],r=>by have:=r.length; cases this
 | a :: q,b :: vs,r=>by
  obtain ⟨r1,x,t,e,O,U⟩:=r;obtain ⟨J,Y⟩:=List.cons.inj (show b.1 :: vs.map Prod.fst=a.1 :: q.map Prod.fst from r1);obtain ⟨e3,Z⟩:=List.cons.inj (show b.2 :: vs.map Prod.snd=x :: t from e);subst e3; subst Z;unfold U4 qf;rw [List.find?_cons,List.find?_cons]
  by_cases z:a.1=k
  ·have I:b.1=k:=J.trans z;rw [bW z,bW I];exact .inr ⟨a.2,b.2,rfl,rfl,O⟩
  ·have I:¬ b.1=k:=fun h=>z (J.symm.trans h)
   rw [bV z,bV I];exact ji k ⟨Y,U⟩
def Q2z (neg:Bool):OP:=fun st p q=>match W5 st q,Ud p with
 | some kvs,some k=>.ok (.bl ((U4 kvs k).isSome != neg)) st
 | _,_=>.stuck
theorem Qqi (hu:X.A.units + 9 < aP):OpS X E (aS .In) (Q2z false):=⟨fun H ρ st p q x y Q R rp Z h=>by
 unfold Q2z at h
 split at h
 ·rename_i z k Y U;obtain ⟨n,a,vs,rfl,rfl,_,_,hb,rd⟩:=Yt R Z Y;obtain ⟨b,rfl,O⟩:=Wx U rp;intro pins s σ v u I rv ru;cases ru;refine Qxq hu I (DGet.t hb O) rv fun s' I'=>⟨.bl _,H,I',rfl,?_⟩
  have:(qf vs k).isSome=(U4 z k).isSome:=by
   rcases ji k rd with ⟨J,a2⟩ | ⟨p,v,J,a2,_⟩ <;> rw [J,a2] <;> rfl
  rw [this];rw [Bool.bne_false] at h;exact now R h rfl
 ·exact h.elim⟩
theorem Qck (hu:X.A.units + 9 < aP):OpS X E (aS .NotIn) (Q2z true):=⟨fun H ρ st p q x y Q R rp rq h=>by
 unfold Q2z at h
 split at h
 ·rename_i z k Y U;obtain ⟨n,a,vs,rfl,rfl,_,_,hb,rd⟩:=Yt R rq Y;obtain ⟨b,rfl,O⟩:=Wx U rp;intro pins s σ v u I rv ru;cases ru;refine Qmj hu I (DGet.t hb O) rv fun s' I'=>⟨.bl _,H,I',rfl,?_⟩
  have:(qf vs k).isSome=(U4 z k).isSome:=by
   rcases ji k rd with ⟨J,a2⟩ | ⟨p,v,J,a2,_⟩ <;> rw [J,a2] <;> rfl
  rw [this];have Z:((U4 z k).isSome != true)=!(U4 z k).isSome:=by cases (U4 z k).isSome <;> rfl
  rw [Z] at h;exact now R h rfl
 ·exact h.elim⟩
theorem Q44 (R:Rel H ρ st) (b:aB) (xs:List V) (h:H b=some (.tup xs)):b∉ρ:=fun z=>by
 rcases z with z | z
 ·obtain ⟨i,hi,e⟩:=L3 z;have hs:i < st.length:=by rw [<- R.len]; exact hi
  have q:=R.cell i b st[i] (by rw [O2 hi,e]) (O2 hs);cases I:st[i] with
  | lst xs=>rw [I] at q; obtain ⟨vs,h1,_⟩:=q; rw [h] at h1; cases h1
  | dic xs=>rw [I] at q; obtain ⟨vs,h1,_⟩:=q; rw [h] at h1; cases h1
  | dtp xs=>rw [I] at q; obtain ⟨vs,h1,_⟩:=q; rw [h] at h1; cases h1
  | frd xs=>rw [I] at q; obtain ⟨vs,⟨_,h1⟩,_⟩:=q; rw [h] at h1; cases h1
  | obj C xs=>rw [I] at q; obtain ⟨vs,⟨_,h1⟩,_⟩:=q; rw [h] at h1; cases h1
 ·obtain ⟨o,h1,h2⟩:=R.hd b z;rw [h] at h1;cases h1;exact h2 xs rfl
end
variable {H0 H:Hp} {ρ0 ρ:Tk} {st:Q0} {a:aB} {ps:List (HK × PV)} {vs:List (HK × V)}
theorem Qfv (R0:Rel H0 ρ0 st) (x:Ext H0 ρ0 H ρ) {I:Q0} (R:Rel H ρ I) (hm:a∈ρ.hid) (hn:H0 a=none) (ha:H a=some (.dT vs)) (r:RepD H ρ ps vs) :
  Ext H0 ρ0 H ⟨ρ.tr ++ [a],ρ0.hid⟩/\Rel H ⟨ρ.tr ++ [a],ρ0.hid⟩ (I ++ [.dtp ps])/\Rep H ⟨ρ.tr ++ [a],ρ0.hid⟩ (.ref I.length) (.ref a):=by
 have Z:a∉ρ0.hid:=fun z=>by
  obtain ⟨o,e,_⟩:=R0.hd a z;rw [hn] at e; cases e
 refine ⟨⟨x.pre.trans (List.prefix_append _ _),fun _ h=>h,fun _ h=>.inl h,x.keep,fun b U=>?_,x.old,x.frz⟩,⟨?_,?_,fun b U=>R.hd b (x.hidM b U),fun b U z=>?_,fun i b c h1 h2=>?_⟩,a,?_,rfl⟩
 ·rcases E1.mp U with z | z
  ·exact x.new b z
  ·have:b=a:=by simpa using z
   subst this; exact .inr hn
 ·show (ρ.tr ++ [a]).length=_;rw [O5,O5,R.len]; rfl
 ·show (ρ.tr ++ [a]).Nodup;refine L4.mpr ⟨R.nd,by simp,fun b U c hc e=>?_⟩;have:c=a:=by simpa using hc
  subst this; subst e;exact R.ap b hm U
 ·rcases E1.mp z with z | z
  ·exact R.ap b (x.hidM b U) z
  ·have:b=a:=by simpa using z
   subst this; exact Z U
 ·have h1:(ρ.tr ++ [a])[i]?=some b:=h1
  by_cases hi:i < I.length
  ·rw [O7 (by rw [R.len]; exact hi)] at h1;rw [O7 hi] at h2;have q:=R.cell i b c h1 h2;cases c with
   | lst Y=>
    obtain ⟨us,O,J⟩:=q;exact ⟨us,O,J.trk hm x.hidM⟩
   | dic Y=>
    obtain ⟨us,O,J⟩:=q;exact ⟨us,O,J.1,J.2.trk hm x.hidM⟩
   | dtp Y=>
    obtain ⟨us,O,J⟩:=q;exact ⟨us,O,J.1,J.2.trk hm x.hidM⟩
   | frd Y=>
    obtain ⟨us,O,J⟩:=q;exact ⟨us,O,J.1,J.2.trk hm x.hidM⟩
   | obj C Y=>
    obtain ⟨us,O,J⟩:=q;exact ⟨us,O,J.1,J.2.trk hm x.hidM⟩
  ·rw [D9 (by rw [R.len]; omega)] at h1;rw [D9 (by omega)] at h2;have e0:i - I.length=0:=by
    rcases Nat.eq_zero_or_pos (i - I.length) with z | z
    ·exact z
    ·rw [N2 (by simp; omega)] at h2; cases h2
   rw [R.len,e0] at h1;rw [e0] at h2;simp at h1 h2;subst h1; subst h2;exact ⟨vs,ha,r.1,r.2.trk hm x.hidM⟩
 ·show (ρ.tr ++ [a])[I.length]?=some a;rw [<- R.len,D9 (O6 _),Nat.sub_self]; rfl
section
variable {mk:ME}
def Q9k (st:Q0) (pv pk:PV):Res PV:=match Ud pk with
 | some ks=>.ok (.ref st.length) (st ++ [.dtp [(ks,pv)]])
 | none=>.stuck
def Kv (mk m:ME):ME:=fun Γ st=>(mk Γ st).bind fun pk st1=>(m Γ st1).bind fun pv st2=>Q9k st2 pv pk
theorem Qc7 (hu:X.A.units + 9 < aP) (hk:SimE X E k mk) (he:SimE X E e m):SimE X E (.Dict [some k] [e] dpos) (Kv mk m):=by
 refine ⟨fun Γ σ H ρ st Q R G h=>WE.of (Qcj (by omega) J4 J4) ?_⟩;intro p O;have U:Ext H ρ (upd H p (.dT [])) (ρ.hide p):=Ext.hide O;refine hk.use' (R.hide O) (G.hide O) (h.bind.later U) fun a1 Y H1 ρ1 v1 f1 x1 R1 G1 r1 _=>?_
 have h:=h;unfold Kv at h;rw [f1] at h;have h:Acc X.mg E H ρ (QV Q) ((m Γ Y).bind fun pv J=>Q9k J pv a1):=h
 refine he.use' R1 G1 (h.bind.later (U.trans x1)) fun a2 J H2 q v2 f2 x2 R2 G2 r2 _=>?_
 rw [f2] at h;have h:Acc X.mg E H ρ (QV Q) (Q9k J a2 a1):=h;unfold Q9k at h
 split at h
 ·rename_i ks ek;obtain ⟨b,rfl,kr⟩:=Wx ek (r1.ext x2);have xe:Ext (upd H p (.dT [])) (ρ.hide p) H2 q:=x1.trans x2;have Z:p∉(ρ.hide p).tr:=fun z=>R.fresh O (.inl z)
  have a3:H2 p=some (.dT []):=xe.keep p _ Qv Z;have I:p∈q.hid:=xe.hidM p E7;refine ⟨ks,b,v2,rfl,kr,a3,?_⟩;have y:Ext H ρ (upd H2 p (.dT [(ks,v2)])) q:=(U.trans xe).put0 O;have g2:=r2.rehide (o:=.dT [(ks,v2)]) I;obtain ⟨x5,R5,r5⟩:=Qfv (ps:=[(ks,a2)]) R y (R2.rehide I) I O Qv ⟨rfl,RepL.cons g2 RepL.nil⟩;exact h _ _ x5 R5 _ r5
 ·exact h.elim
@[simp] theorem Qr6 (Γ:Gam) (st:Q0):Kv mk m Γ st=(mk Γ st).bind fun I q=>(m Γ q).bind fun pv z=>Q9k z pv I:=rfl
end
section
variable {X:Cx} {E:XK} {pos:Pos} {tg:aH} {e a b:aH} {m ma mb:ME}
def Qcu:OP:=fun st p q=>match p,q with
 | .int a,.int b=>.ok (.bl (decide (a<=b))) st
 | .str a,.str b=>.ok (.bl (!decide (b.cps.toList < a.cps.toList))) st
 | _,_=>.stuck
theorem Qqh:OpS X E (aS .LtE) Qcu:=⟨fun H ρ st p q x y Q R I z h=>by
 unfold Qcu at h
 split at h
 ·cases I; cases z;exact WO.of Qne ⟨_,_,rfl,rfl,now R h rfl⟩
 ·cases I; cases z;exact WO.of Qcn ⟨_,_,rfl,rfl,now R h rfl⟩
 ·exact h.elim⟩
def Qkn:OP:=fun st p q=>match p,q with
 | .str z,.int i=>match atI z.cps.toList i with
  | some c=>if z.length<=lim then .ok (.str ⟨#[c]⟩) st else .stuck
  | none=>.stuck
 | _,_=>.stuck
theorem Qpg (ha:SimE X E a ma) (hb:SimE X E b mb) (hs:Q5s b:=by exact fun _ _=>rfl):SimE X E (.Subscript a b pos) (mOp Qkn ma mb):=
 ⟨fun Γ σ H ρ st Q R G h=>WE.of (Qnb Qgv J4 J4 hs) (ha.use R G h.bind fun p U H1 ρ1 v x1 I Y r1 h1=>hb.use I Y h1.bind fun q Z H2 a1 u x2 R2 G2 J h2=>by
  unfold Qkn at h2
  split at h2
  ·rename_i z i;cases r1; cases J
   split at h2
   ·rename_i c O
    split at h2
    ·rename_i hl;exact .inr (.inr ⟨z,i,c,rfl,rfl,Zv hl,O,now R2 h2 rfl⟩)
    ·exact h2.elim
   ·exact h2.elim
  ·exact h2.elim)⟩
def Xk (x:Str):List PV:=x.cps.toList.map fun c=>.str ⟨#[c]⟩
def Qaq (m:ME):MI:=fun Γ st=>(m Γ st).bind fun p st1=>match p with
 | .str x=>if x.length<=lim then .ok (Xk x,[]) st1 else .stuck
 | _=>.stuck
theorem Qiz (x:Str):Src (Qsd x) (Xk x) [] H ρ:=by
 have Y:(Xk x).length=x.cps.size:=by unfold Xk; rw [O1,Array.length_toList]
 refine ⟨fun H2 z q _ _ _=>?_,fun H2 z q _ _ _ i hi=>?_,fun H2 z q _ _ _ i p I y U O=>?_⟩
 ·show x.cps.size<=_; omega
 ·show i < x.cps.size; omega
 ·obtain ⟨rfl,c,J,rfl⟩:=O;refine ⟨Same.refl _,?_⟩;unfold Xk at I;rw [E2,Array.getElem?_toList,J] at I;cases I;exact rfl
theorem Qp8 (Y:SimE X E e m):SimI X E tg e (Qaq m):=⟨fun Γ σ H ρ st P R' R G h k=>by
 have hb:Acc X.mg E H ρ _ (m Γ st):=Acc.bind h;refine WI.of (Qq1 J4) (Y.use' R G hb fun p q H1 ρ1 v eq O I U Z h1=>?_)
 split at h1
 ·rename_i x
  split at h1
  ·rename_i J;cases Z;have z:(Xk x).length<=lim:=by unfold Xk; rw [O1,Array.length_toList]; exact J
   exact ⟨x,rfl,k (Xk x,[]) q H1 ρ1 _ (by simp only [Qaq,eq,Res.bind,bT J]) O I U (Qp _) (Zv z) (Qiz x) (h1 H1 ρ1 (Ext.refl _ _) I)⟩
  ·exact h1.elim
 ·exact h1.elim⟩
def xu:List PV->Option (List Str)
 | []=>some []
 | .str x :: r=>(xu r).map (x :: ·)
 | _ :: _=>none
theorem Q38 {H:Hp} {ρ:Tk}:∀ {ps:List PV} {ss:List Str} {vs:List V},xu ps=some ss->RepL H ρ ps vs->vs=ss.map V.str
 | [],_,_,e,r=>by cases e; exact r
 | .str x :: ps,_,_,e,⟨v,t,q,J,I⟩=>by
  have e:(xu ps).map (x :: ·)=some _:=e;cases z:xu ps with
  | none=>rw [z] at e; cases e
  | some l=>
   rw [z] at e;cases e;rw [q,Q38 z I,show v=V.str x from J];rfl
def Qg7 (sep:Str) (st:Q0) (ps:List PV):Res PV:=match ps with
 | [p]=>match (Va st p).bind xu with
  | some ss=>if JoinOk sep ss=true then .ok (.str (Txt.join sep ss)) st else .stuck
  | none=>.stuck
 | _=>.stuck
def Qas (mo:ME) (mr:Gam->Q0->Res (List PV)):ME:=fun Γ st=>(mo Γ st).bind fun p st1=>match p with
 | .str sep=>(mr Γ st1).bind fun ps st2=>Qg7 sep st2 ps
 | _=>.stuck
variable {o:aH} {es:List aH} {mo:ME} {mr:Gam->Q0->Res (List PV)} {apos cpos:Pos}
theorem Qjc (ho:SimE X E o mo) (ha:SimA X E (e :: es) mr)
  (J:bO o "join" X.env (aO o X.env)=aO o X.env:=by rfl)
  (O:((aY cpos (aN (e :: es) X.env)).all (fun x=>!x.1) && (backToKw cpos (keywordEach [] X.env)).all (fun x=>x.1.isSome)
   && decide ((e :: es).length + ([]:List Keyword).length + (if ([]:List Keyword).isEmpty then 0 else 1) < 30))=true:=by rfl)
  (I:(apos.endLine == cpos.line)=true:=by rfl) (hs:aN (e :: es) X.env=(false,aO e X.env) :: aN es X.env:=by rfl) (z:(aY cpos (aN es X.env)).any (·.1)=false:=by rfl) :
  SimE X E (.Call (.Attribute o "join" apos) (e :: es) [] cpos) (Qas mo mr):=
 ⟨fun Γ σ H ρ st Q R G h=>WE.of (Qnc PySem.F.plainAttrs_str PySem.F.slot_str_join PySem.F.type_str_join Qkp J4 Q1h J O I hs z) (ho.use R G h.bind fun p a2 H1 ρ1 v x1 R1 G1 r1 h1=>by
  split at h1
  ·rename_i Y;cases r1;refine ⟨rfl,ha.use R1 G1 h1.bind fun ps Z H2 a1 us x2 R2 G2 r2 h2=>?_⟩;unfold Qg7 at h2
   split at h2
   ·rename_i q;obtain ⟨y,rfl,ry⟩:=Jz r2
    split at h2
    ·rename_i ss es
     split at h2
     ·rename_i hz;cases U:Va Z q with
      | none=>rw [U] at es; cases es
      | some xs=>
       rw [U] at es;obtain ⟨c,vs,rfl,hc,rc⟩:=Zp R2 ry U;rw [Q38 es rc] at hc;exact ⟨Y,c,ss,rfl,rfl,.inl hc,hz,now R2 h2 rfl⟩
     ·exact h2.elim
    ·exact h2.elim
   ·exact h2.elim
  ·exact h1.elim)⟩
end
end Sm
namespace L2
open PySem PySem.Spec PyProof.Rows PySem.W
def SzS (h:Heap) (a:aB) (n:Nat):Prop:=∃ o es ep t,h.get? a=some o/\o.ExactSet/\o.data=.set es ep t/\t.fits es.size=true/\es.size=n
def Qd5 (a:aB) (n:Nat):HO:=.ext fun h=>SzS h a n
variable {X:Cx}
theorem Qde (hu:X.A.units + 9 < aP) (hc:X.calm=true):W6 X (.type "set") (fun xs H Q=>∃ p vs,∃ ks:List HK,xs=[.ref p]/\SqT X.K H p vs/\aR (fun v k=>∃ b,v=.ref b/\KR H k b) vs ks/\ks.length<=76/\∀ l,H l=none->Q (.ref l) (upd H l (Qd5 l (Ym ks).length))):=by
 intro pins s σ H xs us Q I r h;obtain ⟨p,vs,ks,rfl,hq,Y,hl,q⟩:=h;obtain ⟨u,rfl,O⟩:=Uk r;cases O;obtain ⟨its,U,pl,hz⟩:=I.tuple hq;have J:its.length=ks.length:=by rw [<- U.length,Paired.length Y]
 refine qj (B:=fun _=>True) (ks:=ks) hu (I.ok.hd hc) pl (by rw [O8,J]) (fun i v e=>?_) hl fun h' tk gh k=>?_
 ·have e:its[i]?=some v:=by simpa using e
  have hi:i < vs.length:=by have:=(O0.mp e).1; rw [U.length]; exact this
  obtain ⟨x,ex,O⟩:=U.get (O2 hi);rw [e] at ex; cases ex;obtain ⟨k,ek,b,eb,hb⟩:=X3 Y (O2 hi);rw [eb] at O;cases O;exact ⟨k,b,ek,rfl,Vc I.hok hb,trivial⟩
 ·obtain ⟨o,es,ep,t,h1,h2,h3,⟨Z,p1,r1⟩,h5,h6⟩:=gh;have sz:SzS h' s.heap.objs.size (Ym ks).length:=⟨o,es,ep,t,h1,h2,h3,by have:=h6.fits; rwa [O1,Array.length_toList] at this,by rw [<- Array.length_toList,Paired.length r1,p1.length_eq]⟩;refine ⟨.ref s.heap.objs.size,upd H s.heap.objs.size (Qd5 s.heap.objs.size (Ym ks).length),I.laid (t':=tk) k (O6 _) ⟨sz,⟨o,h1⟩,fun h1 h2 z kk=>?_⟩,rfl,q _ (I.hok.fresh (O6 _))⟩
  obtain ⟨o,es,ep,t,g1,g2⟩:=z;exact ⟨o,es,ep,t,kk _ g1,g2⟩
theorem Qdi:W6 X (.builtin "len") (fun xs H Q=>∃ p n,xs=[.ref p]/\H p=some (Qd5 p n)/\n<=4000/\Q (.int n) H):=by
 intro pins s σ H xs us Q I r h;obtain ⟨p,n,rfl,U,Y,q⟩:=h;obtain ⟨u,rfl,J⟩:=Uk r;cases J;obtain ⟨⟨o,es,ep,t,h1,h2,O,z,rfl⟩,_,_⟩:=I.hok p _ U;exact call_len_set h1 h2 O z (by omega) ⟨.int _,H,I.tok _,⟨s.toks + 1,rfl⟩,q⟩
theorem Q2g (hc:X.calm=true):W6 X (.type "list") (fun xs H Q=>∃ a,∃ J:List (HK × V),xs=[.ref a]/\H a=some (.dT J)/\∀ d vs,H d=none->aR (fun v (p:HK × V)=>∃ b,v=.ref b/\KR H p.1 b) vs J->Q (.ref d) (upd H d (.lst vs))):=by
 intro pins s σ H xs us Q I r h;obtain ⟨a,J,rfl,ea,q⟩:=h;obtain ⟨u,rfl,rx⟩:=Uk r;cases rx;obtain ⟨z,hs,es,ep,O,hr,Y,U⟩:=Qhq I.hok ea;have l1:J.length=O.length:=Paired.length U;have l2:es.size=O.length:=by
  have:=congrArg List.length Y;simpa using this
 refine kdl_call (Qj0 hs) (I.ok.hd hc) hr (by omega) fun h' tk acc c k1 k2 k3=>?_
 have e:acc.toList=O.map Value.ref:=by
  rw [<- Y];apply List.ext_getElem?;intro i
  by_cases z:i < es.size
  ·have hi:i < acc.size:=by rw [k3.1]; exact z
   obtain ⟨e,h1,h2⟩:=k3.2 i acc[i] (Array.getElem?_eq_getElem hi);rw [Array.getElem?_toList,Array.getElem?_eq_getElem hi,h2,E2,Array.getElem?_toList,h1]; rfl
  ·rw [Array.getElem?_toList,Array.getElem?_eq_none (by rw [k3.1]; omega),E2,Array.getElem?_toList,Array.getElem?_eq_none (by omega)]; rfl
 have hv:Vals (O.map V.ref) acc.toList:=by
  rw [e];clear e U l1 l2 Y
  induction O with
  | nil=>exact .nil
  | cons x l Z=>exact .cons rfl Z
 have hp:aR (fun v (p:HK × V)=>∃ b,v=.ref b/\KR H p.1 b) (O.map V.ref) J:=by
  clear e hv k3 k2 k1 Y l1 l2 q ea z
  induction U with
  | nil=>exact .nil
  | cons hr _ Z=>exact .cons ⟨_,rfl,hr⟩ Z
 refine ⟨.ref s.heap.objs.size,_,I.laid (t':=tk) (o:=.lst (O.map V.ref)) k1 (O6 _) ⟨by rw [O1]; omega,acc.toList,c,hv,?_⟩,rfl,q _ _ (I.hok.fresh (O6 _)) hp⟩;rw [Array.toArray_toList]; exact k2
end L2
namespace Sm
open PySem PySem.Spec L2
variable {H:Hp} {ρ:Tk}
variable {X:Cx} {E:XK} {a b:aH} {ma mb:ME}
section
variable {pos:Pos}
def z8 (ma:ME):ME:=fun Γ st=>(ma Γ st).bind fun p st1=>match p with
 | .tup ps=>match Z3 Ud ps with
  | some ks=>if ks.length<=76 then .ok (.int (Ym ks).length) st1 else .stuck
  | none=>.stuck
 | _=>.stuck
theorem Q71 {H:Hp} {ρ:Tk}:∀ {ps:List PV} {ks:List HK} {vs:List V},Z3 Ud ps=some ks->RepL H ρ ps vs->aR (fun v k=>∃ b,v=.ref b/\KR H k b) vs ks
 | [],_,_,e,r=>by cases e; cases r; exact .nil
 | p :: ps,_,_,e,⟨v,t,I,J,q⟩=>by
  unfold Z3 at e
  split at e
  ·rename_i k l z O;cases e;rw [I];exact .cons (Wx z J) (Q71 O q)
  ·cases e
theorem Q8h {p p' pos':Pos} (hu:X.A.units + 9 < aP) (ha:SimE X E a ma) (hc:X.calm=true) (Z:Gl X "len") (hm:X.mg "len" = none) (O:Gl X "set") (J:X.mg "set" = none) (hb:aX "set" = some (.type "set")) (U:aN [a] X.env=(false,aO a X.env) :: aN [] X.env:=by rfl)
  (z:aN [.Call (.Name "set" p') [a] [] pos'] X.env=(false,aO (.Call (.Name "set" p') [a] [] pos') X.env) :: aN [] X.env:=by rfl):SimE X E (.Call (.Name "len" p) [.Call (.Name "set" p') [a] [] pos'] [] pos) (z8 ma):=
 ⟨fun Γ σ H ρ st Q R G hq=>WE.of (jk Qdi Z hm PySem.boot_len (Wp (Ks (Qde hu hc) O J hb (Wp J4 X4 U) (by decide) (by decide) U rfl) X4 z) (by decide) (by decide) z rfl) (ha.use' R G hq.bind fun q a1 H1 ρ1 v e1 x1 R1 G1 r1 h1=>by
  split at h1
  ·rename_i ps
   split at h1
   ·rename_i ks ek
    split at h1
    ·rename_i hl;obtain ⟨c,vs,rfl,I,_,rc⟩:=r1;refine ⟨c,vs,ks,rfl,SqT.of I,Q71 ek rc,hl,fun l Y=>⟨l,_,rfl,Qv,E6 (Q1s ks) (by omega),?_⟩⟩
     exact h1 _ _ (Ext.hide Y) (R1.hide Y) _ rfl
    ·exact h1.elim
   ·exact h1.elim
  ·exact h1.elim)⟩
@[simp] theorem Qni (ma:ME) (Γ:Gam) (st:Q0):z8 ma Γ st=(ma Γ st).bind fun p q=>match p with
 | .tup ps=>match Z3 Ud ps with
  | some ks=>if ks.length<=76 then .ok (.int (Ym ks).length) q else .stuck
  | none=>.stuck
 | _=>.stuck:=rfl
mutual
def hkV:HK->PV
 | .int i=>.int i
 | .str x=>.str x
 | .tup l=>.tup (hkVL l)
def hkVL:List HK->List PV
 | []=>[]
 | k :: l=>hkV k :: hkVL l
end
mutual
theorem Qb1 {H:Hp} {ρ:Tk} (o:∀ b xs,H b=some (.tup xs)->b∉ρ):∀ {k:HK} {v:V},KAt H k v->Rep H ρ (hkV k) v
 | .int _,_,r=>r
 | .str _,_,r=>r
 | .tup _,_,⟨a,vs,e,h,r⟩=>⟨a,vs,e,h,o a vs h,hkVL_rep o r⟩
theorem hkVL_rep {H:Hp} {ρ:Tk} (o:∀ b xs,H b=some (.tup xs)->b∉ρ):∀ {l:List HK} {vs:List V},KAtL H l vs->RepL H ρ (hkVL l) vs
 | [],_,r=>r
 | _ :: _,_,⟨v,r,e,h,t⟩=>⟨v,r,e,Qb1 o h,hkVL_rep o t⟩
end
def j8:CF:=fun st ps=>match ps with
 | [p]=>match W5 st p with
  | some kvs=>.ok (.lst (kvs.map fun kv=>hkV kv.1)) st
  | none=>.stuck
 | _=>.stuck
theorem xf {H:Hp} {ρ:Tk} (o:∀ b xs,H b=some (.tup xs)->b∉ρ):∀ {q:List (HK × PV)} {us:List (HK × V)} {vs:List V},RepD H ρ q us->aR (fun v (p:HK × V)=>∃ b,v=.ref b/\KR H p.1 b) vs us->RepL H ρ (q.map fun kv=>hkV kv.1) vs
 | [],[],_,_,p=>by cases p; rfl
 | [],b :: us,_,r,_=>by have:=r.length; cases this
 | a :: q,[],_,r,_=>by have:=r.length; cases this
 | a :: q,b :: us,_,r,.cons h t=>by
  obtain ⟨Z,x,Y,e,r2,I⟩:=r;obtain ⟨O,J⟩:=List.cons.inj (show b.1 :: us.map Prod.fst=a.1 :: q.map Prod.fst from Z);obtain ⟨e3,U⟩:=List.cons.inj (show b.2 :: us.map Prod.snd=x :: Y from e);subst U;obtain ⟨c,rfl,z⟩:=h;refine RepL.cons ?_ (xf o ⟨J,I⟩ t);show Rep H ρ (hkV a.1) _;rw [<- O];exact Qb1 o z.1
theorem Q7t (z:X.calm=true):CallS X E (.type "list") j8:=⟨fun H ρ st ps xs Q R I h=>by
 unfold j8 at h
 split at h
 ·rename_i p;obtain ⟨v,rfl,r⟩:=Jz I
  split at h
  ·rename_i q e;obtain ⟨n,a,vs,rfl,rfl,_,_,U,O⟩:=Yt R r e;exact WC.of (Q2g z) ⟨a,vs,rfl,U,fun d us hd J=>jx R h (xf (Q44 R) O J) d hd⟩
  ·exact h.elim
 ·exact h.elim⟩
end
structure TupG (K:PySem.W.Frag) (mg:Str->Option aA) (n:Str) (ss:List Str):Prop where
 ex:∃ (a:aB) (o:Obj) (its:Array aA) (m:Nat),mg n=some (.ref a)/\K.lookup a=some o/\o.cls=.type "tuple" /\ o.data=.seq its m/\its.size<=sizeLine/\Vals (ss.map V.str) its.toList
def Vw (ss:List Str) (x:Str):Bool:=ss.any fun s=>decide (s=x)
def Q4y (neg:Bool) (ss:List Str) (m:ME):ME:=fun Γ st=>(m Γ st).bind fun p st1=>match p with
 | .str x=>.ok (.bl (Vw ss x != neg)) st1
 | _=>.stuck
theorem zg (x:Str):∀ ss:List Str,inV (.str x) (ss.map V.str)=Vw ss x
 | []=>rfl
 | s :: ss=>by
  have q:=zg x ss;unfold inV Vw at *;rw [D0,List.any_cons,List.any_cons,q];congr 1
variable {p:Pos} {e:aH} {m:ME} {n:Str} {ss:List Str}
section
variable {pos:Pos}
theorem Qpi (tg:TupG X.K X.mg n ss) (hg:Gl X n) (U:SimE X E e m) (hd:(n == ("__debug__" : Str))=false:=by decide):SimE X E (.Compare e [.In] [.Name n p] pos) (Q4y false ss m):=by
 obtain ⟨a,o,its,k,hm,Z,Y,I,hz,O⟩:=tg.ex;refine ⟨fun Γ σ H ρ st Q R G h=>WE.of (Q4k Qcp J4 (Q0m (v:=.ref a) hg hm rfl hd) rfl) (U.use R G h.bind fun q z H1 ρ1 v x1 J G1 r1 h1=>?_)⟩;cases q with
 | str x=>
  cases r1;have h1:Acc X.mg E H1 ρ1 (QV Q) (.ok (.bl (Vw ss x != false)) z):=h1;refine ⟨a,ss.map V.str,rfl,.inr (.inr ⟨o,its,k,Z,Y,I,hz,O⟩),rfl,by simp [Kf],?_⟩;rw [zg];rw [Bool.bne_false] at h1;exact now J h1 rfl
 | _=>exact h1.elim
theorem Qc6 (tg:TupG X.K X.mg n ss) (hg:Gl X n) (U:SimE X E e m) (hd:(n == ("__debug__" : Str))=false:=by decide):SimE X E (.Compare e [.NotIn] [.Name n p] pos) (Q4y true ss m):=by
 obtain ⟨a,o,its,k,hm,Z,Y,I,hz,O⟩:=tg.ex;refine ⟨fun Γ σ H ρ st Q R G h=>WE.of (Q4k jn J4 (Q0m (v:=.ref a) hg hm rfl hd) rfl) (U.use R G h.bind fun q z H1 ρ1 v x1 J G1 r1 h1=>?_)⟩;cases q with
 | str x=>
  cases r1;have h1:Acc X.mg E H1 ρ1 (QV Q) (.ok (.bl (Vw ss x != true)) z):=h1;refine ⟨a,ss.map V.str,rfl,.inr (.inr ⟨o,its,k,Z,Y,I,hz,O⟩),rfl,by simp [Kf],?_⟩;rw [zg];rw [show (Vw ss x != true)=!Vw ss x by cases Vw ss x <;> rfl] at h1;exact now J h1 rfl
 | _=>exact h1.elim
end
section
variable {X:Cx} {E:XK}
def prV (p:Int × Str):PV:=.tup [.int p.1,.str p.2]
def Qm7:HK->Option (Int × Str)
 | .tup [.int x,.str y]=>some (x,y)
 | _=>none
def Quu:List (HK × PV)->Option (List (Int × Str))
 | []=>some []
 | kv :: r=>match Qm7 kv.1,Quu r with
  | some p,some l=>some (p :: l)
  | _,_=>none
theorem Q6f {H:Hp} {ρ:Tk} (q:∀ b xs,H b=some (.tup xs)->b∉ρ):∀ {vs:List V} {nss:List (Int × Str)},aR (fun (v:V) (ns:Int × Str)=>∃ b,v=.ref b/\H b=some (.tup [.int ns.1,.str ns.2])) vs nss->RepL H ρ (nss.map prV) vs
 | [],[],.nil=>rfl
 | v :: vs,ns :: nss,.cons ⟨b,e,z⟩ t=>by
  subst e;exact RepL.cons ⟨b,_,rfl,z,q b _ z,RepL.cons rfl (RepL.cons rfl RepL.nil)⟩ (Q6f q t)
def yh:List PV->Option (List (HK × PV))
 | []=>some []
 | .tup [kp,v] :: r=>match Ud kp,yh r with
  | some k,some l=>some ((k,v) :: l)
  | _,_=>none
 | _ :: _=>none
def Kr (kvs l:List (HK × PV)):List (HK × PV):=l.foldl (fun acc p=>putT acc p.1 p.2) kvs
theorem Q1f {H:Hp} {ρ:Tk}:∀ {ps:List PV} {l:List (HK × PV)} {us:List V},yh ps=some l->RepL H ρ ps us->∃ zs:List (HK × aB × V),aR (fun v (z:HK × aB × V)=>∃ c,v=.ref c/\H c=some (.tup [.ref z.2.1,z.2.2])/\KR H z.1 z.2.1) us zs/\aR (fun (p:HK × PV) (z:HK × aB × V)=>p.1=z.1/\Rep H ρ p.2 z.2.2) l zs
 | [],_,_,e,r=>by cases e; cases r; exact ⟨[],.nil,.nil⟩
 | .tup [kp,v] :: ps,_,_,e,⟨w,t,U,O,I⟩=>by
  unfold yh at e
  split at e
  ·rename_i k l h1 h2;cases e;obtain ⟨zs,a1,a2⟩:=Q1f h2 I;obtain ⟨a,vs,e3,hb,_,w1,q1,e4,s1,w2,q2,J,q,Y⟩:=O;cases Y;subst J; subst e4;obtain ⟨b,rfl,Z⟩:=Wx h1 s1;subst U;exact ⟨(k,b,w2) :: zs,.cons ⟨a,e3,hb,Z⟩ a1,.cons ⟨rfl,q⟩ a2⟩
  ·cases e
theorem xv {H:Hp} {ρ:Tk}:∀ {l:List (HK × PV)} {zs:List (HK × aB × V)} {q:List (HK × PV)} {vs:List (HK × V)},RepD H ρ q vs->aR (fun (p:HK × PV) (z:HK × aB × V)=>p.1=z.1/\Rep H ρ p.2 z.2.2) l zs->RepD H ρ (Kr q l) (L2.putAll vs zs)
 | _,_,_,_,r,.nil=>r
 | p :: l,z :: zs,_,_,r,.cons ⟨I,J⟩ t=>by
  show RepD H ρ (Kr (putT _ p.1 p.2) l) (L2.putAll (X2 _ z.1 z.2.2) zs);rw [I];exact xv (Q6e r z.1 J) t
variable {o e:aH} {es:List aH} {mo:ME} {mr:Gam->Q0->Res (List PV)} {apos cpos:Pos}
end
section
variable {pos:Pos}
def Q6k:List PV->Option (List (Int × Str))
 | []=>some []
 | .tup [.int x,.str y] :: r=>(Q6k r).map ((x,y) :: ·)
 | _ :: _=>none
def kQ (p:Int × Str):HK:=.tup [.int p.1,.str p.2]
theorem Qri {p q:Int × Str} (h:kQ p=kQ q):p=q:=by
 unfold kQ at h;injection h with h
 injection h with h1 h
 injection h with h2 _
 injection h1 with h1
 injection h2 with h2
 exact Prod.ext h1 h2
theorem Qmy (acc:List (Int × Str)) (p:Int × Str):Zd (acc.map kQ) (kQ p)=(Zd acc p).map kQ:=by
 unfold Zd
 by_cases q:p∈acc
 ·rw [bT q,bT (D6.mpr ⟨p,q,rfl⟩)]
 ·rw [bU q,bU,E5]
  ·rfl
  ·intro h;obtain ⟨x,z,e⟩:=D6.mp h;rw [Qri e] at z; exact q z
theorem Qkr (ps:List (Int × Str)):Ym (ps.map kQ)=(Ym ps).map kQ:=by
 have q:∀ (ps acc:List (Int × Str)),(ps.map kQ).foldl Zd (acc.map kQ)=(ps.foldl Zd acc).map kQ:=by
  intro ps
  induction ps with
  | nil=>intro acc; rfl
  | cons p ps z=>intro acc; rw [D0,F8,F8,Qmy,z]
 exact q ps []
theorem Q6j {H:Hp} {ρ:Tk}:∀ {ps:List PV} {ns:List (Int × Str)} {vs:List V},Q6k ps=some ns->RepL H ρ ps vs->aR (fun v k=>∃ b,v=.ref b/\KR H k b) vs (ns.map kQ)
 | [],_,_,e,r=>by cases e; cases r; exact .nil
 | .tup [.int x,.str y] :: ps,_,_,e,⟨v,t,q,J,I⟩=>by
  have e:(Q6k ps).map ((x,y) :: ·)=some _:=e;cases z:Q6k ps with
  | none=>rw [z] at e; cases e
  | some l=>
   rw [z] at e;cases e;subst q;exact .cons (Wx (p:=.tup [.int x,.str y]) rfl J) (Q6j z I)
theorem Qrc {n:Int × Str} {b:aB} (h:KR H (kQ n) b):H b=some (.tup [.int n.1,.str n.2]):=by
 obtain ⟨⟨c,vs,e,I,U,J,z,k1,O,Y,q,k2,k3⟩,_⟩:=h;cases e;cases k1; cases k2; cases k3;subst q; subst z;exact I
theorem Qbe {H:Hp}:∀ {bs:List aB} {ks:List HK},aR (fun b k=>KR H k b) bs ks->∀ {ms:List (Int × Str)},ks=ms.map kQ->aR (fun b (n:Int × Str)=>H b=some (.tup [.int n.1,.str n.2])) bs ms
 | [],_,.nil,[],_=>.nil
 | _ :: _,_ :: _,.cons _ _,[],e=>by cases e
 | [],_,.nil,_ :: _,e=>by cases e
 | b :: bs,k :: ks,.cons h t,m :: ms,e=>by
  rw [D0] at e;injection e with q z
  exact .cons (Qrc (by rw [<- q]; exact h)) (Qbe t z)
theorem Qk7 {ks:List HK} {ns:List (Int × Str)} (p:ks.Perm (ns.map kQ)):∃ ms:List (Int × Str),ks=ms.map kQ/\ms.Perm ns:=by
 have h:∀ k∈ks,∃ n,k=kQ n:=fun k J=>by
  obtain ⟨n,_,e⟩:=D6.mp (p.mem_iff.mp J);exact ⟨n,e.symm⟩
 have h2:∃ ms:List (Int × Str),ks=ms.map kQ:=by
  clear p
  induction ks with
  | nil=>exact ⟨[],rfl⟩
  | cons k ks z=>
   obtain ⟨ms,e⟩:=z fun x O=>h x (O4 _ O)
   obtain ⟨n,I⟩:=h k (by simp);exact ⟨n :: ms,by rw [D0,<- e,I]⟩
 obtain ⟨ms,e⟩:=h2;refine ⟨ms,e,?_⟩;rw [e] at p;have q:∀ l:List (Int × Str),(l.map kQ).filterMap Qm7=l:=fun l=>by
  induction l with
  | nil=>rfl
  | cons x l z=>rw [D0,List.filterMap_cons]; show (x :: (l.map kQ).filterMap Qm7)=_; rw [z]
 have:=p.filterMap Qm7
 rwa [q,q] at this
def Ku (ma:ME):ME:=fun Γ st=>(ma Γ st).bind fun p st1=>match p with
 | .tup ps=>match Q6k ps with
  | some ns=>if ns.length < 64 then .ok (.lst ((Xd (Ym ns)).map prV)) st1 else .stuck
  | none=>.stuck
 | _=>.stuck
theorem Q64 {p p' pos':Pos} (hu:X.A.units + 9 < aP) (ha:SimE X E a ma) (hc:X.calm=true) (hg:Gl X "sorted") (hm:X.mg "sorted" = none) (O:aX "sorted" = some (.builtin "sorted")) (a2:Gl X "set") (Z:X.mg "set" = none) (J:aX "set" = some (.type "set")) (he:aN [a] X.env=(false,aO a X.env) :: aN [] X.env:=by rfl)
  (I:aN [.Call (.Name "set" p') [a] [] pos'] X.env=(false,aO (.Call (.Name "set" p') [a] [] pos') X.env) :: aN [] X.env:=by rfl):SimE X E (.Call (.Name "sorted" p) [.Call (.Name "set" p') [a] [] pos'] [] pos) (Ku ma):=
 ⟨fun Γ σ H ρ st Q R G hq=>WE.of (jk (Q5k hc) hg hm O (Wp (Ks (Qdf hu hc) a2 Z J (Wp J4 X4 he) (by decide) (by decide) he rfl) X4 I) (by decide) (by decide) I rfl) (ha.use' R G hq.bind fun q Y H1 ρ1 v e1 x1 R1 G1 r1 h1=>by
  split at h1
  ·rename_i ps
   split at h1
   ·rename_i ns ek
    split at h1
    ·rename_i hl;obtain ⟨c,vs,rfl,U,_,rc⟩:=r1;refine ⟨c,vs,ns.map kQ,rfl,SqT.of U,Q6j ek rc,by rw [O1]; omega,fun l bs a3 hn pk pb=>?_⟩;rw [Qkr] at pk;obtain ⟨ms,rfl,pm⟩:=Qk7 pk;have a4:=Q1s ns;have lb:bs.length=ms.length:=by have:=Paired.length pb; rwa [O1] at this
     have a1:=Qbe pb rfl;have up:∀ {b:aB} {xs:List V},H1 b=some (.tup xs)->(upd H1 l (Q3q X.w l bs)) b=some (.tup xs):=fun {b xs} J=>by rw [Qa (Qb J hn)]; exact J
     refine ⟨l,bs,ms,rfl,Qv,by rw [lb,pm.length_eq]; omega,Paired.mapP a1 fun _ _ z=>up z,fun d ds hd pd=>?_⟩;rw [qi pm] at pd;have x2:Ext H1 ρ1 (upd H1 l (Q3q X.w l bs)) (ρ1.hide l):=Ext.hide hn;have R2:Rel (upd H1 l (Q3q X.w l bs)) (ρ1.hide l) Y:=R1.hide hn;have rl:=Q6f (Q44 R2) pd;exact h1 _ _ (x2.trans (Ext.add hd)) (R2.add hd) _ ⟨d,ds,rfl,Qv,R2.fresh hd,rl.ext (Ext.add hd)⟩
    ·exact h1.elim
   ·exact h1.elim
  ·exact h1.elim)⟩
end
variable {o:aH} {mo mi:ME}
section
variable {i:aH} {pos:Pos}
def Q7q (st:Q0) (p q:PV):Res PV:=match W5 st p,Ud q with
 | some kvs,some k=>match U4 kvs k with
  | some v=>.ok v st
  | none=>.stuck
 | _,_=>.stuck
def X8 (mo mi:ME):ME:=fun Γ st=>(mo Γ st).bind fun p st1=>(mi Γ st1).bind fun q st2=>Q7q st2 p q
theorem Qep (hu:X.A.units + 9 < aP) (O:SimE X E o mo) (hi:SimE X E i mi) (hs:Qsc i):SimE X E (.Subscript o i pos) (X8 mo mi):=
 ⟨fun Γ σ H ρ st Q R G h=>WE.of (Qk8 hu J4 J4 hs) (O.use R G h.bind fun p Z H1 ρ1 v1 x1 R1 G1 r1 h1=>hi.use R1 G1 h1.bind fun q a4 H2 U v2 Y R2 G2 r2 h2=>by
  unfold Q7q at h2
  split at h2
  ·rename_i J k e1 e2
   split at h2
   ·rename_i w z;obtain ⟨n,a,vs,rfl,rfl,_,_,hb,rd⟩:=Yt R2 (r1.ext Y) e1;obtain ⟨b,rfl,kr⟩:=Wx e2 r2;rcases ji k rd with ⟨I,_⟩ | ⟨p,v,I,a2,a3⟩
    ·rw [I] at z; cases z
    ·rw [I] at z;cases z;exact ⟨a,v,rfl,by have:=DGet.t (k:=k) hb kr; rwa [a2] at this,now R2 h2 a3⟩
   ·exact h2.elim
  ·exact h2.elim)⟩
def Qr5 (ma:ME):ML:=fun Γ st=>(ma Γ st).bind fun p st1=>match Ve st1 p with
 | some xs=>if xs.length<=1000000 then .ok xs.reverse st1 else .stuck
 | none=>.stuck
theorem RepL.rev :∀ {xs:List PV} {vs:List V},RepL H ρ xs vs->RepL H ρ xs.reverse vs.reverse
 | [],_,r=>by cases r; exact RepL.nil
 | x :: xs,_,⟨v,t,e,z,q⟩=>by
  subst e;rw [List.reverse_cons,List.reverse_cons];exact (RepL.rev q).append (RepL.cons z RepL.nil)
theorem Q6g {H:Hp} {ρ:Tk}:∀ {xs:List PV} {vs:List V},RepL H ρ xs vs->xs.length=vs.length
 | [],_,r=>by cases r; rfl
 | x :: xs,_,⟨v,t,e,_,q⟩=>by subst e; rw [O9,O9,Q6g q]
theorem Qj4 {p p' pos':Pos} (ha:SimE X E a ma) (hc:X.calm=true) (hg:Gl X "list") (hm:X.mg "list" = none) (Z:Gl X "reversed") (O:X.mg "reversed" = none) (J:aX "reversed" = some (.type "reversed"):=by rfl) (he:aN [a] X.env=(false,aO a X.env) :: aN [] X.env:=by rfl) (hs:aN [a] X.env=[(false,aO a X.env)]:=by rfl)
  (U:aN [.Call (.Name "reversed" p') [a] [] pos'] X.env=[(false,aO (.Call (.Name "reversed" p') [a] [] pos') X.env)]:=by rfl):SimN X E (.Call (.Name "list" p) [.Call (.Name "reversed" p') [a] [] pos'] [] pos) (Qr5 ma):=
 ⟨fun Γ σ H ρ st P Q R G hq k=>WE.of (Q8u hc hg hm Z O qc J (Wp J4 X4 he) hs U) (ha.use' R G hq.bind fun q I H1 ρ1 v e1 x1 R1 G1 r1 h1=>by
  split at h1
  ·rename_i xs ex
   split at h1
   ·rename_i hl;obtain ⟨b,vs,rfl,hb,rl⟩:=j1 R1 r1 ex;refine ⟨b,vs,rfl,hb,by rw [<- Q6g rl]; exact hl,Q4v x1 R1 (RepL.rev rl) fun H3 Y z us=>k _ I H3 Y z us ?_⟩;unfold Qr5;rw [e1];show (match Ve I q with | some xs=>if xs.length<=1000000 then Res.ok xs.reverse I else .stuck | none=>.stuck)=_;rw [ex];show (if xs.length<=1000000 then Res.ok xs.reverse I else .stuck)=_;rw [bT hl]
   ·exact h1.elim
  ·exact h1.elim)⟩
def Q0q (ma:ME):ML:=fun Γ st=>(ma Γ st).bind fun p st1=>match W5 st1 p with
 | some kvs=>.ok (kvs.map fun kv=>hkV kv.1) st1
 | none=>.stuck
theorem Qec (ha:SimE X E a ma) (hc:X.calm=true) (hg:Gl X "list") (hm:X.mg "list" = none) (U:aN [a] X.env=(false,aO a X.env) :: aN [] X.env:=by rfl):SimN X E (.Call (.Name "list" p) [a] [] pos) (Q0q ma):=
 ⟨fun Γ σ H ρ st P Q R G hq k=>WE.of (Ks (Q2g hc) hg hm qc (Wp J4 X4 U) (by decide) (by decide) U rfl) (ha.use' R G hq.bind fun q z H1 ρ1 v eq Z J G1 r1 h1=>by
  split at h1
  ·rename_i I e;obtain ⟨n,a,vs,rfl,rfl,_,_,Y,rd⟩:=Yt J r1 e;refine ⟨a,vs,rfl,Y,fun d us hd hu=>Q4v Z J (xf (Q44 J) rd hu) (fun H2 O a us=>k _ z H2 O a us ?_) d hd⟩;unfold Q0q;rw [eq];show (match W5 z _ with | some (I:List (HK × PV))=>Res.ok (I.map fun (kv:HK × PV)=>hkV kv.1) z | none=>.stuck)=_
   rw [e]
  ·exact h1.elim)⟩
def j9:CF:=fun st ps=>match ps with
 | [.lst qs]=>match yh qs with
  | some l=>if l.length<=lim then .ok (.ref st.length) (st ++ [.dtp (Kr [] l)]) else .stuck
  | none=>.stuck
 | _=>.stuck
theorem Qhx (J:X.A.units + 9 < aP) (I:X.calm=true):CallS X E (.type "dict") j9:=⟨fun H ρ st ps xs Q R U h=>by
 unfold j9 at h
 split at h
 ·rename_i qs;obtain ⟨v,rfl,r⟩:=Jz U
  split at h
  ·rename_i l el
   split at h
   ·rename_i Z;obtain ⟨c,ws,rfl,q,_,Y⟩:=r;obtain ⟨zs,z1,z⟩:=Q1f el Y;have O:l.length=zs.length:=Paired.length z;refine WC.of (Q9s J I) ⟨c,ws,zs,rfl,q,z1,by rw [<- O]; exact Zv Z,fun d hd=>?_⟩;have x:Ext H ρ (upd H d (.dT (L2.putAll [] zs))) (ρ.add d):=Ext.addT hd;refine h _ _ x (R.addC hd ⟨_,Qv,(xv (show RepD H ρ [] [] from ⟨rfl,RepL.nil⟩) z).ext x⟩) _ ⟨d,?_,rfl⟩;show (ρ.tr ++ [d])[st.length]?=some d;rw [<- R.len,D9 (O6 _),Nat.sub_self]; rfl
   ·exact h.elim
  ·exact h.elim
 ·exact h.elim⟩
def Qqw:OP:=fun st p q=>match W5 st q with
 | some _=>Q2z false st p q
 | none=>oIn false st p q
theorem Qqj (J:X.A.units + 64 < aP):OpS X E (aS .In) Qqw:=⟨fun H ρ st p q x y Q R I z h=>by
 unfold Qqw at h
 split at h
 ·exact (Qqi (by omega)).run H ρ st p q x y Q R I z h
 ·exact (Qu0 J).run H ρ st p q x y Q R I z h⟩
end
end Sm
namespace Sm
open PySem PySem.Spec L2 SeqAt
def Qet (ks ls:List (HK × PV)):Bool:=decide (ks.length=ls.length) && ks.all fun kv=>match kv.2,U4 ls kv.1 with
 | .int n,some (.int m)=>decide (n=m)
 | _,_=>false
def Qct:OP:=fun st p q=>match W5 st p,W5 st q with
 | some ks,some ls=>if Qet ks ls=true then .ok (.bl false) st else .stuck
 | _,_=>oNe st p q
variable {X:Cx} {E:XK}
theorem Q8m {H:Hp} {ρ:Tk} {ks:List (HK × PV)} {vs:List (HK × V)} {xs:List (HK × aB × aA)} (r:RepD H ρ ks vs) (t:KT H vs xs) {j:Nat} {x:HK × aB × aA} (h:xs[j]?=some x):∃ kv v,ks[j]?=some kv/\kv.1=x.1/\Rep H ρ kv.2 v/\RelV v x.2.2:=by
 obtain ⟨y,q,h1,_,U⟩:=Paired.get2 t h;have z:j < ks.length:=by rw [r.length]; exact (O0.mp q).1
 obtain ⟨p,I,J⟩:=r.2.get' (i:=j) (v:=y.2) (by rw [E2,q]; rfl);rw [E2,O2 z] at I;have O:ks[j].1=y.1:=by
  have:=congrArg (·[j]?) r.1;simp only [E2,q,O2 z,Option.map_some] at this;exact (Option.some.inj this).symm
 refine ⟨ks[j],y.2,O2 z,O.trans h1,?_,U⟩;rw [Option.some.inj I]; exact J
theorem Qdv:∀ {ls:List (HK × PV)} {k:HK} {p q:PV},(ls.map (·.1)).Nodup->U4 ls k=some p->(k,q)∈ls->q=p
 | a :: ls,k,p,q,nd,h,hm=>by
  rw [D0,List.nodup_cons] at nd;unfold U4 at h;rw [List.find?_cons] at h;rcases D7.mp hm with e | hm
  ·subst e;simp at h;exact h
  ·have:a.1≠k:=fun z=>nd.1 (by rw [z]; exact D6.mpr ⟨_,hm,rfl⟩)
   rw [bV this] at h;exact Qdv nd.2 h hm
theorem Qqe (hu:X.A.units + 64 < aP):OpS X E (aS .NotEq) Qct:=⟨fun H ρ st p q x y Q R rp rq h=>by
 unfold Qct at h
 split at h
 ·rename_i ks ls e1 e2
  split at h
  ·rename_i hs;obtain ⟨_,a,va,rfl,rfl,_,_,ha,ra⟩:=Yt R rp e1;obtain ⟨_,b,vb,rfl,rfl,_,_,hb,rb⟩:=Yt R rq e2;intro pins s σ v u I rv ru;cases rv;cases ru;obtain ⟨_,sa,xa,ka,da⟩:=Q2d I.hok (.inl ha);obtain ⟨_,sb,U,kb,db⟩:=Q2d I.hok (.inl hb);unfold Qet at hs;rw [E9,decide_eq_true_eq,F0] at hs;have la:xa.length=ks.length:=by rw [ra.length]; exact ka.length.symm
   have lb:U.length=ls.length:=by rw [rb.length]; exact kb.length.symm
   have a2:(U.map (·.1)).Nodup:=by obtain ⟨_,_,_,_,_,_,_,_,n⟩:=db; exact n
   have O:ls.map (·.1)=U.map (·.1):=by
    refine List.ext_getElem? fun j=>?_
    rw [E2,E2];cases z:U[j]? with
    | none=>rw [N2 (by have:=List.getElem?_eq_none_iff.mp z; omega)]; rfl
    | some x=>
     obtain ⟨kv,_,h1,h2,_⟩:=Q8m rb kb z;rw [h1];exact congrArg some h2
   refine Qhv sa sb (by omega) (ju (by omega)) da db (by omega) (fun x hx=>?_) ⟨.bl _,H,I,rfl,now R h rfl⟩;obtain ⟨i,hi⟩:=List.mem_iff_getElem?.mp hx;obtain ⟨kv,v,k1,k2,k3,k4⟩:=Q8m ra ka hi;have hm:=hs.2 kv (E3 k1);obtain ⟨a4,val⟩:=kv;simp only at hm k2 k3;subst k2
   split at hm
   ·rename_i n m Z;have a3:n=m:=of_decide_eq_true hm;subst a3;refine ⟨?_,fun j p z=>?_⟩
    ·unfold U4 at Z;cases f:ls.find? (fun kv=>decide (kv.1=x.1)) with
     | none=>rw [f] at Z; cases Z
     | some q=>
      have q1:=List.mem_of_find?_eq_some f;have q2:q.1=x.1:=by simpa using List.find?_some f
      have:x.1∈U.map (·.1):=by rw [<- O,<- q2]; exact D6.mpr ⟨q,q1,rfl⟩
      obtain ⟨y,hy,ey⟩:=D6.mp this;obtain ⟨j,z⟩:=List.mem_iff_getElem?.mp hy;exact ⟨j,y.2,by rw [z,<- ey]⟩
    ·obtain ⟨a1,v',l1,l2,l3,l4⟩:=Q8m rb kb z;obtain ⟨Y,J⟩:=a1;have l2:Y=x.1:=l2;subst l2;have:J=.int n:=Qdv (by rw [O]; exact a2) Z (E3 l1);subst this;have:=(Q7k (A:=X.A.in1) 0 I (p:=.int n) (q:=.int n) rfl rfl (by rw [Around.in1_units]; omega) k3 k4 l3 l4).1;rw [show peq (.int n) (.int n)=true by simp [peq]] at this;exact this
   ·cases hm
  ·exact h.elim
 ·exact (Qnd hu).1 H ρ st p q x y Q R rp rq h⟩
variable {p:Pos} {e:aH} {m:ME} {n:Str} {ss:List Str}
section
variable {pos:Pos}
theorem Qbz (tg:TupG X.K X.mg n ss) (hg:Gl X n) (U:SimE X E e m) (hd:(n == ("__debug__" : Str))=false:=by decide):SimT X E (.Compare e [.NotIn] [.Name n p] pos) (toB (Q4y true ss m)):=by
 obtain ⟨a,o,its,k,hm,lk,Z,I,hz,O⟩:=tg.ex;refine ⟨fun Γ σ H ρ st Q R G h=>WT.of (Qah jn J4 (Q0m (v:=.ref a) hg hm rfl hd) rfl) (U.use R G h.bind.bind fun q Y H1 ρ1 v x1 J G1 r1 h1=>?_)⟩;cases q with
 | str x=>
  cases r1;refine ⟨a,ss.map V.str,rfl,.inr (.inr ⟨o,its,k,lk,Z,I,hz,O⟩),rfl,by simp [Kf],?_⟩;rw [zg];have h2:=h1 H1 ρ1 (Ext.refl _ _) J;rw [show (Vw ss x != true)=!Vw ss x by cases Vw ss x <;> rfl] at h2;obtain ⟨k,e,z⟩:=Qbm J (p:=.bl (!Vw ss x)) rfl h2;exact ⟨k,e,z⟩
 | _=>exact h1.elim
end
end Sm
namespace Sm
open PySem PySem.Spec L2
variable {K:PySem.W.Frag} {mg:Str->Option aA} {h:Heap} {st s:aL} {ps:List Str} {f a:aB} {oc:aA} {P:aK} {fd:aQ} {k n:Nat} {F:FN} {α:Type} {o:Obj}
def tgN:aH->List Str
 | .Name x _=>[x]
 | .Tuple es _ _=>es.flatMap fun e=>match e with
  | .Name x _=>[x]
  | _=>[]
 | _=>[]
def Q04 (N:List Str) (tg:aH) (cap:List (Option Nat)):List Str:=tgN tg ++ cap.filterMap fun o=>o.bind (N[·]?)
theorem Quh {l:List Str} (h:decide l.Nodup=true):l.Nodup:=of_decide_eq_true h
structure KR (b:Bool):Prop where
 h:b=true
variable {X:Cx} {E:XK} {tg iter elt:aH} {ifs:List aH} {sc:Scope} {ga:GA} {mi:MI} {mt:MT} {me:ME} {x:Str} {px cpos:Pos}
section
variable {pos:Pos} {cap:List (Option Nat)} {i:Nat}
theorem Qed (q:X.calm=true) (J:KR (compOkC X.N (Q04 X.N tg cap) sc X.env.scope cap)) (hs:∀ x,bC iter X.env x=pure x) (O:Q07 cap ga) (hi:SimI X E tg iter mi) (U:∀ cl C s0 H0 ex,SimG (Z5 X (Q04 X.N tg cap) sc cl C s0 H0 ex) tg ga) (I:∀ cl C s0 H0 ex,SimE (Z5 X (Q04 X.N tg cap) sc cl C s0 H0 ex) E0 elt me) (z:∀ cl C s0 H0 ex,SimTs (Z5 X (Q04 X.N tg cap) sc cl C s0 H0 ex) ifs mt):SimN X E (.ListComp elt [⟨tg,iter,ifs,0⟩] sc pos) (J3 cap ga mi mt me):=
 Q0j cap _ q hi U I z O rfl rfl J.h hs
theorem Qc0 (J:swapsWith (.ListComp elt [⟨tg,iter,ifs,0⟩] sc cpos) (some (.Name x px)) pos.line X.env=pure true) (O:X.N.Nodup) (q:X.calm=true) (z:X.N[i]?=some x) (hx:Loc X.env.scope x) (Z:KR (compOkC X.N (Q04 X.N tg cap) sc X.env.scope cap)) (hs:∀ x,bC iter X.env x=pure x) (I:X.fn x=true\/X.env.scope.names.lookup x=some .local) (hf:Q07 cap ga) (hi:SimI X E tg iter mi) (hg:∀ cl C s0 H0 ex,SimG (Z5 X (Q04 X.N tg cap) sc cl C s0 H0 ex) tg ga) (Y:∀ cl C s0 H0 ex,SimE (Z5 X (Q04 X.N tg cap) sc cl C s0 H0 ex) E0 elt me) (U:∀ cl C s0 H0 ex,SimTs (Z5 X (Q04 X.N tg cap) sc cl C s0 H0 ex) ifs mt):SimS X E (.Assign [.Name x px] (.ListComp elt [⟨tg,iter,ifs,0⟩] sc cpos) pos) (Qt i (W2 (J3 cap ga mi mt me))):=
 Q12 cap _ i O q hi hg Y U hf z hx J rfl rfl Z.h hs I
end
structure AtS (K:PySem.W.Frag) (mg:Str->Option aA) (name:Str) (st:aL) (ps:List Str) (f:aB) (fd:aQ):Prop where
 F:Fun K name name st f fd
 m:mg name=some (.ref f)
 b:Binds K fd ps []
theorem Qs5 {name:Str} {st:aL} {ps:List Str} {f:aB} {oc:aA} {U J:Option aB} {O:Array (Option aA)} {kV z I q ct:aA} (X:K.In h) (G:h.Ns aU mg)
  (a:PySem.W.nsIn K aU name=some (some (.ref f))) (l:K.lookup f=some ⟨oc,U,.func (PySem.W.fnOf name name (Zq st) (Jm st) (Q7 st) .none kV z I J q ct),O⟩) (c:PySem.W.codeIn K q name=true) (k:PySem.W.keepIn K (.ref f)=true)
  (b:∀ (kV z I:aA) (J:Option aB) (q ct:aA) (us:List aA),us.length=ps.length->bindArgs (PySem.W.fnOf name name (Zq st) (Jm st) (Q7 st) .none kV z I J q ct) ⟨us,[]⟩=pure (ps.zip us)) :
  AtS K mg name st ps f (PySem.W.fnOf name name (Zq st) (Jm st) (Q7 st) .none kV z I J q ct):=
 have F:=Qhd (st:=st) l c k
 ⟨F,PySem.W.mg_of X G a,F.binds b⟩
theorem AtS.def {w:aJ} {base:Heap} {name:Str} (a:AtS K mg name st ps f fd) (q:ps.length=n) (G:FnOk P w K mg base (CXD P w) k f fd ps (spF mg n F)):DefS P w K mg base k name n F:=
 ⟨f,fd,ps,G,a.m,a.F.kp,a.b,q⟩
def FL (K:PySem.W.Frag) (x ql:Str) (s:aL) (f:aB):Prop:=∃ (oc:aA) (od:Option aB) (kV dc pm:aA) (an:Option aB) (cd ct:aA) (sl:Array (Option aA)),K.lookup f=some ⟨oc,od,.func (PySem.W.fnOf x ql (Zq s) (Jm s) (Q7 s) .none kV dc pm an cd ct),sl⟩/\PySem.W.codeIn K cd ql=true/\PySem.W.keepIn K (.ref f)=true
theorem FL.fn {q:Str} (h:FL K x q s f):∃ fd,Fun K x q s f fd:=let ⟨_,_,_,_,_,_,_,_,_,l,c,k⟩:=h; ⟨_,Qhd l c k⟩
def FA (K:PySem.W.Frag) (x:Str) (s:aL) (f:aB):Prop:=PySem.W.nsIn K aU x=some (some (.ref f))/\FL K x x s f
theorem FA.mk {J I:Option aB} {O:Array (Option aA)} {kV z q cd ct:aA} (a:PySem.W.nsIn K aU x=some (some (.ref f))) (l:K.lookup f=some ⟨oc,J,.func (PySem.W.fnOf x x (Zq s) (Jm s) (Q7 s) .none kV z q I cd ct),O⟩) (c:PySem.W.codeIn K cd x=true) (k:PySem.W.keepIn K (.ref f)=true):FA K x s f:=⟨a,_,_,_,_,_,_,_,_,_,l,c,k⟩
theorem ln1 {l:List α} (h:l.length=1):∃ a,l=[a]:=match l,h with | [_],_=>⟨_,rfl⟩
theorem ln2 {l:List α} (h:l.length=2):∃ a b,l=[a,b]:=match l,h with | [_,_],_=>⟨_,_,rfl⟩
theorem ln3 {l:List α} (h:l.length=3):∃ a b c,l=[a,b,c]:=match l,h with | [_,_,_],_=>⟨_,_,_,rfl⟩
theorem ln4 {l:List α} (h:l.length=4):∃ a b c d,l=[a,b,c,d]:=match l,h with | [_,_,_,_],_=>⟨_,_,_,_,rfl⟩
theorem ln5 {l:List α} (h:l.length=5):∃ a b c d e,l=[a,b,c,d,e]:=match l,h with | [_,_,_,_,_],_=>⟨_,_,_,_,_,rfl⟩
theorem ln6 {l:List α} (h:l.length=6):∃ a b c d e f,l=[a,b,c,d,e,f]:=match l,h with | [_,_,_,_,_,_],_=>⟨_,_,_,_,_,_,rfl⟩
theorem ln7 {l:List α} (h:l.length=7):∃ a b c d e f g,l=[a,b,c,d,e,f,g]:=match l,h with | [_,_,_,_,_,_,_],_=>⟨_,_,_,_,_,_,_,rfl⟩
theorem FL.bd {I:Str} {ps:List Str} (h:FL K x I s f)
  (b:∀ (kV q J:aA) (O:Option aB) (z ct:aA) (us:List aA),us.length=ps.length->bindArgs (PySem.W.fnOf x I (Zq s) (Jm s) (Q7 s) .none kV q J O z ct) ⟨us,[]⟩=pure (ps.zip us)):∃ fd,Fun K x I s f fd/\Binds K fd ps []:=
 let ⟨_,F⟩:=h.fn
 ⟨_,F,F.binds b⟩
theorem Zy {name:Str} (ps:List Str) (X:K.In h) (G:h.Ns aU mg) (a:FA K name st f)
  (b:∀ (kV z J:aA) (O:Option aB) (I ct:aA) (us:List aA),us.length=ps.length->bindArgs (PySem.W.fnOf name name (Zq st) (Jm st) (Q7 st) .none kV z J O I ct) ⟨us,[]⟩=pure (ps.zip us):=by
   intro _ _ _ _ _ _ us q
   first | (obtain ⟨_,rfl⟩:=ln1 q; rfl) | (obtain ⟨_,_,rfl⟩:=ln2 q; rfl) | (obtain ⟨_,_,_,rfl⟩:=ln3 q; rfl) | (obtain ⟨_,_,_,_,rfl⟩:=ln4 q; rfl) | (obtain ⟨_,_,_,_,_,rfl⟩:=ln5 q; rfl) | (obtain ⟨_,_,_,_,_,_,rfl⟩:=ln6 q; rfl) | (obtain ⟨_,_,_,_,_,_,_,rfl⟩:=ln7 q; rfl)):∃ fd,AtS K mg name st ps f fd:=
 let ⟨a,l⟩:=a
 let ⟨_,F,B⟩:=l.bd b
 ⟨_,F,PySem.W.mg_of X G a,B⟩
theorem AtS.d {name:Str} (a:AtS K mg name st ps f fd) (P:aK) (w:aJ) (base:Heap) (q:ps.length=n) (G:FnOk P w K mg base (CXD P w) k f fd ps (spF mg n F)):DefS P w K mg base k name n F:=a.def q G
def noL (K:PySem.W.Frag):Bool:=K.all fun p=>match p.2.data with
 | .seq _ _=>(match p.2.cls with
  | .type n=>!(n == ("list" : Str))
  | _=>true)
 | _=>true
theorem Q96 (h:K.lookup a=some o):(a,o)∈K:=by
 induction K with
 | nil=>cases h
 | cons p K q=>
  obtain ⟨b,u⟩:=p;rw [List.lookup_cons] at h;cases e:a == b with
  | true=>
   rw [e] at h;have:a=b:=by simpa using e
   subst this;cases h;exact E7
  | false=>
   rw [e] at h;exact O4 _ (q h)
theorem Qqx {its:Array aA} (z:noL K=true) (h:K.lookup a=some o) (q:o.cls=.type "list") (hd:o.data=.seq its n):False:=by
 have:=F0.mp z _ (Q96 h);simp [q,hd] at this
theorem Q3e {H:Hp} {ρ:Tk}:∀ ns:List Int,RepL H ρ (ns.map .int) (ns.map V.int)
 | []=>rfl
 | n :: ns=>⟨_,_,rfl,rfl,Q3e ns⟩
theorem Qjm (H:Hp):Rel H Tk.nil []:=⟨rfl,List.nodup_nil,fun a h=>(by cases h),fun a h=>(by cases h),fun i a c h=>(by simp [Tk.nil] at h)⟩
def Q49 (K:PySem.W.Frag):Sp:=fun vs H Q _=>∃ (a:aB) (ns:List Int),vs=[.ref a]/\SqL K H a (ns.map V.int)/\ns.length<=63/\∀ H',Q (.bl true) H'
theorem Qm4 {w:aJ} {base:Heap} {CX:CXT} {FL:FN} (J:noL K=true) (F:FnOk P w K mg base CX k f fd ps (spF mg 1 FL)) (q:∀ ns:List Int,ns.length<=63->∃ st',FL [.fro (ns.map .int)] []=.ok (.bl true) st'):FnOk P w K mg base CX k f fd ps (Q49 K):=F.imp fun vs H Q E ⟨a,ns,e,Z,Y,O⟩=>by
 subst e;obtain ⟨st',U⟩:=q ns Y;have I:Rd H a (.lst (ns.map V.int)):=by
  rcases Z with h | ⟨o,its,n,h1,h2,h3,z,_⟩
  ·exact h
  ·exact (Qqx J h1 h2 z).elim
 refine ⟨rfl,Tk.nil,[],[.fro (ns.map .int)],Qjm H,⟨_,_,rfl,⟨a,_,rfl,I,Tk.not_nil a,Q3e ns⟩,rfl⟩,?_⟩;rw [U];intro H' ρ' x R v r;have e:v=.bl true:=r;subst e;exact O H'
theorem Qhw {w:aJ} {H:Hp} {s:aC} {e:aA} {s':aC} (h:CXD P w [] H s (fun _ _ _=>False) e s'):False:=by
 obtain ⟨_,_,_,_,_,_,_,_,_,z⟩:=h;exact z
theorem walkS {l:PySem.W.OpenLaw} {q:aK} {I:List Str} {Z:(Str->Option aA)->Heap->Prop} {U:aJ->Heap->Prop} {d:DefRec} {K:Params->PySem.W.Frag} (Y:l.most=some 63) (hr:Room k callerA) (J:d.params.defaults=[])
  (hY:∀ (w:aJ) (h:Heap),U w h->(K w.params).In h)
  (F:∀ (w:aJ) (mg:Str->Option aA) (O:aB) (h:Heap),(K w.params).In h->h.Ns aU mg->mg d.name=some (.ref O) ->
   ∃ fd:aQ,(∀ (s:aC) (u:aA),BindsTo s fd ⟨[u],[]⟩ [("script",u)])/\∀ base:Heap,(K w.params).In base->base.Ns aU mg->FnOk l.prog w (K w.params) mg base (CXD l.prog w) k O fd ["script"] (Q49 (K w.params))) :
  PySem.W.WalkO q I Z U l.row.toRowW d [] (fun f vs=>PySem.call f vs):=
 L2.walk_of (n:=63) (k:=k) (x := "script") (CX:=fun w=>CXD l.prog w) (sp:=fun w=>Q49 (K w.params)) Y (by decide) J hr hY F (fun _ _ a ns hl _ hS=>⟨a,ns,rfl,hS,hl,fun _=>rfl⟩) fun _ _ _ _ _ z=>Qhw z
end Sm
namespace Lw
open PySem PySem.Spec L2 Sm
variable {f:aB} {fd:aQ} {b:Bool} {n L nl k D B h N:Nat} {S st S1 S2 A:Q0} {ns:List Int} {c mt:MT} {x v p:PV} {Γ:Gam} {r:SR} {m me mo mh:ME} {mr:ML} {ps xs l:List PV} {ga:GA} {mi:MI} {a:Int} {ss ws:List Str} {α:Type} {cs:List Nat} {ks:List HK} {ls:List (Int × Str)}
def top (i:Nat):aL:=PySem.Challenge.pw_lendwharf_k67_whole_sent_again_and_falle.main.body.getD i (.Pass ⟨0,0,0,0⟩)
abbrev qw:aL:=top 7
abbrev Uz:aL:=top 8
abbrev W9:aL:=top 9
abbrev ye:aL:=top 10
abbrev Xp:aL:=top 18
abbrev Z2:aL:=top 19
abbrev yf:aL:=top 20
abbrev Xs:aL:=top 21
abbrev X0:aL:=top 22
abbrev Xn:aL:=top 23
abbrev U7:aL:=top 24
abbrev Xr:aL:=top 25
abbrev U8:aL:=top 26
abbrev Y6:aL:=top 27
abbrev Vp:aL:=top 28
abbrev Q15:aL:=top 31
abbrev V5:aL:=top 32
abbrev Wa:aL:=top 33
abbrev Q14:aL:=top 34
abbrev Q4e:aL:=top 35
abbrev Xq:aL:=top 37
abbrev Vn:aL:=top 38
abbrev V4:aL:=top 39
abbrev Q4f:aL:=top 40
abbrev Wb:aL:=top 42
abbrev Vr:aL:=top 43
abbrev Ub:aL:=top 44
abbrev Zg:aL:=top 45
abbrev U9:aL:=top 46
abbrev V6:aL:=top 47
abbrev Vq:aL:=top 50
abbrev Ua:aL:=top 51
abbrev jg:aL:=top 52
structure Txt (K:PySem.W.Frag) (mg:Str->Option aA):Prop where
 b_all:mg "all" = none
 b_bool:mg "bool" = none
 b_dict:mg "dict" = none
 b_enumerate:mg "enumerate" = none
 b_int:mg "int" = none
 b_isinstance:mg "isinstance" = none
 b_len:mg "len" = none
 b_list:mg "list" = none
 b_min:mg "min" = none
 b_range:mg "range" = none
 b_reversed:mg "reversed" = none
 b_set:mg "set" = none
 b_sorted:mg "sorted" = none
 b_str:mg "str" = none
 b_tuple:mg "tuple" = none
 c_MOST_SIGNS_OF_WORD:∃ t,mg "MOST_SIGNS_OF_WORD" = some (.int 8 t)
 c_MOST_STOCK:∃ t,mg "MOST_STOCK" = some (.int 20 t)
 c_MOST_STARTS:∃ t,mg "MOST_STARTS" = some (.int 4 t)
 c_MOST_RULES:∃ t,mg "MOST_RULES" = some (.int 60 t)
 c_MOST_USE_AT_ONCE:∃ t,mg "MOST_USE_AT_ONCE" = some (.int 9 t)
 c_MOST_LETTERS_OF_RULE:∃ t,mg "MOST_LETTERS_OF_RULE" = some (.int 8 t)
 c_MOST_STANDS:∃ t,mg "MOST_STANDS" = some (.int 2000 t)
 u_EVENTS_WITHOUT_LETTER:TupG K mg "EVENTS_WITHOUT_LETTER" ["go", "fall"]
local macro_rules|`(tactic|fail "m")=>do let a:=(("Jb Qf J7 Jh Vy Q8j Wn Qen Qe6 Qtd Qp3 Yj Qd8 Vi Qhh free_rule Qhg Qpm Qpk Qc8 Qn4 Qeq Qpj Qep Qc7 Q65 Qjd Qpi Qph Qpg Qjc Q8h Qem Qpf Qpe Qpd Qc6 Qpc Qtc Qek Q64 Qpb Qpa qv Q4c Qef Xm Qa8 Qj6 W8 Qp9 Qp8 Qp7 Qec Qj4 Qp6 Qj3 Qj2 Qe9 Q60 Qiy Qe8 Qtb Qe7 Qp4 Qe5 Qe4 Qp2 Qbz Qp1 Kk Qiu Qt9 Qp0".splitOn " ").map λn=>Lean.mkIdent (.mkSimple n)).toArray;`(tactic|with_reducible first $[|apply $a]* | refine Uq (T := "dict") (o:=j9) ?_ ?_ ?_ ?_ ?_ ?_ ?_ ?_ ?_ | refine Uq (T := "list") (o:=j8) ?_ ?_ ?_ ?_ ?_ ?_ ?_ ?_ ?_ | refine Uq (T := "tuple") (o:=Y8) ?_ ?_ ?_ ?_ ?_ ?_ ?_ ?_ ?_ | apply Qer | apply Qed | apply SimW.t)
local macro_rules|`(tactic|fail "o")=>do let a:=(("Qrz Qhx Qry Qmk Q7t Qrx Q2e Qqk Qke Qu3 Qu2 Qu1 Qqj Qfy Qtz Qqh Qty Qqg Qqf Qnd Qqe Qfx Qck Qqd Qqc".splitOn " ").map λn=>Lean.mkIdent (.mkSimple n)).toArray;`(tactic|first | (with_reducible first $[|apply $a]*))
local macro_rules | `(tactic| fail "r")=>`(tactic| first | rfl | assumption | decide | exact .inl rfl | exact .inr rfl | exact .inr (.inl rfl) | exact .inr (.inr rfl) | exact fun _=>rfl | exact fun _ _=>rfl | exact fun _ _ _=>rfl | exact ⟨by kernel_rfl⟩ | exact Q91 _ | exact Room.mono ‹_› (by decide) | exact Xv | exact Kt | exact PassesOwn.leaving | exact FnScope.nd ‹_› | exact Quh (by kernel_rfl) | exact Qac ‹_› | exact Room.units ‹_› | exact Qf6 | with_unfolding_all rfl)
local macro_rules | `(tactic| fail "s")=>`(tactic| first | (with_reducible first | exact PySem.boot_len | exact Qic | exact Qdm | exact Qdk | exact Qib | exact qc | exact Qia | exact Qi9 | exact Q80 | exact Qi8 | exact ja) | rfl | (fail "m" <;> fail "s") | (fail "o" <;> fail "r") | ((first | apply Qc0 | apply ss_compTA | apply yb) <;> fail "s") | fail "r" | (intro _ _ _ _ _; fail "s"))
local macro_rules | `(tactic| fail "k")=>`(tactic| (refine Qmc ‹_› ‹_› rfl rfl rfl ?_; fail "j"))
local macro_rules | `(tactic| fail "K")=>`(tactic| (refine Q7g ‹_› ‹_› rfl rfl rfl ?_; fail "j"))
local macro_rules | `(tactic| fail "j")=>`(tactic| (intros; rcases ‹Txt _ _› with ⟨_,_,_,_,_,_,_,_,_,_,_,_,_,_,_,⟨_,_⟩,⟨_,_⟩,⟨_,_⟩,⟨_,_⟩,⟨_,_⟩,⟨_,_⟩,⟨_,_⟩,_⟩; show SimB _ _ (_ :: _) _; fail "s"))
local macro_rules | `(tactic| fail "c")=>`(tactic| exact ⟨rfl,rfl,rfl,by decide +kernel,rfl,by decide +kernel,by decide +kernel⟩)
variable {P:aK} {K:PySem.W.Frag} {mg:Str->Option aA} {base:Heap}
section
variable {w:aJ}
def qy:MS:=(J1 (yx (Q94 "int" (Q2 0)) (Qr2 (Q94 "bool" (Q2 0)))))
def Wm:FN:=Jd qy 1
theorem Q6q (F:Fun K "is_whole" "is_whole" qw f fd) (T:Txt K mg)   : FnOk P w K mg base (CXD P w) 1 f fd ["thing"] (spF mg 1 Wm):=by
 have:FnScope ["thing"] ["thing"] (Q7 qw):=by fail "c"
 delta Wm qy
 fail "k"
def X6:MS:=(J1 (yx (Q8 1 Wm (Q1 (Q2 0) Q4)) (X9 (oI fun a b=>.bl (decide (a<=b))) (oI fun a b=>.bl (decide (a<=b))) (Q2 1) (Q2 0) (Q2 2))))
def Qy:FN:=Jd X6 3
theorem Q2x (F:Fun K "is_between" "is_between" Uz f fd) (T:Txt K mg)  (q:DefS P w K mg base 1 "is_whole" 1 Wm):FnOk P w K mg base (CXD P w) 2 f fd ["thing", "least", "most"] (spF mg 3 Qy):=by
 have:FnScope ["thing", "least", "most"] ["thing", "least", "most"] (Q7 Uz):=by fail "c"
 delta Qy X6
 fail "k"
def Zm:MS:=(J1 (yx (Q94 "tuple" (Q2 0)) (X9 (oI fun a b=>.bl (decide (a<=b))) (oI fun a b=>.bl (decide (a<=b))) (Q2 1) (Qu Zj (Q1 (Q2 0) Q4)) (Q2 2))))
def Qg:FN:=Jd Zm 3
theorem jp (F:Fun K "is_sized_tuple" "is_sized_tuple" W9 f fd) (T:Txt K mg)   : FnOk P w K mg base (CXD P w) 1 f fd ["thing", "least", "most"] (spF mg 3 Qg):=by
 have:FnScope ["thing", "least", "most"] ["thing", "least", "most"] (Q7 W9):=by fail "c"
 delta Qg Zm
 fail "k"
def U1:ME:=(X9 Qcu Qcu (mC (.str "a")) (Q2 0) (mC (.str "z")))
def yq : MS := (Qc (Jn (Q08 (Vk (toB (Q94 "str" (Q2 0)))) (Vk (toB (X9 (oI fun a b => .bl (decide (a <= b))) (oI fun a b => .bl (decide (a <= b))) (mC (.int 1)) (Qu Zj (Q1 (Q2 0) Q4)) (mC (.int 8)))))) (J1 (mC (.bl false))) J2)
  (J1 (Qu (zt fun ns=>.bl (ns.all id)) (Q1 (W2 (J3 [none] (Qe 0) (Qaq (Q2 0)) Zs U1)) Q4))))
def Zr:FN:=Jd yq 1
theorem Q8x (F:Fun K "is_word" "is_word" ye f fd) (T:Txt K mg)   : FnOk P w K mg base (CXD P w) 1 f fd ["thing"] (spF mg 1 Zr):=by
 have:FnScope ["thing"] ["thing"] (Q7 ye):=by fail "c"
 delta Zr yq U1
 fail "k"
def K1 : MS := (Qc (Jn (Q08 (Vk (toB (Q8 3 Qg (Q1 (Q2 1) (Q1 (mC (.int 2)) (Q1 (mC (.int 2)) Q4)))))) (Vk (toB (Q8 3 Qy (Q1 (mOp oIx (Q2 1) (mC (.int 0))) (Q1 (mC (.int 0)) (Q1 (mOp (oI fun a b => .int (a - b)) (Q2 0) (mC (.int 1))) Q4))))))) (J1 (mC (.bl false))) J2)
  (J1 (yx (Q8 1 Zr (Q1 (mOp oIx (Q2 1) (mC (.int 1))) Q4)) (Q4y true ["go", "fall"] (mOp oIx (Q2 1) (mC (.int 1)))))))
def Wz:FN:=Jd K1 2
theorem Q4q (F:Fun K "is_letter" "is_letter" Xp f fd) (T:Txt K mg)  (q:DefS P w K mg base 1 "is_sized_tuple" 3 Qg) (z:DefS P w K mg base 2 "is_between" 3 Qy) (I:DefS P w K mg base 1 "is_word" 1 Zr):FnOk P w K mg base (CXD P w) 3 f fd ["n", "thing"] (spF mg 2 Wz):=by
 have:FnScope ["n", "thing"] ["n", "thing"] (Q7 Xp):=by fail "c"
 delta Wz K1
 fail "k"
def Yc:ME:=(Q8 2 Wz (Q1 (Q2 1) (Q1 (Q2 0) Q4)))
def Z4:MS:=(J1 (yx (Q8 3 Qg (Q1 (Q2 1) (Q1 (mC (.int 0)) (Q1 (mC (.int 8)) Q4)))) (Qu (zt fun ns=>.bl (ns.all id)) (Q1 (W2 (J3 [none,some 0] (Qe 0) (Wf (Q2 1)) Zs Yc)) Q4))))
def J5:FN:=Jd Z4 2
theorem X5 (F:Fun K "are_letters_of_rule" "are_letters_of_rule" Z2 f fd) (T:Txt K mg)  (q:DefS P w K mg base 1 "is_sized_tuple" 3 Qg) (z:DefS P w K mg base 3 "is_letter" 2 Wz):FnOk P w K mg base (CXD P w) 4 f fd ["n", "thing"] (spF mg 2 J5):=by
 have:FnScope ["n", "thing"] ["n", "thing"] (Q7 Z2):=by fail "c"
 delta J5 Z4 Yc
 fail "k"
def Q00:ME:=(Q8 1 Zr (Q1 (Q2 0) Q4))
def yr : MS := (Qc (Jn (Q08 (Vk (toB (Q8 3 Qg (Q1 (Q2 1) (Q1 (mC (.int 6)) (Q1 (mC (.int 6)) Q4)))))) (Vk (toB (Q8 3 Qy (Q1 (mOp oIx (Q2 1) (mC (.int 0))) (Q1 (mC (.int 0)) (Q1 (mOp (oI fun a b => .int (a - b)) (Q2 0) (mC (.int 1))) Q4))))))) (J1 (mC (.bl false))) J2)
  (Qc (Jn (Vk (toB (Qu (zt fun ns=>.bl (ns.all id)) (Q1 (W2 (J3 [none] (Qe 0) (Wf (mSl (Q2 1) (Zt (mC (.int 1))) (Zt (mC (.int 4))))) Zs Q00)) Q4)))) (J1 (mC (.bl false))) J2)
  (J1 (yx (Q8 3 Qy (Q1 (mOp oIx (Q2 1) (mC (.int 4))) (Q1 (mC (.int 0)) (Q1 (mC (.int 9)) Q4)))) (Q8 2 J5 (Q1 (Q2 0) (Q1 (mOp oIx (Q2 1) (mC (.int 5))) Q4)))))))
def Uw:FN:=Jd yr 2
theorem Q8y (F:Fun K "is_rule" "is_rule" yf f fd) (T:Txt K mg)  (z:DefS P w K mg base 1 "is_sized_tuple" 3 Qg) (I:DefS P w K mg base 2 "is_between" 3 Qy) (J:DefS P w K mg base 1 "is_word" 1 Zr) (q:DefS P w K mg base 4 "are_letters_of_rule" 2 J5):FnOk P w K mg base (CXD P w) 5 f fd ["n", "thing"] (spF mg 2 Uw):=by
 have:FnScope ["n", "thing"] ["n", "thing"] (Q7 yf):=by fail "c"
 delta Uw yr Q00
 fail "k"
def qp:ME:=(Q8 2 Uw (Q1 (Q2 1) (Q1 (Q2 0) Q4)))
def K4 : MS := (Qc (Jn (Q08 (Vk (toB (Q8 3 Qg (Q1 (Q2 1) (Q1 (mC (.int 0)) (Q1 (mC (.int 60)) Q4)))))) (Vk (toB (Qu (zt fun ns => .bl (ns.all id)) (Q1 (W2 (J3 [none, some 0] (Qe 0) (Wf (Q2 1)) Zs qp)) Q4))))) (J1 (mC (.bl false))) J2)
  (J1 (mOp oEq (z8 (Q2 1)) (Qu Zj (Q1 (Q2 1) Q4)))))
def V1:FN:=Jd K4 2
theorem Q4t (F:Fun K "are_rules" "are_rules" Xs f fd) (T:Txt K mg)  (q:DefS P w K mg base 1 "is_sized_tuple" 3 Qg) (z:DefS P w K mg base 5 "is_rule" 2 Uw):FnOk P w K mg base (CXD P w) 6 f fd ["n", "thing"] (spF mg 2 V1):=by
 have:FnScope ["n", "thing"] ["n", "thing"] (Q7 Xs):=by fail "c"
 delta V1 K4 qp
 fail "k"
def Kg:ME:=(Q8 1 Zr (Q1 (Q2 0) Q4))
def X7:MS:=(J1 (yx (Q8 3 Qg (Q1 (Q2 0) (Q1 (mC (.int 1)) (Q1 (mC (.int 4)) Q4)))) (Qu (zt fun ns=>.bl (ns.all id)) (Q1 (W2 (J3 [none] (Qe 0) (Wf (Q2 0)) Zs Kg)) Q4))))
def W1:FN:=Jd X7 1
theorem Q2y (F:Fun K "are_starts" "are_starts" X0 f fd) (T:Txt K mg)  (q:DefS P w K mg base 1 "is_sized_tuple" 3 Qg) (z:DefS P w K mg base 1 "is_word" 1 Zr):FnOk P w K mg base (CXD P w) 2 f fd ["thing"] (spF mg 1 W1):=by
 have:FnScope ["thing"] ["thing"] (Q7 X0):=by fail "c"
 delta W1 X7 Kg
 fail "k"
def K0 : MS := (Qc (Jn (Q08 (Vk (toB (Q8 3 Qg (Q1 (Q2 0) (Q1 (mC (.int 3)) (Q1 (mC (.int 3)) Q4)))))) (Vk (toB (Q8 3 Qy (Q1 (mOp oIx (Q2 0) (mC (.int 0))) (Q1 (mC (.int 0)) (Q1 (mC (.int 20)) Q4))))))) (J1 (mC (.bl false))) J2)
  (J1 (yx (Q8 1 W1 (Q1 (mOp oIx (Q2 0) (mC (.int 1))) Q4)) (Q8 2 V1 (Q1 (Qu Zj (Q1 (mOp oIx (Q2 0) (mC (.int 1))) Q4)) (Q1 (mOp oIx (Q2 0) (mC (.int 2))) Q4))))))
def Wy:FN:=Jd K0 1
theorem Q4p (F:Fun K "is_manner" "is_manner" Xn f fd) (T:Txt K mg)  (q:DefS P w K mg base 1 "is_sized_tuple" 3 Qg) (z:DefS P w K mg base 2 "is_between" 3 Qy) (I:DefS P w K mg base 2 "are_starts" 1 W1) (J:DefS P w K mg base 6 "are_rules" 2 V1):FnOk P w K mg base (CXD P w) 7 f fd ["thing"] (spF mg 1 Wy):=by
 have:FnScope ["thing"] ["thing"] (Q7 Xn):=by fail "c"
 delta Wy K0
 fail "k"
def Wq:MS:=(Jn (Vk (toB (Q8 1 Wy (Q1 (Q2 0) Q4)))) (Q1v "NoManner" (mC (.str "this is no manner"))) J2)
def Je:FN:=Jd Wq 1
theorem Q1i (F:Fun K "need_manner" "need_manner" U7 f fd) (T:Txt K mg) (q:∃ C,mg "NoManner" = some (.ref C)/\PySem.W.excIn K C Q2k "ValueError.__new__" = true) (z:DefS P w K mg base 7 "is_manner" 1 Wy):FnOk P w K mg base (CXD P w) 8 f fd ["manner"] (spF mg 1 Je):=by
 obtain ⟨_,_,_⟩:=q;have:FnScope ["manner"] ["manner"] (Q7 U7):=by fail "c"
 delta Je Wq
 fail "k"
def K2:MS:=(J1 (Jx (Q1 (mOp oIx (Q2 0) (mC (.int 1))) (Q1 (Jx Q4) (Q1 (mC (.int 0)) Q4)))))
def Jf:FN:=Jd K2 1
theorem Q4s (F:Fun K "beginning" "beginning" Xr f fd) (T:Txt K mg)   : FnOk P w K mg base (CXD P w) 1 f fd ["manner"] (spF mg 1 Jf):=by
 have:FnScope ["manner"] ["manner"] (Q7 Xr):=by fail "c"
 delta Jf K2
 fail "k"
def Wr : MS := (Qc (Jn (toB (mOp oNe (mOp oIx (mOp oIx (Q2 1) (mC (.int 0))) (mOp oIx (Q2 0) (mC (.int 0)))) (mOp oIx (Q2 0) (mC (.int 1))))) (J1 (mC (.bl false))) J2)
  (J1 (mOr (Q4y false ["go", "fall"] (mOp oIx (Q2 0) (mC (.int 2)))) (mOp Qqw (Jx (Q1 (mOp oIx (Q2 0) (mC (.int 0))) (Q1 (mOp oIx (Q2 0) (mC (.int 2))) Q4))) (mOp oIx (Q2 1) (mC (.int 1)))))))
def Zz:FN:=Jd Wr 2
theorem Q1j (F:Fun K "may_be_done" "may_be_done" U8 f fd) (T:Txt K mg)   : FnOk P w K mg base (CXD P w) 1 f fd ["rule", "stand"] (spF mg 2 Zz):=by
 have:FnScope ["rule", "stand"] ["rule", "stand"] (Q7 U8):=by fail "c"
 delta Zz Wr
 fail "k"
def Zi:ME:=(Q2 0)
def Zf:MT:=(toB (Q8 2 Zz (Q1 (Q2 1) (Q1 (Q2 2) Q4))))
def Y7:MS:=(J1 (qh (J3 [none,none,some 1] (Q28 (Yq (Qe 0) (Yq (Qe 1) Q29))) (Q73 (Q1 (mOp oIx (Q2 0) (mC (.int 2))) Q4)) Zf Zi)))
def Qh:FN:=Yd Y7 2
theorem qg (F:Fun K "numbers_that_may" "numbers_that_may" Y6 f fd) (T:Txt K mg)  (q:DefS P w K mg base 1 "may_be_done" 2 Zz):FnOk P w K mg base (CXD P w) 2 f fd ["manner", "stand"] (spF mg 2 Qh):=by
 have:FnScope ["manner", "stand"] ["manner", "stand"] (Q7 Y6):=by fail "c"
 delta Qh Y7 Zf Zi
 fail "K"
def Yn : MS := (Qc (Qt 2 (mOp Ji (mOp Ji (mSl (mOp oIx (Q2 1) (mC (.int 0))) Jk (Zt (mOp oIx (Q2 0) (mC (.int 0))))) (Jx (Q1 (mOp oIx (Q2 0) (mC (.int 3))) Q4))) (mSl (mOp oIx (Q2 1) (mC (.int 0))) (Zt (mOp Ji (mOp oIx (Q2 0) (mC (.int 0))) (mC (.int 1)))) Jk)))
  (J1 (Jx (Q1 (Q2 2) (Q1 (Qu Y8 (Q1 (Ku (mOp Ji (mOp oIx (Q2 1) (mC (.int 1))) (mOp oIx (Q2 0) (mC (.int 5))))) Q4)) (Q1 (mOp Ji (mOp oIx (Q2 1) (mC (.int 2))) (mOp oIx (Q2 0) (mC (.int 4)))) Q4))))))
def Qn:FN:=Jd Yn 3
theorem Q0c (F:Fun K "stand_behind" "stand_behind" Vp f fd) (T:Txt K mg)   : FnOk P w K mg base (CXD P w) 1 f fd ["rule", "stand"] (spF mg 2 Qn):=by
 have:FnScope ["rule", "stand", "states"] ["rule", "stand"] (Q7 Vp):=by fail "c"
 delta Qn Yn
 fail "k"
def jb : MS := (Qc (Xf (mBM Jc (Q2 2) (Q1 (mOp oIx (X8 (Q2 0) (Q2 3)) (mC (.int 0))) Q4)))
  (Qt 3 (mOp oIx (X8 (Q2 0) (Q2 3)) (mC (.int 1)))))
def qu:MT:=(toB (mOp Xy (X8 (Q2 0) (Q2 3)) (mC .non)))
def Q1t : MS := (Qc (Qt 2 (qh (K6 Q4)))
  (Qc (Qt 3 (Q2 1))
  (Qc (J6 qu jb 100000)
  (J1 (W2 (Qr5 (Q2 2)))))))
def W0:FN:=Yd Q1t 4
theorem Qcr (F:Fun K "run_to" "run_to" Q15 f fd) (T:Txt K mg)   : FnOk P w K mg base (CXD P w) 1 f fd ["found", "stand"] (spF mg 2 W0):=by
 have:FnScope ["found", "stand", "run", "at"] ["found", "stand"] (Q7 Q15):=by fail "c"
 delta W0 Q1t qu jb
 fail "K"
def Jr:MS:=(Jn (toB (mOp (oI fun a b=>.bl (decide (b < a))) (mOp Ji (mOp oIx (Q2 2) (mC (.int 2))) (mOp oIx (mOp oIx (mOp oIx (Q2 0) (mC (.int 2))) (Q2 3)) (mC (.int 4)))) (mOp oIx (Q2 0) (mC (.int 0))))) (J1 (Jx (Q1 (Q2 3) (Q1 (Q2 2) Q4)))) J2)
def Js:MS:=(Ka (Qe 3) (Wf (Q8 2 Qh (Q1 (Q2 0) (Q1 (Q2 2) Q4)))) Jr)
def Y2 : MS := (Qc (Ka (Qe 2) (Wf (Q2 1)) Js)
  (J1 (mC .non)))
def Jp:FN:=Yd Y2 4
theorem yk (F:Fun K "breaking_step" "breaking_step" V5 f fd) (T:Txt K mg)  (q:DefS P w K mg base 2 "numbers_that_may" 2 Qh):FnOk P w K mg base (CXD P w) 3 f fd ["manner", "stands"] (spF mg 2 Jp):=by
 have:FnScope ["manner", "stands", "stand", "number"] ["manner", "stands"] (Q7 V5):=by fail "c"
 delta Jp Y2 Js Jr
 fail "K"
def Y9 : MS := (Qc (Qt 6 (Q8 2 Qn (Q1 (mOp oIx (mOp oIx (Q2 0) (mC (.int 2))) (Q2 5)) (Q1 (Q2 4) Q4))))
  (Jn (toB (mOp (Q2z true) (Q2 6) (Q2 1))) (Qc (yw (Q2 1) (Q2 6) (Jx (Q1 (Q2 5) (Q1 (Q2 4) Q4))))
  (Qc (Xf (mBM Jc (Q2 3) (Q1 (Q2 6) Q4)))
  (Jn (toB (mOp (oI fun a b=>.bl (decide (b < a))) (Qu Q7y (Q1 (Q2 1) Q4)) (mC (.int 2000)))) (Q1v "TooMany" (mC (.str "more stands than are walked through"))) J2))) J2))
def Ya:MS:=(Ka (Qe 5) (Wf (Q8 2 Qh (Q1 (Q2 0) (Q1 (Q2 4) Q4)))) Y9)
def We : MS := (Qc (Qt 3 (qh (K6 Q4)))
  (Qc (Ka (Qe 4) (Wf (Q2 2)) Ya)
  (J1 (Q2 3))))
def Jw:FN:=Yd We 7
theorem jq (F:Fun K "further_stands" "further_stands" Wa f fd) (T:Txt K mg) (z:∃ C,mg "TooMany" = some (.ref C)/\PySem.W.excIn K C Q2k "ValueError.__new__" = true) (q:DefS P w K mg base 2 "numbers_that_may" 2 Qh) (I:DefS P w K mg base 1 "stand_behind" 2 Qn):FnOk P w K mg base (CXD P w) 3 f fd ["manner", "found", "stands"] (spF mg 3 Jw):=by
 obtain ⟨_,_,_⟩:=z;have:FnScope ["manner", "found", "stands", "further", "stand", "number", "after"] ["manner", "found", "stands"] (Q7 Wa):=by fail "c"
 delta Jw We Ya Y9
 fail "K"
def Wi : MS := (Qc (Qt 3 (Q8 2 Jp (Q1 (Q2 0) (Q1 (Q2 2) Q4))))
  (Qc (Jn (toB (mOp Xy (Q2 3) (mC .non))) (J1 (Jx (Q1 (Q2 1) (Q1 (qh (Q3j (Q8 2 W0 (Q1 (Q2 1) (Q1 (mOp oIx (Q2 3) (mC (.int 1))) Q4))) (yt (Q1 (mOp oIx (Q2 3) (mC (.int 0))) Q4)))) Q4)))) J2)
  (Qt 2 (Q8 3 Jw (Q1 (Q2 0) (Q1 (Q2 1) (Q1 (Q2 2) Q4)))))))
def Ze:MT:=(toB (mOp (oI fun a b=>.bl (decide (b < a))) (Qu Zj (Q1 (Q2 2) Q4)) (mC (.int 0))))
def jy : MS := (Qc (Qt 1 (Kv (Q8 1 Jf (Q1 (Q2 0) Q4)) (mC .non)))
  (Qc (Qt 2 (yt (Q1 (Q8 1 Jf (Q1 (Q2 0) Q4)) Q4)))
  (Qc (J6 Ze Wi 100000)
  (J1 (Jx (Q1 (Q2 1) (Q1 (mC .non) Q4)))))))
def Vv:FN:=Yd jy 4
theorem Qcq (F:Fun K "walked" "walked" Q14 f fd) (T:Txt K mg)  (I:DefS P w K mg base 1 "beginning" 1 Jf) (z:DefS P w K mg base 3 "breaking_step" 2 Jp) (J:DefS P w K mg base 1 "run_to" 2 W0) (q:DefS P w K mg base 3 "further_stands" 3 Jw):FnOk P w K mg base (CXD P w) 4 f fd ["manner"] (spF mg 1 Vv):=by
 have:FnScope ["manner", "found", "fresh", "step"] ["manner"] (Q7 Q14):=by fail "c"
 delta Vv jy Ze Wi
 fail "K"
def Q0p : MS := (Qc (Xf (Q8 1 Je (Q1 (Q2 0) Q4)))
  (Qc (Qt 1 (Q8 1 Vv (Q1 (Q2 0) Q4)))
  (Qc (Jn (toB (mOp Xy (mOp oIx (Q2 1) (mC (.int 1))) (mC .non))) (J1 (Jx (Q1 (mC (.str "breaks")) (Q1 (mOp oIx (Q2 1) (mC (.int 1))) Q4)))) J2)
  (J1 (Jx (Q1 (mC (.str "keeps")) (Q1 (qh (Q0q (mOp oIx (Q2 1) (mC (.int 0))))) Q4)))))))
def zx:FN:=Yd Q0p 2
theorem Qg2 (F:Fun K "tried" "tried" Q4e f fd) (T:Txt K mg)  (q:DefS P w K mg base 8 "need_manner" 1 Je) (z:DefS P w K mg base 4 "walked" 1 Vv):FnOk P w K mg base (CXD P w) 9 f fd ["manner"] (spF mg 1 zx):=by
 have:FnScope ["manner", "walk"] ["manner"] (Q7 Q4e):=by fail "c"
 delta zx Q0p
 fail "K"
def Uh:ME:=(mOp oIx (mOp oIx (Q2 1) (mC (.int 2))) (Q2 0))
def Ug:ME:=(Q2 0)
def U6:MT:=(toB (Q4y true ["go", "fall"] (mOp oIx (Q2 0) (mC (.int 2)))))
def Uf:ME:=(mOp oEq (Q8 2 Qn (Q1 (Q2 0) (Q1 (Q2 1) Q4))) (Q2 1))
def U0 : MS := (Qc (Qt 2 (W2 (J3 [none, some 0] (Qe 0) (Wf (Q8 2 Qh (Q1 (Q2 0) (Q1 (Q2 1) Q4)))) Zs Uh)))
  (Qc (Qt 3 (W2 (J3 [none] (Qe 0) (Wf (Q2 2)) U6 Ug)))
  (J1 (Qu (zt fun ns=>.bl (ns.all id)) (Q1 (W2 (J3 [none,some 1] (Qe 0) (Wf (Q2 3)) Zs Uf)) Q4)))))
def V0:FN:=Jd U0 4
theorem Q4r (F:Fun K "does_rest" "does_rest" Xq f fd) (T:Txt K mg)  (q:DefS P w K mg base 2 "numbers_that_may" 2 Qh) (z:DefS P w K mg base 1 "stand_behind" 2 Qn):FnOk P w K mg base (CXD P w) 3 f fd ["manner", "stand"] (spF mg 2 V0):=by
 have:FnScope ["manner", "stand", "rules", "by_letters"] ["manner", "stand"] (Q7 Xq):=by fail "c"
 delta V0 U0 Uf U6 Ug Uh
 fail "k"
def Wh:ME:=(Jx (Q1 (Q2 0) (Q1 (qh (K6 Q4)) Q4)))
def Wj:MS:=(Xf (mBM Jc (X8 (Q2 2) (Q8 2 Qn (Q1 (mOp oIx (mOp oIx (Q2 0) (mC (.int 2))) (Q2 4)) (Q1 (Q2 3) Q4)))) (Q1 (Q2 3) Q4)))
def Wk:MS:=(Ka (Qe 4) (Wf (Q8 2 Qh (Q1 (Q2 0) (Q1 (Q2 3) Q4)))) Wj)
def Vu : MS := (Qc (Qt 2 (Qu j9 (Q1 (W2 (J3 [none] (Qe 0) (Wf (Q2 1)) Zs Wh)) Q4)))
  (Qc (Ka (Qe 3) (Wf (Q2 1)) Wk)
  (J1 (Q2 2))))
def Zk:FN:=Yd Vu 5
theorem Q0b (F:Fun K "stands_ahead" "stands_ahead" Vn f fd) (T:Txt K mg)  (q:DefS P w K mg base 2 "numbers_that_may" 2 Qh) (z:DefS P w K mg base 1 "stand_behind" 2 Qn):FnOk P w K mg base (CXD P w) 3 f fd ["manner", "stands"] (spF mg 2 Zk):=by
 have:FnScope ["manner", "stands", "ahead", "stand", "number"] ["manner", "stands"] (Q7 Vn):=by fail "c"
 delta Zk Vu Wk Wj Wh
 fail "K"
def Ys:ME:=(Q2 0)
def Yh:MT:=(toB (Q8 2 V0 (Q1 (Q2 1) (Q1 (Q2 0) Q4))))
def Yr:ME:=(Jx (Q1 (Q2 0) (Q1 (mC (.int 0)) Q4)))
def Yv : MS := (Jn (toB (mOp (Q2z true) (Q2 7) (Q2 4))) (Qc (yw (Q2 4) (Q2 7) (mOp Ji (X8 (Q2 4) (Q2 6)) (mC (.int 1))))
  (Xf (mBM Jc (Q2 5) (Q1 (Q2 7) Q4)))) J2)
def Yw:MS:=(Ka (Qe 7) (Wf (X8 (Q2 2) (Q2 6))) Yv)
def Yx : MS := (Qc (Qt 5 (qh (K6 Q4)))
  (Qc (Ka (Qe 6) (Wf (Q2 3)) Yw)
  (Qt 3 (Q2 5))))
def Yg:MT:=(toB (mOp (oI fun a b=>.bl (decide (b < a))) (Qu Zj (Q1 (Q2 3) Q4)) (mC (.int 0))))
def V8 : MS := (Qc (Qt 2 (Q8 2 Zk (Q1 (Q2 0) (Q1 (Q2 1) Q4))))
  (Qc (Qt 3 (W2 (J3 [none,some 0] (Qe 0) (Wf (Q2 1)) Yh Ys)))
  (Qc (Qt 4 (Qu j9 (Q1 (W2 (J3 [none] (Qe 0) (Wf (Q2 3)) Zs Yr)) Q4)))
  (Qc (J6 Yg Yx 100000)
  (J1 (Q2 4))))))
def Z0:FN:=Yd V8 8
theorem yj (F:Fun K "steps_to_rest" "steps_to_rest" V4 f fd) (T:Txt K mg)  (q:DefS P w K mg base 3 "stands_ahead" 2 Zk) (z:DefS P w K mg base 3 "does_rest" 2 V0):FnOk P w K mg base (CXD P w) 4 f fd ["manner", "stands"] (spF mg 2 Z0):=by
 have:FnScope ["manner", "stands", "ahead", "fresh", "fewest", "further", "stand", "earlier"] ["manner", "stands"] (Q7 V4):=by fail "c"
 delta Z0 V8 Yg Yx Yw Yv Yr Yh Ys
 fail "K"
def Vj:MS:=(Jn (toB (mOp (Q2z true) (Q2 4) (Q2 3))) (J1 (Jx (Q1 (mC (.str "restless")) (Q1 (Q8 2 W0 (Q1 (mOp oIx (Q2 1) (mC (.int 0))) (Q1 (Q2 4) Q4))) Q4)))) J2)
def jz : MS := (Qc (Xf (Q8 1 Je (Q1 (Q2 0) Q4)))
  (Qc (Qt 1 (Q8 1 Vv (Q1 (Q2 0) Q4)))
  (Qc (Jn (toB (mOp Xy (mOp oIx (Q2 1) (mC (.int 1))) (mC .non))) (Q1v "NoStand" (mC (.str "the manner does not keep its stock"))) J2)
  (Qc (Qt 2 (Qu j8 (Q1 (mOp oIx (Q2 1) (mC (.int 0))) Q4)))
  (Qc (Qt 3 (Q8 2 Z0 (Q1 (Q2 0) (Q1 (Q2 2) Q4))))
  (Qc (Ka (Qe 4) (Wf (Q2 2)) Vj)
  (J1 (Jx (Q1 (mC (.str "rests")) (Q1 (Q2 3) Q4))))))))))
def zy:FN:=Yd jz 5
theorem Qg3 (F:Fun K "rests" "rests" Q4f f fd) (T:Txt K mg) (q:∃ C,mg "NoStand" = some (.ref C)/\PySem.W.excIn K C Q2k "ValueError.__new__" = true) (I:DefS P w K mg base 8 "need_manner" 1 Je) (O:DefS P w K mg base 4 "walked" 1 Vv) (z:DefS P w K mg base 4 "steps_to_rest" 2 Z0) (J:DefS P w K mg base 1 "run_to" 2 W0):FnOk P w K mg base (CXD P w) 9 f fd ["manner"] (spF mg 1 zy):=by
 obtain ⟨_,_,_⟩:=q;have:FnScope ["manner", "walk", "stands", "fewest", "stand"] ["manner"] (Q7 Q4f):=by fail "c"
 delta zy jz Vj
 fail "K"
def Zn : MS := (Qc (Jn (toB (mOp (oI fun a b => .bl (decide (b <= a))) (Q2 0) (mOp Q1p (mC (.int 10)) (mC (.int 18))))) (J1 (Q2 0)) J2)
  (Qc (Qt 2 (mOp js (mOp Ji (mOp Ji (mOp Xx (mOp js (Q2 0) (mC (.int 998244353))) (mC (.int 51749))) (mOp Xx (Q2 1) (mC (.int 7919)))) (mC (.int 3))) (mC (.int 1000000007))))
  (Qc (Qt 3 (mOp js (mOp Ji (mOp Ji (mOp Ji (mOp Xx (Q2 2) (Q2 2)) (mOp Xx (mC (.int 32749)) (Q2 2))) (Q2 1)) (mC (.int 5))) (mC (.int 2147483629))))
  (Qc (Qt 4 (mOp js (mOp Ji (mOp Ji (mOp Xx (Q2 3) (Q2 3)) (mOp Xx (mC (.int 61)) (Q2 1))) (Q2 2)) (mC (.int 2147483587))))
  (J1 (mOp Ji (mOp Xx (Q2 3) (mC (.int 2147483587))) (Q2 4)))))))
def J0:FN:=Jd Zn 5
theorem jr (F:Fun K "_law_e_stirred" "_law_e_stirred" Wb f fd) (T:Txt K mg)   : FnOk P w K mg base (CXD P w) 1 f fd ["cell", "place"] (spF mg 2 J0):=by
 have:FnScope ["cell", "place", "first", "second", "third"] ["cell", "place"] (Q7 Wb):=by fail "c"
 delta J0 Zn
 fail "k"
def Zh : MS := (Qc (Jn (toB (mOp oLt (mOp oIx (Q2 0) (mC (.int 2))) (Q2 1))) (Qc (Qt 2 (mOp oIx (Q2 0) (mC (.int 1))))
  (Qc (Qt 3 (Q2 2))
  (Qc (Jn (toB (mOp oLt (Q2 2) (Qu Zj (Q1 (mOp oIx (Q2 0) (mC (.int 0))) Q4)))) (Qt 3 (mOp oIx (mOp oIx (Q2 0) (mC (.int 0))) (Q2 2))) (Jn (toB (mOp (oI fun a b=>.bl (decide (b < a))) (Qu Zj (Q1 (mOp oIx (Q2 0) (mC (.int 0))) Q4)) (mC (.int 0)))) (Qt 3 (mOp Ji (mOp js (mOp oIx (mOp oIx (Q2 0) (mC (.int 0))) (mOp js (mOp Xx (Q2 2) (mC (.int 3))) (Qu Zj (Q1 (mOp oIx (Q2 0) (mC (.int 0))) Q4)))) (mOp Q1p (mC (.int 10)) (mC (.int 9)))) (mOp Xx (Q2 2) (mC (.int 1000000))))) J2))
  (Qc (qz (Q2 0) (mC (.int 1)) (mOp Ji (Q2 2) (mC (.int 1))))
  (qz (Q2 0) (mC (.int 2)) (Q8 2 J0 (Q1 (Q2 3) (Q1 (Q2 2) Q4)))))))) J2)
  (Qc (Qt 4 (mOp js (mOp oIx (Q2 0) (mC (.int 2))) (Q2 1)))
  (Qc (qz (Q2 0) (mC (.int 2)) (mOp Qak (mOp oIx (Q2 0) (mC (.int 2))) (Q2 1)))
  (J1 (Q2 4)))))
def Q9:FN:=Jd Zh 5
theorem Q0e (F:Fun K "_law_e_digit" "_law_e_digit" Vr f fd) (T:Txt K mg)  (q:DefS P w K mg base 1 "_law_e_stirred" 2 J0):FnOk P w K mg base (CXD P w) 2 f fd ["tape", "many"] (spF mg 2 Q9):=by
 have:FnScope ["tape", "many", "place", "cell", "digit"] ["tape", "many"] (Q7 Vr):=by fail "c"
 delta Q9 Zh
 fail "k"
def Y3:ME:=(mOp Qkn (mC (.str "abgoflz")) (Q8 2 Q9 (Q1 (Q2 1) (Q1 (mC (.int 7)) Q4))))
def Wu : MS := (Qc (Jn (toB (mOp oEq (Q8 2 Q9 (Q1 (Q2 0) (Q1 (mC (.int 4)) Q4))) (mC (.int 0)))) (J1 (mOp oIx (yt (Q1 (mC (.str "go")) (Q1 (mC (.str "fall")) (Q1 (mC (.str "gone")) (Q1 (mC (.str "fallen")) (Q1 (mC (.str "gofall")) (Q1 (mC (.str "a")) (Q1 (mC (.str "aa")) (Q1 (mC (.str "abcdefgh")) Q4))))))))) (Q8 2 Q9 (Q1 (Q2 0) (Q1 (mC (.int 8)) Q4))))) J2)
  (J1 (Qas (mC (.str "")) (Q1 (W2 (J3 [none,some 0] (Qe 0) (Za (Q1 (mOp Ji (mC (.int 1)) (Q8 2 Q9 (Q1 (Q2 0) (Q1 (mC (.int 4)) Q4)))) Q4)) Zs Y3)) Q4))))
def Ju:FN:=Yd Wu 1
theorem Q1n (F:Fun K "_law_e_name" "_law_e_name" Ub f fd) (T:Txt K mg)  (q:DefS P w K mg base 2 "_law_e_digit" 2 Q9):FnOk P w K mg base (CXD P w) 3 f fd ["tape"] (spF mg 1 Ju):=by
 have:FnScope ["tape"] ["tape"] (Q7 Ub):=by fail "c"
 delta Ju Wu Y3
 fail "K"
def J8 : MS := (Qc (Qt 1 (Q8 1 Ju (Q1 (Q2 0) Q4)))
  (Qc (Jn (Q08 (toB (mOp oEq (Q2 1) (mC (.str "go")))) (toB (mOp oEq (Q2 1) (mC (.str "fall"))))) (J1 (mOp Ji (Q2 1) (mC (.str "a")))) J2)
  (J1 (Q2 1))))
def J9:FN:=Yd J8 2
theorem Xi (F:Fun K "_law_e_letter_name" "_law_e_letter_name" Zg f fd) (T:Txt K mg)  (q:DefS P w K mg base 3 "_law_e_name" 1 Ju):FnOk P w K mg base (CXD P w) 4 f fd ["tape"] (spF mg 1 J9):=by
 have:FnScope ["tape", "name"] ["tape"] (Q7 Zg):=by fail "c"
 delta J9 J8
 fail "K"
def Vd:MS:=(Xf (mBM Jc (Q2 9) (Q1 (Jx (Q1 (Q8 2 Q9 (Q1 (Q2 0) (Q1 (Q2 1) Q4))) (Q1 (mOp oIx (Q2 3) (Q8 2 Q9 (Q1 (Q2 0) (Q1 (Qu Zj (Q1 (Q2 3) Q4)) Q4)))) Q4))) Q4)))
def Uc : MS := (Qc (Qt 4 (Q8 2 Q9 (Q1 (Q2 0) (Q1 (Q2 1) Q4))))
  (Qc (Qt 5 (mOp oIx (Q2 2) (Q8 2 Q9 (Q1 (Q2 0) (Q1 (Qu Zj (Q1 (Q2 2) Q4)) Q4)))))
  (Qc (Qt 6 (mOp oIx (yt (Q1 (mC (.str "go")) (Q1 (mC (.str "go")) (Q1 (mC (.str "fall")) (Q1 (mOp oIx (Q2 3) (Q8 2 Q9 (Q1 (Q2 0) (Q1 (Qu Zj (Q1 (Q2 3) Q4)) Q4)))) Q4))))) (Q8 2 Q9 (Q1 (Q2 0) (Q1 (mC (.int 4)) Q4)))))
  (Qc (Qt 7 (mOp oIx (Q2 2) (Q8 2 Q9 (Q1 (Q2 0) (Q1 (Qu Zj (Q1 (Q2 2) Q4)) Q4)))))
  (Qc (Qt 8 (mOp oIx (yt (Q1 (mC (.int 0)) (Q1 (mC (.int 0)) (Q1 (mC (.int 0)) (Q1 (mC (.int 1)) (Q1 (mC (.int 1)) (Q1 (mC (.int 2)) (Q1 (mC (.int 9)) Q4)))))))) (Q8 2 Q9 (Q1 (Q2 0) (Q1 (mC (.int 7)) Q4)))))
  (Qc (Qt 9 (qh (K6 Q4)))
  (Qc (Ka (Qe 10) (Za (Q1 (mOp oIx (yt (Q1 (mC (.int 0)) (Q1 (mC (.int 0)) (Q1 (mC (.int 1)) (Q1 (mC (.int 2)) (Q1 (mC (.int 3)) (Q1 (mC (.int 8)) Q4))))))) (Q8 2 Q9 (Q1 (Q2 0) (Q1 (mC (.int 6)) Q4)))) Q4)) Vd)
  (J1 (Jx (Q1 (Q2 4) (Q1 (Q2 5) (Q1 (Q2 6) (Q1 (Q2 7) (Q1 (Q2 8) (Q1 (Qu Y8 (Q1 (Q2 9) Q4)) Q4)))))))))))))))
def Y0:FN:=Yd Uc 11
theorem Q1k (F:Fun K "_law_e_rule" "_law_e_rule" U9 f fd) (T:Txt K mg)  (q:DefS P w K mg base 2 "_law_e_digit" 2 Q9):FnOk P w K mg base (CXD P w) 3 f fd ["tape", "n", "states", "names"] (spF mg 4 Y0):=by
 have:FnScope ["tape", "n", "states", "names", "house", "state", "event", "onward", "use", "letters", "turn"] ["tape", "n", "states", "names"] (Q7 U9):=by fail "c"
 delta Y0 Uc Vd
 fail "K"
def zj:ME:=(Q8 1 Ju (Q1 (Q2 1) Q4))
def zi:ME:=(Q8 1 J9 (Q1 (Q2 1) Q4))
def U3:MS:=(yw (Q2 8) (Q8 4 Y0 (Q1 (Q2 0) (Q1 (Q2 2) (Q1 (Q2 6) (Q1 (Q2 7) Q4))))) (mC (.bl true)))
def U2:ME:=(mOp oIx (Q2 1) (Q8 2 Q9 (Q1 (Q2 2) (Q1 (Q2 3) Q4))))
def V9 : MS := (Qc (Qt 1 (yt (Q1 (Jx (Q1 (mC (.int 2)) (Q1 (mC (.int 3)) (Q1 (mC (.int 2)) (Q1 (mC (.int 4)) Q4))))) (Q1 (Jx (Q1 (mC (.int 3)) (Q1 (mC (.int 2)) (Q1 (mC (.int 1)) (Q1 (mC (.int 4)) Q4))))) (Q1 (Jx (Q1 (mC (.int 1)) (Q1 (mC (.int 2)) (Q1 (mC (.int 1)) (Q1 (mC (.int 21)) Q4))))) (Q1 (Jx (Q1 (mC (.int 2)) (Q1 (mC (.int 2)) (Q1 (mC (.int 1)) (Q1 (mC (.int 21)) Q4))))) (Q1 (Jx (Q1 (mC (.int 4)) (Q1 (mC (.int 2)) (Q1 (mC (.int 1)) (Q1 (mC (.int 2)) Q4))))) Q4)))))))
  (Qc (Qgh (Q28 (Yq (Qe 2) (Yq (Qe 3) (Yq (Qe 4) (Yq (Qe 5) Q29))))) (mOp oIx (Q2 1) (Q8 2 Q9 (Q1 (Q2 0) (Q1 (mC (.int 5)) Q4)))))
  (Qc (Qt 6 (W2 (J3 [none,some 0] (Qe 0) (Za (Q1 (Q2 3) Q4)) Zs zj)))
  (Qc (Qt 7 (W2 (J3 [none,some 0] (Qe 0) (Za (Q1 (Q2 4) Q4)) Zs zi)))
  (Qc (Qt 8 Qge)
  (Qc (Ka (Qe 9) (Za (Q1 (Q8 2 Q9 (Q1 (Q2 0) (Q1 (mC (.int 10)) Q4))) Q4)) U3)
  (Qc (Qt 10 (Qu Y8 (Q1 (W2 (J3 [none,some 6,some 0,some 3] (Qe 0) (Za (Q1 (Q2 2) Q4)) Zs U2)) Q4)))
  (J1 (Jx (Q1 (Q8 2 Q9 (Q1 (Q2 0) (Q1 (Q2 5) Q4))) (Q1 (Q2 10) (Q1 (Qu Y8 (Q1 (Qu j8 (Q1 (Q2 8) Q4)) Q4)) Q4))))))))))))
def Y5:FN:=Yd V9 11
theorem sc__law_e_manner:FnScope ["tape", "sizes", "n", "many", "words", "most", "states", "names", "rules", "turn", "starts"] ["tape"] (Q7 V6):=⟨rfl,rfl,rfl,by decide +kernel,rfl,by decide +kernel,by decide +kernel⟩
theorem ym (F:Fun K "_law_e_manner" "_law_e_manner" V6 f fd) (T:Txt K mg)  (q:DefS P w K mg base 2 "_law_e_digit" 2 Q9) (I:DefS P w K mg base 3 "_law_e_name" 1 Ju) (z:DefS P w K mg base 4 "_law_e_letter_name" 1 J9) (J:DefS P w K mg base 3 "_law_e_rule" 4 Y0):FnOk P w K mg base (CXD P w) 5 f fd ["tape"] (spF mg 1 Y5):=by
 refine Q7g (k:=4) (m:=V9) F sc__law_e_manner rfl rfl rfl fun U A outer s H E O=>?_
 exact (Vy (yb 1 sc__law_e_manner.nd (Qem (Qf (qv (Qf Jh (Qf Jh (Qf Jh (Qf Jh J7))))) (Qf (qv (Qf Jh (Qf Jh (Qf Jh (Qf Jh J7))))) (Qf (qv (Qf Jh (Qf Jh (Qf Jh (Qf Jh J7))))) (Qf (qv (Qf Jh (Qf Jh (Qf Jh (Qf Jh J7))))) (Qf (qv (Qf Jh (Qf Jh (Qf Jh (Qf Jh J7))))) J7)))))))
  (Vy (Qe9 (Qen (Jb 1) (Wn q (O.mono (by decide)) Xv rfl (Qf (Jb 0) (Qf Jh J7)))) (Qef rfl (Xm (Yj (i:=2) sc__law_e_manner.nd) (Xm (Yj (i:=3) sc__law_e_manner.nd) (Xm (Yj (i:=4) sc__law_e_manner.nd) (Xm (Yj (i:=5) sc__law_e_manner.nd) Qa8))))))
  (Vy (by first | exact Q12 [none,some 0] ["turn", "tape"] 6 sc__law_e_manner.nd rfl (W8 rfl T.b_range (Qf (Jb 3) J7)) (fun _ _ _ _ _=>(Yj (i:=0) (show (["turn", "tape"]:List Str).Nodup by decide +kernel))) (fun _ _ _ _ _=>(Wn I (O.mono (by decide)) Kt rfl (Qf (Jb 1) J7))) (fun _ _ _ _ _=>Kk) Vi | exact yb 6 sc__law_e_manner.nd (Q4c (Q0j [none,some 0] ["turn", "tape"] rfl (W8 rfl T.b_range (Qf (Jb 3) J7)) (fun _ _ _ _ _=>(Yj (i:=0) (show (["turn", "tape"]:List Str).Nodup by decide +kernel))) (fun _ _ _ _ _=>(Wn I (O.mono (by decide)) Kt rfl (Qf (Jb 1) J7))) (fun _ _ _ _ _=>Kk) Vi)))
  (Vy (by first | exact Q12 [none,some 0] ["turn", "tape"] 7 sc__law_e_manner.nd rfl (W8 rfl T.b_range (Qf (Jb 4) J7)) (fun _ _ _ _ _=>(Yj (i:=0) (show (["turn", "tape"]:List Str).Nodup by decide +kernel))) (fun _ _ _ _ _=>(Wn z (O.mono (by decide)) Kt rfl (Qf (Jb 1) J7))) (fun _ _ _ _ _=>Kk) Vi | exact yb 7 sc__law_e_manner.nd (Q4c (Q0j [none,some 0] ["turn", "tape"] rfl (W8 rfl T.b_range (Qf (Jb 4) J7)) (fun _ _ _ _ _=>(Yj (i:=0) (show (["turn", "tape"]:List Str).Nodup by decide +kernel))) (fun _ _ _ _ _=>(Wn z (O.mono (by decide)) Kt rfl (Qf (Jb 1) J7))) (fun _ _ _ _ _=>Kk) Vi)))
  (Vy (yb 8 sc__law_e_manner.nd Q65)
  (Vy (Qe8 PassesOwn.leaving rfl (W8 rfl T.b_range (Qf (Wn q (O.mono (by decide)) Xv rfl (Qf (Jb 0) (Qf Jh J7))) J7)) (Yj (i:=9) sc__law_e_manner.nd) (Q8j (Q60 (Qac O) Qn4 (Jb 8) (Wn J (O.mono (by decide)) Xv rfl (Qf (Jb 0) (Qf (Jb 2) (Qf (Jb 6) (Qf (Jb 7) J7))))))))
  (Vy (yb 10 sc__law_e_manner.nd (Uq Q2e rfl T.b_tuple ja (Qf (Q4c (Q0j [none,some 6,some 0,some 3] ["house", "states", "tape", "many"] rfl (W8 rfl T.b_range (Qf (Jb 2) J7)) (fun _ _ _ _ _=>(Yj (i:=0) (show (["house", "states", "tape", "many"]:List Str).Nodup by decide +kernel))) (fun _ _ _ _ _=>(Qen (Jb 1) (Wn q (O.mono (by decide)) Kt rfl (Qf (Jb 2) (Qf (Jb 3) J7))))) (fun _ _ _ _ _=>Kk) Vi)) J7)))
  (Q8j (Qe6 (qv (Qf (Wn q (O.mono (by decide)) Xv rfl (Qf (Jb 0) (Qf (Jb 5) J7))) (Qf (Jb 10) (Qf (Uq Q2e rfl T.b_tuple ja (Qf (Uq (Q7t rfl) rfl T.b_list qc (Qf (Jb 8) J7)) J7)) J7)))))))))))))
def Yp : MS := (Qc (Qt 1 (Q8 1 zx (Q1 (Q2 0) Q4)))
  (Qc (Jn (toB (mOp oEq (mOp oIx (Q2 1) (mC (.int 0))) (mC (.str "breaks")))) (J1 (Qu Zj (Q1 (mOp oIx (Q2 1) (mC (.int 1))) Q4))) J2)
  (Qc (Jn (toB (mOp oNe (mOp oIx (Q2 1) (mC (.int 0))) (mC (.str "keeps")))) (J1 (Qr4 (mC (.int 1)))) J2)
  (J1 (mOp Q1p (mC (.int 10)) (mC (.int 6)))))))
def Qw:FN:=Yd Yp 2
theorem Q0d (F:Fun K "_law_e_steps" "_law_e_steps" Vq f fd) (T:Txt K mg)  (q:DefS P w K mg base 9 "tried" 1 zx):FnOk P w K mg base (CXD P w) 10 f fd ["manner"] (spF mg 1 Qw):=by
 have:FnScope ["manner", "found"] ["manner"] (Q7 Vq):=by fail "c"
 delta Qw Yp
 fail "K"
def Ws : MS := (Qc (Qt 1 (Q8 1 zy (Q1 (Q2 0) Q4)))
  (Qc (Jn (toB (mOp oEq (mOp oIx (Q2 1) (mC (.int 0))) (mC (.str "rests")))) (J1 (mOp oIx (Q2 1) (mC (.int 1)))) J2)
  (J1 (mC .non))))
def Jg:FN:=Yd Ws 2
theorem Q1m (F:Fun K "_law_e_rest" "_law_e_rest" Ua f fd) (T:Txt K mg)  (q:DefS P w K mg base 9 "rests" 1 zy):FnOk P w K mg base (CXD P w) 10 f fd ["manner"] (spF mg 1 Jg):=by
 have:FnScope ["manner", "found"] ["manner"] (Q7 Ua):=by fail "c"
 delta Jg Ws
 fail "K"
def Q5h:ME:=(Q2 0)
def Q46:MT:=(Q08 (toB (mOp oEq (mOp oIx (Q2 0) (mC (.int 2))) (mC (.str "go")))) (toB (mOp oEq (mOp oIx (Q2 0) (mC (.int 2))) (mC (.str "fall")))))
def Q5r : MS := (Qc (Qt 11 (mOp Ji (mOp Ji (mSl (Q2 10) Jk (Zt (mC (.int 4)))) (Jx (Q1 (mC (.int 0)) Q4))) (mSl (Q2 10) (Zt (mC (.int 5))) Jk)))
  (Jn (toB (mOp (oIn true) (Q2 11) (Q2 9))) (Xf (mBM Jc (Q2 9) (Q1 (Q2 11) Q4))) J2))
def Q0u : MS := (Qc (Qgh (Q28 (Yq (Qe 3) (Yq (Qe 4) (Yq (Qe 5) Q29)))) (Q8 1 Y5 (Q1 (Q2 1) Q4)))
  (Qc (Qt 6 (Q8 1 Qw (Q1 (Jx (Q1 (Q2 3) (Q1 (Q2 4) (Q1 (Q2 5) Q4)))) Q4)))
  (Qc (Jn (toB (mOp oLt (Q2 6) (mC (.int 1)))) (J1 (mC (.bl false))) J2)
  (Qc (Qt 7 (Qu Y8 (Q1 (W2 (J3 [none] (Qe 0) (Wf (Q2 5)) Q46 Q5h)) Q4)))
  (Qc (Jn (toB (mOp oLt (Q8 1 Qw (Q1 (Jx (Q1 (Q2 3) (Q1 (Q2 4) (Q1 (Q2 7) Q4)))) Q4)) (Q2 6))) (J1 (mC (.bl false))) J2)
  (Qc (Qt 8 (Q8 2 Q9 (Q1 (Q2 1) (Q1 (mOp Ji (Qu Zj (Q1 (Q2 5) Q4)) (mC (.int 1))) Q4))))
  (Qc (Jn (toB (mOp oLt (Q8 1 Qw (Q1 (Jx (Q1 (Q2 3) (Q1 (Q2 4) (Q1 (mOp Ji (mSl (Q2 5) Jk (Zt (Q2 8))) (mSl (Q2 5) (Zt (mOp Ji (Q2 8) (mC (.int 1)))) Jk)) Q4)))) Q4)) (Q2 6))) (J1 (mC (.bl false))) J2)
  (Qc (Qt 9 (qh (K6 Q4)))
  (Qc (Ka (Qe 10) (Wf (Q2 5)) Q5r)
  (Qc (Jn (toB (mOp oNe (Q8 1 Qw (Q1 (Jx (Q1 (Q2 3) (Q1 (Q2 4) (Q1 (Qu Y8 (Q1 (Q2 9) Q4)) Q4)))) Q4)) (mOp Q1p (mC (.int 10)) (mC (.int 6))))) (J1 (mC (.bl false))) J2)
  (Qc (Jn (toB (mOp oLt (Q8 1 Qw (Q1 (Jx (Q1 (Qu Qi3 (Q1 (mC (.int 20)) (Q1 (mOp Ji (Q2 3) (mC (.int 1))) Q4))) (Q1 (Q2 4) (Q1 (Q2 5) Q4)))) Q4)) (Q2 6))) (J1 (mC (.bl false))) J2)
  (Qc (Qt 12 (mOp Ji (mSl (Q2 5) (Zt (Q2 8)) Jk) (mSl (Q2 5) Jk (Zt (Q2 8)))))
  (Qc (Jn (toB (mOp oNe (Q8 1 Qw (Q1 (Jx (Q1 (Q2 3) (Q1 (Q2 4) (Q1 (Q2 12) Q4)))) Q4)) (Q2 6))) (J1 (mC (.bl false))) J2)
  (Jn (toB (mOp oEq (Q2 6) (mOp Q1p (mC (.int 10)) (mC (.int 6))))) (Jn (toB (mOp Qct (Q8 1 Jg (Q1 (Jx (Q1 (Q2 3) (Q1 (Q2 4) (Q1 (Q2 12) Q4)))) Q4)) (Q8 1 Jg (Q1 (Jx (Q1 (Q2 3) (Q1 (Q2 4) (Q1 (Q2 5) Q4)))) Q4)))) (J1 (mC (.bl false))) J2) J2))))))))))))))
def Qgc : MS := (Qc (Qt 1 (qh (K6 (Q1 (Q2 0) (Q1 (mC (.int 0)) (Q1 (mC (.int 0)) Q4))))))
  (Qc (Ka (Qe 2) (Za (Q1 (mC (.int 2)) Q4)) Q0u)
  (J1 (mC (.bl true)))))
def Qbq:FN:=Jd Qgc 13
theorem Qqu (F:Fun K "law" "law" jg f fd) (T:Txt K mg)  (q:DefS P w K mg base 5 "_law_e_manner" 1 Y5) (z:DefS P w K mg base 10 "_law_e_steps" 1 Qw) (I:DefS P w K mg base 2 "_law_e_digit" 2 Q9) (J:DefS P w K mg base 10 "_law_e_rest" 1 Jg):FnOk P w K mg base (CXD P w) 11 f fd ["script"] (spF mg 1 Qbq):=by
 have:FnScope ["script", "tape", "k", "most", "starts", "rules", "many", "alone", "at", "free", "rule", "free_rule", "turned"] ["script"] (Q7 jg):=by fail "c"
 delta Qbq Qgc Q0u Q5r Q46 Q5h
 fail "k"
end
theorem Q5g (a:Int) {b:Int} (h:0 < b):0<=a % b/\a % b < b:=⟨Int.emod_nonneg a (by omega),Int.emod_lt_of_pos a h⟩
theorem Qui (x:Int) (h:1<=n):∃ k:Nat,k < n/\x % (n:Int)=(k:Int):=by
 have:=Q5g x (b:=(n:Int)) (by omega);exact ⟨(x % (n:Int)).toNat,by omega,by omega⟩
theorem Qiw (c:Int) (p:Nat) (st:Q0):∃ z:Int,J0 [.int c,.int p] st=.ok (.int z) st:=by
 by_cases q:1000000000000000000<=c
 ·refine ⟨c,?_⟩;simp -implicitDefEqProofs [J0,Jd,Zn,q]
 ·obtain ⟨f,I⟩:∃ f,(c % 998244353 * 51749 + p * 7919 + 3) % 1000000007=f:=⟨_,rfl⟩;have U:=Q5g (c % 998244353 * 51749 + p * 7919 + 3) (b:=1000000007) (by decide);rw [I] at U;obtain ⟨g,J⟩:∃ g:Int,(f * f + 32749 * f + p + 5) % 2147483629=g:=⟨_,rfl⟩;have O:=Q5g (f * f + 32749 * f + p + 5) (b:=2147483629) (by decide);rw [J] at O;have Z:-18446744073709551616 < f/\f < 18446744073709551616:=by omega
  have Y:-18446744073709551616 < g/\g < 18446744073709551616:=by omega
  refine ⟨g * 2147483587 + (g * g + 61 * p + f) % 2147483587,?_⟩;simp -implicitDefEqProofs [J0,Jd,Zn,q,I,J,Z,Y]
def TapeAt (S:Q0) (L:Nat) (ns:List Int):Prop:=∃ (p:Nat) (c:Int),S[L]?=some (.lst [.fro (ns.map .int),.int p,.int c])
theorem TapeAt.lt (h:TapeAt S L ns):L < S.length:=let ⟨_,_,e⟩:=h; (O0.mp e).1
theorem Q0z {a b c:PV} (h:S[L]?=some (.lst [a,b,c])):jf S (.ref L) (.int 1) x=some (S.set L (.lst [a,x,c]))/\jf S (.ref L) (.int 2) x=some (S.set L (.lst [a,b,x])):=by
 unfold jf;simp only [h];exact ⟨rfl,rfl⟩
theorem Q45 {a b c:PV} (h:S[L]?=some (.lst [a,b,c])):oIx S (.ref L) (.int 0)=.ok a S/\oIx S (.ref L) (.int 1)=.ok b S/\oIx S (.ref L) (.int 2)=.ok c S:=by
 have q:ListAt S (.ref L) [a,b,c]:=.inr (.inr ⟨L,rfl,h⟩);rw [q.ix,q.ix,q.ix];exact ⟨rfl,rfl,rfl⟩
theorem Qmn (ns:List Int) (p:Nat) {c:PV} (hS:S[L]?=some (.lst [.fro (ns.map .int),.int p,c])) (U a4:Option PV):∃ z:Int,(Jn (toB (mOp oLt (Q2 2) (Qu Zj (Q1 (mOp oIx (Q2 0) (mC (.int 0))) Q4)))) (Qt 3 (mOp oIx (mOp oIx (Q2 0) (mC (.int 0))) (Q2 2))) (Jn (toB (mOp (oI fun a b=>.bl (decide (b < a))) (Qu Zj (Q1 (mOp oIx (Q2 0) (mC (.int 0))) Q4)) (mC (.int 0)))) (Qt 3 (mOp Ji (mOp js (mOp oIx (mOp oIx (Q2 0) (mC (.int 0))) (mOp js (mOp Xx (Q2 2) (mC (.int 3))) (Qu Zj (Q1 (mOp oIx (Q2 0) (mC (.int 0))) Q4)))) (mOp Q1p (mC (.int 10)) (mC (.int 9)))) (mOp Xx (Q2 2) (mC (.int 1000000))))) J2)) [some (.ref L),U,some (.int p),some (.int p),a4] S=.nx [some (.ref L),U,some (.int p),some (.int z),a4] S:=by
 obtain ⟨J,_,_⟩:=Q45 hS;have I:(ns.map PV.int).length=ns.length:=O1 _
 by_cases q:p < ns.length
 ·have e:atI (ns.map PV.int) (p:Int)=some (.int (ns.getD p 0)):=by rw [Qbi,Sm.atI_get (Q3r q 0)]; rfl
  refine ⟨ns.getD p 0,?_⟩;generalize ns.getD p 0=x at *;generalize ns.length=len at *;generalize ns.map PV.int=O at *;simp -implicitDefEqProofs [J,I,q,e,-xx]
 ·by_cases q2:ns.length=0
  ·refine ⟨p,?_⟩;generalize ns.map PV.int=O at *;rw [q2] at I;have Z:¬ (p:Int) < 0:=by omega
   simp -implicitDefEqProofs [J,I,Z,-xx]
  ·have Y:0 < ns.length:=by omega
   obtain ⟨m,hm,em⟩:=Qui ((p:Int) * 3) Y;have e:atI (ns.map PV.int) (m:Int)=some (.int (ns.getD m 0)):=by rw [Qbi,Sm.atI_get (Q3r hm 0)]; rfl
   refine ⟨ns.getD m 0 % 1000000000 + p * 1000000,?_⟩;have q':¬ (p:Int) < (ns.length:Int):=by omega
   generalize ns.getD m 0=x at *;generalize ns.length=len at *;generalize ns.map PV.int=O at *;simp -implicitDefEqProofs [J,I,q,q',Y,em,e,-xx]
theorem Qrq {st':Q0} (h:st'.length=st.length) (d:Int):fin st (.int d) st'=.ok (.int d) st':=by
 unfold fin
 by_cases q:st <+: st'
 ·rw [bT q];have:st=st':=q.eq_of_length h.symm;rw [<- this,fz]; rfl
 ·rw [bU q]
structure Mv (L:Nat) (S S':Q0):Prop where
 len:S'.length=S.length
 keep:∀ t,t≠L->S'[t]?=S[t]?
theorem Jj (T:TapeAt S L ns) (m:Nat) (h1:1<=m) (hm:m < 1267650600228229401496703205376):∃ (d:Nat) (S':Q0),d < m/\TapeAt S' L ns/\Mv L S S'/\Q9 [.ref L,.int m] S=.ok (.int d) S':=by
 obtain ⟨p,c,hS⟩:=T;have hL:=(O0.mp hS).1;obtain ⟨p1,Z,S1,a2,a3,O,M1,e1⟩:∃ (p1:Nat) (Z:Int) (S1:Q0) (a2 a3:Option PV),S1[L]?=some (.lst [.fro (ns.map .int),.int p1,.int Z])/\Mv L S S1/\(Jn (toB (mOp oLt (mOp oIx (Q2 0) (mC (.int 2))) (Q2 1))) (Qc (Qt 2 (mOp oIx (Q2 0) (mC (.int 1))))
  (Qc (Qt 3 (Q2 2))
  (Qc (Jn (toB (mOp oLt (Q2 2) (Qu Zj (Q1 (mOp oIx (Q2 0) (mC (.int 0))) Q4)))) (Qt 3 (mOp oIx (mOp oIx (Q2 0) (mC (.int 0))) (Q2 2))) (Jn (toB (mOp (oI fun a b=>.bl (decide (b < a))) (Qu Zj (Q1 (mOp oIx (Q2 0) (mC (.int 0))) Q4)) (mC (.int 0)))) (Qt 3 (mOp Ji (mOp js (mOp oIx (mOp oIx (Q2 0) (mC (.int 0))) (mOp js (mOp Xx (Q2 2) (mC (.int 3))) (Qu Zj (Q1 (mOp oIx (Q2 0) (mC (.int 0))) Q4)))) (mOp Q1p (mC (.int 10)) (mC (.int 9)))) (mOp Xx (Q2 2) (mC (.int 1000000))))) J2))
  (Qc (qz (Q2 0) (mC (.int 1)) (mOp Ji (Q2 2) (mC (.int 1))))
  (qz (Q2 0) (mC (.int 2)) (Q8 2 J0 (Q1 (Q2 3) (Q1 (Q2 2) Q4)))))))) J2) [some (.ref L),some (.int m),none,none,none] S=.nx [some (.ref L),some (.int m),a2,a3,none] S1:=by
  obtain ⟨i0,i1,i2⟩:=Q45 hS
  by_cases q:c < (m:Int)
  ·obtain ⟨z,ez⟩:=Qmn ns p hS (some (.int m)) none;obtain ⟨t1,_⟩:=Q0z (x:=.int ((p:Int) + 1)) hS;obtain ⟨S2,I⟩:∃ S2,S.set L (.lst [.fro (ns.map .int),.int ((p:Int) + 1),.int c])=S2:=⟨_,rfl⟩;have h2:S2[L]?=some (.lst [.fro (ns.map .int),.int ((p:Int) + 1),.int c]):=by rw [<- I,F3 hL]
   rw [I] at t1;obtain ⟨y,ey⟩:=Qiw z p S2;obtain ⟨_,t2⟩:=Q0z (x:=.int y) h2;have a1:=(O0.mp h2).1;refine ⟨p + 1,y,S2.set L (.lst [.fro (ns.map .int),.int ((p:Int) + 1),.int y]),some (.int p),some (.int z),?_,⟨?_,fun t U=>?_⟩,?_⟩
   ·rw [F3 a1]; push_cast; rfl
   ·rw [L6,<- I,L6]
   ·rw [F1 (fun u=>U u.symm),<- I,F1 (fun u=>U u.symm)]
   ·have U:(toB (mOp oLt (mOp oIx (Q2 0) (mC (.int 2))) (Q2 1))) [some (.ref L),some (.int m),none,none,none] S=.ok true S:=by
     simp -implicitDefEqProofs [i2,q,-xx]
    have s1:∀ X:MS,(Qc (Qt 2 (mOp oIx (Q2 0) (mC (.int 1)))) (Qc (Qt 3 (Q2 2)) X)) [some (.ref L),some (.int m),none,none,none] S=X [some (.ref L),some (.int m),some (.int p),some (.int p),none] S:=fun X=>by
     simp -implicitDefEqProofs [i1,-xx]
    rw [Q4z,U,Q66,bT rfl,s1,z7,ez];show Qc _ _ _ _=_;simp -implicitDefEqProofs [t1,ey,t2,-Qa9]
  ·refine ⟨p,c,S,none,none,hS,⟨rfl,fun _ _=>rfl⟩,?_⟩;simp -implicitDefEqProofs [i2,q,-xx]
 obtain ⟨_,_,j2⟩:=Q45 O;obtain ⟨d,hd,ed⟩:=Qui Z h1;obtain ⟨_,t2⟩:=Q0z (x:=.int (Z / (m:Int))) O;have a5:=(O0.mp O).1;obtain ⟨Y,J⟩:∃ Y,S1.set L (.lst [.fro (ns.map .int),.int p1,.int (Z / (m:Int))])=Y:=⟨_,rfl⟩;have h3:Y[L]?=some (.lst [.fro (ns.map .int),.int p1,.int (Z / (m:Int))]):=by rw [<- J,F3 a5]
 have M3:Mv L S Y:=⟨by rw [<- J,L6,M1.len],fun t U=>by rw [<- J,F1 (fun u=>U u.symm),M1.keep t U]⟩;rw [J] at t2;refine ⟨d,Y,hd,⟨p1,_,h3⟩,M3,?_⟩;have a4:0 < m:=h1;have a6:(m:Int) < 1267650600228229401496703205376:=by omega
 have step:Zh [some (.ref L),some (.int m),none,none,none] S=.rt (.int d) Y:=by
  unfold Zh;rw [z7,e1];show Qc _ _ _ _=_;simp -implicitDefEqProofs [j2,a4,a6,ed,t2,-xx,-Qa9]
 show Jd Zh 5 _ S=_;unfold Jd;rw [show (([PV.ref L,.int m]:List PV).map some ++ List.replicate (5 - [PV.ref L,.int m].length) none)=[some (.ref L),some (.int m),none,none,none] from rfl,step];exact Qrq M3.len d
theorem Q59 (i:Int) (st:Q0):Wm [.int i] st=.ok (.bl true) st:=by
 simp [Wm,Jd,qy,isI,tyN]
theorem Qmp (x a b:Int) (st:Q0):Qy [.int x,.int a,.int b] st=.ok (.bl (decide (a<=x) && decide (x<=b))) st:=by
 have:=Q59 x st
 by_cases q:a<=x <;> simp [Qy,Jd,X6,this,q]
theorem Q6 {a b:MS} {q:Gam} (h1:a Γ S=.nx q S1) (h2:b q S1=r):Qc a b Γ S=r:=by rw [z7,h1]; exact h2
theorem Qi {i:Nat} (h:m Γ S=.ok v S1):Qt i m Γ S=.nx (Γ.set i (some v)) S1:=by rw [Qkw,h]; rfl
theorem Q5 {F:FN} (h1:mr Γ S=.ok ps S1) (h2:ps.length=n) (q:F ps S1=.ok v S2):Q8 n F mr Γ S=.ok v S2:=by rw [Qd0,h1,Qm,bT h2,q]
theorem Qd {o:OP} {a b:ME} {q:Q0} {y:PV} (h1:a Γ S=.ok x S1) (h2:b Γ S1=.ok y S2) (z:o S2 x y=.ok v q):mOp o a b Γ S=.ok v q:=by rw [Qr1,h1,Qm,h2,Qm,z]
theorem Q3 (h1:m Γ S=.ok p S1) (h2:mr Γ S1=.ok ps S2):Q1 m mr Γ S=.ok (p :: ps) S2:=by rw [Qgf,h1,Qm,h2,Qm]
theorem Zu {o:CF} (h1:mr Γ S=.ok ps S1) (h2:o S1 ps=.ok v S2):Qu o mr Γ S=.ok v S2:=by rw [Qgg,h1,Qm,h2]
theorem Zw {b:MS} {w:Wt} (h1:mi Γ S=.ok (xs,w) S1) (h2:Zc ga b w xs Γ S1=r):Ka ga mi b Γ S=r:=by rw [Qkz,h1]; exact h2
theorem zh {a b:MS} (h1:c Γ S=.ok true S1) (h2:a Γ S1=r):Jn c a b Γ S=r:=by rw [Q4z,h1]; exact h2
theorem Ye {a b:MS} (h1:c Γ S=.ok false S1) (h2:b Γ S1=r):Jn c a b Γ S=r:=by rw [Q4z,h1]; exact h2
theorem Qij {q:Gam} (h1:m Γ S=.ok p S1) (h2:ga p Γ=some q):Qgh ga m Γ S=.nx q S1:=by rw [Qm0,h1]; show (match ga p Γ with | some q=>SR.nx q S1 | none=>.stuck)=_; rw [h2]
theorem Z7 {w:Wt} (h1:m Γ S=.ok p S1) (h2:W3 S1 p=some (xs,w)) (q:xs.length<=1000000):Wf m Γ S=.ok (xs,w) S1:=by rw [Qkx,h1,Qm,h2]; exact bT q
theorem V2 {m:ML} (h:m Γ S=.ok ps S1):W2 m Γ S=.ok (.lst ps) S1:=by rw [Qkt,h,Qm]
theorem Y4 {cap:List (Option Nat)} {ys:List PV} {w:Wt} (h1:mi Γ S=.ok (xs,w) S1) (h2:Jy ga mt me w (Yf cap Γ) xs S1=.ok ys S2):J3 cap ga mi mt me Γ S=.ok ys S2:=by rw [Qcz,h1,Qm,h2]; rfl
theorem U5 {m:ML} (h:m Γ S=.ok ps S1):qh m Γ S=.ok (.ref S1.length) (S1 ++ [.lst ps]):=by rw [Qkv,h,Qm]
theorem V7 {t:MT} (h:t Γ S=.ok b S1):Vk t Γ S=.ok (!b) S1:=by rw [Qe0,h,Qm]
theorem Qj (h:m Γ S=.ok (.bl b) S1):toB m Γ S=.ok b S1:=by rw [Qnu,h]; rfl
theorem xr {f:MF} {q:Q0} (h1:mo Γ S=.ok p S1) (h2:Va S1 p=some xs) (I:mr Γ S1=.ok ps S2) (z:f S2 p ps=.ok v q):Xf (mBM f mo mr) Γ S=.nx Γ q:=by
 rw [Q72,Qr7,h1,Qm];simp only [h2];rw [I,Qm,z,Q66]
theorem Q9j (h:m Γ S=.ok v S1):Xf m Γ S=.nx Γ S1:=by rw [Q72,h]; rfl
theorem Qu4 {a b:MT} (h:a Γ S=.ok true S1):Q08 a b Γ S=.ok true S1:=by rw [Qa4,h]; rfl
theorem Q6n {a b:MT} {r:Res Bool} (h:a Γ S=.ok false S1) (h2:b Γ S1=r):Q08 a b Γ S=r:=by rw [Qa4,h]; exact h2
theorem Vm {a b:MS} (h:a Γ S=.rt v S1):Qc a b Γ S=.rt v S1:=by rw [z7,h]
theorem Z1 (h1:mr Γ S=.ok ps S1) (h2:ps.length<=1000000):Jx mr Γ S=.ok (.tup ps) S1:=by rw [Qku,h1,Qm]; exact bT h2
theorem Qq {m:MS} {q:Q0} (h:m (ps.map some ++ List.replicate (nl - ps.length) none) S=.rt v q):Yd m nl ps S=.ok v q:=by unfold Yd; rw [h]
theorem zq {m:MS} {q:Q0} (h:m (ps.map some ++ List.replicate (nl - ps.length) none) S=.rt v q):Jd m nl ps S=fin S v q:=by unfold Jd; rw [h]
theorem qe (h:S[L]?=some (.lst xs)) (q:xs.length < 1000000) (y:PV):Jc S (.ref L) [y]=.ok .non (S.set L (.lst (xs ++ [y]))):=by
 simp only [Jc,chg,h];rw [bT (show xs.length < lim from q)]
theorem Qs (h:m Γ S=.ok v S1):J1 m Γ S=.rt v S1:=by rw [Qky,h]; rfl
theorem Qhk (S:Q0) {b:Int} (h:a=b):oEq S (.int a) (.int b)=.ok (.bl true) S:=by simp [h]
theorem Qnm (S:Q0) {b:Int} (h:¬ a=b):oEq S (.int a) (.int b)=.ok (.bl false) S:=by simp [h]
theorem Qav (S:Q0) {b:Int} (h:¬ a < b):oLt S (.int a) (.int b)=.ok (.bl false) S:=by
 have:oLt S (.int a) (.int b)=.ok (.bl (decide (a < b))) S:=by simp
 rw [this,bV h]
theorem Qb2 (S:Q0) {b:Int} (h:b < a):(oI fun a b=>.bl (decide (b < a))) S (.int a) (.int b)=.ok (.bl true) S:=by
 show Res.ok (PV.bl (decide (b < a))) S=_; rw [bW h]
theorem Qh7 (S:Q0) {b:Int} (h:¬ b < a):(oI fun a b=>.bl (decide (b < a))) S (.int a) (.int b)=.ok (.bl false) S:=by
 show Res.ok (PV.bl (decide (b < a))) S=_; rw [bV h]
theorem Q85 (S:Q0) (a b:Int):Ji S (.int a) (.int b)=.ok (.int (a + b)) S:=by simp
theorem Qih (h:mr Γ S=.ok ps S1) (q:ps.length<=1000000:=by decide):yt mr Γ S=.ok (.lst ps) S1:=by
 unfold yt;rw [h,Qm];exact bT q
theorem Qnf (S:Q0) (a:Int):oNe S (.int a) (.int a)=.ok (.bl false) S:=by simp
theorem Qtg (q:n<=1000) (h:m Γ S=.ok (.int n) S):Za (Q1 m Q4) Γ S=.ok (Wc 0 n,[]) S:=by
 rw [Q1u,Q3 h (show Q4 Γ S=.ok [] S from rfl),Qm];show (if -(lim:Int)<=(n:Int)/\(n:Int)<=lim then _ else _)=_;rw [bT (by rw [xc]; omega),Int.toNat_natCast]
theorem Qb9 (S:Q0) (a:Str):oEq S (.str a) (.str a)=.ok (.bl true) S:=by simp
theorem Q7j {a b:Str} (S:Q0) (h:¬ a=b):oEq S (.str a) (.str b)=.ok (.bl false) S:=by simp [h]
theorem X1 {body:MS} (h:body (ps.map some ++ List.replicate (nl - ps.length) none) st=.rt (.bl b) st):Jd body nl ps st=.ok (.bl b) st:=by
 unfold Jd; rw [h]; exact Q5f st b
def Qmq (p:PV) (a b:Int):Bool:=match p with
 | .int x=>decide (a<=x) && decide (x<=b)
 | _=>false
def Q62 (c:Nat):Bool:=decide (97<=c) && decide (c<=122)
def Z6 (x:Str):Bool:=decide (1<=(x.length:Int)) && decide ((x.length:Int)<=8) && x.cps.toList.all Q62
def Q5t:PV->Bool
 | .str x=>Z6 x
 | _=>false
def evP:PV->Bool
 | .str x=>Vw ["go", "fall"] x
 | _=>false
def Q98 (n:Int):PV->Bool
 | .tup [a,b]=>Qmq a 0 (n - 1) && (Q5t b && !evP b)
 | _=>false
def Qnj (n:Int) (p:PV):Bool:=match p with
 | .tup xs=>decide ((xs.length:Int)<=8) && xs.all (Q98 n)
 | _=>false
def Ur (n:Int):PV->Bool
 | .tup [a,b,c,d,e,f]=>Qmq a 0 (n - 1) && (Q5t b && (Q5t c && Q5t d)) && (Qmq e 0 9 && Qnj n f)
 | _=>false
theorem Q9d {q:Bool} {x:Str} (h:m Γ S=.ok (.str x) S1):Q4y q ss m Γ S=.ok (.bl (Vw ss x != q)) S1:=by unfold Q4y; rw [h]; rfl
theorem Qid (A:Q0) (bs:List Bool):zt (fun ns=>PV.bl (ns.all id)) A [.lst (bs.map .bl)]=.ok (.bl (bs.all id)) A:=by simp -implicitDefEqProofs
theorem Qs6 {a b:ME} {x:Bool} {r:Res PV} (h:a Γ S=.ok (.bl x) S) (h2:x=true->b Γ S=r) (q:x=false->r=.ok (.bl false) S):yx a b Γ S=r:=by
 rw [Qm1,h,Qm];cases x with
 | true=>exact h2 rfl
 | false=>rw [q rfl]; rfl
theorem Q2n {a b:ME} {r:Res PV} (h:a Γ S=.ok (.bl true) S) (h2:b Γ S=r):yx a b Γ S=r:=Qs6 h (fun _=>h2) (fun e=>nomatch e)
theorem Q83 {g:α->PV} {xs:List α} {cap:List (Option Nat)} (hi:mi Γ S=.ok (xs.map g,[]) S) (h:∀ x∈xs,∃ q,ga (g x) (Yf cap Γ)=some q/\me q S=.ok (.bl true) S):Qu (zt fun ns=>.bl (ns.all id)) (Q1 (W2 (J3 cap ga mi Zs me)) Q4) Γ S=.ok (.bl true) S:=by
 have I:=zm (ga:=ga) (me:=me) (w:=[]) (Γ0:=Yf cap Γ) (st:=S) g (fun _=>PV.bl true) (Qp S) (ys:=xs) h;have z:=Qid S (xs.map fun _=>true);rw [L9,List.all_map,show xs.all (id ∘ fun _=>true)=true from F0.mpr fun _ _=>rfl] at z
 exact Zu (Q3 (V2 (Y4 hi I)) rfl) z
theorem Km {b:Int} (h1:a<=(xs.length:Int)) (h2:(xs.length:Int)<=b) (S:Q0):Qg [.tup xs,.int a,.int b] S=.ok (.bl true) S:=by
 refine X1 ?_;show Zm [some (.tup xs),some (.int a),some (.int b)] S=_;simp -implicitDefEqProofs [Zm,isI,tyN,h1,h2]
theorem Qbd {x b:Int} (h1:a<=x) (h2:x<=b) (S:Q0):Qy [.int x,.int a,.int b] S=.ok (.bl true) S:=by rw [Qmp,bW h1,bW h2]; rfl
theorem Q87 {x:Str} (h:Z6 x=true) (S:Q0):Zr [.str x] S=.ok (.bl true) S:=by
 unfold Z6 at h;simp only [E9,decide_eq_true_eq,F0] at h;obtain ⟨⟨I,O⟩,h3⟩:=h;have q:x.length<=lim:=by rw [xc]; omega
 refine X1 ?_;show yq [some (.str x)] S=_;have z:Zj S [.str x]=.ok (.int x.length) S:=bT q;have Y:Qaq (Q2 0) [some (.str x)] S=.ok (x.cps.toList.map (fun c=>.str ⟨#[c]⟩),[]) S:=bT q;have Z:=Q83 (cap:=[none]) (ga:=Qe 0) (me:=U1) Y fun c J=>⟨_,rfl,by
  have:=h3 c J;unfold Q62 at this;simp only [E9,decide_eq_true_eq] at this;have U:Qcu S (.str "a") (.str ⟨#[c]⟩)=.ok (.bl true) S:=by
   show Res.ok (PV.bl (!decide ([c] < [97]))) S=_;rw [bV (by rw [List.cons_lt_cons_iff]; simp; omega)]; rfl
  have a2:Qcu S (.str ⟨#[c]⟩) (.str "z")=.ok (.bl true) S:=by
   show Res.ok (PV.bl (!decide ([122] < [c]))) S=_;rw [bV (by rw [List.cons_lt_cons_iff]; simp; omega)]; rfl
  simp [Yf,U1,U,a2]⟩
 have h0:Q94 "str" (Q2 0) [some (.str x)] S=.ok (.bl true) S:=rfl;refine Q6 (Ye (Q6n (V7 (b:=true) (Qj h0)) (V7 (b:=true) ?_)) rfl) (Qs Z);simp -implicitDefEqProofs [z,I,O]
theorem Qut {n x:Int} {s:Str} (h0:0<=x) (h1:x < n) (h2:Z6 s=true) (q:Vw ["go", "fall"] s=false) (S:Q0):Wz [.int n,.tup [.int x,.str s]] S=.ok (.bl true) S:=by
 refine X1 ?_;show K1 [some (.int n),some (.tup [.int x,.str s])] S=_;refine Q6 (Ye (Q6n (V7 (b:=true) (Qj (Q5 (n:=3) rfl rfl (Km (by simp) (by simp) S)))) (V7 (b:=true) (Qj (Q5 (n:=3) rfl rfl (Qbd h0 (by omega) S))))) rfl) (Qs (Q2n (Q5 (n:=1) rfl rfl (Q87 h2 S)) ?_));rw [Q9d (x:=s) (S1:=S) rfl,q];rfl
theorem Qm9 {d:Nat} (h:∀ p∈ps,∃ k,Wg d p=some k):∃ ks,Z3 (Wg d) ps=some ks:=by
 induction ps with
 | nil=>exact ⟨[],rfl⟩
 | cons p ps J=>
  obtain ⟨k,I⟩:=h p (by simp);obtain ⟨ks,z⟩:=J fun q O=>h q (O4 _ O)
  exact ⟨k :: ks,by unfold Z3; rw [I,z]⟩
theorem Q2h {b:Int} (h:Qmq p a b=true):∃ x,p=.int x/\a<=x/\x<=b:=by
 cases p with
 | int x=>
  have h:(decide (a<=x) && decide (x<=b))=true:=h;simp at h;exact ⟨x,rfl,h⟩
 | _=>cases h
theorem Kj (h:Q5t p=true):∃ x,p=.str x/\Z6 x=true:=by
 cases p with
 | str x=>exact ⟨x,rfl,h⟩
 | _=>cases h
theorem Q53 {n:Int} (h:Q98 n p=true):∃ x s,p=.tup [.int x,.str s]/\0<=x/\x < n/\Z6 s=true/\Vw ["go", "fall"] s=false:=by
 unfold Q98 at h
 split at h
 ·rename_i a b;rw [E9,E9] at h;obtain ⟨x,rfl,h1,h2⟩:=Q2h h.1;obtain ⟨s,rfl,q⟩:=Kj h.2.1;refine ⟨x,s,rfl,h1,by omega,q,?_⟩;have:(!Vw ["go", "fall"] s)=true:=h.2.2;simpa using this
 ·cases h
theorem Q16 {n:Int} (h:Ur n p=true):∃ x s e t u ls,p=.tup [.int x,.str s,.str e,.str t,.int u,.tup ls]/\0<=x/\x < n/\Z6 s=true/\Z6 e=true/\Z6 t=true/\0<=u/\u<=9/\ls.length<=8/\∀ l∈ls,Q98 n l=true:=by
 unfold Ur at h
 split at h
 ·rename_i a b c d e f;simp only [E9] at h;obtain ⟨⟨h1,h2,Y,q⟩,h5,h6⟩:=h;obtain ⟨x,rfl,z,x2⟩:=Q2h h1;obtain ⟨s,rfl,s1⟩:=Kj h2;obtain ⟨J,rfl,I⟩:=Kj Y;obtain ⟨t,rfl,Z⟩:=Kj q;obtain ⟨u,rfl,U,O⟩:=Q2h h5;unfold Qnj at h6
  split at h6
  ·rename_i ls;simp only [E9,decide_eq_true_eq,F0] at h6;exact ⟨x,s,J,t,u,ls,rfl,z,by omega,s1,I,Z,U,O,by omega,h6.2⟩
  ·cases h6
 ·cases h
theorem Q3d {n:Int} (h:Ur n p=true):∃ k,Ud p=some k:=by
 obtain ⟨x,s,e,t,u,ls,rfl,_,_,_,_,_,_,_,_,I⟩:=Q16 h;obtain ⟨ks,q⟩:=Qm9 (d:=3) (ps:=ls) fun l hm=>by
  obtain ⟨y,z,rfl,_⟩:=Q53 (I l hm);exact ⟨_,rfl⟩
 refine ⟨.tup [.int x,.str s,.str e,.str t,.int u,.tup ks],?_⟩;show (Z3 (Wg 4) _).map HK.tup=_;have J:Wg 4 (.tup ls)=some (.tup ks):=by show (Z3 (Wg 3) ls).map HK.tup=_; rw [q]; rfl
 simp only [Z3,J];rfl
theorem Qm6 {n:Int} (h:xs.all (Ur n)=true):∃ ks,Z3 Ud xs=some ks/\ks.length=xs.length:=by
 induction xs with
 | nil=>exact ⟨[],rfl,rfl⟩
 | cons p ps I=>
  simp only [List.all_cons,E9] at h;obtain ⟨k,z⟩:=Q3d h.1;obtain ⟨ks,q,J⟩:=I h.2;exact ⟨k :: ks,by unfold Z3; rw [z,q],by rw [O9,O9,J]⟩
theorem Qpr {n:Int} (h:Ur n p=true) (S:Q0):Uw [.int n,p] S=.ok (.bl true) S:=by
 obtain ⟨x,s,e,t,u,ls,rfl,x0,x1,s1,e1,t1,u0,Z,l8,Y⟩:=Q16 h;refine X1 ?_;show yr [some (.int n),some (.tup [.int x,.str s,.str e,.str t,.int u,.tup ls])] S=_;have O:J5 [.int n,.tup ls] S=.ok (.bl true) S:=by
  refine X1 ?_;show Z4 [some (.int n),some (.tup ls)] S=_;refine Qs (Q2n (Q5 (n:=3) rfl rfl (Km (by omega) (by omega) S)) (Q83 (xs:=ls) (g:=id) (by rw [List.map_id]; exact Z7 rfl rfl (by omega)) fun p q=>?_))
  obtain ⟨y,z,rfl,I,U,z1,J⟩:=Q53 (Y p q);exact ⟨_,rfl,Q5 (n:=2) rfl rfl (Qut I U z1 J S)⟩
 refine Q6 (Ye (Q6n (V7 (b:=true) (Qj (Q5 (n:=3) rfl rfl (Km (by simp) (by simp) S)))) (V7 (b:=true) (Qj (Q5 (n:=3) rfl rfl (Qbd x0 (by omega) S))))) rfl) (Q6 (Ye (V7 (b:=true) (Qj (Q83 (xs:=[s,e,t]) (g:=PV.str) (Z7 rfl rfl (by simp)) fun p q=>⟨_,rfl,Q5 (n:=1) rfl rfl (Q87 ?_ S)⟩))) rfl) (Qs (Q2n (Q5 (n:=3) rfl rfl (Qbd u0 Z S)) (Q5 (n:=2) rfl rfl O))))
 simp only [D7,List.not_mem_nil,or_false] at q;rcases q with rfl | rfl | rfl <;> assumption
structure Mw (L:Nat) (S S':Q0):Prop where
 len:S.length<=S'.length
 keep:∀ t,t≠L->t < S.length->S'[t]?=S[t]?
theorem Mw.refl (L:Nat) (S:Q0):Mw L S S:=⟨O6 _,fun _ _ _=>rfl⟩
theorem Mw.trans (a:Mw L S S1) (b:Mw L S1 S2):Mw L S S2:=⟨E6 a.len b.len,fun t h1 h2=>(b.keep t h1 (D3 h2 a.len)).trans (a.keep t h1 h2)⟩
theorem Mv.w {q:Q0} (a:Mv L S q):Mw L S q:=⟨by rw [a.len]; exact O6 _,fun t h _=>a.keep t h⟩
theorem Mw.add (L:Nat) (S:Q0) (c:Cell):Mw L S (S ++ [c]):=⟨by rw [O5]; omega,fun t _ h=>O7 h⟩
theorem TapeAt.add (T:TapeAt S L ns) (c:Cell):TapeAt (S ++ [c]) L ns:=by
 have h:=T.lt;obtain ⟨p,q,e⟩:=T;exact ⟨p,q,by rw [O7 h]; exact e⟩
theorem TapeAt.put {M:Nat} (T:TapeAt S L ns) (z:M≠L) (c:Cell):TapeAt (S.set M c) L ns:=by
 obtain ⟨p,q,e⟩:=T;exact ⟨p,q,by rw [F1 z]; exact e⟩
theorem rgw (q:n<=1000) (h:m Γ S=.ok (.int n) S1):Za (Q1 m Q4) Γ S=.ok (Wc 0 n,[]) S1:=by
 rw [Q1u,Q3 h (show Q4 Γ S1=.ok [] S1 from rfl),Qm];show (if -(lim:Int)<=(n:Int)/\(n:Int)<=lim then _ else _)=_;rw [bT (by rw [xc]; omega),Int.toNat_natCast]
theorem Qd7 (cs:List Nat) (acc:Array Nat):List.foldl (fun acc (p:Str)=>acc ++ ("" : Str).cps ++ p.cps) acc (cs.map fun c=>(⟨#[c]⟩:Str))=acc ++ cs.toArray:=by
 induction cs generalizing acc with
 | nil=>simp
 | cons c cs q=>
  rw [D0,F8,q];have:("" : Str).cps=#[]:=rfl;rw [this];simp
theorem Q9a (cs:List Nat):Txt.join "" (cs.map fun c=>(⟨#[c]⟩:Str))=⟨cs.toArray⟩:=by
 show Builtin.Str.glued "" _=_;unfold Builtin.Str.glued;cases cs with
 | nil=>rfl
 | cons c cs=>
  show (⟨List.foldl _ #[c] (cs.map fun c=>(⟨#[c]⟩:Str))⟩:Str)=_
  rw [Qd7];simp
theorem Qgu (h:cs.length<=1000):JoinOk "" (cs.map fun c=>(⟨#[c]⟩:Str))=true:=by
 unfold JoinOk;have q:∀ (cs:List Nat) (a:Nat),List.foldl (fun x1 (I:Str)=>x1 + I.length + ("" : Str).length) a (cs.map fun c=>(⟨#[c]⟩:Str))=a + cs.length:=by
  intro cs
  induction cs with
  | nil=>intro a; rfl
  | cons c cs z=>
   intro a;rw [D0,F8,z,O9];show a + 1 + 0 + _=_;omega
 rw [<- Array.foldl_toList];show (!decide (List.foldl _ 0 (cs.map fun c=>(⟨#[c]⟩:Str)) > sizeLine))=true
 rw [q,sizeLine_eq];simp;omega
theorem Q8e (cs:List Nat):xu (cs.map fun c=>PV.str ⟨#[c]⟩)=some (cs.map fun c=>(⟨#[c]⟩:Str)):=by
 induction cs with
 | nil=>rfl
 | cons c cs q=>rw [D0,xu,q]; rfl
theorem Q88 (h1:1<=cs.length) (h2:cs.length<=8) (h:∀ c∈cs,Q62 c=true):Z6 ⟨cs.toArray⟩=true:=by
 unfold Z6;have e:(⟨cs.toArray⟩:Str).length=cs.length:=by show cs.toArray.size=_; simp
 rw [e];simp only [E9,decide_eq_true_eq,F0];exact ⟨⟨by omega,by omega⟩,fun c q=>h c (by simpa using q)⟩
theorem Qan (T:TapeAt S L ns):∃ (x:Str) (S':Q0),Z6 x=true/\TapeAt S' L ns/\Mw L S S'/\Ju [.ref L] S=.ok (.str x) S':=by
 obtain ⟨d,S1,hd,T1,M1,e1⟩:=Jj T 4 (by decide) (by decide)
 by_cases q:d=0
 ·subst q;obtain ⟨k,S2,hk,T2,M2,e2⟩:=Jj T1 8 (by decide) (by decide);obtain ⟨x,hx,ex⟩:∃ x,Z6 x=true/\oIx S2 (.lst [.str "go",.str "fall",.str "gone",.str "fallen",.str "gofall",.str "a",.str "aa",.str "abcdefgh"]) (.int k)=.ok (.str x) S2:=by
   have:k=0\/k=1\/k=2\/k=3\/k=4\/k=5\/k=6\/k=7:=by omega
   rcases this with rfl | rfl | rfl | rfl | rfl | rfl | rfl | rfl <;> exact ⟨_,by decide +kernel,rfl⟩
  refine ⟨x,S2,hx,T2,M1.w.trans M2.w,Qq ?_⟩;show Wu [some (.ref L)] S=_;exact Vm (zh (Qj (Qd (Q5 (n:=2) rfl rfl e1) rfl (Qhk _ rfl))) (Qs (Qd rfl (Q5 (n:=2) rfl rfl e2) ex)))
 ·obtain ⟨k,S2,hk,T2,M2,e2⟩:=Jj T1 4 (by decide) (by decide);obtain ⟨z,I,ec,T3,M3,cs,U,rfl,Z⟩:=qb (xs:=List.range (1 + k)) (fun (i:Nat)=>PV.int ((0:Int) + (i:Int))) (fun i z st=>TapeAt st L ns/\Mw L S2 st/\∃ cs:List Nat,cs.length=i/\z=cs.map (fun c=>PV.str ⟨#[c]⟩)/\∀ c∈cs,Q62 c=true) (ga:=Qe 0) (me:=Y3) (w:=[]) (Γ0:=Yf [none,some 0] [some (.ref L)]) (fun _ _ st _=>Qp st)
   (fun i x z st _ ⟨Ti,Mi,cs,h1,h2,h3⟩=>by
    obtain ⟨j,S4,hj,T4,M4,e4⟩:=Jj Ti 7 (by decide) (by decide);obtain ⟨c,Y,O⟩:∃ c,Q62 c=true/\Qkn S4 (.str "abgoflz") (.int j)=.ok (.str ⟨#[c]⟩) S4:=by
     have:j=0\/j=1\/j=2\/j=3\/j=4\/j=5\/j=6:=by omega
     rcases this with rfl | rfl | rfl | rfl | rfl | rfl | rfl <;> exact ⟨_,by decide +kernel,rfl⟩
    refine ⟨_,rfl,.str ⟨#[c]⟩,S4,Qd rfl (Q5 (n:=2) rfl rfl e4) O,T4,Mi.trans M4.w,cs ++ [c],by rw [O5,h1]; rfl,by rw [h2,E5]; rfl,fun y J=>?_⟩
    rcases E1.mp J with J | J
    ·exact h3 y J
    ·have:y=c:=by simpa using J
     rw [this]; exact Y)
   ⟨T2,Mw.refl L S2,[],rfl,rfl,fun c Y=>nomatch Y⟩
  rw [F7] at U;refine ⟨⟨cs.toArray⟩,I,Q88 (by omega) (by omega) Z,T3,(M1.w.trans M2.w).trans M3,Qq ?_⟩;show Wu [some (.ref L)] S=_;refine Q6 (Ye (Qj (Qd (Q5 (n:=2) rfl rfl e1) rfl (Qnm _ (by omega)))) rfl) (Qs ?_);show Qas _ _ _ _=_;have hl:W2 (J3 [none,some 0] (Qe 0) (Za (Q1 (mOp Ji (mC (.int 1)) (Q8 2 Q9 (Q1 (Q2 0) (Q1 (mC (.int 4)) Q4)))) Q4)) Zs Y3) [some (.ref L)] S1=.ok (.lst (cs.map fun c=>PV.str ⟨#[c]⟩)) I:=V2 (Y4 (rgw (n:=1 + k) (by omega) (Qd rfl (Q5 (n:=2) rfl rfl e2) (by rw [Q85]; push_cast; rfl))) ec);unfold Qas;show ((Q1 _ Q4) [some (.ref L)] S1).bind _=_;rw [Q3 hl (show Q4 _ I=.ok [] I from rfl),Qm];show (match (some (cs.map fun c=>PV.str ⟨#[c]⟩)).bind xu with | some ss=>if JoinOk "" ss=true then Res.ok (PV.str (Txt.join "" ss)) I else .stuck | none=>.stuck)=_
  rw [Option.bind_some,Q8e];show (if JoinOk "" _=true then _ else _)=_;rw [bT (Qgu (by omega)),Q9a]
def Qn0 (x:Str):Prop:=Z6 x=true/\Vw ["go", "fall"] x=false
theorem Q23 (T:TapeAt S L ns):∃ (x:Str) (z:Q0),Qn0 x/\TapeAt z L ns/\Mw L S z/\J9 [.ref L] S=.ok (.str x) z:=by
 obtain ⟨x,S1,O,J,M1,I⟩:=Qan T
 by_cases q:x = "go"
 ·subst q;refine ⟨"goa",S1,⟨by decide +kernel,by decide +kernel⟩,J,M1,Qq ?_⟩;show J8 [some (.ref L),none] S=_;exact Q6 (Qi (Q5 (n:=1) rfl rfl I)) (Vm (zh (Qu4 (Qj (Qd rfl rfl (Qb9 _ _)))) (Qs (Qd rfl rfl rfl))))
 ·by_cases r:x = "fall"
  ·subst r;refine ⟨"falla",S1,⟨by decide +kernel,by decide +kernel⟩,J,M1,Qq ?_⟩;show J8 [some (.ref L),none] S=_;exact Q6 (Qi (Q5 (n:=1) rfl rfl I)) (Vm (zh (Q6n (Qj (Qd rfl rfl (Q7j _ q))) (Qj (Qd rfl rfl (Qb9 _ _)))) (Qs (Qd rfl rfl rfl))))
  ·refine ⟨x,S1,⟨O,?_⟩,J,M1,Qq ?_⟩
   ·unfold Vw;simp only [List.any_cons,List.any_nil,Bool.or_false,bV (fun h=>q (Eq.symm h)),bV (fun h=>r (Eq.symm h))]
   ·show J8 [some (.ref L),none] S=_;exact Q6 (Qi (Q5 (n:=1) rfl rfl I)) (Q6 (Ye (Q6n (Qj (Qd rfl rfl (Q7j _ q))) (Qj (Qd rfl rfl (Q7j _ r)))) rfl) (Qs rfl))
theorem Qgw (h:xs[k]?=some p) (S:Q0):oIx S (.lst xs) (.int k)=.ok p S:=by
 show okO S (atI xs (k:Int))=_;rw [Qbh h]; rfl
theorem ix_tup (h:xs[k]?=some p) (S:Q0):oIx S (.tup xs) (.int k)=.ok p S:=by
 show okO S (atI xs (k:Int))=_;rw [Qbh h]; rfl
def Ww (xs:List Str):PV:=.lst (xs.map .str)
theorem Q0k {i:Nat} (T:TapeAt S L ns) {xs:List Str} (h1:1<=xs.length) (h2:xs.length<=100) (J:∀ st,Q2 0 Γ st=.ok (.ref L) st) (z:∀ st,Q2 i Γ st=.ok (Ww xs) st):∃ (x:Str) (q:Q0),x∈xs/\TapeAt q L ns/\Mw L S q/\(mOp oIx (Q2 i) (Q8 2 Q9 (Q1 (Q2 0) (Q1 (Qu Zj (Q1 (Q2 i) Q4)) Q4)))) Γ S=.ok (.str x) q:=by
 have O:(xs.map PV.str).length=xs.length:=O1 _;obtain ⟨d,S1,hd,U,M1,I⟩:=Jj T xs.length h1 (by omega);have Y:(xs.map PV.str)[d]?=some (.str xs[d]):=by rw [E2,O2 hd]; rfl
 refine ⟨xs[d],S1,M9 hd,U,M1.w,Qd (z S) (Q5 (n:=2) (Q3 (J S) (Q3 (Zu (Q3 (z S) rfl) rfl) rfl)) rfl ?_) (Qgw Y S1)⟩;show Q9 [.ref L,.int ((xs.map PV.str).length:Nat)] S=_;rw [O]; exact I
def Q2r (ws:List Str) (r:PV):Prop:=∀ a b c d e ls,r=.tup [a,b,c,d,e,.tup ls]->∀ l∈ls,∃ (h:Int) (y:Str),l=.tup [.int h,.str y]/\y∈ws
def Qa1 (ss:List Str) (r:PV):Prop:=∀ a b c d e ls,r=.tup [a,b,c,d,e,ls]->∃ y∈ss,d=.str y
theorem Qje (T:TapeAt S L ns) (a2:1<=n) (hn:n<=100) (s1:1<=ss.length) (s2:ss.length<=100) (s3:∀ x∈ss,Z6 x=true) (w1:1<=ws.length) (w2:ws.length<=100) (w3:∀ x∈ws,Qn0 x) :
  ∃ (r:PV) (S':Q0),Ur n r=true/\Q2r ws r/\Qa1 ss r/\TapeAt S' L ns/\Mw L S S'/\Y0 [.ref L,.int n,Ww ss,Ww ws] S=.ok r S':=by
 obtain ⟨I,S1,h1,T1,M1,e1⟩:=Jj T n a2 (by omega);obtain ⟨st,S2,h2,T2,M2,e2⟩:=Q0k (i:=2) T1 s1 s2 (Γ:=[some (.ref L),some (.int n),some (Ww ss),some (Ww ws),some (.int I),none,none,none,none,none,none]) (fun _=>rfl) (fun _=>rfl);obtain ⟨wd,S3,h3,T3,M3,e3⟩:=Q0k (i:=3) T2 w1 w2 (Γ:=[some (.ref L),some (.int n),some (Ww ss),some (Ww ws),some (.int I),some (.str st),none,none,none,none,none]) (fun _=>rfl) (fun _=>rfl);obtain ⟨k4,S4,h4,T4,M4,e4⟩:=Jj T3 4 (by decide) (by decide);obtain ⟨z,a9,b2⟩:∃ z,Z6 z=true/\oIx S4 (.lst [.str "go",.str "go",.str "fall",.str wd]) (.int k4)=.ok (.str z) S4:=by
  have:k4=0\/k4=1\/k4=2\/k4=3:=by omega
  rcases this with rfl | rfl | rfl | rfl
  ·exact ⟨_,by decide +kernel,rfl⟩
  ·exact ⟨_,by decide +kernel,rfl⟩
  ·exact ⟨_,by decide +kernel,rfl⟩
  ·exact ⟨wd,(w3 wd h3).1,rfl⟩
 obtain ⟨U,S5,h5,T5,M5,e5⟩:=Q0k (i:=2) T4 s1 s2 (Γ:=[some (.ref L),some (.int n),some (Ww ss),some (Ww ws),some (.int I),some (.str st),some (.str z),none,none,none,none]) (fun _=>rfl) (fun _=>rfl);obtain ⟨O,q,h6,T6,M6,e6⟩:=Jj T5 7 (by decide) (by decide);obtain ⟨us,b1,a8⟩:∃ us:Int,(0<=us/\us<=9)/\oIx q (.lst [.int 0,.int 0,.int 0,.int 1,.int 1,.int 2,.int 9]) (.int O)=.ok (.int us) q:=by
  have:O=0\/O=1\/O=2\/O=3\/O=4\/O=5\/O=6:=by omega
  rcases this with rfl | rfl | rfl | rfl | rfl | rfl | rfl <;> exact ⟨_,by decide,rfl⟩
 have b4:=T6.add (.lst []);obtain ⟨Y,S7,h7,T7,M7,e7⟩:=Jj b4 6 (by decide) (by decide);have hM:q.length≠L:=by have:=T6.lt; omega
 have a4:q.length < (q ++ [Cell.lst []]).length:=by rw [O5]; simp
 have c7:S7[q.length]?=some (.lst []):=by rw [M7.w.keep _ hM a4,D9 (O6 _),Nat.sub_self]; rfl
 obtain ⟨ct,a1,b3⟩:∃ ct:Nat,ct<=8/\oIx S7 (.lst [.int 0,.int 0,.int 1,.int 2,.int 3,.int 8]) (.int Y)=.ok (.int ct) S7:=by
  have:Y=0\/Y=1\/Y=2\/Y=3\/Y=4\/Y=5:=by omega
  rcases this with rfl | rfl | rfl | rfl | rfl | rfl
  ·exact ⟨0,by decide,rfl⟩
  ·exact ⟨0,by decide,rfl⟩
  ·exact ⟨1,by decide,rfl⟩
  ·exact ⟨2,by decide,rfl⟩
  ·exact ⟨3,by decide,rfl⟩
  ·exact ⟨8,by decide,rfl⟩
 obtain ⟨b6,S8,e8,T8,M8,ls,c8,a5,J,t8,rfl⟩:=Q2a (xs:=List.range ct) (fun (i:Nat)=>PV.int ((0:Int) + (i:Int)))
  (fun i Γ A=>TapeAt A L ns/\Mw L q A/\∃ ls:List PV,A[q.length]?=some (.lst ls)/\ls.length=i/\(∀ l∈ls,Q98 n l=true/\∃ (h:Int) (y:Str),l=.tup [.int h,.str y]/\y∈ws)/\∃ t,Γ=[some (.ref L),some (.int n),some (Ww ss),some (Ww ws),some (.int I),some (.str st),some (.str z),some (.str U),some (.int us),some (.ref q.length),t])
  (ga:=Qe 10) (body:=Vd) (w:=[]) (fun _ _ A _=>Qp A) (fun i x Γ A hx ⟨Ti,Mi,ls,ci,Z,J,t,a7⟩=>by
   subst a7;obtain ⟨d,A1,hd,TA,MA,ea⟩:=Jj Ti n a2 (by omega);obtain ⟨y,A2,hy,TB,MB,eb⟩:=Q0k (i:=3) TA w1 w2 (Γ:=[some (.ref L),some (.int n),some (Ww ss),some (Ww ws),some (.int I),some (.str st),some (.str z),some (.str U),some (.int us),some (.ref q.length),some (.int ((0:Int) + (x:Int)))]) (fun _=>rfl) (fun _=>rfl);have a3:q.length < A.length:=(O0.mp ci).1;have b0:q.length < A1.length:=D3 a3 MA.w.len;have c2:A2[q.length]?=some (.lst ls):=by rw [MB.keep _ hM b0,MA.w.keep _ hM a3]; exact ci
   have b5:q.length < A2.length:=(O0.mp c2).1;have b7:i < ct:=by have:=(O0.mp hx).1; rwa [F7] at this
   refine ⟨_,rfl,_,A2.set q.length (.lst (ls ++ [.tup [.int d,.str y]])),xr (xs:=ls) rfl (by show (match A[q.length]? with | some (.lst xs)=>some xs | _=>none)=_; rw [ci]) (Q3 (Z1 (Q3 (Q5 (n:=2) rfl rfl ea) (Q3 eb rfl)) (by simp)) rfl) (qe c2 (by omega) _),TB.put hM _,⟨?_,fun t h1 h2=>?_⟩,ls ++ [.tup [.int d,.str y]],?_,by rw [O5,Z]; rfl,fun l hm=>?_,_,rfl⟩
   ·rw [L6]; exact E6 Mi.len (E6 MA.w.len MB.len)
   ·rw [F1 (by omega)];exact ((Mi.trans MA.w).trans MB).keep t h1 h2
   ·rw [F3 b5]
   ·rcases E1.mp hm with hm | hm
    ·exact J l hm
    ·have:l=.tup [.int d,.str y]:=by simpa using hm
     subst this;obtain ⟨y1,y2⟩:=w3 y hy;refine ⟨?_,d,y,rfl,hy⟩;show (decide ((0:Int)<=d) && decide ((d:Int)<=n - 1) && (Z6 y && !Vw ["go", "fall"] y))=true;rw [y1,y2];simp;omega)
  (Γ:=[some (.ref L),some (.int n),some (Ww ss),some (Ww ws),some (.int I),some (.str st),some (.str z),some (.str U),some (.int us),some (.ref q.length),none]) (st:=S7)
  ⟨T7,(Mw.add L q _).trans M7.w,[],c7,rfl,fun l Z=>(nomatch Z),none,rfl⟩
 rw [F7] at a5;refine ⟨.tup [.int I,.str st,.str z,.str U,.int us,.tup ls],S8,?_,?_,?_,T8,((((M1.w.trans M2).trans M3).trans M4.w).trans M5).trans (M6.w.trans M8),Qq ?_⟩
 ·show (decide ((0:Int)<=I) && decide ((I:Int)<=n - 1) && (Z6 st && (Z6 z && Z6 U)) && (decide ((0:Int)<=us) && decide (us<=9) && (decide ((ls.length:Int)<=8) && ls.all (Q98 n))))=true;rw [s3 st h2,a9,s3 U h5];simp only [E9,decide_eq_true_eq,F0];exact ⟨⟨⟨by omega,by omega⟩,trivial,trivial,trivial⟩,b1,by omega,fun l Z=>(J l Z).1⟩
 ·intro a b c d e a6 eq l Z;cases eq;exact (J l Z).2
 ·intro a b c d e a6 eq;cases eq;exact ⟨U,h5,rfl⟩
 ·show Uc [some (.ref L),some (.int n),some (Ww ss),some (Ww ws),none,none,none,none,none,none,none] S=_;have a1:Y8 S8 [.ref q.length]=.ok (.tup ls) S8:=by
   show (match (match S8[q.length]? with | some (.lst xs)=>some xs | _=>none) with | some xs=>Res.ok (PV.tup xs) S8 | none=>.stuck)=_
   rw [c8]
  exact Q6 (Qi (Q5 (n:=2) rfl rfl e1)) (Q6 (Qi e2) (Q6 (Qi (Qd (Qih (Q3 rfl (Q3 rfl (Q3 rfl (Q3 e3 rfl)))) (by simp)) (Q5 (n:=2) rfl rfl e4) b2)) (Q6 (Qi e5) (Q6 (Qi (Qd rfl (Q5 (n:=2) rfl rfl e6) a8)) (Q6 (Qi (U5 rfl)) (Q6 (Zw (rgw (n:=ct) (by omega) (Qd rfl (Q5 (n:=2) rfl rfl e7) b3)) e8) (Qs (Z1 (Q3 rfl (Q3 rfl (Q3 rfl (Q3 rfl (Q3 rfl (Q3 (Zu rfl a1) rfl)))))) (by simp)))))))))
theorem yu {mi:ME} {z J:Q0} {q:PV} (h1:m Γ S=.ok v S1) (h2:mo Γ S1=.ok p S2) (U:mi Γ S2=.ok q z) (O:zk z p q v=some J):yw mo mi m Γ S=.nx Γ J:=by
 unfold yw;rw [h1];show (mo Γ S1).sbind _=_;rw [h2];show (mi Γ S2).sbind _=_;rw [U];show (match zk z p q v with | some I=>SR.nx Γ I | none=>.stuck)=_;rw [O]
def Xb (ks:List HK):List (HK × PV):=ks.map fun k=>(k,.bl true)
theorem Qf9 (ks:List HK) (k:HK):Sm.putT (Xb ks) k (.bl true)=Xb (Zd ks k):=by
 unfold Sm.putT Zd
 by_cases q:k∈ks
 ·rw [bT q,bT]
  ·unfold Xb;rw [L9];refine N0 fun x _=>?_
   show (if x=k then (x,PV.bl true) else (x,PV.bl true))=_
   split <;> rfl
  ·unfold Xb;rw [List.any_map,List.any_eq_true];exact ⟨k,q,by simp⟩
 ·rw [bU q,bU]
  ·unfold Xb; rw [E5]; rfl
  ·unfold Xb;rw [List.any_map,List.any_eq_true];rintro ⟨x,z,e⟩;have:x=k:=by simpa using e
   rw [this] at z; exact q z
theorem Qd9 (h:S[D]?=some (.dtp (Xb ks))) (I:ks.length < 1000000) {k:HK} (z:Ud p=some k):zk S (.ref D) p (.bl true)=some (S.set D (.dtp (Xb (Zd ks k)))):=by
 have hd:W5 S (.ref D)=some (Xb ks):=by show (match S[D]? with | some (.dtp q)=>some q | _=>none)=_; rw [h]
 unfold zk;simp only [hd,z];rw [bT (by unfold Xb; rw [O1]; exact I),Qf9]
theorem Qa0 (h:ks.Nodup) (k:HK):(Zd ks k).Nodup:=by
 unfold Zd
 split
 ·exact h
 ·rename_i q;exact L4.mpr ⟨h,by simp,fun x z y I e=>by
   have:y=k:=by simpa using I
   rw [e,this] at z; exact q z⟩
theorem Q1r:∀ {ks acc:List HK},(acc ++ ks).Nodup->ks.foldl Zd acc=acc ++ ks
 | [],acc,_=>by simp
 | k :: ks,acc,h=>by
  rw [F8];have q:k∉acc:=fun hm=>(L4.mp h).2.2 k hm k (by simp) rfl
  have e:Zd acc k=acc ++ [k]:=by unfold Zd; rw [bU q]
  rw [e,Q1r (by rw [List.append_assoc]; exact h)];simp
theorem Qkq (h:ks.Nodup):Ym ks=ks:=by
 have:=Q1r (ks:=ks) (acc:=[]) (by simpa using h);simpa [Ym] using this
mutual
theorem Qh0:∀ {d:Nat} {p:PV} {k:HK},Wg d p=some k->hkV k=p
 | _,.int i,_,e=>by cases q:(‹Nat›) <;> (rw [q] at e; cases e; rfl)
 | _,.str x,_,e=>by cases q:(‹Nat›) <;> (rw [q] at e; cases e; rfl)
 | 0,.tup ps,_,e=>by cases e
 | d + 1,.tup ps,k,e=>by
  have e:(Z3 (Wg d) ps).map HK.tup=some k:=e;cases z:Z3 (Wg d) ps with
  | none=>rw [z] at e; cases e
  | some l=>
   rw [z] at e;cases e;show PV.tup (hkVL l)=_;rw [hkVL_of z]
 | 0,.non,_,e=>by cases e
 | 0,.bl _,_,e=>by cases e
 | 0,.lst _,_,e=>by cases e
 | 0,.fro _,_,e=>by cases e
 | 0,.ref _,_,e=>by cases e
 | 0,.dic,_,e=>by cases e
 | _ + 1,.non,_,e=>by cases e
 | _ + 1,.bl _,_,e=>by cases e
 | _ + 1,.lst _,_,e=>by cases e
 | _ + 1,.fro _,_,e=>by cases e
 | _ + 1,.ref _,_,e=>by cases e
 | _ + 1,.dic,_,e=>by cases e
theorem hkVL_of:∀ {d:Nat} {ps:List PV} {l:List HK},Z3 (Wg d) ps=some l->hkVL l=ps
 | _,[],_,e=>by cases e; rfl
 | d,p :: ps,l,e=>by
  unfold Z3 at e
  split at e
  ·rename_i k z q I;cases e;show hkV k :: hkVL z=_;rw [Qh0 q,hkVL_of I]
  ·cases e
end
theorem Quv {k:HK} (h:Ud p=some k):hkV k=p:=by
 cases p with
 | tup ps=>exact Qh0 (d:=5) h
 | _=>cases h
structure Man (B:Nat) (most:Int) (starts:List Str) (rules:List PV):Prop where
 m0:0<=most
 m1:most<=20
 s1:1<=starts.length
 s4:starts.length<=4
 sw:∀ x∈starts,Z6 x=true
 r:rules.all (Ur starts.length)=true
 len:rules.length<=9
 ks:∃ ks,Z3 Ud rules=some ks/\ks.Nodup
 ws:∃ sts ws:List Str,ws.length<=2/\sts.length ^ starts.length * 2 ^ (starts.length * ws.length) * (most.toNat + 1)<=B/\(∀ x∈starts,x∈sts)/\(∀ p∈rules,Q2r ws p/\Qa1 sts p)/\(∀ x∈sts,Z6 x=true)/\∀ x∈ws,Qn0 x
def Qk (most:Int) (starts:List Str) (rules:List PV):PV:=.tup [.int most,.tup (starts.map .str),.tup rules]
theorem Q6v {i:Nat} {P:Str->Prop} {F:FN} (hF:∀ {S:Q0},TapeAt S L ns->∃ (x:Str) (q:Q0),P x/\TapeAt q L ns/\Mw L S q/\F [.ref L] S=.ok (.str x) q) (T:TapeAt S L ns) {m:Nat} (hm:m<=100) (Y:Yf [none,some 0] Γ=[none,some (.ref L)]) (Z:Q2 i Γ S=.ok (.int m) S) :
  ∃ (xs:List Str) (q:Q0),xs.length=m/\(∀ x∈xs,P x)/\TapeAt q L ns/\Mw L S q/\W2 (J3 [none,some 0] (Qe 0) (Za (Q1 (Q2 i) Q4)) Zs (Q8 1 F (Q1 (Q2 1) Q4))) Γ S=.ok (Ww xs) q:=by
 obtain ⟨I,S3,ec,U,M3,xs,J,rfl,O⟩:=qb (xs:=List.range m) (fun (i:Nat)=>PV.int ((0:Int) + (i:Int))) (fun i I st=>TapeAt st L ns/\Mw L S st/\∃ xs:List Str,xs.length=i/\I=xs.map PV.str/\∀ x∈xs,P x) (ga:=Qe 0) (me:=Q8 1 F (Q1 (Q2 1) Q4)) (w:=[]) (Γ0:=[none,some (.ref L)]) (fun _ _ st _=>Qp st)
  (fun i x I st _ ⟨Ti,Mi,xs,h1,h2,h3⟩=>by
   obtain ⟨y,S4,hy,T4,M4,e4⟩:=hF Ti;refine ⟨_,rfl,.str y,S4,Q5 (n:=1) rfl rfl e4,T4,Mi.trans M4,xs ++ [y],by rw [O5,h1]; rfl,by rw [h2,E5]; rfl,fun z hz=>?_⟩;rcases E1.mp hz with hz | hz
   ·exact h3 z hz
   ·have:z=y:=by simpa using hz
    rw [this]; exact hy)
  ⟨T,Mw.refl L S,[],rfl,rfl,fun c hc=>nomatch hc⟩
 rw [F7] at J;exact ⟨xs,S3,J,O,U,M3,V2 (Y4 (rgw (n:=m) (by omega) Z) (by rw [Y]; exact ec))⟩
theorem Qee (q:k < 5) (S:Q0):∃ n m w t:Nat,(1<=n/\n<=4/\1<=m/\m<=3/\1<=w/\w<=2/\1<=t/\t<=21/\m ^ n * 2 ^ (n * w) * t<=576) /\
  oIx S (.lst [.tup [.int 2,.int 3,.int 2,.int 4],.tup [.int 3,.int 2,.int 1,.int 4],.tup [.int 1,.int 2,.int 1,.int 21],.tup [.int 2,.int 2,.int 1,.int 21],.tup [.int 4,.int 2,.int 1,.int 2]]) (.int k)=.ok (.tup [.int n,.int m,.int w,.int t]) S:=by
 have:k=0\/k=1\/k=2\/k=3\/k=4:=by omega
 rcases this with rfl | rfl | rfl | rfl | rfl
 ·exact ⟨2,3,2,4,by decide,rfl⟩
 ·exact ⟨3,2,1,4,by decide,rfl⟩
 ·exact ⟨1,2,1,21,by decide,rfl⟩
 ·exact ⟨2,2,1,21,by decide,rfl⟩
 ·exact ⟨4,2,1,2,by decide,rfl⟩
theorem Q3i {n:Int} {ws ss:List Str}:∀ {ks:List HK},(∀ k∈ks,∃ p,Ud p=some k/\Ur n p=true/\Q2r ws p/\Qa1 ss p)->Z3 Ud (ks.map hkV)=some ks/\(ks.map hkV).all (Ur n)=true/\∀ p∈ks.map hkV,Q2r ws p/\Qa1 ss p
 | [],_=>⟨rfl,rfl,fun p h=>nomatch h⟩
 | k :: ks,h=>by
  obtain ⟨p,h1,h2,J⟩:=h k (by simp);obtain ⟨a,b,c⟩:=Q3i fun x I=>h x (O4 _ I)
  have e:=Quv h1;refine ⟨?_,?_,fun q z=>?_⟩
  ·rw [D0,e];unfold Z3;rw [h1,a]
  ·rw [D0,List.all_cons,e,h2,b]; rfl
  ·rw [D0,e] at z;rcases D7.mp z with rfl | z
   ·exact J
   ·exact c q z
theorem Qcy (T:TapeAt S L ns):∃ (most:Int) (I:List Str) (rules:List PV) (S':Q0),Man 576 most I rules/\TapeAt S' L ns/\Mw L S S'/\Y5 [.ref L] S=.ok (Qk most I rules) S':=by
 obtain ⟨k,S1,hk,T1,M1,e1⟩:=Jj T 5 (by decide) (by decide);obtain ⟨n,m,w,t,⟨n1,n4,m1,m3,w1,w2,t1,t2,a6⟩,es⟩:=Qee hk S1;generalize hsz:PV.lst [.tup [.int 2,.int 3,.int 2,.int 4],.tup [.int 3,.int 2,.int 1,.int 4],.tup [.int 1,.int 2,.int 1,.int 21],.tup [.int 2,.int 2,.int 1,.int 21],.tup [.int 4,.int 2,.int 1,.int 2]]=sz at es;obtain ⟨ss,S2,a9,Y,T2,M2,e2⟩:=Q6v (i:=3) Qan T1 (m:=m) (by omega) (Γ:=[some (.ref L),some sz,some (.int n),some (.int m),some (.int w),some (.int t),none,none,none,none,none]) rfl rfl;obtain ⟨ws,q,b0,a7,T3,M3,e3⟩:=Q6v (i:=4) Q23 T2 (m:=w) (by omega) (Γ:=[some (.ref L),some sz,some (.int n),some (.int m),some (.int w),some (.int t),some (Ww ss),none,none,none,none]) rfl rfl;have b2:=T3.add (.dtp []);obtain ⟨k4,S4,h4,T4,M4,e4⟩:=Jj b2 10 (by decide) (by decide);have hM:q.length≠L:=by have:=T3.lt; omega
 have c4:S4[q.length]?=some (.dtp (Xb [])):=by rw [M4.w.keep _ hM (by rw [O5]; simp),D9 (O6 _),Nat.sub_self]; rfl
 obtain ⟨b7,S5,e5,T5,M5,ks,c5,b3,a8,O,t5,rfl⟩:=Q2a (xs:=List.range k4) (fun (i:Nat)=>PV.int ((0:Int) + (i:Int)))
  (fun i Γ A=>TapeAt A L ns/\Mw L q A/\∃ ks:List HK,A[q.length]?=some (.dtp (Xb ks))/\ks.length<=i/\ks.Nodup/\(∀ k∈ks,∃ p,Ud p=some k/\Ur n p=true/\Q2r ws p/\Qa1 ss p)/\∃ u,Γ=[some (.ref L),some sz,some (.int n),some (.int m),some (.int w),some (.int t),some (Ww ss),some (Ww ws),some (.ref q.length),u,none])
  (ga:=Qe 9) (body:=U3) (w:=[]) (fun _ _ A _=>Qp A) (fun i x Γ A hx ⟨Ti,Mi,ks,ci,hl,nd,O,u,b1⟩=>by
   subst b1;obtain ⟨p,A1,hp,pw,ps,TA,MA,ea⟩:=Qje Ti n1 (by omega) (by omega) (by omega) Y (by omega) (by omega) a7;obtain ⟨k,hk⟩:=Q3d hp;have a2:q.length < A.length:=(O0.mp ci).1;have c2:A1[q.length]?=some (.dtp (Xb ks)):=by rw [MA.keep _ hM a2]; exact ci
   have b4:q.length < A1.length:=(O0.mp c2).1;have b8:i < k4:=by have:=(O0.mp hx).1; rwa [F7] at this
   refine ⟨_,rfl,_,A1.set q.length (.dtp (Xb (Zd ks k))),yu rfl rfl (Q5 (n:=4) rfl rfl ea) (Qd9 c2 (by omega) hk),TA.put hM _,⟨?_,fun t h1 h2=>?_⟩,Zd ks k,?_,?_,Qa0 nd k,fun y U=>?_,_,rfl⟩
   ·rw [L6]; exact E6 Mi.len MA.len
   ·rw [F1 (by omega)];exact (Mi.trans MA).keep t h1 h2
   ·rw [F3 b4]
   ·have:(Zd ks k).length<=ks.length + 1:=by unfold Zd; split <;> simp
    omega
   ·unfold Zd at U
    split at U
    ·exact O y U
    ·rcases E1.mp U with U | U
     ·exact O y U
     ·have:y=k:=by simpa using U
      rw [this]; exact ⟨p,hk,hp,pw,ps⟩)
  (Γ:=[some (.ref L),some sz,some (.int n),some (.int m),some (.int w),some (.int t),some (Ww ss),some (Ww ws),some (.ref q.length),none,none]) (st:=S4)
  ⟨T4,(Mw.add L q _).trans M4.w,[],c4,O6 _,List.nodup_nil,fun k hk=>(nomatch hk),none,rfl⟩
 rw [F7] at b3;obtain ⟨a3,S6,e6,T6,M6,xs,a4,rfl,a5⟩:=qb (xs:=List.range n) (fun (i:Nat)=>PV.int ((0:Int) + (i:Int))) (fun i a3 A=>TapeAt A L ns/\Mw L S5 A/\∃ xs:List Str,xs.length=i/\a3=xs.map PV.str/\∀ x∈xs,Z6 x=true/\x∈ss) (ga:=Qe 0) (me:=U2) (w:=[]) (Γ0:=[none,some (Ww ss),some (.ref L),some (.int m)]) (fun _ _ A _=>Qp A)
  (fun i x a3 A _ ⟨Ti,Mi,xs,h1,h2,h3⟩=>by
   obtain ⟨d,A1,hd,TA,MA,ea⟩:=Jj Ti m m1 (by omega);have a1:d < ss.length:=by omega
   have hg:(ss.map PV.str)[d]?=some (.str ss[d]):=by rw [E2,O2 a1]; rfl
   refine ⟨_,rfl,.str ss[d],A1,Qd rfl (Q5 (n:=2) rfl rfl ea) (Qgw hg A1),TA,Mi.trans MA.w,xs ++ [ss[d]],by rw [O5,h1]; rfl,by rw [h2,E5]; rfl,fun z hz=>?_⟩;rcases E1.mp hz with hz | hz
   ·exact h3 z hz
   ·have:z=ss[d]:=by simpa using hz
    rw [this]; exact ⟨Y _ (M9 a1),M9 a1⟩)
  ⟨T5,Mw.refl L S5,[],rfl,rfl,fun c hc=>(nomatch hc)⟩
 rw [F7] at a4;obtain ⟨mo,J,b6,T7,M7,e7⟩:=Jj T6 t t1 (by omega);have a2:q.length < S5.length:=(O0.mp c5).1;have c6:S6[q.length]?=some (.dtp (Xb ks)):=by rw [M6.keep _ hM a2]; exact c5
 have c7:J[q.length]?=some (.dtp (Xb ks)):=by rw [M7.keep _ hM]; exact c6
 obtain ⟨q1,q2,q3⟩:=Q3i O;have hn:(n:Int)=(xs.length:Int):=by omega
 refine ⟨mo,xs,ks.map hkV,J,⟨by omega,by omega,by omega,by omega,fun x hx=>(a5 x hx).1,by rw [<- hn]; exact q2,by rw [O1]; omega,⟨ks,q1,a8⟩,ss,ws,by omega,by rw [a9,b0,a4]; refine E6 (Nat.mul_le_mul_left _ ?_) a6; simp; omega,fun x hx=>(a5 x hx).2,fun p hp=>q3 p hp,Y,a7⟩,T7,((M1.w.trans M2).trans M3).trans (M5.trans (M6.trans M7.w)),Qq ?_⟩
 show V9 [some (.ref L),none,none,none,none,none,none,none,none,none,none] S=_;have b5:Qu j8 (Q1 (Q2 8) Q4) [some (.ref L),some sz,some (.int n),some (.int m),some (.int w),some (.int t),some (Ww ss),some (Ww ws),some (.ref q.length),t5,some (.tup (xs.map .str))] J=.ok (.lst (ks.map hkV)) J:=by
  refine Zu rfl ?_;have hd:W5 J (.ref q.length)=some (Xb ks):=by show (match J[q.length]? with | some (.dtp Z)=>some Z | _=>none)=_; rw [c7]
  show (match W5 J (.ref q.length) with | some Z=>Res.ok (PV.lst (Z.map fun (kv:HK × PV)=>hkV kv.1)) J | none=>.stuck)=_
  rw [hd];show Res.ok (PV.lst ((Xb ks).map fun (kv:HK × PV)=>hkV kv.1)) J=_
  unfold Xb;rw [L9];rfl
 subst hsz;exact Q6 (Qi rfl) (Q6 (Qij (Qd rfl (Q5 (n:=2) rfl rfl e1) es) rfl) (Q6 (Qi e2) (Q6 (Qi e3) (Q6 (Qi rfl) (Q6 (Zw (rgw (n:=k4) (by omega) (Q5 (n:=2) rfl rfl e4)) e5) (Q6 (Qi (Zu (Q3 (V2 (Y4 (rgw (n:=n) (by omega) rfl) e6)) rfl) rfl)) (Qs (Z1 (Q3 (Q5 (n:=2) rfl rfl e7) (Q3 rfl (Q3 (Zu (Q3 b5 rfl) rfl) rfl))) (by simp)))))))))
theorem Qqy {most:Int} {q:List Str} {rules:List PV} (h:Man B most q rules) (S:Q0):Wy [Qk most q rules] S=.ok (.bl true) S:=by
 obtain ⟨ks,k1,k2⟩:=h.ks;obtain ⟨Y,J,O⟩:=Qm6 h.r;rw [k1] at J;cases J;have:=h.len;have:=h.s4;have z:(q.map PV.str).length=q.length:=O1 _;have U:V1 [.int ((q.map PV.str).length:Nat),.tup rules] S=.ok (.bl true) S:=by
  refine X1 ?_;show K4 [some (.int ((q.map PV.str).length:Nat)),some (.tup rules)] S=_;have hs:z8 (Q2 1) [some (.int ((q.map PV.str).length:Nat)),some (.tup rules)] S=.ok (.int (rules.length:Nat)) S:=by
   show (match Z3 Ud rules with | some ks=>if ks.length<=76 then Res.ok (PV.int ((Ym ks).length:Nat)) S else .stuck | none=>.stuck)=_
   rw [k1];show (if ks.length<=76 then Res.ok (PV.int ((Ym ks).length:Nat)) S else .stuck)=_;rw [bT (by omega),Qkq k2,O]
  refine Q6 (Ye (Q6n (V7 (b:=true) (Qj (Q5 (n:=3) rfl rfl (Km (by omega) (by omega) S)))) (V7 (b:=true) (Qj (Q83 (xs:=rules) (g:=id) (by rw [List.map_id]; exact Z7 rfl rfl (by omega)) fun p hp=>⟨_,rfl,Q5 (n:=2) rfl rfl (Qpr ?_ S)⟩)))) rfl) (Qs (Qd hs rfl (Qhk S rfl)))
  rw [z];exact F0.mp h.r p hp
 refine X1 ?_;show K0 [some (Qk most q rules)] S=_;have I:W1 [.tup (q.map .str)] S=.ok (.bl true) S:=by
  refine X1 ?_;show X7 [some (.tup (q.map .str))] S=_;exact Qs (Q2n (Q5 (n:=3) rfl rfl (Km (by rw [z]; have:=h.s1; omega) (by rw [z]; omega) S)) (Q83 (xs:=q) (g:=PV.str) (Z7 rfl rfl (by rw [z]; omega)) fun x Z=>⟨_,rfl,Q5 (n:=1) rfl rfl (Q87 (h.sw x Z) S)⟩))
 exact Q6 (Ye (Q6n (V7 (b:=true) (Qj (Q5 (n:=3) rfl rfl (Km (xs:=[.int most,.tup (q.map .str),.tup rules]) (by simp) (by simp) S)))) (V7 (b:=true) (Qj (Q5 (n:=3) rfl rfl (Qbd h.m0 h.m1 S))))) rfl) (Qs (Q2n (Q5 (n:=1) rfl rfl I) (Q5 (n:=2) rfl rfl U)))
theorem Qam {most:Int} {q:List Str} {rules:List PV} (h:Man B most q rules) (S:Q0):Je [Qk most q rules] S=.ok .non S:=by
 have st:Wq [some (Qk most q rules)] S=.nx [some (Qk most q rules)] S:=Ye (V7 (b:=true) (Qj (Q5 (n:=1) rfl rfl (Qqy h S)))) rfl;unfold Je Jd;show (match Wq [some (Qk most q rules)] S with | .rt v st'=>fin S v st' | .nx _ st'=>fin S .non st' | .exc x st'=>Qmg S x st' | _=>.stuck)=_
 rw [st];exact Qmf S
structure Ru where
 h:Nat
 s:Str
 e:Str
 t:Str
 u:Int
 ms:List (Int × Str)
variable {rs:List Ru}
def ruV (r:Ru):PV:=.tup [.int r.h,.str r.s,.str r.e,.str r.t,.int r.u,.tup (r.ms.map prV)]
def stV (ss:List Str) (ls:List (Int × Str)) (u:Int):PV:=.tup [.tup (ss.map .str),.tup (ls.map prV),.int u]
def kP (p:Int × Str):HK:=.tup [.int p.1,.str p.2]
theorem Qgt {p q:Int × Str} (h:kP p=kP q):p=q:=by
 unfold kP at h;injection h with h
 injection h with h1 h
 injection h with h2 _
 injection h1 with h1
 injection h2 with h2
 exact Prod.ext h1 h2
def evB (e:Str):Bool:=decide (e = "go") || decide (e = "fall")
def Q5e (r:Ru) (ss:List Str) (ls:List (Int × Str)):Bool:=decide (ss.getD r.h Str.empty=r.s) && (evB r.e || decide (((r.h:Int),r.e)∈ls))
theorem ixs (q:h < ss.length) (S:Q0):oIx S (.tup (ss.map .str)) (.int h)=.ok (.str (ss.getD h Str.empty)) S:=by
 refine ix_tup ?_ S;rw [E2,F4,O2 q];rfl
theorem nes (S:Q0) (a b:Str):oNe S (.str a) (.str b)=.ok (.bl (!decide (a=b))) S:=by
 show Res.ok (PV.bl (!(a == b))) S=_
 by_cases q:a=b
 ·rw [bW q,beq_iff_eq.mpr q]
 ·rw [bV q,beq_eq_false_iff_ne.mpr q]
theorem eqs (S:Q0) (a b:Str):oEq S (.str a) (.str b)=.ok (.bl (decide (a=b))) S:=by
 show Res.ok (PV.bl (a == b)) S=_
 by_cases q:a=b
 ·rw [bW q,beq_iff_eq.mpr q]
 ·rw [bV q,beq_eq_false_iff_ne.mpr q]
theorem Qai (p q:Int × Str):peq (prV p) (prV q)=decide (p=q):=by
 show ((p.1 == q.1) && ((p.2 == q.2) && true))=_
 by_cases e:p=q
 ·subst e; simp
 ·rw [bV e]
  by_cases z:p.1=q.1
  ·by_cases I:p.2=q.2
   ·exact absurd (Prod.ext z I) e
   ·simp [I]
  ·simp [z]
theorem Qrm (ls:List (Int × Str)) (p:Int × Str) (S:Q0):oIn false S (prV p) (.tup (ls.map prV))=.ok (.bl (decide (p∈ls))) S:=by
 show (if good dep (prV p)=true/\(ls.map prV).all (good dep)=true then Res.ok (PV.bl (((ls.map prV).any fun y=>peq y (prV p)) != false)) S else .stuck)=_
 rw [bT ⟨rfl,by rw [List.all_map,F0]; exact fun _ _=>rfl⟩];have:((ls.map prV).any fun y=>peq y (prV p))=decide (p∈ls):=by
  rw [List.any_map]
  by_cases q:p∈ls
  ·rw [bW q,List.any_eq_true];exact ⟨p,q,by show peq (prV p) (prV p)=true; rw [Qai]; simp⟩
  ·rw [bV q,List.any_eq_false];intro x z;show ¬ peq (prV x) (prV p)=true;rw [Qai];intro e;have e:x=p:=by simpa using e
   rw [e] at z; exact q z
 rw [this,Bool.bne_false]
theorem Qu5 {a b:ME} {x y:Bool} (h:a Γ S=.ok (.bl x) S) (h2:b Γ S=.ok (.bl y) S):mOr a b Γ S=.ok (.bl (x || y)) S:=by
 rw [Qr0,h,Qm];cases x with
 | true=>rfl
 | false=>exact h2
theorem Zb (S:Q0) (c:Cell):(S ++ [c])[S.length]?=some c:=by rw [D9 (O6 _),Nat.sub_self]; rfl
theorem Qs7 (S:Q0) {a b:List PV} (h:a.length + b.length<=1000000):Ji S (.tup a) (.tup b)=.ok (.tup (a ++ b)) S:=bT (show _<=lim from h)
def lsT (ls ms:List (Int × Str)):List (Int × Str):=Xd (Ym (ls ++ ms))
theorem Qa6 (ss:List Str) (ls:List (Int × Str)) (u:Int):good 12 (stV ss ls u)=true:=by
 show ((ss.map PV.str).all (good 10) && ((ls.map prV).all (good 10) && (true && true)))=true;have h1:(ss.map PV.str).all (good 10)=true:=by rw [List.all_map,F0]; exact fun _ _=>rfl
 have h2:(ls.map prV).all (good 10)=true:=by rw [List.all_map,F0]; exact fun _ _=>rfl
 rw [h1,h2];rfl
theorem Yb {α:Type} [DecidableEq α]:∀ {l m:List α},l.Nodup->(∀ x∈l,x∈m)->l.length<=m.length
 | [],_,_,_=>G8 _
 | a :: l,m,h,hs=>by
  obtain ⟨h1,h2⟩:=List.nodup_cons.mp h;have z:=hs a (by simp);have:=Yb (m:=m.erase a) h2 fun x q=>(List.mem_erase_of_ne (show x≠a from fun e=>h1 (by rw [<- e]; exact q))).mpr (hs x (O4 _ q))
  rw [List.length_erase_of_mem z] at this;have:=List.length_pos_of_mem z;rw [O9];omega
theorem Qg8 [DecidableEq α] {acc:List α} {p x:α}:x∈Zd acc p <-> x∈acc\/x=p:=by
 unfold Zd
 split
 ·rename_i q;exact ⟨.inl,fun h=>h.elim id (fun e=>e ▸ q)⟩
 ·simp
theorem Q6z {α:Type} [DecidableEq α] {x:α}:∀ {ps acc:List α},x∈ps.foldl Zd acc <-> x∈acc\/x∈ps
 | [],acc=>by simp
 | p :: ps,acc=>by
  rw [F8,Q6z,Qg8,D7];constructor
  ·rintro ((h | h) | h)
   ·exact .inl h
   ·exact .inr (.inl h)
   ·exact .inr (.inr h)
  ·rintro (h | h | h)
   ·exact .inl (.inl h)
   ·exact .inl (.inr h)
   ·exact .inr h
theorem Qmx [DecidableEq α] {ks:List α} (h:ks.Nodup) (k:α):(Zd ks k).Nodup:=by
 unfold Zd
 split
 ·exact h
 ·rename_i q;exact L4.mpr ⟨h,by simp,fun x z y I e=>by
   have:y=k:=by simpa using I
   rw [e,this] at z; exact q z⟩
theorem Qb7 {α:Type} [DecidableEq α]:∀ {ps acc:List α},acc.Nodup->(ps.foldl Zd acc).Nodup
 | [],_,h=>h
 | p :: ps,_,h=>by rw [F8]; exact Qb7 (Qmx h p)
theorem mem_lsT {ms:List (Int × Str)} {x:Int × Str}:x∈lsT ls ms <-> x∈ls\/x∈ms:=by
 unfold lsT;rw [(W7 _).mem_iff];unfold Ym;rw [Q6z,E1];simp
def InW (ws:List Str) (p:Int × Str):Prop:=0<=p.1/\p.1 < 4/\p.2∈ws
structure StI (n:Nat) (ws:List Str) (ss:List Str) (ls:List (Int × Str)):Prop where
 len:ss.length=n
 nd:ls.Nodup
 sub:∀ p∈ls,InW ws p
theorem StI.small (I:StI n ws ss ls) (J:ws.length<=2):ls.length<=8:=by
 have h:=Yb (m:=(ws.map fun w=>(0,w)) ++ (ws.map fun w=>(1,w)) ++ (ws.map fun w=>(2,w)) ++ (ws.map fun w=>((3:Int),w))) I.nd fun p z=>by
  obtain ⟨h1,h2,q⟩:=I.sub p z;have:p.1=0\/p.1=1\/p.1=2\/p.1=3:=by omega
  obtain ⟨a,b⟩:=p;simp only [E1,D6,Prod.mk.injEq];rcases this with e | e | e | e
  ·exact .inl (.inl (.inl ⟨b,q,e.symm,rfl⟩))
  ·exact .inl (.inl (.inr ⟨b,q,e.symm,rfl⟩))
  ·exact .inl (.inr ⟨b,q,e.symm,rfl⟩)
  ·exact .inr ⟨b,q,e.symm,rfl⟩
 simp only [O5,O1] at h;omega
structure RuI (n:Nat) (ws:List Str) (r:Ru):Prop where
 h:r.h < n
 ms:r.ms.length<=8
 sub:∀ p∈r.ms,InW ws p
def Qsw (rs:List Ru):List Int->List Str->List (Int × Str)->Int->Option Int
 | [],_,_,u=>some u
 | k :: ks,ss,ls,u=>match rs[k.toNat]? with
  | some r=>if 0<=k/\Q5e r ss ls=true then Qsw rs ks (ss.set r.h r.t) (lsT ls r.ms) (u + r.u) else none
  | none=>none
structure MI1 (starts:List Str) (rs:List Ru) (ws:List Str):Prop where
 w2:ws.length<=2
 ru:∀ r∈rs,RuI starts.length ws r
 len:rs.length<=9
theorem Qks (r:Ru) (J:r.h < ss.length) (ls:List (Int × Str)) (u:Int) (S:Q0):Zz [ruV r,stV ss ls u] S=.ok (.bl (Q5e r ss ls)) S:=by
 refine X1 ?_;show Wr [some (ruV r),some (stV ss ls u)] S=_;have h1:=ixs J S;have z:=nes S (ss.getD r.h Str.empty) r.s;have I:Q4y false ["go", "fall"] (mOp oIx (Q2 0) (mC (.int 2))) [some (ruV r),some (stV ss ls u)] S=.ok (.bl (evB r.e)) S:=by
  rw [Q9d (x:=r.e) (S1:=S) rfl];congr 2;rw [Bool.bne_false];show (decide ("go" = r.e) || (decide ("fall" = r.e) || false))=_;unfold evB;rw [Bool.or_false];congr 1 <;> exact decide_eq_decide.mpr eq_comm
 unfold Wr Q5e
 by_cases q:ss.getD r.h Str.empty=r.s
 ·rw [bW q] at z ⊢;rw [Bool.true_and];exact Q6 (Ye (Qj (Qd (Qd rfl rfl h1) rfl z)) rfl) (Qs (Qu5 I (Qd rfl rfl (Qrm ls ((r.h:Int),r.e) S))))
 ·rw [bV q] at z ⊢;rw [Bool.false_and];exact Vm (zh (Qj (Qd (Qd rfl rfl h1) rfl z)) rfl)
theorem Qjw (ns:List (Int × Str)):Q6k (ns.map prV)=some ns:=by
 induction ns with
 | nil=>rfl
 | cons p ns q=>show (Q6k (ns.map prV)).map ((p.1,p.2) :: ·)=_; rw [q]; rfl
theorem Qeg (l:List α) (q:h < l.length) (x:α):l.take h ++ [x] ++ l.drop (h + 1)=l.set h x:=by
 rw [List.set_eq_take_append_cons_drop,bT q];simp
theorem Q8i (r:Ru) (q:r.h < ss.length) (J:ss.length<=100) (z:ls.length + r.ms.length < 64) (u:Int) (S:Q0):Qn [ruV r,stV ss ls u] S=.ok (stV (ss.set r.h r.t) (lsT ls r.ms) (u + r.u)) S:=by
 have st:Yn [some (ruV r),some (stV ss ls u),none] S=.rt (stV (ss.set r.h r.t) (lsT ls r.ms) (u + r.u)) S:=by
  unfold Yn;have k1:mSl (mOp oIx (Q2 1) (mC (.int 0))) Jk (Zt (mOp oIx (Q2 0) (mC (.int 0)))) [some (ruV r),some (stV ss ls u),none] S=.ok (.tup ((ss.take r.h).map .str)) S:=by
   show Res.ok (PV.tup (cut (ss.map PV.str) none (some (r.h:Int)))) S=_;rw [Q3u,List.map_take]
  have k2:mSl (mOp oIx (Q2 1) (mC (.int 0))) (Zt (mOp Ji (mOp oIx (Q2 0) (mC (.int 0))) (mC (.int 1)))) Jk [some (ruV r),some (stV ss ls u),none] S=.ok (.tup ((ss.drop (r.h + 1)).map .str)) S:=by
   show Res.ok (PV.tup (cut (ss.map PV.str) (some ((r.h:Int) + 1)) none)) S=_;rw [show ((r.h:Int) + 1)=((r.h + 1:Nat):Int) by push_cast; rfl,Q7r,List.map_drop]
  have U:((ss.take r.h).map PV.str).length<=100:=by rw [O1,L7]; omega
  have O:((ss.drop (r.h + 1)).map PV.str).length<=100:=by rw [O1,List.length_drop]; omega
  have I:Ji S (.tup ((ss.take r.h).map .str)) (.tup [.str r.t])=.ok (.tup ((ss.take r.h ++ [r.t]).map .str)) S:=by rw [Qs7 S (by simp; omega),E5]; rfl
  have a2:Ji S (.tup ((ss.take r.h ++ [r.t]).map .str)) (.tup ((ss.drop (r.h + 1)).map .str))=.ok (.tup ((ss.set r.h r.t).map .str)) S:=by
   rw [Qs7 S (by rw [E5,O5]; simp; omega),<- E5,Qeg ss q]
  have a3:Ji S (.tup (ls.map prV)) (.tup (r.ms.map prV))=.ok (.tup ((ls ++ r.ms).map prV)) S:=by
   rw [Qs7 S (by rw [O1,O1]; omega),E5]
  have a4:Ku (mOp Ji (mOp oIx (Q2 1) (mC (.int 1))) (mOp oIx (Q2 0) (mC (.int 5)))) [some (ruV r),some (stV ss ls u),some (.tup ((ss.set r.h r.t).map .str))] S=.ok (.lst ((lsT ls r.ms).map prV)) S:=by
   unfold Ku;rw [Qd rfl rfl a3,Qm];show (match Q6k ((ls ++ r.ms).map prV) with | some ns=>if ns.length < 64 then Res.ok (PV.lst ((Xd (Ym ns)).map prV)) S else .stuck | none=>.stuck)=_
   rw [Qjw];show (if (ls ++ r.ms).length < 64 then _ else _)=_;rw [bT (by rw [O5]; exact z)];rfl
  exact Q6 (Qi (Qd (Qd k1 rfl I) k2 a2)) (Qs (Z1 (Q3 rfl (Q3 (Zu (Q3 a4 rfl) rfl) (Q3 (Qd rfl rfl (Q85 S u r.u)) rfl))) (by simp)))
 have:=zq (nl:=3) (ps:=[ruV r,stV ss ls u]) st;unfold Qn;rw [this];exact Q7i (Qa6 _ _ _)
def Kh (rs:List Ru) (ss:List Str) (ls:List (Int × Str)):List (Ru × Nat):=rs.zipIdx.filter fun p=>Q5e p.1 ss ls
def nV (p:Ru × Nat):PV:=.int (p.2:Int)
def Qvf (rs:List Ru) (ss:List Str) (ls:List (Int × Str)):List PV:=(Kh rs ss ls).map nV
theorem Qhp:∀ (rs:List Ru) (n:Nat),Vf n (rs.map ruV)=(rs.zipIdx n).map fun p=>.tup [.int (p.2:Int),ruV p.1]
 | [],_=>rfl
 | r :: rs,n=>by rw [D0,List.zipIdx_cons,D0,<- Qhp rs (n + 1)]; rfl
theorem Qds {p:Ru × Nat} (h:p∈rs.zipIdx):rs[p.2]?=some p.1:=M0.mp h
theorem Q90 {most:Int} {q:List Str} (M:MI1 q rs ws) (hs:ss.length=q.length) (ls:List (Int × Str)) (u:Int) (S:Q0):Qh [Qk most q (rs.map ruV),stV ss ls u] S=.ok (.ref S.length) (S ++ [.lst (Qvf rs ss ls)]):=by
 refine Qq ?_;show Y7 [some (Qk most q (rs.map ruV)),some (stV ss ls u)] S=_;have I:Jy (Q28 (Yq (Qe 0) (Yq (Qe 1) Q29))) Zf Zi [] [none,none,some (stV ss ls u)] (Vf 0 (rs.map ruV)) S=.ok (Qvf rs ss ls) S:=by
  rw [Qhp];exact qa (fun p:Ru × Nat=>.tup [.int (p.2:Int),ruV p.1]) nV (fun p=>Q5e p.1 ss ls) (Qp _) fun p J=>⟨_,rfl,Qj (Q5 (n:=2) rfl rfl (Qks p.1 (by rw [hs]; exact (M.ru _ (E3 (Qds J))).h) ls u S)),fun _=>rfl⟩
 have z:Q73 (Q1 (mOp oIx (Q2 0) (mC (.int 2))) Q4) [some (Qk most q (rs.map ruV)),some (stV ss ls u)] S=.ok (Vf 0 (rs.map ruV),[]) S:=by
  show (if (rs.map ruV).length<=lim then Res.ok (Vf 0 (rs.map ruV),([]:Wt)) S else .stuck)=_;exact bT (by rw [O1,xc]; have:=M.len; omega)
 exact Qs (U5 (Y4 z I))
def InG (n:Nat) (ws:List Str) (p:Int × Str):Prop:=0<=p.1/\p.1 < n/\p.2∈ws
theorem Qaw {n:Nat} {ws:List Str}:∀ {ls:List PV},(∀ l∈ls,Q98 n l=true)->(∀ l∈ls,∃ (h:Int) (y:Str),l=.tup [.int h,.str y]/\y∈ws)->∃ ms:List (Int × Str),ls=ms.map prV/\∀ p∈ms,InG n ws p
 | [],_,_=>⟨[],rfl,fun p q=>nomatch q⟩
 | l :: ls,h1,h2=>by
  obtain ⟨ms,e,hm⟩:=Qaw (fun x z=>h1 x (O4 _ z)) (fun x z=>h2 x (O4 _ z))
  obtain ⟨x,s,J,U,Y,_⟩:=Q53 (h1 l (by simp));obtain ⟨h,y,I,O⟩:=h2 l (by simp);rw [J] at I;cases I;refine ⟨(x,s) :: ms,by rw [D0,<- e,J]; rfl,fun p q=>?_⟩;rcases D7.mp q with rfl | q
  ·exact ⟨U,by show x < n; omega,O⟩
  ·exact hm p q
structure RuJ (n:Nat) (sts ws:List Str) (r:Ru):Prop where
 h:r.h < n
 ms:r.ms.length<=8
 sub:∀ p∈r.ms,InG n ws p
 t:r.t∈sts
 u0:0<=r.u
theorem Qjf {q:List Str} (h:Ur n p=true) (Y:Q2r ws p) (hs:Qa1 q p):∃ r,p=ruV r/\RuJ n q ws r:=by
 obtain ⟨x,s,e,t,u,ls,rfl,U,x1,_,_,_,u0,_,J,z⟩:=Q16 h;obtain ⟨ms,rfl,I⟩:=Qaw z (Y _ _ _ _ _ ls rfl);obtain ⟨y,O,Z⟩:=hs _ _ _ _ _ _ rfl;cases Z;refine ⟨⟨x.toNat,s,e,t,u,ms⟩,?_,⟨by show x.toNat < n; omega,by rw [O1] at J; exact J,I,O,u0⟩⟩;show _=PV.tup [.int (x.toNat:Nat),.str s,.str e,.str t,.int u,.tup (ms.map prV)];rw [Int.toNat_of_nonneg U]
theorem Q69 {n:Nat} {q ws:List Str}:∀ {rules:List PV},(∀ p∈rules,Ur n p=true/\Q2r ws p/\Qa1 q p)->∃ rs:List Ru,rules=rs.map ruV/\∀ r∈rs,RuJ n q ws r
 | [],_=>⟨[],rfl,fun r I=>nomatch I⟩
 | p :: rules,h=>by
  obtain ⟨rs,e,I⟩:=Q69 fun x z=>h x (O4 _ z)
  obtain ⟨h1,h2,O⟩:=h p (by simp);obtain ⟨r,J,h1⟩:=Qjf h1 h2 O;refine ⟨r :: rs,by rw [D0,<- e,J],fun x z=>?_⟩;rcases D7.mp z with rfl | z
  ·exact h1
  ·exact I x z
structure MI2 (most:Int) (starts:List Str) (rs:List Ru) (sts ws:List Str):Prop where
 m0:0<=most
 w2:ws.length<=2
 n4:starts.length<=4
 cnt:sts.length ^ starts.length * 2 ^ (starts.length * ws.length) * (most.toNat + 1)<=1200
 st:∀ x∈starts,x∈sts
 ru:∀ r∈rs,RuJ starts.length sts ws r
 len:rs.length<=9
 sw:∀ x∈sts,Z6 x=true
 lw:∀ x∈ws,Qn0 x
theorem MI2.one {most:Int} {q:List Str} {z:List Str} (M:MI2 most q rs z ws):MI1 q rs ws:=⟨M.w2,fun r I=>⟨(M.ru r I).h,(M.ru r I).ms,fun p J=>let ⟨a,b,c⟩:=(M.ru r I).sub p J; ⟨a,by have:=M.n4; omega,c⟩⟩,M.len⟩
theorem Qg9 (hB:B<=1200) {most:Int} {q:List Str} {rules:List PV} (h:Man B most q rules):∃ rs z ws,rules=rs.map ruV/\MI2 most q rs z ws:=by
 obtain ⟨z,ws,w2,U,h1,Y,J,Z⟩:=h.ws;obtain ⟨rs,e,O⟩:=Q69 (rules:=rules) fun p I=>⟨F0.mp h.r p I,Y p I⟩
 exact ⟨rs,z,ws,e,h.m0,w2,h.s4,E6 U hB,h1,O,by have:=h.len; rw [e,O1] at this; exact this,J,Z⟩
abbrev Sd:=List Str × List (Int × Str) × Int
variable {s s0:Sd} {fr X:List Sd} {G:List (Sd × Nat)}
def sdV (s:Sd):PV:=stV s.1 s.2.1 s.2.2
def sdK (s:Sd):HK:=.tup [.tup (s.1.map .str),.tup (s.2.1.map kP),.int s.2.2]
theorem Qgq (d:Nat) (ss:List Str):Z3 (Wg d) (ss.map .str)=some (ss.map .str):=by
 induction ss with
 | nil=>rfl
 | cons x ss q=>
  rw [D0,Z3,q];have:Wg d (.str x)=some (.str x):=by cases d <;> rfl
  rw [this];rfl
theorem Qay (d:Nat) (ls:List (Int × Str)):Z3 (Wg (d + 1)) (ls.map prV)=some (ls.map kP):=by
 induction ls with
 | nil=>rfl
 | cons p ls q=>
  rw [D0,Z3,q];have:Wg (d + 1) (prV p)=some (kP p):=by cases d <;> rfl
  rw [this];rfl
theorem yd (s:Sd):Ud (sdV s)=some (sdK s):=by
 show (Z3 (Wg 4) [.tup (s.1.map .str),.tup (s.2.1.map prV),.int s.2.2]).map HK.tup=_;have q:Wg 4 (.tup (s.1.map .str))=some (.tup (s.1.map .str)):=by
  show (Z3 (Wg 3) (s.1.map .str)).map HK.tup=_;rw [Qgq]; rfl
 have z:Wg 4 (.tup (s.2.1.map prV))=some (.tup (s.2.1.map kP)):=by
  show (Z3 (Wg 3) (s.2.1.map prV)).map HK.tup=_;rw [Qay]; rfl
 simp only [Z3,q,z];rfl
theorem Q4d {t:Sd} (h:sdK s=sdK t):s=t:=by
 obtain ⟨a,b,c⟩:=s;obtain ⟨q,z,J⟩:=t;unfold sdK at h;simp only [HK.tup.injEq,List.cons.injEq,HK.int.injEq,and_true] at h;obtain ⟨h1,h2,I⟩:=h;have k1:a=q:=List.map_inj_right (fun x y e=>by cases e; rfl) |>.mp h1;have k2:b=z:=List.map_inj_right (fun x y e=>Qgt e) |>.mp h2;rw [k1,k2,I]
theorem Qnk (s:Sd):hkV (sdK s)=sdV s:=Quv (yd s)
def stp (r:Ru) (s:Sd):Sd:=(s.1.set r.h r.t,lsT s.2.1 r.ms,s.2.2 + r.u)
def fit (r:Ru) (s:Sd):Bool:=Q5e r s.1 s.2.1
structure SdI (n:Nat) (sts ws:List Str) (s:Sd):Prop where
 len:s.1.length=n
 st:∀ x∈s.1,x∈sts
 nd:s.2.1.Nodup
 so:s.2.1.Pairwise leQ
 sub:∀ p∈s.2.1,InG n ws p
 u0:0<=s.2.2
theorem SdI.one {q:List Str} (I:SdI n q ws s) (J:n<=4):StI n ws s.1 s.2.1:=⟨I.len,I.nd,fun p z=>let ⟨a,b,c⟩:=I.sub p z; ⟨a,by omega,c⟩⟩
theorem SdI.step {q:List Str} {r:Ru} (I:SdI n q ws s) (J:RuJ n q ws r):SdI n q ws (stp r s) where
 len:=by show (s.1.set r.h r.t).length=n; rw [L6]; exact I.len
 st:=fun x z=>by
  rcases List.mem_or_eq_of_mem_set z with h | h
  ·exact I.st x h
  ·rw [h]; exact J.t
 nd:=(W7 _).nodup_iff.mpr (Qb7 List.nodup_nil)
 so:=Yi _
 sub:=fun p O=>(mem_lsT.mp O).elim (I.sub p) (J.sub p)
 u0:=by show 0<=s.2.2 + r.u; have:=I.u0; have:=J.u0; omega
def pws {α:Type} (xs:List α):Nat->List (List α)
 | 0=>[[]]
 | n + 1=>xs.flatMap fun x=>(pws xs n).map (x :: ·)
theorem Q4i {α:Type} (xs:List α):∀ n,(pws xs n).length=xs.length ^ n
 | 0=>rfl
 | n + 1=>by
  rw [pws,List.length_flatMap];have:(xs.map fun x=>((pws xs n).map (x :: ·)).length)=xs.map fun _=>xs.length ^ n:=N0 fun x _=>by rw [O1,Q4i xs n]
  rw [this,List.map_const',List.sum_replicate_nat,Nat.pow_succ,Nat.mul_comm]
theorem Q4w {α:Type} {xs:List α}:∀ {n:Nat} {l:List α},l.length=n->(∀ x∈l,x∈xs)->l∈pws xs n
 | 0,[],_,_=>by simp [pws]
 | n + 1,a :: l,h,hs=>by
  rw [pws,G7];exact ⟨a,hs a (by simp),D6.mpr ⟨l,Q4w (by simpa using h) fun x q=>hs x (O4 _ q),rfl⟩⟩
def Qha (n:Nat) (ws:List Str):List (Int × Str):=(List.range n).flatMap fun (h:Nat)=>ws.map fun w=>((h:Int),w)
theorem Qh9 (n:Nat) (ws:List Str):(Qha n ws).length=n * ws.length:=by
 unfold Qha;rw [List.length_flatMap];have:((List.range n).map fun (h:Nat)=>(ws.map fun w=>((h:Int),w)).length)=(List.range n).map fun _=>ws.length:=N0 fun x _=>by rw [O1]
 rw [this,List.map_const',List.sum_replicate_nat,F7]
theorem Q6y {p:Int × Str} (h:InG n ws p):p∈Qha n ws:=by
 obtain ⟨a,b,c⟩:=h;refine G7.mpr ⟨p.1.toNat,List.mem_range.mpr (by omega),D6.mpr ⟨p.2,c,?_⟩⟩;rw [Int.toNat_of_nonneg a]
def tel (n:Nat) (ws:List Str) (s:Sd):List Str × List Bool × Nat:=(s.1,(Qha n ws).map (fun p=>decide (p∈s.2.1)),s.2.2.toNat)
theorem Qir {z:List Str} {t:Sd} (I:SdI n z ws s) (J:SdI n z ws t) (h:tel n ws s=tel n ws t):s=t:=by
 obtain ⟨a,b,c⟩:=s;obtain ⟨a',Z,Y⟩:=t;unfold tel at h;simp only [Prod.mk.injEq] at h;obtain ⟨h1,h2,h3⟩:=h;have hm:∀ p,p∈b <-> p∈Z:=fun p=>by
  have O:∀ q∈Qha n ws,decide (q∈b)=decide (q∈Z):=fun q hq=>List.map_inj_left.mp h2 q hq
  constructor
  ·intro U;have:=O p (Q6y (I.sub p U));rw [bW U] at this;exact of_decide_eq_true this.symm
  ·intro U;have:=O p (Q6y (J.sub p U));rw [bW U] at this;exact of_decide_eq_true this
 have k2:b=Z:=Uy ((List.perm_ext_iff_of_nodup I.nd J.nd).mpr hm) I.so J.so;have u1:=I.u0;have u2:=J.u0;have k3:c=Y:=by
  have h3:c.toNat=Y.toNat:=h3;have u1:0<=c:=u1;have u2:0<=Y:=u2;omega
 rw [h1,k2,k3]
theorem jt {α β:Type} (f:α->β):∀ {l:List α},l.Nodup->(∀ x∈l,∀ y∈l,f x=f y->x=y)->(l.map f).Nodup
 | [],_,_=>List.nodup_nil
 | a :: l,h,hi=>by
  obtain ⟨h1,h2⟩:=List.nodup_cons.mp h;rw [D0];refine List.nodup_cons.mpr ⟨fun hm=>?_,jt f h2 fun x q y z=>hi x (O4 _ q) y (O4 _ z)⟩;obtain ⟨x,q,e⟩:=D6.mp hm;rw [hi x (O4 _ q) a (by simp) e] at q;exact h1 q
theorem few {most:Int} {q:List Str} {z:List Str} (M:MI2 most q rs z ws) {l:List Sd} (h:l.Nodup) (O:∀ s∈l,SdI q.length z ws s/\s.2.2<=most):l.length<=1200:=by
 have U:=jt (tel q.length ws) h fun x J y hy=>Qir (O x J).1 (O y hy).1
 have:=Yb (m:=(pws z q.length).flatMap fun a=>(pws [false,true] (q.length * ws.length)).flatMap fun b=>(List.range (most.toNat + 1)).map fun c=>(a,b,c)) U fun x J=>by
  obtain ⟨s,hs,rfl⟩:=D6.mp J;obtain ⟨I,hu⟩:=O s hs;have a1:=I.u0;have a2:=M.m0;refine G7.mpr ⟨s.1,Q4w I.len I.st,G7.mpr ⟨_,Q4w (by rw [O1,Qh9]) (fun b _=>by cases b <;> simp),D6.mpr ⟨s.2.2.toNat,List.mem_range.mpr (by omega),rfl⟩⟩⟩
 rw [O1] at this;refine E6 this (E6 (Nat.le_of_eq ?_) M.cnt);rw [List.length_flatMap];have Z:((pws z q.length).map fun a=>((pws [false,true] (q.length * ws.length)).flatMap fun b=>(List.range (most.toNat + 1)).map fun c=>(a,b,c)).length)=(pws z q.length).map fun _=>2 ^ (q.length * ws.length) * (most.toNat + 1):=N0 fun a _=>by
  rw [List.length_flatMap];have Y:((pws [false,true] (q.length * ws.length)).map fun b=>((List.range (most.toNat + 1)).map fun c=>(a,b,c)).length)=(pws [false,true] (q.length * ws.length)).map fun _=>most.toNat + 1:=N0 fun b _=>by rw [O1,F7]
  rw [Y,List.map_const',List.sum_replicate_nat,Q4i];rfl
 rw [Z,List.map_const',List.sum_replicate_nat,Q4i,Nat.mul_assoc]
def Q9z (a:List Sd × List Sd) (t:Sd):List Sd × List Sd:=if t∈a.1 then a else (a.1 ++ [t],a.2 ++ [t])
def nxt (rs:List Ru) (fr:List Sd):List Sd:=fr.flatMap fun s=>(rs.filter (fit · s)).map (stp · s)
def lev (rs:List Ru) (a:List Sd × List Sd):List Sd × List Sd:=(nxt rs a.2).foldl Q9z (a.1,[])
def lvs (rs:List Ru) (s0:Sd):Nat->List Sd × List Sd
 | 0=>([s0],[s0])
 | i + 1=>lev rs (lvs rs s0 i)
def Vg (rs:List Ru) (most:Int) (fr:List Sd):Bool:=fr.any fun s=>rs.any fun r=>fit r s && decide (most < s.2.2 + r.u)
theorem Qz:∀ (xs K I:List Sd),∃ ex,xs.foldl Q9z (K,I)=(K ++ ex,I ++ ex)/\(∀ x∈ex,x∈xs)/\(∀ x∈xs,x∈K ++ ex)/\(K.Nodup->(K ++ ex).Nodup)
 | [],K,I=>⟨[],by simp,by simp,by simp,by simp⟩
 | x :: xs,K,I=>by
  rw [F8]
  by_cases q:x∈K
  ·obtain ⟨ex,h1,h2,O,J⟩:=Qz xs K I;refine ⟨ex,by unfold Q9z; rw [bT q]; exact h1,fun y z=>O4 _ (h2 y z),fun y z=>?_,J⟩;rcases D7.mp z with rfl | z
   ·exact F6 _ q
   ·exact O y z
  ·obtain ⟨ex,h1,h2,O,J⟩:=Qz xs (K ++ [x]) (I ++ [x]);refine ⟨x :: ex,?_,fun y z=>?_,fun y z=>?_,fun Y=>?_⟩
   ·unfold Q9z; rw [bU q]; show xs.foldl Q9z (K ++ [x],I ++ [x])=_; rw [h1]; simp
   ·rcases D7.mp z with rfl | z
    ·simp
    ·exact O4 _ (h2 y z)
   ·rcases D7.mp z with rfl | z
    ·simp
    ·have:=O y z; simpa using this
   ·have:(K ++ [x]).Nodup:=L4.mpr ⟨Y,by simp,fun a U b Z e=>by
     have:b=x:=by simpa using Z
     rw [e,this] at U; exact q U⟩
    have:=J this;simpa using this
def Qr {α:Type} (f:α->PV) (G:List (Sd × α)):List (HK × PV):=G.map fun e=>(sdK e.1,f e.2)
def Jt {α:Type} (a:List (Sd × α) × List Sd) (x:Sd × α):List (Sd × α) × List Sd:=if x.1∈a.1.map (·.1) then a else (a.1 ++ [x],a.2 ++ [x.1])
theorem zw {α:Type}:∀ (xs:List (Sd × α)) (a:List (Sd × α) × List Sd),((xs.foldl Jt a).1.map (·.1),(xs.foldl Jt a).2)=(xs.map (·.1)).foldl Q9z (a.1.map (·.1),a.2)
 | [],a=>rfl
 | x :: xs,a=>by
  rw [F8,D0,F8,zw xs];congr 1;unfold Jt Q9z
  by_cases q:x.1∈a.1.map (·.1)
  ·rw [bT q,bT q]
  ·rw [bU q,bU q,E5]; rfl
theorem Yz {α:Type}:∀ (xs:List (Sd × α)) (a:List (Sd × α) × List Sd),∃ ex,(xs.foldl Jt a).1=a.1 ++ ex/\(xs.foldl Jt a).2=a.2 ++ ex.map (·.1)/\∀ x∈ex,x∈xs
 | [],a=>⟨[],by simp,by simp,by simp⟩
 | x :: xs,a=>by
  rw [F8]
  by_cases q:x.1∈a.1.map (·.1)
  ·obtain ⟨ex,h1,h2,I⟩:=Yz xs a;have:Jt a x=a:=by unfold Jt; rw [bT q]
   rw [this];exact ⟨ex,h1,h2,fun y z=>O4 _ (I y z)⟩
  ·have:Jt a x=(a.1 ++ [x],a.2 ++ [x.1]):=by unfold Jt; rw [bU q]
   rw [this];obtain ⟨ex,h1,h2,I⟩:=Yz xs (a.1 ++ [x],a.2 ++ [x.1]);refine ⟨x :: ex,by rw [h1]; simp,by rw [h2]; simp,fun y z=>?_⟩;rcases D7.mp z with rfl | z
   ·simp
   ·exact O4 _ (I y z)
theorem Qin (f:α->PV) (G:List (Sd × α)) (t:Sd):(U4 (Qr f G) (sdK t)).isSome=decide (t∈G.map (·.1)):=by
 unfold U4 Qr;rw [Option.isSome_map]
 by_cases q:t∈G.map (·.1)
 ·rw [bW q,List.find?_isSome];obtain ⟨e,I,rfl⟩:=D6.mp q;exact ⟨_,D6.mpr ⟨e,I,rfl⟩,by simp⟩
 ·rw [bV q];cases z:List.find? (fun kv=>decide (kv.1=sdK t)) (G.map fun e=>(sdK e.1,f e.2)) with
  | none=>rfl
  | some x=>
   have h1:=List.mem_of_find?_eq_some z;have h2:=List.find?_some z;obtain ⟨y,J,rfl⟩:=D6.mp h1;have h2:sdK y.1=sdK t:=by simpa using h2
   exact absurd (D6.mpr ⟨y,J,Q4d h2⟩) q
theorem Q89 {α:Type} (f:α->PV):∀ {G:List (Sd × α)} {t:Sd} {a:α},(G.map (·.1)).Nodup->(t,a)∈G->U4 (Qr f G) (sdK t)=some (f a)
 | e :: G,t,a,I,hm=>by
  unfold U4 Qr;rw [D0,List.find?_cons];rw [D0] at I;obtain ⟨h1,h2⟩:=List.nodup_cons.mp I;rcases D7.mp hm with rfl | hm
  ·simp
  ·have q:¬ e.1=t:=fun z=>h1 (by rw [z]; exact D6.mpr ⟨_,hm,rfl⟩)
   have:decide (sdK e.1=sdK t)=false:=bV fun z=>q (Q4d z)
   simp only [this];exact Q89 f h2 hm
theorem Qaf (f:α->PV) {G:List (Sd × α)} {t:Sd} {a:α} (h:t∉G.map (·.1)):Sm.putT (Qr f G) (sdK t) (f a)=Qr f (G ++ [(t,a)]):=by
 unfold Sm.putT;rw [bU]
 ·unfold Qr; rw [E5]; rfl
 ·unfold Qr;rw [List.any_map,List.any_eq_true];rintro ⟨x,q,e⟩;have e:sdK x.1=sdK t:=by simpa using e
  exact h (D6.mpr ⟨x,q,Q4d e⟩)
def pV:Option (Nat × Sd)->PV
 | none=>.non
 | some (n,s)=>.tup [.int (n:Int),sdV s]
abbrev Pr:=Sd × Option (Nat × Sd)
variable {F:List Pr}
def Qiq (rs:List Ru) (s:Sd):List Pr:=(Kh rs s.1 s.2.1).map fun p=>(stp p.1 s,some (p.2,s))
def trp (rs:List Ru) (fr:List Sd):List Pr:=fr.flatMap (Qiq rs)
theorem Q86 (rs:List Ru) (p:Ru->Bool):∀ n,((rs.zipIdx n).filter fun x=>p x.1).map (·.1)=rs.filter p:=by
 induction rs with
 | nil=>intro n; rfl
 | cons r rs q=>
  intro n;rw [List.zipIdx_cons,List.filter_cons,List.filter_cons];cases p r with
  | true=>simp only [if_true]; rw [D0,q]
  | false=>exact q (n + 1)
theorem Qdy (rs:List Ru) (s:Sd):(Qiq rs s).map (·.1)=(rs.filter (fit · s)).map (stp · s):=by
 unfold Qiq;rw [L9];show (Kh rs s.1 s.2.1).map ((stp · s) ∘ (·.1))=_;rw [<- L9];congr 1;exact Q86 rs (fit · s) 0
theorem Qip (rs:List Ru) (fr:List Sd):(trp rs fr).map (·.1)=nxt rs fr:=by
 unfold trp nxt;rw [List.map_flatMap];congr 1;funext s;exact Qdy rs s
def lvF (rs:List Ru) (s0:Sd):Nat->List Pr × List Sd
 | 0=>([(s0,none)],[s0])
 | i + 1=>(trp rs (lvF rs s0 i).2).foldl Jt ((lvF rs s0 i).1,[])
theorem Xa (rs:List Ru) (s0:Sd):∀ i,((lvF rs s0 i).1.map (·.1),(lvF rs s0 i).2)=lvs rs s0 i
 | 0=>rfl
 | i + 1=>by
  have q:=Xa rs s0 i;show (((trp rs (lvF rs s0 i).2).foldl Jt ((lvF rs s0 i).1,[])).1.map (·.1),((trp rs (lvF rs s0 i).2).foldl Jt ((lvF rs s0 i).1,[])).2)=lev rs (lvs rs s0 i);rw [zw,Qip,<- q];rfl
inductive Tr (F:List Pr):Sd->List Nat->Prop
 | nil {s:Sd}:(s,none)∈F->Tr F s []
 | cons {s q:Sd} {n:Nat} {ks:List Nat}:(s,some (n,q))∈F->Tr F q ks->Tr F s (n :: ks)
theorem Tr.mono {q:List Pr} (h:∀ e∈F,e∈q):∀ {s:Sd} {ks:List Nat},Tr F s ks->Tr q s ks
 | _,_,.nil a=>.nil (h _ a)
 | _,_,.cons a b=>.cons (h _ a) (Tr.mono h b)
theorem Q50 (rs:List Ru) (s0:Sd) (i:Nat):∃ ex,(lvF rs s0 (i + 1)).1=(lvF rs s0 i).1 ++ ex/\(lvF rs s0 (i + 1)).2=ex.map (·.1)/\∀ x∈ex,x∈trp rs (lvF rs s0 i).2:=by
 obtain ⟨ex,h1,h2,q⟩:=Yz (trp rs (lvF rs s0 i).2) ((lvF rs s0 i).1,[]);exact ⟨ex,h1,by rw [show (lvF rs s0 (i + 1)).2=_ from h2]; simp,q⟩
theorem Qap {x:Pr} (h:x∈trp rs fr):∃ s r n,s∈fr/\rs[n]?=some r/\fit r s=true/\x=(stp r s,some (n,s)):=by
 obtain ⟨s,hs,q⟩:=G7.mp h;obtain ⟨p,z,rfl⟩:=D6.mp q;obtain ⟨h1,h2⟩:=F5.mp z;exact ⟨s,p.1,p.2,hs,Qds h1,h2,rfl⟩
theorem Q95 (rs:List Ru) (s0:Sd):∀ i,∀ s∈(lvF rs s0 i).2,∃ ks,ks.length=i/\Tr (lvF rs s0 i).1 s ks
 | 0,s,h=>⟨[],rfl,.nil (by
   have:s=s0:=by simpa [lvF] using h
   rw [this]; simp [lvF])⟩
 | i + 1,s,h=>by
  obtain ⟨ex,h1,h2,Y⟩:=Q50 rs s0 i;rw [h2] at h;obtain ⟨x,z,rfl⟩:=D6.mp h;obtain ⟨q,r,n,U,_,_,e⟩:=Qap (Y x z);obtain ⟨ks,O,I⟩:=Q95 rs s0 i q U;refine ⟨n :: ks,by rw [O9,O],.cons (q:=q) ?_ (I.mono fun e J=>by rw [h1]; exact F6 _ J)⟩;rw [h1];refine E4 _ ?_;have:(x.1,some (n,q))=x:=by rw [e]
  rw [this]; exact z
def Qnr (rs:List Ru) (s0:Sd) (F:List Pr):Prop:=∀ e∈F,(e.2=none->e.1=s0)/\∀ n q,e.2=some (n,q)->∃ r,rs[n]?=some r/\fit r q=true/\stp r q=e.1
theorem Q3k (rs:List Ru) (s0:Sd):∀ i,Qnr rs s0 (lvF rs s0 i).1
 | 0,e,h=>by
  have:e=(s0,none):=by simpa [lvF] using h
  rw [this];exact ⟨fun _=>rfl,fun n q z=>by cases z⟩
 | i + 1,e,h=>by
  obtain ⟨ex,h1,h2,O⟩:=Q50 rs s0 i;rw [h1] at h;rcases E1.mp h with h | h
  ·exact Q3k rs s0 i e h
  ·obtain ⟨q,r,n,hq,I,U,J⟩:=Qap (O e h);rw [J];exact ⟨fun z=>(by cases z),fun Z Y z=>(by cases z; exact ⟨r,I,U,rfl⟩)⟩
def wkS (rs:List Ru):List Nat->Sd->Option Sd
 | [],s=>some s
 | k :: ks,s=>match rs[k]? with
  | some r=>if fit r s=true then wkS rs ks (stp r s) else none
  | none=>none
theorem Q5u {rs:List Ru} {n:Nat} {r:Ru} (z:rs[n]?=some r):∀ {ks:List Nat} {a s:Sd},wkS rs ks a=some s->fit r s=true->wkS rs (ks ++ [n]) a=some (stp r s)
 | [],a,s,e,q=>by
  cases e;show (match rs[n]? with | some r=>if fit r a=true then wkS rs [] (stp r a) else none | none=>none)=_
  rw [z];simp only [q,if_true];rfl
 | k :: ks,a,s,e,q=>by
  rw [List.cons_append];unfold wkS at e ⊢
  split at e
  ·rename_i J I
   split at e
   ·rename_i h2;rw [bT h2];exact Q5u z e q
   ·cases e
  ·cases e
theorem Qn2 {rs:List Ru} {s0:Sd} {F:List Pr} (q:Qnr rs s0 F):∀ {s:Sd} {ks:List Nat},Tr F s ks->wkS rs ks.reverse s0=some s
 | s,[],.nil h=>by
  have e:s=s0:=(q _ h).1 rfl;rw [e]; rfl
 | s,n :: ks,.cons h t=>by
  obtain ⟨r,z,I,e⟩:=(q _ h).2 _ _ rfl;rw [List.reverse_cons,Q5u z (Qn2 q t) I];exact congrArg some e
theorem Qe3 {most:Int} {q:List Str} {z:List Str} (M:MI2 most q rs z ws):SdI q.length z ws (q,[],0):=⟨rfl,M.st,List.nodup_nil,.nil,fun p I=>(nomatch I),Int.le_refl _⟩
theorem yy {most:Int} {z:List Str} {rs:List Ru} {I ws:List Str} (M:MI2 most z rs I ws):∀ i,(lvs rs (z,[],0) i).1.Nodup/\(∀ s∈(lvs rs (z,[],0) i).2,s∈(lvs rs (z,[],0) i).1)/\∀ s∈(lvs rs (z,[],0) i).1,SdI z.length I ws s
 | 0 => ⟨by simp [lvs], by simp [lvs], fun s hs => by
   have:s=(z,[],0):=by simpa [lvs] using hs
   rw [this]; exact Qe3 M⟩
 | i + 1=>by
  obtain ⟨h1,h2,J⟩:=yy M i;obtain ⟨ex,e,U,g2,g3⟩:=Qz (nxt rs (lvs rs (z,[],0) i).2) (lvs rs (z,[],0) i).1 [];have e:lvs rs (z,[],0) (i + 1)=_:=e;rw [e];refine ⟨g3 h1,fun s hs=>E4 _ (by simpa using hs),fun s hs=>?_⟩;rcases E1.mp hs with hs | hs
  ·exact J s hs
  ·obtain ⟨q,Z,Y⟩:=G7.mp (U s hs);obtain ⟨r,O,rfl⟩:=D6.mp Y;exact (J q (h2 q Z)).step (M.ru r (F5.mp O).1)
theorem Qau {most:Int} {z:List Str} {rs:List Ru} {I ws:List Str} (M:MI2 most z rs I ws):∀ i,(∀ j,j < i->Vg rs most (lvs rs (z,[],0) j).2=false)->∀ s∈(lvs rs (z,[],0) i).1,s.2.2<=most
 | 0,_,s,hs=>by
  have:s=(z,[],0):=by simpa [lvs] using hs
  rw [this]; exact M.m0
 | i + 1,U,s,hs=>by
  have ih:=Qau M i (fun j hj=>U j (by omega))
  obtain ⟨ex,e,Z,g2,g3⟩:=Qz (nxt rs (lvs rs (z,[],0) i).2) (lvs rs (z,[],0) i).1 [];have e:lvs rs (z,[],0) (i + 1)=_:=e;rw [e] at hs;rcases E1.mp hs with hs | hs
  ·exact ih s hs
  ·obtain ⟨q,hq,hx⟩:=G7.mp (Z s hs);obtain ⟨r,Y,rfl⟩:=D6.mp hx;obtain ⟨J,O⟩:=F5.mp Y;have:=List.any_eq_false.mp (U i (by omega)) q hq;have:=List.any_eq_false.mp (Bool.not_eq_true _ ▸ this) r J;simp only [O,Bool.true_and,decide_eq_true_eq] at this;show q.2.2 + r.u<=most;omega
theorem z9 {most:Int} {q:List Str} {z:List Str} (M:MI2 most q rs z ws) {i:Nat} (I:∀ j,j < i->Vg rs most (lvs rs (q,[],0) j).2=false):(lvs rs (q,[],0) i).1.length<=1200:=few M (yy M i).1 fun s hs=>⟨(yy M i).2.2 s hs,Qau M i I s hs⟩
theorem Q1x {q:List Str} (i:Nat):(lvs rs (q,[],0) (i + 1)).1.length=(lvs rs (q,[],0) i).1.length + (lvs rs (q,[],0) (i + 1)).2.length:=by
 obtain ⟨ex,e,_⟩:=Qz (nxt rs (lvs rs (q,[],0) i).2) (lvs rs (q,[],0) i).1 [];have e:lvs rs (q,[],0) (i + 1)=_:=e;rw [e];simp
def Xj (rs:List Ru) (most:Int) (s0:Sd) (i:Nat):Prop:=Vg rs most (lvs rs s0 i).2=true\/(lvs rs s0 i).2=[]
theorem Q2b {most:Int} {rs:List Ru} (s0:Sd):∀ m,(∃ N,N<=m/\Xj rs most s0 N/\∀ i,i < N->¬ Xj rs most s0 i)\/∀ i,i<=m->¬ Xj rs most s0 i
 | 0=>by
  by_cases q:Xj rs most s0 0
  ·exact .inl ⟨0,O6 _,q,fun i hi=>by omega⟩
  ·exact .inr fun i hi=>by
    have:i=0:=by omega
    rw [this]; exact q
 | m + 1=>by
  rcases Q2b s0 m with ⟨N,h1,h2,I⟩ | h
  ·exact .inl ⟨N,by omega,h2,I⟩
  ·by_cases q:Xj rs most s0 (m + 1)
   ·exact .inl ⟨m + 1,O6 _,q,fun i hi=>h i (by omega)⟩
   ·refine .inr fun i hi=>?_
    by_cases z:i=m + 1
    ·rw [z]; exact q
    ·exact h i (by omega)
theorem Qta {most:Int} {q:List Str} {J:List Str} (M:MI2 most q rs J ws):∃ N,N<=1250/\Xj rs most (q,[],0) N/\∀ i,i < N->¬ Xj rs most (q,[],0) i:=by
 rcases Q2b (rs:=rs) (most:=most) (q,[],0) 1250 with h | h
 ·exact h
 ·have U:∀ j,j < 1250->Vg rs most (lvs rs (q,[],0) j).2=false:=fun j Y=>by
   cases z:Vg rs most (lvs rs (q,[],0) j).2 with
   | false=>rfl
   | true=>exact absurd (.inl z) (h j (by omega))
  have I:∀ i,i<=1250->i + 1<=(lvs rs (q,[],0) i).1.length:=by
   intro i
   induction i with
   | zero=>intro _; simp [lvs]
   | succ i O=>
    intro hi;have h1:=O (by omega);have h2:(lvs rs (q,[],0) (i + 1)).2.length≠0:=fun z=>h (i + 1) hi (.inr (List.eq_nil_of_length_eq_zero z))
    rw [Q1x];omega
  have h1:=I 1250 (O6 _);have h2:=z9 M U;omega
structure Gw (P:Nat->Prop) (S A:Q0):Prop where
 len:S.length<=A.length
 keep:∀ t,t < S.length->¬ P t->A[t]?=S[t]?
theorem Gw.refl (P:Nat->Prop) (S:Q0):Gw P S S:=⟨O6 _,fun _ _ _=>rfl⟩
theorem Gw.trans {P:Nat->Prop} {B:Q0} (a:Gw P S A) (b:Gw P A B):Gw P S B:=⟨E6 a.len b.len,fun t h1 h2=>(b.keep t (D3 h1 a.len) h2).trans (a.keep t h1 h2)⟩
theorem Gw.add (P:Nat->Prop) (S T:Q0):Gw P S (S ++ T):=⟨by rw [O5]; omega,fun t h _=>O7 h⟩
theorem Gw.put {P:Nat->Prop} (S:Q0) (h:P n) (c:Cell):Gw P S (S.set n c):=⟨by rw [L6]; exact O6 _,fun t _ h2=>F1 fun e=>h2 (by rw [<- e]; exact h)⟩
theorem Gw.mono {P Q:Nat->Prop} (a:Gw P S A) (h:∀ t,t < S.length->P t->Q t):Gw Q S A:=⟨a.len,fun t h1 h2=>a.keep t h1 fun z=>h2 (h t h1 z)⟩
theorem Gw.at {P:Nat->Prop} (a:Gw P S A) {t:Nat} {c:Cell} (h:S[t]?=some c) (q:¬ P t):A[t]?=some c:=by rw [a.keep t (O0.mp h).1 q]; exact h
theorem Gw.w {P:Nat->Prop} {S A:Q0} (a:Gw P S A) {w:Wt} (h:wOk w S) (z:∀ x∈w,¬ P x.1):wOk w A:=fun x q=>a.at (h x q) (z x q)
theorem Gw.tape {P:Nat->Prop} (a:Gw P S A) (T:TapeAt S L ns) (q:¬ P L):TapeAt A L ns:=let ⟨p,c,e⟩:=T; ⟨p,c,a.at e q⟩
theorem Q01 (f:α->PV) {G:List (Sd × α)} (h:S[D]?=some (.dtp (Qr f G))):W5 S (.ref D)=some (Qr f G):=by show (match S[D]? with | some (.dtp q)=>some q | _=>none)=_; rw [h]
theorem Qhs (f:α->PV) {G:List (Sd × α)} (h:S[D]?=some (.dtp (Qr f G))) (t:Sd) (q:Bool):Q2z q S (sdV t) (.ref D)=.ok (.bl (decide (t∈G.map (·.1)) != q)) S:=by
 unfold Q2z;rw [Q01 f h,yd];show Res.ok (PV.bl ((U4 (Qr f G) (sdK t)).isSome != q)) S=_;rw [Qin]
theorem xq (f:α->PV) {G:List (Sd × α)} (h:S[D]?=some (.dtp (Qr f G))) (z:(G.map (·.1)).Nodup) {t:Sd} {a:α} (q:(t,a)∈G):Q7q S (.ref D) (sdV t)=.ok (f a) S:=by
 unfold Q7q;rw [Q01 f h,yd];show (match U4 (Qr f G) (sdK t) with | some v=>Res.ok v S | none=>.stuck)=_
 rw [Q89 f z q]
theorem Qhr (f:α->PV) {G:List (Sd × α)} (h:S[D]?=some (.dtp (Qr f G))) (z:G.length < 1000000) {t:Sd} (q:t∉G.map (·.1)) (a:α):zk S (.ref D) (sdV t) (f a)=some (S.set D (.dtp (Qr f (G ++ [(t,a)])))):=by
 unfold zk;simp only [Q01 f h,yd];rw [bT (by unfold Qr; rw [O1]; exact z),Qaf f q]
theorem Qru (f:α->PV) {G:List (Sd × α)} (h:S[D]?=some (.dtp (Qr f G))) (q:G.length < 1000000):Q7y S [.ref D]=.ok (.int (G.length:Nat)) S:=by
 unfold Q7y;simp only [Q01 f h];have:(Qr f G).length=G.length:=O1 _;rw [this,bT q]
theorem j5 {mi:ME} {q:PV} {r:Res PV} (h1:mo Γ S=.ok p S1) (h2:mi Γ S1=.ok q S2) (z:Q7q S2 p q=r):X8 mo mi Γ S=r:=by
 unfold X8;rw [h1,Qm,h2,Qm,z]
theorem Vx (h:S[D]?=some (.lst xs)):W3 S (.ref D)=some (xs,[(D,.lst xs)]):=by
 show (match S[D]? with | some (.lst xs)=>some (xs,[(D,Cell.lst xs)]) | _=>none)=_
 rw [h]
theorem Ux (h:S[D]?=some (.lst xs)):wOk [(D,.lst xs)] S:=fun x q=>by
 have:x=(D,.lst xs):=by simpa using q
 rw [this]; exact h
theorem Zp (h:S[D]?=some (.lst xs)):Va S (.ref D)=some xs:=by
 show (match S[D]? with | some (.lst xs)=>some xs | _=>none)=_; rw [h]
theorem Jv {body:MS} {w:Wt} {I z:Gam} (J:wOk w S) (h1:ga x Γ=some I) (h2:body I S=.nx z S2) (O:Zc ga body w xs z S2=r):Zc ga body w (x :: xs) Γ S=r:=by
 rw [Zc,bT J,h1];show (match body I S with | .nx z q=>Zc ga body w xs z q | .ct z q=>Zc ga body w xs z q | .bk z q=>.nx z q | .rt v q=>.rt v q | .exc x q=>.exc x q | .stuck=>.stuck)=_;rw [h2];exact O
theorem Q5d {body:MS} {w:Wt} {I:Gam} (J:wOk w S) (h1:ga x Γ=some I) (h2:body I S=.rt v S2):Zc ga body w (x :: xs) Γ S=.rt v S2:=by
 rw [Zc,bT J,h1];show (match body I S with | .nx z q=>Zc ga body w xs z q | .ct z q=>Zc ga body w xs z q | .bk z q=>.nx z q | .rt v q=>.rt v q | .exc x q=>.exc x q | .stuck=>.stuck)=_;rw [h2]
theorem Zx {body:MS} {w:Wt} (q:wOk w S):Zc ga body w [] Γ S=.nx Γ S:=by rw [Zc,bT q]
theorem y9 {body:MS} {z:Gam} (h1:mt Γ S=.ok true S1) (h2:body Γ S1=.nx z S2) (I:J6 mt body n z S2=r):J6 mt body (n + 1) Γ S=r:=by
 unfold J6;rw [h1];show (match body Γ S1 with | .nx z q=>J6 mt body n z q | .ct z q=>J6 mt body n z q | .bk z q=>.nx z q | .rt v q=>.rt v q | .exc x q=>.exc x q | .stuck=>.stuck)=_;rw [h2];exact I
theorem Qbr {body:MS} (h1:mt Γ S=.ok true S1) (h2:body Γ S1=.rt v S2):J6 mt body (n + 1) Γ S=.rt v S2:=by
 unfold J6;rw [h1];show (match body Γ S1 with | .nx z q=>J6 mt body n z q | .ct z q=>J6 mt body n z q | .bk z q=>.nx z q | .rt v q=>.rt v q | .exc x q=>.exc x q | .stuck=>.stuck)=_;rw [h2]
theorem qt {body:MS} (h1:mt Γ S=.ok false S1):J6 mt body (n + 1) Γ S=.nx Γ S1:=by
 unfold J6;rw [h1];rfl
theorem Q4u {most:Int} {q:List Str} {z:List Str} (M:MI2 most q rs z ws) (I:SdI q.length z ws s) (S:Q0):Qh [Qk most q (rs.map ruV),sdV s] S=.ok (.ref S.length) (S ++ [.lst ((Kh rs s.1 s.2.1).map nV)]):=Q90 M.one I.len s.2.1 s.2.2 S
theorem Q9v {most:Int} {q:List Str} {z:List Str} (M:MI2 most q rs z ws) (I:SdI q.length z ws s) {r:Ru} (J:r∈rs) (S:Q0):Qn [ruV r,sdV s] S=.ok (sdV (stp r s)) S:=
 Q8i r (by rw [I.len]; exact (M.ru r J).h) (by rw [I.len]; have:=M.n4; omega) (by have:=(I.one M.n4).small M.w2; have:=(M.ru r J).ms; omega) s.2.2 S
theorem xn {p:Ru × Nat} (h:p∈Kh rs s.1 s.2.1):rs[p.2]?=some p.1/\fit p.1 s=true:=let ⟨a,b⟩:=F5.mp h; ⟨Qds a,b⟩
theorem rix {p:Ru × Nat} (h:rs[p.2]?=some p.1) (S:Q0):oIx S (.tup (rs.map ruV)) (nV p)=.ok (ruV p.1) S:=ix_tup (by rw [E2,h]; rfl) S
theorem Q9g {most:Int} {z:List Str} {rs:List Ru} {b1 ws:List Str} (M:MI2 most z rs b1 ws) {D Fi:Nat} (a4:D≠Fi) {V:PV} {s:Sd} (I:SdI z.length b1 ws s) {w:Wt} (hw:∀ x∈w,¬ (x.1=D\/x.1=Fi)):∀ (ks:List (Ru × Nat)) (F:List Pr) (J:List Sd) (A:Q0) (a5 a6:Option PV),(∀ p∈ks,rs[p.2]?=some p.1)->A[D]?=some (.dtp (Qr pV F))->A[Fi]?=some (.lst (J.map sdV))->wOk w A->J.length<=F.length ->
  ((ks.map fun p=>(stp p.1 s,some (p.2,s))).foldl Jt (F,J)).1.length<=2000 ->
  ∃ A' Z Y,Zc (Qe 5) Y9 w (ks.map nV) [some (Qk most z (rs.map ruV)),some (.ref D),some V,some (.ref Fi),some (sdV s),a5,a6] A=.nx [some (Qk most z (rs.map ruV)),some (.ref D),some V,some (.ref Fi),some (sdV s),Z,Y] A' /\
   A'[D]?=some (.dtp (Qr pV ((ks.map fun p=>(stp p.1 s,some (p.2,s))).foldl Jt (F,J)).1))/\A'[Fi]?=some (.lst (((ks.map fun p=>(stp p.1 s,some (p.2,s))).foldl Jt (F,J)).2.map sdV))/\Gw (fun t=>t=D\/t=Fi) A A'
 | [],F,J,A,a5,a6,_,hD,hF,O,_,_=>⟨A,a5,a6,Zx O,hD,hF,Gw.refl _ _⟩
 | p :: ks,F,J,A,a5,a6,hk,hD,hF,O,hl,hb=>by
  have hr:=hk p (by simp);have hx:=rix hr A;have hs:=Q9v M I (E3 hr) A;have a3:=Qhs pV hD (stp p.1 s) true;simp only [D0,F8] at hb ⊢;obtain ⟨ex,a8,_⟩:=Yz (ks.map fun p=>((stp p.1 s,some (p.2,s)):Pr)) (Jt (F,J) (stp p.1 s,some (p.2,s)))
  have Qd5:(Qt 6 (Q8 2 Qn (Q1 (mOp oIx (mOp oIx (Q2 0) (mC (.int 2))) (Q2 5)) (Q1 (Q2 4) Q4)))) [some (Qk most z (rs.map ruV)),some (.ref D),some V,some (.ref Fi),some (sdV s),some (nV p),a6] A=.nx [some (Qk most z (rs.map ruV)),some (.ref D),some V,some (.ref Fi),some (sdV s),some (nV p),some (sdV (stp p.1 s))] A:=Qi (Q5 (n:=2) (Q3 (Qd rfl rfl hx) rfl) rfl hs)
  by_cases q:stp p.1 s∈F.map (·.1)
  ·have U:Jt (F,J) (stp p.1 s,some (p.2,s))=(F,J):=by unfold Jt; rw [bT q]
   rw [U] at hb ⊢;rw [bW q] at a3;obtain ⟨A',Z,Y,e,h1,h2,h3⟩:=Q9g M a4 I hw ks F J A (some (nV p)) (some (sdV (stp p.1 s))) (fun x hx=>hk x (O4 _ hx)) hD hF O hl hb
   exact ⟨A',Z,Y,Jv O rfl (Q6 Qd5 (Ye (Qj (Qd rfl rfl a3)) rfl)) e,h1,h2,h3⟩
  ·have U:Jt (F,J) (stp p.1 s,some (p.2,s))=(F ++ [(stp p.1 s,some (p.2,s))],J ++ [stp p.1 s]):=by unfold Jt; rw [bU q]
   rw [U] at hb a8 ⊢;rw [bV q] at a3;have b5:F.length + 1<=2000:=by
    rw [a8] at hb;simp only [O5,O9,List.length_nil] at hb;omega
   have a7:=Qhr pV hD (by omega) q (some (p.2,s));obtain ⟨A1,a2⟩:∃ A1,A.set D (.dtp (Qr pV (F ++ [(stp p.1 s,some (p.2,s))])))=A1:=⟨_,rfl⟩;rw [a2] at a7;have b3:=(O0.mp hD).1;have b4:=(O0.mp hF).1;have d1:A1[D]?=some (.dtp (Qr pV (F ++ [(stp p.1 s,some (p.2,s))]))):=by rw [<- a2]; exact F3 b3
   have f1:A1[Fi]?=some (.lst (J.map sdV)):=by rw [<- a2,F1 a4]; exact hF
   have g1:Gw (fun t=>t=D\/t=Fi) A A1:=by rw [<- a2]; exact Gw.put A (.inl rfl) _
   obtain ⟨A2,a1⟩:∃ A2,A1.set Fi (.lst ((J ++ [stp p.1 s]).map sdV))=A2:=⟨_,rfl⟩;have d2:A2[D]?=some (.dtp (Qr pV (F ++ [(stp p.1 s,some (p.2,s))]))):=by rw [<- a1,F1 (Ne.symm a4)]; exact d1
   have b2:=(O0.mp f1).1;have f2:A2[Fi]?=some (.lst ((J ++ [stp p.1 s]).map sdV)):=by rw [<- a1]; exact F3 b2
   have g2:Gw (fun t=>t=D\/t=Fi) A A2:=by rw [<- a1]; exact g1.trans (Gw.put A1 (.inr rfl) _)
   have b0:Jc A1 (.ref Fi) [sdV (stp p.1 s)]=.ok .non A2:=by
    rw [qe f1 (by rw [O1]; omega),<- a1,E5];rfl
   have a9:=Qru pV d2 (by rw [O5]; simp; omega);obtain ⟨A',Z,Y,e,h1,h2,h3⟩:=Q9g M a4 I hw ks (F ++ [(stp p.1 s,some (p.2,s))]) (J ++ [stp p.1 s]) A2 (some (nV p)) (some (sdV (stp p.1 s))) (fun x hx=>hk x (O4 _ hx)) d2 f2 (g2.w O hw) (by rw [O5,O5]; simp; omega) hb
   refine ⟨A',Z,Y,Jv O rfl (Q6 Qd5 (zh (Qj (Qd rfl rfl a3)) (Q6 (yu rfl rfl rfl a7) (Q6 (xr rfl (Zp f1) rfl b0) (Ye (Qj (Qd (Zu rfl a9) rfl (Qh7 A2 ?_))) rfl))))) e,h1,h2,g2.trans h3⟩;rw [O5];simp;omega
theorem Qb6 {most:Int} {q:List Str} {rs:List Ru} {a1 ws:List Str} (M:MI2 most q rs a1 ws) {D Fi:Nat} (a2:D≠Fi) {V:PV} {w:Wt} (hw:∀ x∈w,¬ (x.1=D\/x.1=Fi)):∀ (fr:List Sd) (F:List Pr) (z:List Sd) (A:Q0) (a4 a5 a6:Option PV),(∀ s∈fr,SdI q.length a1 ws s)->A[D]?=some (.dtp (Qr pV F))->A[Fi]?=some (.lst (z.map sdV))->wOk w A->z.length<=F.length ->
  ((trp rs fr).foldl Jt (F,z)).1.length<=2000 ->
  ∃ A' a8 b1 a7,Zc (Qe 4) Ya w (fr.map sdV) [some (Qk most q (rs.map ruV)),some (.ref D),some V,some (.ref Fi),a4,a5,a6] A=.nx [some (Qk most q (rs.map ruV)),some (.ref D),some V,some (.ref Fi),a8,b1,a7] A' /\
   A'[D]?=some (.dtp (Qr pV ((trp rs fr).foldl Jt (F,z)).1))/\A'[Fi]?=some (.lst (((trp rs fr).foldl Jt (F,z)).2.map sdV))/\Gw (fun t=>t=D\/t=Fi) A A'
 | [],F,z,A,a4,a5,a6,_,hD,hF,O,_,_=>⟨A,a4,a5,a6,Zx O,hD,hF,Gw.refl _ _⟩
 | s :: fr,F,z,A,a4,a5,a6,hi,hD,hF,O,hl,hb=>by
  have I:=hi s (by simp);have hn:=Q4u M I A;obtain ⟨ks,U⟩:∃ ks,Kh rs s.1 s.2.1=ks:=⟨_,rfl⟩;have b7:∀ p∈ks,rs[p.2]?=some p.1:=fun p hp=>(xn (by rw [U]; exact hp)).1
  have b9:ks.length<=9:=by
   rw [<- U];have:=List.length_filter_le (fun p:Ru × Nat=>Q5e p.1 s.1 s.2.1) rs.zipIdx;rw [List.length_zipIdx] at this;exact E6 this M.len
  have a9:trp rs (s :: fr)=(ks.map fun p=>(stp p.1 s,some (p.2,s))) ++ trp rs fr:=by
   show (s :: fr).flatMap (Qiq rs)=_;rw [List.flatMap_cons,<- U]; rfl
  rw [U] at hn;rw [a9,List.foldl_append] at hb ⊢;obtain ⟨Y,J⟩:∃ Y,A ++ [Cell.lst (ks.map nV)]=Y:=⟨_,rfl⟩;rw [J] at hn;have g1:Gw (fun t=>t=D\/t=Fi) A Y:=by rw [<- J]; exact Gw.add _ _ _
  have b0:=(O0.mp hD).1;have a3:=(O0.mp hF).1;have d1:Y[D]?=some (.dtp (Qr pV F)):=by rw [<- J,O7 b0]; exact hD
  have f1:Y[Fi]?=some (.lst (z.map sdV)):=by rw [<- J,O7 a3]; exact hF
  have n1:Y[A.length]?=some (.lst (ks.map nV)):=by rw [<- J]; exact Zb _ _
  obtain ⟨ex,Z,b8,_⟩:=Yz (trp rs fr) ((ks.map fun p=>((stp p.1 s,some (p.2,s)):Pr)).foldl Jt (F,z))
  obtain ⟨ey,b3,b2,_⟩:=Yz (ks.map fun p=>((stp p.1 s,some (p.2,s)):Pr)) (F,z)
  obtain ⟨A2,b5,b6,e2,d2,f2,g2⟩:=Q9g M a2 (V:=V) I (w:=[(A.length,.lst (ks.map nV))]) (fun x hx=>by
   have:x=(A.length,.lst (ks.map nV)):=by simpa using hx
   rw [this];show ¬ (A.length=D\/A.length=Fi);omega) ks F z Y a5 a6 b7 d1 f1 (Ux n1) hl (by rw [Z,O5] at hb; omega)
  obtain ⟨A3,b4,c5,c6,e3,d3,f3,g3⟩:=Qb6 M a2 (V:=V) hw fr _ _ A2 (some (sdV s)) b5 b6 (fun x hx=>hi x (O4 _ hx)) d2 f2 ((g1.trans g2).w O hw) (by rw [b3,b2,O5,O5,O1]; show z.length + _<=F.length + _; omega) hb
  exact ⟨A3,b4,c5,c6,Jv O rfl (Zw (Z7 (Q5 (n:=2) rfl rfl hn) (Vx n1) (by rw [O1]; omega)) e2) e3,d3,f3,(g1.trans g2).trans g3⟩
theorem Q9f {most:Int} {q:List Str} {J:List Str} (M:MI2 most q rs J ws) {V:PV} {w:Wt} (hV:∀ T,W3 (S ++ T) V=some (fr.map sdV,w)) (O:wOk w S) (hw:∀ x∈w,x.1≠D) (hi:∀ s∈fr,SdI q.length J ws s) (hD:S[D]?=some (.dtp (Qr pV F))) (Z:fr.length<=1000000) (hb:((trp rs fr).foldl Jt (F,[])).1.length<=2000) :
  ∃ U,Jw [Qk most q (rs.map ruV),.ref D,V] S=.ok (.ref S.length) U/\U[D]?=some (.dtp (Qr pV ((trp rs fr).foldl Jt (F,[])).1))/\U[S.length]?=some (.lst (((trp rs fr).foldl Jt (F,[])).2.map sdV))/\Gw (fun t=>t=D) S U:=by
 have Y:=(O0.mp hD).1;have d1:(S ++ [Cell.lst []])[D]?=some (.dtp (Qr pV F)):=by rw [O7 Y]; exact hD
 have I:∀ x∈w,¬ (x.1=D\/x.1=S.length):=fun x hx z=>by
  rcases z with z | z
  ·exact hw x hx z
  ·have:=(O0.mp (O x hx)).1;omega
 obtain ⟨A',a4,a5,a6,e,h1,h2,h3⟩:=Qb6 M (D:=D) (Fi:=S.length) (by omega) (V:=V) I fr F [] (S ++ [Cell.lst []]) none none none hi d1 (Zb _ _) ((Gw.add (fun t=>t=D\/t=S.length) S _).w O I) (G8 _) hb;refine ⟨A',Qq (show We [some (Qk most q (rs.map ruV)),some (.ref D),some V,none,none,none,none] S=_ from Q6 (Qi (U5 rfl)) (Q6 (Zw (Z7 rfl (hV _) (by rw [O1]; exact Z)) e) (Qs rfl))),h1,h2,?_⟩;refine ((Gw.add (fun t=>t=D\/t=S.length) S _).trans h3).mono fun t ht z=>?_
 rcases z with z | z
 ·exact z
 ·omega
theorem Qi7 {most:Int} {z:List Str} {rs:List Ru} {Y ws:List Str} (M:MI2 most z rs Y ws) {V:PV} {s:Sd} {w:Wt} {A:Q0} (I:wOk w A):∀ (ks:List (Ru × Nat)) (a3:Option PV),(∀ p∈ks,rs[p.2]?=some p.1) ->
  ((ks.any fun p=>decide (most < s.2.2 + p.1.u))=false/\∃ O,Zc (Qe 3) Jr w (ks.map nV) [some (Qk most z (rs.map ruV)),some V,some (sdV s),a3] A=.nx [some (Qk most z (rs.map ruV)),some V,some (sdV s),O] A) \/
  (∃ p∈ks,most < s.2.2 + p.1.u/\Zc (Qe 3) Jr w (ks.map nV) [some (Qk most z (rs.map ruV)),some V,some (sdV s),a3] A=.rt (.tup [nV p,sdV s]) A)
 | [],a3,_=>.inl ⟨rfl,a3,Zx I⟩
 | p :: ks,a3,hk=>by
  have U:=rix (hk p (by simp)) A
  by_cases q:most < s.2.2 + p.1.u
  ·exact .inr ⟨p,by simp,q,Q5d I rfl (zh (Qj (Qd (Qd rfl (Qd (Qd rfl rfl U) rfl rfl) (Q85 A s.2.2 p.1.u)) rfl (Qb2 A q))) (Qs rfl))⟩
  ·have J:Jr [some (Qk most z (rs.map ruV)),some V,some (sdV s),some (nV p)] A=.nx [some (Qk most z (rs.map ruV)),some V,some (sdV s),some (nV p)] A:=Ye (Qj (Qd (Qd rfl (Qd (Qd rfl rfl U) rfl rfl) (Q85 A s.2.2 p.1.u)) rfl (Qh7 A q))) rfl;rcases Qi7 M I ks (some (nV p)) (fun x U=>hk x (O4 _ U)) with ⟨h1,O,e⟩ | ⟨p',Z,h1,e⟩
   ·exact .inl ⟨by rw [List.any_cons,bV q,h1]; rfl,O,Jv I rfl J e⟩
   ·exact .inr ⟨p',O4 _ Z,h1,Jv I rfl J e⟩
theorem Qbf {most:Int} {q:List Str} {rs:List Ru} {a5 ws:List Str} (M:MI2 most q rs a5 ws) {V:PV} {w:Wt}:∀ (fr:List Sd) (A:Q0) (a2 a3:Option PV),wOk w A->(∀ s∈fr,SdI q.length a5 ws s) ->
  (Vg rs most fr=false/\∃ A' a9 a8,Zc (Qe 2) Js w (fr.map sdV) [some (Qk most q (rs.map ruV)),some V,a2,a3] A=.nx [some (Qk most q (rs.map ruV)),some V,a9,a8] A'/\Gw (fun _=>False) A A') \/
  (∃ s∈fr,∃ (r:Ru) (n:Nat) (A':Q0),rs[n]?=some r/\fit r s=true/\most < s.2.2 + r.u/\Zc (Qe 2) Js w (fr.map sdV) [some (Qk most q (rs.map ruV)),some V,a2,a3] A=.rt (.tup [.int (n:Int),sdV s]) A'/\Gw (fun _=>False) A A')
 | [],A,a2,a3,J,_=>.inl ⟨rfl,A,a2,a3,Zx J,Gw.refl _ _⟩
 | s :: fr,A,a2,a3,J,hi=>by
  have I:=hi s (by simp);have hn:=Q4u M I A;obtain ⟨ks,U⟩:∃ ks,Kh rs s.1 s.2.1=ks:=⟨_,rfl⟩;have Z:∀ p∈ks,rs[p.2]?=some p.1/\fit p.1 s=true:=fun p hp=>xn (by rw [U]; exact hp)
  have b0:ks.length<=9:=by
   rw [<- U];have:=List.length_filter_le (fun p:Ru × Nat=>Q5e p.1 s.1 s.2.1) rs.zipIdx;rw [List.length_zipIdx] at this;exact E6 this M.len
  rw [U] at hn;obtain ⟨Y,a1⟩:∃ Y,A ++ [Cell.lst (ks.map nV)]=Y:=⟨_,rfl⟩;rw [a1] at hn;have g1:Gw (fun _=>False) A Y:=by rw [<- a1]; exact Gw.add _ _ _
  have n1:Y[A.length]?=some (.lst (ks.map nV)):=by rw [<- a1]; exact Zb _ _
  rcases Qi7 M (V:=V) (s:=s) (Ux n1) ks a3 (fun p hp=>(Z p hp).1) with ⟨h1,b3,e⟩ | ⟨p,hp,h1,e⟩
  ·have O:Js [some (Qk most q (rs.map ruV)),some V,some (sdV s),a3] A=.nx [some (Qk most q (rs.map ruV)),some V,some (sdV s),b3] Y:=Zw (Z7 (Q5 (n:=2) rfl rfl hn) (Vx n1) (by rw [O1]; omega)) e;have a4:(rs.any fun r=>fit r s && decide (most < s.2.2 + r.u))=false:=by
    rw [List.any_eq_false];intro r hr z;simp only [E9,decide_eq_true_eq] at z;obtain ⟨n,a7,a6⟩:=L3 hr;have hm:(r,n)∈ks:=by
     rw [<- U];refine F5.mpr ⟨M0.mpr ?_,z.1⟩;rw [O2 a7,a6]
    have:=List.any_eq_false.mp h1 _ hm;simp only [decide_eq_true_eq] at this;exact this z.2
   rcases Qbf M fr Y (some (sdV s)) b3 (g1.w J fun _ _ h=>h) (fun x hx=>hi x (O4 _ hx)) with ⟨k1,A2,b2,c3,e2,g2⟩ | ⟨t,ht,r,n,A2,k1,k2,k3,e2,g2⟩
   ·exact .inl ⟨by unfold Vg; rw [List.any_cons,a4]; exact k1,A2,b2,c3,Jv J rfl O e2,g1.trans g2⟩
   ·exact .inr ⟨t,O4 _ ht,r,n,A2,k1,k2,k3,Jv J rfl O e2,g1.trans g2⟩
  ·exact .inr ⟨s,by simp,p.1,p.2,Y,(Z p hp).1,(Z p hp).2,h1,Q5d J rfl (Zw (Z7 (Q5 (n:=2) rfl rfl hn) (Vx n1) (by rw [O1]; omega)) e),g1⟩
def nI (k:Nat):PV:=.int (k:Int)
theorem Q68 {F:List Pr} (Z:(F.map (·.1)).Nodup) {D R:Nat} (Y:D≠R) {V:PV}:∀ {s:Sd} {ks:List Nat},Tr F s ks->∀ (m:Nat) (acc:List Nat) (A:Q0),A[D]?=some (.dtp (Qr pV F))->A[R]?=some (.lst (acc.map nI))->acc.length + ks.length<=3000 ->
  ∃ U a3,J6 qu jb (m + ks.length + 1) [some (.ref D),some V,some (.ref R),some (sdV s)] A=.nx [some (.ref D),some V,some (.ref R),a3] U/\U[R]?=some (.lst ((acc ++ ks).map nI))/\Gw (fun t=>t=R) A U
 | s,[],.nil h,m,acc,A,hD,J,_=>⟨A,_,qt (Qj (Qd (j5 rfl rfl (xq pV hD Z h)) rfl rfl)),by rw [L0]; exact J,Gw.refl _ _⟩
 | s,n :: ks,.cons (q:=q) h t,m,acc,A,hD,J,hl=>by
  have hg:=xq pV hD Z h;rw [O9] at hl;have a2:=(O0.mp J).1;obtain ⟨I,z⟩:∃ I,A.set R (.lst ((acc ++ [n]).map nI))=I:=⟨_,rfl⟩;have O:Jc A (.ref R) [nI n]=.ok .non I:=by
   rw [qe J (by rw [O1]; omega),<- z,E5];rfl
  have d1:I[D]?=some (.dtp (Qr pV F)):=by rw [<- z,F1 (Ne.symm Y)]; exact hD
  have r1:I[R]?=some (.lst ((acc ++ [n]).map nI)):=by rw [<- z]; exact F3 a2
  have g1:Gw (fun t=>t=R) A I:=by rw [<- z]; exact Gw.put (P:=fun t=>t=R) A rfl _
  have a1:=xq pV d1 Z h;obtain ⟨U,a3,e,h1,h2⟩:=Q68 Z Y (V:=V) t m (acc ++ [n]) I d1 r1 (by rw [O5]; simp; omega);refine ⟨U,a3,?_,by rw [h1]; simp,g1.trans h2⟩;rw [O9,show m + (ks.length + 1) + 1=(m + ks.length + 1) + 1 from rfl];exact y9 (Qj (Qd (j5 rfl rfl hg) rfl rfl)) (Q6 (xr rfl (Zp J) (Q3 (Qd (j5 rfl rfl hg) rfl rfl) rfl) O) (Qi (Qd (j5 rfl rfl a1) rfl rfl))) e
theorem Qeu (U:(F.map (·.1)).Nodup) {ks:List Nat} (t:Tr F s ks) (O:S[D]?=some (.dtp (Qr pV F))) (Z:ks.length<=3000):∃ J,W0 [.ref D,sdV s] S=.ok (.lst (ks.reverse.map nI)) J/\Gw (fun _=>False) S J:=by
 have I:=(O0.mp O).1;have Y:(S ++ [Cell.lst []])[D]?=some (.dtp (Qr pV F)):=by rw [O7 I]; exact O
 obtain ⟨q,a3,e,h1,h2⟩:=Q68 U (D:=D) (R:=S.length) (by omega) (V:=sdV s) t (99999 - ks.length) [] (S ++ [Cell.lst []]) Y (Zb _ _) (by simpa using Z);rw [show 99999 - ks.length + ks.length + 1=100000 by omega] at e;refine ⟨q,Qq (show Q1t [some (.ref D),some (sdV s),none,none] S=_ from Q6 (Qi (U5 rfl)) (Q6 (Qi rfl) (Q6 e (Qs (V2 ?_))))),((Gw.add (fun t=>t=S.length) S _).trans h2).mono fun t ht z=>by omega⟩;show (match Ve q (.ref S.length) with | some xs=>if xs.length<=1000000 then Res.ok xs.reverse q else .stuck | none=>.stuck)=_
 have:Ve q (.ref S.length)=some (ks.map nI):=by
  show (match q[S.length]? with | some (.lst xs)=>some xs | _=>none)=_
  rw [h1]; rfl
 rw [this];show (if (ks.map nI).length<=1000000 then Res.ok (ks.map nI).reverse q else .stuck)=_;rw [bT (by rw [O1]; omega),List.map_reverse]
theorem zr (h:S[B]?=some (.lst xs)):Zj S [.ref B]=.ok (.int (xs.length:Nat)) S:=by rw [Qs2,h]
def FrAt (S:Q0) (V:PV) (fr:List Sd):Prop:=V=.lst (fr.map sdV)\/∃ B,V=.ref B/\S[B]?=some (.lst (fr.map sdV))
theorem FrAt.src {V:PV} (h:FrAt S V fr) {c:List (HK × PV)} (z:S[D]?=some (.dtp c)):∃ w,(∀ T,W3 (S ++ T) V=some (fr.map sdV,w))/\wOk w S/\∀ x∈w,x.1≠D:=by
 rcases h with rfl | ⟨B,rfl,h⟩
 ·exact ⟨[],fun _=>rfl,Qp _,fun x q=>nomatch q⟩
 ·refine ⟨[(B,.lst (fr.map sdV))],fun T=>Vx (by rw [O7 (O0.mp h).1]; exact h),Ux h,fun x q e=>?_⟩;have:x=(B,.lst (fr.map sdV)):=by simpa using q
  rw [this] at e;have e:B=D:=e;rw [e,z] at h;cases h
theorem Q2i {most:Int} {q:List Str} {z:List Str} (M:MI2 most q rs z ws) {V:PV} {w:Wt} (O:W3 S V=some (fr.map sdV,w)) (Y:wOk w S) (U:fr.length<=1000000) (hi:∀ s∈fr,SdI q.length z ws s) :
  (Vg rs most fr=false/\∃ I,Jp [Qk most q (rs.map ruV),V] S=.ok .non I/\Gw (fun _=>False) S I) \/
  (∃ s∈fr,∃ (r:Ru) (n:Nat) (I:Q0),rs[n]?=some r/\fit r s=true/\most < s.2.2 + r.u/\Jp [Qk most q (rs.map ruV),V] S=.ok (.tup [.int (n:Int),sdV s]) I/\Gw (fun _=>False) S I):=by
 rcases Qbf M (V:=V) fr S none none Y hi with ⟨h1,J,a2,a3,e,g⟩ | ⟨s,hs,r,n,J,h1,h2,Z,e,g⟩
 ·exact .inl ⟨h1,J,Qq (show Y2 [some (Qk most q (rs.map ruV)),some V,none,none] S=_ from Q6 (Zw (Z7 rfl O (by rw [O1]; exact U)) e) (Qs rfl)),g⟩
 ·exact .inr ⟨s,hs,r,n,J,h1,h2,Z,Qq (show Y2 [some (Qk most q (rs.map ruV)),some V,none,none] S=_ from Vm (Zw (Z7 rfl O (by rw [O1]; exact U)) e)),g⟩
def Qs8 (most:Int) (starts:List Str) (rs:List Ru) (N:Nat) (D:Nat) (v:PV) (A:Q0):Prop:=
 (Vg rs most (lvs rs (starts,[],0) N).2=true/\∃ (R:Nat) (ks:List Nat) (n:Nat) (r:Ru) (s:Sd),v=.tup [.ref D,.ref R]/\D < R/\A[R]?=some (.lst ((ks ++ [n]).map nI))/\ks.length=N/\wkS rs ks (starts,[],0)=some s/\s∈(lvs rs (starts,[],0) N).1/\rs[n]?=some r/\fit r s=true/\most < s.2.2 + r.u) \/
 (Vg rs most (lvs rs (starts,[],0) N).2=false/\v=.tup [.ref D,.non]/\A[D]?=some (.dtp (Qr pV (lvF rs (starts,[],0) N).1)))
theorem Qbu {most:Int} {q:List Str} {b0:List Str} (M:MI2 most q rs b0 ws) (hN:N<=1250) (hS:Xj rs most (q,[],0) N) (a6:∀ i,i < N->¬ Xj rs most (q,[],0) i) :∀ (j i:Nat),i + j=N->∀ (m:Nat) (A:Q0) (V:PV) (a3:Option PV),A[D]?=some (.dtp (Qr pV (lvF rs (q,[],0) i).1))->FrAt A V (lvF rs (q,[],0) i).2 ->
  ∃ A',Gw (fun t=>t=D) A A'/\((∃ v,J6 Ze Wi (m + j + 2) [some (Qk most q (rs.map ruV)),some (.ref D),some V,a3] A=.rt v A'/\Vg rs most (lvs rs (q,[],0) N).2=true/\Qs8 most q rs N D v A')\/(∃ V' b3,J6 Ze Wi (m + j + 2) [some (Qk most q (rs.map ruV)),some (.ref D),some V,a3] A=.nx [some (Qk most q (rs.map ruV)),some (.ref D),some V',b3] A'/\Qs8 most q rs N D (.tup [.ref D,.non]) A')):=by
 intro j
 induction j with
 | zero=>
  intro i hi m A V a3 hD hV;have hi:i=N:=by omega
  subst hi;have Z:=Xa rs (q,[],0) i;have e1:(lvF rs (q,[],0) i).1.map (·.1)=(lvs rs (q,[],0) i).1:=congrArg Prod.fst Z;have e2:(lvF rs (q,[],0) i).2=(lvs rs (q,[],0) i).2:=congrArg Prod.snd Z;have a2:∀ j,j < i->Vg rs most (lvs rs (q,[],0) j).2=false:=fun j hj=>by
   cases z:Vg rs most (lvs rs (q,[],0) j).2 with
   | false=>rfl
   | true=>exact absurd (.inl z) (a6 j hj)
  obtain ⟨k1,k2,k3⟩:=yy M i;have kf:=z9 M a2;obtain ⟨w,U,hw,b8⟩:=hV.src hD;have b9:(lvF rs (q,[],0) i).2.length<=1200:=by
   rw [e2];refine E6 ?_ kf;cases i with
   | zero=>simp [lvs]
   | succ i=>rw [Q1x]; omega
  have J:Zj A [V]=.ok (.int ((lvF rs (q,[],0) i).2.length:Nat)) A:=by
   rcases hV with rfl | ⟨B,rfl,h⟩
   ·show Res.ok (PV.int (((lvF rs (q,[],0) i).2.map sdV).length:Nat)) A=_;rw [O1]
   ·have:=zr h;rw [this,O1]
  by_cases O:(lvF rs (q,[],0) i).2=[]
  ·refine ⟨A,Gw.refl _ _,.inr ⟨V,a3,?_,.inr ⟨?_,rfl,hD⟩⟩⟩
   ·rw [O] at J;exact qt (Qj (Qd (Zu rfl J) rfl rfl))
   ·rw [<- e2,O]; rfl
  ·have hb:Vg rs most (lvs rs (q,[],0) i).2=true:=by
    rcases hS with h | h
    ·exact h
    ·rw [<- e2] at h; exact absurd h O
   have ht:Ze [some (Qk most q (rs.map ruV)),some (.ref D),some V,a3] A=.ok true A:=by
    refine Qj (Qd (Zu rfl J) rfl (Qb2 A ?_));have:(lvF rs (q,[],0) i).2.length≠0:=fun z=>O (List.eq_nil_of_length_eq_zero z)
    omega
   have I:=U [];rw [L0] at I;rcases Q2i M I hw (by omega) (fun s hs=>k3 s (k2 s (by rw [<- e2]; exact hs))) with ⟨z,_⟩ | ⟨s,hs,r,n,A1,h1,h2,h3,e,g⟩
   ·rw [e2,hb] at z; cases z
   ·obtain ⟨ks,b6,a7⟩:=Q95 rs (q,[],0) i s hs;have d1:=g.at hD (fun h=>h);obtain ⟨A2,er,g2⟩:=Qeu (by rw [e1]; exact k1) a7 d1 (by omega);have a8:qh (Q3j (Q8 2 W0 (Q1 (Q2 1) (Q1 (mOp oIx (Q2 3) (mC (.int 1))) Q4))) (yt (Q1 (mOp oIx (Q2 3) (mC (.int 0))) Q4))) [some (Qk most q (rs.map ruV)),some (.ref D),some V,some (.tup [.int (n:Int),sdV s])] A1=.ok (.ref A2.length) (A2 ++ [.lst ((ks.reverse ++ [n]).map nI)]):=by
     refine U5 ?_;unfold Q3j;rw [Q5 (n:=2) (F:=W0) rfl rfl er,Qm];show Q6r A2 (.lst (ks.reverse.map nI)) (.lst [.int (n:Int)])=_;show (if (ks.reverse.map nI).length + 1<=lim then Res.ok (ks.reverse.map nI ++ [.int (n:Int)]) A2 else .stuck)=_;rw [bT (by rw [O1,List.length_reverse,xc]; omega),E5];rfl
    refine ⟨A2 ++ [.lst ((ks.reverse ++ [n]).map nI)],((g.trans g2).trans (Gw.add _ _ _)).mono (fun t _ h=>h.elim),.inl ⟨.tup [.ref D,.ref A2.length],Qbr ht (Q6 (Qi (Q5 (n:=2) rfl rfl e)) (Vm (zh (Qj (Qd rfl rfl rfl)) (Qs (Z1 (Q3 rfl (Q3 a8 rfl)) (by simp)))))),hb,.inl ⟨hb,A2.length,ks.reverse,n,r,s,rfl,D3 (O0.mp hD).1 (E6 g.len g2.len),Zb _ _,by rw [List.length_reverse,b6],Qn2 (Q3k rs (q,[],0) i) a7,k2 s (by rw [<- e2]; exact hs),h1,h2,h3⟩⟩⟩
 | succ j ih=>
  intro i hi m A V a3 hD hV;have Z:=Xa rs (q,[],0) i;have e1:(lvF rs (q,[],0) i).1.map (·.1)=(lvs rs (q,[],0) i).1:=congrArg Prod.fst Z;have e2:(lvF rs (q,[],0) i).2=(lvs rs (q,[],0) i).2:=congrArg Prod.snd Z;have b1:=Xa rs (q,[],0) (i + 1);have c0:(lvF rs (q,[],0) (i + 1)).1.map (·.1)=(lvs rs (q,[],0) (i + 1)).1:=congrArg Prod.fst b1;have a4:=a6 i (by omega);have a2:∀ j,j < i + 1->Vg rs most (lvs rs (q,[],0) j).2=false:=fun j hj=>by
   cases z:Vg rs most (lvs rs (q,[],0) j).2 with
   | false=>rfl
   | true=>exact absurd (.inl z) (a6 j (by omega))
  obtain ⟨k1,k2,k3⟩:=yy M i;have kf:=z9 M (i:=i) (fun j hj=>a2 j (by omega))
  have c1:=z9 M a2;obtain ⟨w,U,hw,b8⟩:=hV.src hD;have b9:(lvF rs (q,[],0) i).2.length<=1200:=by
   rw [e2];refine E6 ?_ kf;cases i with
   | zero=>simp [lvs]
   | succ i=>rw [Q1x]; omega
  have J:Zj A [V]=.ok (.int ((lvF rs (q,[],0) i).2.length:Nat)) A:=by
   rcases hV with rfl | ⟨B,rfl,h⟩
   ·show Res.ok (PV.int (((lvF rs (q,[],0) i).2.map sdV).length:Nat)) A=_;rw [O1]
   ·have:=zr h;rw [this,O1]
  have O:(lvF rs (q,[],0) i).2≠[]:=fun z=>a4 (.inr (by rw [<- e2]; exact z))
  have ht:Ze [some (Qk most q (rs.map ruV)),some (.ref D),some V,a3] A=.ok true A:=by
   refine Qj (Qd (Zu rfl J) rfl (Qb2 A ?_));have:(lvF rs (q,[],0) i).2.length≠0:=fun z=>O (List.eq_nil_of_length_eq_zero z)
   omega
  have I:=U [];rw [L0] at I;have b4:∀ s∈(lvF rs (q,[],0) i).2,SdI q.length b0 ws s:=fun s hs=>k3 s (k2 s (by rw [<- e2]; exact hs))
  rcases Q2i M I hw (by omega) b4 with ⟨z,A1,e,g⟩ | ⟨s,hs,r,n,A1,h1,h2,h3,e,g⟩
  ·have d1:=g.at hD (fun h=>h);have b7:FrAt A1 V (lvF rs (q,[],0) i).2:=by
    rcases hV with h | ⟨B,h,hB⟩
    ·exact .inl h
    ·exact .inr ⟨B,h,g.at hB (fun h=>h)⟩
   obtain ⟨w1,a5,b5,b2⟩:=b7.src d1;have a1:((trp rs (lvF rs (q,[],0) i).2).foldl Jt ((lvF rs (q,[],0) i).1,[])).1.length<=2000:=by
    have:((lvF rs (q,[],0) (i + 1)).1.map (·.1)).length<=1200:=by rw [c0]; exact c1
    rw [O1] at this;exact E6 this (by decide)
   obtain ⟨A2,ef,d2,f2,g2⟩:=Q9f M a5 b5 b2 b4 d1 (by omega) a1;obtain ⟨A',gA,a9⟩:=ih (i + 1) (by omega) m A2 (.ref A1.length) (some .non) d2 (.inr ⟨_,rfl,f2⟩);have Y:∀ r,J6 Ze Wi (m + j + 2) [some (Qk most q (rs.map ruV)),some (.ref D),some (.ref A1.length),some .non] A2=r->J6 Ze Wi (m + (j + 1) + 2) [some (Qk most q (rs.map ruV)),some (.ref D),some V,a3] A=r:=fun r hr=>by
    rw [show m + (j + 1) + 2=(m + j + 2) + 1 from rfl];exact y9 ht (Q6 (Qi (Q5 (n:=2) rfl rfl e)) (Q6 (Ye (Qj (Qd rfl rfl rfl)) rfl) (Qi (Q5 (n:=3) rfl rfl ef)))) hr
   refine ⟨A',((g.mono (fun t _ h=>h.elim)).trans g2).trans gA,?_⟩;rcases a9 with ⟨v,h1,h2,h3⟩ | ⟨V',b3,h1,h2⟩
   ·exact .inl ⟨v,Y _ h1,h2,h3⟩
   ·exact .inr ⟨V',b3,Y _ h1,h2⟩
  ·exfalso;refine a4 (.inl (List.any_eq_true.mpr ⟨s,by rw [<- e2]; exact hs,List.any_eq_true.mpr ⟨r,E3 h1,?_⟩⟩));rw [h2,bW h3]; rfl
theorem Q81 {most:Int} {q:List Str} {rules:List PV} (S:Q0):Jf [Qk most q rules] S=.ok (sdV (q,[],0)) S:=by
 have st:K2 [some (Qk most q rules)] S=.rt (sdV (q,[],0)) S:=rfl;have:=zq (nl:=1) (ps:=[Qk most q rules]) st;unfold Jf;rw [this];exact Q7i (Qa6 _ _ _)
theorem Q36 {most:Int} {q:List Str} {J:List Str} (M:MI2 most q rs J ws) (hN:N<=1250) (hS:Xj rs most (q,[],0) N) (Y:∀ i,i < N->¬ Xj rs most (q,[],0) i) (S:Q0):∃ v O,Vv [Qk most q (rs.map ruV)] S=.ok v O/\Gw (fun _=>False) S O/\Qs8 most q rs N S.length v O:=by
 have d1:(S ++ [Cell.dtp [(sdK (q,[],0),.non)]])[S.length]?=some (.dtp (Qr pV (lvF rs (q,[],0) 0).1)):=Zb _ _;obtain ⟨Z,g,I⟩:=Qbu M hN hS Y (D:=S.length) N 0 (by omega) (99998 - N) (S ++ [Cell.dtp [(sdK (q,[],0),.non)]]) (.lst [sdV (q,[],0)]) none d1 (.inl rfl);rw [show 99998 - N + N + 2=100000 by omega] at I;have h1:(Qt 1 (Kv (Q8 1 Jf (Q1 (Q2 0) Q4)) (mC .non))) [some (Qk most q (rs.map ruV)),none,none,none] S=.nx [some (Qk most q (rs.map ruV)),some (.ref S.length),none,none] (S ++ [Cell.dtp [(sdK (q,[],0),.non)]]):=by
  refine Qi ?_;unfold Kv;rw [Q5 (n:=1) (F:=Jf) rfl rfl (Q81 S),Qm];show Q9k S .non (sdV (q,[],0))=_;unfold Q9k;rw [yd]
 have h2:(Qt 2 (yt (Q1 (Q8 1 Jf (Q1 (Q2 0) Q4)) Q4))) [some (Qk most q (rs.map ruV)),some (.ref S.length),none,none] (S ++ [Cell.dtp [(sdK (q,[],0),.non)]])=.nx [some (Qk most q (rs.map ruV)),some (.ref S.length),some (.lst [sdV (q,[],0)]),none] (S ++ [Cell.dtp [(sdK (q,[],0),.non)]]):=Qi (Qih (Q3 (Q5 (n:=1) rfl rfl (Q81 _)) rfl) (by simp));have gg:Gw (fun _=>False) S Z:=((Gw.add (fun t=>t=S.length) S _).trans g).mono fun t ht z=>by omega
 rcases I with ⟨v,e,_,U⟩ | ⟨V',b3,e,U⟩
 ·exact ⟨v,Z,Qq (show jy [some (Qk most q (rs.map ruV)),none,none,none] S=_ from Q6 h1 (Q6 h2 (Vm e))),gg,U⟩
 ·exact ⟨_,Z,Qq (show jy [some (Qk most q (rs.map ruV)),none,none,none] S=_ from Q6 h1 (Q6 h2 (Q6 e (Qs rfl)))),gg,U⟩
def Qvq (most:Int) (starts:List Str) (rs:List Ru) (N L:Nat) (v:PV) (A:Q0):Prop:=
 (Vg rs most (lvs rs (starts,[],0) N).2=true/\∃ (R:Nat) (ks:List Nat) (n:Nat) (r:Ru) (s:Sd),v=.tup [.str "breaks",.ref R]/\L<=R/\A[R]?=some (.lst ((ks ++ [n]).map nI))/\ks.length=N/\wkS rs ks (starts,[],0)=some s/\s∈(lvs rs (starts,[],0) N).1/\rs[n]?=some r/\fit r s=true/\most < s.2.2 + r.u) \/
 (Vg rs most (lvs rs (starts,[],0) N).2=false/\∃ R:Nat,v=.tup [.str "keeps",.ref R]/\L<=R/\A[R]?=some (.lst ((lvs rs (starts,[],0) N).1.map sdV)))
theorem Qdz {most:Int} {q:List Str} {J:List Str} (M:MI2 most q rs J ws) (h:Man B most q (rs.map ruV)) (hN:N<=1250) (hS:Xj rs most (q,[],0) N) (Y:∀ i,i < N->¬ Xj rs most (q,[],0) i) (S:Q0):∃ v O,zx [Qk most q (rs.map ruV)] S=.ok v O/\Gw (fun _=>False) S O/\Qvq most q rs N S.length v O:=by
 obtain ⟨v,A,e,g,ht⟩:=Q36 M hN hS Y S;have h0:=Qam h S;rcases ht with ⟨I,R,ks,n,r,s,rfl,U,hR,k1,k2,k3,Z,k5,k6⟩ | ⟨I,rfl,hD⟩
 ·exact ⟨_,A,Qq (show Q0p [some (Qk most q (rs.map ruV)),none] S=_ from Q6 (Q9j (Q5 (n:=1) rfl rfl h0)) (Q6 (Qi (Q5 (n:=1) rfl rfl e)) (Vm (zh (Qj (Qd rfl rfl rfl)) (Qs rfl))))),g,.inl ⟨I,R,ks,n,r,s,rfl,Nat.le_of_lt U,hR,k1,k2,k3,Z,k5,k6⟩⟩
 ·have hl:Q0q (mOp oIx (Q2 1) (mC (.int 0))) [some (Qk most q (rs.map ruV)),some (.tup [.ref S.length,.non])] A=.ok ((lvs rs (q,[],0) N).1.map sdV) A:=by
   show (match W5 A (.ref S.length) with | some (z:List (HK × PV))=>Res.ok (z.map fun (kv:HK × PV)=>hkV kv.1) A | none=>.stuck)=_
   rw [Q01 pV hD];have e1:(lvF rs (q,[],0) N).1.map (·.1)=(lvs rs (q,[],0) N).1:=congrArg Prod.fst (Xa rs (q,[],0) N);rw [<- e1,L9];show Res.ok ((Qr pV (lvF rs (q,[],0) N).1).map fun (kv:HK × PV)=>hkV kv.1) A=_
   unfold Qr;rw [L9];congr 1;exact N0 fun x _=>Qnk x.1
  exact ⟨_,A ++ [.lst ((lvs rs (q,[],0) N).1.map sdV)],Qq (show Q0p [some (Qk most q (rs.map ruV)),none] S=_ from Q6 (Q9j (Q5 (n:=1) rfl rfl h0)) (Q6 (Qi (Q5 (n:=1) rfl rfl e)) (Q6 (Ye (Qj (Qd rfl rfl rfl)) rfl) (Qs (Z1 (Q3 rfl (Q3 (U5 hl) rfl)) (by simp)))))),g.trans (Gw.add _ _ _),.inr ⟨I,A.length,rfl,g.len,Zb _ _⟩⟩
theorem Qat (i:Nat):∀ s∈(lvs rs s0 i).1,s∈(lvs rs s0 (i + 1)).1:=fun s hs=>by
 obtain ⟨ex,e,_⟩:=Qz (nxt rs (lvs rs s0 i).2) (lvs rs s0 i).1 [];have e:lvs rs s0 (i + 1)=_:=e;rw [e];exact F6 _ hs
theorem Q1w {i j:Nat} (h:i<=j):∀ s∈(lvs rs s0 i).1,s∈(lvs rs s0 j).1:=by
 induction h with
 | refl=>exact fun s hs=>hs
 | step _ q=>exact fun s hs=>Qat _ s (q s hs)
theorem Q74 (i:Nat) (hs:s∈(lvs rs s0 i).2) {r:Ru} (q:r∈rs) (z:fit r s=true):stp r s∈(lvs rs s0 (i + 1)).1:=by
 obtain ⟨ex,e,_,g2,_⟩:=Qz (nxt rs (lvs rs s0 i).2) (lvs rs s0 i).1 [];have e:lvs rs s0 (i + 1)=_:=e;rw [e];exact g2 _ (G7.mpr ⟨s,hs,D6.mpr ⟨r,F5.mpr ⟨q,z⟩,rfl⟩⟩)
theorem Us {rs:List Ru} {s0:Sd}:∀ i,∀ s∈(lvs rs s0 i).1,∃ j,j<=i/\s∈(lvs rs s0 j).2
 | 0,s,hs=>⟨0,O6 _,hs⟩
 | i + 1,s,hs=>by
  obtain ⟨ex,e,_⟩:=Qz (nxt rs (lvs rs s0 i).2) (lvs rs s0 i).1 [];have e:lvs rs s0 (i + 1)=_:=e;have q:(lvs rs s0 (i + 1)).2=ex:=by rw [e]; simp
  rw [e] at hs;rcases E1.mp hs with hs | hs
  ·obtain ⟨j,h1,h2⟩:=Us i s hs;exact ⟨j,by omega,h2⟩
  ·exact ⟨i + 1,O6 _,by rw [q]; exact hs⟩
theorem Qgi {i:Nat} (hs:s∈(lvs rs s0 i).1) {r:Ru} (z:r∈rs) (q:fit r s=true):stp r s∈(lvs rs s0 (i + 1)).1:=by
 obtain ⟨j,I,h⟩:=Us i s hs;exact Q1w (by omega) _ (Q74 j h z q)
theorem Q1y (I:(lvs rs s0 N).2=[]) (hs:s∈(lvs rs s0 N).1) {r:Ru} (z:r∈rs) (J:fit r s=true):stp r s∈(lvs rs s0 N).1:=by
 obtain ⟨j,O,h⟩:=Us N s hs
 by_cases q:j=N
 ·rw [q,I] at h; cases h
 ·exact Q1w (by omega) _ (Q74 j h z J)
theorem Q7z {most:Int} (q:∀ i,i < N->¬ Xj rs most s0 i) {m:Nat} (hs:s∈(lvs rs s0 m).1) {r:Ru} (O:r∈rs) (Y:fit r s=true) (J:most < s.2.2 + r.u):N<=m/\(m=N->Vg rs most (lvs rs s0 N).2=true):=by
 obtain ⟨j,Z,h⟩:=Us m s hs;have I:Vg rs most (lvs rs s0 j).2=true:=List.any_eq_true.mpr ⟨s,h,List.any_eq_true.mpr ⟨r,O,by rw [Y,bW J]; rfl⟩⟩;have U:¬ j < N:=fun z=>q j z (.inl I)
 refine ⟨by omega,fun z=>?_⟩;have:j=N:=by omega
 rw [<- this]; exact I
def BrAt (rs:List Ru) (most:Int) (s0:Sd) (m:Nat):Prop:=∃ s∈(lvs rs s0 m).1,∃ r∈rs,fit r s=true/\most < s.2.2 + r.u
theorem Kb {rs z:List Ru} {s0:Sd} (h:∀ r∈z,r∈rs):∀ i,∀ s∈(lvs z s0 i).1,s∈(lvs rs s0 i).1
 | 0,s,hs=>hs
 | i + 1,s,hs=>by
  obtain ⟨ex,e,O,_,_⟩:=Qz (nxt z (lvs z s0 i).2) (lvs z s0 i).1 [];have e:lvs z s0 (i + 1)=_:=e;rw [e] at hs;rcases E1.mp hs with hs | hs
  ·exact Qat i s (Kb h i s hs)
  ·obtain ⟨q,Y,U⟩:=G7.mp (O s hs);obtain ⟨r,J,rfl⟩:=D6.mp U;obtain ⟨h1,h2⟩:=F5.mp J;refine Qgi (Kb h i q ?_) (h r h1) h2;have I:∀ i,∀ s∈(lvs z s0 i).2,s∈(lvs z s0 i).1:=fun i=>by
    cases i with
    | zero=>exact fun s hs=>hs
    | succ i=>
     obtain ⟨ex,e,_⟩:=Qz (nxt z (lvs z s0 i).2) (lvs z s0 i).1 [];have e:lvs z s0 (i + 1)=_:=e;rw [e];exact fun s hs=>E4 _ (by simpa using hs)
   exact I i q Y
theorem BrAt.mono {z:List Ru} {most q:Int} (h:∀ r∈z,r∈rs) (hm:most<=q) {m:Nat} (b:BrAt z q s0 m):BrAt rs most s0 m:=by
 obtain ⟨s,h1,r,h2,I,J⟩:=b;exact ⟨s,Kb h m s h1,r,h r h2,I,by omega⟩
theorem za {rs:List Ru} {s0:Sd} {N:Nat} (z:(lvs rs s0 N).2=[]):∀ m,∀ s∈(lvs rs s0 m).1,s∈(lvs rs s0 N).1
 | 0,s,hs=>Q1w (G8 N) s hs
 | i + 1,s,hs=>by
  obtain ⟨ex,e,O,_,_⟩:=Qz (nxt rs (lvs rs s0 i).2) (lvs rs s0 i).1 [];obtain ⟨j,Z,h⟩:=Us (i + 1) s hs
  by_cases q:j<=N
  ·have:s∈(lvs rs s0 j).1:=by
    cases j with
    | zero=>exact h
    | succ j=>
     obtain ⟨ex,e,_⟩:=Qz (nxt rs (lvs rs s0 j).2) (lvs rs s0 j).1 [];have e:lvs rs s0 (j + 1)=_:=e;rw [e] at h ⊢;exact E4 _ (by simpa using h)
   exact Q1w q s this
  ·have e:lvs rs s0 (i + 1)=_:=e;rw [e] at hs;rcases E1.mp hs with hs | hs
   ·exact za z i s hs
   ·obtain ⟨Y,I,U⟩:=G7.mp (O s hs);obtain ⟨r,J,rfl⟩:=D6.mp U;obtain ⟨h1,h2⟩:=F5.mp J;refine Q1y z (za z i Y ?_) h1 h2;cases i with
    | zero=>exact I
    | succ i=>
     obtain ⟨ex,e,_⟩:=Qz (nxt rs (lvs rs s0 i).2) (lvs rs s0 i).1 [];have e:lvs rs s0 (i + 1)=_:=e;rw [e] at I ⊢;exact E4 _ (by simpa using I)
def Kn (rs:List Ru) (most:Int) (s0:Sd) (k:Int):Prop:=(k=1000000/\∀ m,¬ BrAt rs most s0 m)\/∃ N:Nat,k=(N:Int) + 1/\N<=1250/\BrAt rs most s0 N/\∀ m,BrAt rs most s0 m->N<=m
theorem Kn.le {z:List Ru} {most q k I:Int} (a:Kn rs most s0 k) (b:Kn z q s0 I) (h:∀ r∈z,r∈rs) (hm:most<=q):k<=I:=by
 rcases b with ⟨rfl,_⟩ | ⟨N',rfl,_,h1,_⟩
 ·rcases a with ⟨rfl,_⟩ | ⟨N,rfl,h2,_⟩
  ·exact Int.le_refl _
  ·omega
 ·have:=h1.mono h hm;rcases a with ⟨_,h2⟩ | ⟨N,rfl,_,_,h2⟩
  ·exact absurd this (h2 N')
  ·have:=h2 N' this;omega
theorem Kn.pos {most k:Int} (a:Kn rs most s0 k):1<=k:=by
 rcases a with ⟨rfl,_⟩ | ⟨N,rfl,_⟩ <;> omega
theorem Kn.free {most k:Int} (a:Kn rs most s0 k) (h:∀ r∈rs,r.u=0) (hz:s0.2.2=0) (hm:0<=most):k=1000000:=by
 rcases a with ⟨rfl,_⟩ | ⟨N,_,_,⟨s,h1,r,h2,_,h4⟩,_⟩
 ·rfl
 ·exfalso;have z:∀ i,∀ s∈(lvs rs s0 i).1,s.2.2=0:=by
   intro i
   induction i with
   | zero=>intro s hs; rw [show s=s0 by simpa [lvs] using hs]; exact hz
   | succ i O=>
    intro s hs;obtain ⟨ex,e,Y,_,_⟩:=Qz (nxt rs (lvs rs s0 i).2) (lvs rs s0 i).1 [];have e:lvs rs s0 (i + 1)=_:=e;rw [e] at hs;rcases E1.mp hs with hs | hs
    ·exact O s hs
    ·obtain ⟨q,I,hx⟩:=G7.mp (Y s hs);obtain ⟨r,U,rfl⟩:=D6.mp hx;have hu:=h r (F5.mp U).1;have:q.2.2=0:=by
      obtain ⟨j,Z,J⟩:∃ j,j<=i/\q∈(lvs rs s0 j).1:=⟨i,O6 _,by
       cases i with
       | zero=>exact I
       | succ i=>
        obtain ⟨ex,e,_⟩:=Qz (nxt rs (lvs rs s0 i).2) (lvs rs s0 i).1 [];have e:lvs rs s0 (i + 1)=_:=e;rw [e] at I ⊢;exact E4 _ (by simpa using I)⟩
      exact O q (Q1w Z q J)
     show q.2.2 + r.u=0;omega
  have:=z N s h1;have:=h r h2;omega
def Xt (rs:List Ru) (s:Sd):Bool:=rs.all fun r=>!(fit r s) || (evB r.e || decide (stp r s=s))
def Le (rs:List Ru):Nat->Sd->Prop
 | 0,s=>Xt rs s=true
 | d + 1,s=>∃ r∈rs,fit r s=true/\Le rs d (stp r s)
theorem Qjh {q:List Ru} (h:∀ r,r∈q <-> r∈rs) (s:Sd):Xt q s=Xt rs s:=by
 unfold Xt;rw [Bool.eq_iff_iff,F0,F0];exact ⟨fun z r I=>z r ((h r).mpr I),fun z r I=>z r ((h r).mp I)⟩
theorem Q99 {rs q:List Ru} (h:∀ r,r∈q <-> r∈rs):∀ (d:Nat) (s:Sd),Le q d s->Le rs d s
 | 0,s,z=>by
  have z:Xt q s=true:=z;rw [Qjh h] at z;exact z
 | d + 1,s,⟨r,h1,h2,I⟩=>⟨r,(h r).mp h1,h2,Q99 h d _ I⟩
def Ds (rs:List Ru) (s:Sd) (d:Nat):Prop:=Le rs d s/\∀ j,j < d->¬ Le rs j s
theorem Ds.uniq {a b:Nat} (h:Ds rs s a) (k:Ds rs s b):a=b:=by
 by_cases x:a < b
 ·exact absurd h.1 (k.2 a x)
 ·by_cases y:b < a
  ·exact absurd k.1 (h.2 b y)
  ·omega
theorem Qht {q:List Ru} (h:∀ r,r∈q <-> r∈rs) {d:Nat} (k:Ds q s d):Ds rs s d:=⟨Q99 h d s k.1,fun j I z=>k.2 j I (Q99 (fun r=>(h r).symm) j s z)⟩
theorem Qvg :∀ (d:Nat),Le rs d s->∃ j,j<=d/\Ds rs s j
 | d,h=>by
  induction d using Nat.strongRecOn with
  | ind d J=>
   by_cases q:∃ j,j < d/\Le rs j s
   ·obtain ⟨j,I,O⟩:=q;obtain ⟨i,hi,hd⟩:=J j I O;exact ⟨i,by omega,hd⟩
   ·exact ⟨d,O6 _,h,fun j I z=>q ⟨j,I,z⟩⟩
theorem Qba {d:Nat} (h:Ds rs s (d + 1)):∃ r∈rs,fit r s=true/\Ds rs (stp r s) d:=by
 obtain ⟨⟨r,h1,h2,q⟩,h4⟩:=h;refine ⟨r,h1,h2,q,fun j I z=>h4 (j + 1) (by omega) ⟨r,h1,h2,z⟩⟩
structure BL (rs:List Ru) (X:List Sd) (i:Nat) (G:List (Sd × Nat)) (fr:List Sd):Prop where
 nd:(G.map (·.1)).Nodup
 x:∀ e∈G,e.1∈X/\e.2<=i/\Ds rs e.1 e.2
 a:∀ s∈X,∀ d,d<=i->Ds rs s d->(s,d)∈G
 f:∀ s,s∈fr <-> (s,i)∈G
theorem BL.next (a1:∀ s∈X,∀ r∈rs,fit r s=true->stp r s∈X) {i:Nat} (B:BL rs X i G fr) {ah:Sd->List Sd} (Z:∀ s q,q∈ah s <-> q∈X/\∃ r∈rs,fit r q=true/\stp r q=s):BL rs X (i + 1) ((fr.flatMap fun s=>(ah s).map fun q=>(q,i + 1)).foldl Jt (G,[])).1 ((fr.flatMap fun s=>(ah s).map fun q=>(q,i + 1)).foldl Jt (G,[])).2:=by
 obtain ⟨ys,O⟩:∃ ys,(fr.flatMap fun s=>(ah s).map fun q=>(q,i + 1))=ys:=⟨_,rfl⟩
 have hy:∀ e∈ys,e.2=i + 1/\∃ s∈fr,e.1∈ah s:=fun e I=>by
  rw [<- O] at I;obtain ⟨s,hs,h⟩:=G7.mp I;obtain ⟨q,hq,rfl⟩:=D6.mp h;exact ⟨rfl,s,hs,hq⟩
 rw [O];obtain ⟨ex,e1,e2,e3⟩:=Yz ys (G,[]);have Y:=zw ys (G,[]);obtain ⟨nx,n1,n2,n3,n4⟩:=Qz (ys.map (·.1)) (G.map (·.1)) [];rw [n1] at Y;have k1:(ys.foldl Jt (G,[])).1.map (·.1)=G.map (·.1) ++ nx:=congrArg Prod.fst Y;have e1:(ys.foldl Jt (G,[])).1=G ++ ex:=e1;have e2:(ys.foldl Jt (G,[])).2=ex.map (·.1):=by rw [e2]; rfl
 rw [e1] at k1;rw [E5] at k1;have k2:ex.map (·.1)=nx:=List.append_cancel_left k1;have nd:((G ++ ex).map (·.1)).Nodup:=by rw [E5,k2]; exact n4 B.nd
 have U:∀ e∈ex,e.1∈X/\e.2=i + 1/\Ds rs e.1 (i + 1):=fun e I=>by
  obtain ⟨h1,s,hs,hq⟩:=hy e (e3 e I);obtain ⟨hX,r,hr,hf,a2⟩:=(Z s e.1).mp hq;have J:=(B.x _ ((B.f s).mp hs)).2.2;refine ⟨hX,h1,⟨r,hr,hf,by rw [a2]; exact J.1⟩,fun j hj z=>?_⟩
  obtain ⟨j',a6,hd⟩:=Qvg j z;have a4:=B.a e.1 hX j' (by omega) hd;rw [E5] at nd;exact (L4.mp nd).2.2 _ (D6.mpr ⟨_,a4,rfl⟩) _ (D6.mpr ⟨e,I,rfl⟩) rfl
 rw [e1,e2];refine ⟨nd,fun e I=>?_,fun s hs d hd h=>?_,fun s=>?_⟩
 ·rcases E1.mp I with I | I
  ·obtain ⟨a,b,c⟩:=B.x e I;exact ⟨a,by omega,c⟩
  ·obtain ⟨a,b,c⟩:=U e I;exact ⟨a,by omega,by rw [b]; exact c⟩
 ·by_cases q:d<=i
  ·exact F6 _ (B.a s hs d q h)
  ·have a5:d=i + 1:=by omega
   subst a5;obtain ⟨r,hr,hf,J⟩:=Qba h;have a3:s∈ys.map (·.1):=by
    have:stp r s∈fr:=(B.f _).mpr (B.a _ (a1 s hs r hr hf) i (O6 _) J);rw [<- O];exact D6.mpr ⟨(s,i + 1),G7.mpr ⟨_,this,D6.mpr ⟨s,(Z _ _).mpr ⟨hs,r,hr,hf,rfl⟩,rfl⟩⟩,rfl⟩
   have:=n3 s a3;rw [<- k1] at this;rcases E1.mp this with z | z
   ·obtain ⟨e,I,rfl⟩:=D6.mp z;obtain ⟨_,b,c⟩:=B.x e I;have:=c.uniq h;omega
   ·obtain ⟨e,I,rfl⟩:=D6.mp z;have:=(U e I).2.1;exact E4 _ (by rw [<- this]; exact I)
 ·constructor
  ·intro hs;obtain ⟨e,I,rfl⟩:=D6.mp hs;have:=(U e I).2.1;exact E4 _ (by rw [<- this]; exact I)
  ·intro h;rcases E1.mp h with h | h
   ·have:=(B.x _ h).2.1;simp at this;omega
   ·exact D6.mpr ⟨_,h,rfl⟩
theorem BL.fin (I:∀ s∈X,∀ r∈rs,fit r s=true->stp r s∈X) {i:Nat} (B:BL rs X i G []):∀ (s:Sd) (d:Nat),s∈X/\Ds rs s d <-> (s,d)∈G:=by
 have z:∀ k,∀ s∈X,¬ Ds rs s (i + k):=by
  intro k
  induction k with
  | zero=>
   intro s hs h;have:=(B.f s).mpr (B.a s hs i (O6 _) h);cases this
  | succ k J=>
   intro s hs h;obtain ⟨r,h1,h2,O⟩:=Qba h;exact J _ (I s hs r h1 h2) O
 intro s d;constructor
 ·rintro ⟨h1,h2⟩
  by_cases q:d<=i
  ·exact B.a s h1 d q h2
  ·have:=z (d - i) s h1;rw [show i + (d - i)=d by omega] at this;exact absurd h2 this
 ·intro h;obtain ⟨a,_,c⟩:=B.x _ h;exact ⟨a,c⟩
theorem BL.zero (nd:X.Nodup):BL rs X 0 ((X.filter (Xt rs)).map fun s=>(s,0)) (X.filter (Xt rs)):=by
 refine ⟨?_,fun e q=>?_,fun s hs d hd h=>?_,fun s=>?_⟩
 ·rw [L9];show ((X.filter (Xt rs)).map id).Nodup;rw [List.map_id]; exact nd.filter _
 ·obtain ⟨s,hs,rfl⟩:=D6.mp q;obtain ⟨h1,h2⟩:=F5.mp hs;exact ⟨h1,O6 _,h2,fun j I=>by omega⟩
 ·have hd:d=0:=by omega
  subst hd;exact D6.mpr ⟨s,F5.mpr ⟨hs,h.1⟩,rfl⟩
 ·constructor
  ·exact fun h=>D6.mpr ⟨s,h,rfl⟩
  ·intro h;obtain ⟨t,z,e⟩:=D6.mp h;cases e;exact z
theorem evS (x:Str):Vw ["go", "fall"] x=evB x:=by
 unfold Vw evB;rw [List.any_cons,List.any_cons,List.any_nil,Bool.or_false];congr 1 <;> exact decide_eq_decide.mpr eq_comm
theorem jj {α:Type} [DecidableEq α] (f:α->PV) (h:∀ x y,peq (f x) (f y)=decide (x=y)):∀ xs ys:List α,peqL (xs.map f) (ys.map f)=decide (xs=ys)
 | [],[]=>rfl
 | [],_ :: _=>rfl
 | _ :: _,[]=>rfl
 | x :: xs,y :: ys=>by
  rw [D0,D0,peqL,h,jj f h xs ys,<- Bool.decide_and];exact decide_eq_decide.mpr (by rw [List.cons.injEq])
theorem Qq4 (a b:Sd):peq (sdV a) (sdV b)=decide (a=b):=by
 have h1:peqL (a.1.map PV.str) (b.1.map PV.str)=decide (a.1=b.1):=jj PV.str (fun x y=>by rw [Bool.eq_iff_iff]; simp [peq]) _ _;have h2:peqL (a.2.1.map prV) (b.2.1.map prV)=decide (a.2.1=b.2.1):=jj prV Qai _ _;unfold sdV stV;simp only [peq,peqL,h1,h2,Bool.and_true];rw [Bool.eq_iff_iff];simp only [E9,decide_eq_true_eq,beq_iff_eq];constructor
 ·intro z; exact Prod.ext z.1 (Prod.ext z.2.1 z.2.2)
 ·intro z; rw [z]; exact ⟨rfl,rfl,rfl⟩
theorem Qaa (s:Sd):good dep (sdV s)=true:=by simp [good,dep,sdV,stV,prV]
theorem Qve (S:Q0) (a b:Sd):oEq S (sdV a) (sdV b)=.ok (.bl (decide (a=b))) S:=by
 unfold oEq;rw [show der S (sdV a)=sdV a from rfl,show der S (sdV b)=sdV b from rfl,bT ⟨Qaa a,Qaa b⟩,Qq4]
theorem Qrr {T:Q0} (h:good 12 v=true):fin S v (S ++ T)=.ok v S:=by
 unfold fin;rw [bT (List.prefix_append S T),Qb5 h (by decide)]; rfl
theorem Q5i (s:Sd) (h:rs.length<=9):(Kh rs s.1 s.2.1).length<=9:=by
 unfold Kh;have:=List.length_filter_le (fun p:Ru × Nat=>Q5e p.1 s.1 s.2.1) rs.zipIdx;rw [List.length_zipIdx] at this;omega
theorem Qjk {most:Int} {q:List Str} {U:List Str} (M:MI2 most q rs U ws) (I:SdI q.length U ws s) (S:Q0):V0 [Qk most q (rs.map ruV),sdV s] S=.ok (.bl (Xt rs s)) S:=by
 obtain ⟨zs,z⟩:∃ zs,Kh rs s.1 s.2.1=zs:=⟨_,rfl⟩;have hl:=Q5i (rs:=rs) s M.len;have hz:∀ p∈zs,rs[p.2]?=some p.1:=fun p O=>(xn (by rw [z]; exact O)).1
 have Y:=Q4u M I S;rw [z] at hl Y;obtain ⟨S1,J⟩:∃ S1,S ++ [Cell.lst (zs.map nV)]=S1:=⟨_,rfl⟩;rw [J] at Y;have Z:S1[S.length]?=some (.lst (zs.map nV)):=by rw [<- J]; exact Zb _ _
 have c1:=zm (ga:=Qe 0) (me:=Uh) (w:=[(S.length,.lst (zs.map nV))]) (Γ0:=[none,some (Qk most q (rs.map ruV))]) (st:=S1) nV (fun p=>ruV p.1) (Ux Z) (ys:=zs) fun p O=>⟨_,rfl,Qd (Qd rfl rfl rfl) rfl (rix (hz p O) S1)⟩
 have c2:=qa (ga:=Qe 0) (mt:=U6) (me:=Ug) (w:=[]) (Γ0:=[none]) (st:=S1) (fun p:Ru × Nat=>ruV p.1) (fun p=>ruV p.1) (fun p=>!evB p.1.e) (Qp _) (ys:=zs) fun p _=>⟨_,rfl,Qj ((Q9d (x:=p.1.e) (Qd rfl rfl rfl)).trans (by rw [evS]; cases evB p.1.e <;> rfl)),fun _=>rfl⟩
 have c3:=zm (ga:=Qe 0) (me:=Uf) (w:=[]) (Γ0:=[none,some (sdV s)]) (st:=S1) (fun p:Ru × Nat=>ruV p.1) (fun p=>.bl (decide (stp p.1 s=s))) (Qp _) (ys:=zs.filter fun p=>!evB p.1.e) fun p O=>⟨_,rfl,Qd (Q5 (n:=2) (Q3 rfl (Q3 rfl rfl)) rfl (Q9v M I (E3 (hz p (F5.mp O).1)) S1)) rfl (Qve S1 _ _)⟩
 have fl:=List.length_filter_le (fun p:Ru × Nat=>!evB p.1.e) zs;have hb:zt (fun ns=>PV.bl (ns.all id)) S1 [.lst ((zs.filter fun p=>!evB p.1.e).map fun p=>.bl (decide (stp p.1 s=s)))]=.ok (.bl (Xt rs s)) S1:=by
  have:=Qid S1 ((zs.filter fun p=>!evB p.1.e).map fun p=>decide (stp p.1 s=s))
  rw [L9] at this;refine this.trans ?_;congr 2;unfold Xt;rw [List.all_map,Bool.eq_iff_iff,F0,F0];constructor
  ·intro h r hr;cases f:fit r s with
   | false=>rfl
   | true=>
    cases g:evB r.e with
    | true=>rfl
    | false=>
     obtain ⟨k,hk⟩:=List.mem_iff_getElem?.mp hr;have:(r,k)∈zs:=by rw [<- z]; exact F5.mpr ⟨M0.mpr hk,f⟩
     exact h (r,k) (F5.mpr ⟨this,by simp [g]⟩)
  ·intro h p O;obtain ⟨h1,h2⟩:=F5.mp O;have f:=(xn (rs:=rs) (s:=s) (by rw [z]; exact h1)).2;have:=h p.1 (E3 (hz p h1));rw [f] at this;have g:evB p.1.e=false:=by simpa using h2
   rw [g] at this;exact this
 have st:U0 [some (Qk most q (rs.map ruV)),some (sdV s),none,none] S=.rt (.bl (Xt rs s)) S1:=Q6 (Qi (V2 (Y4 (Z7 (Q5 (n:=2) (Q3 rfl (Q3 rfl rfl)) rfl Y) (Vx Z) (by rw [O1]; omega)) c1))) (Q6 (Qi (V2 (Y4 (Z7 rfl rfl (by rw [O1]; omega)) c2))) (Qs (Zu (Q3 (V2 (Y4 (Z7 rfl rfl (by rw [O1]; omega)) c3)) rfl) hb)));rw [<- J] at st;exact (zq (m:=U0) (nl:=4) (ps:=[Qk most q (rs.map ruV),sdV s]) st).trans (Qrr rfl)
def ahV (b k:Nat):PV:=.ref (b + k)
def fE (es:List (Sd × Sd)) (s:Sd):List Sd:=(es.filter fun e=>decide (e.1=s)).map (·.2)
structure AH (X:List Sd) (b D:Nat) (es:List (Sd × Sd)) (st:Q0):Prop where
 d:st[D]?=some (.dtp (Qr (ahV b) X.zipIdx))
 c:∀ k s,X[k]?=some s->st[b + k]?=some (.lst ((fE es s).map sdV))
theorem Qdr (h:X.Nodup):(X.zipIdx.map (·.1)).Nodup:=by
 rw [show X.zipIdx.map (·.1)=X from List.zipIdx_map_fst 0 X]; exact h
theorem AH.gw {b:Nat} {es:List (Sd × Sd)} {z:Q0} {P:Nat->Prop} (a:AH X b D es A) (g:Gw P A z) (J:¬ P D) (I:∀ k,k < X.length->¬ P (b + k)):AH X b D es z:=⟨g.at a.d J,fun k s q=>g.at (a.c k s q) (I k (O0.mp q).1)⟩
theorem Qmh (es:List (Sd × Sd)) (t q s:Sd):fE (es ++ [(t,q)]) s=fE es s ++ if t=s then [q] else []:=by
 unfold fE;rw [List.filter_append,E5];congr 1
 by_cases h:t=s <;> simp [h]
theorem Qhj (es:List (Sd × Sd)) (s:Sd):(fE es s).length<=es.length:=by
 unfold fE;rw [O1];exact List.length_filter_le _ _
theorem Qnq {most:Int} {I:List Str} {rs:List Ru} {a2 ws:List Str} (M:MI2 most I rs a2 ws) {X:List Sd} (nd:X.Nodup) (hX:∀ s∈X,SdI I.length a2 ws s) (Z:∀ s∈X,∀ r∈rs,fit r s=true->stp r s∈X) {b D:Nat} (a5:b + X.length=D) {V:PV} {q:Sd} (hq:q∈X) {w:Wt} (hw:∀ x∈w,¬ (b<=x.1/\x.1 < D)):∀ (ks:List (Ru × Nat)) (es:List (Sd × Sd)) (A:Q0) (a4:Option PV),(∀ p∈ks,p∈Kh rs q.1 q.2.1)->AH X b D es A->wOk w A->es.length + ks.length<=100000 ->
  ∃ A' U,Zc (Qe 4) Wj w (ks.map nV) [some (Qk most I (rs.map ruV)),some V,some (.ref D),some (sdV q),a4] A=.nx [some (Qk most I (rs.map ruV)),some V,some (.ref D),some (sdV q),U] A'/\AH X b D (es ++ ks.map fun p=>(stp p.1 q,q)) A'/\Gw (fun t=>b<=t/\t < D) A A'
 | [],es,A,a4,_,H,O,_=>⟨A,a4,Zx O,by rw [List.map_nil,L0]; exact H,Gw.refl _ _⟩
 | p :: ks,es,A,a4,hk,H,O,hl=>by
  obtain ⟨h1,h2⟩:=xn (hk p E7);have hr:=E3 h1;have ht:=Z q hq p.1 hr h2;obtain ⟨k,J⟩:=List.mem_iff_getElem?.mp ht;have a6:=(O0.mp J).1;have hc:=H.c k _ J;have hg:=xq (ahV b) H.d (Qdr nd) (t:=stp p.1 q) (a:=k) (M0.mpr J);have fl:=Qhj es (stp p.1 q);rw [O9] at hl;have Y:=qe hc (by rw [O1]; omega) (sdV q);have a1:=(O0.mp hc).1;have g1:Gw (fun t=>b<=t/\t < D) A (A.set (b + k) (.lst ((fE es (stp p.1 q)).map sdV ++ [sdV q]))):=Gw.put A ⟨by omega,by omega⟩ _;have H1:AH X b D (es ++ [(stp p.1 q,q)]) (A.set (b + k) (.lst ((fE es (stp p.1 q)).map sdV ++ [sdV q]))):=by
   refine ⟨g1.at H.d (by omega),fun k' s hs=>?_⟩;rw [Qmh]
   by_cases e:k'=k
   ·subst e;rw [J] at hs;cases hs;rw [F3 a1,bT rfl,E5]; rfl
   ·have a3:stp p.1 q≠s:=fun z=>e (by
     rw [<- z,<- J] at hs;exact ((List.getElem?_inj (O0.mp J).1 nd).mp hs.symm).symm)
    rw [F1 (by omega),bU a3,L0];exact H.c k' s hs
  obtain ⟨A',U,e,H',g'⟩:=Qnq M nd hX Z a5 hq hw ks (es ++ [(stp p.1 q,q)]) _ (some (nV p)) (fun x hx=>hk x (O4 _ hx)) H1 (g1.w O hw) (by rw [O5,N1]; omega)
  refine ⟨A',U,Jv O rfl (xr (j5 rfl (Q5 (n:=2) (Q3 (Qd (Qd rfl rfl rfl) rfl (rix h1 A)) (Q3 rfl rfl)) rfl (Q9v M (hX q hq) hr A)) hg) (Zp hc) (Q3 rfl rfl) Y) e,?_,g1.trans g'⟩;rw [D0,List.append_cons]; exact H'
def xt (rs:List Ru) (X:List Sd):List (Sd × Sd):=X.flatMap fun q=>(Kh rs q.1 q.2.1).map fun p=>(stp p.1 q,q)
theorem Qim {most:Int} {I:List Str} {rs:List Ru} {Y ws:List Str} (M:MI2 most I rs Y ws) {X:List Sd} (nd:X.Nodup) (hX:∀ s∈X,SdI I.length Y ws s) (O:∀ s∈X,∀ r∈rs,fit r s=true->stp r s∈X) {b D:Nat} (Z:b + X.length=D) {V:PV}:∀ (J:List Sd) (es:List (Sd × Sd)) (A:Q0) (a3 a4:Option PV),(∀ q∈J,q∈X)->AH X b D es A->es.length + 9 * J.length<=100000 ->
  ∃ A' a2 a1,Zc (Qe 3) Wk [] (J.map sdV) [some (Qk most I (rs.map ruV)),some V,some (.ref D),a3,a4] A=.nx [some (Qk most I (rs.map ruV)),some V,some (.ref D),a2,a1] A'/\AH X b D (es ++ xt rs J) A'/\Gw (fun t=>b<=t/\t < D) A A'
 | [],es,A,a3,a4,_,H,_=>⟨A,a3,a4,Zx (Qp _),by unfold xt; rw [List.flatMap_nil,L0]; exact H,Gw.refl _ _⟩
 | q :: J,es,A,a3,a4,hq,H,hl=>by
  have U:=hq q E7;have a6:=Q5i (rs:=rs) q M.len;rw [O9] at hl;have a5:=(O0.mp H.d).1;have gA:Gw (fun _=>False) A (A ++ [.lst ((Kh rs q.1 q.2.1).map nV)]):=Gw.add _ _ _;obtain ⟨A1,c4,e1,H1,g1⟩:=Qnq M nd hX O Z (V:=V) U (w:=[(A.length,.lst ((Kh rs q.1 q.2.1).map nV))]) (fun x hx=>by
   rw [show x=(A.length,.lst ((Kh rs q.1 q.2.1).map nV)) by simpa using hx];omega) (Kh rs q.1 q.2.1) es (A ++ [.lst ((Kh rs q.1 q.2.1).map nV)]) a4 (fun p hp=>hp) (H.gw gA id fun _ _=>id) (Ux (Zb _ _)) (by omega)
  obtain ⟨A',b3,b4,e,H',g'⟩:=Qim M nd hX O Z J _ A1 (some (sdV q)) c4 (fun x hx=>hq x (O4 _ hx)) H1 (by rw [O5,O1]; omega)
  refine ⟨A',b3,b4,Jv (Qp _) rfl (Zw (Z7 (Q5 (n:=2) (Q3 rfl (Q3 rfl rfl)) rfl (Q4u M (hX q U) A)) (Vx (Zb _ _)) (by rw [O1]; omega)) e1) e,?_,((gA.mono fun _ _ z=>z.elim).trans g1).trans g'⟩;unfold xt at H' ⊢;rw [List.flatMap_cons,<- List.append_assoc]; exact H'
theorem Qf8 {α:Type} (f:α->PV):∀ (G K:List (Sd × α)),((K ++ G).map (·.1)).Nodup->Kr (Qr f K) (Qr f G)=Qr f (K ++ G)
 | [],K,_=>by rw [L0]; rfl
 | x :: G,K,h=>by
  have h':((K ++ [x] ++ G).map (·.1)).Nodup:=by rw [<- List.append_cons]; exact h
  have q:x.1∉K.map (·.1):=fun z=>by
   rw [E5,D0] at h;exact (L4.mp h).2.2 _ z _ E7 rfl
  show Kr (Sm.putT (Qr f K) (sdK x.1) (f x.2)) (Qr f G)=_;rw [Qaf f q,Qf8 f G _ h',<- List.append_cons]
theorem jm {α:Type} (f:α->PV):∀ G:List (Sd × α),yh (G.map fun e=>.tup [sdV e.1,f e.2])=some (Qr f G)
 | []=>rfl
 | x :: G=>by
  rw [D0,yh,yd,jm f G]; rfl
theorem Qbb (f:α->PV) {G:List (Sd × α)} (nd:(G.map (·.1)).Nodup) (q:G.length<=100000) (S:Q0):j9 S [.lst (G.map fun e=>.tup [sdV e.1,f e.2])]=.ok (.ref S.length) (S ++ [.dtp (Qr f G)]):=by
 unfold j9;simp only [jm];rw [bT (by unfold Qr; rw [O1,xc]; omega)];have:=Qf8 f G [] nd;rw [List.nil_append] at this;show Res.ok (PV.ref S.length) (S ++ [Cell.dtp (Kr (Qr f []) (Qr f G))])=_;rw [this]
theorem Qik {most:Int} {q:List Str} {J:List Str} (M:MI2 most q rs J ws) (nd:X.Nodup) (hX:∀ s∈X,SdI q.length J ws s) (O:∀ s∈X,∀ r∈rs,fit r s=true->stp r s∈X) (hl:X.length<=2000) (S:Q0):∃ Y,Zk [Qk most q (rs.map ruV),.lst (X.map sdV)] S=.ok (.ref (S.length + X.length)) Y/\AH X S.length (S.length + X.length) (xt rs X) Y/\Gw (fun _=>False) S Y:=by
 obtain ⟨I,S1,e1,Z,rfl⟩:=qb sdV (xs:=X) (fun i I st=>I=((X.take i).zipIdx).map (fun e=>.tup [sdV e.1,ahV S.length e.2])/\st=S ++ List.replicate i (.lst [])) (ga:=Qe 0) (me:=Wh) (w:=[]) (Γ0:=[none]) (st:=S)
  (fun _ _ st _=>Qp st)
  (fun i x I st hx ⟨h1,h2⟩=>by
   subst h1;subst h2;refine ⟨_,rfl,.tup [sdV x,ahV S.length i],S ++ List.replicate (i + 1) (.lst []),?_,?_,rfl⟩
   ·have e:Jx (Q1 (Q2 0) (Q1 (qh (K6 Q4)) Q4)) [some (sdV x)] (S ++ List.replicate i (.lst []))=.ok (.tup [sdV x,.ref (S ++ List.replicate i (Cell.lst [])).length]) ((S ++ List.replicate i (.lst [])) ++ [.lst []]):=Z1 (Q3 rfl (Q3 (U5 rfl) rfl)) (F9 rfl);refine e.trans ?_;rw [O5,List.length_replicate,List.append_assoc,<- List.replicate_succ' (n:=i)]; rfl
   ·have hi:=(O0.mp hx).1;rw [List.take_succ,hx];show _=((X.take i ++ [x]).zipIdx).map _;rw [List.zipIdx_append,E5,L7,Nat.zero_add,Nat.min_eq_left (by omega)]; rfl)
  ⟨rfl,by simp⟩
 rw [List.take_length] at Z;subst Z;have e2:=Qbb (ahV S.length) (Qdr nd) (by rw [List.length_zipIdx]; omega) (S ++ List.replicate X.length (.lst []));have z:(S ++ List.replicate X.length (Cell.lst [])).length=S.length + X.length:=by rw [O5,List.length_replicate]
 rw [z] at e2;have H0:AH X S.length (S.length + X.length) [] ((S ++ List.replicate X.length (.lst [])) ++ [.dtp (Qr (ahV S.length) X.zipIdx)]):=by
  refine ⟨by rw [<- z]; exact Zb _ _,fun k s hk=>?_⟩;have U:=(O0.mp hk).1;rw [O7 (by rw [z]; omega),D9 (by omega),Nat.add_sub_cancel_left,List.getElem?_replicate,bT U]; rfl
 obtain ⟨A',a3,a4,e3,H',g'⟩:=Qim M nd hX O rfl (V:=.lst (X.map sdV)) X [] _ none none (fun _ h=>h) H0 (by rw [List.length_nil]; omega);refine ⟨A',Qq (m:=Vu) (nl:=5) (ps:=[Qk most q (rs.map ruV),.lst (X.map sdV)]) (Q6 (Qi (Zu (Q3 (V2 (Y4 (Z7 rfl rfl (by rw [O1]; omega)) e1)) rfl) e2)) (Q6 (Zw (Z7 rfl rfl (by rw [O1]; omega)) e3) (Qs rfl))),by rw [List.nil_append] at H'; exact H',?_⟩;refine ⟨by have:=g'.len; rw [O5,z] at this; omega,fun t ht _=>?_⟩;rw [g'.keep t (by rw [O5,z]; omega) (by omega),O7 (by rw [z]; omega),O7 ht]
theorem Qbj (nd:X.Nodup) (a1:∀ s∈X,∀ r∈rs,fit r s=true->stp r s∈X) (s q:Sd):q∈fE (xt rs X) s <-> q∈X/\∃ r∈rs,fit r q=true/\stp r q=s:=by
 unfold fE xt;rw [D6];constructor
 ·rintro ⟨e,I,rfl⟩;obtain ⟨h1,h2⟩:=F5.mp I;obtain ⟨q,z,Y⟩:=G7.mp h1;obtain ⟨p,Z,rfl⟩:=D6.mp Y;obtain ⟨a,b⟩:=xn Z;exact ⟨z,p.1,E3 a,b,of_decide_eq_true h2⟩
 ·rintro ⟨z,r,J,O,rfl⟩;obtain ⟨k,U⟩:=List.mem_iff_getElem?.mp J;exact ⟨(stp r q,q),F5.mpr ⟨G7.mpr ⟨q,z,D6.mpr ⟨(r,k),F5.mpr ⟨M0.mpr U,O⟩,rfl⟩⟩,by simp⟩,rfl⟩
def nN (k:Nat):PV:=.int (k:Int)
abbrev stG (m V:PV) (D:Nat) (f:PV) (D2:Nat) (a5 a6 a7:Option PV):Gam:=[some m,some V,some (.ref D),some f,some (.ref D2),a5,a6,a7]
theorem Qf1 {m V f:PV} {D Y Fi:Nat} (a3:Y≠Fi) {s:Sd} {i:Nat} {w:Wt} (hw:∀ x∈w,¬ (x.1=Y\/x.1=Fi)):∀ (qs:List Sd) (G:List (Sd × Nat)) (I:List Sd) (A:Q0) (a7:Option PV),A[Y]?=some (.dtp (Qr nN G))->A[Fi]?=some (.lst (I.map sdV))->wOk w A->(G.map (·.1)).Nodup->(s,i)∈G->G.length + qs.length<=200000->I.length<=G.length ->
  ∃ A' U,Zc (Qe 7) Yv w (qs.map sdV) (stG m V D f Y (some (.ref Fi)) (some (sdV s)) a7) A=.nx (stG m V D f Y (some (.ref Fi)) (some (sdV s)) U) A'/\A'[Y]?=some (.dtp (Qr nN ((qs.map fun q=>(q,i + 1)).foldl Jt (G,I)).1))/\A'[Fi]?=some (.lst (((qs.map fun q=>(q,i + 1)).foldl Jt (G,I)).2.map sdV))/\Gw (fun t=>t=Y\/t=Fi) A A'
 | [],G,I,A,a7,hD,hF,J,_,_,_,_=>⟨A,a7,Zx J,hD,hF,Gw.refl _ _⟩
 | q :: qs,G,I,A,a7,hD,hF,J,hn,hs,hl,b0=>by
  rw [O9] at hl;have a2:=Qhs nN hD q true;simp only [D0,F8]
  by_cases z:q∈G.map (·.1)
  ·have O:Jt (G,I) (q,i + 1)=(G,I):=by unfold Jt; rw [bT z]
   rw [O];rw [bW z] at a2;obtain ⟨A',U,e,h⟩:=Qf1 a3 hw qs G I A (some (sdV q)) hD hF J hn hs (by omega) b0;exact ⟨A',U,Jv J rfl (Ye (Qj (Qd rfl rfl a2)) rfl) e,h⟩
  ·have O:Jt (G,I) (q,i + 1)=(G ++ [(q,i + 1)],I ++ [q]):=by unfold Jt; rw [bU z]
   rw [O];rw [bV z] at a2;have a6:=xq nN hD hn hs;have a4:=Qhr nN hD (by omega) z (i + 1);have a9:=(O0.mp hD).1;obtain ⟨A1,a1⟩:∃ A1,A.set Y (.dtp (Qr nN (G ++ [(q,i + 1)])))=A1:=⟨_,rfl⟩;rw [a1] at a4;have d1:A1[Y]?=some (.dtp (Qr nN (G ++ [(q,i + 1)]))):=by rw [<- a1]; exact F3 a9
   have f1:A1[Fi]?=some (.lst (I.map sdV)):=by rw [<- a1,F1 a3]; exact hF
   have a8:=(O0.mp f1).1;obtain ⟨A2,Z⟩:∃ A2,A1.set Fi (.lst ((I ++ [q]).map sdV))=A2:=⟨_,rfl⟩;have d2:A2[Y]?=some (.dtp (Qr nN (G ++ [(q,i + 1)]))):=by rw [<- Z,F1 (Ne.symm a3)]; exact d1
   have f2:A2[Fi]?=some (.lst ((I ++ [q]).map sdV)):=by rw [<- Z]; exact F3 a8
   have g2:Gw (fun t=>t=Y\/t=Fi) A A2:=by rw [<- Z,<- a1]; exact (Gw.put A (.inl rfl) _).trans (Gw.put _ (.inr rfl) _)
   have a5:Jc A1 (.ref Fi) [sdV q]=.ok .non A2:=by rw [qe f1 (by rw [O1]; omega),<- Z,E5]; rfl
   obtain ⟨A',U,e,h1,h2,h3⟩:=Qf1 a3 hw qs (G ++ [(q,i + 1)]) (I ++ [q]) A2 (some (sdV q)) d2 f2 (g2.w J hw) (by
    rw [E5];refine L4.mpr ⟨hn,by simp,fun a ha c hc e=>z ?_⟩;rw [<- show c=q by simpa using hc,<- e]; exact ha) (F6 _ hs) (by rw [O5,N1]; omega) (by rw [O5,O5,N1,N1]; omega)
   exact ⟨A',U,Jv J rfl (zh (Qj (Qd rfl rfl a2)) (Q6 (yu (Qd (j5 rfl rfl a6) rfl (Q85 _ _ _)) rfl rfl a4) (xr rfl (Zp f1) (Q3 rfl rfl) a5))) e,h1,h2,g2.trans h3⟩
theorem Q84 {rs:List Ru} (h:rs.length<=9):∀ X:List Sd,(xt rs X).length<=9 * X.length
 | []=>O6 _
 | q :: X=>by
  have:=Q84 h X;have hd:=Q5i (rs:=rs) q h;unfold xt at *;rw [List.flatMap_cons,O5,O1,O9];omega
theorem Qf0 {X:List Sd} (nd:X.Nodup) {m V f:PV} {b D O Fi:Nat} (a9:b + X.length=D) (b1:D < O) (a5:O < Fi) {es:List (Sd × Sd)} (b0:es.length<=100000) {i:Nat} {w:Wt} (hw:∀ x∈w,¬ (x.1=O\/x.1=Fi)):∀ (fr:List Sd) (G:List (Sd × Nat)) (I:List Sd) (A:Q0) (a6 a7:Option PV),(∀ s∈fr,s∈X)->A[O]?=some (.dtp (Qr nN G))->A[Fi]?=some (.lst (I.map sdV))->wOk w A->AH X b D es A->(G.map (·.1)).Nodup->(∀ s∈fr,(s,i)∈G)->(∀ e∈G,e.1∈X)->(∀ s q,q∈fE es s->q∈X)->I.length<=G.length->X.length<=2000 ->
  ∃ A' a3 a4,Zc (Qe 6) Yw w (fr.map sdV) (stG m V D f O (some (.ref Fi)) a6 a7) A=.nx (stG m V D f O (some (.ref Fi)) a3 a4) A'/\A'[O]?=some (.dtp (Qr nN ((fr.flatMap fun s=>(fE es s).map fun q=>(q,i + 1)).foldl Jt (G,I)).1))/\A'[Fi]?=some (.lst (((fr.flatMap fun s=>(fE es s).map fun q=>(q,i + 1)).foldl Jt (G,I)).2.map sdV))/\Gw (fun t=>t=O\/t=Fi) A A'
 | [],G,I,A,a6,a7,_,hD,hF,U,_,_,_,_,_,_,_=>⟨A,a6,a7,Zx U,hD,hF,Gw.refl _ _⟩
 | s :: fr,G,I,A,a6,a7,a2,hD,hF,U,H,hn,hi,hG,hE,a8,hl=>by
  obtain ⟨k,hk⟩:=List.mem_iff_getElem?.mp (a2 s E7);have b2:=(O0.mp hk).1;have hc:=H.c k s hk;have hg:=xq (ahV b) H.d (Qdr nd) (t:=s) (a:=k) (M0.mpr hk);have fl:=Qhj es s;have gl:G.length<=2000:=by
   have:=Yb hn (fun x J=>by
    obtain ⟨e,he,rfl⟩:=D6.mp J;exact hG e he:∀ x∈G.map (·.1),x∈X)
   rw [O1] at this;omega
  obtain ⟨A1,c7,e1,d1,f1,g1⟩:=Qf1 (m:=m) (V:=V) (f:=f) (D:=D) (show O≠Fi by omega) (s:=s) (i:=i) (w:=[(b + k,.lst ((fE es s).map sdV))]) (fun x J=>by
   rw [show x=(b + k,.lst ((fE es s).map sdV)) by simpa using J];show ¬ (b + k=O\/b + k=Fi);omega) (fE es s) G I A a7 hD hF (Ux hc) hn (hi s E7) (by omega) a8
  obtain ⟨ex,Z,p2,p3⟩:=Yz ((fE es s).map fun q=>(q,i + 1)) (G,I)
  have a1:=zw ((fE es s).map fun q=>(q,i + 1)) (G,I)
  obtain ⟨nx,n1,n2,_,n4⟩:=Qz (((fE es s).map fun q=>(q,i + 1)).map (·.1)) (G.map (·.1)) I
  rw [n1] at a1;have k1:(((fE es s).map fun q=>(q,i + 1)).foldl Jt (G,I)).1.map (·.1)=G.map (·.1) ++ nx:=congrArg Prod.fst a1
  obtain ⟨G1,Y⟩:∃ G1,((fE es s).map fun q=>(q,i + 1)).foldl Jt (G,I)=G1:=⟨_,rfl⟩
  rw [Y] at d1 f1 Z p2 k1;have Z:G1.1=G ++ ex:=Z;have p2:G1.2=I ++ ex.map (·.1):=p2;obtain ⟨A',b6,b7,e,h1,h2,h3⟩:=Qf0 nd a9 b1 a5 b0 hw fr G1.1 G1.2 A1 (some (sdV s)) c7 (fun x J=>a2 x (O4 _ J)) d1 f1 (g1.w U hw) (H.gw g1 (by omega) fun k hk=>by omega) (by rw [k1]; exact n4 hn) (fun x J=>by rw [Z]; exact F6 _ (hi x (O4 _ J))) (fun x J=>by
   rw [Z] at J;rcases E1.mp J with z | z
   ·exact hG x z
   ·obtain ⟨q,hq,rfl⟩:=D6.mp (p3 x z);exact hE s q hq) hE (by rw [Z,p2,O5,O5,O1]; omega) hl
  refine ⟨A',b6,b7,Jv U rfl (Zw (Z7 (j5 rfl rfl hg) (Vx hc) (by rw [O1]; omega)) e1) e,?_,?_,g1.trans h3⟩
  ·rw [List.flatMap_cons,List.foldl_append,Y]; exact h1
  ·rw [List.flatMap_cons,List.foldl_append,Y]; exact h2
theorem Qix {most:Int} {I:List Str} {a3:List Str} (M:MI2 most I rs a3 ws) (nd:X.Nodup) (hX:∀ s∈X,SdI I.length a3 ws s) (Z:∀ s∈X,∀ r∈rs,fit r s=true->stp r s∈X) (hl:X.length<=2000) {V:PV} {b J:Nat} (b0:b + X.length=D) (b1:D < J):∀ (j m i:Nat) (G:List (Sd × Nat)) (fr:List Sd) (A:Q0) (F:PV) (a5 a6 a7:Option PV),X.length + 1 - i<=j->BL rs X i G fr->(i + fr.length<=G.length)->A[J]?=some (.dtp (Qr nN G))->FrAt A F fr->(∀ R,F=.ref R->J < R)->AH X b D (xt rs X) A ->
  ∃ A' G' U i',J6 Yg Yx (m + j + 1) (stG (Qk most I (rs.map ruV)) V D F J a5 a6 a7) A=.nx U A'/\Q2 4 U A'=.ok (.ref J) A'/\BL rs X i' G' []/\A'[J]?=some (.dtp (Qr nN G'))/\Gw (fun t=>J<=t) A A':=by
 intro j
 induction j with
 | zero=>
  intro m i G fr A F a5 a6 a7 hj B hi hD hF hR H;have gl:G.length<=X.length:=by
   have:=Yb B.nd (fun x O=>by
    obtain ⟨e,he,rfl⟩:=D6.mp O;exact (B.x e he).1:∀ x∈G.map (·.1),x∈X)
   rw [O1] at this;exact this
  omega
 | succ j ih=>
  intro m i G fr A F a5 a6 a7 hj B hi hD hF hR H;have gl:G.length<=X.length:=by
   have:=Yb B.nd (fun x O=>by
    obtain ⟨e,he,rfl⟩:=D6.mp O;exact (B.x e he).1:∀ x∈G.map (·.1),x∈X)
   rw [O1] at this;exact this
  have Y:Zj A [F]=.ok (.int (fr.length:Nat)) A:=by
   rcases hF with rfl | ⟨R,rfl,e⟩
   ·rw [Qi5,O1]
   ·rw [zr e,O1]
  cases fr with
  | nil=>
   refine ⟨A,G,stG (Qk most I (rs.map ruV)) V D F J a5 a6 a7,i,?_,rfl,B,hD,Gw.refl _ _⟩;exact qt (Qj (Qd (Zu (Q3 rfl rfl) Y) rfl (Qh7 A (by simp))))
  | cons s0 fr=>
   have a2:=(O0.mp hD).1;have gA:Gw (fun _=>False) A (A ++ [.lst []]):=Gw.add _ _ _;have b3:FrAt (A ++ [.lst []]) F (s0 :: fr):=by
    rcases hF with h | ⟨R,h,e⟩
    ·exact .inl h
    ·exact .inr ⟨R,h,gA.at e id⟩
   obtain ⟨w,a1,a8,a9⟩:∃ w,W3 (A ++ [.lst []]) F=some ((s0 :: fr).map sdV,w)/\wOk w (A ++ [.lst []])/\∀ x∈w,¬ (x.1=J\/x.1=A.length):=by
    rcases hF with h | ⟨R,h,e⟩
    ·exact ⟨[],by rw [h]; rfl,Qp _,fun x O=>by cases O⟩
    ·have e1:=gA.at e id;have b4:=(O0.mp e).1;refine ⟨_,by rw [h]; exact Vx e1,Ux e1,fun x O=>?_⟩;rw [show x=(R,.lst ((s0 :: fr).map sdV)) by simpa using O];have:=hR R h;show ¬ (R=J\/R=A.length);omega
   have b2:=Q84 (rs:=rs) M.len X;have b5:(s0 :: fr).length<=2000:=by omega
   obtain ⟨A1,c6,c7,e1,d1,f1,g1⟩:=Qf0 nd (m:=Qk most I (rs.map ruV)) (V:=V) (f:=F) b0 b1 (Fi:=A.length) (by omega) (es:=xt rs X) (by omega) (i:=i) a9 (s0 :: fr) G [] (A ++ [.lst []]) a6 a7 (fun x O=>(B.x _ ((B.f x).mp O)).1) (gA.at hD id) (Zb _ _) a8 (H.gw gA id fun _ _=>id) B.nd (fun x O=>(B.f x).mp O) (fun e he=>(B.x e he).1) (fun s q hq=>((Qbj nd Z s q).mp hq).1) (G8 _) hl
   have B':=B.next Z (ah:=fE (xt rs X)) (Qbj nd Z);obtain ⟨G1,a4⟩:∃ G1,((s0 :: fr).flatMap fun s=>(fE (xt rs X) s).map fun q=>(q,i + 1)).foldl Jt (G,[])=G1:=⟨_,rfl⟩
   rw [a4] at d1 f1 B';obtain ⟨ex,p1,p2,_⟩:=Yz ((s0 :: fr).flatMap fun s=>(fE (xt rs X) s).map fun q=>(q,i + 1)) (G,[])
   rw [a4] at p1 p2;have p1:G1.1=G ++ ex:=p1;have p2:G1.2=ex.map (·.1):=by rw [p2]; rfl
   rw [O9] at hi;have gg:Gw (fun t=>J<=t) A A1:=(gA.mono (Q:=fun t=>J<=t) fun _ _ z=>z.elim).trans (g1.mono fun t _ z=>by rcases z with z | z <;> omega)
   obtain ⟨A',G',U,i',e,h1,h2,h3,h4⟩:=ih m (i + 1) G1.1 G1.2 A1 (.ref A.length) (some (.ref A.length)) c6 c7 (by omega) B' (by rw [p1,p2,O5,O1]; omega) d1 (.inr ⟨_,rfl,f1⟩) (fun R hR=>by cases hR; exact a2) ((H.gw gA id fun _ _=>id).gw g1 (by omega) fun k hk=>by omega)
   refine ⟨A',G',U,i',y9 (Qj (Qd (Zu (Q3 rfl rfl) Y) rfl (Qb2 A (by rw [O9]; omega)))) (Q6 (Qi (U5 rfl)) (Q6 (Zw (Z7 rfl a1 (by rw [O1]; omega)) e1) (Qi rfl))) e,h1,h2,h3,gg.trans h4⟩
theorem Qe2 {most:Int} {q:List Str} {J:List Str} (M:MI2 most q rs J ws) (nd:X.Nodup) (Z:∀ s∈X,SdI q.length J ws s) (I:∀ s∈X,∀ r∈rs,fit r s=true->stp r s∈X) (hl:X.length<=2000) (S:Q0):∃ O Y G,Z0 [Qk most q (rs.map ruV),.lst (X.map sdV)] S=.ok (.ref Y) O/\O[Y]?=some (.dtp (Qr nN G))/\(G.map (·.1)).Nodup/\(∀ s d,s∈X/\Ds rs s d <-> (s,d)∈G)/\Gw (fun _=>False) S O/\S.length<=Y:=by
 obtain ⟨S1,e1,H,U⟩:=Qik M nd Z I hl S;have hD:=(O0.mp H.d).1;have c1:=qa (ga:=Qe 0) (mt:=Yh) (me:=Ys) (w:=[]) (Γ0:=[none,some (Qk most q (rs.map ruV))]) (st:=S1) sdV sdV (Xt rs) (Qp _) (ys:=X) fun s hs=>⟨_,rfl,Qj (Q5 (n:=2) (Q3 rfl (Q3 rfl rfl)) rfl (Qjk M (Z s hs) S1)),fun _=>rfl⟩
 have fl:=List.length_filter_le (Xt rs) X;have c2:=zm (ga:=Qe 0) (me:=Yr) (w:=[]) (Γ0:=[none]) (st:=S1) sdV (fun s=>.tup [sdV s,.int 0]) (Qp _) (ys:=X.filter (Xt rs)) fun s _=>⟨_,rfl,Z1 (Q3 rfl (Q3 rfl rfl)) (F9 rfl)⟩
 have B0:=BL.zero (rs:=rs) nd;have e2:=Qbb nN B0.nd (by rw [O1]; omega) S1;rw [L9] at e2;have gA:Gw (fun _=>False) S1 (S1 ++ [.dtp (Qr nN ((X.filter (Xt rs)).map fun s=>(s,0)))]):=Gw.add _ _ _
 obtain ⟨A',G',a1,i',e3,h1,h2,h3,h4⟩:=Qix M nd Z I hl (V:=.lst (X.map sdV)) (b:=S.length) rfl hD (X.length + 1) (100000 - (X.length + 2)) 0 _ _ _ (.lst ((X.filter (Xt rs)).map sdV)) none none none (by omega) B0 (by rw [O1]; omega) (Zb S1 _) (.inl rfl) (fun R z=>by cases z) (H.gw gA id fun _ _=>id);rw [show 100000 - (X.length + 2) + (X.length + 1) + 1=100000 by omega] at e3;refine ⟨A',S1.length,G',Qq (m:=V8) (nl:=8) (ps:=[Qk most q (rs.map ruV),.lst (X.map sdV)]) (Q6 (Qi (Q5 (n:=2) (Q3 rfl (Q3 rfl rfl)) rfl e1)) (Q6 (Qi (V2 (Y4 (Z7 rfl rfl (by rw [O1]; omega)) c1))) (Q6 (Qi (Zu (Q3 (V2 (Y4 (Z7 rfl rfl (by rw [O1]; omega)) c2)) rfl) e2)) (Q6 e3 (Qs h1))))),h3,h2.nd,h2.fin I,?_,by omega⟩;refine ⟨by have:=h4.len; rw [O5] at this; have:=U.len; omega,fun t ht _=>?_⟩;have:=U.len;rw [h4.keep t (by rw [O5]; omega) (by omega),O7 (by omega)];exact U.keep t ht id
def Qdq (rs:List Ru) (X:List Sd):Prop:=∀ s∈X,∃ d,Ds rs s d
theorem Qr8 (rs:List Ru) (s0:Sd) {i j:Nat} (h:i<=j):∀ e∈(lvF rs s0 i).1,e∈(lvF rs s0 j).1:=by
 induction h with
 | refl=>exact fun e q=>q
 | step _ z=>
  intro e q;obtain ⟨ex,h1,_⟩:=Q50 rs s0 _;rw [h1];exact F6 _ (z e q)
theorem Qex {most:Int} {I:List Str} {b1:List Str} (M:MI2 most I rs b1 ws) (h:Man B most I (rs.map ruV)) (hN:N<=1250) (hS:Xj rs most (I,[],0) N) (a6:∀ i,i < N->¬ Xj rs most (I,[],0) i) (hb:Vg rs most (lvs rs (I,[],0) N).2=false) (S:Q0) :
  ∃ v S',zy [Qk most I (rs.map ruV)] S=.ok v S'/\Gw (fun _=>False) S S'/\((Qdq rs (lvs rs (I,[],0) N).1/\∃ U G,v=.tup [.str "rests",.ref U]/\S'[U]?=some (.dtp (Qr nN G))/\(G.map (·.1)).Nodup/\∀ s d,s∈(lvs rs (I,[],0) N).1/\Ds rs s d <-> (s,d)∈G)\/(¬ Qdq rs (lvs rs (I,[],0) N).1/\∃ W,v=.tup [.str "restless",W])):=by
 obtain ⟨v,A,e,g,ht⟩:=Q36 M hN hS a6 S;rcases ht with ⟨a2,_⟩ | ⟨_,rfl,hD⟩
 ·rw [hb] at a2; cases a2
 have b2:∀ j,j < N->Vg rs most (lvs rs (I,[],0) j).2=false:=fun j hj=>by
  cases z:Vg rs most (lvs rs (I,[],0) j).2 with
  | false=>rfl
  | true=>exact absurd (.inl z) (a6 j hj)
 have hE:(lvs rs (I,[],0) N).2=[]:=hS.resolve_left (by rw [hb]; decide);obtain ⟨nd,_,hX⟩:=yy M N;have few:=z9 M b2;have e1:(lvF rs (I,[],0) N).1.map (·.1)=(lvs rs (I,[],0) N).1:=congrArg Prod.fst (Xa rs (I,[],0) N);have a1:∀ s∈(lvs rs (I,[],0) N).1,∀ r∈rs,fit r s=true->stp r s∈(lvs rs (I,[],0) N).1:=fun s hs r hr hf=>Q1y hE hs hr hf
 have J:=Us (rs:=rs) (s0:=(I,[],0)) N;obtain ⟨X,b3⟩:∃ X,(lvs rs (I,[],0) N).1=X:=⟨_,rfl⟩;rw [b3] at nd hX few e1 a1 J ⊢;obtain ⟨A2,U,G,e2,d2,b0,hG,g2,b7⟩:=Qe2 M nd hX a1 (by omega) A;have a9:j8 A [.ref S.length]=.ok (.lst (X.map sdV)) A:=by
  show (match W5 A (.ref S.length) with | some (a7:List (HK × PV))=>Res.ok (PV.lst (a7.map fun (kv:HK × PV)=>hkV kv.1)) A | none=>.stuck)=_
  rw [Q01 pV hD,<- e1,L9];show Res.ok (PV.lst ((Qr pV (lvF rs (I,[],0) N).1).map fun (kv:HK × PV)=>hkV kv.1)) A=_
  unfold Qr;rw [L9];congr 2;exact N0 fun x _=>Qnk x.1
 have s1:∀ {r:SR},Qc (Ka (Qe 4) (Wf (Q2 2)) Vj) (J1 (Jx (Q1 (mC (.str "rests")) (Q1 (Q2 3) Q4)))) [some (Qk most I (rs.map ruV)),some (.tup [.ref S.length,.non]),some (.lst (X.map sdV)),some (.ref U),none] A2=r->jz [some (Qk most I (rs.map ruV)),none,none,none,none] S=r:=fun hr=>Q6 (Q9j (Q5 (n:=1) rfl rfl (Qam h S))) (Q6 (Qi (Q5 (n:=1) rfl rfl e)) (Q6 (Ye (Qj (Qd (Qd rfl rfl rfl) rfl rfl)) rfl) (Q6 (Qi (Zu (Q3 (Qd rfl rfl rfl) rfl) a9)) (Q6 (Qi (Q5 (n:=2) (Q3 rfl (Q3 rfl rfl)) rfl e2)) hr))))
 have d1:=g2.at hD id;have a3:∀ (Z:List Sd) (a4:Option PV),(∀ q∈Z,q∈X)->(∃ a8,Zc (Qe 4) Vj [] (Z.map sdV) [some (Qk most I (rs.map ruV)),some (.tup [.ref S.length,.non]),some (.lst (X.map sdV)),some (.ref U),a4] A2=.nx [some (Qk most I (rs.map ruV)),some (.tup [.ref S.length,.non]),some (.lst (X.map sdV)),some (.ref U),a8] A2/\∀ q∈Z,q∈G.map (·.1))\/∃ W A3,Zc (Qe 4) Vj [] (Z.map sdV) [some (Qk most I (rs.map ruV)),some (.tup [.ref S.length,.non]),some (.lst (X.map sdV)),some (.ref U),a4] A2=.rt (.tup [.str "restless",W]) A3/\Gw (fun _=>False) A2 A3/\∃ q∈Z,q∉G.map (·.1):=by
  intro Z
  induction Z with
  | nil=>exact fun a4 _=>.inl ⟨a4,Zx (Qp _),fun q hq=>by cases hq⟩
  | cons q Z ih=>
   intro a4 hq;have Y:=Qhs nN d2 q true
   by_cases z:q∈G.map (·.1)
   ·rw [bW z] at Y;have O:Vj [some (Qk most I (rs.map ruV)),some (.tup [.ref S.length,.non]),some (.lst (X.map sdV)),some (.ref U),some (sdV q)] A2=.nx [some (Qk most I (rs.map ruV)),some (.tup [.ref S.length,.non]),some (.lst (X.map sdV)),some (.ref U),some (sdV q)] A2:=Ye (Qj (Qd rfl rfl Y)) rfl;rcases ih (some (sdV q)) fun x hx=>hq x (O4 _ hx) with ⟨a,e,h⟩ | ⟨W,A3,e,g,x,hx,hn⟩
    ·exact .inl ⟨a,Jv (Qp _) rfl O e,fun y hy=>by
      rcases D7.mp hy with rfl | hy
      ·exact z
      ·exact h y hy⟩
    ·exact .inr ⟨W,A3,Jv (Qp _) rfl O e,g,x,O4 _ hx,hn⟩
   ·rw [bV z] at Y;obtain ⟨j,hj,b4⟩:=J q (hq q E7);have b6:(lvF rs (I,[],0) j).2=(lvs rs (I,[],0) j).2:=congrArg Prod.snd (Xa rs (I,[],0) j);have b5:q∈(lvF rs (I,[],0) j).2:=by rw [b6]; exact b4
    obtain ⟨ks,hk,t⟩:=Q95 rs (I,[],0) j q b5;obtain ⟨A3,e3,g3⟩:=Qeu (by rw [e1]; exact nd) (t.mono (Qr8 rs (I,[],0) hj)) d1 (by omega);exact .inr ⟨_,A3,Q5d (Qp _) rfl (zh (Qj (Qd rfl rfl Y)) (Qs (Z1 (Q3 rfl (Q3 (Q5 (n:=2) (Q3 (Qd rfl rfl rfl) (Q3 rfl rfl)) rfl e3) rfl)) (F9 rfl)))),g3,q,E7,z⟩
 rcases a3 X none fun _ h=>h with ⟨a4,e4,a5⟩ | ⟨W,A3,e4,g4,q,hq,hn⟩
 ·refine ⟨_,A2,Qq (m:=jz) (nl:=5) (ps:=[Qk most I (rs.map ruV)]) (s1 (Q6 (Zw (Z7 rfl rfl (by rw [O1]; omega)) e4) (Qs (Z1 (Q3 rfl (Q3 rfl rfl)) (F9 rfl))))),g.trans g2,.inl ⟨fun s hs=>?_,U,G,rfl,d2,b0,hG⟩⟩;obtain ⟨x,hx,rfl⟩:=D6.mp (a5 s hs);exact ⟨x.2,((hG x.1 x.2).mpr hx).2⟩
 ·refine ⟨_,A3,Qq (m:=jz) (nl:=5) (ps:=[Qk most I (rs.map ruV)]) (s1 (Vm (Zw (Z7 rfl rfl (by rw [O1]; omega)) e4))),(g.trans g2).trans g4,.inr ⟨fun hA=>?_,W,rfl⟩⟩;obtain ⟨d,hd⟩:=hA q hq;exact hn (D6.mpr ⟨_,(hG q d).mp ⟨hq,hd⟩,rfl⟩)
def kR (r:Ru):HK:=.tup [.int r.h,.str r.s,.str r.e,.str r.t,.int r.u,.tup (r.ms.map kP)]
theorem Q8k (r:Ru):Ud (ruV r)=some (kR r):=by
 show (Z3 (Wg 4) [.int r.h,.str r.s,.str r.e,.str r.t,.int r.u,.tup (r.ms.map prV)]).map HK.tup=_;have q:Wg 4 (.tup (r.ms.map prV))=some (.tup (r.ms.map kP)):=by
  show (Z3 (Wg 3) (r.ms.map prV)).map HK.tup=_;rw [Qay]; rfl
 simp only [Z3,q];rfl
theorem Qgs {a b:Ru} (h:kR a=kR b):a=b:=by
 obtain ⟨I,a2,a3,a4,a5,a6⟩:=a;obtain ⟨Z,b2,b3,b4,b5,O⟩:=b;unfold kR at h;simp only [HK.tup.injEq,List.cons.injEq,HK.int.injEq,HK.str.injEq,and_true] at h;obtain ⟨h1,h2,U,q,z,Y⟩:=h;have J:a6=O:=List.map_inj_right (fun x y e=>Qgt e) |>.mp Y;have k1:I=Z:=by omega
 rw [k1,h2,U,q,z,J]
theorem Qjg {a b:Ru} (h:ruV a=ruV b):a=b:=Qgs (by have:=Q8k a; rw [h,Q8k b] at this; exact (Option.some.inj this).symm)
theorem Q4x:∀ rs:List Ru,Z3 Ud (rs.map ruV)=some (rs.map kR)
 | []=>rfl
 | r :: rs=>by
  rw [D0,Z3,Q8k,Q4x rs]; rfl
theorem Qqz {most:Int} {q:List Str} (h:Man B most q (rs.map ruV)):rs.Nodup:=by
 obtain ⟨ks,e,nd⟩:=h.ks;rw [Q4x] at e;cases e;exact (List.pairwise_map.mp nd).imp fun z e=>z (by rw [e])
theorem Q0n {most:Int} {q:List Str} {I:List Ru} (h:Man B most q (rs.map ruV)) (nd:I.Nodup) (hl:I.length<=9) (hv:∀ O∈I,∃ r∈rs,O=r\/O={ r with u:=0 }):Man B most q (I.map ruV) where
 m0:=h.m0
 m1:=h.m1
 s1:=h.s1
 s4:=h.s4
 sw:=h.sw
 r:=by
  rw [List.all_map];refine F0.mpr fun O J=>?_
  obtain ⟨r,Y,e⟩:=hv O J;have:=F0.mp h.r (ruV r) (D6.mpr ⟨r,Y,rfl⟩);rcases e with rfl | rfl
  ·exact this
  ·simp only [ruV,Ur,E9,Function.comp] at this ⊢;exact ⟨this.1,rfl,this.2.2⟩
 len:=by rw [O1]; exact hl
 ks:=⟨I.map kR,Q4x I,List.pairwise_map.mpr (nd.imp fun Z e=>Z (Qgs e))⟩
 ws:=by
  obtain ⟨U,ws,a,b,c,d,d3⟩:=h.ws;refine ⟨U,ws,a,b,c,fun p hp=>?_,d3⟩;obtain ⟨O,J,rfl⟩:=D6.mp hp;obtain ⟨r,Y,e⟩:=hv O J;obtain ⟨d1,d2⟩:=d (ruV r) (D6.mpr ⟨r,Y,rfl⟩);rcases e with rfl | rfl
  ·exact ⟨d1,d2⟩
  ·exact ⟨fun a b c d e ls z=>by cases z; exact d1 _ _ _ _ _ _ rfl,fun a b c d e ls z=>by cases z; exact d2 _ _ _ _ _ _ rfl⟩
theorem Qga {most:Int} {q:List Str} {rules:List PV} {I:Int} (h:Man 576 most q rules) (h1:most<=I) (h2:I<=most + 1) (J:I<=20):Man 1152 I q rules:=by
 have h0:=h.m0;obtain ⟨z,ws,a,b,c,d⟩:=h.ws;refine ⟨by omega,J,h.s1,h.s4,h.sw,h.r,h.len,h.ks,z,ws,a,?_,c,d⟩;have:I.toNat + 1<=2 * (most.toNat + 1):=by omega
 have:=Nat.mul_le_mul_left (z.length ^ q.length * 2 ^ (q.length * ws.length)) this;rw [Nat.mul_left_comm] at this;omega
theorem Qgb {most:Int} {q:List Str} (O:B<=1200) (h:Man B most q (rs.map ruV)):∃ I ws,MI2 most q rs I ws:=by
 obtain ⟨J,I,ws,e,M⟩:=Qg9 O h;have:rs=J:=List.map_inj_right (fun x y z=>Qjg z) |>.mp e;rw [<- this] at M;exact ⟨I,ws,M⟩
structure Kp (most:Int) (starts:List Str) (rs:List Ru) (N:Nat):Prop where
 n:N<=1250
 s:Xj rs most (starts,[],0) N
 f:∀ i,i < N->¬ Xj rs most (starts,[],0) i
 b:Vg rs most (lvs rs (starts,[],0) N).2=false
theorem Vh {most:Int} {q:List Str} (hB:B<=1200) (h:Man B most q (rs.map ruV)) (S:Q0):∃ k S',Qw [Qk most q (rs.map ruV)] S=.ok (.int k) S'/\Gw (fun _=>False) S S'/\Kn rs most (q,[],0) k/\(k=1000000->∃ N,Kp most q rs N):=by
 obtain ⟨a2,ws,M⟩:=Qgb hB h;obtain ⟨N,Y,U,I⟩:=Qta M;obtain ⟨v,A,e,g,ht⟩:=Qdz M h Y U I S;rcases ht with ⟨O,R,ks,n,r,s,rfl,a1,hR,k1,k2,k3,k4,k5,k6⟩ | ⟨O,R,rfl,a1,hR⟩
 ·have J:Zj A [.ref R]=.ok (.int ((N:Int) + 1)) A:=by
   rw [zr hR,O1,O5,k1]; rfl
  refine ⟨(N:Int) + 1,A,Qq (m:=Yp) (nl:=2) (ps:=[Qk most q (rs.map ruV)]) (Q6 (Qi (Q5 (n:=1) (Q3 rfl rfl) rfl e)) (Vm (zh (Qj (Qd (Qd rfl rfl rfl) rfl (Qb9 A _))) (Qs (Zu (Q3 (Qd rfl rfl rfl) rfl) J))))),g,.inr ⟨N,rfl,Y,⟨s,k3,r,E3 k4,k5,k6⟩,fun m ⟨s,h1,r,h2,Z,h4⟩=>(Q7z I h1 h2 Z h4).1⟩,fun z=>by omega⟩
 ·have hE:(lvs rs (q,[],0) N).2=[]:=U.resolve_left (by rw [O]; decide);refine ⟨1000000,A,Qq (m:=Yp) (nl:=2) (ps:=[Qk most q (rs.map ruV)]) (Q6 (Qi (Q5 (n:=1) (Q3 rfl rfl) rfl e)) (Q6 (Ye (Qj (Qd (Qd rfl rfl rfl) rfl (Q7j A (by decide)))) rfl) (Q6 (Ye (Qj (Qd (Qd rfl rfl rfl) rfl ((nes A _ _).trans (by rw [bW rfl]; rfl)))) rfl) (Qs (Qd rfl rfl rfl))))),g,.inl ⟨rfl,fun m ⟨s,h1,r,h2,Z,h4⟩=>?_⟩,fun _=>⟨N,Y,U,I,O⟩⟩
  have:=(Q7z I (za hE m s h1) h2 Z h4).2 rfl;rw [O] at this;cases this
theorem Q75 {most:Int} {q:List Str} (Y:B<=1200) (h:Man B most q (rs.map ruV)) (k:Kp most q rs N) (S:Q0):∃ v I,Jg [Qk most q (rs.map ruV)] S=.ok v I/\Gw (fun _=>False) S I/\((Qdq rs (lvs rs (q,[],0) N).1/\∃ z G,v=.ref z/\I[z]?=some (.dtp (Qr nN G))/\(G.map (·.1)).Nodup/\∀ s d,s∈(lvs rs (q,[],0) N).1/\Ds rs s d <-> (s,d)∈G)\/(¬ Qdq rs (lvs rs (q,[],0) N).1/\v=.non)):=by
 obtain ⟨O,ws,M⟩:=Qgb Y h;obtain ⟨v,A,e,g,U⟩:=Qex M h k.n k.s k.f k.b S;rcases U with ⟨J,z,G,rfl,h1,h2,Z⟩ | ⟨J,W,rfl⟩
 ·exact ⟨.ref z,A,Qq (m:=Ws) (nl:=2) (ps:=[Qk most q (rs.map ruV)]) (Q6 (Qi (Q5 (n:=1) (Q3 rfl rfl) rfl e)) (Vm (zh (Qj (Qd (Qd rfl rfl rfl) rfl (Qb9 A _))) (Qs (Qd rfl rfl rfl))))),g,.inl ⟨J,z,G,rfl,h1,h2,Z⟩⟩
 ·exact ⟨.non,A,Qq (m:=Ws) (nl:=2) (ps:=[Qk most q (rs.map ruV)]) (Q6 (Qi (Q5 (n:=1) (Q3 rfl rfl) rfl e)) (Q6 (Ye (Qj (Qd (Qd rfl rfl rfl) rfl (Q7j A (by decide)))) rfl) (Qs rfl))),g,.inr ⟨J,rfl⟩⟩
theorem Qpn {J q:List (Sd × Nat)} (n1:(J.map (·.1)).Nodup) (U:(q.map (·.1)).Nodup) (hm:∀ s d,(s,d)∈J <-> (s,d)∈q):Qet (Qr nN J) (Qr nN q)=true:=by
 have nd:∀ {G:List (Sd × Nat)},(G.map (·.1)).Nodup->G.Nodup:=fun h=>(List.pairwise_map.mp h).imp fun O e=>O (by rw [e])
 have Z:=Yb (nd n1) (m:=q) fun x I=>(hm x.1 x.2).mp I
 have Y:=Yb (nd U) (m:=J) fun x I=>(hm x.1 x.2).mpr I
 unfold Qet;rw [bW (by unfold Qr; rw [O1,O1]; omega),Bool.true_and];refine F0.mpr fun kv z=>?_
 unfold Qr at z;obtain ⟨x,I,rfl⟩:=D6.mp z;have:=Q89 nN U ((hm x.1 x.2).mp I);show (match nN x.2,U4 (Qr nN q) (sdK x.1) with | .int n,some (.int m)=>decide (n=m) | _,_=>false)=true
 rw [this];exact bW rfl
open Classical in
theorem Qfm (a b:Ru):peq (ruV a) (ruV b)=decide (a=b):=by
 have h2:peqL (a.ms.map prV) (b.ms.map prV)=decide (a.ms=b.ms):=jj prV Qai _ _;unfold ruV;simp only [peq,peqL,h2,Bool.and_true];rw [Bool.eq_iff_iff];simp only [E9,decide_eq_true_eq,beq_iff_eq];constructor
 ·intro z;obtain ⟨U,a2,a3,a4,a5,a6⟩:=a;obtain ⟨I,b2,b3,b4,b5,b6⟩:=b;simp only at z;obtain ⟨z1,Z,J,O,q,Y⟩:=z;have:U=I:=by omega
  subst this Z J O q Y;rfl
 ·intro z; rw [z]; exact ⟨rfl,rfl,rfl,rfl,rfl,rfl⟩
theorem Qab (r:Ru):good dep (ruV r)=true:=by simp [good,dep,ruV,prV]
open Classical in
theorem Quw {F:Nat} {acc:List Ru} (h:S[F]?=some (.lst (acc.map ruV))) (r:Ru):oIn true S (ruV r) (.ref F)=.ok (.bl (!decide (r∈acc))) S:=by
 have z:W4 S (.ref F)=some (acc.map ruV):=Zp h;unfold oIn;rw [z];show (if good dep (der S (ruV r))=true/\(acc.map ruV).all (good dep)=true then Res.ok (PV.bl (((acc.map ruV).any fun y=>peq y (der S (ruV r))) != true)) S else .stuck)=_
 rw [show der S (ruV r)=ruV r from rfl,bT ⟨Qab r,by rw [List.all_map]; exact F0.mpr fun x _=>Qab x⟩];have:((acc.map ruV).any fun y=>peq y (ruV r))=decide (r∈acc):=by
  rw [List.any_map,Bool.eq_iff_iff,List.any_eq_true,decide_eq_true_iff];constructor
  ·rintro ⟨x,q,e⟩;have e:peq (ruV x) (ruV r)=true:=e;rw [Qfm,decide_eq_true_eq] at e;rw [<- e]; exact q
  ·exact fun q=>⟨r,q,by show peq (ruV r) (ruV r)=true; rw [Qfm]; exact bW rfl⟩
 rw [this];cases decide (r∈acc) <;> rfl
abbrev lwG (ns:List Int) (a2 a3 a4 a5 a6 a7 a8 a9 a10 a11 a12:Option PV):Gam:=[some (.fro (ns.map .int)),some (.ref 0),a2,a3,a4,a5,a6,a7,a8,a9,a10,a11,a12]
def fr0 (r:Ru):Ru:={ r with u:=0 }
open Classical in
theorem xj {ns:List Int} {F:Nat} {a2 a3 a4 a5 a6 a7 a8 a12:Option PV}:∀ (rs acc:List Ru) (A:Q0) (Y U:Option PV),A[F]?=some (.lst (acc.map ruV))->acc.length + rs.length<=1000->acc.Nodup ->
  ∃ (A':Q0) (I:List Ru) (O J:Option PV),Zc (Qe 10) Q5r [] (rs.map ruV) (lwG ns a2 a3 a4 a5 a6 a7 a8 (some (.ref F)) Y U a12) A=.nx (lwG ns a2 a3 a4 a5 a6 a7 a8 (some (.ref F)) O J a12) A'/\A'[F]?=some (.lst (I.map ruV))/\I.Nodup/\(∀ r∈I,r∈acc\/∃ q∈rs,r=fr0 q)/\I.length<=acc.length + rs.length/\Gw (fun t=>t=F) A A'
 | [],acc,A,Y,U,hF,_,hn=>⟨A,acc,Y,U,Zx (Qp _),hF,hn,fun r hr=>.inl hr,O6 _,Gw.refl _ _⟩
 | r :: rs,acc,A,Y,U,hF,hl,hn=>by
  rw [O9] at hl;have s1:Qt 11 (mOp Ji (mOp Ji (mSl (Q2 10) Jk (Zt (mC (.int 4)))) (Jx (Q1 (mC (.int 0)) Q4))) (mSl (Q2 10) (Zt (mC (.int 5))) Jk)) (lwG ns a2 a3 a4 a5 a6 a7 a8 (some (.ref F)) (some (ruV r)) U a12) A=.nx (lwG ns a2 a3 a4 a5 a6 a7 a8 (some (.ref F)) (some (ruV r)) (some (ruV (fr0 r))) a12) A:=rfl;have Z:=Quw hF (fr0 r)
  by_cases z:fr0 r∈acc
  ·rw [bW z] at Z;obtain ⟨A',I,O,J,e,h1,h2,h3,h4,h5⟩:=xj rs acc A (some (ruV r)) (some (ruV (fr0 r))) hF (by omega) hn;exact ⟨A',I,O,J,Jv (Qp _) rfl (Q6 s1 (Ye (Qj (Qd rfl rfl Z)) rfl)) e,h1,h2,fun x hx=>(h3 x hx).imp id fun ⟨q,hq,e⟩=>⟨q,O4 _ hq,e⟩,by rw [O9]; omega,h5⟩
  ·rw [bV z] at Z;have a9:=(O0.mp hF).1;have a1:Jc A (.ref F) [ruV (fr0 r)]=.ok .non (A.set F (.lst ((acc ++ [fr0 r]).map ruV))):=by rw [qe hF (by rw [O1]; omega),E5]; rfl
   obtain ⟨A',I,O,J,e,h1,h2,h3,h4,h5⟩:=xj rs (acc ++ [fr0 r]) (A.set F (.lst ((acc ++ [fr0 r]).map ruV))) (some (ruV r)) (some (ruV (fr0 r))) (F3 a9) (by rw [O5,N1]; omega) (L4.mpr ⟨hn,by simp,fun a ha c hc e=>z (by rw [<- show c=fr0 r by simpa using hc,<- e]; exact ha)⟩);refine ⟨A',I,O,J,Jv (Qp _) rfl (Q6 s1 (zh (Qj (Qd rfl rfl Z)) (xr rfl (Zp hF) (Q3 rfl rfl) a1))) e,h1,h2,fun x hx=>?_,by rw [O5,N1] at h4; rw [O9]; omega,(Gw.put (P:=fun t=>t=F) A rfl _).trans h5⟩;rcases h3 x hx with h | ⟨q,hq,e⟩
   ·rcases E1.mp h with h | h
    ·exact .inl h
    ·exact .inr ⟨r,E7,by simpa using h⟩
   ·exact .inr ⟨q,O4 _ hq,e⟩
theorem Qbk {q bs:List PV} (S:Q0) (h:q.length + bs.length<=1000000):Ji S (.tup q) (.tup bs)=.ok (.tup (q ++ bs)) S:=bT h
theorem Q7h {i:Nat} (h1:m Γ S=.ok (.tup l) S) (h2:mh Γ S=.ok (.int (i:Int)) S):mSl m Jk (Zt mh) Γ S=.ok (.tup (l.take i)) S:=by
 have p:Zt mh Γ S=.ok (some (i:Int)) S:=by unfold Zt; rw [h2,Qm]
 rw [Qgd,h1,Qm,show Jk Γ S=.ok none S from rfl,Qm,p,Qm];show Res.ok (PV.tup (cut l none (some (i:Int)))) S=_;rw [Q3u]
theorem Qbg {i:Nat} (h1:m Γ S=.ok (.tup l) S) (h2:mh Γ S=.ok (.int (i:Int)) S):mSl m (Zt mh) Jk Γ S=.ok (.tup (l.drop i)) S:=by
 have p:Zt mh Γ S=.ok (some (i:Int)) S:=by unfold Zt; rw [h2,Qm]
 rw [Qgd,h1,Qm,p,Qm,show Jk Γ S=.ok none S from rfl,Qm];show Res.ok (PV.tup (cut l (some (i:Int)) none)) S=_;rw [Q7r]
theorem Qjj (T:TapeAt A 0 ns) (a2 a3 a4 a5 a6 a7 a8 a9 c2 c8 a12:Option PV):∃ b3 b4 b5 b6 b7 b8 b9 Z b0 d7 A',Q0u (lwG ns a2 a3 a4 a5 a6 a7 a8 a9 c2 c8 a12) A=.nx (lwG ns a2 b3 b4 b5 b6 b7 b8 b9 Z b0 d7) A'/\TapeAt A' 0 ns:=by
 obtain ⟨most,z,rules,A1,O,T1,M1,e1⟩:=Qcy T;obtain ⟨rs,_,_,rfl,_⟩:=Qg9 (by decide) O;have nd:=Qqz O;have len:rs.length<=9:=by have:=O.len; rw [O1] at this; exact this
 have m0:=O.m0;have m1:=O.m1;obtain ⟨k,A2,e2,g2,K,kK⟩:=Vh (by decide) O A1;have c3:=qa (ga:=Qe 0) (mt:=Q46) (me:=Q5h) (w:=[]) (Γ0:=[none]) (st:=A2) ruV ruV (fun r=>evB r.e) (Qp _) (ys:=rs) fun r _=>⟨_,rfl,by
  have t1:=Qj (Qd (o:=oEq) (a:=mOp oIx (Q2 0) (mC (.int 2))) (b:=mC (.str "go")) (Γ:=[some (ruV r)]) (Qd rfl rfl rfl) rfl (eqs A2 r.e "go"));have t2:=Qj (Qd (o:=oEq) (a:=mOp oIx (Q2 0) (mC (.int 2))) (b:=mC (.str "fall")) (Γ:=[some (ruV r)]) (Qd rfl rfl rfl) rfl (eqs A2 r.e "fall"));show Q08 _ _ _ A2=.ok (decide (r.e = "go") || decide (r.e = "fall")) A2;cases q:decide (r.e = "go") with
  | true=>rw [q] at t1; exact Qu4 t1
  | false=>rw [q] at t1; exact Q6n t1 t2,fun _=>rfl⟩
 have fl:=List.length_filter_le (fun r:Ru=>evB r.e) rs;have d9:Man 576 most z ((rs.filter fun r=>evB r.e).map ruV):=Q0n O (nd.filter _) (by omega) fun r I=>⟨r,(F5.mp I).1,.inl rfl⟩
 obtain ⟨k3,A3,e3,g3,K3,_⟩:=Vh (by decide) d9 A2;have h6:=K.le K3 (fun r I=>(F5.mp I).1) (Int.le_refl _)
 have T3:=g3.tape (g2.tape T1 id) id;obtain ⟨at_,A4,h3,T4,M4,e4⟩:=Jj T3 (rs.length + 1) (by omega) (by omega);rw [show ((rs.length + 1:Nat):Int)=(rs.length:Int) + 1 by push_cast; rfl] at e4;obtain ⟨rm,c1⟩:∃ rm,rs.take at_ ++ rs.drop (at_ + 1)=rm:=⟨_,rfl⟩;have J:rm.Sublist rs:=by
  rw [<- c1];have:(rs.take at_ ++ rs.drop (at_ + 1)).Sublist (rs.take at_ ++ rs.drop at_):=List.Sublist.append_left (List.drop_sublist_drop_left rs (by omega)) _;rw [List.take_append_drop] at this;exact this
 have f8:Man 576 most z (rm.map ruV):=Q0n O (nd.sublist J) (E6 J.length_le len) fun r I=>⟨r,J.subset I,.inl rfl⟩
 obtain ⟨k5,U,e5,g5,K5,_⟩:=Vh (by decide) f8 A4;have g1:=K.le K5 (fun r I=>J.subset I) (Int.le_refl _);have f4:Ji A4 (.int (at_:Int)) (.int 1)=.ok (.int ((at_ + 1:Nat):Int)) A4:=by rw [Q85]; rfl
 have d0:Ji A4 (.tup ((rs.map ruV).take at_)) (.tup ((rs.map ruV).drop (at_ + 1)))=.ok (.tup (rm.map ruV)) A4:=by
  rw [Qbk A4 (by rw [L7,List.length_drop,O1]; omega),<- List.map_take,<- List.map_drop,<- E5,c1]
 obtain ⟨A6,acc,Z,b0,e6,f6,n6,s6,l6,g6⟩:=xj (ns:=ns) (F:=U.length) (a2:=a2) (a3:=some (.int most)) (a4:=some (.tup (z.map .str))) (a5:=some (.tup (rs.map ruV))) (a6:=some (.int k)) (a7:=some (.tup ((rs.filter fun r=>evB r.e).map ruV))) (a8:=some (.int (at_:Int))) (a12:=a12) rs [] (U ++ [.lst []]) c2 c8 (Zb _ _) (by rw [List.length_nil]; omega) List.nodup_nil;have c6:∀ r∈acc,∃ q∈rs,r=fr0 q:=fun r I=>(s6 r I).resolve_left List.not_mem_nil
 rw [List.length_nil,Nat.zero_add] at l6;have f1:Man 576 most z (acc.map ruV):=Q0n O n6 (by omega) fun r I=>let ⟨q,hq,e⟩:=c6 r I; ⟨q,hq,.inr e⟩
 obtain ⟨k7,A7,e7,g7,K7,_⟩:=Vh (by decide) f1 A6;obtain rfl:=K7.free (fun r I=>by obtain ⟨q,_,rfl⟩:=c6 r I; rfl) rfl m0;have f9:Y8 A6 [.ref U.length]=.ok (.tup (acc.map ruV)) A6:=by
  show (match W4 A6 (.ref U.length) with | some xs=>Res.ok (PV.tup xs) A6 | none=>.stuck)=_
  rw [show W4 A6 (.ref U.length)=some (acc.map ruV) from Zp f6]
 obtain ⟨m',c0⟩:∃ m':Int,(if most + 1 < 20 then most + 1 else 20)=m':=⟨_,rfl⟩;have mb:most<=m'/\m'<=most + 1/\m'<=20:=by rw [<- c0]; split <;> omega
 have mn:Qi3 A7 [.int 20,.int (most + 1)]=.ok (.int m') A7:=(Qi2 _ _ _).trans (by rw [c0]);have f5:=Qga O mb.1 mb.2.1 mb.2.2;obtain ⟨k8,A8,e8,g8,K8,_⟩:=Vh (by decide) f5 A7;have g4:=K.le K8 (fun r I=>I) mb.1;obtain ⟨rt,c7⟩:∃ rt,rs.drop at_ ++ rs.take at_=rt:=⟨_,rfl⟩;have pm:rt.Perm rs:=by
  rw [<- c7];have:(rs.drop at_ ++ rs.take at_).Perm (rs.take at_ ++ rs.drop at_):=List.perm_append_comm;rw [List.take_append_drop] at this;exact this
 have mem:∀ r,r∈rt <-> r∈rs:=fun r=>pm.mem_iff
 have f7:Ji A8 (.tup ((rs.map ruV).drop at_)) (.tup ((rs.map ruV).take at_))=.ok (.tup (rt.map ruV)) A8:=by
  rw [Qbk A8 (by rw [L7,List.length_drop,O1]; omega),<- List.map_take,<- List.map_drop,<- E5,c7]
 have c5:Man 576 most z (rt.map ruV):=Q0n O (pm.nodup_iff.mpr nd) (by rw [pm.length_eq]; exact len) fun r I=>⟨r,(mem r).mp I,.inl rfl⟩
 obtain ⟨k9,A9,e9,g9,K9,g0⟩:=Vh (by decide) c5 A8;have h5:=K.le K9 (fun r I=>(mem r).mp I) (Int.le_refl _)
 have h4:=K9.le K (fun r I=>(mem r).mpr I) (Int.le_refl _)
 obtain rfl:k9=k:=by omega
 have T9:TapeAt A9 0 ns:=by
  have t5:=g5.tape T4 id;have h0:=(let ⟨p,c,e⟩:=t5; (O0.mp e).1:0 < U.length);have t6:TapeAt A6 0 ns:=g6.tape ((Gw.add (fun _=>False) U [.lst []]).tape t5 id) (by show ¬ 0=U.length; omega);exact g9.tape (g8.tape (g7.tape t6 id) id) id
 have b2:∃ A',Jn (toB (mOp oEq (Q2 6) (mOp Q1p (mC (.int 10)) (mC (.int 6))))) (Jn (toB (mOp Qct (Q8 1 Jg (Q1 (Jx (Q1 (Q2 3) (Q1 (Q2 4) (Q1 (Q2 12) Q4)))) Q4)) (Q8 1 Jg (Q1 (Jx (Q1 (Q2 3) (Q1 (Q2 4) (Q1 (Q2 5) Q4)))) Q4)))) (J1 (mC (.bl false))) J2) J2 (lwG ns a2 (some (.int most)) (some (.tup (z.map .str))) (some (.tup (rs.map ruV))) (some (.int k9)) (some (.tup ((rs.filter fun r=>evB r.e).map ruV))) (some (.int (at_:Int))) (some (.ref U.length)) Z b0 (some (.tup (rt.map ruV)))) A9=.nx (lwG ns a2 (some (.int most)) (some (.tup (z.map .str))) (some (.tup (rs.map ruV))) (some (.int k9)) (some (.tup ((rs.filter fun r=>evB r.e).map ruV))) (some (.int (at_:Int))) (some (.ref U.length)) Z b0 (some (.tup (rt.map ruV)))) A'/\TapeAt A' 0 ns:=by
  by_cases hk:k9=1000000
  ·obtain ⟨N,kp⟩:=kK hk;obtain ⟨N',b1⟩:=g0 hk;obtain ⟨v1,d8,f0,d4,d6⟩:=Q75 (by decide) c5 b1 A9;obtain ⟨v2,Y,f3,c9,c4⟩:=Q75 (by decide) O kp d8;have hE:(lvs rs (z,[],0) N).2=[]:=kp.s.resolve_left (by rw [kp.b]; decide);have d5:(lvs rt (z,[],0) N').2=[]:=b1.s.resolve_left (by rw [b1.b]; decide);have sm:∀ s,s∈(lvs rt (z,[],0) N').1 <-> s∈(lvs rs (z,[],0) N).1:=fun s=>⟨fun h=>za hE N' s (Kb (fun r I=>(mem r).mp I) N' s h),fun h=>za d5 N s (Kb (fun r I=>(mem r).mpr I) N s h)⟩
   have dm:∀ s d,Ds rt s d <-> Ds rs s d:=fun s d=>⟨Qht mem,Qht fun r=>(mem r).symm⟩
   have am:Qdq rt (lvs rt (z,[],0) N').1 <-> Qdq rs (lvs rs (z,[],0) N).1:=⟨fun h s hs=>let ⟨d,hd⟩:=h s ((sm s).mpr hs); ⟨d,(dm s d).mp hd⟩,fun h s hs=>let ⟨d,hd⟩:=h s ((sm s).mp hs); ⟨d,(dm s d).mpr hd⟩⟩
   have d3:Qct Y v1 v2=.ok (.bl false) Y:=by
    rcases d6 with ⟨a1,D1,G1,rfl,d1,n1,m1⟩ | ⟨a1,rfl⟩
    ·rcases c4 with ⟨a2,D2,G2,rfl,d2,n2,m2⟩ | ⟨a2,rfl⟩
     ·have e0:=Q01 nN (c9.at d1 id);have f2:=Q01 nN d2;unfold Qct;rw [e0,f2];show (if Qet (Qr nN G1) (Qr nN G2)=true then Res.ok (PV.bl false) Y else .stuck)=_;rw [bT (Qpn n1 n2 fun s d=>by rw [<- m1,<- m2,sm,dm])]
     ·exact absurd (am.mp a1) a2
    ·rcases c4 with ⟨a2,_⟩ | ⟨a2,rfl⟩
     ·exact absurd (am.mpr a2) a1
     ·rfl
   exact ⟨Y,zh (Qj (Qd rfl (Qd rfl rfl rfl) (Qhk A9 hk))) (Ye (Qj (Qd (Q5 (n:=1) (Q3 (Z1 (Q3 rfl (Q3 rfl (Q3 rfl rfl))) (F9 rfl)) rfl) rfl f0) (Q5 (n:=1) (Q3 (Z1 (Q3 rfl (Q3 rfl (Q3 rfl rfl))) (F9 rfl)) rfl) rfl f3) d3)) rfl),c9.tape (d4.tape T9 id) id⟩
  ·exact ⟨A9,Ye (Qj (Qd rfl (Qd rfl rfl rfl) (Qnm A9 hk))) rfl,T9⟩
 obtain ⟨A',el,T'⟩:=b2;refine ⟨_,_,_,_,_,_,_,_,_,_,A',Q6 (Qij (Q5 (n:=1) (Q3 rfl rfl) rfl e1) rfl) (Q6 (Qi (Q5 (n:=1) (Q3 (Z1 (Q3 rfl (Q3 rfl (Q3 rfl rfl))) (F9 rfl)) rfl) rfl e2)) (Q6 (Ye (Qj (Qd rfl rfl (Qav A2 (by have:=K.pos; omega)))) rfl) (Q6 (Qi (Zu (Q3 (V2 (Y4 (Z7 rfl rfl (by rw [O1]; omega)) c3)) rfl) rfl)) (Q6 (Ye (Qj (Qd (Q5 (n:=1) (Q3 (Z1 (Q3 rfl (Q3 rfl (Q3 rfl rfl))) (F9 rfl)) rfl) rfl e3) rfl (Qav A3 (by omega)))) rfl) (Q6 (Qi (Q5 (n:=2) (Q3 rfl (Q3 (Qd (Zu (Q3 rfl rfl) (by rw [Qi4,O1])) rfl (Q85 _ _ _)) rfl)) rfl e4)) (Q6 (Ye (Qj (Qd (Q5 (n:=1) (Q3 (Z1 (Q3 rfl (Q3 rfl (Q3 (Qd (Q7h rfl rfl) (Qbg rfl (Qd rfl rfl f4)) d0) rfl))) (F9 rfl)) rfl) rfl e5) rfl (Qav U (by omega)))) rfl) (Q6 (Qi (U5 rfl)) (Q6 (Zw (Z7 rfl rfl (by rw [O1]; omega)) e6) (Q6 (Ye (Qj (Qd (Q5 (n:=1) (Q3 (Z1 (Q3 rfl (Q3 rfl (Q3 (Zu (Q3 rfl rfl) f9) rfl))) (F9 rfl)) rfl) rfl e7) (Qd rfl rfl rfl) (Qnf A7 1000000))) rfl) (Q6 (Ye (Qj (Qd (Q5 (n:=1) (Q3 (Z1 (Q3 (Zu (Q3 rfl (Q3 (Qd rfl rfl (Q85 _ _ _)) rfl)) mn) (Q3 rfl (Q3 rfl rfl))) (F9 rfl)) rfl) rfl e8) rfl (Qav A8 (by omega)))) rfl) (Q6 (Qi (Qd (Qbg rfl rfl) (Q7h rfl rfl) f7)) (Q6 (Ye (Qj (Qd (Q5 (n:=1) (Q3 (Z1 (Q3 rfl (Q3 rfl (Q3 rfl rfl))) (F9 rfl)) rfl) rfl e9) rfl (Qnf A9 _))) rfl) el)))))))))))),T'⟩
theorem Qrb (ns:List Int):∃ S',Qgc [some (.fro (ns.map .int)),none,none,none,none,none,none,none,none,none,none,none,none] []=.rt (.bl true) S':=by
 have T0:TapeAt [Cell.lst [.fro (ns.map .int),.int 0,.int 0]] 0 ns:=⟨0,0,rfl⟩;obtain ⟨a5,S1,e1,_,x2,x3,x4,x5,x6,x7,x8,x9,a4,a7,a6,rfl⟩:=Q2a (xs:=List.range 2) (fun (i:Nat)=>PV.int ((0:Int) + (i:Int))) (fun _ Γ A=>TapeAt A 0 ns/\∃ c2 c3 c4 Y O Z c8 J I q z,Γ=lwG ns c2 c3 c4 Y O Z c8 J I q z)
  (ga:=Qe 2) (body:=Q0u) (w:=[]) (fun _ _ B _=>Qp B) (fun i x Γ A _ ⟨T,c2,c3,c4,Y,O,Z,c8,J,I,q,z,U⟩=>by
   subst U;obtain ⟨b3,b4,b5,b6,b7,b8,b9,a2,a1,a3,A',e,T'⟩:=Qjj T (some (.int ((0:Int) + (x:Int)))) c3 c4 Y O Z c8 J I q z;exact ⟨_,rfl,_,A',e,T',_,b3,b4,b5,b6,b7,b8,b9,a2,a1,a3,rfl⟩)
  (Γ:=lwG ns none none none none none none none none none none none) (st:=[Cell.lst [.fro (ns.map .int),.int 0,.int 0]])
  ⟨T0,none,none,none,none,none,none,none,none,none,none,none,rfl⟩
 exact ⟨S1,Q6 (Qi (U5 rfl)) (Q6 (Zw (Qtg (n:=2) (by decide) rfl) e1) (Qs rfl))⟩
theorem Qm5:∀ ns:List Int,ns.length<=63->∃ st',Qbq [.fro (ns.map .int)] []=.ok (.bl true) st':=fun ns _=>by
 obtain ⟨q,e⟩:=Qrb ns;have:=zq (nl:=13) (ps:=[.fro (ns.map .int)]) e;refine ⟨[],?_⟩;unfold Qbq;rw [this];unfold fin;rw [bT (List.nil_prefix)];simp [fz,okO]
theorem all_mk {l:PySem.W.OpenLaw} {w:aJ} {h:Heap} {fa f1 f2 f3 f4 f5 f6 f7 f8 f9 p5 p6 o1 t2 q6 r8 q5 t1 s2 t3 p4 o9 q1 r3 s9 r9 p1 o4 q0 r1 r5 n8 p7 k3:aB} (X:K.In h) (G:h.Ns aU mg) (q2:mg "law" = some (.ref fa))
  {m4 j0:Option aB} {l1:Array (Option aA)} {n5 j2 i9 i8 h0 i7:aA}
  {c1 c7 d2:aB}
  {a8:Tok}
  {d4:Tok}
  {c6:Tok}
  {d8:Tok}
  {b3:Tok}
  {a6:Tok}
  {c9:Tok}
  {I:aB} {Y U:Tok} {a2:Nat} {Z:Array (Option aA)}
  (l9:PySem.W.nsIn K aU "law" = some (some (.ref k3)))
  (r0:K.lookup k3=some ⟨n5,m4,.func (PySem.W.fnOf "law" "law" (Zq jg) (Jm jg) (Q7 jg) .none j2 i9 i8 j0 h0 i7),l1⟩)
  (q8:PySem.W.codeIn K h0 "law" = true)
  (p8:PySem.W.keepIn K (.ref k3)=true)
  (k1:PySem.W.nsIn K aU "all" = some none)
  (i5:PySem.W.nsIn K aU "bool" = some none)
  (i4:PySem.W.nsIn K aU "dict" = some none)
  (e6:PySem.W.nsIn K aU "enumerate" = some none)
  (k5:PySem.W.nsIn K aU "int" = some none)
  (d3:PySem.W.nsIn K aU "isinstance" = some none)
  (k2:PySem.W.nsIn K aU "len" = some none)
  (i6:PySem.W.nsIn K aU "list" = some none)
  (k4:PySem.W.nsIn K aU "min" = some none)
  (i1:PySem.W.nsIn K aU "range" = some none)
  (f0:PySem.W.nsIn K aU "reversed" = some none)
  (k0:PySem.W.nsIn K aU "set" = some none)
  (g9:PySem.W.nsIn K aU "sorted" = some none)
  (k6:PySem.W.nsIn K aU "str" = some none)
  (i0:PySem.W.nsIn K aU "tuple" = some none)
  (a9:PySem.W.nsIn K aU "MOST_SIGNS_OF_WORD" = some (some (.int 8 a8)))
  (d5:PySem.W.nsIn K aU "MOST_STOCK" = some (some (.int 20 d4)))
  (c8:PySem.W.nsIn K aU "MOST_STARTS" = some (some (.int 4 c6)))
  (d7:PySem.W.nsIn K aU "MOST_RULES" = some (some (.int 60 d8)))
  (b4:PySem.W.nsIn K aU "MOST_USE_AT_ONCE" = some (some (.int 9 b3)))
  (a5:PySem.W.nsIn K aU "MOST_LETTERS_OF_RULE" = some (some (.int 8 a6)))
  (c4:PySem.W.nsIn K aU "MOST_STANDS" = some (some (.int 2000 c9)))
  (a3:PySem.W.nsIn K aU "EVENTS_WITHOUT_LETTER" = some (some (.ref I)))
  (a1:K.lookup I=some ⟨.type "tuple",none,.seq #[.str "go" Y,.str "fall" U] a2,Z⟩)
  (e9:PySem.W.nsIn K aU "NoManner" = some (some (.ref c1)))
  (g8:PySem.W.nsIn K aU "NoStand" = some (some (.ref c7)))
  (g6:PySem.W.nsIn K aU "TooMany" = some (some (.ref d2)))
  (h1:FA K "is_whole" qw f1)
  (h2:FA K "is_between" Uz f2)
  (h3:FA K "is_sized_tuple" W9 f3)
  (h4:FA K "is_word" ye f4)
  (h5:FA K "is_letter" Xp f5)
  (h6:FA K "are_letters_of_rule" Z2 f6)
  (h7:FA K "is_rule" yf f7)
  (h8:FA K "are_rules" Xs f8)
  (h9:FA K "are_starts" X0 f9)
  (p3:FA K "is_manner" Xn p5)
  (o7:FA K "need_manner" U7 p6)
  (s6:FA K "beginning" Xr o1)
  (q3:FA K "may_be_done" U8 t2)
  (r7:FA K "numbers_that_may" Y6 q6)
  (o5:FA K "stand_behind" Vp r8)
  (r2:FA K "run_to" Q15 q5)
  (o0:FA K "breaking_step" V5 t1)
  (q7:FA K "further_stands" Wa s2)
  (s5:FA K "walked" Q14 t3)
  (s7:FA K "tried" Q4e p4)
  (n9:FA K "does_rest" Xq o9)
  (r6:FA K "stands_ahead" Vn q1)
  (o3:FA K "steps_to_rest" V4 r3)
  (r4:FA K "rests" Q4f s9)
  (t0:FA K "_law_e_stirred" Wb r9)
  (o6:FA K "_law_e_digit" Vr p1)
  (o8:FA K "_law_e_name" Ub o4)
  (s8:FA K "_law_e_letter_name" Zg q0)
  (q4:FA K "_law_e_rule" U9 r1)
  (p0:FA K "_law_e_manner" V6 r5)
  (s3:FA K "_law_e_steps" Vq n8)
  (o2:FA K "_law_e_rest" Ua p7)
  (e8:PySem.W.excIn K c1 Q2k "ValueError.__new__" = true)
  (g4:PySem.W.excIn K c7 Q2k "ValueError.__new__" = true)
  (g7:PySem.W.excIn K d2 Q2k "ValueError.__new__" = true)
  (hL:noL K=true) :
  ∃ fd:aQ,(∀ (s:aC) (v:aA),BindsTo s fd ⟨[v],[]⟩ [("script",v)])/\∀ base:Heap,K.In base->base.Ns aU mg->FnOk l.prog w K mg base (CXD l.prog w) 11 fa fd ["script"] (Q49 K):=by
 have e:=q2.symm.trans (PySem.W.mg_of X G l9);cases e;have T:Txt K mg:=⟨PySem.W.mg_none_of X G k1,PySem.W.mg_none_of X G i5,PySem.W.mg_none_of X G i4,PySem.W.mg_none_of X G e6,PySem.W.mg_none_of X G k5,PySem.W.mg_none_of X G d3,PySem.W.mg_none_of X G k2,PySem.W.mg_none_of X G i6,PySem.W.mg_none_of X G k4,PySem.W.mg_none_of X G i1,PySem.W.mg_none_of X G f0,PySem.W.mg_none_of X G k0,PySem.W.mg_none_of X G g9,PySem.W.mg_none_of X G k6,PySem.W.mg_none_of X G i0,⟨_,PySem.W.mg_of X G a9⟩,⟨_,PySem.W.mg_of X G d5⟩,⟨_,PySem.W.mg_of X G c8⟩,⟨_,PySem.W.mg_of X G d7⟩,⟨_,PySem.W.mg_of X G b4⟩,⟨_,PySem.W.mg_of X G a5⟩,⟨_,PySem.W.mg_of X G c4⟩,⟨_,_,_,_,PySem.W.mg_of X G a3,a1,rfl,rfl,(by show 2<=sizeLine; decide),.cons ⟨_,rfl⟩ (.cons ⟨_,rfl⟩ (.nil))⟩⟩
 have e7:∃ C,mg "NoManner" = some (.ref C)/\PySem.W.excIn K C Q2k "ValueError.__new__" = true:=⟨_,PySem.W.mg_of X G e9,e8⟩;have g3:∃ C,mg "NoStand" = some (.ref C)/\PySem.W.excIn K C Q2k "ValueError.__new__" = true:=⟨_,PySem.W.mg_of X G g8,g4⟩;have g5:∃ C,mg "TooMany" = some (.ref C)/\PySem.W.excIn K C Q2k "ValueError.__new__" = true:=⟨_,PySem.W.mg_of X G g6,g7⟩;obtain ⟨_,A1⟩:=Zy ["thing"] X G h1;obtain ⟨_,A2⟩:=Zy ["thing", "least", "most"] X G h2;obtain ⟨_,A3⟩:=Zy ["thing", "least", "most"] X G h3;obtain ⟨_,A4⟩:=Zy ["thing"] X G h4;obtain ⟨_,A5⟩:=Zy ["n", "thing"] X G h5;obtain ⟨_,A6⟩:=Zy ["n", "thing"] X G h6;obtain ⟨_,A7⟩:=Zy ["n", "thing"] X G h7;obtain ⟨_,A8⟩:=Zy ["n", "thing"] X G h8;obtain ⟨_,A9⟩:=Zy ["thing"] X G h9;obtain ⟨_,l6⟩:=Zy ["thing"] X G p3;obtain ⟨_,l4⟩:=Zy ["manner"] X G o7;obtain ⟨_,l8⟩:=Zy ["manner"] X G s6
 obtain ⟨_,n7⟩:=Zy ["rule", "stand"] X G q3;obtain ⟨_,l3⟩:=Zy ["manner", "stand"] X G r7;obtain ⟨_,m3⟩:=Zy ["rule", "stand"] X G o5;obtain ⟨_,m8⟩:=Zy ["found", "stand"] X G r2;obtain ⟨_,m7⟩:=Zy ["manner", "stands"] X G o0;obtain ⟨_,n3⟩:=Zy ["manner", "found", "stands"] X G q7;obtain ⟨_,k8⟩:=Zy ["manner"] X G s5;obtain ⟨_,m9⟩:=Zy ["manner"] X G s7;obtain ⟨_,l7⟩:=Zy ["manner", "stand"] X G n9;obtain ⟨_,k9⟩:=Zy ["manner", "stands"] X G r6;obtain ⟨_,l2⟩:=Zy ["manner", "stands"] X G o3;obtain ⟨_,k7⟩:=Zy ["manner"] X G r4;obtain ⟨_,m2⟩:=Zy ["cell", "place"] X G t0;obtain ⟨_,n0⟩:=Zy ["tape", "many"] X G o6;obtain ⟨_,n2⟩:=Zy ["tape"] X G o8;obtain ⟨_,m6⟩:=Zy ["tape"] X G s8;obtain ⟨_,l5⟩:=Zy ["tape", "n", "states", "names"] X G q4;obtain ⟨_,m5⟩:=Zy ["tape"] X G p0;obtain ⟨_,n6⟩:=Zy ["manner"] X G s3;obtain ⟨_,l0⟩:=Zy ["manner"] X G o2;have p9:=Qs5 (st:=jg) (ps:=["script"]) X G l9 r0 q8 p8 fun _ _ _ _ _ _ us hl=>match us,hl with | [_],_=>rfl
 refine ⟨PySem.W.fnOf "law" "law" (Zq jg) (Jm jg) (Q7 jg) .none j2 i9 i8 j0 h0 i7,fun s v=>.of_eq rfl,fun base kb nb=>?_⟩;have g0:=A1.d l.prog w base rfl (Q6q A1.F T    );have a4:=A2.d l.prog w base rfl (Q2x A2.F T   g0 );have q:=A3.d l.prog w base rfl (jp A3.F T    );have b5:=A4.d l.prog w base rfl (Q8x A4.F T    );have e4:=A5.d l.prog w base rfl (Q4q A5.F T   q a4 b5 );have a7:=A6.d l.prog w base rfl (X5 A6.F T   q e4 );have g1:=A7.d l.prog w base rfl (Q8y A7.F T   q a4 b5 a7 );have e3:=A8.d l.prog w base rfl (Q4t A8.F T   q g1 );have d6:=A9.d l.prog w base rfl (Q2y A9.F T   q b5 );have e2:=l6.d l.prog w base rfl (Q4p l6.F T   q a4 d6 e3 )
 have b2:=l4.d l.prog w base rfl (Q1i l4.F T  e7 e2 );have e1:=l8.d l.prog w base rfl (Q4s l8.F T    );have d1:=n7.d l.prog w base rfl (Q1j n7.F T    );have z:=l3.d l.prog w base rfl (qg l3.F T   d1 );have O:=m3.d l.prog w base rfl (Q0c m3.F T    );have d9:=m8.d l.prog w base rfl (Qcr m8.F T    );have b8:=m7.d l.prog w base rfl (yk m7.F T   z );have b6:=n3.d l.prog w base rfl (jq n3.F T  g5 z O );have e0:=k8.d l.prog w base rfl (Qcq k8.F T   e1 b8 d9 b6 );have i3:=m9.d l.prog w base rfl (Qg2 m9.F T   b2 e0 );have e5:=l7.d l.prog w base rfl (Q4r l7.F T   z O );have c2:=k9.d l.prog w base rfl (Q0b k9.F T   z O )
 have b9:=l2.d l.prog w base rfl (yj l2.F T   c2 e5 );have i2:=k7.d l.prog w base rfl (Qg3 k7.F T  g3 b2 e0 b9 d9 );have b7:=m2.d l.prog w base rfl (jr m2.F T    );have J:=n0.d l.prog w base rfl (Q0e n0.F T   b7 );have b1:=n2.d l.prog w base rfl (Q1n n2.F T   J );have b0:=m6.d l.prog w base rfl (Xi m6.F T   b1 );have c5:=l5.d l.prog w base rfl (Q1k l5.F T   J );have c0:=m5.d l.prog w base rfl (ym m5.F T   J b1 b0 c5 );have c3:=n6.d l.prog w base rfl (Q0d n6.F T   i3 );have d0:=l0.d l.prog w base rfl (Q1m l0.F T   i2 );exact Qm4 hL (Qqu p9.F T   c0 c3 J d0 ) Qm5
end Lw
namespace PySem.W.Fast
local macro_rules|`(command|open $n*)=>return Lean.mkNullNode (<-n.mapM λn=>`(command|theorem $n:ident:True:=trivial))
open tw1359002456881379442 tw12976115919862779929 tw7140066246746101544 tw8611204820851877904 tw6045084765386213948 tw6853904458483488330 tw15243574792071102211 tw13038631588991639410 te1562198176003375021 te10294737165491991226 te13282820177619539899 te4129042118966550516 te9704878761895241003 te14262645989555703485 te11574985637139268012 te13244486525760812690 te1456074009721587814 te725000432404206103 te12118072530256738174 te16438452434918279279 te9361495478602240121 te8052411477651391410 te16545207397885249125 te6331325360274926636 te13801946151468651321 te3751855546201008567 te6495604685652736985 te15977105830457485495 te16217986729560627821 te6866107919324487928 te2470396065675662020 te16334692629017620705 te15004693820664096489 te10886980267839812007 te7210323076855301952 te17108459855329653914 te7096531917381397539 te8457279221536989845 te16959900626230387061 te1209651930396953720 te2468471083926014769 te9959705422913892213 te14584642796169235060 te11680562296416220165 te17628251037353002721 te7540698861841033781 te1444210459013499149 te10417457946828297348 te4855010518881507606 te226227506044370 te10543742458032232076 te7458595547683432497 te4234187005310415350 te17769863602390339051 te11371177846162266826 te656296178558223338 te1860054243097512681 te10859910802299076490 te12800416067342180536 te4753931633140368647 te12060709341571912680 te6577998080215278022 te6403268736229329869 te7057554707473680774 te11664873067978202796 te11258456672712045420 te13141532325908144152 te744303246463333048 te13242175642040813488 te5683811802706097790 te17357874088803336514 te6081724886782038364 te3558077311307508585 te18414307196084251527 te11617766424873139123 te12652967565738828995 te10257793631092587806 te16604845223911030802 te8744455760784105849 te3816573062599767375 te4050414519553300375 te1973160998376023948 te441765432159846717 te2507704140486653309 te13756226166340445963 te4469664036811822764 te8292917746373727123 te2092562152992070975 te8063968640228374262 te12475395158955139585 te16281678773919218300 te14325736592870948753 te9354354208411368620 te10796088428155063659 te13449944096807816726 te5602965969451509306 te16604256604283781100 te17117757447273121225 te11990486102757733897 te2944196069821328083 te3500969570394360112 te16334521517076965341 te9293848799738845560 te1969414398267830288 te12043224615791887128 te3133595440313177372 te8657699406560876123 te6340827644494852863 te9878776824139191965 te10107134886199002175 te12148685958055066034 te13026188035935806363 te3223085579406747453 te6368293380564508233 te1855174976217623266 te686285705704133774 te293440589311733648 te1657159987986759477 te9693229041768247481 te5067482183021785919 te10267770785272182241 te6173539568498434667 te483421167309393638 te11858818974168921283 te9983330082086513074 te3136775436421818670 te8275674314826242322 te4908786578111842957 te9268920338764476843 te9504733675469788033 te2245786913818108682 te10411636124110654706 te10549732649895153438 te10820424196803106422
end PySem.W.Fast
open PySem PySem.W PyProof.Rows Sm
set_option maxRecDepth 100000 in
set_option maxHeartbeats 0 in
theorem PySem.Challenge.cw_lendwharf_k67_whole_sent_again_and_falle_holds : PySem.Challenge.rw_lendwharf_k67_whole_sent_again_and_falle.Holds := by
 w_on; o_law; k_head; (case hw=>w_witness2)
 k_fill
 refine Sm.walkS (l:=PySem.Challenge.rw_lendwharf_k67_whole_sent_again_and_falle) (k:=11) rfl ⟨rfl,by decide,by decide⟩ rfl (fun w h Y=>PySem.W.kIn_of Y) ?F
 case F=>
  intro w mg fa h KX G hmg;refine' Lw.all_mk KX G hmg ..
  any_goals k_is
  any_goals exact FA.mk (by k_is) (by k_is) (by k_is) (by k_is)
  any_goals k_exc
  all_goals first | rfl | decide
